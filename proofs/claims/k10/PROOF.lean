import PyProof.Rows.All
import Wide.All
import OpenK.AllK
import Wide.FinOn
import HandS.ForMost
import HandS.IsInst
import HandS.Gcd
import HandS.Wide
import HandS.Style
import HandS.SortInts
import HandS.RevRange
import HandS.Conv
import HandS.Lambda
import HandS.Flow
import KE.GoesMore
import HandS.More
import HandS.OwnIter
import HandS.Iter
import KE.KDictZip
import PyProof.AssignAttr
import HandS.Nested
import HandS.EndTab
import KE.KNestM
import HandS.RepeatKit
import PyProof.TupleOfSeq
import PySem.Challenge.RW_fewestlines_k10_whole_flat_pieces
set_option Elab.async false
set_option linter.all false
set_option maxRecDepth 100000
set_option maxHeartbeats 4000000
namespace DL
open PySem L2

/-! ### data, and how a value holds it -/
inductive D where
  | non | bl (b : Bool) | int (i : Int) | str (x : Str)
  | lst (xs : List D) | tup (xs : List D) | scr (ns : List Int)
  | obj (c : Nat) (vs : List D) | fn (a c : Addr) (q : Str) (vs : List V) (ds : List D) | dic (ks : List Key) (xs : List D)

/-- the program's classes: names, fields in the order in which __init__ sets them -/
def cTab : List (Str × List Str) := [("Cutting", ["pieces", "reasons"]), ("Level", ["stored", "error", "pieces"]), ("Index", ["stored", "_levels"]), ("Fitter", ["error", "count", "_strip"]), ("Strip", ["_upper", "_lower", "_greatest"]), ("Run", ["entries", "_index"]), ("FlatCutting", ["pieces", "reasons"]), ("SpanCutting", ["pieces", "reasons"]), ("LeastSlope", ["_chain", "bound"]), ("Bundle", ["count", "_first", "_least", "_greatest"]), ("Stream", ["error", "length", "_closed", "_start", "_bundle"]), ("Plan", ["pieces", "reaches", "prices"]), ("Coded", ["pieces", "corrections"]), ("Outline", ["error", "length", "pieces"]), ("Row", ["errors", "_strip"]), ("Reaches", ["_points", "_rows"]), ("Store", ["capacity", "error", "moves", "edits", "_buffer", "_runs"]), ("Starts", ["_row", "_waiting", "_passed"]), ("InvalidPaper", ["line"]), ("Cursor", ["_pairs"]), ("View", ["edits", "_values"]), ("PlainStore", ["_values"]), ("Paper", ["_lines", "number"]), ("Durable", ["store", "base", "journal", "synced", "_serial"]), ("Boxes", ["_bits", "_points", "_index"])]
def cN (c : Nat) : Str := (cTab.getD c ("", [])).1
def cF (c : Nat) : List Str := (cTab.getD c ("", [])).2
theorem sqt_same {K : PySem.W.Frag} {H H' : Hp} {a : Addr} {xs : List V} (e : Same H H') (h : SqT K H a xs) : SqT K H' a xs := by
  rcases h with (h | ⟨o, h⟩) | h
  · exact .inl (.inl (e _ _ h))
  · exact .inl (.inr ⟨o, e _ _ h⟩)
  · exact .inr h
mutual
inductive Rep (K : PySem.W.Frag) (mg : Str → Option Value) (G : Hp) : V → D → Prop
  | non : Rep K mg G .non .non
  | bl (b : Bool) : Rep K mg G (.bl b) (.bl b)
  | int (i : Int) : Rep K mg G (.int i) (.int i)
  | str (x : Str) : Rep K mg G (.str x) (.str x)
  | lst {a : Addr} {vs : List V} {xs : List D} (h : G a = some (.lst vs)) (r : RepL K mg G vs xs) : Rep K mg G (.ref a) (.lst xs)
  | tup {a : Addr} {vs : List V} {xs : List D} (h : SqT K G a vs) (r : RepL K mg G vs xs) : Rep K mg G (.ref a) (.tup xs)
  | scr {a : Addr} {ns : List Int} (h : SqL K G a (ns.map V.int)) : Rep K mg G (.ref a) (.scr ns)
  | obj {a C dx : Addr} {c : Nat} {vs : List V} {ds : List D} (hm : mg (cN c) = some (.ref C)) (h : G a = some (.ins C dx ((cF c).zip vs))) (r : RepL K mg G vs ds) : Rep K mg G (.ref a) (.obj c ds)
  | fn {a c : Addr} {q : Str} {vs : List V} {ds : List D} (hc : G c = some (LamX.CodeO c q)) (r : RepL K mg G vs ds) : Rep K mg G (.ref a) (.fn a c q vs ds)
  | dic {a : Addr} {ks : List Key} {vs : List V} {xs : List D} (h : G a = some (.dK (ks.zip vs))) (l : ks.length = vs.length) (r : RepL K mg G vs xs) : Rep K mg G (.ref a) (.dic ks xs)
inductive RepL (K : PySem.W.Frag) (mg : Str → Option Value) (G : Hp) : List V → List D → Prop
  | nil : RepL K mg G [] []
  | cons {v : V} {vs : List V} {d : D} {ds : List D} (h : Rep K mg G v d) (r : RepL K mg G vs ds) : RepL K mg G (v :: vs) (d :: ds)
end

section
variable {K : PySem.W.Frag} {mg : Str → Option Value} {G G' : Hp}
mutual
theorem Rep.mono (e : Same G G') : ∀ {v : V} {d : D}, Rep K mg G v d → Rep K mg G' v d
  | _, _, .non => .non
  | _, _, .bl b => .bl b
  | _, _, .int i => .int i
  | _, _, .str x => .str x
  | _, _, .lst h r => .lst (e _ _ h) (RepL.mono e r)
  | _, _, .tup h r => .tup (sqt_same e h) (RepL.mono e r)
  | _, _, .scr h => .scr (e.seq h)
  | _, _, .obj hm h r => .obj hm (e _ _ h) (RepL.mono e r)
  | _, _, .fn hc r => .fn (e _ _ hc) (RepL.mono e r)
  | _, _, .dic h l r => .dic (e _ _ h) l (RepL.mono e r)
theorem RepL.mono (e : Same G G') : ∀ {v : List V} {d : List D}, RepL K mg G v d → RepL K mg G' v d
  | _, _, .nil => .nil
  | _, _, .cons h r => .cons (Rep.mono e h) (RepL.mono e r)
end
theorem RepL.length : ∀ {vs : List V} {ds : List D}, RepL K mg G vs ds → vs.length = ds.length
  | _, _, .nil => rfl
  | _, _, .cons _ r => by simp [RepL.length r]
theorem RepL.get : ∀ {vs : List V} {ds : List D} (i : Nat) {d : D}, RepL K mg G vs ds → ds[i]? = some d → ∃ v, vs[i]? = some v ∧ Rep K mg G v d
  | _, _, _, _, .nil, h => by simp at h
  | _, _, 0, _, .cons h _, e => by simp at e; subst e; exact ⟨_, rfl, h⟩
  | _, _, i + 1, _, .cons _ r, e => by
    obtain ⟨v, h1, h2⟩ := RepL.get i r (by simpa using e)
    exact ⟨v, by simpa using h1, h2⟩
theorem RepL.append : ∀ {vs ws : List V} {ds es : List D}, RepL K mg G vs ds → RepL K mg G ws es → RepL K mg G (vs ++ ws) (ds ++ es)
  | _, _, _, _, .nil, s => s
  | _, _, _, _, .cons h r, s => .cons h (r.append s)
theorem RepL.take : ∀ (n : Nat) {vs : List V} {ds : List D}, RepL K mg G vs ds → RepL K mg G (vs.take n) (ds.take n)
  | 0, _, _, _ => by simp; exact .nil
  | _ + 1, _, _, .nil => .nil
  | n + 1, _, _, .cons h r => .cons h (r.take n)
theorem RepL.drop : ∀ (n : Nat) {vs : List V} {ds : List D}, RepL K mg G vs ds → RepL K mg G (vs.drop n) (ds.drop n)
  | 0, _, _, r => r
  | _ + 1, _, _, .nil => .nil
  | n + 1, _, _, .cons _ r => r.drop n
theorem RepL.set : ∀ (i : Nat) {vs : List V} {ds : List D} {v : V} {d : D}, RepL K mg G vs ds → Rep K mg G v d → RepL K mg G (vs.set i v) (ds.set i d)
  | _, _, _, _, _, .nil, _ => .nil
  | 0, _, _, _, _, .cons _ r, h => .cons h r
  | i + 1, _, _, _, _, .cons h r, q => .cons h (r.set i q)
theorem RepL.reverse : ∀ {vs : List V} {ds : List D}, RepL K mg G vs ds → RepL K mg G vs.reverse ds.reverse
  | _, _, .nil => .nil
  | _, _, .cons h r => by
    rw [List.reverse_cons, List.reverse_cons]
    exact r.reverse.append (.cons h .nil)
theorem RepL.ints : ∀ {ns : List Int} {vs : List V}, RepL K mg G vs (ns.map D.int) → vs = ns.map V.int
  | [], _, r => by cases r; rfl
  | n :: ns, _, r => by
    cases r with
    | cons h r => cases h; rw [RepL.ints r]; rfl
theorem RepL.ofInts : ∀ {ns : List Int}, RepL K mg G (ns.map V.int) (ns.map D.int)
  | [] => .nil
  | n :: ns => .cons (.int n) RepL.ofInts
theorem RepL.bls : ∀ {ns : List Bool} {vs : List V}, RepL K mg G vs (ns.map D.bl) → vs = ns.map V.bl
  | [], _, r => by cases r; rfl
  | n :: ns, _, r => by
    cases r with
    | cons h r => cases h; rw [RepL.bls r]; rfl
end

/-! what is looked at: a datum, or a list or an object of somebody's own -/
/-- no table of code objects -/
def NT (o : HO) : Prop := ∀ ps, o ≠ .tbl ps
def SameN (H H' : Hp) : Prop := ∀ a o, H a = some o → NT o → H' a = some o
theorem same_n {H H' : Hp} (e : Same H H') : SameN H H' := fun a o q _ => e a o q
theorem SameN.trans {H H1 H2 : Hp} (a : SameN H H1) (b : SameN H1 H2) : SameN H H2 := fun x o q n => b x o (a x o q n) n
mutual
inductive RepB (K : PySem.W.Frag) (mg : Str → Option Value) (G H : Hp) : V → D → Prop
  | sh {v : V} {d : D} (h : Rep K mg G v d) : RepB K mg G H v d
  | li {p : Addr} {vs : List V} {xs : List D} (h : H p = some (.lst vs)) (r : RepL K mg G vs xs) : RepB K mg G H (.ref p) (.lst xs)
  | obj {p C dx : Addr} {c : Nat} {vs : List V} {ds : List D} (hm : mg (cN c) = some (.ref C)) (h : H p = some (.ins C dx ((cF c).zip vs))) (r : RepBL K mg G H vs ds) : RepB K mg G H (.ref p) (.obj c ds)
  | dic {p : Addr} {ks : List Key} {vs : List V} {xs : List D} (h : H p = some (.dK (ks.zip vs))) (l : ks.length = vs.length) (r : RepL K mg G vs xs) : RepB K mg G H (.ref p) (.dic ks xs)
inductive RepBL (K : PySem.W.Frag) (mg : Str → Option Value) (G H : Hp) : List V → List D → Prop
  | nil : RepBL K mg G H [] []
  | cons {v : V} {vs : List V} {d : D} {ds : List D} (h : RepB K mg G H v d) (r : RepBL K mg G H vs ds) : RepBL K mg G H (v :: vs) (d :: ds)
end
section
variable {K : PySem.W.Frag} {mg : Str → Option Value} {G G' H H' : Hp}
mutual
theorem RepB.mono (g : Same G G') (k : SameN H H') : ∀ {v : V} {d : D}, RepB K mg G H v d → RepB K mg G' H' v d
  | _, _, .sh h => .sh (h.mono g)
  | _, _, .li h r => .li (k _ _ h nofun) (r.mono g)
  | _, _, .obj hm h r => .obj hm (k _ _ h nofun) (RepBL.mono g k r)
  | _, _, .dic h l r => .dic (k _ _ h nofun) l (r.mono g)
theorem RepBL.mono (g : Same G G') (k : SameN H H') : ∀ {v : List V} {d : List D}, RepBL K mg G H v d → RepBL K mg G' H' v d
  | _, _, .nil => .nil
  | _, _, .cons h r => .cons (RepB.mono g k h) (RepBL.mono g k r)
end
theorem RepBL.length : ∀ {vs : List V} {ds : List D}, RepBL K mg G H vs ds → vs.length = ds.length
  | _, _, .nil => rfl
  | _, _, .cons _ r => by simp [RepBL.length r]
theorem RepBL.get : ∀ {vs : List V} {ds : List D} (i : Nat) {d : D}, RepBL K mg G H vs ds → ds[i]? = some d → ∃ v, vs[i]? = some v ∧ RepB K mg G H v d
  | _, _, _, _, .nil, h => by simp at h
  | _, _, 0, _, .cons h _, e => by simp at e; subst e; exact ⟨_, rfl, h⟩
  | _, _, i + 1, _, .cons _ r, e => by
    obtain ⟨v, h1, h2⟩ := RepBL.get i r (by simpa using e)
    exact ⟨v, by simpa using h1, h2⟩
theorem RepL.bo : ∀ {vs : List V} {ds : List D}, RepL K mg G vs ds → RepBL K mg G H vs ds
  | _, _, .nil => .nil
  | _, _, .cons h r => .cons (.sh h) r.bo
end

theorem nn {H H' : Hp} (e : Same H H') {a : Addr} (h : H a ≠ Option.none) : H' a ≠ Option.none := by
  cases q : H a with
  | none => exact absurd q h
  | some o => rw [e a o q]; simp
theorem same_at {H H' : Hp} (e : Same H H') {a : Addr} (h : H a ≠ Option.none) : H' a = H a := by
  cases q : H a with
  | none => exact absurd q h
  | some o => rw [e a o q]
/-- a list, an instance, a dict -/
def LID (o : HO) : Prop := (∃ vs, o = .lst vs) ∨ (∃ C dx fs, o = .ins C dx fs) ∨ ∃ kvs, o = .dK kvs
/-- what is known of tables: it outlasts all that leaves them as they are -/
structure TabI where
  tz : Addr → Prop
  t : Hp → Hp → Prop
  keep : ∀ {G H G' H' : Hp}, t G H → Same G G' → (∀ a, tz a → H' a = H a) → (∀ a, tz a → G a = Option.none → G' a = Option.none) → t G' H'
  live : ∀ {G H : Hp}, t G H → ∀ a, tz a → H a ≠ Option.none ∧ G a = Option.none
  tbl : ∀ {G H : Hp}, t G H → ∀ a, tz a → ∃ ps, H a = some (.tbl ps)
  less : ∀ {G G' H : Hp}, t G H → (∀ a o, G' a = some o → G a = some o) → (∀ a o, G a = some o → G' a = some o ∨ LID o) → t G' H
def TabI.none : TabI := ⟨fun _ => False, fun _ _ => True, fun _ _ _ _ => trivial, fun _ _ h => h.elim, fun _ _ h => h.elim, fun _ _ _ => trivial⟩
/-- the tables that a program is about -/
class TabCtx where
  ti : TabI
instance (priority := low) TabCtx.none : TabCtx := ⟨TabI.none⟩
variable [TC : TabCtx]
/-! ### how heaps grow: G what is known and stays, H all that is tracked -/
structure Ext [TC : TabCtx] (G H G' H' : Hp) : Prop where
  gg : Same G G'
  hh : SameN H H'
  gh : Same G' H'
  new : ∀ a, G' a ≠ none → G a ≠ none ∨ H a = none
  hn : ∀ a, H a ≠ none → H' a ≠ none
  tb : TC.ti.t G H → TC.ti.t G' H'
theorem Ext.hf {G H G' H' : Hp} (e : Ext G H G' H') {a : Addr} (h : H' a = none) : H a = none := by
  cases q : H a with
  | none => rfl
  | some o => exact absurd h (e.hn a (by rw [q]; simp))
theorem Ext.same {G H G' H' : Hp} (gg : Same G G') (hh : Same H H') (gh : Same G' H') (new : ∀ a, G' a ≠ none → G a ≠ none ∨ H a = none) : Ext G H G' H' :=
  ⟨gg, same_n hh, gh, new, fun _ h => nn hh h, fun t => TC.ti.keep t gg (fun a h => same_at hh (TC.ti.live t a h).1) (fun a h g => by
    cases q : G' a with
    | none => rfl
    | some u =>
      rcases new a (by rw [q]; simp) with z | z
      · exact absurd g z
      · exact absurd z (TC.ti.live t a h).1)⟩
theorem Ext.refl {G H : Hp} (h : Same G H) : Ext G H G H := Ext.same (Same.refl _) (Same.refl _) h fun _ h => .inl h
theorem Ext.trans {G H G1 H1 G2 H2 : Hp} (a : Ext G H G1 H1) (b : Ext G1 H1 G2 H2) : Ext G H G2 H2 :=
  ⟨a.gg.trans b.gg, a.hh.trans b.hh, b.gh, fun x h => by
    rcases b.new x h with h | h
    · exact a.new x h
    · exact .inr (a.hf h), fun x h => b.hn x (a.hn x h), fun t => b.tb (a.tb t)⟩
theorem same_upd {H : Hp} {p : Addr} {o : HO} (h : H p = none) : Same H (upd H p o) := fun b x e => by
  rw [upd_ne (ne_of_none e h)]
  exact e
theorem same_upd2 {G H : Hp} {p : Addr} {o : HO} (e : Same G H) : Same (upd G p o) (upd H p o) := fun b x h => by
  by_cases q : b = p
  · subst q; rw [upd_same] at h ⊢; exact h
  · rw [upd_ne q] at h ⊢; exact e _ _ h
/-- a new object, known from now on -/
theorem Ext.new1 {G H : Hp} {p : Addr} {o : HO} (gh : Same G H) (h : H p = none) : Ext G H (upd G p o) (upd H p o) :=
  Ext.same (same_upd (gh.free h)) (same_upd h) (same_upd2 gh) fun a q => by
    by_cases e : a = p
    · subst e; exact .inr h
    · rw [upd_ne e] at q; exact .inl q
/-- a new object that is kept for oneself -/
theorem Ext.own1 {G H : Hp} {p : Addr} {o : HO} (gh : Same G H) (h : H p = none) : Ext G H G (upd H p o) :=
  Ext.same (Same.refl _) (same_upd h) (fun a x q => by rw [upd_ne (ne_of_none (gh a x q) h)]; exact gh a x q) fun a q => .inl q

/-- a new object of one's own is given away -/
theorem Ext.frz1 {G H G1 H1 : Hp} {p : Addr} {o : HO} (x : Ext G H G1 H1) (hp : H p = none) (gp : G1 p = none) (h : H1 p = some o) : Ext G H (upd G1 p o) H1 :=
  ⟨x.gg.trans (same_upd gp), x.hh, fun a u q => by
    by_cases z : a = p
    · subst z; rw [upd_same] at q; cases q; exact h
    · rw [upd_ne z] at q; exact x.gh _ _ q, fun a q => by
    by_cases z : a = p
    · subst z; exact .inr hp
    · rw [upd_ne z] at q; exact x.new a q, x.hn, fun t => TC.ti.keep (x.tb t) (same_upd gp) (fun _ _ => rfl) (fun a h g => by
      rw [upd_ne (fun z => (TC.ti.live t a h).1 (by rw [z]; exact hp))]
      exact g)⟩

/-! ### slots -/
inductive Sl where
  | no | sh (d : D) | ow (xs : List D) | dk (ks : List Key) (xs : List D) | ob (c : Nat) (fs : List Sl) | bo (d : D) | ol (ss : List Sl)
/-- a slot that may be written at its places -/
def SlP (s : Sl) : Prop := s ≠ .no ∧ ∀ d, s ≠ .bo d
abbrev DEnv := List Sl

/-! a value that holds what a slot says; F: the objects that are one's own in it (or some more) -/
mutual
inductive Hd (K : PySem.W.Frag) (mg : Str → Option Value) (G H : Hp) : V → (Addr → Prop) → Sl → Prop
  | sh {v : V} {d : D} {F : Addr → Prop} (h : Rep K mg G v d) : Hd K mg G H v F (.sh d)
  | ow {p : Addr} {vs : List V} {xs : List D} {F : Addr → Prop} (f : F p) (h : H p = some (.lst vs)) (r : RepL K mg G vs xs) : Hd K mg G H (.ref p) F (.ow xs)
  | dk {p : Addr} {ks : List Key} {vs : List V} {xs : List D} {F : Addr → Prop} (f : F p) (h : H p = some (.dK (ks.zip vs))) (l : ks.length = vs.length) (r : RepL K mg G vs xs) : Hd K mg G H (.ref p) F (.dk ks xs)
  | ob {p C dx : Addr} {c : Nat} {vs : List V} {fs : List Sl} {F F' : Addr → Prop} (f : F p) (hm : mg (cN c) = some (.ref C)) (h : H p = some (.ins C dx ((cF c).zip vs))) (n : ¬ F' p) (s : ∀ a, F' a → F a) (r : HdL K mg G H vs F' fs) : Hd K mg G H (.ref p) F (.ob c fs)
  | ol {p : Addr} {vs : List V} {ss : List Sl} {F F' : Addr → Prop} (f : F p) (h : H p = some (.lst vs)) (n : ¬ F' p) (s : ∀ a, F' a → F a) (r : HdL K mg G H vs F' ss) : Hd K mg G H (.ref p) F (.ol ss)
inductive HdL (K : PySem.W.Frag) (mg : Str → Option Value) (G H : Hp) : List V → (Addr → Prop) → List Sl → Prop
  | nil {F : Addr → Prop} : HdL K mg G H [] F []
  | cons {v : V} {vs : List V} {s : Sl} {ss : List Sl} {F F1 F2 : Addr → Prop} (h : Hd K mg G H v F1 s) (r : HdL K mg G H vs F2 ss) (s1 : ∀ a, F1 a → F a) (s2 : ∀ a, F2 a → F a) (d : ∀ a, F1 a → ¬ F2 a) : HdL K mg G H (v :: vs) F (s :: ss)
end
section
variable {K : PySem.W.Frag} {mg : Str → Option Value} {G G' H H' : Hp}
mutual
theorem Hd.mono (g : Same G G') : ∀ {v : V} {F : Addr → Prop} {s : Sl}, (∀ a o, F a → H a = some o → NT o → H' a = some o) → Hd K mg G H v F s → Hd K mg G' H' v F s
  | _, _, _, _, .sh h => .sh (h.mono g)
  | _, _, _, e, .ow f h r => .ow f (e _ _ f h nofun) (r.mono g)
  | _, _, _, e, .dk f h l r => .dk f (e _ _ f h nofun) l (r.mono g)
  | _, _, _, e, .ob f hm h n s r => .ob f hm (e _ _ f h nofun) n s (HdL.mono g (fun a o fa => e a o (s a fa)) r)
  | _, _, _, e, .ol f h n s r => .ol f (e _ _ f h nofun) n s (HdL.mono g (fun a o fa => e a o (s a fa)) r)
theorem HdL.mono (g : Same G G') : ∀ {v : List V} {F : Addr → Prop} {s : List Sl}, (∀ a o, F a → H a = some o → NT o → H' a = some o) → HdL K mg G H v F s → HdL K mg G' H' v F s
  | _, _, _, _, .nil => .nil
  | _, _, _, e, .cons h r s1 s2 d => .cons (Hd.mono g (fun a o fa => e a o (s1 a fa)) h) (HdL.mono g (fun a o fa => e a o (s2 a fa)) r) s1 s2 d
end
theorem Hd.wide {v : V} {F F' : Addr → Prop} {s : Sl} (w : ∀ a, F a → F' a) (h : Hd K mg G H v F s) : Hd K mg G H v F' s := by
  cases h with
  | sh h => exact .sh h
  | ow f h r => exact .ow (w _ f) h r
  | dk f h l r => exact .dk (w _ f) h l r
  | ob f hm h n s r => exact .ob (w _ f) hm h n (fun a x => w a (s a x)) r
  | ol f h n s r => exact .ol (w _ f) h n (fun a x => w a (s a x)) r
theorem HdL.wide {vs : List V} {F F' : Addr → Prop} {ss : List Sl} (w : ∀ a, F a → F' a) (h : HdL K mg G H vs F ss) : HdL K mg G H vs F' ss := by
  cases h with
  | nil => exact .nil
  | cons h r s1 s2 d => exact .cons h r (fun a x => w a (s1 a x)) (fun a x => w a (s2 a x)) d
theorem HdL.wide2 {vs : List V} {F F' : Addr → Prop} {ss : List Sl} (w : ∀ a, F a → F' a) (h : HdL K mg G H vs F ss) : HdL K mg G H vs F' ss := h.wide w
theorem Hd.mono2 {v : V} {F F' : Addr → Prop} {s : Sl} (g : Same G G') (k : ∀ a o, F a → H a = some o → NT o → H' a = some o) (w : ∀ a, F a → F' a) (h : Hd K mg G H v F s) : Hd K mg G' H' v F' s := (h.mono g k).wide w
theorem HdL.length : ∀ {vs : List V} {F : Addr → Prop} {ss : List Sl}, HdL K mg G H vs F ss → vs.length = ss.length
  | _, _, _, .nil => rfl
  | _, _, _, .cons _ r _ _ _ => by simp [HdL.length r]
end

def SlOk (K : PySem.W.Frag) (mg : Str → Option Value) (H0 G H : Hp) (F : Addr → Prop) (o : Option (Option V)) (s : Sl) : Prop := s = .no ∨ (∃ v, o = some (some v) ∧ Hd K mg G H v F s) ∨ ∃ v d, s = .bo d ∧ o = some (some v) ∧ RepB K mg G H0 v d

def isOwn : Sl → Bool
  | .ow _ => true
  | .dk _ _ => true
  | .ob _ _ => true
  | .ol _ => true
  | _ => false
/-- what belongs to others; the value that the first slot keeps as long as it is one's own -/
structure Zs where
  z : Addr → Prop
  a : Option V
  t : TabI
structure Rel [TC : TabCtx] (K : PySem.W.Frag) (mg : Str → Option Value) (G0 H0 : Hp) (Z : Zs) (Γ : DEnv) (σ : St) (G H : Hp) : Prop where
  len : σ.length = Γ.length
  gh : Same G H
  hh : SameN H0 H
  gg : Same G0 G
  new : ∀ a, G a ≠ none → G0 a ≠ none ∨ H0 a = none
  zz : ∀ a, Z.z a → H a ≠ none
  an : ∀ v s, Z.a = some v → Γ[0]? = some s → isOwn s = true → σ[0]? = some (some v)
  tb : Z.t.t G H
  tz : ∀ a, Z.t.tz a → Z.z a
  tc : Z.t = TC.ti
  hn : ∀ a, H0 a ≠ Option.none → H a ≠ Option.none
  own : ∃ own : Nat → Addr → Prop, (∀ i a, own i a → G a = none ∧ H0 a = none ∧ H a ≠ none ∧ ¬ Z.z a) ∧ (∀ i j a, own i a → own j a → i = j) ∧ ∀ (i : Nat) s, Γ[i]? = some s → SlOk K mg H0 G H (own i) (σ[i]?) s

section
variable {K : PySem.W.Frag} {mg : Str → Option Value} {G0 H0 G H G' H' : Hp} {Z : Zs} {Γ : DEnv} {σ : St}
theorem Ext.none {a : Addr} (e : Ext G H G' H') (h1 : G a = Option.none) (h2 : H a ≠ Option.none) : G' a = Option.none := by
  cases q : G' a with
  | none => rfl
  | some u =>
    rcases e.new a (by rw [q]; simp) with z | z
    · exact absurd h1 z
    · exact absurd z h2
theorem SlOk.ext {F : Addr → Prop} {o : Option (Option V)} {s : Sl} (e : Ext G H G' H') (h : SlOk K mg H0 G H F o s) : SlOk K mg H0 G' H' F o s := by
  rcases h with h | ⟨v, h1, h2⟩ | ⟨v, d, h0, h1, h2⟩
  · exact .inl h
  · exact .inr (.inl ⟨v, h1, h2.mono e.gg fun a o _ q n => e.hh a o q n⟩)
  · exact .inr (.inr ⟨v, d, h0, h1, h2.mono e.gg (same_n (Same.refl _))⟩)
theorem Rel.hf (r : Rel K mg G0 H0 Z Γ σ G H) {a : Addr} (h : H a = Option.none) : H0 a = Option.none := by
  cases q : H0 a with
  | none => rfl
  | some o => exact absurd h (r.hn a (by rw [q]; simp))
theorem Rel.tbx (r : Rel K mg G0 H0 Z Γ σ G H) (e : TC.ti.t G H → TC.ti.t G' H') : Z.t.t G' H' := by
  rw [r.tc]
  exact e (by rw [← r.tc]; exact r.tb)
theorem Rel.tbc (r : Rel K mg G0 H0 Z Γ σ G H) : TC.ti.t G H := by rw [← r.tc]; exact r.tb
theorem Rel.ext (r : Rel K mg G0 H0 Z Γ σ G H) (e : Ext G H G' H') : Rel K mg G0 H0 Z Γ σ G' H' := by
  obtain ⟨own, o1, o2, o3⟩ := r.own
  exact ⟨r.len, e.gh, r.hh.trans e.hh, r.gg.trans e.gg, fun a q => by
    rcases e.new a q with z | z
    · exact r.new a z
    · exact .inr (r.hf z), fun a z => e.hn _ (r.zz a z), r.an, r.tbx e.tb, r.tz, r.tc, fun a h => e.hn a (r.hn a h), own, fun i a h => by
      obtain ⟨h1, h2, h3, h4⟩ := o1 i a h
      exact ⟨e.none h1 h3, h2, e.hn _ h3, h4⟩, o2, fun i s h => (o3 i s h).ext e⟩
theorem set_get {α : Type} {l : List α} {i j : Nat} {x y : α} (h : (l.set i x)[j]? = some y) : (i = j ∧ i < l.length ∧ y = x) ∨ (i ≠ j ∧ l[j]? = some y) := by
  by_cases e : i = j
  · subst e
    rw [List.getElem?_set] at h
    by_cases z : i < l.length
    · simp [z] at h; exact .inl ⟨rfl, z, h.symm⟩
    · simp [z] at h
  · rw [List.getElem?_set_ne e] at h
    exact .inr ⟨e, h⟩
/-- a slot gets something that was made anew -/
theorem Rel.setNew (r : Rel K mg G0 H0 Z Γ σ G H) (e : Ext G H G' H') (i : Nat) {v : V} {s : Sl} {F : Addr → Prop} (h : Hd K mg G' H' v F s) (hF : ∀ a, F a → G' a = none ∧ H a = none ∧ H' a ≠ none) (hi : i ≠ 0 ∨ isOwn s = false) : Rel K mg G0 H0 Z (Γ.set i s) (σ.set i (some v)) G' H' := by
  obtain ⟨own, o1, o2, o3⟩ := r.own
  have r' := r.ext e
  refine ⟨by simpa using r.len, r'.gh, r'.hh, r'.gg, r'.new, r'.zz, fun w s' e1 e2 e3 => ?_, r'.tb, r'.tz, r'.tc, r'.hn, fun j a => if j = i then F a else own j a, fun j a q => ?_, fun j k a q1 q2 => ?_, fun j s' q => ?_⟩
  · rcases set_get e2 with ⟨ei, hl, rfl⟩ | ⟨ei, q⟩
    · rcases hi with h | h
      · exact absurd ei h
      · rw [h] at e3; cases e3
    · rw [List.getElem?_set_ne ei]
      exact r.an w s' e1 q e3
  · by_cases ei : j = i
    · simp only [ei, if_true] at q
      obtain ⟨h1, h2, h3⟩ := hF a q
      exact ⟨h1, r.hf h2, h3, fun z => r.zz a z h2⟩
    · simp only [ei, if_false] at q
      obtain ⟨h1, h2, h3, h4⟩ := o1 j a q
      exact ⟨e.none h1 h3, h2, e.hn _ h3, h4⟩
  · by_cases e1 : j = i
    · by_cases e2 : k = i
      · rw [e1, e2]
      · simp only [e1, e2, if_true, if_false] at q1 q2
        exact absurd (hF a q1).2.1 (o1 k a q2).2.2.1
    · by_cases e2 : k = i
      · simp only [e1, e2, if_true, if_false] at q1 q2
        exact absurd (hF a q2).2.1 (o1 j a q1).2.2.1
      · simp only [e1, e2, if_false] at q1 q2
        exact o2 j k a q1 q2
  · rcases set_get q with ⟨ei, hl, rfl⟩ | ⟨ei, q⟩
    · subst ei
      refine .inr (.inl ⟨v, by simp [List.getElem?_set, r.len, hl], ?_⟩)
      simp only [if_true]
      exact h
    · rw [List.getElem?_set_ne ei]
      simp only [Ne.symm ei, if_false]
      exact (o3 j s' q).ext e
/-- a slot gets a datum -/
theorem Rel.set (r : Rel K mg G0 H0 Z Γ σ G H) (i : Nat) {v : V} {d : D} (h : Rep K mg G v d) : Rel K mg G0 H0 Z (Γ.set i (.sh d)) (σ.set i (some v)) G H :=
  r.setNew (Ext.refl r.gh) i (F := fun _ => False) (.sh h) (fun _ z => z.elim) (.inr rfl)
/-- slots forgotten -/
theorem Rel.drop (r : Rel K mg G0 H0 Z Γ σ G H) (i : Nat) : Rel K mg G0 H0 Z (Γ.set i .no) (σ.set i none) G H := by
  obtain ⟨own, o1, o2, o3⟩ := r.own
  refine ⟨by simpa using r.len, r.gh, r.hh, r.gg, r.new, r.zz, fun w s' e1 e2 e3 => ?_, r.tb, r.tz, r.tc, r.hn, own, o1, o2, fun j s q => ?_⟩
  · rcases set_get e2 with ⟨ei, hl, rfl⟩ | ⟨ei, q⟩
    · cases e3
    · rw [List.getElem?_set_ne ei]
      exact r.an w s' e1 q e3
  rcases set_get q with ⟨ei, hl, rfl⟩ | ⟨ei, q⟩
  · exact .inl rfl
  · rw [List.getElem?_set_ne ei]
    exact o3 j s q
def wipeE (Γ : DEnv) : List Nat → DEnv
  | [] => Γ
  | v :: vs => (wipeE Γ vs).set v .no
theorem Rel.wipe (r : Rel K mg G0 H0 Z Γ σ G H) : ∀ vs : List Nat, Rel K mg G0 H0 Z (wipeE Γ vs) (L2.wipe σ vs) G H
  | [] => r
  | v :: vs => (r.wipe vs).drop v
/-- an object of somebody else is written -/
theorem Rel.aside (r : Rel K mg G0 H0 Z Γ σ G H) {p : Addr} {o : HO} (hz : Z.z p) (ht : ¬ Z.t.tz p) (hg : G p = none) (h0 : H0 p = none) : Rel K mg G0 H0 Z Γ σ G (upd H p o) := by
  obtain ⟨own, o1, o2, o3⟩ := r.own
  have up : ∀ a, H a ≠ Option.none → upd H p o a ≠ Option.none := fun a q => by
    by_cases e : a = p
    · subst e; rw [upd_same]; simp
    · rw [upd_ne e]; exact q
  refine ⟨r.len, fun a u q => ?_, fun a u q n => ?_, r.gg, r.new, fun a z => up a (r.zz a z), r.an, Z.t.keep r.tb (Same.refl _) (fun a h => upd_ne (fun e => ht (by rw [← e]; exact h))) (fun _ _ g => g), r.tz, r.tc, fun a h => up a (r.hn a h), own, fun i a q => ?_, o2, fun j s q => ?_⟩
  · rw [upd_ne (ne_of_none q hg)]; exact r.gh _ _ q
  · rw [upd_ne (ne_of_none q h0)]; exact r.hh _ _ q n
  · obtain ⟨h1, h2, h3, h4⟩ := o1 i a q
    exact ⟨h1, h2, up a h3, h4⟩
  · rcases o3 j s q with h | ⟨v, h1, h2⟩ | h
    · exact .inl h
    · refine .inr (.inl ⟨v, h1, h2.mono (Same.refl _) fun a u fa q _ => ?_⟩)
      rw [upd_ne]
      · exact q
      · intro e; subst e; exact (o1 j a fa).2.2.2 hz
    · exact .inr (.inr h)
/-- an object that is new becomes somebody else's -/
theorem Rel.zput (r : Rel K mg G0 H0 Z Γ σ G H) {p : Addr} {o : HO} (hp : H p = none) : Rel K mg G0 H0 ⟨fun a => Z.z a ∨ a = p, Z.a, Z.t⟩ Γ σ G (upd H p o) := by
  obtain ⟨own, o1, o2, o3⟩ := r.own
  have x := Ext.own1 (o := o) r.gh hp
  have r' := r.ext x
  refine ⟨r'.len, r'.gh, r'.hh, r'.gg, r'.new, fun a z => ?_, r.an, r'.tb, fun a h => .inl (r.tz a h), r.tc, r'.hn, own, fun i a q => ?_, o2, fun j s q => (o3 j s q).ext x⟩
  · rcases z with z | z
    · exact r'.zz a z
    · subst z; rw [upd_same]; simp
  · obtain ⟨h1, h2, h3, h4⟩ := o1 i a q
    exact ⟨h1, h2, x.hn _ h3, fun z => by
      rcases z with z | z
      · exact h4 z
      · subst z; exact h3 hp⟩
/-! ### places: a slot, or a field of a field .. of it (the last field first) -/
abbrev Pth := List (Nat × Nat)
def getR : Pth → Sl → Option Sl
  | [], s => some s
  | (c, j) :: r, s => match getR r s with
    | some (.ob c' fs) => if c' = c then fs[j]? else none
    | some (.ol ss) => if c = 1000 then ss[j]? else none
    | _ => none
def setR : Pth → Sl → Sl → Option Sl
  | [], s', _ => some s'
  | (c, j) :: r, s', s => match getR r s with
    | some (.ob c' fs) => if c' = c ∧ j < fs.length then setR r (.ob c (fs.set j s')) s else none
    | some (.ol ss) => if c = 1000 ∧ j < ss.length then setR r (.ol (ss.set j s')) s else none
    | _ => none
/-- a field's part, and what a change of it makes -/
theorem HdL.upd : ∀ {vs : List V} {F : Addr → Prop} {ss : List Sl} (j : Nat) {s : Sl}, HdL K mg G H vs F ss → ss[j]? = some s → ∃ v F1, vs[j]? = some v ∧ Hd K mg G H v F1 s ∧ (∀ a, F1 a → F a) ∧
    ∀ (G' H' : Hp) (F1' : Addr → Prop) (s' : Sl), Same G G' → (∀ a o, F a → ¬ F1 a → H a = some o → NT o → H' a = some o) → Hd K mg G' H' v F1' s' → (∀ a, F1' a → F1 a ∨ ¬ F a) → HdL K mg G' H' vs (fun a => (F a ∧ ¬ F1 a) ∨ F1' a) (ss.set j s')
  | _, _, _, _, _, .nil, h => by simp at h
  | _, _, _, 0, _, .cons (v := v) (vs := vs) (ss := ss) (F := F) (F1 := F1) (F2 := F2) h r s1 s2 d, e => by
    simp at e; subst e
    refine ⟨v, F1, rfl, h, s1, fun G' H' F1' s' sg k h' nf => ?_⟩
    refine .cons (F1 := F1') (F2 := fun a => F2 a ∧ ¬ F1' a) h' (HdL.wide2 (fun a x => ⟨x, fun y => ?_⟩) (HdL.mono sg (fun a o fa q n => k a o (s2 a fa) (fun y => d a y fa) q n) r)) (fun a x => .inr x) (fun a x => ?_) fun a x y => y.2 x
    · rcases nf a y with z | z
      · exact d a z x
      · exact z (s2 a x)
    · exact .inl ⟨s2 a x.1, fun y => d a y x.1⟩
  | _, _, _, j + 1, s, .cons (v := v0) (vs := vs) (ss := ss) (F := F) (F1 := Fh) (F2 := Ft) h r s1 s2 d, e => by
    obtain ⟨v, F1, e1, e2, e3, k'⟩ := HdL.upd j r (by simpa using e)
    refine ⟨v, F1, by simpa using e1, e2, fun a x => s2 a (e3 a x), fun G' H' F1' s' sg k h' nf => ?_⟩
    have t := k' G' H' F1' s' sg (fun a o fa nfa q n => k a o (s2 a fa) nfa q n) h' fun a x => by
      rcases nf a x with z | z
      · exact .inl z
      · exact .inr fun y => z (s2 a y)
    refine .cons (F1 := fun a => Fh a ∧ ¬ F1' a) (h.mono2 sg (fun a o fa q n => k a o (s1 a fa) (fun y => d a fa (e3 a y)) q n) fun a x => ⟨x, fun y => ?_⟩) t (fun a x => .inl ⟨s1 a x.1, fun y => d a x.1 (e3 a y)⟩) (fun a x => ?_) fun a x y => ?_
    · rcases nf a y with z | z
      · exact d a x (e3 a z)
      · exact z (s1 a x)
    · rcases x with x | x
      · exact .inl ⟨s2 a x.1, x.2⟩
      · exact .inr x
    · rcases y with y | y
      · exact d a x.1 y.1
      · exact x.2 y
/-- a place's part, and what a change of it makes -/
theorem Hd.upd : ∀ (rp : Pth) {v : V} {F : Addr → Prop} {s s1 : Sl}, Hd K mg G H v F s → getR rp s = some s1 → ∃ v1 F1, (rp = [] → v1 = v) ∧ Hd K mg G H v1 F1 s1 ∧ (∀ a, F1 a → F a) ∧
    ∀ (G' H' : Hp) (F1' : Addr → Prop) (s1' s' : Sl), Same G G' → (∀ a o, F a → ¬ F1 a → H a = some o → NT o → H' a = some o) → Hd K mg G' H' v1 F1' s1' → (∀ a, F1' a → F1 a ∨ ¬ F a) → setR rp s1' s = some s' →
      Hd K mg G' H' v (fun a => (F a ∧ ¬ F1 a) ∨ F1' a) s'
  | [], v, F, s, s1, h, e => by
    cases e
    refine ⟨v, F, fun _ => rfl, h, fun _ x => x, fun G' H' F1' s1' s' sg k h' nf es => ?_⟩
    cases es
    exact h'.wide fun a x => .inr x
  | (c, j) :: rp, v, F, s, s1, h, e => by
    unfold getR at e
    cases q : getR rp s with
    | none => rw [q] at e; cases e
    | some par =>
      rw [q] at e
      cases par with
      | ob c' fs =>
        replace e : (if c' = c then fs[j]? else none) = some s1 := e
        split at e
        · rename_i hc
          subst hc
          obtain ⟨vp, Fp, evp, hp, sp, kp⟩ := Hd.upd rp h q
          cases hp with
          | ob f hm ho n sF r =>
            rename_i p C dx vs F'
            obtain ⟨v1, F1, e1, h1, s1F, k1⟩ := r.upd j e
            refine ⟨v1, F1, (fun e => by cases e), h1, fun a x => sp a (sF a (s1F a x)), fun G' H' F1' s1' s' sg k h' nf es => ?_⟩
            unfold setR at es
            rw [q] at es
            have hlt : j < fs.length := (List.getElem?_eq_some_iff.mp e).1
            replace es : (if c' = c' ∧ j < fs.length then setR rp (.ob c' (fs.set j s1')) s else none) = some s' := es
            rw [if_pos ⟨rfl, hlt⟩] at es
            have t := k1 G' H' F1' s1' sg (fun a o fa nfa q => k a o (sp a (sF a fa)) nfa q) h' fun a x => by
              rcases nf a x with z | z
              · exact .inl z
              · exact .inr fun y => z (sp a (sF a y))
            have np1 : ¬ F1 p := fun y => n (s1F p y)
            have np1' : ¬ F1' p := fun y => by
              rcases nf p y with z | z
              · exact np1 z
              · exact z (sp p f)
            have hob : Hd K mg G' H' (.ref p) (fun a => (Fp a ∧ ¬ F1 a) ∨ F1' a) (.ob c' (fs.set j s1')) := by
              refine .ob (.inl ⟨f, np1⟩) hm (k p _ (sp p f) np1 ho nofun) (F' := fun a => (F' a ∧ ¬ F1 a) ∨ F1' a) (fun y => ?_) (fun a y => ?_) t
              · rcases y with y | y
                · exact n y.1
                · exact np1' y
              · rcases y with y | y
                · exact .inl ⟨sF a y.1, y.2⟩
                · exact .inr y
            refine (kp G' H' _ _ s' sg (fun a o fa nfa q => k a o fa (fun y => nfa (sF a (s1F a y))) q) hob (fun a y => ?_) es).wide fun a y => ?_
            · rcases y with y | y
              · exact .inl y.1
              · rcases nf a y with z | z
                · exact .inl (sF a (s1F a z))
                · exact .inr z
            · rcases y with y | y
              · exact .inl ⟨y.1, fun z => y.2 (sF a (s1F a z))⟩
              · rcases y with y | y
                · exact .inl ⟨sp a y.1, y.2⟩
                · exact .inr y
        · cases e
      | ol ss =>
        replace e : (if c = 1000 then ss[j]? else none) = some s1 := e
        split at e
        · rename_i hc
          subst hc
          obtain ⟨vp, Fp, evp, hp, sp, kp⟩ := Hd.upd rp h q
          cases hp with
          | ol f ho n sF r =>
            rename_i p vs F'
            obtain ⟨v1, F1, e1, h1, s1F, k1⟩ := r.upd j e
            refine ⟨v1, F1, (fun e => by cases e), h1, fun a x => sp a (sF a (s1F a x)), fun G' H' F1' s1' s' sg k h' nf es => ?_⟩
            unfold setR at es
            rw [q] at es
            have hlt : j < ss.length := (List.getElem?_eq_some_iff.mp e).1
            replace es : (if 1000 = 1000 ∧ j < ss.length then setR rp (.ol (ss.set j s1')) s else none) = some s' := es
            rw [if_pos ⟨rfl, hlt⟩] at es
            have t := k1 G' H' F1' s1' sg (fun a o fa nfa q => k a o (sp a (sF a fa)) nfa q) h' fun a x => by
              rcases nf a x with z | z
              · exact .inl z
              · exact .inr fun y => z (sp a (sF a y))
            have np1 : ¬ F1 p := fun y => n (s1F p y)
            have np1' : ¬ F1' p := fun y => by
              rcases nf p y with z | z
              · exact np1 z
              · exact z (sp p f)
            have hob : Hd K mg G' H' (.ref p) (fun a => (Fp a ∧ ¬ F1 a) ∨ F1' a) (.ol (ss.set j s1')) := by
              refine .ol (.inl ⟨f, np1⟩) (k p _ (sp p f) np1 ho nofun) (F' := fun a => (F' a ∧ ¬ F1 a) ∨ F1' a) (fun y => ?_) (fun a y => ?_) t
              · rcases y with y | y
                · exact n y.1
                · exact np1' y
              · rcases y with y | y
                · exact .inl ⟨sF a y.1, y.2⟩
                · exact .inr y
            refine (kp G' H' _ _ s' sg (fun a o fa nfa q => k a o fa (fun y => nfa (sF a (s1F a y))) q) hob (fun a y => ?_) es).wide fun a y => ?_
            · rcases y with y | y
              · exact .inl y.1
              · rcases nf a y with z | z
                · exact .inl (sF a (s1F a z))
                · exact .inr z
            · rcases y with y | y
              · exact .inl ⟨y.1, fun z => y.2 (sF a (s1F a z))⟩
              · rcases y with y | y
                · exact .inl ⟨sp a y.1, y.2⟩
                · exact .inr y
        · cases e
      | _ => cases e
mutual
def toD : Sl → Option D
  | .no => none
  | .sh d => some d
  | .ow xs => some (.lst xs)
  | .dk ks xs => some (.dic ks xs)
  | .bo _ => none
  | .ol _ => none
  | .ob c fs => (toDs fs).map (.obj c)
def toDs : List Sl → Option (List D)
  | [] => some []
  | s :: ss => (toD s).bind fun d => (toDs ss).map (d :: ·)
end
/-- what is one's own becomes known: the known part grows by it -/
structure Frz (K : PySem.W.Frag) (mg : Str → Option Value) (G H : Hp) (F : Addr → Prop) (G' : Hp) : Prop where
  gg : Same G G'
  gh : Same G' H
  new : ∀ a, G' a ≠ none → G a ≠ none ∨ F a
  tup : ∀ a vs, G' a = some (.tup vs) → G a = some (.tup vs)
theorem frz_one {K : PySem.W.Frag} {mg : Str → Option Value} {G H : Hp} {F : Addr → Prop} {p : Addr} {o : HO} (gh : Same G H) (f : F p) (gp : G p = none) (h : H p = some o) (nt : ∀ vs, o ≠ .tup vs) : Frz K mg G H F (upd G p o) := by
  refine ⟨fun a u q => ?_, fun a u q => ?_, fun a q => ?_, fun a vs q => ?_⟩
  · rw [upd_ne (ne_of_none q gp)]; exact q
  · by_cases e : a = p
    · subst e; rw [upd_same] at q; cases q; exact h
    · rw [upd_ne e] at q; exact gh _ _ q
  · by_cases e : a = p
    · subst e; exact .inr f
    · rw [upd_ne e] at q; exact .inl q
  · by_cases e : a = p
    · subst e; rw [upd_same] at q; cases q; exact absurd rfl (nt vs)
    · rw [upd_ne e] at q; exact q
theorem Frz.trans {K : PySem.W.Frag} {mg : Str → Option Value} {G H G1 G2 : Hp} {F F1 F2 : Addr → Prop} (a : Frz K mg G H F1 G1) (b : Frz K mg G1 H F2 G2) (s1 : ∀ a, F1 a → F a) (s2 : ∀ a, F2 a → F a) : Frz K mg G H F G2 :=
  ⟨a.gg.trans b.gg, b.gh, fun x q => by
    rcases b.new x q with z | z
    · rcases a.new x z with z | z
      · exact .inl z
      · exact .inr (s1 x z)
    · exact .inr (s2 x z), fun x vs q => a.tup x vs (b.tup x vs q)⟩
mutual
theorem Hd.frz : ∀ {G H : Hp} {v : V} {F : Addr → Prop} {s : Sl} {d : D}, Hd K mg G H v F s → toD s = some d → Same G H → (∀ a, F a → G a = none) → ∃ G', Frz K mg G H F G' ∧ Rep K mg G' v d
  | G, H, _, _, _, _, .sh h, e, gh, _ => by
    simp only [toD] at e; cases e
    exact ⟨G, ⟨Same.refl _, gh, fun _ h => .inl h, fun _ _ h => h⟩, h⟩
  | G, H, _, _, _, _, .ow f h r, e, gh, gn => by
    simp only [toD] at e; cases e
    have x := frz_one (K := K) (mg := mg) gh f (gn _ f) h (fun vs z => by cases z)
    exact ⟨_, x, .lst upd_same (r.mono x.gg)⟩
  | G, H, _, _, _, _, .dk f h l r, e, gh, gn => by
    simp only [toD] at e; cases e
    have x := frz_one (K := K) (mg := mg) gh f (gn _ f) h (fun vs z => by cases z)
    exact ⟨_, x, .dic upd_same l (r.mono x.gg)⟩
  | G, H, _, F, _, _, .ob (p := p) f hm h n s r, e, gh, gn => by
    simp only [toD, Option.map_eq_some_iff] at e
    obtain ⟨ds, e1, rfl⟩ := e
    obtain ⟨G1, x1, r1⟩ := HdL.frz r e1 gh fun a z => gn a (s a z)
    have gp : G1 p = none := by
      cases q : G1 p with
      | none => rfl
      | some u =>
        rcases x1.new p (by rw [q]; simp) with z | z
        · exact absurd (gn _ f) z
        · exact absurd z n
    have x2 := frz_one (K := K) (mg := mg) (F := F) x1.gh f gp h (fun vs z => by cases z)
    exact ⟨_, x1.trans x2 s fun _ z => z, .obj hm upd_same (r1.mono x2.gg)⟩
  | _, _, _, _, _, _, .ol _ _ _ _ _, e, _, _ => by simp only [toD] at e; cases e
theorem HdL.frz : ∀ {G H : Hp} {vs : List V} {F : Addr → Prop} {ss : List Sl} {ds : List D}, HdL K mg G H vs F ss → toDs ss = some ds → Same G H → (∀ a, F a → G a = none) → ∃ G', Frz K mg G H F G' ∧ RepL K mg G' vs ds
  | G, H, _, _, _, _, .nil, e, gh, _ => by
    simp only [toDs] at e; cases e
    exact ⟨G, ⟨Same.refl _, gh, fun _ h => .inl h, fun _ _ h => h⟩, .nil⟩
  | G, H, _, _, _, _, .cons h r s1 s2 dj, e, gh, gn => by
    simp only [toDs] at e
    cases q1 : toD _ with
    | none => rw [q1] at e; cases e
    | some d =>
      rw [q1] at e
      simp only [Option.bind_some, Option.map_eq_some_iff] at e
      obtain ⟨ds, e2, rfl⟩ := e
      obtain ⟨G1, x1, r1⟩ := Hd.frz h q1 gh fun a z => gn a (s1 a z)
      have r' := HdL.mono (H' := H) x1.gg (fun _ _ _ q _ => q) r
      obtain ⟨G2, x2, r2⟩ := HdL.frz r' e2 x1.gh fun a z => by
        cases q : G1 a with
        | none => rfl
        | some u =>
          rcases x1.new a (by rw [q]; simp) with w | w
          · exact absurd (gn a (s2 a z)) w
          · exact absurd z (dj a w)
      exact ⟨G2, x1.trans x2 s1 s2, .cons (r1.mono x2.gg) r2⟩
end
mutual
theorem getR_own : ∀ {rp : Pth} {s : Sl} {c : Nat} {fs : List Sl}, getR rp s = some (.ob c fs) → isOwn s = true
  | [], _, _, _, h => by cases h; rfl
  | (c, j) :: rp, s, _, _, h => by
    unfold getR at h
    cases q : getR rp s with
    | none => rw [q] at h; cases h
    | some par =>
      cases par with
      | ob c' fs => exact getR_own q
      | ol ss => exact getR_ownL q
      | _ => rw [q] at h; cases h
theorem getR_ownL : ∀ {rp : Pth} {s : Sl} {fs : List Sl}, getR rp s = some (.ol fs) → isOwn s = true
  | [], _, _, h => by cases h; rfl
  | (c, j) :: rp, s, _, h => by
    unfold getR at h
    cases q : getR rp s with
    | none => rw [q] at h; cases h
    | some par =>
      cases par with
      | ob c' fs => exact getR_own q
      | ol ss => exact getR_ownL q
      | _ => rw [q] at h; cases h
end
theorem setR_own {rp : Pth} {s s1 s1' s' : Sl} (hg : getR rp s = some s1) (hs : setR rp s1' s = some s') (h : isOwn s1' = true → isOwn s1 = true) : isOwn s' = true → isOwn s = true := by
  cases rp with
  | nil => cases hg; cases hs; exact h
  | cons p rp =>
    obtain ⟨c, j⟩ := p
    unfold getR at hg
    cases q : getR rp s with
    | none => rw [q] at hg; cases hg
    | some par =>
      cases par with
      | ob c' fs => exact fun _ => getR_own q
      | ol ss => exact fun _ => getR_ownL q
      | _ => rw [q] at hg; cases hg
/-- a place of a slot: what it holds, and how it may be changed -/
structure Pack (K : PySem.W.Frag) (mg : Str → Option Value) (G0 H0 : Hp) (Z : Zs) (Γ : DEnv) (σ : St) (i : Nat) (rp : Pth) (s s1 : Sl) (v : V) (F1 : Addr → Prop) (Hb G H : Hp) : Prop where
  hd : Hd K mg G H v F1 s1
  fr : ∀ a, F1 a → G a = none ∧ H0 a = none ∧ H a ≠ none ∧ ¬ Z.z a ∧ Hb a ≠ none
  tb : TC.ti.t G H
  ntz : ∀ a, F1 a → ¬ TC.ti.tz a
  hbt : ∀ a, TC.ti.tz a → Hb a ≠ none
  upC : ∀ (G' H' : Hp) (F1' : Addr → Prop) (s1' s' : Sl), Same G G' → Same G' H' → TC.ti.t G' H' → (∀ a, ¬ F1 a → H a ≠ none → H' a ≠ none) → (∀ a, G' a ≠ none → G a ≠ none ∨ Hb a = none ∨ F1 a) → (∀ a o, ¬ F1 a → H a = some o → NT o → H' a = some o) → Hd K mg G' H' v F1' s1' →
    (∀ a, F1' a → G' a = none ∧ H' a ≠ none ∧ (F1 a ∨ Hb a = none)) → (isOwn s1' = true → isOwn s1 = true) → setR rp s1' s = some s' → Rel K mg G0 H0 Z (Γ.set i s') σ G' H'
theorem Pack.up {i : Nat} {rp : Pth} {s s1 : Sl} {v : V} {F1 : Addr → Prop} {Hb : Hp} (P : Pack K mg G0 H0 Z Γ σ i rp s s1 v F1 Hb G H) (G' H' : Hp) (F1' : Addr → Prop) (s1' s' : Sl) (sg : Same G G') (gh : Same G' H') (nw : ∀ a, G' a ≠ none → G a ≠ none ∨ Hb a = none ∨ F1 a) (keep : ∀ a o, ¬ F1 a → H a = some o → H' a = some o) (h' : Hd K mg G' H' v F1' s1')
    (nf : ∀ a, F1' a → G' a = none ∧ H' a ≠ none ∧ (F1 a ∨ Hb a = none)) (io : isOwn s1' = true → isOwn s1 = true) (es : setR rp s1' s = some s') : Rel K mg G0 H0 Z (Γ.set i s') σ G' H' := by
  have hn' : ∀ a, ¬ F1 a → H a ≠ none → H' a ≠ none := fun a nf h => by
    cases q : H a with
    | none => exact absurd q h
    | some o => rw [keep a o nf q]; simp
  refine P.upC G' H' F1' s1' s' sg gh (TC.ti.keep P.tb sg (fun a h => ?_) (fun a h g => ?_)) hn' nw (fun a o nf q _ => keep a o nf q) h' nf io es
  · cases q : H a with
    | none => exact absurd q (TC.ti.live P.tb a h).1
    | some o => exact keep a o (fun y => P.ntz a y h) q
  · cases q : G' a with
    | none => rfl
    | some u =>
      rcases nw a (by rw [q]; simp) with z | z | z
      · exact absurd g z
      · exact absurd z (P.hbt a h)
      · exact absurd h (P.ntz a z)
theorem Rel.pack (R : Rel K mg G0 H0 Z Γ σ G H) {i : Nat} {rp : Pth} {s s1 : Sl} (hi : Γ[i]? = some s) (hg : getR rp s = some s1) (hn : s1 ≠ .no) (hs : SlP s) :
    ∃ v F1, (rp = [] → σ[i]? = some (some v)) ∧ ∀ G1 H1, Ext G H G1 H1 → Pack K mg G0 H0 Z Γ σ i rp s s1 v F1 H G1 H1 := by
  obtain ⟨own, o1, o2, o3⟩ := R.own
  rcases o3 i s hi with z | ⟨v0, e0, h0⟩ | ⟨_, d0, z, _⟩
  · exact absurd z hs.1
  rotate_left
  · exact absurd z (hs.2 d0)
  obtain ⟨v1, F1, ev, h1, sF, kk⟩ := Hd.upd rp h0 hg
  refine ⟨v1, F1, fun e => by rw [ev e]; exact e0, fun G1 H1 x => ?_⟩
  have R1 := R.ext x
  have old : ∀ a, F1 a → G a = none ∧ H0 a = none ∧ H a ≠ none ∧ ¬ Z.z a := fun a y => o1 i a (sF a y)
  refine ⟨h1.mono x.gg fun a o _ q n => x.hh a o q n, fun a y => ?_, R1.tbc, fun a y h => (old a y).2.2.2 (R.tz a (by rw [R.tc]; exact h)), fun a h => R.zz a (R.tz a (by rw [R.tc]; exact h)), fun G' H' F1' s1' s' sg gh tb' hn' nw keep h' nf io es => ?_⟩
  · obtain ⟨z1, z2, z3, z4⟩ := old a y
    exact ⟨x.none z1 z3, z2, x.hn _ z3, z4, z3⟩
  · have big : Hd K mg G' H' v0 (fun a => (own i a ∧ ¬ F1 a) ∨ F1' a) s' := by
      have hx : Hd K mg G1 H1 v0 (own i) s := h0.mono x.gg fun a o _ q n => x.hh a o q n
      refine kk G' H' F1' s1' s' (x.gg.trans sg) (fun a o fa nfa q n => keep a o nfa (x.hh a o q n) n) h' (fun a y => ?_) es
      rcases (nf a y).2.2 with z | z
      · exact .inl z
      · exact .inr fun w => (o1 i a w).2.2.1 z
    have stay : ∀ j a, own j a → ¬ F1 a → G' a = none ∧ H' a ≠ none := fun j a w nf1 => by
      obtain ⟨z1, z2, z3, z4⟩ := o1 j a w
      have g1 := x.none z1 z3
      have h1' := x.hn _ z3
      refine ⟨?_, ?_⟩
      · cases q : G' a with
        | none => rfl
        | some u =>
          rcases nw a (by rw [q]; simp) with z | z | z
          · exact absurd g1 z
          · exact absurd z z3
          · exact absurd z nf1
      · exact hn' a nf1 h1'
    refine ⟨by simpa using R.len, gh, fun a o q n => ?_, R1.gg.trans sg, fun a q => ?_, fun a z => ?_, fun w s'' e1 e2 e3 => ?_, (by rw [R.tc]; exact tb'), R.tz, R.tc, fun a h => hn' a (fun y => h (old a y).2.1) (R1.hn a h), fun j a => if j = i then (own i a ∧ ¬ F1 a) ∨ F1' a else own j a, fun j a w => ?_, fun j k a w1 w2 => ?_, fun j s'' q => ?_⟩
    · refine keep a o (fun y => ?_) (R1.hh a o q n) n
      rw [(old a y).2.1] at q; cases q
    · rcases nw a q with z | z | z
      · exact R1.new a z
      · exact .inr (R.hf z)
      · exact .inr (old a z).2.1
    · exact hn' a (fun y => (old a y).2.2.2 z) (R1.zz a z)
    · rcases set_get e2 with ⟨ei, hl, rfl⟩ | ⟨ei, q⟩
      · subst ei
        exact R.an w s e1 hi (setR_own hg es io e3)
      · exact R.an w s'' e1 q e3
    · by_cases ej : j = i
      · simp only [ej, if_true] at w
        rcases w with w | w
        · obtain ⟨z1, z2, z3, z4⟩ := o1 i a w.1
          obtain ⟨y1, y2⟩ := stay i a w.1 w.2
          exact ⟨y1, z2, y2, z4⟩
        · obtain ⟨y1, y2, y3⟩ := nf a w
          rcases y3 with y3 | y3
          · exact ⟨y1, (old a y3).2.1, y2, (old a y3).2.2.2⟩
          · exact ⟨y1, R.hf y3, y2, fun z => R.zz a z y3⟩
      · simp only [ej, if_false] at w
        have nf1 : ¬ F1 a := fun y => ej (o2 j i a w (sF a y))
        obtain ⟨z1, z2, z3, z4⟩ := o1 j a w
        obtain ⟨y1, y2⟩ := stay j a w nf1
        exact ⟨y1, z2, y2, z4⟩
    · have cross : ∀ j', j' ≠ i → own j' a → ¬ ((own i a ∧ ¬ F1 a) ∨ F1' a) := fun j' ne w y => by
        rcases y with y | y
        · exact ne (o2 j' i a w y.1)
        · rcases (nf a y).2.2 with z | z
          · exact ne (o2 j' i a w (sF a z))
          · exact (o1 j' a w).2.2.1 z
      by_cases e1 : j = i
      · by_cases e2 : k = i
        · rw [e1, e2]
        · simp only [e1, e2, if_true, if_false] at w1 w2
          exact absurd w1 (cross k e2 w2)
      · by_cases e2 : k = i
        · simp only [e1, e2, if_true, if_false] at w1 w2
          exact absurd w2 (cross j e1 w1)
        · simp only [e1, e2, if_false] at w1 w2
          exact o2 j k a w1 w2
    · rcases set_get q with ⟨ej, hl, rfl⟩ | ⟨ej, q⟩
      · subst ej
        refine .inr (.inl ⟨v0, e0, ?_⟩)
        simp only [if_true]
        exact big
      · rcases o3 j s'' q with z | ⟨w, z1, z2⟩ | ⟨w, d, z0, z1, z2⟩
        · exact .inl z
        · refine .inr (.inl ⟨w, z1, ?_⟩)
          simp only [Ne.symm ej, if_false]
          refine z2.mono (x.gg.trans sg) fun a o fa q n => keep a o (fun y => ?_) (x.hh a o q n) n
          exact ej (o2 i j a (sF a y) fa)
        · exact .inr (.inr ⟨w, d, z0, z1, z2.mono (x.gg.trans sg) (same_n (Same.refl _))⟩)
theorem Rel.sh (R : Rel K mg G0 H0 Z Γ σ G H) {i : Nat} {d : D} (hi : Γ[i]? = some (.sh d)) : ∃ v, σ[i]? = some (some v) ∧ Rep K mg G v d := by
  obtain ⟨own, o1, o2, o3⟩ := R.own
  rcases o3 i _ hi with z | ⟨v, h1, h2⟩ | ⟨_, _, z, _⟩
  · cases z
  · cases h2 with
    | sh h => exact ⟨v, h1, h⟩
  · cases z
theorem Rel.bo (R : Rel K mg G0 H0 Z Γ σ G H) {i : Nat} {d : D} (hi : Γ[i]? = some (.bo d)) : ∃ v, σ[i]? = some (some v) ∧ RepB K mg G H v d := by
  obtain ⟨own, o1, o2, o3⟩ := R.own
  rcases o3 i _ hi with z | ⟨v, h1, h2⟩ | ⟨v, d', z, h1, h2⟩
  · cases z
  · cases h2
  · cases z; exact ⟨v, h1, h2.mono (Same.refl _) R.hh⟩
theorem Rel.ow (R : Rel K mg G0 H0 Z Γ σ G H) {i : Nat} {xs : List D} (hi : Γ[i]? = some (.ow xs)) : ∃ p vs, σ[i]? = some (some (.ref p)) ∧ G p = none ∧ H0 p = none ∧ H p = some (.lst vs) ∧ RepL K mg G vs xs := by
  obtain ⟨own, o1, o2, o3⟩ := R.own
  rcases o3 i _ hi with z | ⟨v, h1, h2⟩ | ⟨_, _, z, _⟩
  · cases z
  · cases h2 with
    | ow f h r => exact ⟨_, _, h1, (o1 i _ f).1, (o1 i _ f).2.1, h, r⟩
  · cases z
/-- a field of a place -/
theorem Pack.fld {i : Nat} {rp : Pth} {s s1 : Sl} {c j : Nat} {fs : List Sl} {v : V} {F : Addr → Prop} {Hb : Hp} (P : Pack K mg G0 H0 Z Γ σ i rp s (.ob c fs) v F Hb G H) (hg : getR rp s = some (.ob c fs)) (hj : fs[j]? = some s1) :
    ∃ p C dx vs v1 F1, v = .ref p ∧ mg (cN c) = some (.ref C) ∧ H p = some (.ins C dx ((cF c).zip vs)) ∧ vs[j]? = some v1 ∧ Pack K mg G0 H0 Z Γ σ i ((c, j) :: rp) s s1 v1 F1 Hb G H := by
  have hd := P.hd
  cases hd with
  | ob f hm ho n sF r =>
    rename_i p C dx vs F'
    obtain ⟨v1, F1, e1, h1, s1F, k1⟩ := r.upd j hj
    refine ⟨p, C, dx, vs, v1, F1, rfl, hm, ho, e1, h1, fun a y => P.fr a (sF a (s1F a y)), P.tb, fun a y => P.ntz a (sF a (s1F a y)), P.hbt, fun G' H' F1' s1' s' sg gh tb' hn' nw keep h' nf io es => ?_⟩
    have hlt : j < fs.length := (List.getElem?_eq_some_iff.mp hj).1
    unfold setR at es
    rw [hg] at es
    replace es : (if c = c ∧ j < fs.length then setR rp (.ob c (fs.set j s1')) s else none) = some s' := es
    rw [if_pos ⟨rfl, hlt⟩] at es
    have nf' : ∀ a, F1' a → F1 a ∨ ¬ F a := fun a x => by
      rcases (nf a x).2.2 with z | z
      · exact .inl z
      · exact .inr fun y => (P.fr a y).2.2.2.2 z
    have t := k1 G' H' F1' s1' sg (fun a o fa nfa q n => keep a o nfa q n) h' fun a x => by
      rcases nf' a x with z | z
      · exact .inl z
      · exact .inr fun y => z (sF a y)
    have np1 : ¬ F1 p := fun y => n (s1F p y)
    have np1' : ¬ F1' p := fun y => by
      rcases nf' p y with z | z
      · exact np1 z
      · exact z f
    have hob : Hd K mg G' H' (.ref p) (fun a => (F a ∧ ¬ F1 a) ∨ F1' a) (.ob c (fs.set j s1')) := by
      refine .ob (.inl ⟨f, np1⟩) hm (keep p _ np1 ho nofun) (F' := fun a => (F' a ∧ ¬ F1 a) ∨ F1' a) (fun y => ?_) (fun a y => ?_) t
      · rcases y with y | y
        · exact n y.1
        · exact np1' y
      · rcases y with y | y
        · exact .inl ⟨sF a y.1, y.2⟩
        · exact .inr y
    refine P.upC G' H' _ _ s' sg gh tb' (fun a nfa h => hn' a (fun y => nfa (sF a (s1F a y))) h) (fun a q => ?_) (fun a o nfa q n => keep a o (fun y => nfa (sF a (s1F a y))) q n) hob (fun a y => ?_) (fun _ => rfl) es
    · rcases nw a q with z | z | z
      · exact .inl z
      · exact .inr (.inl z)
      · exact .inr (.inr (sF a (s1F a z)))
    · rcases y with y | y
      · obtain ⟨z1, z2, z3, z4, z5⟩ := P.fr a y.1
        refine ⟨?_, ?_, .inl y.1⟩
        · cases q : G' a with
          | none => rfl
          | some u =>
            rcases nw a (by rw [q]; simp) with w | w | w
            · exact absurd z1 w
            · exact absurd w z5
            · exact absurd w y.2
        · exact hn' a y.2 z3
      · obtain ⟨z1, z2, z3⟩ := nf a y
        refine ⟨z1, z2, ?_⟩
        rcases z3 with z3 | z3
        · exact .inl (sF a (s1F a z3))
        · exact .inr z3
/-- an item of a place that is a list of things -/
theorem Pack.itm {i : Nat} {rp : Pth} {s s1 : Sl} {j : Nat} {fs : List Sl} {v : V} {F : Addr → Prop} {Hb : Hp} (P : Pack K mg G0 H0 Z Γ σ i rp s (.ol fs) v F Hb G H) (hg : getR rp s = some (.ol fs)) (hj : fs[j]? = some s1) :
    ∃ p vs v1 F1, v = .ref p ∧ H p = some (.lst vs) ∧ vs.length = fs.length ∧ vs[j]? = some v1 ∧ Pack K mg G0 H0 Z Γ σ i ((1000, j) :: rp) s s1 v1 F1 Hb G H := by
  have hd := P.hd
  cases hd with
  | ol f ho n sF r =>
    rename_i p vs F'
    obtain ⟨v1, F1, e1, h1, s1F, k1⟩ := r.upd j hj
    refine ⟨p, vs, v1, F1, rfl, ho, r.length, e1, h1, fun a y => P.fr a (sF a (s1F a y)), P.tb, fun a y => P.ntz a (sF a (s1F a y)), P.hbt, fun G' H' F1' s1' s' sg gh tb' hn' nw keep h' nf io es => ?_⟩
    have hlt : j < fs.length := (List.getElem?_eq_some_iff.mp hj).1
    unfold setR at es
    rw [hg] at es
    replace es : (if 1000 = 1000 ∧ j < fs.length then setR rp (.ol (fs.set j s1')) s else none) = some s' := es
    rw [if_pos ⟨rfl, hlt⟩] at es
    have nf' : ∀ a, F1' a → F1 a ∨ ¬ F a := fun a x => by
      rcases (nf a x).2.2 with z | z
      · exact .inl z
      · exact .inr fun y => (P.fr a y).2.2.2.2 z
    have t := k1 G' H' F1' s1' sg (fun a o fa nfa q n => keep a o nfa q n) h' fun a x => by
      rcases nf' a x with z | z
      · exact .inl z
      · exact .inr fun y => z (sF a y)
    have np1 : ¬ F1 p := fun y => n (s1F p y)
    have np1' : ¬ F1' p := fun y => by
      rcases nf' p y with z | z
      · exact np1 z
      · exact z f
    have hob : Hd K mg G' H' (.ref p) (fun a => (F a ∧ ¬ F1 a) ∨ F1' a) (.ol (fs.set j s1')) := by
      refine .ol (.inl ⟨f, np1⟩) (keep p _ np1 ho nofun) (F' := fun a => (F' a ∧ ¬ F1 a) ∨ F1' a) (fun y => ?_) (fun a y => ?_) t
      · rcases y with y | y
        · exact n y.1
        · exact np1' y
      · rcases y with y | y
        · exact .inl ⟨sF a y.1, y.2⟩
        · exact .inr y
    refine P.upC G' H' _ _ s' sg gh tb' (fun a nfa h => hn' a (fun y => nfa (sF a (s1F a y))) h) (fun a q => ?_) (fun a o nfa q n => keep a o (fun y => nfa (sF a (s1F a y))) q n) hob (fun a y => ?_) (fun _ => rfl) es
    · rcases nw a q with z | z | z
      · exact .inl z
      · exact .inr (.inl z)
      · exact .inr (.inr (sF a (s1F a z)))
    · rcases y with y | y
      · obtain ⟨z1, z2, z3, z4, z5⟩ := P.fr a y.1
        refine ⟨?_, ?_, .inl y.1⟩
        · cases q : G' a with
          | none => rfl
          | some u =>
            rcases nw a (by rw [q]; simp) with w | w | w
            · exact absurd z1 w
            · exact absurd w z5
            · exact absurd w y.2
        · exact hn' a y.2 z3
      · obtain ⟨z1, z2, z3⟩ := nf a y
        refine ⟨z1, z2, ?_⟩
        rcases z3 with z3 | z3
        · exact .inl (sF a (s1F a z3))
        · exact .inr z3
/-- a place of one's own becomes known to all -/
theorem Rel.frzP (R : Rel K mg G0 H0 Z Γ σ G H) {i : Nat} {rp : Pth} {s s1 s' : Sl} {d : D} (hi : Γ[i]? = some s) (hg : getR rp s = some s1) (hn : s1 ≠ .no) (hs : SlP s) (hd : toD s1 = some d) (es : setR rp (.sh d) s = some s') :
    ∃ G', Rel K mg G0 H0 Z (Γ.set i s') σ G' H ∧ Same G G' := by
  obtain ⟨v, F1, _, pk⟩ := R.pack hi hg hn hs
  have p := pk G H (Ext.refl R.gh)
  obtain ⟨G', x, r⟩ := p.hd.frz hd R.gh fun a z => (p.fr a z).1
  refine ⟨G', p.up G' H (fun _ => False) (.sh d) s' x.gg x.gh (fun a q => ?_) (fun _ _ _ q => q) (.sh r) (fun _ z => z.elim) (fun z => nomatch z) es, x.gg⟩
  rcases x.new a q with z | z
  · exact .inl z
  · exact .inr (.inr z)
end

/-! ### judgements over data -/
abbrev Ex := DEnv → Option D
abbrev Te := DEnv → Option Bool
abbrev Ag := DEnv → Option (List D)
inductive Res where
  | nx (Γ : DEnv) | rt (d : D) | rm (d : D) (s : Sl) | ro (s : Sl) | bk (Γ : DEnv) | ct (Γ : DEnv)
abbrev Sm := DEnv → Option Res

structure E (X : Cx) (e : Expr) (f : Ex) : Prop where
  ex : ∃ t, PE X e t ∧ ∀ G0 H0 Z Γ σ G H Q d, Rel X.K X.mg G0 H0 Z Γ σ G H → f Γ = some d → (∀ G' H' v, Ext G H G' H' → Rep X.K X.mg G' v d → Q v H') → t σ H Q
/-- a new list -/
structure EL (X : Cx) (e : Expr) (f : Ag) : Prop where
  ex : ∃ t, PE X e t ∧ ∀ G0 H0 Z Γ σ G H Q ds, Rel X.K X.mg G0 H0 Z Γ σ G H → f Γ = some ds → (∀ G' H' p vs, Ext G H G' H' → H p = none → G' p = none → H' p = some (.lst vs) → RepL X.K X.mg G' vs ds → Q (.ref p) H') → t σ H Q
/-- a list, maybe one's own, that is only looked at -/
structure EB (X : Cx) (e : Expr) (f : Ag) : Prop where
  ex : ∃ t, PE X e t ∧ ∀ G0 H0 Z Γ σ G H Q ds, Rel X.K X.mg G0 H0 Z Γ σ G H → f Γ = some ds → (∀ G' H' p vs, Ext G H G' H' → SqL X.K H' p vs → RepL X.K X.mg G' vs ds → Q (.ref p) H') → t σ H Q
structure T (X : Cx) (e : Expr) (f : Te) : Prop where
  ex : ∃ t, PT X e t ∧ ∀ G0 H0 Z Γ σ G H Q b, Rel X.K X.mg G0 H0 Z Γ σ G H → f Γ = some b → (∀ G' H', Ext G H G' H' → Q b H') → t σ H Q
structure W (X : Cx) (e : Expr) (f : Te) : Prop where
  ex : ∃ t, PW X e t ∧ ∀ G0 H0 Z Γ σ G H Q b, Rel X.K X.mg G0 H0 Z Γ σ G H → f Γ = some b → (∀ G' H', Ext G H G' H' → Q b H') → t σ H Q
structure A (X : Cx) (es : List Expr) (f : Ag) : Prop where
  ex : ∃ t, PA X es t ∧ ∀ G0 H0 Z Γ σ G H Q ds, Rel X.K X.mg G0 H0 Z Γ σ G H → f Γ = some ds → (∀ G' H' vs, Ext G H G' H' → RepL X.K X.mg G' vs ds → Q vs H') → t σ H Q
/-- what is wanted behind a statement -/
def Fin (X : Cx) (G0 H0 : Hp) (Z : Zs) (D : Ends) : Res → Prop
  | .nx Γ => ∀ σ G H, Rel X.K X.mg G0 H0 Z Γ σ G H → D.nx σ H
  | .bk Γ => ∀ σ G H, Rel X.K X.mg G0 H0 Z Γ σ G H → D.bk σ H
  | .ct Γ => ∀ σ G H, Rel X.K X.mg G0 H0 Z Γ σ G H → D.ct σ H
  | .rt d => ∀ G H v, Ext G0 H0 G H → Rep X.K X.mg G v d → D.rt v H
  | .ro s => ∀ G H v F, Ext G0 H0 G H → Hd X.K X.mg G H v F s → (∀ a, F a → G a = none ∧ H0 a = none ∧ H a ≠ none) → D.rt v H
  | .rm d s => ∀ Γ σ G H v, Rel X.K X.mg G0 H0 Z Γ σ G H → Γ[0]? = some s → Rep X.K X.mg G v d → D.rt v H
structure S (X : Cx) (st : Stmt) (f : Sm) : Prop where
  ex : ∃ t, PS X st t ∧ ∀ G0 H0 Z Γ σ G H D r, Rel X.K X.mg G0 H0 Z Γ σ G H → f Γ = some r → Fin X G0 H0 Z D r → t D σ H
structure Ss (X : Cx) (st : List Stmt) (f : Sm) : Prop where
  ex : ∃ t, PSs X st t ∧ ∀ G0 H0 Z Γ σ G H D r, Rel X.K X.mg G0 H0 Z Γ σ G H → f Γ = some r → Fin X G0 H0 Z D r → t D σ H
end DL

namespace DL
open PySem L2
variable [TC : TabCtx]

theorem obind {α β : Type} {o : Option α} {f : α → Option β} {b : β} (h : o.bind f = some b) : ∃ a, o = some a ∧ f a = some b := by
  cases o with
  | none => cases h
  | some a => exact ⟨a, rfl, h⟩

/-! ### what is looked at: a datum, or a list of one's own -/
structure B (X : Cx) (e : Expr) (f : Ex) : Prop where
  ex : ∃ t, PE X e t ∧ ∀ G0 H0 Z Γ σ G H Q d, Rel X.K X.mg G0 H0 Z Γ σ G H → f Γ = some d → (∀ G' H' v, Ext G H G' H' → RepB X.K X.mg G' H' v d → Q v H') → t σ H Q

section
variable {K : PySem.W.Frag} {mg : Str → Option Value} {G H G' H' : Hp} {v : V} {d : D}
theorem RepB.ext (r : RepB K mg G H v d) (e : Ext G H G' H') : RepB K mg G' H' v d := by
  exact r.mono e.gg e.hh
/-- a list that is looked at -/
theorem RepB.lst {xs : List D} (gh : Same G H) (r : RepB K mg G H v (.lst xs)) : ∃ p vs, v = .ref p ∧ H p = some (.lst vs) ∧ RepL K mg G vs xs := by
  cases r with
  | sh r => cases r with
    | lst h r => exact ⟨_, _, rfl, gh _ _ h, r⟩
  | li h r => exact ⟨_, _, rfl, h, r⟩
theorem RepB.tup {xs : List D} (gh : Same G H) (r : RepB K mg G H v (.tup xs)) : ∃ p vs, v = .ref p ∧ SqT K H p vs ∧ RepL K mg G vs xs := by
  cases r with
  | sh r => cases r with
    | tup h r => exact ⟨_, _, rfl, sqt_same gh h, r⟩
theorem RepB.scr {ns : List Int} (gh : Same G H) (r : RepB K mg G H v (.scr ns)) : ∃ p, v = .ref p ∧ SqL K H p (ns.map V.int) := by
  cases r with
  | sh r => cases r with
    | scr h => exact ⟨_, rfl, gh.seq h⟩
mutual
theorem Hd.bo : ∀ {v : V} {F : Addr → Prop} {s : Sl} {d : D}, Hd K mg G H v F s → toD s = some d → RepB K mg G H v d
  | _, _, _, _, .sh h, e => by simp only [toD] at e; cases e; exact .sh h
  | _, _, _, _, .ow f h r, e => by simp only [toD] at e; cases e; exact .li h r
  | _, _, _, _, .dk _ h l r, e => by simp only [toD] at e; cases e; exact .dic h l r
  | _, _, _, _, .ob f hm h n s r, e => by
    simp only [toD, Option.map_eq_some_iff] at e
    obtain ⟨ds, e1, rfl⟩ := e
    exact .obj hm h (HdL.bo r e1)
  | _, _, _, _, .ol _ _ _ _ _, e => by simp only [toD] at e; cases e
theorem HdL.bo : ∀ {vs : List V} {F : Addr → Prop} {ss : List Sl} {ds : List D}, HdL K mg G H vs F ss → toDs ss = some ds → RepBL K mg G H vs ds
  | _, _, _, _, .nil, e => by simp only [toDs] at e; cases e; exact .nil
  | _, _, _, _, .cons h r s1 s2 dj, e => by
    simp only [toDs] at e
    cases q1 : toD _ with
    | none => rw [q1] at e; cases e
    | some d =>
      rw [q1] at e
      simp only [Option.bind_some, Option.map_eq_some_iff] at e
      obtain ⟨ds, e2, rfl⟩ := e
      exact .cons (Hd.bo h q1) (HdL.bo r e2)
end
theorem Rep.flat (r : Rep K mg G v d) : (∀ i, d = .int i → v = .int i) ∧ (∀ b, d = .bl b → v = .bl b) ∧ (d = .non → v = .non) ∧ (∀ x, d = .str x → v = .str x) := by
  cases r <;> simp
end

/-! ### expressions -/
def gV (i : Nat) : Ex := fun Γ => match Γ[i]? with | some (.sh d) => some d | _ => none
def gB (i : Nat) : Ex := fun Γ => match Γ[i]? with | some (.sh d) => some d | some (.ow xs) => some (.lst xs) | some (.bo d) => some d | some (.ob c fs) => toD (.ob c fs) | some (.dk ks xs) => some (.dic ks xs) | _ => none
def gC (d : D) : Ex := fun _ => some d
def gI (i : Int) : Ex := fun _ => some (.int i)

section
variable {X : Cx} {e a b : Expr} {es : List Expr} {f g : Ex} {fs : Ag} {pos : Pos}

theorem e_var (i : Nat) {x : Str} (hN : X.N[i]? = some x := by rfl) (hv : Vis X.env.scope x := by first | exact Or.inl rfl | exact Or.inr (Or.inl rfl) | exact Or.inr (Or.inr rfl)) (hd : (x == ("__debug__" : Str)) = false := by decide)
    (hcd : (x == ("__classdict__" : Str)) = false := by decide) : E X (.Name x pos) (gV i) := by
  refine ⟨⟨_, pe_var hN hv hd hcd, fun G0 H0 Z Γ σ G H Q d R hf k => ?_⟩⟩
  unfold gV at hf
  cases q : Γ[i]? with
  | none => rw [q] at hf; cases hf
  | some s =>
    rw [q] at hf
    cases s with
    | sh d' =>
      cases hf
      obtain ⟨v, h1, h2⟩ := R.sh q
      exact ⟨v, h1, k G H v (Ext.refl R.gh) h2⟩
    | _ => cases hf
theorem b_var (i : Nat) {x : Str} (hN : X.N[i]? = some x := by rfl) (hv : Vis X.env.scope x := by first | exact Or.inl rfl | exact Or.inr (Or.inl rfl) | exact Or.inr (Or.inr rfl)) (hd : (x == ("__debug__" : Str)) = false := by decide)
    (hcd : (x == ("__classdict__" : Str)) = false := by decide) : B X (.Name x pos) (gB i) := by
  refine ⟨⟨_, pe_var hN hv hd hcd, fun G0 H0 Z Γ σ G H Q d R hf k => ?_⟩⟩
  unfold gB at hf
  cases q : Γ[i]? with
  | none => rw [q] at hf; cases hf
  | some s =>
    rw [q] at hf
    cases s with
    | ow xs =>
      cases hf
      obtain ⟨p, vs, h1, h2, h3, h4, h5⟩ := R.ow q
      exact ⟨_, h1, k G H _ (Ext.refl R.gh) (.li h4 h5)⟩
    | sh d' =>
      cases hf
      obtain ⟨v, h1, h2⟩ := R.sh q
      exact ⟨v, h1, k G H v (Ext.refl R.gh) (.sh h2)⟩
    | bo d' =>
      cases hf
      obtain ⟨v, h1, h2⟩ := R.bo q
      exact ⟨v, h1, k G H v (Ext.refl R.gh) h2⟩
    | ob c fs =>
      obtain ⟨own, o1, o2, o3⟩ := R.own
      rcases o3 i _ q with z | ⟨v, h1, h2⟩ | ⟨_, _, z, _⟩
      · cases z
      · exact ⟨v, h1, k G H v (Ext.refl R.gh) (h2.bo hf)⟩
      · cases z
    | dk ks xs =>
      obtain ⟨own, o1, o2, o3⟩ := R.own
      rcases o3 i _ q with z | ⟨v, h1, h2⟩ | ⟨_, _, z, _⟩
      · cases z
      · exact ⟨v, h1, k G H v (Ext.refl R.gh) (h2.bo (by cases hf; simp only [toD]))⟩
      · cases z
    | _ => cases hf
theorem E.bo (h : E X e f) : B X e f := by
  obtain ⟨t, h1, h2⟩ := h.ex
  exact ⟨⟨t, h1, fun G0 H0 Z Γ σ G H Q d R hf k => h2 G0 H0 Z Γ σ G H Q d R hf fun G' H' v e r => k G' H' v e (.sh r)⟩⟩
theorem e_int {i : Int} {j} : E X (.Constant (.int i) j pos) (gI i) := ⟨⟨_, pe_int, fun G0 H0 Z Γ σ G H Q d R hf k => by cases hf; exact k G H _ (Ext.refl R.gh) (.int i)⟩⟩
theorem e_bl {i : Bool} {j} : E X (.Constant (.bool i) j pos) (gC (.bl i)) := ⟨⟨_, pe_bl, fun G0 H0 Z Γ σ G H Q d R hf k => by cases hf; exact k G H _ (Ext.refl R.gh) (.bl i)⟩⟩
theorem e_non {j} : E X (.Constant .none j pos) (gC .non) := ⟨⟨_, pe_non, fun G0 H0 Z Γ σ G H Q d R hf k => by cases hf; exact k G H _ (Ext.refl R.gh) .non⟩⟩
theorem e_str {x : Str} {j} : E X (.Constant (.str x) j pos) (gC (.str x)) := ⟨⟨_, pe_str, fun G0 H0 Z Γ σ G H Q d R hf k => by cases hf; exact k G H _ (Ext.refl R.gh) (.str x)⟩⟩

/-! argument lists, displays -/
def aN : Ag := fun _ => some []
def aC (f : Ex) (r : Ag) : Ag := fun Γ => (f Γ).bind fun d => (r Γ).bind fun ds => some (d :: ds)
theorem a_nil : A X [] aN := ⟨⟨_, pa_nil, fun G0 H0 Z Γ σ G H Q ds R hf k => by cases hf; exact k G H _ (Ext.refl R.gh) .nil⟩⟩
theorem a_cons (he : E X e f) (hr : A X es fs) (hs : starEach (e :: es) X.env = (false, eval e X.env) :: starEach es X.env := by rfl) : A X (e :: es) (aC f fs) := by
  obtain ⟨t, h1, h2⟩ := he.ex
  obtain ⟨u, q1, q2⟩ := hr.ex
  refine ⟨⟨_, pa_cons h1 q1 hs, fun G0 H0 Z Γ σ G H Q ds R hf k => ?_⟩⟩
  obtain ⟨d, e1, hf⟩ := obind hf
  obtain ⟨es, e2, hf⟩ := obind hf
  cases hf
  refine h2 G0 H0 Z Γ σ G H _ d R e1 fun G1 H1 v x1 r1 => ?_
  refine q2 G0 H0 Z Γ σ G1 H1 _ es (R.ext x1) e2 fun G2 H2 vs x2 r2 => ?_
  exact k G2 H2 _ (x1.trans x2) (.cons (r1.mono x2.gg) r2)
/-- the number of items is known -/
def gTu (n : Nat) (fs : Ag) : Ex := fun Γ => (fs Γ).bind fun ds => some (.tup ds)
def gLst (fs : Ag) : Ag := fs
/-- displays are short: how many items is seen from the text -/
theorem A.len {X : Cx} : True := True.intro
end

/-- .. as a list of as many items as written -/
structure AN (X : Cx) (es : List Expr) (n : Nat) (f : Ag) : Prop where
  a : A X es f
  n : ∀ Γ ds, f Γ = some ds → ds.length = n
section
variable {X : Cx} {e a b : Expr} {es : List Expr} {f g : Ex} {fs : Ag} {pos : Pos} {n : Nat}
theorem n_nil : AN X [] 0 aN := ⟨a_nil, fun _ _ h => by cases h; rfl⟩
theorem n_cons (he : E X e f) (hr : AN X es n fs) (hs : starEach (e :: es) X.env = (false, eval e X.env) :: starEach es X.env := by rfl) : AN X (e :: es) (n + 1) (aC f fs) :=
  ⟨a_cons he hr.a hs, fun Γ ds h => by
    obtain ⟨d, e1, h⟩ := obind h
    obtain ⟨es, e2, h⟩ := obind h
    cases h
    simp [hr.n Γ es e2]⟩
theorem e_tup {x1} (h : AN X es n fs) (hn : n ≤ 1000 := by decide) : E X (.Tuple es x1 pos) (gTu n fs) := by
  obtain ⟨t, h1, h2⟩ := h.a.ex
  refine ⟨⟨_, pe_tup h1, fun G0 H0 Z Γ σ G H Q d R hf k => ?_⟩⟩
  obtain ⟨ds, e1, hf⟩ := obind hf
  cases hf
  refine h2 G0 H0 Z Γ σ G H _ ds R e1 fun G1 H1 vs x1 r1 => ⟨?_, fun p hp => ?_⟩
  · rw [r1.length, h.n Γ ds e1]; exact Nat.le_of_lt (small1000 hn)
  · have x2 := Ext.new1 (o := .tup vs) x1.gh hp
    exact k _ _ _ (x1.trans x2) (.tup (SqT.of upd_same) (r1.mono x2.gg))
theorem el_lst (h : AN X es n fs) (hn : n ≤ 1000 := by decide) : EL X (.List es pos) fs := by
  obtain ⟨t, h1, h2⟩ := h.a.ex
  refine ⟨⟨_, pe_lst h1, fun G0 H0 Z Γ σ G H Q ds R hf k => ?_⟩⟩
  refine h2 G0 H0 Z Γ σ G H _ ds R hf fun G1 H1 vs x1 r1 => ⟨?_, fun p hp => ?_⟩
  · rw [r1.length, h.n Γ ds hf]; exact Nat.le_of_lt (small1000 hn)
  · exact k _ _ p vs (x1.trans (Ext.own1 x1.gh hp)) (x1.hf hp) (x1.gh.free hp) upd_same r1
/-- a new list is handed on: known from now on -/
def gL (fs : Ag) : Ex := fun Γ => (fs Γ).bind fun ds => some (.lst ds)
theorem EL.fz (h : EL X e fs) : E X e (gL fs) := by
  obtain ⟨t, h1, h2⟩ := h.ex
  refine ⟨⟨_, h1, fun G0 H0 Z Γ σ G H Q d R hf k => ?_⟩⟩
  obtain ⟨ds, e1, hf⟩ := obind hf
  cases hf
  refine h2 G0 H0 Z Γ σ G H _ ds R e1 fun G1 H1 p vs x1 hp gp h r => ?_
  have sg : Same G1 (upd G1 p (.lst vs)) := same_upd gp
  exact k (upd G1 p (.lst vs)) H1 _ (x1.frz1 hp gp h) (.lst upd_same (r.mono sg))

/-! operators -/
def OpD (X : Cx) (fn : Value → Value → Sem Value) (o : D → D → Option D) : Prop :=
  ∃ r, OpR X fn r ∧ ∀ x y d v w G H Q, Same G H → o x y = some d → Rep X.K X.mg G v x → Rep X.K X.mg G w y → (∀ G' H' u, Ext G H G' H' → Rep X.K X.mg G' u d → Q u H') → r v w H Q
def gOp (o : D → D → Option D) (f g : Ex) : Ex := fun Γ => (f Γ).bind fun x => (g Γ).bind fun y => o x y
theorem op_run {r : R2} {o : D → D → Option D} (hr : ∀ x y d v w G H Q, Same G H → o x y = some d → Rep X.K X.mg G v x → Rep X.K X.mg G w y → (∀ G' H' u, Ext G H G' H' → Rep X.K X.mg G' u d → Q u H') → r v w H Q)
    {t u : TE} (h2 : ∀ G0 H0 Z Γ σ G H Q d, Rel X.K X.mg G0 H0 Z Γ σ G H → f Γ = some d → (∀ G' H' v, Ext G H G' H' → Rep X.K X.mg G' v d → Q v H') → t σ H Q)
    (q2 : ∀ G0 H0 Z Γ σ G H Q d, Rel X.K X.mg G0 H0 Z Γ σ G H → g Γ = some d → (∀ G' H' v, Ext G H G' H' → Rep X.K X.mg G' v d → Q v H') → u σ H Q) :
    ∀ G0 H0 Z Γ σ G H Q d, Rel X.K X.mg G0 H0 Z Γ σ G H → gOp o f g Γ = some d → (∀ G' H' v, Ext G H G' H' → Rep X.K X.mg G' v d → Q v H') → tOp r t u σ H Q := fun G0 H0 Z Γ σ G H Q d R hf k => by
  obtain ⟨x, e1, hf⟩ := obind hf
  obtain ⟨y, e2, hf⟩ := obind hf
  refine h2 G0 H0 Z Γ σ G H _ x R e1 fun G1 H1 v x1 r1 => ?_
  refine q2 G0 H0 Z Γ σ G1 H1 _ y (R.ext x1) e2 fun G2 H2 w x2 r2 => ?_
  exact hr x y d v w G2 H2 Q x2.gh hf (r1.mono x2.gg) r2 fun G3 H3 u x3 r3 => k G3 H3 u ((x1.trans x2).trans x3) r3
theorem e_op {op : Operator} {o : D → D → Option D} (ho : OpD X (binaryOp op) o) (ha : E X a f) (hb : E X b g) : E X (.BinOp a op b pos) (gOp o f g) := by
  obtain ⟨r, hr, hr2⟩ := ho
  obtain ⟨t, h1, h2⟩ := ha.ex
  obtain ⟨u, q1, q2⟩ := hb.ex
  exact ⟨⟨_, pe_op hr h1 q1, op_run hr2 h2 q2⟩⟩
theorem e_cmp {op : CmpOp} {o : D → D → Option D} (ho : OpD X (compareOp op) o) (ha : E X a f) (hb : E X b g) (hm : behindInMarks op b = false := by first | exact nomark _ | rfl) : E X (.Compare a [op] [b] pos) (gOp o f g) := by
  obtain ⟨r, hr, hr2⟩ := ho
  obtain ⟨t, h1, h2⟩ := ha.ex
  obtain ⟨u, q1, q2⟩ := hb.ex
  exact ⟨⟨_, pe_cmpR hr h1 q1 hm, op_run hr2 h2 q2⟩⟩
/-- an expression that gives True or False, as a test -/
def gT (f : Ex) : Te := fun Γ => (f Γ).bind fun d => match d with | .bl b => some b | _ => none
theorem gT_some {Γ : DEnv} {b : Bool} (h : gT f Γ = some b) : f Γ = some (.bl b) := by
  obtain ⟨d, e, h⟩ := obind h
  cases d with
  | bl c => cases h; exact e
  | _ => cases h
theorem t_cmp {op : CmpOp} {o : D → D → Option D} (ho : OpD X (compareOp op) o) (ha : E X a f) (hb : E X b g) (hm : behindInMarks op b = false := by first | exact nomark _ | rfl) : T X (.Compare a [op] [b] pos) (gT (gOp o f g)) := by
  obtain ⟨r, hr, hr2⟩ := ho
  obtain ⟨t, h1, h2⟩ := ha.ex
  obtain ⟨u, q1, q2⟩ := hb.ex
  refine ⟨⟨_, pt_cmpR hr h1 q1 hm, fun G0 H0 Z Γ σ G H Q c R hf k => ?_⟩⟩
  refine op_run hr2 h2 q2 G0 H0 Z Γ σ G H _ _ R (gT_some hf) fun G' H' v x r => ?_
  cases r
  exact ⟨_, rfl, k G' H' x⟩
theorem t_val (h : E X e f) (he : ∀ whole, isTrue e X.env whole = (do let v ← whole; standAt e.pos; holding [v] (truthy v)) := by intro _; rfl) : T X e (gT f) := by
  obtain ⟨t, h1, h2⟩ := h.ex
  refine ⟨⟨_, pt_val h1 he, fun G0 H0 Z Γ σ G H Q c R hf k => ?_⟩⟩
  refine h2 G0 H0 Z Γ σ G H _ _ R (gT_some hf) fun G' H' v x r => ?_
  cases r
  exact ⟨_, rfl, k G' H' x⟩
/-- .. of any kind, by its truth -/
def dTru : D → Option Bool
  | .non => some false
  | .bl b => some b
  | .int i => some (i != 0)
  | .lst xs => some (!xs.isEmpty)
  | .tup xs => some (!xs.isEmpty)
  | .str x => if x.length < 1000000 then some ((x.length : Int) != 0) else none
  | _ => none
def gTru (f : Ex) : Te := fun Γ => (f Γ).bind dTru
theorem line_big : (1000000 : Nat) ≤ sizeLine := by decide
theorem dTru_ok {K : PySem.W.Frag} {mg : Str → Option Value} {G' H' : Hp} {v : V} {d : D} {c : Bool} (gh : Same G' H') (hf : dTru d = some c) (r : RepB K mg G' H' v d) : TruV K v H' c := by
  have emp : ∀ {vs : List V} {xs : List D}, RepL K mg G' vs xs → (!vs.isEmpty) = !xs.isEmpty := fun r => by cases r <;> rfl
  cases d with
  | non => cases hf; cases r with | sh r => cases r; rfl
  | bl b => cases hf; cases r with | sh r => cases r; rfl
  | int i => cases hf; cases r with | sh r => cases r; rfl
  | str y =>
    cases r with
    | sh r =>
      cases r
      simp only [dTru] at hf
      split at hf
      · cases hf
        rename_i z
        exact ⟨Nat.le_trans (Nat.le_of_lt z) line_big, rfl⟩
      · cases hf
  | lst xs =>
    cases hf
    obtain ⟨p, vs, rfl, h, r⟩ := r.lst gh
    exact .inl ⟨vs, SqL.of h, (emp r).symm⟩
  | tup xs =>
    cases hf
    obtain ⟨p, vs, rfl, h, r⟩ := r.tup gh
    exact .inr (.inl ⟨vs, h, (emp r).symm⟩)
  | scr ns => cases hf
  | obj c ds => cases hf
  | fn a c q vs ds => cases hf
  | dic ks xs => cases hf
theorem t_tru (h : B X e f) (he : ∀ whole, isTrue e X.env whole = (do let v ← whole; standAt e.pos; holding [v] (truthy v)) := by intro _; rfl) : T X e (gTru f) := by
  obtain ⟨t, h1, h2⟩ := h.ex
  refine ⟨⟨_, pt_truth h1 he, fun G0 H0 Z Γ σ G H Q c R hf k => ?_⟩⟩
  obtain ⟨d, e1, hf⟩ := obind hf
  exact h2 G0 H0 Z Γ σ G H _ _ R e1 fun G' H' v x r => ⟨c, dTru_ok x.gh hf r, k G' H' x⟩
def gNot (f : Te) : Te := fun Γ => (f Γ).bind fun b => some (!b)
def gAnd (f g : Te) : Te := fun Γ => (f Γ).bind fun b => if b then g Γ else some false
def gOr (f g : Te) : Te := fun Γ => (f Γ).bind fun b => if b then some true else g Γ
variable {p q : Te} {rest : List Expr}
theorem t_not (h : T X e p) : T X (.UnaryOp .Not e pos) (gNot p) := by
  obtain ⟨t, h1, h2⟩ := h.ex
  refine ⟨⟨_, pt_not h1, fun G0 H0 Z Γ σ G H Q c R hf k => ?_⟩⟩
  obtain ⟨d, e1, hf⟩ := obind hf
  cases hf
  exact h2 G0 H0 Z Γ σ G H _ _ R e1 k
theorem W.t (h : W X e p) : T X e p := by
  obtain ⟨t, h1, h2⟩ := h.ex
  exact ⟨⟨t, h1.pt, h2⟩⟩
theorem w_and1 (h : T X a p) : W X (.BoolOp .And [a] pos) p := by
  obtain ⟨t, h1, h2⟩ := h.ex
  exact ⟨⟨_, pw_and1 h1, h2⟩⟩
theorem w_or1 (h : T X a p) : W X (.BoolOp .Or [a] pos) p := by
  obtain ⟨t, h1, h2⟩ := h.ex
  exact ⟨⟨_, pw_or1 h1, h2⟩⟩
theorem w_and (h : T X a p) (hr : W X (.BoolOp .And (b :: rest) pos) q) : W X (.BoolOp .And (a :: b :: rest) pos) (gAnd p q) := by
  obtain ⟨t, h1, h2⟩ := h.ex
  obtain ⟨u, q1, q2⟩ := hr.ex
  refine ⟨⟨_, pw_and h1 q1, fun G0 H0 Z Γ σ G H Q c R hf k => ?_⟩⟩
  obtain ⟨d, e1, hf⟩ := obind hf
  refine h2 G0 H0 Z Γ σ G H _ _ R e1 fun G' H' x => ?_
  cases d with
  | true =>
    refine iteT ?_
    exact q2 G0 H0 Z Γ σ G' H' _ _ (R.ext x) hf fun G2 H2 x2 => k G2 H2 (x.trans x2)
  | false =>
    refine iteF ?_
    cases hf
    exact k G' H' x
theorem w_or (h : T X a p) (hr : W X (.BoolOp .Or (b :: rest) pos) q) : W X (.BoolOp .Or (a :: b :: rest) pos) (gOr p q) := by
  obtain ⟨t, h1, h2⟩ := h.ex
  obtain ⟨u, q1, q2⟩ := hr.ex
  refine ⟨⟨_, pw_or h1 q1, fun G0 H0 Z Γ σ G H Q c R hf k => ?_⟩⟩
  obtain ⟨d, e1, hf⟩ := obind hf
  refine h2 G0 H0 Z Γ σ G H _ _ R e1 fun G' H' x => ?_
  cases d with
  | true =>
    refine iteT ?_
    cases hf
    exact k G' H' x
  | false =>
    refine iteF ?_
    exact q2 G0 H0 Z Γ σ G' H' _ _ (R.ext x) hf fun G2 H2 x2 => k G2 H2 (x.trans x2)
/-- tests as values -/
def gBl (p : Te) : Ex := fun Γ => (p Γ).bind fun b => some (.bl b)
/-- and, or of truth values as values -/
structure V1 (X : Cx) (e : Expr) (p : Te) : Prop where
  e : E X e (gBl p)
theorem E.v (h : E X e f) : V1 X e (gT f) := by
  obtain ⟨t, h1, h2⟩ := h.ex
  refine ⟨⟨⟨t, h1, fun G0 H0 Z Γ σ G H Q c R hf k => ?_⟩⟩⟩
  obtain ⟨d, e1, hf⟩ := obind hf
  cases hf
  exact h2 G0 H0 Z Γ σ G H _ _ R (gT_some e1) k
theorem v_one {op} (h : V1 X a p) : V1 X (.BoolOp op [a] pos) p := by
  obtain ⟨t, h1, h2⟩ := h.e.ex
  exact ⟨⟨⟨_, pe_one h1, h2⟩⟩⟩
theorem v_and (h : V1 X a p) (hr : V1 X (.BoolOp .And (b :: rest) pos) q) : V1 X (.BoolOp .And (a :: b :: rest) pos) (gAnd p q) := by
  obtain ⟨t, h1, h2⟩ := h.e.ex
  obtain ⟨u, q1, q2⟩ := hr.e.ex
  refine ⟨⟨⟨_, pe_and h1 q1, fun G0 H0 Z Γ σ G H Q c R hf k => ?_⟩⟩⟩
  obtain ⟨d0, e0, hf⟩ := obind hf
  cases hf
  obtain ⟨d, e1, hf⟩ := obind e0
  refine h2 G0 H0 Z Γ σ G H _ (.bl d) R (by show (p Γ).bind _ = _; rw [e1]; rfl) fun G' H' v x r => ?_
  cases r
  refine ⟨d, rfl, ?_⟩
  cases d with
  | true =>
    refine iteT ?_
    exact q2 G0 H0 Z Γ σ G' H' _ (.bl d0) (R.ext x) (by show (q Γ).bind _ = _; rw [show q Γ = some d0 from hf]; rfl) fun G2 H2 v x2 r => k G2 H2 v (x.trans x2) r
  | false =>
    refine iteF ?_
    cases hf
    exact k G' H' _ x (.bl _)
theorem v_or (h : V1 X a p) (hr : V1 X (.BoolOp .Or (b :: rest) pos) q) : V1 X (.BoolOp .Or (a :: b :: rest) pos) (gOr p q) := by
  obtain ⟨t, h1, h2⟩ := h.e.ex
  obtain ⟨u, q1, q2⟩ := hr.e.ex
  refine ⟨⟨⟨_, pe_or h1 q1, fun G0 H0 Z Γ σ G H Q c R hf k => ?_⟩⟩⟩
  obtain ⟨d0, e0, hf⟩ := obind hf
  cases hf
  obtain ⟨d, e1, hf⟩ := obind e0
  refine h2 G0 H0 Z Γ σ G H _ (.bl d) R (by show (p Γ).bind _ = _; rw [e1]; rfl) fun G' H' v x r => ?_
  cases r
  refine ⟨d, rfl, ?_⟩
  cases d with
  | true =>
    refine iteT ?_
    cases hf
    exact k G' H' _ x (.bl _)
  | false =>
    refine iteF ?_
    exact q2 G0 H0 Z Γ σ G' H' _ (.bl d0) (R.ext x) (by show (q Γ).bind _ = _; rw [show q Γ = some d0 from hf]; rfl) fun G2 H2 v x2 r => k G2 H2 v (x.trans x2) r
/-- not x as a value, x a truth value; or x by its truth (a list, a number) -/
theorem v_not (h : V1 X e p) : V1 X (.UnaryOp .Not e pos) (gNot p) := by
  obtain ⟨t, h1, h2⟩ := h.e.ex
  refine ⟨⟨⟨_, pe_not h1, fun G0 H0 Z Γ σ G H Q c R hf k => ?_⟩⟩⟩
  obtain ⟨d0, e0, hf⟩ := obind hf
  cases hf
  obtain ⟨d, e1, hf⟩ := obind e0
  cases hf
  refine h2 G0 H0 Z Γ σ G H _ (.bl d) R (by show (p Γ).bind _ = _; rw [e1]; rfl) fun G' H' v x r => ?_
  cases r
  exact ⟨d, rfl, k G' H' _ x (.bl _)⟩
/-- a if t else b -/
def gIf (t : Te) (f g : Ex) : Ex := fun Γ => (t Γ).bind fun b => if b then f Γ else g Γ
theorem e_if {c : Expr} (hc : T X c p) (ha : E X a f) (hb : E X b g) : E X (.IfExp c a b pos) (gIf p f g) := by
  obtain ⟨t, h1, h2⟩ := hc.ex
  obtain ⟨u, q1, q2⟩ := ha.ex
  obtain ⟨w, z1, z2⟩ := hb.ex
  refine ⟨⟨_, pe_ifExp h1 q1 z1, fun G0 H0 Z Γ σ G H Q d R hf k => ?_⟩⟩
  obtain ⟨b, e1, hf⟩ := obind hf
  refine h2 G0 H0 Z Γ σ G H _ _ R e1 fun G' H' x => ?_
  cases b with
  | true => exact iteT (q2 G0 H0 Z Γ σ G' H' _ _ (R.ext x) hf fun G2 H2 v x2 r => k G2 H2 v (x.trans x2) r)
  | false => exact iteF (z2 G0 H0 Z Γ σ G' H' _ _ (R.ext x) hf fun G2 H2 v x2 r => k G2 H2 v (x.trans x2) r)
end
end DL

namespace DL
open PySem L2
variable [TC : TabCtx]

/-! ### operators by data -/
theorem opr_or {X : Cx} {fn : Value → Value → Sem Value} {r r' : R2} (h : OpR X fn r) (h' : OpR X fn r') : OpR X fn (fun x y H Q => r x y H Q ∨ r' x y H Q) := by
  intro pins s σ H x y v u Q I rx ry q
  rcases q with q | q
  · exact h pins s σ H x y v u Q I rx ry q
  · exact h' pins s σ H x y v u Q I rx ry q
def dAdd : D → D → Option D
  | .int i, .int j => some (.int (i + j))
  | .str x, .str y => if x.length + y.length < 1000000 then some (.str (x ++ y)) else none
  | .lst xs, .lst ys => if xs.length + ys.length < 1000000 then some (.lst (xs ++ ys)) else none
  | _, _ => none
def dSub : D → D → Option D
  | .int i, .int j => some (.int (i - j))
  | _, _ => none
def mulOk (a b : Int) : Bool := !(decide (Builtin.Int.intBits a > shortFactorBits) && decide (Builtin.Int.intBits b > shortFactorBits) && Builtin.Int.intTooBig (Builtin.Int.intBits a + Builtin.Int.intBits b))
def dMul : D → D → Option D
  | .int i, .int j => if mulOk i j then some (.int (i * j)) else none
  | _, _ => none
def dDiv : D → D → Option D
  | .int i, .int j => if 0 < j ∧ j.natAbs.log2 < 9000 then some (.int (i / j)) else none
  | _, _ => none
def dMod : D → D → Option D
  | .int i, .int j => if 0 < j then some (.int (i % j)) else none
  | _, _ => none
def dPow : D → D → Option D
  | .int i, .int j => if 0 ≤ j ∧ j ≤ 1000000 ∧ i.natAbs < 2 ^ 64 then some (.int (i ^ j.toNat)) else none
  | _, _ => none
def dLt : D → D → Option D
  | .int i, .int j => some (.bl (decide (i < j)))
  | _, _ => none
def dLe : D → D → Option D
  | .int i, .int j => some (.bl (decide (i ≤ j)))
  | _, _ => none
def dGt : D → D → Option D
  | .int i, .int j => some (.bl (decide (j < i)))
  | _, _ => none
def dGe : D → D → Option D
  | .int i, .int j => some (.bl (decide (j ≤ i)))
  | _, _ => none
section
variable {X : Cx}
theorem op_mulOk : OpR X (binaryOp .Mult) (rI (fun i j => mulOk i j = true) fun i j => .int (i * j)) := opI fun _ _ _ _ _ _ _ hc q => PyProof.Rows.mul_int q (by
  unfold IntMulOk
  unfold mulOk at hc
  intro z
  rw [z] at hc
  cases hc)
/-- an operator of two ints whose answer is a scalar -/
theorem opd_i {fn : Value → Value → Sem Value} {C : Int → Int → Prop} {g : Int → Int → V} {o : D → D → Option D} (h : OpR X fn (rI C g)) (ho : ∀ x y d, o x y = some d → ∃ i j, x = .int i ∧ y = .int j ∧ C i j ∧ ∀ K mg G, Rep K mg G (g i j) d) : OpD X fn o := by
  refine ⟨_, h, fun x y d v w G H Q gh e rx ry k => ?_⟩
  obtain ⟨i, j, rfl, rfl, c, q⟩ := ho x y d e
  cases rx
  cases ry
  exact ⟨i, j, rfl, rfl, c, k G H _ (Ext.refl gh) (q _ _ _)⟩
theorem opd_i0 {fn : Value → Value → Sem Value} {g : Int → Int → V} {o : D → D → Option D} (h : OpR X fn (rI0 g)) (ho : ∀ x y d, o x y = some d → ∃ i j, x = .int i ∧ y = .int j ∧ ∀ K mg G, Rep K mg G (g i j) d) : OpD X fn o := by
  refine ⟨_, h, fun x y d v w G H Q gh e rx ry k => ?_⟩
  obtain ⟨i, j, rfl, rfl, q⟩ := ho x y d e
  cases rx
  cases ry
  exact ⟨i, j, rfl, rfl, k G H _ (Ext.refl gh) (q _ _ _)⟩
theorem od_add : OpD X (binaryOp .Add) dAdd := by
  refine ⟨_, opr_or op_add (opr_or op_add_str op_cat), fun x y d v w G H Q gh e rx ry k => ?_⟩
  unfold dAdd at e
  split at e
  · cases e; cases rx; cases ry
    exact .inl ⟨_, _, rfl, rfl, k G H _ (Ext.refl gh) (.int _)⟩
  · split at e
    · cases e; cases rx; cases ry
      rename_i z
      exact .inr (.inl ⟨_, _, rfl, rfl, Nat.le_trans (Nat.le_of_lt z) line_big, k G H _ (Ext.refl gh) (.str _)⟩)
    · cases e
  · split at e
    · cases e
      rename_i z
      cases rx with
      | lst h1 r1 =>
        cases ry with
        | lst h2 r2 =>
          refine .inr (.inr ⟨_, _, _, _, rfl, rfl, gh _ _ h1, gh _ _ h2, ?_, fun p hp => ?_⟩)
          · rw [r1.length, r2.length]; exact Nat.le_trans (Nat.le_of_lt z) line_big
          · exact k _ _ _ (Ext.new1 gh hp) (.lst upd_same ((r1.append r2).mono (same_upd (gh.free hp))))
    · cases e
  · cases e
theorem od_sub : OpD X (binaryOp .Sub) dSub := opd_i0 op_sub fun x y d e => by
  unfold dSub at e
  split at e
  · cases e; exact ⟨_, _, rfl, rfl, fun _ _ _ => .int _⟩
  · cases e
theorem od_mul : OpD X (binaryOp .Mult) dMul := opd_i op_mulOk fun x y d e => by
  unfold dMul at e
  split at e
  · split at e
    · cases e; rename_i z; exact ⟨_, _, rfl, rfl, z, fun _ _ _ => .int _⟩
    · cases e
  · cases e
theorem od_div : OpD X (binaryOp .FloorDiv) dDiv := opd_i op_fdivW fun x y d e => by
  unfold dDiv at e
  split at e
  · split at e
    · cases e; rename_i z; exact ⟨_, _, rfl, rfl, z, fun _ _ _ => .int _⟩
    · cases e
  · cases e
theorem od_mod : OpD X (binaryOp .Mod) dMod := opd_i op_mod fun x y d e => by
  unfold dMod at e
  split at e
  · split at e
    · cases e; rename_i z; exact ⟨_, _, rfl, rfl, z, fun _ _ _ => .int _⟩
    · cases e
  · cases e
theorem od_pow : OpD X (binaryOp .Pow) dPow := opd_i op_pow fun x y d e => by
  unfold dPow at e
  split at e
  · split at e
    · cases e; rename_i z; exact ⟨_, _, rfl, rfl, z, fun _ _ _ => .int _⟩
    · cases e
  · cases e
theorem od_lt : OpD X (compareOp .Lt) dLt := opd_i0 op_lt fun x y d e => by
  unfold dLt at e
  split at e
  · cases e; exact ⟨_, _, rfl, rfl, fun _ _ _ => .bl _⟩
  · cases e
theorem od_le : OpD X (compareOp .LtE) dLe := opd_i0 op_le fun x y d e => by
  unfold dLe at e
  split at e
  · cases e; exact ⟨_, _, rfl, rfl, fun _ _ _ => .bl _⟩
  · cases e
theorem od_gt : OpD X (compareOp .Gt) dGt := opd_i0 op_gt fun x y d e => by
  unfold dGt at e
  split at e
  · cases e; exact ⟨_, _, rfl, rfl, fun _ _ _ => .bl _⟩
  · cases e
theorem od_ge : OpD X (compareOp .GtE) dGe := opd_i0 op_ge fun x y d e => by
  unfold dGe at e
  split at e
  · cases e; exact ⟨_, _, rfl, rfl, fun _ _ _ => .bl _⟩
  · cases e
end

/-! equality -/
mutual
def toPy : D → PyData
  | .non => .none
  | .bl b => .bool b
  | .int i => .int i
  | .str x => .str x
  | .lst xs => .list (toPys xs)
  | .tup xs => .tuple (toPys xs)
  | .scr ns => .list (ns.map PyData.int)
  | .obj _ _ => .none
  | .fn _ _ _ _ _ => .none
  | .dic _ _ => .none
def toPys : List D → List PyData
  | [] => []
  | x :: xs => toPy x :: toPys xs
end
mutual
def pyOk : D → Bool
  | .obj _ _ => false
  | .fn _ _ _ _ _ => false
  | .dic _ _ => false
  | .lst xs => pyOks xs
  | .tup xs => pyOks xs
  | _ => true
def pyOks : List D → Bool
  | [] => true
  | x :: xs => pyOk x && pyOks xs
end
section
variable {K : PySem.W.Frag} {mg : Str → Option Value} {G H : Hp}
theorem dpInts : ∀ ns : List Int, DpAll K H (ns.map V.int) (ns.map PyData.int)
  | [] => .nil
  | n :: ns => .cons (.int n) (dpInts ns)
mutual
theorem Rep.dp (gh : Same G H) : ∀ {v : V} {d : D}, Rep K mg G v d → pyOk d = true → Dp K H v (toPy d)
  | _, _, .non, _ => by rw [toPy]; exact .non
  | _, _, .bl b, _ => by rw [toPy]; exact .bl b
  | _, _, .int i, _ => by rw [toPy]; exact .int i
  | _, _, .str x, _ => by rw [toPy]; exact .str x
  | _, _, .lst h r, e => by rw [toPy]; exact .lst (SqL.of (gh _ _ h)) (RepL.dp gh r (by simpa [pyOk] using e))
  | _, _, .tup h r, e => by rw [toPy]; exact .tup (sqt_same gh h) (RepL.dp gh r (by simpa [pyOk] using e))
  | _, _, .scr h, _ => by rw [toPy]; exact .lst (gh.seq h) (dpInts _)
  | _, _, .obj _ _ _, e => by simp [pyOk] at e
  | _, _, .fn _ _, e => by simp [pyOk] at e
  | _, _, .dic _ _ _, e => by simp [pyOk] at e
theorem RepL.dp (gh : Same G H) : ∀ {v : List V} {d : List D}, RepL K mg G v d → pyOks d = true → DpAll K H v (toPys d)
  | _, _, .nil, _ => by rw [toPys]; exact .nil
  | _, _, .cons h r, e => by
    rw [toPys]
    have e' := e
    simp only [pyOks, Bool.and_eq_true] at e'
    exact .cons (Rep.dp gh h e'.1) (RepL.dp gh r e'.2)
end
theorem RepB.dp (gh : Same G H) {v : V} {d : D} (r : RepB K mg G H v d) (e : pyOk d = true) : Dp K H v (toPy d) := by
  cases r with
  | sh r => exact r.dp gh e
  | li h r => rw [toPy]; exact .lst (SqL.of h) (r.dp gh (by simpa [pyOk] using e))
  | obj hm h r => simp [pyOk] at e
  | dic h l r => simp [pyOk] at e
end
/-- == of data -/
def eqd (x y : D) : Bool := PyData.eqv (toPy x) (toPy y)
def eqOk (x : D) : Bool := pyOk x && SeqAt.shaped (toPy x)
def dEq (x y : D) : Option D := if eqOk x && eqOk y then some (.bl (eqd x y)) else none
def dNe (x y : D) : Option D := if eqOk x && eqOk y then some (.bl (!eqd x y)) else none
/-- is None, is not None -/
def isNon : D → Bool
  | .non => true
  | _ => false
def dIsN : D → D → Option D
  | x, .non => some (.bl (isNon x))
  | .bl a, .bl b => some (.bl (decide (a = b)))
  | _, _ => none
def dNoN : D → D → Option D
  | x, .non => some (.bl (!isNon x))
  | .bl a, .bl b => some (.bl (!decide (a = b)))
  | _, _ => none
section
variable {X : Cx} {e a b : Expr} {es : List Expr} {f g : Ex} {fs : Ag} {pos : Pos} {n : Nat}
/-- of what is looked at -/
def OpB (X : Cx) (fn : Value → Value → Sem Value) (o : D → D → Option D) : Prop :=
  ∃ r, OpR X fn r ∧ ∀ x y d v w G H Q, Same G H → o x y = some d → RepB X.K X.mg G H v x → RepB X.K X.mg G H w y → (∀ G' H' u, Ext G H G' H' → Rep X.K X.mg G' u d → Q u H') → r v w H Q
theorem opb_run {r : R2} {o : D → D → Option D} (hr : ∀ x y d v w G H Q, Same G H → o x y = some d → RepB X.K X.mg G H v x → RepB X.K X.mg G H w y → (∀ G' H' u, Ext G H G' H' → Rep X.K X.mg G' u d → Q u H') → r v w H Q)
    {t u : TE} (h2 : ∀ G0 H0 Z Γ σ G H Q d, Rel X.K X.mg G0 H0 Z Γ σ G H → f Γ = some d → (∀ G' H' v, Ext G H G' H' → RepB X.K X.mg G' H' v d → Q v H') → t σ H Q)
    (q2 : ∀ G0 H0 Z Γ σ G H Q d, Rel X.K X.mg G0 H0 Z Γ σ G H → g Γ = some d → (∀ G' H' v, Ext G H G' H' → RepB X.K X.mg G' H' v d → Q v H') → u σ H Q) :
    ∀ G0 H0 Z Γ σ G H Q d, Rel X.K X.mg G0 H0 Z Γ σ G H → gOp o f g Γ = some d → (∀ G' H' v, Ext G H G' H' → Rep X.K X.mg G' v d → Q v H') → tOp r t u σ H Q := fun G0 H0 Z Γ σ G H Q d R hf k => by
  obtain ⟨x, e1, hf⟩ := obind hf
  obtain ⟨y, e2, hf⟩ := obind hf
  refine h2 G0 H0 Z Γ σ G H _ x R e1 fun G1 H1 v x1 r1 => ?_
  refine q2 G0 H0 Z Γ σ G1 H1 _ y (R.ext x1) e2 fun G2 H2 w x2 r2 => ?_
  exact hr x y d v w G2 H2 Q x2.gh hf (r1.ext x2) r2 fun G3 H3 u x3 r3 => k G3 H3 u ((x1.trans x2).trans x3) r3
theorem e_cmpB {op : CmpOp} {o : D → D → Option D} (ho : OpB X (compareOp op) o) (ha : B X a f) (hb : B X b g) (hm : behindInMarks op b = false := by first | exact nomark _ | rfl) : E X (.Compare a [op] [b] pos) (gOp o f g) := by
  obtain ⟨r, hr, hr2⟩ := ho
  obtain ⟨t, h1, h2⟩ := ha.ex
  obtain ⟨u, q1, q2⟩ := hb.ex
  exact ⟨⟨_, pe_cmpR hr h1 q1 hm, opb_run hr2 h2 q2⟩⟩
theorem t_cmpB {op : CmpOp} {o : D → D → Option D} (ho : OpB X (compareOp op) o) (ha : B X a f) (hb : B X b g) (hm : behindInMarks op b = false := by first | exact nomark _ | rfl) : T X (.Compare a [op] [b] pos) (gT (gOp o f g)) := by
  obtain ⟨r, hr, hr2⟩ := ho
  obtain ⟨t, h1, h2⟩ := ha.ex
  obtain ⟨u, q1, q2⟩ := hb.ex
  refine ⟨⟨_, pt_cmpR hr h1 q1 hm, fun G0 H0 Z Γ σ G H Q c R hf k => ?_⟩⟩
  refine opb_run hr2 h2 q2 G0 H0 Z Γ σ G H _ _ R (gT_some hf) fun G' H' v x r => ?_
  cases r
  exact ⟨_, rfl, k G' H' x⟩
theorem ob_eq (hu : X.A.units + 64 < cLine) : OpB X (compareOp .Eq) dEq := by
  refine ⟨_, op_eqD hu, fun x y d v w G H Q gh e rx ry k => ?_⟩
  unfold dEq at e
  split at e
  · rename_i z
    cases e
    simp only [eqOk, Bool.and_eq_true] at z
    exact ⟨_, _, rx.dp gh z.1.1, ry.dp gh z.2.1, z.1.2, z.2.2, k G H _ (Ext.refl gh) (.bl _)⟩
  · cases e
theorem ob_ne (hu : X.A.units + 64 < cLine) : OpB X (compareOp .NotEq) dNe := by
  refine ⟨_, op_neD hu, fun x y d v w G H Q gh e rx ry k => ?_⟩
  unfold dNe at e
  split at e
  · rename_i z
    cases e
    simp only [eqOk, Bool.and_eq_true] at z
    exact ⟨_, _, rx.dp gh z.1.1, ry.dp gh z.2.1, z.1.2, z.2.2, k G H _ (Ext.refl gh) (.bl _)⟩
  · cases e
theorem ob_isN : OpB X (compareOp .Is) dIsN := by
  refine ⟨_, opr_or op_isN op_isBl, fun x y d v w G H Q gh e rx ry k => ?_⟩
  have nb : ∀ {w : V}, RepB X.K X.mg G H w .non → w = .non := fun r => by
    cases r with | sh r => cases r; rfl
  have bb : ∀ {w : V} {b : Bool}, RepB X.K X.mg G H w (.bl b) → w = .bl b := fun r => by
    cases r with | sh r => cases r; rfl
  unfold dIsN at e
  split at e
  · cases e
    have e2 := nb ry
    subst e2
    refine .inl ⟨rfl, k G H _ (Ext.refl gh) ?_⟩
    have q : decide (v = V.non) = isNon x := by
      cases x with
      | non => rw [nb rx]; rfl
      | lst xs => obtain ⟨_, _, rfl, _⟩ := rx.lst gh; rfl
      | bl b => rw [bb rx]; rfl
      | obj c ds => cases rx with
        | sh rx => cases rx; rfl
        | obj _ _ _ => rfl
      | dic _ _ => cases rx with
        | sh rx => cases rx; rfl
        | dic _ _ _ => rfl
      | _ => cases rx with | sh rx => cases rx; rfl
    rw [q]
    exact .bl _
  · cases e
    rw [bb rx, bb ry]
    exact .inr ⟨_, _, rfl, rfl, k G H _ (Ext.refl gh) (.bl _)⟩
  · cases e
theorem ob_noN : OpB X (compareOp .IsNot) dNoN := by
  refine ⟨_, opr_or op_notN op_notBl, fun x y d v w G H Q gh e rx ry k => ?_⟩
  have nb : ∀ {w : V}, RepB X.K X.mg G H w .non → w = .non := fun r => by
    cases r with | sh r => cases r; rfl
  have bb : ∀ {w : V} {b : Bool}, RepB X.K X.mg G H w (.bl b) → w = .bl b := fun r => by
    cases r with | sh r => cases r; rfl
  unfold dNoN at e
  split at e
  · cases e
    have e2 := nb ry
    subst e2
    refine .inl ⟨rfl, k G H _ (Ext.refl gh) ?_⟩
    have q : (!decide (v = V.non)) = !isNon x := by
      cases x with
      | non => rw [nb rx]; rfl
      | lst xs => obtain ⟨_, _, rfl, _⟩ := rx.lst gh; rfl
      | bl b => rw [bb rx]; rfl
      | obj c ds => cases rx with
        | sh rx => cases rx; rfl
        | obj _ _ _ => rfl
      | dic _ _ => cases rx with
        | sh rx => cases rx; rfl
        | dic _ _ _ => rfl
      | _ => cases rx with | sh rx => cases rx; rfl
    rw [q]
    exact .bl _
  · cases e
    rw [bb rx, bb ry]
    exact .inr ⟨_, _, rfl, rfl, k G H _ (Ext.refl gh) (.bl _)⟩
  · cases e

/-! a comparison in a row: a < b <= c -/
structure PCh (X : Cx) (ops : List CmpOp) (es : List Expr) (t : V → TE) : Prop where
  run : ∀ (pos : Pos) (pins : List (Addr × Obj)) (s : Shared) (σ : L2.St) (H : Hp) (Q : VK) (x : V) (v : Value), Inv X pins σ H s → RelV x v → t x σ H Q →
    wpAny (model X.prog X.w) X.A (compareChain pos v ops (evalEach es X.env)) (EP X pins σ Q) X.xe s
structure PTCh (X : Cx) (ops : List CmpOp) (es : List Expr) (t : V → TT) : Prop where
  run : ∀ (pos : Pos) (pins : List (Addr × Obj)) (s : Shared) (σ : L2.St) (H : Hp) (Q : Bool → Hp → Prop) (x : V) (v : Value), Inv X pins σ H s → RelV x v → t x σ H Q →
    wpAny (model X.prog X.w) X.A (testChain pos v ops (evalEach es X.env)) (TP X pins σ Q) X.xe s
variable {op op' : CmpOp} {ops : List CmpOp} {r r' : R2} {ta tb : TE} {tc : V → TE} {tt : V → TT} {pos' : Pos}
theorem pch_last (ho : OpR X (compareOp op) r) (hb : PE X b tb) : PCh X [op] [b] (fun x σ H Q => tb σ H fun y H1 => r x y H1 Q) := by
  refine ⟨fun pos pins s σ H Q x v I rx h => ?_⟩
  exact PyProof.Rows.chain_last (thn (hb.run pins s σ H _ I h) fun u s2 ⟨y, H2, I2, r2, q2⟩ => ho pins s2 σ H2 x y v u _ I2 rx r2 q2)
theorem pch_cons (ho : OpR X (compareOp op) r) (ha : PE X a ta) (hc : PCh X (op' :: ops) (b :: es) tc) : PCh X (op :: op' :: ops) (a :: b :: es) (fun x σ H Q => ta σ H fun y H1 => r x y H1 fun z H2 => ∃ k, z = .bl k ∧ if k = true then tc y σ H2 Q else Q (.bl false) H2) := by
  refine ⟨fun pos pins s σ H Q x v I rx h => ?_⟩
  refine PyProof.Rows.chain_link (thn (ha.run pins s σ H _ I h) fun u s2 ⟨y, H2, I2, r2, q2⟩ => thn (ho pins s2 σ H2 x y v u _ I2 rx r2 q2) fun d s3 ⟨z, H3, I3, r3, k, e, q3⟩ => ?_)
  subst e
  cases r3
  refine wpAny_truthy_bool ?_
  cases k with
  | false => exact PyProof.Rows.ite_ff ⟨.bl false, H3, I3, rfl, q3⟩
  | true => exact PyProof.Rows.ite_tt (hc.run pos pins s3 σ H3 Q y u I3 r2 q3)
theorem pe_chn (ha : PE X e ta) (hc : PCh X (op :: op' :: ops) (a :: b :: es) tc) (hm : lastMarks (op :: op' :: ops) (a :: b :: es) = false := by with_unfolding_all rfl) : PE X (.Compare e (op :: op' :: ops) (a :: b :: es) pos) (fun σ H Q => ta σ H fun x H1 => tc x σ H1 Q) := by
  refine ⟨fun pins s σ H Q I h => ?_⟩
  exact PyProof.Rows.Compare_chain (thn (ha.run pins s σ H _ I h) fun v s1 ⟨x, H1, I1, r1, q1⟩ => hc.run pos pins s1 σ H1 Q x v I1 r1 q1) hm
theorem ptch_last (ho : OpR X (compareOp op) r) (hb : PE X b tb) : PTCh X [op] [b] (fun x σ H Q => tb σ H fun y H1 => r x y H1 fun z H2 => ∃ k, z = .bl k ∧ Q k H2) := by
  refine ⟨fun pos pins s σ H Q x v I rx h => ?_⟩
  refine PyProof.Rows.test_last (thn (hb.run pins s σ H _ I h) fun u s2 ⟨y, H2, I2, r2, q2⟩ => thn (ho pins s2 σ H2 x y v u _ I2 rx r2 q2) fun d s3 ⟨z, H3, I3, r3, k, e, q3⟩ => ?_)
  subst e
  cases r3
  exact wpAny_truthy_bool ⟨H3, I3, q3⟩
theorem ptch_cons (ho : OpR X (compareOp op) r) (ha : PE X a ta) (hc : PTCh X (op' :: ops) (b :: es) tt) : PTCh X (op :: op' :: ops) (a :: b :: es) (fun x σ H Q => ta σ H fun y H1 => r x y H1 fun z H2 => ∃ k, z = .bl k ∧ if k = true then tt y σ H2 Q else Q false H2) := by
  refine ⟨fun pos pins s σ H Q x v I rx h => ?_⟩
  refine PyProof.Rows.test_link (thn (ha.run pins s σ H _ I h) fun u s2 ⟨y, H2, I2, r2, q2⟩ => thn (ho pins s2 σ H2 x y v u _ I2 rx r2 q2) fun d s3 ⟨z, H3, I3, r3, k, e, q3⟩ => ?_)
  subst e
  cases r3
  refine wpAny_truthy_bool ?_
  cases k with
  | false => exact PyProof.Rows.ite_ff ⟨H3, I3, q3⟩
  | true => exact PyProof.Rows.ite_tt (hc.run pos pins s3 σ H3 Q y u I3 r2 q3)
theorem pt_chn (ha : PE X e ta) (hc : PTCh X (op :: op' :: ops) (a :: b :: es) tt) (hm : lastMarks (op :: op' :: ops) (a :: b :: es) = false := by with_unfolding_all rfl) : PT X (.Compare e (op :: op' :: ops) (a :: b :: es) pos) (fun σ H Q => ta σ H fun x H1 => tt x σ H1 Q) := by
  refine ⟨fun pins s σ H Q I h => ?_⟩
  exact PyProof.Rows.isTrue_chain (thn (ha.run pins s σ H _ I h) fun v s1 ⟨x, H1, I1, r1, q1⟩ => hc.run pos pins s1 σ H1 Q x v I1 r1 q1) hm
/-- by data -/
structure Ch (X : Cx) (ops : List CmpOp) (es : List Expr) (f : D → Te) : Prop where
  ex : ∃ t u, PCh X ops es t ∧ PTCh X ops es u ∧
    (∀ G0 H0 Z Γ σ G H Q d x v, Rel X.K X.mg G0 H0 Z Γ σ G H → Rep X.K X.mg G v x → f x Γ = some d → (∀ G' H', Ext G H G' H' → Q (.bl d) H') → t v σ H Q) ∧
    (∀ G0 H0 Z Γ σ G H Q d x v, Rel X.K X.mg G0 H0 Z Γ σ G H → Rep X.K X.mg G v x → f x Γ = some d → (∀ G' H', Ext G H G' H' → Q d H') → u v σ H Q)
def dB : Option D → Option Bool
  | some (.bl b) => some b
  | _ => none
theorem dB_some {o : Option D} {b : Bool} (h : dB o = some b) : o = some (.bl b) := by
  unfold dB at h
  split at h
  · cases h; rfl
  · cases h
def gCh1 (o : D → D → Option D) (f : Ex) : D → Te := fun x Γ => (f Γ).bind fun y => dB (o x y)
def gChn (o : D → D → Option D) (f : Ex) (r : D → Te) : D → Te := fun x Γ => (f Γ).bind fun y => (dB (o x y)).bind fun b => if b then r y Γ else some false
variable {o : D → D → Option D} {c : D → Te}
theorem c_last (ho : OpD X (compareOp op) o) (hb : E X b f) : Ch X [op] [b] (gCh1 o f) := by
  obtain ⟨r, hr, hr2⟩ := ho
  obtain ⟨t, h1, h2⟩ := hb.ex
  refine ⟨⟨_, _, pch_last hr h1, ptch_last hr h1, fun G0 H0 Z Γ σ G H Q d x v R rx hf k => ?_, fun G0 H0 Z Γ σ G H Q d x v R rx hf k => ?_⟩⟩
  · obtain ⟨y, e1, hf⟩ := obind hf
    refine h2 G0 H0 Z Γ σ G H _ y R e1 fun G1 H1 w x1 r1 => ?_
    refine hr2 x y _ v w G1 H1 _ x1.gh (dB_some hf) (rx.mono x1.gg) r1 fun G2 H2 u x2 r2 => ?_
    cases r2
    exact k G2 H2 (x1.trans x2)
  · obtain ⟨y, e1, hf⟩ := obind hf
    refine h2 G0 H0 Z Γ σ G H _ y R e1 fun G1 H1 w x1 r1 => ?_
    refine hr2 x y _ v w G1 H1 _ x1.gh (dB_some hf) (rx.mono x1.gg) r1 fun G2 H2 u x2 r2 => ?_
    cases r2
    exact ⟨_, rfl, k G2 H2 (x1.trans x2)⟩
theorem c_cons (ho : OpD X (compareOp op) o) (ha : E X a f) (hc : Ch X (op' :: ops) (b :: es) c) : Ch X (op :: op' :: ops) (a :: b :: es) (gChn o f c) := by
  obtain ⟨r, hr, hr2⟩ := ho
  obtain ⟨t, h1, h2⟩ := ha.ex
  obtain ⟨tc, tt, c1, c2, c3, c4⟩ := hc.ex
  refine ⟨⟨_, _, pch_cons hr h1 c1, ptch_cons hr h1 c2, fun G0 H0 Z Γ σ G H Q d x v R rx hf k => ?_, fun G0 H0 Z Γ σ G H Q d x v R rx hf k => ?_⟩⟩
  · obtain ⟨y, e1, hf⟩ := obind hf
    obtain ⟨z, e2, hf⟩ := obind hf
    refine h2 G0 H0 Z Γ σ G H _ y R e1 fun G1 H1 w x1 r1 => ?_
    refine hr2 x y _ v w G1 H1 _ x1.gh (dB_some e2) (rx.mono x1.gg) r1 fun G2 H2 u x2 r2 => ?_
    cases r2
    refine ⟨_, rfl, ?_⟩
    cases z with
    | true => exact iteT (c3 G0 H0 Z Γ σ G2 H2 Q d y w ((R.ext x1).ext x2) (r1.mono x2.gg) hf fun G3 H3 x3 => k G3 H3 ((x1.trans x2).trans x3))
    | false => cases hf; exact iteF (k G2 H2 (x1.trans x2))
  · obtain ⟨y, e1, hf⟩ := obind hf
    obtain ⟨z, e2, hf⟩ := obind hf
    refine h2 G0 H0 Z Γ σ G H _ y R e1 fun G1 H1 w x1 r1 => ?_
    refine hr2 x y _ v w G1 H1 _ x1.gh (dB_some e2) (rx.mono x1.gg) r1 fun G2 H2 u x2 r2 => ?_
    cases r2
    refine ⟨_, rfl, ?_⟩
    cases z with
    | true => exact iteT (c4 G0 H0 Z Γ σ G2 H2 Q d y w ((R.ext x1).ext x2) (r1.mono x2.gg) hf fun G3 H3 x3 => k G3 H3 ((x1.trans x2).trans x3))
    | false => cases hf; exact iteF (k G2 H2 (x1.trans x2))
def gCh (f : Ex) (c : D → Te) : Te := fun Γ => (f Γ).bind fun x => c x Γ
theorem v_chn (ha : E X e f) (hc : Ch X (op :: op' :: ops) (a :: b :: es) c) (hm : lastMarks (op :: op' :: ops) (a :: b :: es) = false := by with_unfolding_all rfl) : V1 X (.Compare e (op :: op' :: ops) (a :: b :: es) pos) (gCh f c) := by
  obtain ⟨t, h1, h2⟩ := ha.ex
  obtain ⟨tc, tt, c1, c2, c3, c4⟩ := hc.ex
  refine ⟨⟨⟨_, pe_chn h1 c1 hm, fun G0 H0 Z Γ σ G H Q d R hf k => ?_⟩⟩⟩
  obtain ⟨y, e1, hf⟩ := obind hf
  cases hf
  obtain ⟨x, e1, hf⟩ := obind e1
  refine h2 G0 H0 Z Γ σ G H _ x R e1 fun G1 H1 w x1 r1 => ?_
  exact c3 G0 H0 Z Γ σ G1 H1 Q _ x w (R.ext x1) r1 hf fun G2 H2 x2 => k G2 H2 _ (x1.trans x2) (.bl _)
theorem t_chn (ha : E X e f) (hc : Ch X (op :: op' :: ops) (a :: b :: es) c) (hm : lastMarks (op :: op' :: ops) (a :: b :: es) = false := by with_unfolding_all rfl) : T X (.Compare e (op :: op' :: ops) (a :: b :: es) pos) (gCh f c) := by
  obtain ⟨t, h1, h2⟩ := ha.ex
  obtain ⟨tc, tt, c1, c2, c3, c4⟩ := hc.ex
  refine ⟨⟨_, pt_chn h1 c2 hm, fun G0 H0 Z Γ σ G H Q d R hf k => ?_⟩⟩
  obtain ⟨x, e1, hf⟩ := obind hf
  refine h2 G0 H0 Z Γ σ G H _ x R e1 fun G1 H1 w x1 r1 => ?_
  exact c4 G0 H0 Z Γ σ G1 H1 Q _ x w (R.ext x1) r1 hf fun G2 H2 x2 => k G2 H2 (x1.trans x2)
end
end DL

namespace DL
open PySem L2
variable [TC : TabCtx]

section
variable {K : PySem.W.Frag} {mg : Str → Option Value} {G H : Hp}
theorem atI_map {α β : Type} {xs : List α} {i : Int} {f : α → β} : atI (xs.map f) i = (atI xs i).map f := by
  unfold atI
  rw [List.length_map]
  cases ixN xs.length i with
  | none => rfl
  | some j => simp [List.getElem?_map]
theorem RepL.at {vs : List V} {ds : List D} {i : Int} {d : D} (r : RepL K mg G vs ds) (h : atI ds i = some d) : ∃ v, atI vs i = some v ∧ Rep K mg G v d := by
  unfold atI at h ⊢
  rw [r.length]
  cases e : ixN ds.length i with
  | none => rw [e] at h; cases h
  | some j =>
    rw [e] at h
    exact r.get j h
/-- what a slice takes -/
def cutD {α : Type} (xs : List α) (lo hi : Option Int) : List α := (xs.drop (HT.sIx xs.length 0 lo)).take (HT.sIx xs.length xs.length hi - HT.sIx xs.length 0 lo)
theorem RepL.cut {vs : List V} {ds : List D} {lo hi : Option Int} (r : RepL K mg G vs ds) : RepL K mg G (cutV vs lo hi) (cutD ds lo hi) := by
  unfold cutV cutD
  rw [r.length]
  exact (r.drop _).take _
theorem cutV_ints (ns : List Int) (lo hi : Option Int) : cutV (ns.map V.int) lo hi = (cutD ns lo hi).map V.int := by
  unfold cutV cutD
  rw [List.length_map, List.map_take, List.map_drop]
end

/-! ### the classes -/
structure CK (K : PySem.W.Frag) (mg : Str → Option Value) (c : Nat) (C : Addr) : Prop where
  hm : mg (cN c) = some (.ref C)
  cl : Cls K C
  na : ∀ f ∈ cF c, NoAttr K C f
theorem zip_lookup : ∀ {ns : List Str} {vs : List V} {j : Nat} {x : Str} {v : V}, ns.Nodup → ns[j]? = some x → vs[j]? = some v → (ns.zip vs).lookup x = some v
  | [], _, _, _, _, _, h, _ => by simp at h
  | _ :: _, [], _, _, _, _, _, h => by simp at h
  | n :: ns, w :: vs, 0, x, v, nd, h1, h2 => by
    simp at h1 h2; subst h1; subst h2
    simp [List.zip, List.lookup]
  | n :: ns, w :: vs, j + 1, x, v, nd, h1, h2 => by
    have hn : x ≠ n := fun e => by
      subst e
      exact (List.nodup_cons.mp nd).1 (List.mem_of_getElem? (by simpa using h1))
    rw [List.zip_cons_cons, List.lookup_cons]
    have e : (x == n) = false := beq_eq_false_iff_ne.mpr hn
    rw [e]
    exact zip_lookup (j := j) (List.nodup_cons.mp nd).2 (by simpa using h1) (by simpa using h2)
theorem zip_lookup_none : ∀ {ns : List Str} {vs : List V} {x : Str}, x ∉ ns → (ns.zip vs).lookup x = none
  | [], _, _, _ => by simp
  | _ :: _, [], _, _ => by simp
  | n :: ns, w :: vs, x, h => by
    rw [List.zip_cons_cons, List.lookup_cons]
    have e : (x == n) = false := beq_eq_false_iff_ne.mpr fun e => h (by simp [e])
    rw [e]
    exact zip_lookup_none fun z => h (List.mem_cons_of_mem _ z)

section
variable {X : Cx} {e a b o : Expr} {es : List Expr} {f g : Ex} {fs : Ag} {pos : Pos} {n : Nat}

/-! subscripts -/
def dIx : D → D → Option D
  | .lst xs, .int i => atI xs i
  | .tup xs, .int i => atI xs i
  | .scr ns, .int i => (atI ns i).map D.int
  | .str z, .int i => if z.length < 1000000 then (atI z.cps.toList i).map fun c => .str ⟨#[c]⟩ else none
  | _, _ => none
abbrev gIx (f g : Ex) : Ex := gOp dIx f g
theorem Rep.intv {K mg G v i} (r : Rep K mg G v (.int i)) : v = .int i := by cases r; rfl
theorem Rep.strv {K mg G v i} (r : Rep K mg G v (.str i)) : v = .str i := by cases r; rfl
theorem Rep.blv {K mg G v i} (r : Rep K mg G v (.bl i)) : v = .bl i := by cases r; rfl
theorem RepB.flat {K mg G H v d} (r : RepB K mg G H v d) (h : ∀ xs, d ≠ .lst xs) (h' : ∀ c xs, d ≠ .obj c xs := by simp) (h'' : ∀ ks xs, d ≠ .dic ks xs := by simp) : Rep K mg G v d := by
  cases r with
  | sh r => exact r
  | li _ _ => exact absurd rfl (h _)
  | obj _ _ _ => exact absurd rfl (h' _ _)
  | dic _ _ _ => exact absurd rfl (h'' _ _)
theorem e_ix (ha : B X a f) (hb : E X b g) (hs : PlainIx b := by exact fun _ _ => rfl) : E X (.Subscript a b pos) (gIx f g) := by
  obtain ⟨t, h1, h2⟩ := ha.ex
  obtain ⟨u, q1, q2⟩ := hb.ex
  refine ⟨⟨_, pe_ix ix_seq h1 q1 hs, fun G0 H0 Z Γ σ G H Q d R hf k => ?_⟩⟩
  obtain ⟨x, e1, hf⟩ := obind hf
  obtain ⟨y, e2, hf⟩ := obind hf
  refine h2 G0 H0 Z Γ σ G H _ x R e1 fun G1 H1 v x1 r1 => ?_
  refine q2 G0 H0 Z Γ σ G1 H1 _ y (R.ext x1) e2 fun G2 H2 w x2 r2 => ?_
  have r1' := r1.ext x2
  have fin : ∀ v, Rep X.K X.mg G2 v d → Q v H2 := fun v r => k G2 H2 v (x1.trans x2) r
  cases x with
  | lst xs =>
    cases y with
    | int i =>
      obtain ⟨p, vs, rfl, h, r⟩ := r1'.lst x2.gh
      obtain ⟨v, h3, h4⟩ := r.at hf
      rw [r2.intv]
      exact .inl ⟨p, vs, _, v, rfl, rfl, SqL.of h, h3, fin v h4⟩
    | _ => cases hf
  | tup xs =>
    cases y with
    | int i =>
      obtain ⟨p, vs, rfl, h, r⟩ := r1'.tup x2.gh
      obtain ⟨v, h3, h4⟩ := r.at hf
      rw [r2.intv]
      exact .inr (.inl ⟨p, vs, _, v, rfl, rfl, h, h3, fin v h4⟩)
    | _ => cases hf
  | scr ns =>
    cases y with
    | int i =>
      obtain ⟨p, rfl, h⟩ := r1'.scr x2.gh
      rw [r2.intv]
      replace hf : (atI ns i).map D.int = some d := hf
      cases e3 : atI ns i with
      | none => rw [e3] at hf; cases hf
      | some m =>
        rw [e3] at hf; cases hf
        exact .inl ⟨p, _, i, .int m, rfl, rfl, h, by rw [atI_map, e3]; rfl, fin _ (.int m)⟩
    | _ => cases hf
  | str z =>
    cases y with
    | int i =>
      replace hf : (if z.length < 1000000 then (atI z.cps.toList i).map fun c => D.str ⟨#[c]⟩ else none) = some d := hf
      split at hf
      · rename_i hz
        rw [r2.intv, (r1'.flat (by simp)).strv]
        cases e3 : atI z.cps.toList i with
        | none => rw [e3] at hf; cases hf
        | some c =>
          rw [e3] at hf; cases hf
          exact .inr (.inr ⟨z, i, c, rfl, rfl, Nat.le_trans (Nat.le_of_lt hz) line_big, e3, fin _ (.str _)⟩)
      · cases hf
    | _ => cases hf
  | _ => cases hf

/-! slices of lists -/
abbrev Op := DEnv → Option (Option Int)
structure O (X : Cx) (e : Option Expr) (f : Op) : Prop where
  ex : ∃ t, PO X e t ∧ ∀ G0 H0 Z Γ σ G H Q d, Rel X.K X.mg G0 H0 Z Γ σ G H → f Γ = some d → (∀ G' H', Ext G H G' H' → Q d H') → t σ H Q
def gNo : Op := fun _ => some none
def gSo (f : Ex) : Op := fun Γ => (f Γ).bind fun d => match d with | .int i => some (some i) | _ => none
theorem o_no : O X none gNo := ⟨⟨_, po_none, fun G0 H0 Z Γ σ G H Q d R hf k => by cases hf; exact k G H (Ext.refl R.gh)⟩⟩
theorem o_so (h : E X e f) : O X (some e) (gSo f) := by
  obtain ⟨t, h1, h2⟩ := h.ex
  refine ⟨⟨_, po_some h1, fun G0 H0 Z Γ σ G H Q d R hf k => ?_⟩⟩
  obtain ⟨x, e1, hf⟩ := obind hf
  cases x with
  | int i =>
    cases hf
    refine h2 G0 H0 Z Γ σ G H _ _ R e1 fun G1 H1 v x1 r1 => ?_
    rw [r1.intv]
    exact ⟨i, rfl, k G1 H1 x1⟩
  | _ => cases hf
def dCut : D → Option Int → Option Int → Option (List D)
  | .lst xs, lo, hi => some (cutD xs lo hi)
  | .scr ns, lo, hi => some ((cutD ns lo hi).map D.int)
  | _, _, _ => none
def gSl (f : Ex) (lo hi : Op) : Ag := fun Γ => (f Γ).bind fun x => (lo Γ).bind fun l => (hi Γ).bind fun h => dCut x l h
theorem el_sl {lo hi : Option Expr} {p2 : Pos} {fl fh : Op} (he : B X e f) (hl : O X lo fl) (hh : O X hi fh) : EL X (.Subscript e (.Slice lo hi none p2) pos) (gSl f fl fh) := by
  obtain ⟨t, h1, h2⟩ := he.ex
  obtain ⟨u, q1, q2⟩ := hl.ex
  obtain ⟨w, z1, z2⟩ := hh.ex
  refine ⟨⟨_, pe_slice sl_list h1 q1 z1, fun G0 H0 Z Γ σ G H Q ds R hf k => ?_⟩⟩
  obtain ⟨x, e1, hf⟩ := obind hf
  obtain ⟨l, e2, hf⟩ := obind hf
  obtain ⟨h, e3, hf⟩ := obind hf
  refine h2 G0 H0 Z Γ σ G H _ x R e1 fun G1 H1 v x1 r1 => ?_
  refine q2 G0 H0 Z Γ σ G1 H1 _ l (R.ext x1) e2 fun G2 H2 x2 => ?_
  refine z2 G0 H0 Z Γ σ G2 H2 _ h ((R.ext x1).ext x2) e3 fun G3 H3 x3 => ?_
  have x23 := x2.trans x3
  have r1' := r1.ext x23
  have xx := x1.trans x23
  cases x with
  | lst xs =>
    cases hf
    obtain ⟨p, vs, rfl, h', r⟩ := r1'.lst x3.gh
    refine ⟨p, vs, rfl, SqL.of h', fun q hq => ?_⟩
    exact k G3 _ q _ (xx.trans (Ext.own1 x3.gh hq)) (xx.hf hq) (x3.gh.free hq) upd_same r.cut
  | scr ns =>
    cases hf
    obtain ⟨p, rfl, h'⟩ := r1'.scr x3.gh
    refine ⟨p, _, rfl, h', fun q hq => ?_⟩
    refine k G3 _ q _ (xx.trans (Ext.own1 x3.gh hq)) (xx.hf hq) (x3.gh.free hq) upd_same ?_
    rw [cutV_ints]
    exact RepL.ofInts
  | _ => cases hf

/-! calls of built-ins -/
/-- an argument that is looked at, alone -/
def CbB (X : Cx) (v : Value) (o : D → Option D) : Prop :=
  ∃ r, CallR X v r ∧ ∀ x d v G H Q, Same G H → o x = some d → RepB X.K X.mg G H v x → (∀ G' H' u, Ext G H G' H' → Rep X.K X.mg G' u d → Q u H') → r [v] H Q
def gU (o : D → Option D) (f : Ex) : Ex := fun Γ => (f Γ).bind o
theorem e_cb {id : String} {x : Str} {p : Pos} {q : D → Option D} (hc : CbB X (.builtin id) q) (hg : Gl X x) (hm : X.mg x = none) (hv : bootBuiltins x = some (.builtin id)) (ha : B X a f) (hn : x ≠ "__name__" := by decide) (hdb : (x == ("__debug__" : Str)) = false := by decide)
    (he : starEach [a] X.env = (false, eval a X.env) :: starEach [] X.env := by rfl) (hpl : (backTo pos (starEach [] X.env)).any (·.1) = false := by rfl) : E X (.Call (.Name x p) [a] [] pos) (gU q f) := by
  obtain ⟨r, c1, c2⟩ := hc
  obtain ⟨t, h1, h2⟩ := ha.ex
  refine ⟨⟨_, pe_callB c1 hg hm hv (pa_cons h1 pa_nil he) hn hdb he hpl, fun G0 H0 Z Γ σ G H Q d R hf k => ?_⟩⟩
  obtain ⟨y, e1, hf⟩ := obind hf
  refine h2 G0 H0 Z Γ σ G H _ y R e1 fun G1 H1 v x1 r1 => ?_
  exact c2 y d v G1 H1 Q x1.gh hf r1 fun G2 H2 u x2 r2 => k G2 H2 u (x1.trans x2) r2
theorem e_cty {id : String} {x : Str} {p : Pos} {q : D → Option D} (hc : CbB X (.type id) q) (hg : Gl X x) (hm : X.mg x = none) (hv : bootBuiltins x = some (.type id)) (ha : B X a f) (hn : x ≠ "__name__" := by decide) (hdb : (x == ("__debug__" : Str)) = false := by decide)
    (he : starEach [a] X.env = (false, eval a X.env) :: starEach [] X.env := by rfl) (hpl : (backTo pos (starEach [] X.env)).any (·.1) = false := by rfl) : E X (.Call (.Name x p) [a] [] pos) (gU q f) := by
  obtain ⟨r, c1, c2⟩ := hc
  obtain ⟨t, h1, h2⟩ := ha.ex
  refine ⟨⟨_, pe_callTy c1 hg hm hv (pa_cons h1 pa_nil he) hn hdb he hpl, fun G0 H0 Z Γ σ G H Q d R hf k => ?_⟩⟩
  obtain ⟨y, e1, hf⟩ := obind hf
  refine h2 G0 H0 Z Γ σ G H _ y R e1 fun G1 H1 v x1 r1 => ?_
  exact c2 y d v G1 H1 Q x1.gh hf r1 fun G2 H2 u x2 r2 => k G2 H2 u (x1.trans x2) r2
def dLen : D → Option D
  | .lst xs => some (.int xs.length)
  | .tup xs => some (.int xs.length)
  | .scr ns => some (.int ns.length)
  | .str z => if z.length < 1000000 then some (.int z.length) else none
  | _ => none
theorem callr_or {v : Value} {r r' : List V → Hp → VK → Prop} (h : CallR X v r) (h' : CallR X v r') : CallR X v (fun xs H Q => r xs H Q ∨ r' xs H Q) := by
  intro pins s σ H xs us Q I rx q
  rcases q with q | q
  · exact h pins s σ H xs us Q I rx q
  · exact h' pins s σ H xs us Q I rx q
theorem cb_len : CbB X (.builtin "len") dLen := by
  refine ⟨_, callr_or call_len_seq call_len_str, fun x d v G H Q gh e r k => ?_⟩
  unfold dLen at e
  split at e
  · cases e
    obtain ⟨p, vs, rfl, h, r⟩ := r.lst gh
    exact .inl ⟨p, vs, rfl, .inl (SqL.of h), by rw [r.length]; exact k G H _ (Ext.refl gh) (.int _)⟩
  · cases e
    obtain ⟨p, vs, rfl, h, r⟩ := r.tup gh
    exact .inl ⟨p, vs, rfl, .inr h, by rw [r.length]; exact k G H _ (Ext.refl gh) (.int _)⟩
  · cases e
    obtain ⟨p, rfl, h⟩ := r.scr gh
    exact .inl ⟨p, _, rfl, .inl h, by rw [List.length_map]; exact k G H _ (Ext.refl gh) (.int _)⟩
  · split at e
    · cases e
      rename_i z hz
      rw [(r.flat (by simp)).strv]
      exact .inr ⟨z, rfl, Nat.le_trans (Nat.le_of_lt hz) line_big, k G H _ (Ext.refl gh) (.int _)⟩
    · cases e
  · cases e
def dAbs : D → Option D
  | .int i => some (.int (if i < 0 then -i else i))
  | _ => none
theorem cb_abs : CbB X (.builtin "abs") dAbs := by
  refine ⟨_, call_abs, fun x d v G H Q gh e r k => ?_⟩
  unfold dAbs at e
  split at e
  · cases e
    rw [(r.flat (by simp)).intv]
    exact ⟨_, rfl, k G H _ (Ext.refl gh) (.int _)⟩
  · cases e
def dInt : D → Option D
  | .int i => some (.int i)
  | .bl b => some (.int (if b then 1 else 0))
  | _ => none
theorem cb_int : CbB X (.type "int") dInt := by
  refine ⟨_, call_int1, fun x d v G H Q gh e r k => ?_⟩
  unfold dInt at e
  split at e
  · cases e
    rw [(r.flat (by simp)).intv]
    exact .inl ⟨_, rfl, k G H _ (Ext.refl gh) (.int _)⟩
  · cases e
    rw [(r.flat (by simp)).blv]
    exact .inr ⟨_, rfl, k G H _ (Ext.refl gh) (.int _)⟩
  · cases e
/-! lists of ints, of truth values -/
def ints? : List D → Option (List Int)
  | [] => some []
  | .int i :: r => (ints? r).map (i :: ·)
  | _ :: _ => none
def bls? : List D → Option (List Bool)
  | [] => some []
  | .bl i :: r => (bls? r).map (i :: ·)
  | _ :: _ => none
theorem ints?_map : ∀ ns : List Int, ints? (ns.map D.int) = some ns
  | [] => rfl
  | n :: ns => by simp [ints?, ints?_map ns]
theorem bls?_map : ∀ ns : List Bool, bls? (ns.map D.bl) = some ns
  | [] => rfl
  | n :: ns => by simp [bls?, bls?_map ns]
theorem ints?_some : ∀ {ds : List D} {ns : List Int}, ints? ds = some ns → ds = ns.map D.int
  | [], _, h => by cases h; rfl
  | .int i :: r, ns, h => by
    simp only [ints?, Option.map_eq_some_iff] at h
    obtain ⟨m, h1, rfl⟩ := h
    rw [ints?_some h1]; rfl
  | .non :: _, _, h => by simp [ints?] at h
  | .bl _ :: _, _, h => by simp [ints?] at h
  | .str _ :: _, _, h => by simp [ints?] at h
  | .lst _ :: _, _, h => by simp [ints?] at h
  | .tup _ :: _, _, h => by simp [ints?] at h
  | .scr _ :: _, _, h => by simp [ints?] at h
  | .obj _ _ :: _, _, h => by simp [ints?] at h
theorem bls?_some : ∀ {ds : List D} {ns : List Bool}, bls? ds = some ns → ds = ns.map D.bl
  | [], _, h => by cases h; rfl
  | .bl i :: r, ns, h => by
    simp only [bls?, Option.map_eq_some_iff] at h
    obtain ⟨m, h1, rfl⟩ := h
    rw [bls?_some h1]; rfl
  | .non :: _, _, h => by simp [bls?] at h
  | .int _ :: _, _, h => by simp [bls?] at h
  | .str _ :: _, _, h => by simp [bls?] at h
  | .lst _ :: _, _, h => by simp [bls?] at h
  | .tup _ :: _, _, h => by simp [bls?] at h
  | .scr _ :: _, _, h => by simp [bls?] at h
  | .obj _ _ :: _, _, h => by simp [bls?] at h
def dInts : D → Option (List Int)
  | .lst xs => ints? xs
  | .scr ns => some ns
  | _ => none
theorem RepB.ints {K mg G H v d ns} (gh : Same G H) (r : RepB K mg G H v d) (e : dInts d = some ns) : ∃ p, v = .ref p ∧ SqL K H p (ns.map V.int) := by
  unfold dInts at e
  split at e
  · obtain ⟨p, vs, rfl, h, r⟩ := r.lst gh
    rw [ints?_some e] at r
    rw [r.ints] at h
    exact ⟨p, rfl, SqL.of h⟩
  · cases e
    exact r.scr gh
  · cases e
def maxI : List Int → Int
  | [] => 0
  | [x] => x
  | x :: r => if maxI r > x then maxI r else x
def minI : List Int → Int
  | [] => 0
  | [x] => x
  | x :: r => if minI r < x then minI r else x
theorem maxI_spec : ∀ ns : List Int, 0 < ns.length → maxI ns ∈ ns ∧ ∀ y ∈ ns, y ≤ maxI ns
  | [], h => by simp at h
  | [x], _ => by simp [maxI]
  | x :: y :: r, _ => by
    obtain ⟨h1, h2⟩ := maxI_spec (y :: r) (by simp)
    simp only [maxI]
    by_cases h : maxI (y :: r) > x
    · rw [if_pos h]
      exact ⟨List.mem_cons_of_mem _ h1, fun z hz => by
        rcases List.mem_cons.mp hz with rfl | hz
        · omega
        · exact h2 z hz⟩
    · rw [if_neg h]
      exact ⟨by simp, fun z hz => by
        rcases List.mem_cons.mp hz with rfl | hz
        · omega
        · have := h2 z hz; omega⟩
theorem minI_spec : ∀ ns : List Int, 0 < ns.length → minI ns ∈ ns ∧ ∀ y ∈ ns, minI ns ≤ y
  | [], h => by simp at h
  | [x], _ => by simp [minI]
  | x :: y :: r, _ => by
    obtain ⟨h1, h2⟩ := minI_spec (y :: r) (by simp)
    simp only [minI]
    by_cases h : minI (y :: r) < x
    · rw [if_pos h]
      exact ⟨List.mem_cons_of_mem _ h1, fun z hz => by
        rcases List.mem_cons.mp hz with rfl | hz
        · omega
        · exact h2 z hz⟩
    · rw [if_neg h]
      exact ⟨by simp, fun z hz => by
        rcases List.mem_cons.mp hz with rfl | hz
        · omega
        · have := h2 z hz; omega⟩
def dMax (d : D) : Option D := (dInts d).bind fun ns => if ns.isEmpty then none else some (.int (maxI ns))
def dMin (d : D) : Option D := (dInts d).bind fun ns => if ns.isEmpty then none else some (.int (minI ns))
def dSum (d : D) : Option D := (dInts d).bind fun ns => some (.int ns.sum)
theorem cb_max (hc : X.calm = true) : CbB X (.builtin "max") dMax := by
  refine ⟨_, cr_max hc, fun x d v G H Q gh e r k => ?_⟩
  obtain ⟨ns, e1, e⟩ := obind e
  split at e
  · cases e
  · rename_i z
    cases e
    obtain ⟨p, rfl, h⟩ := r.ints gh e1
    have hl : 0 < ns.length := by
      cases ns with
      | nil => simp at z
      | cons => simp
    obtain ⟨m1, m2⟩ := maxI_spec ns hl
    refine ⟨p, ns, rfl, h, hl, fun m hm hle => ?_⟩
    have : m = maxI ns := Int.le_antisymm (m2 m hm) (hle _ m1)
    rw [this]
    exact k G H _ (Ext.refl gh) (.int _)
theorem cb_min (hc : X.calm = true) : CbB X (.builtin "min") dMin := by
  refine ⟨_, cr_min hc, fun x d v G H Q gh e r k => ?_⟩
  obtain ⟨ns, e1, e⟩ := obind e
  split at e
  · cases e
  · rename_i z
    cases e
    obtain ⟨p, rfl, h⟩ := r.ints gh e1
    have hl : 0 < ns.length := by
      cases ns with
      | nil => simp at z
      | cons => simp
    obtain ⟨m1, m2⟩ := minI_spec ns hl
    refine ⟨p, ns, rfl, h, hl, fun m hm hle => ?_⟩
    have : m = minI ns := Int.le_antisymm (hle _ m1) (m2 m hm)
    rw [this]
    exact k G H _ (Ext.refl gh) (.int _)
theorem cb_sum (hc : X.calm = true) : CbB X (.builtin "sum") dSum := by
  refine ⟨_, cr_sum hc, fun x d v G H Q gh e r k => ?_⟩
  obtain ⟨ns, e1, e⟩ := obind e
  cases e
  obtain ⟨p, rfl, h⟩ := r.ints gh e1
  exact ⟨p, ns, rfl, h, k G H _ (Ext.refl gh) (.int _)⟩
def dBls : D → Option (List Bool)
  | .lst xs => bls? xs
  | _ => none
theorem RepB.bls {K mg G H v d ns} (gh : Same G H) (r : RepB K mg G H v d) (e : dBls d = some ns) : ∃ p, v = .ref p ∧ SqL K H p (ns.map V.bl) := by
  unfold dBls at e
  split at e
  · obtain ⟨p, vs, rfl, h, r⟩ := r.lst gh
    rw [bls?_some e] at r
    rw [r.bls] at h
    exact ⟨p, rfl, SqL.of h⟩
  · cases e
def dAll (d : D) : Option D := (dBls d).bind fun ns => some (.bl (ns.all id))
def dAny (d : D) : Option D := (dBls d).bind fun ns => some (.bl (ns.any id))
theorem cb_all (hc : X.calm = true) : CbB X (.builtin "all") dAll := by
  refine ⟨_, cr_all hc, fun x d v G H Q gh e r k => ?_⟩
  obtain ⟨ns, e1, e⟩ := obind e
  cases e
  obtain ⟨p, rfl, h⟩ := r.bls gh e1
  exact ⟨p, ns, rfl, h, k G H _ (Ext.refl gh) (.bl _)⟩
theorem cb_any (hc : X.calm = true) : CbB X (.builtin "any") dAny := by
  refine ⟨_, cr_any hc, fun x d v G H Q gh e r k => ?_⟩
  obtain ⟨ns, e1, e⟩ := obind e
  cases e
  obtain ⟨p, rfl, h⟩ := r.bls gh e1
  exact ⟨p, ns, rfl, h, k G H _ (Ext.refl gh) (.bl _)⟩
/-! a new list of a call: list(x), sorted(x) -/
def CbL (X : Cx) (v : Value) (o : D → Option (List D)) : Prop :=
  ∃ r, CallR X v r ∧ ∀ x ds v G H Q, Same G H → o x = some ds → RepB X.K X.mg G H v x → (∀ p vs, H p = none → RepL X.K X.mg G vs ds → Q (.ref p) (upd H p (.lst vs))) → r [v] H Q
def gUL (o : D → Option (List D)) (f : Ex) : Ag := fun Γ => (f Γ).bind o
theorem el_cb {id : String} {x : Str} {p : Pos} {q : D → Option (List D)} (hc : CbL X (.builtin id) q) (hg : Gl X x) (hm : X.mg x = none) (hv : bootBuiltins x = some (.builtin id)) (ha : B X a f) (hn : x ≠ "__name__" := by decide) (hdb : (x == ("__debug__" : Str)) = false := by decide)
    (he : starEach [a] X.env = (false, eval a X.env) :: starEach [] X.env := by rfl) (hpl : (backTo pos (starEach [] X.env)).any (·.1) = false := by rfl) : EL X (.Call (.Name x p) [a] [] pos) (gUL q f) := by
  obtain ⟨r, c1, c2⟩ := hc
  obtain ⟨t, h1, h2⟩ := ha.ex
  refine ⟨⟨_, pe_callB c1 hg hm hv (pa_cons h1 pa_nil he) hn hdb he hpl, fun G0 H0 Z Γ σ G H Q d R hf k => ?_⟩⟩
  obtain ⟨y, e1, hf⟩ := obind hf
  refine h2 G0 H0 Z Γ σ G H _ y R e1 fun G1 H1 v x1 r1 => ?_
  exact c2 y d v G1 H1 Q x1.gh hf r1 fun p vs hp r2 => k G1 _ p vs (x1.trans (Ext.own1 x1.gh hp)) (x1.hf hp) (x1.gh.free hp) upd_same r2
theorem el_cty {id : String} {x : Str} {p : Pos} {q : D → Option (List D)} (hc : CbL X (.type id) q) (hg : Gl X x) (hm : X.mg x = none) (hv : bootBuiltins x = some (.type id)) (ha : B X a f) (hn : x ≠ "__name__" := by decide) (hdb : (x == ("__debug__" : Str)) = false := by decide)
    (he : starEach [a] X.env = (false, eval a X.env) :: starEach [] X.env := by rfl) (hpl : (backTo pos (starEach [] X.env)).any (·.1) = false := by rfl) : EL X (.Call (.Name x p) [a] [] pos) (gUL q f) := by
  obtain ⟨r, c1, c2⟩ := hc
  obtain ⟨t, h1, h2⟩ := ha.ex
  refine ⟨⟨_, pe_callTy c1 hg hm hv (pa_cons h1 pa_nil he) hn hdb he hpl, fun G0 H0 Z Γ σ G H Q d R hf k => ?_⟩⟩
  obtain ⟨y, e1, hf⟩ := obind hf
  refine h2 G0 H0 Z Γ σ G H _ y R e1 fun G1 H1 v x1 r1 => ?_
  exact c2 y d v G1 H1 Q x1.gh hf r1 fun p vs hp r2 => k G1 _ p vs (x1.trans (Ext.own1 x1.gh hp)) (x1.hf hp) (x1.gh.free hp) upd_same r2
def dList : D → Option (List D)
  | .lst xs => some xs
  | .tup xs => some xs
  | .scr ns => some (ns.map D.int)
  | _ => none
theorem cb_list : CbL X (.type "list") dList := by
  refine ⟨_, call_list_of, fun x d v G H Q gh e r k => ?_⟩
  unfold dList at e
  split at e
  · cases e
    obtain ⟨p, vs, rfl, h, r⟩ := r.lst gh
    exact ⟨p, vs, rfl, .inl (SqL.of h), fun l hl => k l vs hl r⟩
  · cases e
    obtain ⟨p, vs, rfl, h, r⟩ := r.tup gh
    exact ⟨p, vs, rfl, .inr h, fun l hl => k l vs hl r⟩
  · cases e
    obtain ⟨p, rfl, h⟩ := r.scr gh
    exact ⟨p, _, rfl, .inl h, fun l hl => k l _ hl .ofInts⟩
  · cases e
/-- the one ascending arrangement -/
def srt (ns : List Int) : List Int := ns.mergeSort (fun a b => decide (a ≤ b))
theorem srt_perm (ns : List Int) : (srt ns).Perm ns := List.mergeSort_perm ns _
theorem srt_le (ns : List Int) : (srt ns).Pairwise (· ≤ ·) := by
  have h := List.pairwise_mergeSort (le := fun a b : Int => decide (a ≤ b)) (fun a b c h1 h2 => by simp at *; omega) (fun a b => by simp; omega) ns
  exact h.imp fun h => by simpa using h
theorem srt_unique {xs ys : List Int} (h : xs.Perm ys) (hx : xs.Pairwise (· ≤ ·)) (hy : ys.Pairwise (· ≤ ·)) : xs = ys :=
  List.Perm.eq_of_pairwise (fun a b _ _ h1 h2 => Int.le_antisymm h1 h2) hx hy h
def dSorted (d : D) : Option (List D) := (dInts d).bind fun ns => some ((srt ns).map D.int)
theorem cb_sorted : CbL X (.builtin "sorted") dSorted := by
  refine ⟨_, cr_sortedI, fun x d v G H Q gh e r k => ?_⟩
  obtain ⟨ns, e1, e⟩ := obind e
  cases e
  obtain ⟨p, rfl, h⟩ := r.ints gh e1
  refine ⟨p, ns, rfl, h, fun ns' q hp ho hq => ?_⟩
  have e2 : ns' = srt ns := srt_unique (hp.trans (srt_perm ns).symm) ho (srt_le ns)
  subst e2
  exact k q _ hq .ofInts
/-! two arguments -/
def CbA (X : Cx) (v : Value) (o : List D → Option D) : Prop :=
  ∃ r, CallR X v r ∧ ∀ xs d vs G H Q, Same G H → o xs = some d → RepL X.K X.mg G vs xs → (∀ G' H' u, Ext G H G' H' → Rep X.K X.mg G' u d → Q u H') → r vs H Q
def gA (o : List D → Option D) (fs : Ag) : Ex := fun Γ => (fs Γ).bind o
theorem e_cba {id : String} {x : Str} {p : Pos} {q : List D → Option D} (hc : CbA X (.builtin id) q) (hg : Gl X x) (hm : X.mg x = none) (hv : bootBuiltins x = some (.builtin id)) (ha : A X (a :: es) fs) (hn : x ≠ "__name__" := by decide) (hdb : (x == ("__debug__" : Str)) = false := by decide)
    (he : starEach (a :: es) X.env = (false, eval a X.env) :: starEach es X.env := by rfl) (hpl : (backTo pos (starEach es X.env)).any (·.1) = false := by rfl) : E X (.Call (.Name x p) (a :: es) [] pos) (gA q fs) := by
  obtain ⟨r, c1, c2⟩ := hc
  obtain ⟨t, h1, h2⟩ := ha.ex
  refine ⟨⟨_, pe_callB c1 hg hm hv h1 hn hdb he hpl, fun G0 H0 Z Γ σ G H Q d R hf k => ?_⟩⟩
  obtain ⟨y, e1, hf⟩ := obind hf
  refine h2 G0 H0 Z Γ σ G H _ y R e1 fun G1 H1 v x1 r1 => ?_
  exact c2 y d v G1 H1 Q x1.gh hf r1 fun G2 H2 u x2 r2 => k G2 H2 u (x1.trans x2) r2
/-- a module's name for a built-in -/
theorem e_cbf {id : String} {x : Str} {p : Pos} {q : List D → Option D} (hc : CbA X (.builtin id) q) (hg : Gl X x) (hm : X.mg x = some (.builtin id)) (ha : A X (a :: es) fs) (hdb : (x == ("__debug__" : Str)) = false := by decide)
    (he : starEach (a :: es) X.env = (false, eval a X.env) :: starEach es X.env := by rfl) (hpl : (backTo pos (starEach es X.env)).any (·.1) = false := by rfl) : E X (.Call (.Name x p) (a :: es) [] pos) (gA q fs) := by
  obtain ⟨r, c1, c2⟩ := hc
  obtain ⟨t, h1, h2⟩ := ha.ex
  refine ⟨⟨_, pe_callBfun c1 hg hm h1 hdb he hpl, fun G0 H0 Z Γ σ G H Q d R hf k => ?_⟩⟩
  obtain ⟨y, e1, hf⟩ := obind hf
  refine h2 G0 H0 Z Γ σ G H _ y R e1 fun G1 H1 v x1 r1 => ?_
  exact c2 y d v G1 H1 Q x1.gh hf r1 fun G2 H2 u x2 r2 => k G2 H2 u (x1.trans x2) r2
def dGcd : List D → Option D
  | [.int a, .int b] => some (.int ((Nat.gcd a.natAbs b.natAbs : Nat) : Int))
  | _ => none
theorem cb_gcd : CbA X (.builtin "math.gcd") dGcd := by
  refine ⟨_, cr_gcd, fun x d v G H Q gh e r k => ?_⟩
  unfold dGcd at e
  split at e
  · cases e
    cases r with
    | cons h1 r => cases h1; cases r with
      | cons h2 r => cases h2; cases r; exact ⟨_, _, rfl, k G H _ (Ext.refl gh) (.int _)⟩
  · cases e
def dMax2 : List D → Option D
  | [.int a, .int b] => some (.int (if b > a then b else a))
  | _ => none
theorem cb_max2 (hc : X.calm = true) : CbA X (.builtin "max") dMax2 := by
  refine ⟨_, call_max2 hc, fun x d v G H Q gh e r k => ?_⟩
  unfold dMax2 at e
  split at e
  · cases e
    cases r with
    | cons h1 r => cases h1; cases r with
      | cons h2 r => cases h2; cases r; exact ⟨_, _, rfl, k G H _ (Ext.refl gh) (.int _)⟩
  · cases e
def dMin2 : List D → Option D
  | [.int a, .int b] => some (.int (if b < a then b else a))
  | _ => none
theorem cb_min2 (hc : X.calm = true) : CbA X (.builtin "min") dMin2 := by
  refine ⟨_, call_min2 hc, fun x d v G H Q gh e r k => ?_⟩
  unfold dMin2 at e
  split at e
  · cases e
    cases r with
    | cons h1 r => cases h1; cases r with
      | cons h2 r => cases h2; cases r; exact ⟨_, _, rfl, k G H _ (Ext.refl gh) (.int _)⟩
  · cases e
/-! isinstance(x, T) -/
def dTy : D → String
  | .non => "NoneType" | .bl _ => "bool" | .int _ => "int" | .str _ => "str" | .lst _ => "list" | .tup _ => "?" | .scr _ => "list" | .obj _ _ => "?" | .fn _ _ _ _ _ => "?" | .dic _ _ => "?"
def dIsi (T : String) (d : D) : Option D := match d with
  | .obj _ _ => none
  | .scr _ => none
  | .tup _ => none
  | .fn _ _ _ _ _ => none
  | .dic _ _ => none
  | d => (kitB (dTy d) T).map D.bl
theorem e_isi {T : String} {x y : Str} {p p2 : Pos} (hg : Gl X x) (hm : X.mg x = none) (hv : bootBuiltins x = some (.builtin "isinstance")) (hgy : Gl X y) (hmy : X.mg y = none) (hvy : bootBuiltins y = some (.type T)) (ha : B X a f)
    (hn : x ≠ "__name__" := by decide) (hdb : (x == ("__debug__" : Str)) = false := by decide) (hny : y ≠ "__name__" := by decide) (hdby : (y == ("__debug__" : Str)) = false := by decide)
    (he : starEach [a, .Name y p2] X.env = (false, eval a X.env) :: starEach [.Name y p2] X.env := by rfl) (hpl : (backTo pos (starEach [.Name y p2] X.env)).any (·.1) = false := by rfl) (he2 : starEach [.Name y p2] X.env = (false, eval (.Name y p2) X.env) :: starEach [] X.env := by rfl) :
    E X (.Call (.Name x p) [a, .Name y p2] [] pos) (gU (dIsi T) f) := by
  obtain ⟨t, h1, h2⟩ := ha.ex
  refine ⟨⟨_, pe_callB call_isi hg hm hv (pa_cons h1 (pa_cons (pe_bltn (v := .ty T) hgy hmy hvy rfl hny hdby) pa_nil he2) he) hn hdb he hpl, fun G0 H0 Z Γ σ G H Q d R hf k => ?_⟩⟩
  obtain ⟨y, e1, hf⟩ := obind hf
  refine h2 G0 H0 Z Γ σ G H _ y R e1 fun G1 H1 v x1 r1 => ?_
  have fin : ∀ {b : Bool}, d = .bl b → Q (.bl b) H1 := fun e => by subst e; exact k G1 H1 _ x1 (.bl _)
  have go : ∀ (tn : String), TyOf X.K H1 v (.type tn) → (kitB tn T).map D.bl = some d → rIsi X.K [v, .ty T] H1 Q := fun tn ty e => by
    cases q : kitB tn T with
    | none => rw [q] at e; cases e
    | some b =>
      rw [q] at e
      exact ⟨v, .ty T, .type tn, .type T, b, rfl, .ty T, .base ty, kit_ty q, fin (Option.some.inj e).symm⟩
  cases y with
  | non => have := r1.flat (by simp); cases this; exact go _ .non hf
  | bl b => have z := (r1.flat (by simp)).blv; subst z; exact go _ (.bl _) hf
  | int b => have z := (r1.flat (by simp)).intv; subst z; exact go _ (.int _) hf
  | str b => have z := (r1.flat (by simp)).strv; subst z; exact go _ (.str _) hf
  | lst xs => obtain ⟨p, vs, rfl, h, r⟩ := r1.lst x1.gh; exact go _ (.lst h) hf
  | tup xs => cases hf
  | scr ns => cases hf
  | obj c ds => cases hf
  | fn a c q vs ds => cases hf
  | dic ks xs => cases hf
/-! -x -/
def dNeg : D → Option D
  | .int i => some (.int (-i))
  | _ => none
theorem e_neg (ha : E X a f) : E X (.UnaryOp .USub a pos) (gU dNeg f) := by
  obtain ⟨t, h1, h2⟩ := ha.ex
  refine ⟨⟨_, pe_un un_neg h1, fun G0 H0 Z Γ σ G H Q d R hf k => ?_⟩⟩
  obtain ⟨y, e1, hf⟩ := obind hf
  unfold dNeg at hf
  split at hf
  · cases hf
    refine h2 G0 H0 Z Γ σ G H _ _ R e1 fun G1 H1 v x1 r1 => ?_
    rw [r1.intv]
    exact ⟨_, rfl, k G1 H1 _ x1 (.int _)⟩
  · cases hf
/-! fields -/
def dFld (c j : Nat) : D → Option D
  | .obj c' vs => if c' = c then vs[j]? else none
  | _ => none
theorem e_fld {c j : Nat} {C : Addr} {x : Str} (ck : CK X.K X.mg c C) (he : E X o f) (hj : (cF c)[j]? = some x := by rfl) (nd : (cF c).Nodup := by decide +kernel) (hb : attributeBase o x X.env (eval o X.env) = eval o X.env := by rfl) : E X (.Attribute o x pos) (gU (dFld c j) f) := by
  obtain ⟨t, h1, h2⟩ := he.ex
  refine ⟨⟨_, pe_fld h1 hb, fun G0 H0 Z Γ σ G H Q d R hf k => ?_⟩⟩
  obtain ⟨y, e1, hv⟩ := obind hf
  cases y with
  | obj c' vs =>
    replace hv : (if c' = c then vs[j]? else none) = some d := hv
    split at hv
    · rename_i cz
      subst cz
      refine h2 G0 H0 Z Γ σ G H _ _ R e1 fun G1 H1 v x1 r1 => ?_
      cases r1 with
      | obj hm h r =>
        rw [ck.hm] at hm
        cases hm
        obtain ⟨w, g1, g2⟩ := r.get j hv
        exact ⟨_, _, _, _, w, rfl, x1.gh _ _ h, ck.cl, ck.na x (List.mem_of_getElem? hj), zip_lookup nd hj g1, k G1 H1 w x1 g2⟩
    · cases hv
  | _ => cases hv

/-! ### defs -/
/-- the promise of a def that changes nothing: its value by data -/
def spD (K : PySem.W.Frag) (mg : Str → Option Value) (n : Nat) (F : List D → Option D) : Sp := fun vs H Q _ =>
  ∃ G ds d, vs.length = n ∧ Same G H ∧ TC.ti.t G H ∧ RepL K mg G vs ds ∧ F ds = some d ∧ ∀ G' H' v, Ext G H G' H' → Rep K mg G' v d → Q v H'
def gCall (F : List D → Option D) (fs : Ag) : Ex := fun Γ => (fs Γ).bind F
theorem e_call {k : Nat} {fa : Addr} {fd : FuncData} {ps : List Str} {F : List D → Option D} {x : Str} {p : Pos} (FO : FnOk X.prog X.w X.K X.mg X.base CX0 k fa fd ps (spD X.K X.mg n F)) (hr : Room k X.A) (hm : X.mg x = some (.ref fa)) (hk : PySem.W.keepIn X.K (.ref fa) = true) (hb : Binds X.K fd ps [])
    (ha : AN X (a :: es) n fs) (hg : Gl X x := by rfl) (hdb : (x == ("__debug__" : Str)) = false := by decide) (he : starEach (a :: es) X.env = (false, eval a X.env) :: starEach es X.env := by rfl) (hpl : (backTo pos (starEach es X.env)).any (·.1) = false := by rfl) :
    E X (.Call (.Name x p) (a :: es) [] pos) (gCall F fs) := by
  obtain ⟨t, h1, h2⟩ := ha.a.ex
  refine ⟨⟨_, pe_call FO hr hg hm hk hb .nil pass0 h1 hdb he hpl, fun G0 H0 Z Γ σ G H Q d R hf k => ?_⟩⟩
  obtain ⟨ds, e1, hf⟩ := obind hf
  refine h2 G0 H0 Z Γ σ G H _ _ R e1 fun G1 H1 vs x1 r1 => ?_
  refine ⟨G1, ds, d, ?_, x1.gh, (R.ext x1).tbc, ?_, hf, fun G' H' v x2 r2 => k G' H' v (x1.trans x2) r2⟩
  · rw [List.append_nil, r1.length, ha.n Γ ds e1]
  · rw [List.append_nil]; exact r1
theorem e_call0 {k : Nat} {fa : Addr} {fd : FuncData} {ps : List Str} {F : List D → Option D} {x : Str} {p : Pos} (FO : FnOk X.prog X.w X.K X.mg X.base CX0 k fa fd ps (spD X.K X.mg 0 F)) (hr : Room k X.A) (hm : X.mg x = some (.ref fa)) (hk : PySem.W.keepIn X.K (.ref fa) = true) (hb : Binds X.K fd ps [])
    (hg : Gl X x := by rfl) (hdb : (x == ("__debug__" : Str)) = false := by decide) : E X (.Call (.Name x p) [] [] pos) (gCall F aN) := by
  refine ⟨⟨_, pe_call0 FO hr hg hm hk hb .nil pass0 hdb, fun G0 H0 Z Γ σ G H Q d R hf k => ?_⟩⟩
  obtain ⟨ds, e1, hf⟩ := obind hf
  cases e1
  exact ⟨G, [], d, rfl, R.gh, R.tbc, .nil, hf, fun G' H' v x2 r2 => k G' H' v x2 r2⟩
/-- o.m(..) of an object that does not change -/
def gMeth (c : Nat) (F : List D → Option D) (f : Ex) (fs : Ag) : Ex := fun Γ => (f Γ).bind fun d => match d with
  | .obj c' vs => if c' = c then (fs Γ).bind fun ds => F (.obj c' vs :: ds) else none
  | _ => none
theorem e_meth {pl : Sem Bool} {c k : Nat} {C fa : Addr} {fd : FuncData} {ps : List Str} {F : List D → Option D} {m : Str} {apos : Pos} (ck : CK X.K X.mg c C) (hme : Meth X.K C m fa) (FO : FnOk X.prog X.w X.K X.mg X.base CX0 k fa fd ps (spD X.K X.mg (n + 1) F)) (hr : Room k X.A) (hb : Binds X.K fd ps [])
    (ho : E X o f) (ha : AN X (a :: es) n fs) (hno : m ∉ cF c := by decide +kernel)
    (hst : starEach (a :: es) X.env = (false, eval a X.env) :: starEach es X.env := by rfl) (hpl : (backTo pos (starEach es X.env)).any (·.1) = false := by rfl)
    (ht : eval (.Call (.Attribute o m apos) (a :: es) [] pos) X.env = (do
      let ov ← eval o X.env
      standAt apos.atName
      let (f, first) ← holding [ov] (getMethod ov m pl)
      callWith pos f first (backTo pos (starEach (a :: es) X.env)) (backToKw pos (keywordEach [] X.env))) := by rfl) : E X (.Call (.Attribute o m apos) (a :: es) [] pos) (gMeth c F f fs) := by
  obtain ⟨t, h1, h2⟩ := ha.a.ex
  obtain ⟨u, q1, q2⟩ := ho.ex
  refine ⟨⟨_, pe_meth q1 ck.cl hme FO hr hb .nil pass0 h1 hst hpl ht, fun G0 H0 Z Γ σ G H Q d R hf k => ?_⟩⟩
  obtain ⟨y, e1, hv⟩ := obind hf
  cases y with
  | obj c' vs' =>
    replace hv : (if c' = c then (fs Γ).bind fun ds => F (.obj c' vs' :: ds) else none) = some d := hv
    split at hv
    · rename_i cz
      subst cz
      obtain ⟨ds, e2, hv⟩ := obind hv
      refine q2 G0 H0 Z Γ σ G H _ _ R e1 fun G1 H1 v x1 r1 => ?_
      cases r1 with
      | obj hm h r =>
        have hm' := hm
        rw [ck.hm] at hm'
        cases hm'
        refine ⟨_, _, _, rfl, x1.gh _ _ h, zip_lookup_none hno, ?_⟩
        refine h2 G0 H0 Z Γ σ G1 H1 _ _ (R.ext x1) e2 fun G2 H2 vs x2 r2 => ?_
        refine ⟨G2, _, d, ?_, x2.gh, ((R.ext x1).ext x2).tbc, .cons (.obj hm (x2.gg _ _ h) (r.mono x2.gg)) (by rw [List.append_nil]; exact r2), hv, fun G' H' v x3 r3 => k G' H' v ((x1.trans x2).trans x3) r3⟩
        rw [List.append_nil, List.length_cons, r2.length, ha.n Γ ds e2]
    · cases hv
  | _ => cases hv
theorem e_meth0 {pl : Sem Bool} {c k : Nat} {C fa : Addr} {fd : FuncData} {ps : List Str} {F : List D → Option D} {m : Str} {apos : Pos} (ck : CK X.K X.mg c C) (hme : Meth X.K C m fa) (FO : FnOk X.prog X.w X.K X.mg X.base CX0 k fa fd ps (spD X.K X.mg 1 F)) (hr : Room k X.A) (hb : Binds X.K fd ps [])
    (ho : E X o f) (hno : m ∉ cF c := by decide +kernel)
    (ht : eval (.Call (.Attribute o m apos) [] [] pos) X.env = (do
      let ov ← eval o X.env
      standAt apos.atName
      let (f, first) ← holding [ov] (getMethod ov m pl)
      callWith pos f first (backTo pos (starEach [] X.env)) (backToKw pos (keywordEach [] X.env))) := by rfl) : E X (.Call (.Attribute o m apos) [] [] pos) (gMeth c F f aN) := by
  obtain ⟨u, q1, q2⟩ := ho.ex
  refine ⟨⟨_, pe_meth0 q1 ck.cl hme FO hr hb .nil pass0 ht, fun G0 H0 Z Γ σ G H Q d R hf k => ?_⟩⟩
  obtain ⟨y, e1, hv⟩ := obind hf
  cases y with
  | obj c' vs' =>
    replace hv : (if c' = c then (aN Γ).bind fun ds => F (.obj c' vs' :: ds) else none) = some d := hv
    split at hv
    · rename_i cz
      subst cz
      obtain ⟨ds, e2, hv⟩ := obind hv
      cases e2
      refine q2 G0 H0 Z Γ σ G H _ _ R e1 fun G1 H1 v x1 r1 => ?_
      cases r1 with
      | obj hm h r =>
        have hm' := hm
        rw [ck.hm] at hm'
        cases hm'
        refine ⟨_, _, _, rfl, x1.gh _ _ h, zip_lookup_none hno, ?_⟩
        exact ⟨G1, _, d, rfl, x1.gh, (R.ext x1).tbc, .cons (.obj hm h r) .nil, hv, fun G' H' v x3 r3 => k G' H' v (x1.trans x3) r3⟩
    · cases hv
  | _ => cases hv
end
end DL

namespace DL
open PySem L2
variable [TC : TabCtx]

/-! ### targets -/
theorem wipe_set {σ : L2.St} {i : Nat} {x : Option V} : ∀ (vs : List Nat), L2.wipe (σ.set i x) vs = if i ∈ vs then L2.wipe σ vs else (L2.wipe σ vs).set i x
  | [] => by simp [L2.wipe]
  | v :: vs => by
    simp only [L2.wipe]
    rw [wipe_set vs]
    by_cases h1 : i ∈ vs
    · rw [if_pos h1, if_pos (List.mem_cons_of_mem _ h1)]
    · rw [if_neg h1]
      by_cases h2 : i = v
      · subst h2
        rw [if_pos List.mem_cons_self, List.set_set]
      · rw [if_neg (by simp [h1, h2]), List.set_comm _ _ h2]
theorem wipe_in {σ : L2.St} {i : Nat} {x : Option V} {vs : List Nat} (h : i ∈ vs) : L2.wipe (σ.set i x) vs = L2.wipe σ vs := by rw [wipe_set, if_pos h]
theorem wipe_sub {σ : L2.St} {vs : List Nat} : ∀ us : List Nat, (∀ i ∈ us, i ∈ vs) → L2.wipe (L2.wipe σ us) vs = L2.wipe σ vs
  | [], _ => rfl
  | u :: us, h => by
    show L2.wipe ((L2.wipe σ us).set u none) vs = _
    rw [wipe_in (h u List.mem_cons_self)]
    exact wipe_sub us fun i hi => h i (List.mem_cons_of_mem _ hi)
abbrev Gs := D → DEnv → Option DEnv
abbrev Gss := List D → DEnv → Option DEnv
structure G (X : Cx) (tg : Expr) (ix : List Nat) (g : Gs) : Prop where
  ex : ∃ t, PG X tg t ∧ ∀ G0 H0 Z Γ σ G H Q d v Γ', Rel X.K X.mg G0 H0 Z Γ σ G H → Rep X.K X.mg G v d → g d Γ = some Γ' → (∀ σ', Rel X.K X.mg G0 H0 Z Γ' σ' G H → (∀ vs, (∀ i ∈ ix, i ∈ vs) → L2.wipe σ' vs = L2.wipe σ vs) → Q σ' H) → t v σ H Q
structure GL (X : Cx) (tgs : List Expr) (ix : List Nat) (g : Gss) : Prop where
  ex : ∃ t, PGs X tgs t ∧ ∀ G0 H0 Z Γ σ G H Q ds vs Γ', Rel X.K X.mg G0 H0 Z Γ σ G H → RepL X.K X.mg G vs ds → g ds Γ = some Γ' → (∀ σ', Rel X.K X.mg G0 H0 Z Γ' σ' G H → (∀ us, (∀ i ∈ ix, i ∈ us) → L2.wipe σ' us = L2.wipe σ us) → Q σ' H) → t vs σ H Q
def gN (i : Nat) : Gs := fun d Γ => some (Γ.set i (.sh d))
def gEnd : Gss := fun ds Γ => match ds with | [] => some Γ | _ => none
def gTo (g : Gs) (r : Gss) : Gss := fun ds Γ => match ds with | [] => none | d :: ds => (g d Γ).bind fun Γ1 => r ds Γ1
def gTg (n : Nat) (r : Gss) : Gs := fun d Γ => match d with | .tup ds => if ds.length = n then r ds Γ else none | _ => none
section
variable {X : Cx} {e a b o tg : Expr} {es : List Expr} {f : Ex} {fs : Ag} {pos pos' : Pos} {n : Nat} {ix jx : List Nat} {g : Gs} {gs : Gss}
theorem g_name (i : Nat) {x : Str} (hN : X.N.Nodup) (hi : X.N[i]? = some x := by rfl) (hx : Loc X.env.scope x := by first | exact Or.inl rfl | exact Or.inr rfl) (hf : X.fn x = true ∨ X.env.scope.names.lookup x = some .local := by first | exact .inl rfl | exact .inr rfl | assumption) : G X (.Name x pos) [i] (gN i) := by
  refine ⟨⟨_, pg_name hN hi hx hf, fun G0 H0 Z Γ σ G H Q d v Γ' R r hf k => ?_⟩⟩
  cases hf
  exact k _ (R.set i r) fun vs h => wipe_in (h i List.mem_cons_self)
theorem gl_nil : GL X [] [] gEnd := by
  refine ⟨⟨_, pgs_nil, fun G0 H0 Z Γ σ G H Q ds vs Γ' R r hf k => ?_⟩⟩
  cases r with
  | nil => cases hf; exact ⟨rfl, k σ R fun _ _ => rfl⟩
  | cons _ _ => cases hf
theorem gl_cons (h : G X e ix g) (hr : GL X es jx gs) (hs : (assignEach (e :: es) X.env).map (·.2) = assign e X.env :: (assignEach es X.env).map (·.2) := by rfl) : GL X (e :: es) (ix ++ jx) (gTo g gs) := by
  obtain ⟨t, h1, h2⟩ := h.ex
  obtain ⟨u, q1, q2⟩ := hr.ex
  refine ⟨⟨_, pgs_cons h1 q1 hs, fun G0 H0 Z Γ σ G H Q ds vs Γ' R r hf k => ?_⟩⟩
  cases r with
  | nil => cases hf
  | cons r1 r2 =>
    obtain ⟨Γ1, e1, hf⟩ := obind hf
    refine ⟨_, _, rfl, ?_⟩
    refine h2 G0 H0 Z Γ σ G H _ _ _ Γ1 R r1 e1 fun σ1 R1 w1 => ?_
    exact q2 G0 H0 Z Γ1 σ1 G H _ _ _ Γ' R1 r2 hf fun σ2 R2 w2 => k σ2 R2 fun us hu => (w2 us fun i hi => hu i (List.mem_append_right _ hi)).trans (w1 us fun i hi => hu i (List.mem_append_left _ hi))
theorem g_tup {k : Nat} (hc : X.calm = true) (h : GL X es ix gs) (hn : (assignEach es X.env).length = n := by rfl) (hst : (assignEach es X.env).findIdx? (·.1) = none := by rfl) : G X (.Tuple es k pos) ix (gTg n gs) := by
  obtain ⟨t, h1, h2⟩ := h.ex
  refine ⟨⟨_, pg_tup hc h1 hn hst, fun G0 H0 Z Γ σ G H Q d v Γ' R r hf k => ?_⟩⟩
  cases d with
  | tup ds =>
    replace hf : (if ds.length = n then gs ds Γ else none) = some Γ' := hf
    split at hf
    · rename_i hl
      cases r with
      | tup h r => exact ⟨_, _, rfl, sqt_same R.gh h, by rw [r.length, hl], h2 G0 H0 Z Γ σ G H Q ds _ Γ' R r hf k⟩
    · cases hf
  | _ => cases hf
end

/-! ### what is walked -/
def Itm (K : PySem.W.Frag) (mg : Str → Option Value) (J : It) (G : Hp) (items : List D) : Prop :=
  ∀ i G1 H1, Same G G1 → Same G1 H1 → (items.length ≤ i → J.stop i H1) ∧ ∀ d, items[i]? = some d → J.go i H1 ∧ ∀ x H2, J.yld i H1 x H2 → ∃ G2, Ext G1 H1 G2 H2 ∧ Rep K mg G2 x d
structure I (X : Cx) (tg iter : Expr) (f : Ag) : Prop where
  ex : ∃ t, PI X tg iter t ∧ ∀ G0 H0 Z Γ σ G H R ds, Rel X.K X.mg G0 H0 Z Γ σ G H → f Γ = some ds → (∀ G' H' J, Ext G H G' H' → Itm X.K X.mg J G' ds → R J H') → t σ H R
def dItems : D → Option (List D)
  | .lst xs => some xs
  | .scr ns => some (ns.map D.int)
  | _ => none
section
variable {X : Cx} {e a b o tg iter : Expr} {es : List Expr} {f f' : Ex} {fs : Ag} {pos pos' : Pos} {n : Nat} {ix jx : List Nat} {g : Gs} {gs : Gss}
theorem itm_list {K mg} {G : Hp} {p : Addr} {vs : List V} {ds : List D} (h : SqL K G p vs) (r : RepL K mg G vs ds) (inj : ∀ {H1 : Hp} {xs : List V}, Same G H1 → SqL K H1 p xs → True) : Itm K mg (Itl K p) G ds := by
  intro i G1 H1 s1 s2
  have h1 : SqL K H1 p vs := (s1.trans s2).seq h
  refine ⟨fun hi => ⟨vs, h1, by rw [r.length]; exact hi⟩, fun d hd => ?_⟩
  obtain ⟨v, e1, e2⟩ := r.get i hd
  refine ⟨⟨vs, v, h1, e1⟩, fun x H2 y => ?_⟩
  obtain ⟨rfl, y⟩ := y
  have e3 := y vs h1
  rw [e1] at e3
  cases e3
  exact ⟨G1, Ext.refl s2, e2.mono s1⟩
theorem pi_or {w w' : TI} (h : PI X tg iter w) (h' : PI X tg iter w') : PI X tg iter (fun σ H R => w σ H R ∨ w' σ H R) := by
  refine ⟨fun pins s σ H R I q => ?_⟩
  rcases q with q | q
  · exact h.run pins s σ H R I q
  · exact h'.run pins s σ H R I q
theorem itm_tup {K mg} {G : Hp} {p : Addr} {vs : List V} {ds : List D} (h : SqT K G p vs) (r : RepL K mg G vs ds) : Itm K mg (Itt K p) G ds := by
  intro i G2 H2 s1 s2
  have h1 := sqt_same s2 (sqt_same s1 h)
  refine ⟨fun hi => ⟨_, h1, by rw [r.length]; exact hi⟩, fun d hd => ?_⟩
  obtain ⟨v, e1, e2⟩ := r.get i hd
  refine ⟨⟨_, v, h1, e1⟩, fun x H2 y => ?_⟩
  obtain ⟨rfl, y⟩ := y
  have e3 := y _ h1
  rw [e1] at e3
  cases e3
  exact ⟨G2, Ext.refl s2, e2.mono s1⟩
def dWalk : D → Option (List D)
  | .lst xs => some xs
  | .tup xs => some xs
  | .scr ns => some (ns.map D.int)
  | _ => none
def gIt (f : Ex) : Ag := fun Γ => (f Γ).bind dWalk
theorem i_list (h : E X iter f) : I X tg iter (gIt f) := by
  obtain ⟨t, h1, h2⟩ := h.ex
  refine ⟨⟨_, pi_or (pi_list h1) (pi_tup h1), fun G0 H0 Z Γ σ G H R ds Rl hf k => ?_⟩⟩
  obtain ⟨d, e1, hf⟩ := obind hf
  cases d with
  | lst xs =>
    cases hf
    refine .inl (h2 G0 H0 Z Γ σ G H _ _ Rl e1 fun G1 H1 v x1 r1 => ?_)
    cases r1 with
    | lst h r => exact ⟨_, rfl, ⟨_, SqL.of (x1.gh _ _ h)⟩, k G1 H1 _ x1 (itm_list (SqL.of h) r fun _ _ => True.intro)⟩
  | scr ns =>
    cases hf
    refine .inl (h2 G0 H0 Z Γ σ G H _ _ Rl e1 fun G1 H1 v x1 r1 => ?_)
    cases r1 with
    | scr h => exact ⟨_, rfl, ⟨_, x1.gh.seq h⟩, k G1 H1 _ x1 (itm_list h .ofInts fun _ _ => True.intro)⟩
  | tup xs =>
    cases hf
    refine .inr (h2 G0 H0 Z Γ σ G H _ _ Rl e1 fun G1 H1 v x1 r1 => ?_)
    cases r1 with
    | tup h r => exact ⟨_, rfl, ⟨_, sqt_same x1.gh h⟩, k G1 H1 _ x1 (itm_tup h r)⟩
  | _ => cases hf
/-! ranges -/
def rngD (lo : Int) (n : Nat) : List D := (List.range n).map fun i => .int (lo + (i : Nat))
theorem itm_range {K mg} {G : Hp} {lo : Int} {n : Nat} : Itm K mg (Itr lo n) G (rngD lo n) := by
  intro i G1 H1 s1 s2
  refine ⟨fun hi => by show n ≤ i; simpa [rngD] using hi, fun d hd => ?_⟩
  have hi : i < n := by
    have := (List.getElem?_eq_some_iff.mp hd).1
    simpa [rngD] using this
  refine ⟨hi, fun x H2 y => ?_⟩
  obtain ⟨rfl, rfl⟩ := y
  have e : d = .int (lo + (i : Nat)) := by
    simp [rngD, hi] at hd
    exact hd.symm
  subst e
  exact ⟨G1, Ext.refl s2, .int _⟩
def dRng : List D → Option (List D)
  | [.int j] => if -(2 ^ 62) ≤ j ∧ j < 2 ^ 62 then some (rngD 0 j.toNat) else none
  | [.int i, .int j] => if -(2 ^ 62) ≤ i ∧ i < 2 ^ 62 ∧ -(2 ^ 62) ≤ j ∧ j < 2 ^ 62 then some (rngD i (j - i).toNat) else none
  | _ => none
def gRng (fs : Ag) : Ag := fun Γ => (fs Γ).bind dRng
theorem i_rng1 {p : Pos} (hg : Gl X "range") (hm : X.mg "range" = none) (ha : AN X [a] 1 fs) (hs : starEach [a] X.env = [(false, eval a X.env)] := by rfl) : I X tg (.Call (.Name "range" p) [a] [] pos) (gRng fs) := by
  obtain ⟨t, h1, h2⟩ := ha.a.ex
  refine ⟨⟨_, pi_range1 hg hm h1 hs, fun G0 H0 Z Γ σ G H R ds Rl hf k => ?_⟩⟩
  obtain ⟨xs, e1, hf⟩ := obind hf
  have hl := ha.n Γ xs e1
  refine h2 G0 H0 Z Γ σ G H _ _ Rl e1 fun G1 H1 vs x1 r1 => ?_
  match xs, hl, hf, r1 with
  | [.int j], _, hf, .cons r .nil =>
    replace hf : (if -(2 ^ 62) ≤ j ∧ j < 2 ^ 62 then some (rngD 0 j.toNat) else none) = some ds := hf
    split at hf
    · rename_i z
      cases hf
      rw [r.intv]
      exact ⟨j, rfl, z.1, z.2, k G1 H1 _ x1 itm_range⟩
    · cases hf
theorem i_rng2 {p : Pos} (hg : Gl X "range") (hm : X.mg "range" = none) (ha : AN X [a, b] 2 fs) (hs : starEach [a, b] X.env = [(false, eval a X.env), (false, eval b X.env)] := by rfl) (hs2 : starEach [b] X.env = [(false, eval b X.env)] := by rfl) : I X tg (.Call (.Name "range" p) [a, b] [] pos) (gRng fs) := by
  obtain ⟨t, h1, h2⟩ := ha.a.ex
  refine ⟨⟨_, pi_range2 hg hm h1 hs hs2, fun G0 H0 Z Γ σ G H R ds Rl hf k => ?_⟩⟩
  obtain ⟨xs, e1, hf⟩ := obind hf
  have hl := ha.n Γ xs e1
  refine h2 G0 H0 Z Γ σ G H _ _ Rl e1 fun G1 H1 vs x1 r1 => ?_
  match xs, hl, hf, r1 with
  | [.int i, .int j], _, hf, .cons r (.cons q .nil) =>
    replace hf : (if -(2 ^ 62) ≤ i ∧ i < 2 ^ 62 ∧ -(2 ^ 62) ≤ j ∧ j < 2 ^ 62 then some (rngD i (j - i).toNat) else none) = some ds := hf
    split at hf
    · rename_i z
      cases hf
      rw [r.intv, q.intv]
      exact ⟨i, j, rfl, z, k G1 H1 _ x1 itm_range⟩
    · cases hf
/-! reversed(range(..)) -/
def rngR (lo : Int) (n : Nat) : List D := (List.range n).map fun i => .int (lo + (n : Int) - 1 + (i : Nat) * (-1))
def dRngR : List D → Option (List D)
  | [.int j] => if -(2 ^ 62) ≤ j ∧ j < 2 ^ 62 then some (rngR 0 j.toNat) else none
  | [.int i, .int j] => if -(2 ^ 62) ≤ i ∧ i < 2 ^ 62 ∧ -(2 ^ 62) ≤ j ∧ j < 2 ^ 62 then some (rngR i (j - i).toNat) else none
  | _ => none
theorem itm_rangeR {K mg} {G : Hp} {lo : Int} {n : Nat} : Itm K mg (Itc (lo + (n : Int) - 1) (-1) n) G (rngR lo n) := by
  intro i G1 H1 s1 s2
  refine ⟨fun hi => by show n ≤ i; simpa [rngR] using hi, fun d hd => ?_⟩
  have hi : i < n := by
    have := (List.getElem?_eq_some_iff.mp hd).1
    simpa [rngR] using this
  refine ⟨hi, fun x H2 y => ?_⟩
  obtain ⟨rfl, rfl⟩ := y
  have e : d = .int (lo + (n : Int) - 1 + (i : Nat) * (-1)) := by
    simp [rngR, hi] at hd
    rw [← hd]
    congr 1
    omega
  subst e
  exact ⟨G1, Ext.refl s2, .int _⟩
/-! zip, enumerate -/
def zipD : List D → List D → List D
  | x :: xs, y :: ys => .tup [x, y] :: zipD xs ys
  | _, _ => []
theorem zipD_get : ∀ {xs ys : List D} {i : Nat} {d : D}, (zipD xs ys)[i]? = some d → ∃ x y, xs[i]? = some x ∧ ys[i]? = some y ∧ d = .tup [x, y]
  | [], _, _, _, h => by simp [zipD] at h
  | _ :: _, [], _, _, h => by simp [zipD] at h
  | x :: xs, y :: ys, 0, d, h => by simp [zipD] at h; exact ⟨x, y, rfl, rfl, h.symm⟩
  | x :: xs, y :: ys, i + 1, d, h => by
    obtain ⟨x', y', h1, h2, h3⟩ := zipD_get (xs := xs) (ys := ys) (i := i) (d := d) (by simpa [zipD] using h)
    exact ⟨x', y', by simpa using h1, by simpa using h2, h3⟩
theorem zipD_len : ∀ {xs ys : List D}, (zipD xs ys).length = min xs.length ys.length
  | [], _ => by simp [zipD]
  | _ :: _, [] => by simp [zipD]
  | x :: xs, y :: ys => by simp [zipD, zipD_len (xs := xs) (ys := ys)]
def dZip : List D → Option (List D)
  | [x, y] => (dItems x).bind fun xs => (dItems y).bind fun ys => some (zipD xs ys)
  | _ => none
def gZip (fs : Ag) : Ag := fun Γ => (fs Γ).bind dZip
theorem Rep.items {K mg} {G : Hp} {v : V} {d : D} {xs : List D} (r : Rep K mg G v d) (h : dItems d = some xs) : ∃ p vs, v = .ref p ∧ SqL K G p vs ∧ RepL K mg G vs xs := by
  cases d with
  | lst ys => cases h; cases r with | lst h r => exact ⟨_, _, rfl, SqL.of h, r⟩
  | scr ns => cases h; cases r with | scr h => exact ⟨_, _, rfl, h, .ofInts⟩
  | _ => cases h
theorem i_zip {p tpos : Pos} {elts : List Expr} {kk : Nat} (hg : Gl X "zip") (hm : X.mg "zip" = none) (ha : AN X [a, b] 2 fs) (hs : starEach [a, b] X.env = (false, eval a X.env) :: starEach [b] X.env := by rfl) (hpl : (backTo pos (starEach [b] X.env)).any (·.1) = false := by rfl) :
    I X (.Tuple elts kk tpos) (.Call (.Name "zip" p) [a, b] [] pos) (gZip fs) := by
  obtain ⟨t, h1, h2⟩ := ha.a.ex
  refine ⟨⟨_, pi_zip hg hm h1 hs hpl, fun G0 H0 Z Γ σ G H R ds Rl hf k => ?_⟩⟩
  obtain ⟨xs, e1, hf⟩ := obind hf
  have hl := ha.n Γ xs e1
  refine h2 G0 H0 Z Γ σ G H _ _ Rl e1 fun G1 H1 vs x1 r1 => ?_
  match xs, hl, hf, r1 with
  | [x, y], _, hf, .cons r (.cons q .nil) =>
    replace hf : ((dItems x).bind fun xs => (dItems y).bind fun ys => some (zipD xs ys)) = some ds := hf
    obtain ⟨as, a1, hf⟩ := obind hf
    obtain ⟨bs, a2, hf⟩ := obind hf
    cases hf
    obtain ⟨p1, v1, rfl, s1, r1⟩ := r.items a1
    obtain ⟨p2, v2, rfl, s2, r2⟩ := q.items a2
    refine ⟨p1, p2, v1, v2, rfl, x1.gh.seq s1, x1.gh.seq s2, k G1 H1 _ x1 fun i G2 H2 t1 t2 => ?_⟩
    have q1 : SqL X.K H2 p1 v1 := (t1.trans t2).seq s1
    have q2 : SqL X.K H2 p2 v2 := (t1.trans t2).seq s2
    refine ⟨fun hi => ⟨v1, v2, q1, q2, ?_⟩, fun d hd => ?_⟩
    · rw [zipD_len] at hi
      rw [r1.length, r2.length]
      omega
    · obtain ⟨x, y, g1, g2, rfl⟩ := zipD_get hd
      obtain ⟨w1, b1, c1⟩ := r1.get i g1
      obtain ⟨w2, b2, c2⟩ := r2.get i g2
      refine ⟨⟨v1, v2, w1, w2, q1, q2, b1, b2⟩, fun u H3 yl => ?_⟩
      obtain ⟨T, z1, z2, rfl, hT, rfl, f1, f2⟩ := yl
      have z3 := f1 v1 q1
      have z4 := f2 v2 q2
      rw [b1] at z3
      rw [b2] at z4
      cases z3
      cases z4
      have x2 := Ext.new1 (o := .tup [w1, w2]) t2 hT
      exact ⟨_, x2, .tup (SqT.of upd_same) (.cons ((c1.mono t1).mono x2.gg) (.cons ((c2.mono t1).mono x2.gg) .nil))⟩
def enumD : Nat → List D → List D
  | _, [] => []
  | i, x :: xs => .tup [.int (i : Nat), x] :: enumD (i + 1) xs
theorem enumD_get : ∀ {xs : List D} {k i : Nat} {d : D}, (enumD k xs)[i]? = some d → ∃ x, xs[i]? = some x ∧ d = .tup [.int ((k + i : Nat) : Int), x]
  | [], _, _, _, h => by simp [enumD] at h
  | x :: xs, k, 0, d, h => by simp [enumD] at h; exact ⟨x, rfl, by rw [← h]; simp⟩
  | x :: xs, k, i + 1, d, h => by
    obtain ⟨x', h1, h2⟩ := enumD_get (xs := xs) (k := k + 1) (i := i) (d := d) (by simpa [enumD] using h)
    exact ⟨x', by simpa using h1, by rw [h2]; congr 3; omega⟩
theorem enumD_len : ∀ {xs : List D} {k : Nat}, (enumD k xs).length = xs.length
  | [], _ => rfl
  | x :: xs, k => by simp [enumD, enumD_len (xs := xs) (k := k + 1)]
def dEnum : List D → Option (List D)
  | [x] => (dItems x).bind fun xs => some (enumD 0 xs)
  | _ => none
def gEnum (fs : Ag) : Ag := fun Γ => (fs Γ).bind dEnum
theorem i_enum {p tpos : Pos} {elts : List Expr} {kk : Nat} (hg : Gl X "enumerate") (hm : X.mg "enumerate" = none) (ha : AN X [a] 1 fs) (hs : starEach [a] X.env = [(false, eval a X.env)] := by rfl) :
    I X (.Tuple elts kk tpos) (.Call (.Name "enumerate" p) [a] [] pos) (gEnum fs) := by
  obtain ⟨t, h1, h2⟩ := ha.a.ex
  refine ⟨⟨_, pi_enum hg hm h1 hs, fun G0 H0 Z Γ σ G H R ds Rl hf k => ?_⟩⟩
  obtain ⟨xs, e1, hf⟩ := obind hf
  have hl := ha.n Γ xs e1
  refine h2 G0 H0 Z Γ σ G H _ _ Rl e1 fun G1 H1 vs x1 r1 => ?_
  match xs, hl, hf, r1 with
  | [x], _, hf, .cons r .nil =>
    replace hf : ((dItems x).bind fun xs => some (enumD 0 xs)) = some ds := hf
    obtain ⟨as, a1, hf⟩ := obind hf
    cases hf
    obtain ⟨p1, v1, rfl, s1, r1⟩ := r.items a1
    refine ⟨p1, v1, rfl, x1.gh.seq s1, k G1 H1 _ x1 fun i G2 H2 t1 t2 => ?_⟩
    have q1 : SqL X.K H2 p1 v1 := (t1.trans t2).seq s1
    refine ⟨fun hi => ⟨v1, q1, ?_⟩, fun d hd => ?_⟩
    · rw [enumD_len] at hi
      rw [r1.length]
      omega
    · obtain ⟨x, g1, rfl⟩ := enumD_get hd
      obtain ⟨w1, b1, c1⟩ := r1.get i g1
      refine ⟨⟨v1, w1, q1, b1⟩, fun u H3 yl => ?_⟩
      obtain ⟨T, z1, rfl, hT, rfl, f1⟩ := yl
      have z3 := f1 v1 q1
      rw [b1] at z3
      cases z3
      have x2 := Ext.new1 (o := .tup [.int (i : Nat), w1]) t2 hT
      refine ⟨_, x2, .tup (SqT.of upd_same) (.cons ?_ (.cons ((c1.mono t1).mono x2.gg) .nil))⟩
      rw [Nat.zero_add]
      exact .int _
theorem i_rev1 {p p2 pos2 : Pos} (hg : Gl X "reversed") (hm : X.mg "reversed" = none) (hg2 : Gl X "range") (hm2 : X.mg "range" = none) (ha : E X a f) (na : starEach [a] X.env = (false, eval a X.env) :: starEach [] X.env := by rfl)
    (hs : starEach [.Call (.Name "range" p2) [a] [] pos2] X.env = (false, eval (.Call (.Name "range" p2) [a] [] pos2) X.env) :: starEach [] X.env := by rfl) : I X tg (.Call (.Name "reversed" p) [.Call (.Name "range" p2) [a] [] pos2] [] pos) (fun Γ => (aC f aN Γ).bind dRngR) := by
  obtain ⟨t, h1, h2⟩ := ha.ex
  refine ⟨⟨_, pi_revR hg hm (prg_1 hg2 hm2 h1 na) hs, fun G0 H0 Z Γ σ G H R ds Rl hf k => ?_⟩⟩
  obtain ⟨xs, e1, hf⟩ := obind hf
  obtain ⟨d, e2, e1⟩ := obind e1
  cases e1
  refine h2 G0 H0 Z Γ σ G H _ _ Rl e2 fun G1 H1 v x1 r1 => ?_
  cases d with
  | int j =>
    replace hf : (if -(2 ^ 62) ≤ j ∧ j < 2 ^ 62 then some (rngR 0 j.toNat) else none) = some ds := hf
    split at hf
    · rename_i z
      cases hf
      rw [r1.intv]
      refine ⟨j, rfl, by decide, by decide, z.1, z.2, ?_⟩
      have e : (j - 0).toNat = j.toNat := by congr 1; omega
      rw [e]
      exact k G1 H1 _ x1 itm_rangeR
    · cases hf
  | _ => cases hf

/-! ### comprehensions -/
def tEx (K : PySem.W.Frag) (mg : Str → Option Value) (f : Ex) : TE := fun σ H Q => ∃ G0 H0 Z Γ G d, Rel K mg G0 H0 Z Γ σ G H ∧ f Γ = some d ∧ ∀ G' H' v, Ext G H G' H' → Rep K mg G' v d → Q v H'
def tGx (K : PySem.W.Frag) (mg : Str → Option Value) (ix : List Nat) (g : Gs) : TG := fun v σ H Q => ∃ G0 H0 Z Γ G d Γ', Rel K mg G0 H0 Z Γ σ G H ∧ Rep K mg G v d ∧ g d Γ = some Γ' ∧ ∀ σ', Rel K mg G0 H0 Z Γ' σ' G H → (∀ vs, (∀ i ∈ ix, i ∈ vs) → L2.wipe σ' vs = L2.wipe σ vs) → Q σ' H
def tTx (K : PySem.W.Frag) (mg : Str → Option Value) (f : Te) : TT := fun σ H Q => ∃ G0 H0 Z Γ G d, Rel K mg G0 H0 Z Γ σ G H ∧ f Γ = some d ∧ ∀ G' H', Ext G H G' H' → Q d H'
theorem E.pe (h : E X e f) : PE X e (tEx X.K X.mg f) := by
  obtain ⟨t, h1, h2⟩ := h.ex
  exact ⟨fun pins s σ H Q I ⟨G0, H0, Z, Γ, G, d, R, hf, k⟩ => h1.run pins s σ H Q I (h2 G0 H0 Z Γ σ G H Q d R hf k)⟩
theorem G.pg (h : G X tg ix g) : PG X tg (tGx X.K X.mg ix g) := by
  obtain ⟨t, h1, h2⟩ := h.ex
  exact ⟨fun pins s σ H v u Q I ru ⟨G0, H0, Z, Γ, G, d, Γ', R, r, hf, k⟩ => h1.run pins s σ H v u Q I ru (h2 G0 H0 Z Γ σ G H Q d v Γ' R r hf k)⟩
/-- a comprehension's tests: none or one -/
structure Ts (X : Cx) (ifs : List Expr) (f : Te) : Prop where
  pt : PTs X ifs (tTx X.K X.mg f)
def gYes : Te := fun _ => some true
theorem ts_nil : Ts X [] gYes := ⟨⟨fun pins s σ H Q I ⟨G0, H0, Z, Γ, G, d, R, hf, k⟩ => by
  cases hf
  exact pts_nil.run pins s σ H Q I (k G H (Ext.refl R.gh))⟩⟩
theorem ts_one {p : Te} (h : T X e p) : Ts X [e] p := by
  obtain ⟨t, h1, h2⟩ := h.ex
  exact ⟨⟨fun pins s σ H Q I ⟨G0, H0, Z, Γ, G, d, R, hf, k⟩ => (pts_one h1).run pins s σ H Q I (h2 G0 H0 Z Γ σ G H Q d R hf k)⟩⟩
def compL (g : Gs) (t : Te) (e : Ex) : List D → DEnv → Option (List D)
  | [], _ => some []
  | d :: ds, Γ => (g d Γ).bind fun Γ1 => (t Γ1).bind fun b => if b then (e Γ1).bind fun y => (compL g t e ds Γ).bind fun r => some (y :: r) else compL g t e ds Γ
/-! walks: I over what is known; IB, IC over what is looked at (IB: that stands since the entry) -/
def ItmB (K : PySem.W.Frag) (mg : Str → Option Value) (J : It) (G Hb : Hp) (items : List D) : Prop :=
  ∀ i G1 H1, Same G G1 → Same G1 H1 → SameN Hb H1 → (items.length ≤ i → J.stop i H1) ∧ ∀ d, items[i]? = some d → J.go i H1 ∧ ∀ x H2, J.yld i H1 x H2 → ∃ G2, Ext G1 H1 G2 H2 ∧ Rep K mg G2 x d
structure IB (X : Cx) (tg iter : Expr) (f : Ag) : Prop where
  ex : ∃ t, PI X tg iter t ∧ ∀ G0 H0 Z Γ σ G H R ds, Rel X.K X.mg G0 H0 Z Γ σ G H → f Γ = some ds → (∀ G' H' J, Ext G H G' H' → ItmB X.K X.mg J G' H0 ds → R J H') → t σ H R
structure IC (X : Cx) (tg iter : Expr) (f : Ag) : Prop where
  ex : ∃ t, PI X tg iter t ∧ ∀ G0 H0 Z Γ σ G H R ds, Rel X.K X.mg G0 H0 Z Γ σ G H → f Γ = some ds → (∀ G' H' J, Ext G H G' H' → ItmB X.K X.mg J G' H' ds → R J H') → t σ H R
theorem I.fb {it : Ag} (h : I X tg iter it) : IB X tg iter it := by
  obtain ⟨t, h1, h2⟩ := h.ex
  exact ⟨⟨t, h1, fun G0 H0 Z Γ σ G H R ds Rl hf k => h2 G0 H0 Z Γ σ G H R ds Rl hf fun G' H' J x hJ => k G' H' J x fun i G1 H1 s1 s2 _ => hJ i G1 H1 s1 s2⟩⟩
theorem IB.c {it : Ag} (h : IB X tg iter it) : IC X tg iter it := by
  obtain ⟨t, h1, h2⟩ := h.ex
  exact ⟨⟨t, h1, fun G0 H0 Z Γ σ G H R ds Rl hf k => h2 G0 H0 Z Γ σ G H R ds Rl hf fun G' H' J x hJ => k G' H' J x fun i G1 H1 s1 s2 s3 => hJ i G1 H1 s1 s2 ((Rl.hh.trans x.hh).trans s3)⟩⟩
theorem I.c {it : Ag} (h : I X tg iter it) : IC X tg iter it := h.fb.c
theorem itmB_lst {K mg} {G H Hb : Hp} {v : V} {xs : List D} (gh : Same G H) (bh : SameN Hb H) (r : RepB K mg G Hb v (.lst xs)) : ∃ p vs, v = .ref p ∧ SqL K H p vs ∧ ItmB K mg (Itl K p) G Hb xs := by
  cases r with
  | sh r => cases r with
    | lst h r => exact ⟨_, _, rfl, SqL.of (gh _ _ h), fun i G1 H1 s1 s2 _ => itm_list (SqL.of h) r (fun _ _ => True.intro) i G1 H1 s1 s2⟩
  | li h r =>
    refine ⟨_, _, rfl, SqL.of (bh _ _ h nofun), fun i G1 H1 s1 s2 s3 => ?_⟩
    have h1 : SqL K H1 _ _ := SqL.of (s3 _ _ h nofun)
    refine ⟨fun hi => ⟨_, h1, by rw [r.length]; exact hi⟩, fun d hd => ?_⟩
    obtain ⟨v, e1, e2⟩ := r.get i hd
    refine ⟨⟨_, v, h1, e1⟩, fun x H2 y => ?_⟩
    obtain ⟨rfl, y⟩ := y
    have e3 := y _ h1
    rw [e1] at e3
    cases e3
    exact ⟨G1, Ext.refl s2, e2.mono s1⟩
theorem itmB_scr {K mg} {G H Hb : Hp} {v : V} {ns : List Int} (gh : Same G H) (r : RepB K mg G Hb v (.scr ns)) : ∃ p vs, v = .ref p ∧ SqL K H p vs ∧ ItmB K mg (Itl K p) G Hb (ns.map D.int) := by
  cases r with
  | sh r => cases r with
    | scr h => exact ⟨_, _, rfl, gh.seq h, fun i G1 H1 s1 s2 _ => itm_list h .ofInts (fun _ _ => True.intro) i G1 H1 s1 s2⟩
theorem itmB_tup {K mg} {G H Hb : Hp} {v : V} {xs : List D} (gh : Same G H) (r : RepB K mg G Hb v (.tup xs)) : ∃ p vs, v = .ref p ∧ SqT K H p vs ∧ ItmB K mg (Itt K p) G Hb xs := by
  cases r with
  | sh r => cases r with
    | tup h r => exact ⟨_, _, rfl, sqt_same gh h, fun i G1 H1 s1 s2 _ => itm_tup h r i G1 H1 s1 s2⟩
/-- a walk of a comprehension over what is looked at -/
theorem ic_b (h : B X iter f) : IC X tg iter (gIt f) := by
  obtain ⟨t, h1, h2⟩ := h.ex
  refine ⟨⟨_, pi_or (pi_list h1) (pi_tup h1), fun G0 H0 Z Γ σ G H R ds Rl hf k => ?_⟩⟩
  obtain ⟨d, e1, hf⟩ := obind hf
  cases d with
  | lst xs =>
    cases hf
    refine .inl (h2 G0 H0 Z Γ σ G H _ _ Rl e1 fun G1 H1 v x1 r1 => ?_)
    obtain ⟨p, vs, rfl, hs, it⟩ := itmB_lst x1.gh (same_n (Same.refl _)) r1
    exact ⟨_, rfl, ⟨_, hs⟩, k G1 H1 _ x1 it⟩
  | scr ns =>
    cases hf
    refine .inl (h2 G0 H0 Z Γ σ G H _ _ Rl e1 fun G1 H1 v x1 r1 => ?_)
    obtain ⟨p, vs, rfl, hs, it⟩ := itmB_scr x1.gh r1
    exact ⟨_, rfl, ⟨_, hs⟩, k G1 H1 _ x1 it⟩
  | tup xs =>
    cases hf
    refine .inr (h2 G0 H0 Z Γ σ G H _ _ Rl e1 fun G1 H1 v x1 r1 => ?_)
    obtain ⟨p, vs, rfl, hs, it⟩ := itmB_tup x1.gh r1
    exact ⟨_, rfl, ⟨_, hs⟩, k G1 H1 _ x1 it⟩
  | _ => cases hf
/-- what has been there since the entry -/
structure B0 (X : Cx) (e : Expr) (f : Ex) : Prop where
  ex : ∃ t, PE X e t ∧ ∀ G0 H0 Z Γ σ G H Q d, Rel X.K X.mg G0 H0 Z Γ σ G H → f Γ = some d → (∀ G' H' v, Ext G H G' H' → RepB X.K X.mg G' H0 v d → Q v H') → t σ H Q
def gB0 (i : Nat) : Ex := fun Γ => match Γ[i]? with | some (.bo d) => some d | some (.sh d) => some d | _ => none
theorem b0_var (i : Nat) {x : Str} (hN : X.N[i]? = some x := by rfl) (hv : Vis X.env.scope x := by first | exact Or.inl rfl | exact Or.inr (Or.inl rfl) | exact Or.inr (Or.inr rfl)) (hd : (x == ("__debug__" : Str)) = false := by decide)
    (hcd : (x == ("__classdict__" : Str)) = false := by decide) : B0 X (.Name x pos) (gB0 i) := by
  refine ⟨⟨_, pe_var hN hv hd hcd, fun G0 H0 Z Γ σ G H Q d R hf k => ?_⟩⟩
  unfold gB0 at hf
  cases q : Γ[i]? with
  | none => rw [q] at hf; cases hf
  | some s =>
    rw [q] at hf
    cases s with
    | sh d' =>
      cases hf
      obtain ⟨v, h1, h2⟩ := R.sh q
      exact ⟨v, h1, k G H v (Ext.refl R.gh) (.sh h2)⟩
    | bo d' =>
      cases hf
      obtain ⟨own, o1, o2, o3⟩ := R.own
      rcases o3 i _ q with z | ⟨v, h1, h2⟩ | ⟨v, d1, z, h1, h2⟩
      · cases z
      · cases h2
      · cases z; exact ⟨v, h1, k G H v (Ext.refl R.gh) h2⟩
    | _ => cases hf
theorem ib_b (h : B0 X iter f) : IB X tg iter (gIt f) := by
  obtain ⟨t, h1, h2⟩ := h.ex
  refine ⟨⟨_, pi_or (pi_list h1) (pi_tup h1), fun G0 H0 Z Γ σ G H R ds Rl hf k => ?_⟩⟩
  obtain ⟨d, e1, hf⟩ := obind hf
  cases d with
  | lst xs =>
    cases hf
    refine .inl (h2 G0 H0 Z Γ σ G H _ _ Rl e1 fun G1 H1 v x1 r1 => ?_)
    obtain ⟨p, vs, rfl, hs, it⟩ := itmB_lst x1.gh (Rl.hh.trans x1.hh) r1
    exact ⟨_, rfl, ⟨_, hs⟩, k G1 H1 _ x1 it⟩
  | scr ns =>
    cases hf
    refine .inl (h2 G0 H0 Z Γ σ G H _ _ Rl e1 fun G1 H1 v x1 r1 => ?_)
    obtain ⟨p, vs, rfl, hs, it⟩ := itmB_scr x1.gh r1
    exact ⟨_, rfl, ⟨_, hs⟩, k G1 H1 _ x1 it⟩
  | tup xs =>
    cases hf
    refine .inr (h2 G0 H0 Z Γ σ G H _ _ Rl e1 fun G1 H1 v x1 r1 => ?_)
    obtain ⟨p, vs, rfl, hs, it⟩ := itmB_tup x1.gh r1
    exact ⟨_, rfl, ⟨_, hs⟩, k G1 H1 _ x1 it⟩
  | _ => cases hf
def gLc (own : List Nat) (it : Ag) (g : Gs) (t : Te) (e : Ex) : Ag := fun Γ => (it Γ).bind fun ds => if ds.length < 1000000 then compL g t e ds (wipeE Γ own) else none
theorem lc_run {K : PySem.W.Frag} {mg : Str → Option Value} {own : List (Str × Nat)} {it : Ag} {p : Te} {wi : TI} (hix : ∀ i ∈ ix, i ∈ own.map (·.2))
    (hw : ∀ G0 H0 Z Γ σ G H R ds, Rel K mg G0 H0 Z Γ σ G H → it Γ = some ds → (∀ G' H' J, Ext G H G' H' → ItmB K mg J G' H' ds → R J H') → wi σ H R)
    {G0 H0 : Hp} {Z : Zs} {Γ : DEnv} {σ : L2.St} {G H : Hp} {Q : VK} {ds : List D} (R : Rel K mg G0 H0 Z Γ σ G H) (hf : gLc (own.map (·.2)) it g p f Γ = some ds)
    (k : ∀ G' H' D vs, Ext G H G' H' → H D = none → G' D = none → H' D = some (.lst vs) → RepL K mg G' vs ds → Q (.ref D) H') :
    tLc wi (tGx K mg ix g) (tTx K mg p) (tEx K mg f) (own.map (·.2)) σ H Q := by
  obtain ⟨items, e1, hf⟩ := obind hf
  split at hf
  · rename_i hlen
    refine hw G0 H0 Z Γ σ G H _ items R e1 fun G1 H1 J x1 hJ D hD => ?_
    have R1 := R.ext x1
    -- the state within: the list so far at D
    have ntD : ¬ Z.t.tz D := fun h => R1.zz _ (R1.tz _ h) hD
    refine ⟨fun i m Hc => m = items.length - i ∧ i ≤ items.length ∧ ∃ Gc acc dacc rest, Ext G1 H1 Gc Hc ∧ Gc D = none ∧ Hc D = some (.lst acc) ∧ acc.length ≤ i ∧ RepL K mg Gc acc dacc ∧ Rel K mg G0 H0 ⟨fun a => Z.z a ∨ a = D, Z.a, Z.t⟩ (wipeE Γ (own.map (·.2))) (L2.wipe σ (own.map (·.2))) Gc Hc ∧
      compL g p f (items.drop i) (wipeE Γ (own.map (·.2))) = some rest ∧ dacc ++ rest = ds, ⟨items.length, ?_⟩, ?_⟩
    · exact ⟨by simp, Nat.zero_le _, G1, [], [], ds, Ext.own1 x1.gh hD, x1.gh.free hD, upd_same, Nat.le_refl _, .nil, (R1.wipe (own.map (·.2))).zput hD, by simpa using hf, rfl⟩
    · rintro i m Hc ⟨rfl, hi, Gc, acc, dacc, rest, xc, gD, hcD, la, ra, Rc, hr, hds⟩
      obtain ⟨st, go⟩ := hJ i Gc Hc xc.gg xc.gh xc.hh
      have nn : ∀ {H : Hp}, H D = some (.lst acc) → H D ≠ none := fun e => by rw [e]; simp
      by_cases hlt : i < items.length
      · have hd : items.drop i = items[i] :: items.drop (i + 1) := List.drop_eq_getElem_cons hlt
        obtain ⟨g1, g2⟩ := go items[i] (List.getElem?_eq_getElem hlt)
        rw [hd] at hr
        obtain ⟨Γ1, c1, hr⟩ := obind hr
        obtain ⟨b, c2, hr⟩ := obind hr
        refine .inr ⟨g1, fun H' => ∃ m', (m' = items.length - (i + 1) ∧ i + 1 ≤ items.length ∧ ∃ Gc acc dacc rest, Ext G1 H1 Gc H' ∧ Gc D = none ∧ H' D = some (.lst acc) ∧ acc.length ≤ i + 1 ∧ RepL K mg Gc acc dacc ∧ Rel K mg G0 H0 ⟨fun a => Z.z a ∨ a = D, Z.a, Z.t⟩ (wipeE Γ (own.map (·.2))) (L2.wipe σ (own.map (·.2))) Gc H' ∧
          compL g p f (items.drop (i + 1)) (wipeE Γ (own.map (·.2))) = some rest ∧ dacc ++ rest = ds), fun H' ⟨m', h⟩ => ⟨m', by have := h.1; omega, h⟩, fun x H2 y => ?_⟩
        obtain ⟨G2, x2, r2⟩ := g2 x H2 y
        have xc2 := xc.trans x2
        have R2 := Rc.ext x2
        have gD2 : G2 D = none := x2.none gD (nn hcD)
        have hD2 := x2.hh _ _ hcD nofun
        refine ⟨G0, H0, _, _, G2, items[i], Γ1, R2, r2, c1, fun σ3 R3 w3 => ⟨(w3 _ hix).trans (wipe_sub _ fun _ h => h), ?_⟩⟩
        refine ⟨G0, H0, _, Γ1, G2, b, R3, c2, fun G4 H4 x4 => ?_⟩
        have gD4 : G4 D = none := x4.none gD2 (nn hD2)
        have hD4 := x4.hh _ _ hD2 nofun
        cases b with
        | false =>
          refine iteF ⟨_, rfl, hlt, G4, acc, dacc, rest, xc2.trans x4, gD4, hD4, by omega, (ra.mono x2.gg).mono x4.gg, R2.ext x4, hr, hds⟩
        | true =>
          refine iteT ⟨G0, H0, ⟨fun a => Z.z a ∨ a = D, Z.a, Z.t⟩, Γ1, G4, ?_⟩
          replace hr : ((f Γ1).bind fun y => (compL g p f (items.drop (i + 1)) (wipeE Γ (own.map (·.2)))).bind fun r => some (y :: r)) = some rest := hr
          obtain ⟨yv, c3, hr⟩ := obind hr
          obtain ⟨rr, c4, hr⟩ := obind hr
          cases hr
          refine ⟨yv, R3.ext x4, c3, fun G5 H5 v x5 r5 => ?_⟩
          have gD5 : G5 D = none := x5.none gD4 (nn hD4)
          have hD5 : H5 D = some (.lst acc) := x5.hh _ _ hD4 nofun
          refine ⟨acc, hD5, Nat.lt_of_lt_of_le (Nat.lt_of_le_of_lt la (Nat.lt_trans hlt hlen)) line_big, _, rfl, hlt, G5, acc ++ [v], dacc ++ [yv], rr, ?_, gD5, upd_same, by simp; omega, ((((ra.mono x2.gg).mono x4.gg).mono x5.gg).append (.cons r5 .nil)), ((R2.ext x4).ext x5).aside (.inr rfl) ntD gD5 (R1.hf hD), c4, by rw [← hds]; simp⟩
          have xx := (xc2.trans x4).trans x5
          refine ⟨xx.gg, fun a o q n => ?_, fun a o q => ?_, xx.new, fun a h => ?_, fun t => TC.ti.keep (xx.tb t) (Same.refl _) (fun a h => upd_ne (fun z => (TC.ti.live t a h).1 (by rw [z]; exact hD))) (fun _ _ g => g)⟩
          · rw [upd_ne (ne_of_none q hD)]; exact xx.hh _ _ q n
          · rw [upd_ne (ne_of_none q gD5)]; exact xx.gh _ _ q
          · by_cases z : a = D
            · subst z; rw [upd_same]; simp
            · rw [upd_ne z]; exact xx.hn a h
      · have e : i = items.length := by omega
        subst e
        refine .inl ⟨st (Nat.le_refl _), ?_⟩
        rw [List.drop_length] at hr
        cases hr
        rw [List.append_nil] at hds
        subst hds
        exact k Gc Hc D acc (x1.trans xc) (x1.hf hD) gD hcD ra
  · cases hf
theorem el_lc {elt : Expr} {ifs : List Expr} {scope : Scope} {own : List (Str × Nat)} {it : Ag} {p : Te} (hc : X.calm = true) (hN : X.N.Nodup) (hi : IC X tg iter it) (ok : BlkOk X.N X.env.scope scope own) (hix : ∀ i ∈ ix, i ∈ own.map (·.2))
    (hg : ∀ (s : Shared) (H : Hp) (C : Addr) (cl : List (Str × Addr)) (fp : List Addr), G (X.blk s H scope (compEnvC scope cl C X.env) fp) tg ix g)
    (ht : ∀ (s : Shared) (H : Hp) (C : Addr) (cl : List (Str × Addr)) (fp : List Addr), Ts (X.blk s H scope (compEnvC scope cl C X.env) fp) ifs p)
    (he : ∀ (s : Shared) (H : Hp) (C : Addr) (cl : List (Str × Addr)) (fp : List Addr), E (X.blk s H scope (compEnvC scope cl C X.env) fp) elt f) (hs : ∀ x, foldedSetIterable iter X.env x = pure x := by intro _; rfl) :
    EL X (.ListComp elt [⟨tg, iter, ifs, 0⟩] scope pos) (gLc (own.map (·.2)) it g p f) := by
  obtain ⟨wi, w1, w2⟩ := hi.ex
  exact ⟨⟨_, pe_lc hc hN w1 ok (fun s H C cl fp => (hg s H C cl fp).pg) (fun s H C cl fp => (ht s H C cl fp).pt) (fun s H C cl fp => (he s H C cl fp).pe) hs, fun G0 H0 Z Γ σ G H Q ds R hf k => lc_run hix w2 R hf k⟩⟩
end
end DL

namespace DL
open PySem L2
variable [TC : TabCtx]

/-! ### statements -/
def sNil : Sm := fun Γ => some (.nx Γ)
def sSeq (f g : Sm) : Sm := fun Γ => (f Γ).bind fun r => match r with | .nx Γ' => g Γ' | r => some r
def sBrk : Sm := fun Γ => some (.bk Γ)
def sCnt : Sm := fun Γ => some (.ct Γ)
def sSet (i : Nat) (f : Ex) : Sm := fun Γ => (f Γ).bind fun d => some (.nx (Γ.set i (.sh d)))
def sSetO (i : Nat) (f : Ag) : Sm := fun Γ => (f Γ).bind fun d => some (.nx (Γ.set i (.ow d)))
def sExp (f : Ex) : Sm := fun Γ => (f Γ).bind fun _ => some (.nx Γ)
def sRet (f : Ex) : Sm := fun Γ => (f Γ).bind fun d => some (.rt d)
def sRetN : Sm := fun _ => some (.rt .non)
def sIf (c : Te) (f g : Sm) : Sm := fun Γ => (c Γ).bind fun b => if b then f Γ else g Γ
def frzE (i : Nat) (Γ : DEnv) : DEnv := match Γ[i]? with | some (.ow xs) => Γ.set i (.sh (.lst xs)) | some (.dk ks xs) => Γ.set i (.sh (.dic ks xs)) | _ => Γ
def sFrz (i : Nat) (f : Sm) : Sm := fun Γ => f (frzE i Γ)
/-- a place of a slot, read and changed -/
def gP (i : Nat) (rp : Pth) (Γ : DEnv) : Option Sl := (Γ[i]?).bind (getR rp)
def upP (i : Nat) (rp : Pth) (s' : Sl) (Γ : DEnv) : Option Res := (Γ[i]?).bind fun s => (setR rp s' s).bind fun s2 => some (.nx (Γ.set i s2))
def sApp (i : Nat) (rp : Pth) (f : Ex) : Sm := fun Γ => (f Γ).bind fun d => match gP i rp Γ with
  | some (.ow xs) => if xs.length < 1000000 then upP i rp (.ow (xs ++ [d])) Γ else none
  | _ => none
def sAug (o : D → D → Option D) (i : Nat) (f : Ex) : Sm := fun Γ => (gV i Γ).bind fun x => (f Γ).bind fun y => (o x y).bind fun d => some (.nx (Γ.set i (.sh d)))
def sUnp (g : Gs) (f : Ex) : Sm := fun Γ => (f Γ).bind fun d => (g d Γ).bind fun Γ' => some (.nx Γ')
def sPar (is : List Nat) (fs : Ag) : Sm := fun Γ => (fs Γ).bind fun ds => some (.nx ((is.zip ds).foldl (fun Γ p => Γ.set p.1 (.sh p.2)) Γ))
def sIxS (i : Nat) (rp : Pth) (k : Ex) (f : Ex) : Sm := fun Γ => (f Γ).bind fun d => (k Γ).bind fun j => match gP i rp Γ, j with
  | some (.ow xs), .int n => (ixN xs.length n).bind fun m => upP i rp (.ow (xs.set m d)) Γ
  | _, _ => none

section
variable {X : Cx} {e a b o tg : Expr} {es : List Expr} {f k : Ex} {fs : Ag} {st : Stmt} {sts : List Stmt} {F F' : Sm} {p : Te} {pos pos' : Pos} {n : Nat} {ix : List Nat} {g : Gs}
theorem ss_nil : Ss X [] sNil := ⟨⟨_, pss_nil, fun G0 H0 Z Γ σ G H D r R hf k => by cases hf; exact k σ G H R⟩⟩
theorem ss_cons (h : S X st F) (hr : Ss X sts F') : Ss X (st :: sts) (sSeq F F') := by
  obtain ⟨t, h1, h2⟩ := h.ex
  obtain ⟨u, q1, q2⟩ := hr.ex
  refine ⟨⟨_, pss_cons h1 q1, fun G0 H0 Z Γ σ G H D r R hf k => ?_⟩⟩
  obtain ⟨r1, e1, hf⟩ := obind hf
  refine h2 G0 H0 Z Γ σ G H _ r1 R e1 ?_
  cases r1 with
  | nx Γ1 => exact fun σ1 G1 H1 R1 => q2 G0 H0 Z Γ1 σ1 G1 H1 D r R1 hf k
  | rt d => cases hf; exact k
  | rm d s => cases hf; exact k
  | ro s => cases hf; exact k
  | bk Γ1 => cases hf; exact k
  | ct Γ1 => cases hf; exact k
theorem ss_one (h : S X st F) : Ss X [st] F := by
  obtain ⟨t, h1, h2⟩ := h.ex
  exact ⟨⟨_, pss_one h1, h2⟩⟩
theorem s_pass : S X (.Pass pos) sNil := ⟨⟨_, ps_pass, fun G0 H0 Z Γ σ G H D r R hf k => by cases hf; exact k σ G H R⟩⟩
theorem s_break : S X (.Break pos) sBrk := ⟨⟨_, ps_break, fun G0 H0 Z Γ σ G H D r R hf k => by cases hf; exact k σ G H R⟩⟩
theorem s_cont : S X (.Continue pos) sCnt := ⟨⟨_, ps_continue, fun G0 H0 Z Γ σ G H D r R hf k => by cases hf; exact k σ G H R⟩⟩
theorem s_set (i : Nat) {x : Str} (hN : X.N.Nodup) (he : E X e f) (hi : X.N[i]? = some x := by rfl) (hx : Loc X.env.scope x := by first | exact Or.inl rfl | exact Or.inr rfl) (hs : swapsWith e (some (.Name x pos')) pos.line X.env = pure false := by rfl)
    (hf : X.fn x = true ∨ X.env.scope.names.lookup x = some .local := by first | exact .inl rfl | exact .inr rfl | assumption) : S X (.Assign [.Name x pos'] e pos) (sSet i f) := by
  obtain ⟨t, h1, h2⟩ := he.ex
  refine ⟨⟨_, ps_set hN hi hx h1 hs hf, fun G0 H0 Z Γ σ G H D r R hf k => ?_⟩⟩
  obtain ⟨d, e1, hf⟩ := obind hf
  cases hf
  exact h2 G0 H0 Z Γ σ G H _ d R e1 fun G1 H1 v x1 r1 => k _ G1 H1 ((R.ext x1).set i r1)
theorem set_own {K : PySem.W.Frag} {mg : Str → Option Value} {G0 H0 : Hp} {Z : Zs} {Γ : DEnv} {σ : L2.St} {G H G1 H1 : Hp} {q : Addr} {vs : List V} {xs : List D} (R : Rel K mg G0 H0 Z Γ σ G H) (x1 : Ext G H G1 H1) (hq : H q = none) (gq : G1 q = none) (h : H1 q = some (.lst vs)) (r : RepL K mg G1 vs xs) (i : Nat) (h0 : i ≠ 0) :
    Rel K mg G0 H0 Z (Γ.set i (.ow xs)) (σ.set i (some (.ref q))) G1 H1 :=
  R.setNew x1 i (F := fun a => a = q) (.ow rfl h r) (fun a e => by subst e; exact ⟨gq, hq, by rw [h]; simp⟩) (.inl h0)
theorem s_setO (i : Nat) {x : Str} (hN : X.N.Nodup) (he : EL X e fs) (h0 : i ≠ 0 := by decide) (hi : X.N[i]? = some x := by rfl) (hx : Loc X.env.scope x := by first | exact Or.inl rfl | exact Or.inr rfl) (hs : swapsWith e (some (.Name x pos')) pos.line X.env = pure false := by rfl)
    (hf : X.fn x = true ∨ X.env.scope.names.lookup x = some .local := by first | exact .inl rfl | exact .inr rfl | assumption) : S X (.Assign [.Name x pos'] e pos) (sSetO i fs) := by
  obtain ⟨t, h1, h2⟩ := he.ex
  refine ⟨⟨_, ps_set hN hi hx h1 hs hf, fun G0 H0 Z Γ σ G H D r R hf k => ?_⟩⟩
  obtain ⟨d, e1, hf⟩ := obind hf
  cases hf
  exact h2 G0 H0 Z Γ σ G H _ d R e1 fun G1 H1 q vs x1 hq gq h r1 => k _ G1 H1 (set_own R x1 hq gq h r1 i h0)
theorem s_expr (he : E X e f) (hs : swapsWith e none pos.line X.env = pure false := by rfl) : S X (.Expr e pos) (sExp f) := by
  obtain ⟨t, h1, h2⟩ := he.ex
  refine ⟨⟨_, ps_expr h1 hs, fun G0 H0 Z Γ σ G H D r R hf k => ?_⟩⟩
  obtain ⟨d, e1, hf⟩ := obind hf
  cases hf
  exact h2 G0 H0 Z Γ σ G H _ d R e1 fun G1 H1 v x1 r1 => k σ G1 H1 (R.ext x1)
theorem Rel.end {K : PySem.W.Frag} {mg : Str → Option Value} {G0 H0 : Hp} {Z : Zs} {Γ : DEnv} {σ : L2.St} {G H : Hp} (R : Rel K mg G0 H0 Z Γ σ G H) : Ext G0 H0 G H := ⟨R.gg, R.hh, R.gh, R.new, R.hn, fun _ => by rw [← R.tc]; exact R.tb⟩
theorem s_ret (he : E X e f) : S X (.Return (some e) pos) (sRet f) := by
  obtain ⟨t, h1, h2⟩ := he.ex
  refine ⟨⟨_, ps_ret h1, fun G0 H0 Z Γ σ G H D r R hf k => ?_⟩⟩
  obtain ⟨d, e1, hf⟩ := obind hf
  cases hf
  exact h2 G0 H0 Z Γ σ G H _ d R e1 fun G1 H1 v x1 r1 => k G1 H1 v (R.ext x1).end r1
theorem s_retN : S X (.Return none pos) sRetN := ⟨⟨_, ps_retN, fun G0 H0 Z Γ σ G H D r R hf k => by cases hf; exact k G H _ R.end .non⟩⟩
theorem s_if {c : Expr} {sa sb : List Stmt} (hc : T X c p) (ha : Ss X sa F) (hb : Ss X sb F') : S X (.If c sa sb pos) (sIf p F F') := by
  obtain ⟨t, h1, h2⟩ := hc.ex
  obtain ⟨u, q1, q2⟩ := ha.ex
  obtain ⟨w, z1, z2⟩ := hb.ex
  refine ⟨⟨_, ps_if h1 q1 z1, fun G0 H0 Z Γ σ G H D r R hf k => ?_⟩⟩
  obtain ⟨b, e1, hf⟩ := obind hf
  refine h2 G0 H0 Z Γ σ G H _ b R e1 fun G1 H1 x1 => ?_
  cases b with
  | true => exact iteT (q2 G0 H0 Z Γ σ G1 H1 D r (R.ext x1) hf k)
  | false => exact iteF (z2 G0 H0 Z Γ σ G1 H1 D r (R.ext x1) hf k)
theorem Rel.frzE {K : PySem.W.Frag} {mg : Str → Option Value} {G0 H0 : Hp} {Z : Zs} {Γ : DEnv} {σ : L2.St} {G H : Hp} (R : Rel K mg G0 H0 Z Γ σ G H) (i : Nat) : ∃ G', Rel K mg G0 H0 Z (frzE i Γ) σ G' H := by
  unfold DL.frzE
  cases q : Γ[i]? with
  | none => exact ⟨G, R⟩
  | some s =>
    cases s with
    | ow xs => obtain ⟨G', R', _⟩ := R.frzP (rp := []) (d := .lst xs) q rfl (by simp) (by simp [SlP]) rfl rfl; exact ⟨G', R'⟩
    | dk ks xs => obtain ⟨G', R', _⟩ := R.frzP (rp := []) (d := .dic ks xs) q rfl (by simp) (by simp [SlP]) (by simp only [toD]) rfl; exact ⟨G', R'⟩
    | _ => exact ⟨G, R⟩
theorem s_frz (i : Nat) (h : S X st F) : S X st (sFrz i F) := by
  obtain ⟨t, h1, h2⟩ := h.ex
  refine ⟨⟨t, h1, fun G0 H0 Z Γ σ G H D r R hf k => ?_⟩⟩
  obtain ⟨G', R'⟩ := R.frzE i
  exact h2 G0 H0 _ _ σ G' H D r R' hf k
/-! places -/
structure PL (X : Cx) (e : Expr) (i : Nat) (rp : Pth) : Prop where
  ex : ∃ t, PE X e t ∧ ∀ G0 H0 Z Γ σ Gb Hb G H Q s s1, Rel X.K X.mg G0 H0 Z Γ σ Gb Hb → Ext Gb Hb G H → Γ[i]? = some s → getR rp s = some s1 → SlP s → s1 ≠ .no → (∀ v, (∀ G1 H1, Ext Gb Hb G1 H1 → ∃ F1, Pack X.K X.mg G0 H0 Z Γ σ i rp s s1 v F1 Hb G1 H1) → Q v H) → t σ H Q
theorem pl_var (i : Nat) {x : Str} (hN : X.N[i]? = some x := by rfl) (hv : Vis X.env.scope x := by first | exact Or.inl rfl | exact Or.inr (Or.inl rfl) | exact Or.inr (Or.inr rfl)) (hd : (x == ("__debug__" : Str)) = false := by decide)
    (hcd : (x == ("__classdict__" : Str)) = false := by decide) : PL X (.Name x pos) i [] := by
  refine ⟨⟨_, pe_var hN hv hd hcd, fun G0 H0 Z Γ σ Gb Hb G H Q s s1 R xb hi hg hn h1 k => ?_⟩⟩
  obtain ⟨v, F1, e, pk⟩ := R.pack hi hg h1 hn
  exact ⟨v, e rfl, k v fun G1 H1 x => ⟨F1, pk G1 H1 x⟩⟩
theorem Pack.obAt {K : PySem.W.Frag} {mg : Str → Option Value} {G0 H0 : Hp} {Z : Zs} {Γ : DEnv} {σ : L2.St} {G H Hb : Hp} {i c : Nat} {rp : Pth} {s : Sl} {fs : List Sl} {v : V} {F1 : Addr → Prop} (P : Pack K mg G0 H0 Z Γ σ i rp s (.ob c fs) v F1 Hb G H) : ∃ p C dx zs, v = .ref p ∧ H p = some (.ins C dx zs) := by
  have hd := P.hd
  cases hd with
  | ob f hm h n s r => exact ⟨_, _, _, _, rfl, h⟩
theorem pl_fld {i : Nat} {rp : Pth} {c j : Nat} {C : Addr} {x : Str} (ck : CK X.K X.mg c C) (h : PL X o i rp) (hj : (cF c)[j]? = some x := by rfl) (nd : (cF c).Nodup := by decide +kernel) (hb : attributeBase o x X.env (eval o X.env) = eval o X.env := by rfl) : PL X (.Attribute o x pos) i ((c, j) :: rp) := by
  obtain ⟨t, h1, h2⟩ := h.ex
  refine ⟨⟨_, pe_fld h1 hb, fun G0 H0 Z Γ σ Gb Hb G H Q s s1 R xb hi hg hn hs k => ?_⟩⟩
  unfold getR at hg
  cases q : getR rp s with
  | none => rw [q] at hg; cases hg
  | some par =>
    rw [q] at hg
    cases par with
    | ob c' fs =>
      replace hg : (if c' = c then fs[j]? else none) = some s1 := hg
      split at hg
      · rename_i hc
        subst hc
        refine h2 G0 H0 Z Γ σ Gb Hb G H _ s _ R xb hi q hn (by simp) fun v pk => ?_
        obtain ⟨F0, p0⟩ := pk G H xb
        obtain ⟨p, C', dx, vs, v1, F1, rfl, hm, ho, e1, _⟩ := p0.fld q hg
        rw [ck.hm] at hm
        cases hm
        have look := zip_lookup nd hj e1
        refine ⟨p, C, dx, _, v1, rfl, ho, ck.cl, ck.na x (List.mem_of_getElem? hj), look, k v1 fun G1 H1 x1 => ?_⟩
        obtain ⟨F2, p2⟩ := pk G1 H1 x1
        obtain ⟨p', C2, dx2, vs2, v2, F3, ep, _, ho2, e2, p3⟩ := p2.fld q hg
        cases ep
        obtain ⟨Fb, pb⟩ := pk Gb Hb (Ext.refl R.gh)
        obtain ⟨p', _, _, _, ep, hb1⟩ := pb.obAt
        cases ep
        have h3 := x1.hh _ _ hb1 nofun
        have h4 := xb.hh _ _ hb1 nofun
        rw [ho2] at h3
        rw [ho] at h4
        cases h4
        have ez : (cF c').zip vs2 = (cF c').zip vs := by injection h3 with h3; injection h3
        have look2 := zip_lookup nd hj e2
        rw [ez, look] at look2
        cases look2
        exact ⟨F3, p3⟩
      · cases hg
    | ol fs =>
      replace hg : (if c = 1000 then fs[j]? else none) = some s1 := hg
      split at hg
      · rename_i hc
        subst hc
        cases hj
      · cases hg
    | _ => cases hg
/-- .. read: a datum -/
def gPE (i : Nat) (rp : Pth) : Ex := fun Γ => match gP i rp Γ with | some (.sh d) => some d | _ => none
def gPB (i : Nat) (rp : Pth) : Ex := fun Γ => match gP i rp Γ with | some (.sh d) => some d | some (.ow xs) => some (.lst xs) | some (.ob c fs) => toD (.ob c fs) | some (.dk ks xs) => some (.dic ks xs) | _ => none
theorem gP_some {i : Nat} {rp : Pth} {Γ : DEnv} {s1 : Sl} (h : gP i rp Γ = some s1) (hn : SlP s1) : ∃ s, Γ[i]? = some s ∧ getR rp s = some s1 ∧ SlP s := by
  obtain ⟨s, e1, e2⟩ := obind h
  have key : ∀ z : Sl, (∀ c fs, z ≠ .ob c fs) → (∀ fs, z ≠ .ol fs) → ∀ rp : Pth, getR rp z = none ∨ getR rp z = some z   := fun z hz hzl rp => by
    induction rp with
    | nil => exact .inr rfl
    | cons p rp ih =>
      left
      unfold getR
      rcases ih with q | q
      · rw [q]
      · rw [q]
        cases z with
        | ob c fs => exact absurd rfl (hz c fs)
        | ol fs => exact absurd rfl (hzl fs)
        | _ => rfl
  refine ⟨s, e1, e2, fun z => ?_, fun d z => ?_⟩
  · subst z
    rcases key .no (by simp) (by simp) rp with q | q
    · rw [q] at e2; cases e2
    · rw [q] at e2; cases e2; exact hn.1 rfl
  · subst z
    rcases key (.bo d) (by simp) (by simp) rp with q | q
    · rw [q] at e2; cases e2
    · rw [q] at e2; cases e2; exact hn.2 d rfl
theorem PL.er {i : Nat} {rp : Pth} (h : PL X e i rp) : E X e (gPE i rp) := by
  obtain ⟨t, h1, h2⟩ := h.ex
  refine ⟨⟨t, h1, fun G0 H0 Z Γ σ G H Q d R hf k => ?_⟩⟩
  unfold gPE at hf
  cases q : gP i rp Γ with
  | none => rw [q] at hf; cases hf
  | some s1 =>
    rw [q] at hf
    cases s1 with
    | sh d' =>
      cases hf
      obtain ⟨s, e1, e2, e3⟩ := gP_some q (by simp [SlP])
      refine h2 G0 H0 Z Γ σ G H G H Q s _ R (Ext.refl R.gh) e1 e2 e3 (by simp) fun v pk => ?_
      obtain ⟨F1, p⟩ := pk G H (Ext.refl R.gh)
      have hd := p.hd
      cases hd with
      | sh r => exact k G H v (Ext.refl R.gh) r
    | _ => cases hf
theorem PL.br {i : Nat} {rp : Pth} (h : PL X e i rp) : B X e (gPB i rp) := by
  obtain ⟨t, h1, h2⟩ := h.ex
  refine ⟨⟨t, h1, fun G0 H0 Z Γ σ G H Q d R hf k => ?_⟩⟩
  unfold gPB at hf
  cases q : gP i rp Γ with
  | none => rw [q] at hf; cases hf
  | some s1 =>
    rw [q] at hf
    cases s1 with
    | sh d' =>
      cases hf
      obtain ⟨s, e1, e2, e3⟩ := gP_some q (by simp [SlP])
      refine h2 G0 H0 Z Γ σ G H G H Q s _ R (Ext.refl R.gh) e1 e2 e3 (by simp) fun v pk => ?_
      obtain ⟨F1, p⟩ := pk G H (Ext.refl R.gh)
      have hd := p.hd
      cases hd with
      | sh r => exact k G H v (Ext.refl R.gh) (.sh r)
    | ow xs =>
      cases hf
      obtain ⟨s, e1, e2, e3⟩ := gP_some q (by simp [SlP])
      refine h2 G0 H0 Z Γ σ G H G H Q s _ R (Ext.refl R.gh) e1 e2 e3 (by simp) fun v pk => ?_
      obtain ⟨F1, p⟩ := pk G H (Ext.refl R.gh)
      have hd := p.hd
      cases hd with
      | ow f h r => exact k G H _ (Ext.refl R.gh) (.li h r)
    | ob c fs =>
      obtain ⟨s, e1, e2, e3⟩ := gP_some q (by simp [SlP])
      refine h2 G0 H0 Z Γ σ G H G H Q s _ R (Ext.refl R.gh) e1 e2 e3 (by simp) fun v pk => ?_
      obtain ⟨F1, p⟩ := pk G H (Ext.refl R.gh)
      exact k G H _ (Ext.refl R.gh) (p.hd.bo hf)
    | dk ks xs =>
      obtain ⟨s, e1, e2, e3⟩ := gP_some q (by simp [SlP])
      refine h2 G0 H0 Z Γ σ G H G H Q s _ R (Ext.refl R.gh) e1 e2 e3 (by simp) fun v pk => ?_
      obtain ⟨F1, p⟩ := pk G H (Ext.refl R.gh)
      exact k G H _ (Ext.refl R.gh) (p.hd.bo (by cases hf; simp only [toD]))
    | _ => cases hf
/-- one's own list at a place is changed in place -/
theorem Pack.list {K : PySem.W.Frag} {mg : Str → Option Value} {G0 H0 : Hp} {Z : Zs} {Γ : DEnv} {σ : L2.St} {G H : Hp} {i : Nat} {rp : Pth} {s : Sl} {xs : List D} {v : V} {F1 : Addr → Prop} (gh : Same G H) {Hb : Hp} (P : Pack K mg G0 H0 Z Γ σ i rp s (.ow xs) v F1 Hb G H) :
    ∃ l vs, v = .ref l ∧ H l = some (.lst vs) ∧ RepL K mg G vs xs ∧ ∀ vs' ys s', RepL K mg G vs' ys → setR rp (.ow ys) s = some s' → Rel K mg G0 H0 Z (Γ.set i s') σ G (upd H l (.lst vs')) := by
  have hd := P.hd
  cases hd with
  | ow f h r =>
    rename_i l vs
    refine ⟨l, vs, rfl, h, r, fun vs' ys s' r' es => ?_⟩
    have gl := (P.fr l f).1
    refine P.up G _ (fun a => a = l) (.ow ys) s' (Same.refl _) (fun a o q => ?_) (fun a q => .inl q) (fun a o nf q => ?_) (.ow rfl upd_same r') (fun a e => ?_) (fun _ => rfl) es
    · rw [upd_ne (ne_of_none q gl)]; exact gh _ _ q
    · rw [upd_ne]
      · exact q
      · intro e; subst e; exact nf f
    · subst e
      exact ⟨gl, by rw [upd_same]; simp, .inl f⟩
theorem upP_some {i : Nat} {rp : Pth} {s' : Sl} {Γ : DEnv} {r : Res} (h : upP i rp s' Γ = some r) : ∃ s s2, Γ[i]? = some s ∧ setR rp s' s = some s2 ∧ r = .nx (Γ.set i s2) := by
  obtain ⟨s, e1, h⟩ := obind h
  obtain ⟨s2, e2, h⟩ := obind h
  cases h
  exact ⟨s, s2, e1, e2, rfl⟩
theorem s_app {i : Nat} {rp : Pth} {ap : Pos} (hp : PL X o i rp) (he : E X e f) (hst : starEach [e] X.env = (false, eval e X.env) :: starEach [] X.env := by rfl)
    (hpe : ∀ {r : V → List V → Hp → VK → Prop} {to te : TE}, MtR X "list.append" r → PE X o to → PE X e te → PE X (.Call (.Attribute o "append" ap) [e] [] pos) (tBM X.K "list" r to (tCons te tNil)) := by intro r to te hm ho hp; exact pe_bm PySem.F.plainAttrs_list PySem.F.slot_list_append PySem.F.type_list_append hm ho (pa_cons hp pa_nil))
    (hs : swapsWith (.Call (.Attribute o "append" ap) [e] [] pos) none pos'.line X.env = pure false := by rfl) : S X (.Expr (.Call (.Attribute o "append" ap) [e] [] pos) pos') (sApp i rp f) := by
  obtain ⟨t, h1, h2⟩ := he.ex
  obtain ⟨u, u1, u2⟩ := hp.ex
  refine ⟨⟨_, ps_expr (hpe mt_append u1 h1) hs, fun G0 H0 Z Γ σ G H D r R hf k => ?_⟩⟩
  obtain ⟨d, e1, hf⟩ := obind hf
  cases q : gP i rp Γ with
  | none => rw [q] at hf; cases hf
  | some s1 =>
    rw [q] at hf
    cases s1 with
    | ow xs =>
      replace hf : (if xs.length < 1000000 then upP i rp (.ow (xs ++ [d])) Γ else none) = some r := hf
      split at hf
      · rename_i hl
        obtain ⟨s, s2, a1, a2, rfl⟩ := upP_some hf
        obtain ⟨s', b1, b2, b3⟩ := gP_some q (by simp [SlP])
        rw [a1] at b1
        cases b1
        refine u2 G0 H0 Z Γ σ G H G H _ s _ R (Ext.refl R.gh) a1 b2 b3 (by simp) fun v pk => ?_
        obtain ⟨F0, p0⟩ := pk G H (Ext.refl R.gh)
        obtain ⟨l, vs, rfl, c1, c2, _⟩ := p0.list R.gh
        refine ⟨.inl ⟨rfl, _, SqL.of c1⟩, ?_⟩
        refine h2 G0 H0 Z Γ σ G H _ d R e1 fun G1 H1 v x1 r1 => ?_
        obtain ⟨F1, p1⟩ := pk G1 H1 x1
        obtain ⟨l', vs', e', d1, d2, d3⟩ := p1.list x1.gh
        cases e'
        refine ⟨l, vs', v, rfl, rfl, d1, ?_, ?_⟩
        · rw [d2.length]; exact Nat.lt_of_lt_of_le hl line_big
        · exact k σ G1 _ (d3 _ _ _ (d2.append (.cons r1 .nil)) a2)
      · cases hf
    | _ => cases hf
theorem s_aug (i : Nat) {x : Str} {op : Operator} {C : Int → Int → Int} {o : D → D → Option D} (hN : X.N.Nodup) (he : E X e f) (ho : PIp X op (ipI C)) (hoo : ∀ x y d, o x y = some d → ∃ i j, x = .int i ∧ y = .int j ∧ d = .int (C i j)) (hi : X.N[i]? = some x := by rfl) (hx : Loc X.env.scope x := by first | exact Or.inl rfl | exact Or.inr rfl)
    (hf : X.fn x = true ∨ X.env.scope.names.lookup x = some .local := by first | exact .inl rfl | exact .inr rfl | assumption) : S X (.AugAssign (.Name x pos') op e pos) (sAug o i f) := by
  obtain ⟨t, h1, h2⟩ := he.ex
  refine ⟨⟨_, ps_aug hN hi hx h1 ho hf, fun G0 H0 Z Γ σ G H D r R hf k => ?_⟩⟩
  obtain ⟨a, e0, hf⟩ := obind hf
  obtain ⟨b, e1, hf⟩ := obind hf
  obtain ⟨c, e2, hf⟩ := obind hf
  cases hf
  obtain ⟨m, n, rfl, rfl, rfl⟩ := hoo _ _ _ e2
  unfold gV at e0
  cases q : Γ[i]? with
  | none => rw [q] at e0; cases e0
  | some s =>
    rw [q] at e0
    cases s with
    | sh d =>
      cases e0
      obtain ⟨v, a1, a2⟩ := R.sh q
      rw [a2.intv] at a1
      refine ⟨_, a1, h2 G0 H0 Z Γ σ G H _ _ R e1 fun G1 H1 v x1 r1 => ?_⟩
      rw [r1.intv]
      exact ⟨m, n, rfl, rfl, k _ G1 H1 ((R.ext x1).set i (.int _))⟩
    | _ => cases e0
theorem aug_add : ∀ x y d, dAdd x y = some d → (∃ i j, x = .int i ∧ y = .int j ∧ d = .int (i + j)) ∨ ¬ ∃ i, x = .int i := fun x y d h => by
  cases x with
  | int i => cases y with
    | int j => cases h; exact .inl ⟨i, j, rfl, rfl, rfl⟩
    | _ => cases h
  | _ => exact .inr (by simp)
/-- +=, -= of whole numbers -/
def dAddI : D → D → Option D
  | .int i, .int j => some (.int (i + j))
  | _, _ => none
theorem s_augA (i : Nat) {x : Str} (hN : X.N.Nodup) (he : E X e f) (hi : X.N[i]? = some x := by rfl) (hx : Loc X.env.scope x := by first | exact Or.inl rfl | exact Or.inr rfl)
    (hf : X.fn x = true ∨ X.env.scope.names.lookup x = some .local := by first | exact .inl rfl | exact .inr rfl | assumption) : S X (.AugAssign (.Name x pos') .Add e pos) (sAug dAddI i f) :=
  s_aug i hN he ip_add (fun x y d h => by
    cases x with
    | int i => cases y with
      | int j => cases h; exact ⟨i, j, rfl, rfl, rfl⟩
      | _ => cases h
    | _ => cases h) hi hx hf
theorem s_augS (i : Nat) {x : Str} (hN : X.N.Nodup) (he : E X e f) (hi : X.N[i]? = some x := by rfl) (hx : Loc X.env.scope x := by first | exact Or.inl rfl | exact Or.inr rfl)
    (hf : X.fn x = true ∨ X.env.scope.names.lookup x = some .local := by first | exact .inl rfl | exact .inr rfl | assumption) : S X (.AugAssign (.Name x pos') .Sub e pos) (sAug dSub i f) :=
  s_aug i hN he ip_sub (fun x y d h => by
    cases x with
    | int i => cases y with
      | int j => cases h; exact ⟨i, j, rfl, rfl, rfl⟩
      | _ => cases h
    | _ => cases h) hi hx hf
/-- a, b = e -/
theorem s_unp (he : E X e f) (hg : G X tg ix g) (hs : swapsWithSole [tg] e pos.line X.env = pure false := by rfl) (hw : swappedStores [tg] e X.env = pure none := by rfl)
    (h1 : (assignEach [tg] X.env).map (·.2) = [assign tg X.env] := by rfl) : S X (.Assign [tg] e pos) (sUnp g f) := by
  obtain ⟨t, h1', h2⟩ := he.ex
  obtain ⟨u, q1, q2⟩ := hg.ex
  refine ⟨⟨_, ps_asg h1' q1 hs hw h1, fun G0 H0 Z Γ σ G H D r R hf k => ?_⟩⟩
  obtain ⟨d, e1, hf⟩ := obind hf
  obtain ⟨Γ', e2, hf⟩ := obind hf
  cases hf
  refine h2 G0 H0 Z Γ σ G H _ d R e1 fun G1 H1 v x1 r1 => ?_
  exact q2 G0 H0 Z Γ σ G1 H1 _ d v Γ' (R.ext x1) r1 e2 fun σ' R' _ => k σ' G1 H1 R'
/-- a, b = x, y -/
theorem s_par {i j : Nat} {x y : Str} {px py pt : Pos} {kt k2 pt2} (hc : X.calm = true) (hN : X.N.Nodup) (ha : AN X [a, b] 2 fs) (hi : X.N[i]? = some x := by rfl) (hj : X.N[j]? = some y := by rfl) (hij : i ≠ j := by decide)
    (hx : X.env.scope.names.lookup x = some .local := by rfl) (hy : X.env.scope.names.lookup y = some .local := by rfl)
    (hw : swappedStores [.Tuple [.Name x px, .Name y py] kt pt] (.Tuple [a, b] k2 pt2) X.env = pure (some [x, y]) := by rfl)
    (hs : swapsWithSole [.Tuple [.Name x px, .Name y py] kt pt] (.Tuple [a, b] k2 pt2) pos.line X.env = pure false := by rfl) :
    S X (.Assign [.Tuple [.Name x px, .Name y py] kt pt] (.Tuple [a, b] k2 pt2) pos) (sPar [i, j] fs) := by
  obtain ⟨t, h1, h2⟩ := ha.a.ex
  refine ⟨⟨_, ps_par hc hN hi hj hij hx hy h1 hw hs, fun G0 H0 Z Γ σ G H D r R hf k => ?_⟩⟩
  obtain ⟨ds, e1, hf⟩ := obind hf
  cases hf
  have hl := ha.n Γ ds e1
  refine h2 G0 H0 Z Γ σ G H _ ds R e1 fun G1 H1 vs x1 r1 => ?_
  match ds, hl, r1, k with
  | [d1, d2], _, .cons r (.cons q .nil), k => exact ⟨_, _, rfl, k _ G1 H1 (((R.ext x1).set i r).set j q)⟩
theorem s_par3 {i j l : Nat} {x y z : Str} {c : Expr} {px py pz pt : Pos} {kt k2 pt2} (hc : X.calm = true) (hN : X.N.Nodup) (ha : AN X [a, b, c] 3 fs) (hi : X.N[i]? = some x := by rfl) (hj : X.N[j]? = some y := by rfl) (hl : X.N[l]? = some z := by rfl) (hij : i ≠ j := by decide) (hil : i ≠ l := by decide) (hjl : j ≠ l := by decide)
    (hx : X.env.scope.names.lookup x = some .local := by rfl) (hy : X.env.scope.names.lookup y = some .local := by rfl) (hz : X.env.scope.names.lookup z = some .local := by rfl)
    (hw : swappedStores [.Tuple [.Name x px, .Name y py, .Name z pz] kt pt] (.Tuple [a, b, c] k2 pt2) X.env = pure (some [x, y, z]) := by rfl)
    (hs : swapsWithSole [.Tuple [.Name x px, .Name y py, .Name z pz] kt pt] (.Tuple [a, b, c] k2 pt2) pos.line X.env = pure false := by rfl) :
    S X (.Assign [.Tuple [.Name x px, .Name y py, .Name z pz] kt pt] (.Tuple [a, b, c] k2 pt2) pos) (sPar [i, j, l] fs) := by
  obtain ⟨t, h1, h2⟩ := ha.a.ex
  refine ⟨⟨_, ps_par3 hc hN hi hj hl hij hil hjl hx hy hz h1 hw hs, fun G0 H0 Z Γ σ G H D r R hf k => ?_⟩⟩
  obtain ⟨ds, e1, hf⟩ := obind hf
  cases hf
  have hl := ha.n Γ ds e1
  refine h2 G0 H0 Z Γ σ G H _ ds R e1 fun G1 H1 vs x1 r1 => ?_
  match ds, hl, r1, k with
  | [d1, d2, d3], _, .cons r (.cons q (.cons w .nil)), k => exact ⟨_, _, _, rfl, k _ G1 H1 ((((R.ext x1).set i r).set j q).set l w)⟩

/-! loops -/
def forL (g : Gs) (body : Sm) : List D → Sm
  | [], Γ => some (.nx Γ)
  | d :: ds, Γ => (g d Γ).bind fun Γ1 => (body Γ1).bind fun r => match r with
    | .nx Γ2 => forL g body ds Γ2
    | .ct Γ2 => forL g body ds Γ2
    | .bk Γ2 => some (.nx Γ2)
    | .rt d => some (.rt d)
    | .rm d s => some (.rm d s)
    | .ro s => some (.ro s)
def sFor (it : Ag) (g : Gs) (body : Sm) : Sm := fun Γ => (it Γ).bind fun ds => forL g body ds Γ
def whileN : Nat → Te → Sm → Sm
  | 0, _, _, _ => none
  | n + 1, c, body, Γ => (c Γ).bind fun b => if b then (body Γ).bind fun r => match r with
      | .nx Γ2 => whileN n c body Γ2
      | .ct Γ2 => whileN n c body Γ2
      | .bk Γ2 => some (.nx Γ2)
      | .rt d => some (.rt d)
      | .rm d s => some (.rm d s)
      | .ro s => some (.ro s)
    else some (.nx Γ)
open Classical in
noncomputable def sWhile (c : Te) (body : Sm) : Sm := fun Γ => if h : ∃ r n, whileN n c body Γ = some r then some h.choose else none
theorem whileN_mono {c : Te} {body : Sm} : ∀ {n m : Nat} {Γ : DEnv} {r : Res}, n ≤ m → whileN n c body Γ = some r → whileN m c body Γ = some r
  | 0, _, _, _, _, h => by cases h
  | n + 1, 0, _, _, h, _ => by omega
  | n + 1, m + 1, Γ, r, hm, h => by
    unfold whileN at h ⊢
    obtain ⟨b, e1, h⟩ := obind h
    rw [e1]
    cases b with
    | false => exact h
    | true =>
      replace h : ((body Γ).bind fun r => match r with
        | .nx Γ2 => whileN n c body Γ2
        | .ct Γ2 => whileN n c body Γ2
        | .bk Γ2 => some (.nx Γ2)
        | .rt d => some (.rt d)
        | .rm d s => some (.rm d s)
        | .ro s => some (.ro s)) = some r := h
      obtain ⟨r1, e2, h⟩ := obind h
      show ((body Γ).bind fun r => match r with
        | .nx Γ2 => whileN m c body Γ2
        | .ct Γ2 => whileN m c body Γ2
        | .bk Γ2 => some (.nx Γ2)
        | .rt d => some (.rt d)
        | .rm d s => some (.rm d s)
        | .ro s => some (.ro s)) = some r
      rw [e2]
      cases r1 with
      | nx Γ2 => exact whileN_mono (by omega) h
      | ct Γ2 => exact whileN_mono (by omega) h
      | bk Γ2 => exact h
      | rt d => exact h
      | rm d s => exact h
      | ro s => exact h
theorem sWhile_of {c : Te} {body : Sm} {Γ : DEnv} {r : Res} {n : Nat} (h : whileN n c body Γ = some r) : sWhile c body Γ = some r := by
  unfold sWhile
  have ex : ∃ r n, whileN n c body Γ = some r := ⟨r, n, h⟩
  rw [dif_pos ex]
  obtain ⟨m, hm⟩ := ex.choose_spec
  have h1 := whileN_mono (Nat.le_max_left n m) h
  have h2 := whileN_mono (Nat.le_max_right n m) hm
  rw [h1] at h2
  exact h2.symm
theorem sWhile_some {c : Te} {body : Sm} {Γ : DEnv} {r : Res} (h : sWhile c body Γ = some r) : ∃ n, whileN n c body Γ = some r := by
  unfold sWhile at h
  split at h
  · rename_i ex
    cases h
    exact ex.choose_spec
  · cases h
/-- what is known grows: the base moves on -/
theorem Rel.rebase {K : PySem.W.Frag} {mg : Str → Option Value} {G0 H0 : Hp} {Z : Zs} {Γ : DEnv} {σ : L2.St} {G H : Hp} (R : Rel K mg G0 H0 Z Γ σ G H) : Rel K mg G H0 Z Γ σ G H :=
  ⟨R.len, R.gh, R.hh, Same.refl _, fun a h => .inl h, R.zz, R.an, R.tb, R.tz, R.tc, R.hn, R.own⟩
theorem Rel.unbase {K : PySem.W.Frag} {mg : Str → Option Value} {G0 H0 : Hp} {Z : Zs} {Γ Γ' : DEnv} {σ σ' : L2.St} {G H G' H' : Hp} (R : Rel K mg G0 H0 Z Γ σ G H) (R' : Rel K mg G H0 Z Γ' σ' G' H') : Rel K mg G0 H0 Z Γ' σ' G' H' :=
  ⟨R'.len, R'.gh, R'.hh, R.gg.trans R'.gg, fun a h => by
    rcases R'.new a h with z | z
    · exact R.new a z
    · exact .inr z, R'.zz, R'.an, R'.tb, R'.tz, R'.tc, R'.hn, R'.own⟩
theorem Rel.unext {K : PySem.W.Frag} {mg : Str → Option Value} {G0 H0 : Hp} {Z : Zs} {Γ : DEnv} {σ : L2.St} {G H G' H' : Hp} (R : Rel K mg G0 H0 Z Γ σ G H) (x : Ext G H0 G' H') : Ext G0 H0 G' H' :=
  ⟨R.gg.trans x.gg, x.hh, x.gh, fun a h => by
    rcases x.new a h with z | z
    · exact R.new a z
    · exact .inr z, x.hn, fun t0 => x.tb (TC.ti.keep t0 R.gg (fun _ _ => rfl) (fun a h _ => (TC.ti.live R.tbc a h).2))⟩
theorem s_for {iter : Expr} {body : List Stmt} {it : Ag} (hp : PassesOwn (model X.prog X.w) X.A X.env X.xe) (hc : X.calm = true) (hi : IB X tg iter it) (hg : G X tg ix g) (hb : Ss X body F) (hs : ∀ x, foldedSetIterable iter X.env x = pure x := by intro _; rfl) :
    S X (.For tg iter body [] pos) (sFor it g F) := by
  obtain ⟨wi, w1, w2⟩ := hi.ex
  obtain ⟨t, t1, t2⟩ := hg.ex
  obtain ⟨u, u1, u2⟩ := hb.ex
  refine ⟨⟨_, ps_for hp hc w1 t1 u1 hs, fun G0 H0 Z Γ σ G H D r R hf k => ?_⟩⟩
  obtain ⟨ds, e1, hf⟩ := obind hf
  refine w2 G0 H0 Z Γ σ G H _ ds R e1 fun G1 H1 J x1 hJ => ?_
  have R1 := R.ext x1
  refine ⟨fun i m σ' H' => m = ds.length - i ∧ i ≤ ds.length ∧ ∃ Γ' G', Rel X.K X.mg G1 H0 Z Γ' σ' G' H' ∧ forL g F (ds.drop i) Γ' = some r, ⟨ds.length, by simp, Nat.zero_le _, Γ, G1, R1.rebase, by simpa using hf⟩, ?_⟩
  rintro i m σ' H' ⟨rfl, hi, Γ', G', R', hr⟩
  obtain ⟨st, go⟩ := hJ i G' H' R'.gg R'.gh R'.hh
  by_cases hlt : i < ds.length
  · have hd : ds.drop i = ds[i] :: ds.drop (i + 1) := List.drop_eq_getElem_cons hlt
    obtain ⟨g1, g2⟩ := go ds[i] (List.getElem?_eq_getElem hlt)
    rw [hd] at hr
    obtain ⟨Γ1, c1, hr⟩ := obind hr
    obtain ⟨r1, c2, hr⟩ := obind hr
    refine .inr ⟨g1, fun σ2 H2 => ∃ Γ2 G2, Rel X.K X.mg G1 H0 Z Γ2 σ2 G2 H2 ∧ forL g F (ds.drop (i + 1)) Γ2 = some r, fun σ2 H2 ⟨Γ2, G2, R2, h2⟩ => ⟨ds.length - (i + 1), by omega, rfl, hlt, Γ2, G2, R2, h2⟩, fun x H2 y => ?_⟩
    obtain ⟨G2, x2, r2⟩ := g2 x H2 y
    refine t2 G1 H0 Z Γ' σ' G2 H2 _ _ x Γ1 (R'.ext x2) r2 c1 fun σ3 R3 _ => ?_
    refine u2 G1 H0 Z Γ1 σ3 G2 H2 _ r1 R3 c2 ?_
    cases r1 with
    | nx Γ2 => exact fun σ4 G4 H4 R4 => ⟨Γ2, G4, R4, hr⟩
    | ct Γ2 => exact fun σ4 G4 H4 R4 => ⟨Γ2, G4, R4, hr⟩
    | bk Γ2 => cases hr; exact fun σ4 G4 H4 R4 => k σ4 G4 H4 (R1.unbase R4)
    | rt d => cases hr; exact fun G4 H4 v x4 r4 => k G4 H4 v (R1.unext x4) r4
    | rm d s => cases hr; exact fun Γ4 σ4 G4 H4 v R4 e4 r4 => k Γ4 σ4 G4 H4 v (R1.unbase R4) e4 r4
    | ro s => cases hr; exact fun G4 H4 v F4 x4 r4 f4 => k G4 H4 v F4 (R1.unext x4) r4 f4
  · have e : i = ds.length := by omega
    subst e
    refine .inl ⟨st (Nat.le_refl _), ?_⟩
    rw [List.drop_length] at hr
    cases hr
    exact k σ' G' H' (R1.unbase R')
theorem s_while {c : Expr} {body : List Stmt} (hp : PassesOwn (model X.prog X.w) X.A X.env X.xe) (hc : T X c p) (hb : Ss X body F) : S X (.While c body [] pos) (sWhile p F) := by
  obtain ⟨t, t1, t2⟩ := hc.ex
  obtain ⟨u, u1, u2⟩ := hb.ex
  refine ⟨⟨_, ps_while hp t1 u1, fun G0 H0 Z Γ σ G H D r R hf k => ?_⟩⟩
  obtain ⟨n, hn⟩ := sWhile_some hf
  refine ⟨fun m σ' H' => ∃ Γ' G', Rel X.K X.mg G0 H0 Z Γ' σ' G' H' ∧ whileN m p F Γ' = some r, ⟨n, Γ, G, R, hn⟩, fun m σ' H' ⟨Γ', G', R', h⟩ => ?_⟩
  cases m with
  | zero => cases h
  | succ m =>
    unfold whileN at h
    obtain ⟨b, e1, h⟩ := obind h
    refine t2 G0 H0 Z Γ' σ' G' H' _ b R' e1 fun G1 H1 x1 => ?_
    cases b with
    | false =>
      cases h
      exact iteF (k σ' G1 H1 (R'.ext x1))
    | true =>
      replace h : ((F Γ').bind fun r => match r with
        | .nx Γ2 => whileN m p F Γ2
        | .ct Γ2 => whileN m p F Γ2
        | .bk Γ2 => some (.nx Γ2)
        | .rt d => some (.rt d)
        | .rm d s => some (.rm d s)
        | .ro s => some (.ro s)) = some r := h
      obtain ⟨r1, e2, h⟩ := obind h
      refine iteT ⟨fun σ2 H2 => ∃ Γ2 G2, Rel X.K X.mg G0 H0 Z Γ2 σ2 G2 H2 ∧ whileN m p F Γ2 = some r, fun σ2 H2 h => ⟨m, Nat.lt_succ_self _, h⟩, ?_⟩
      refine u2 G0 H0 Z Γ' σ' G1 H1 _ r1 (R'.ext x1) e2 ?_
      cases r1 with
      | nx Γ2 => exact fun σ4 G4 H4 R4 => ⟨Γ2, G4, R4, h⟩
      | ct Γ2 => exact fun σ4 G4 H4 R4 => ⟨Γ2, G4, R4, h⟩
      | bk Γ2 => cases h; exact fun σ4 G4 H4 R4 => k σ4 G4 H4 R4
      | rt d => cases h; exact fun G4 H4 v x4 r4 => k G4 H4 v x4 r4
      | rm d s => cases h; exact fun Γ4 σ4 G4 H4 v R4 e4 r4 => k Γ4 σ4 G4 H4 v R4 e4 r4
      | ro s => cases h; exact fun G4 H4 v F4 x4 r4 f4 => k G4 H4 v F4 x4 r4 f4
/-- y = [.. for .. in ..] -/
theorem s_setLc (i : Nat) {y : Str} {py : Pos} {elt iter : Expr} {ifs : List Expr} {scope : Scope} {own : List (Str × Nat)} {it : Ag} {spos : Pos} (hc : X.calm = true) (hN : X.N.Nodup) (hi : IC X tg iter it) (ok : BlkOk X.N X.env.scope scope own) (hix : ∀ i ∈ ix, i ∈ own.map (·.2))
    (hg : ∀ (s : Shared) (H : Hp) (C : Addr) (cl : List (Str × Addr)) (fp : List Addr), G (X.blk s H scope (compEnvC scope cl C X.env) fp) tg ix g)
    (ht : ∀ (s : Shared) (H : Hp) (C : Addr) (cl : List (Str × Addr)) (fp : List Addr), Ts (X.blk s H scope (compEnvC scope cl C X.env) fp) ifs p)
    (he : ∀ (s : Shared) (H : Hp) (C : Addr) (cl : List (Str × Addr)) (fp : List Addr), E (X.blk s H scope (compEnvC scope cl C X.env) fp) elt f)
    (hy : X.N[i]? = some y := by rfl) (hyl : X.env.scope.names.lookup y = some .local := by rfl) (hsw : swapsWith (.ListComp elt [⟨tg, iter, ifs, 0⟩] scope pos) (some (.Name y py)) spos.line X.env = pure true := by exact sw_true rfl rfl rfl (by decide +kernel)) (hs : ∀ x, foldedSetIterable iter X.env x = pure x := by intro _; rfl) (h0 : i ≠ 0 := by decide) :
    S X (.Assign [.Name y py] (.ListComp elt [⟨tg, iter, ifs, 0⟩] scope pos) spos) (sSetO i (gLc (own.map (·.2)) it g p f)) := by
  obtain ⟨wi, w1, w2⟩ := hi.ex
  refine ⟨⟨_, ps_setLc (te := fun σ H Q => ∃ G0 H0 Z Γ G d, Rel X.K X.mg G0 H0 Z Γ σ G H ∧ f Γ = some d ∧ ∀ G' H' v, Ext G H G' H' → Rep X.K X.mg G' v d → Q v H') (tt := fun σ H Q => ∃ G0 H0 Z Γ G d, Rel X.K X.mg G0 H0 Z Γ σ G H ∧ p Γ = some d ∧ ∀ G' H', Ext G H G' H' → Q d H') (g := fun v σ H Q => ∃ G0 H0 Z Γ G d Γ', Rel X.K X.mg G0 H0 Z Γ σ G H ∧ Rep X.K X.mg G v d ∧ g d Γ = some Γ' ∧ ∀ σ', Rel X.K X.mg G0 H0 Z Γ' σ' G H → (∀ vs, (∀ i ∈ ix, i ∈ vs) → L2.wipe σ' vs = L2.wipe σ vs) → Q σ' H) hc hN hy hyl hsw w1 ok (fun s H C cl fp => (hg s H C cl fp).pg) (fun s H C cl fp => (ht s H C cl fp).pt) (fun s H C cl fp => (he s H C cl fp).pe) hs, fun G0 H0 Z Γ σ G H D r R hf k => ?_⟩⟩
  obtain ⟨d, e1, hf⟩ := obind hf
  cases hf
  exact lc_run hix w2 R e1 fun G1 H1 q vs x1 hq gq h r1 => k _ G1 H1 (set_own R x1 hq gq h r1 i h0)
/-- x[k] = e of a list of one's own -/
theorem s_ixS {i : Nat} {rp : Pth} {sp : Pos} (hp : PL X o i rp) (he : E X e f) (hk : E X a k)
    (hpg : ∀ {to ti : TE}, PE X o to → PE X a ti → PG X (.Subscript o a sp) (gSub to ti rSetL) := by intro to ti ho h; exact pg_sub ho h set_list)
    (hs : swapsWithSole [.Subscript o a sp] e pos.line X.env = pure false := by rfl) (hw : swappedStores [.Subscript o a sp] e X.env = pure none := by rfl)
    (h1 : (assignEach [.Subscript o a sp] X.env).map (·.2) = [assign (.Subscript o a sp) X.env] := by rfl) : S X (.Assign [.Subscript o a sp] e pos) (sIxS i rp k f) := by
  obtain ⟨t, t1, t2⟩ := he.ex
  obtain ⟨u, u1, u2⟩ := hk.ex
  obtain ⟨w, w1, w2⟩ := hp.ex
  refine ⟨⟨_, ps_asg t1 (hpg w1 u1) hs hw h1, fun G0 H0 Z Γ σ G H D r R hf kk => ?_⟩⟩
  obtain ⟨d, e1, hf⟩ := obind hf
  obtain ⟨j, e2, hf⟩ := obind hf
  refine t2 G0 H0 Z Γ σ G H _ d R e1 fun G1 H1 v x1 r1 => ?_
  have R1 := R.ext x1
  cases q : gP i rp Γ with
  | none => rw [q] at hf; cases hf
  | some s1 =>
    rw [q] at hf
    cases s1 with
    | ow xs =>
      cases j with
      | int m =>
        replace hf : ((ixN xs.length m).bind fun m => upP i rp (.ow (xs.set m d)) Γ) = some r := hf
        obtain ⟨j, e3, hf⟩ := obind hf
        obtain ⟨s, s2, a1, a2, rfl⟩ := upP_some hf
        obtain ⟨s', b1, b2, b3⟩ := gP_some q (by simp [SlP])
        rw [a1] at b1
        cases b1
        refine w2 G0 H0 Z Γ σ G1 H1 G1 H1 _ s _ R1 (Ext.refl x1.gh) a1 b2 b3 (by simp) fun v0 pk => ?_
        refine u2 G0 H0 Z Γ σ G1 H1 _ _ R1 e2 fun G2 H2 w x2 r2 => ?_
        obtain ⟨F1, p1⟩ := pk G2 H2 x2
        obtain ⟨l, vs, rfl, d1, d2, d3⟩ := p1.list x2.gh
        rw [r2.intv]
        refine ⟨l, vs, m, j, rfl, rfl, d1, by rw [d2.length]; exact e3, ?_⟩
        exact kk σ G2 _ (d3 _ _ _ (d2.set j (r1.mono x2.gg)) a2)
      | _ => cases hf
    | _ => cases hf
end

/-! ### a def by its body -/
def runB (n : Nat) (F : Sm) : List D → Option D := fun ds => (F (ds.map Sl.sh ++ List.replicate (n - ds.length) .no)).bind fun r => match r with
  | .rt d => some d
  | .nx _ => some .non
  | _ => none
theorem start_get {N : Nat} {ds : List D} {i : Nat} {s : Sl} (h : (ds.map Sl.sh ++ List.replicate (N - ds.length) .no)[i]? = some s) : s = .no ∨ ∃ d, ds[i]? = some d ∧ s = .sh d := by
  by_cases hi : i < ds.length
  · rw [List.getElem?_append_left (by simpa using hi), List.getElem?_map, List.getElem?_eq_getElem hi] at h
    cases h
    exact .inr ⟨_, List.getElem?_eq_getElem hi, rfl⟩
  · rw [List.getElem?_append_right (by simpa using hi), List.getElem?_replicate] at h
    split at h
    · cases h; exact .inl rfl
    · cases h
theorem start_rel {K : PySem.W.Frag} {mg : Str → Option Value} {G H : Hp} {N : List Str} {vs : List V} {ds : List D} (gh : Same G H) (tb : TC.ti.t G H) (r : RepL K mg G vs ds) : Rel K mg G H ⟨TC.ti.tz, none, TC.ti⟩ (ds.map Sl.sh ++ List.replicate (N.length - ds.length) .no) (L2.start N vs) G H := by
  have hl := r.length
  unfold L2.start
  refine ⟨by simp [hl], gh, same_n (Same.refl _), Same.refl _, fun a h => .inl h, fun a z => (TC.ti.live tb a z).1, fun _ _ z => (by cases z), tb, fun _ h => h, rfl, fun _ h => h, fun _ _ => False, fun _ _ z => z.elim, fun _ _ _ z => z.elim, fun i s h => ?_⟩
  rcases start_get h with z | ⟨d, e1, rfl⟩
  · exact .inl z
  · obtain ⟨v, e2, e3⟩ := r.get i e1
    refine .inr (.inl ⟨v, ?_, .sh e3⟩)
    have hi : i < vs.length := (List.getElem?_eq_some_iff.mp e2).1
    rw [List.getElem?_append_left (by simpa using hi), List.getElem?_map, e2]
    rfl
section
variable {P : Program} {w : World} {K : PySem.W.Frag} {mg : Str → Option Value} {base : Heap}
theorem def_ok {x qual : Str} {st : Stmt} {f : Addr} {fd : FuncData} {N ps : List Str} {k : Nat} {B : Sm} (F : Fun K x qual st f fd) (S : FnScope N ps (defScope st))
    (hbody : ∀ (cdv : Value) (A : Around) (outer : List PySem.Env) (s : Shared) (H : Hp) (E : XK), Room k (A.deeper (PyProof.Rows.envOfC qual (defScope st) s.heap.objs.size f cdv)) →
      Ss (cxOf CX0 P w K mg base N qual (defScope st) f cdv A outer s H E).nox (defBody st) B) : FnOk P w K mg base CX0 (k + 1) f fd ps (spD K mg ps.length (runB N.length B)) := by
  refine F.ok S (fun vs H Q E h => ?_) (fun cdv A outer s H vs Q E hr h => ?_)
  · obtain ⟨G, ds, d, hl, _⟩ := h
    exact hl
  · obtain ⟨G, ds, d, hl, gh, tb, r, hf, k'⟩ := h
    obtain ⟨t, h1, h2⟩ := (hbody cdv A outer s H E hr).ex
    refine ⟨t, h1, ?_⟩
    obtain ⟨r1, e1, hf⟩ := obind hf
    refine h2 G H _ _ _ G H _ r1 (start_rel gh tb r) e1 ?_
    cases r1 with
    | rt d' => cases hf; exact fun G' H' v x r => k' G' H' v x r
    | nx Γ => cases hf; exact fun σ' G' H' R => k' G' H' _ R.end .non
    | rm d s => cases hf
    | ro s => cases hf
    | bk Γ => cases hf
    | ct Γ => cases hf
/-- the value said in another way -/
theorem spD_imp {n : Nat} {F F' : List D → Option D} {f : Addr} {fd : FuncData} {ps : List Str} {k : Nat} (h : FnOk P w K mg base CX0 k f fd ps (spD K mg n F)) (hF : ∀ ds d, F' ds = some d → F ds = some d) : FnOk P w K mg base CX0 k f fd ps (spD K mg n F') :=
  h.imp fun vs H Q E ⟨G, ds, d, h1, h2, h3, h3', h4, h5⟩ => ⟨G, ds, d, h1, h2, h3, h3', hF ds d h4, h5⟩
end
end DL

namespace DL
open PySem L2
variable [TC : TabCtx]

/-! ### words for callers -/
structure Cal (P : Program) (w : World) (K : PySem.W.Frag) (mg : Str → Option Value) (base : Heap) (x : Str) (L : Nat) (ps : List Str) (S : List D → Option D) : Prop where
  ex : ∃ f fd, FnOk P w K mg base CX0 L f fd ps (spD K mg ps.length S) ∧ mg x = some (.ref f) ∧ PySem.W.keepIn K (.ref f) = true ∧ Binds K fd ps []
structure Met (P : Program) (w : World) (K : PySem.W.Frag) (mg : Str → Option Value) (base : Heap) (c : Nat) (m : Str) (L : Nat) (ps : List Str) (S : List D → Option D) : Prop where
  ex : ∃ C f fd, CK K mg c C ∧ Meth K C m f ∧ FnOk P w K mg base CX0 L f fd ps (spD K mg ps.length S) ∧ Binds K fd ps []
section
variable {X : Cx} {e a b o : Expr} {es : List Expr} {f g : Ex} {fs : Ag} {pos : Pos} {n : Nat}
theorem e_callC {k L : Nat} {ps : List Str} {S : List D → Option D} {x : Str} {p : Pos} (c : Cal X.prog X.w X.K X.mg X.base x L ps S) (hr : Room k X.A) (hk : L ≤ k)
    (ha : AN X (a :: es) ps.length fs) (hg : Gl X x := by rfl) (hdb : (x == ("__debug__" : Str)) = false := by decide) (he : starEach (a :: es) X.env = (false, eval a X.env) :: starEach es X.env := by rfl) (hpl : (backTo pos (starEach es X.env)).any (·.1) = false := by rfl) :
    E X (.Call (.Name x p) (a :: es) [] pos) (gCall S fs) := by
  obtain ⟨f, fd, h1, h2, h3, h4⟩ := c.ex
  exact e_call h1 (hr.mono hk) h2 h3 h4 ha hg hdb he hpl
theorem e_callC0 {k L : Nat} {S : List D → Option D} {x : Str} {p : Pos} (c : Cal X.prog X.w X.K X.mg X.base x L [] S) (hr : Room k X.A) (hk : L ≤ k)
    (hg : Gl X x := by rfl) (hdb : (x == ("__debug__" : Str)) = false := by decide) : E X (.Call (.Name x p) [] [] pos) (gCall S aN) := by
  obtain ⟨f, fd, h1, h2, h3, h4⟩ := c.ex
  exact e_call0 h1 (hr.mono hk) h2 h3 h4 hg hdb
theorem e_metC {pl : Sem Bool} {c k L : Nat} {p0 : Str} {ps : List Str} {S : List D → Option D} {m : Str} {apos : Pos} (mt : Met X.prog X.w X.K X.mg X.base c m L (p0 :: ps) S) (hr : Room k X.A) (hk : L ≤ k)
    (ho : E X o f) (ha : AN X (a :: es) ps.length fs) (hno : m ∉ cF c := by decide +kernel)
    (hst : starEach (a :: es) X.env = (false, eval a X.env) :: starEach es X.env := by rfl) (hpl : (backTo pos (starEach es X.env)).any (·.1) = false := by rfl)
    (ht : eval (.Call (.Attribute o m apos) (a :: es) [] pos) X.env = (do
      let ov ← eval o X.env
      standAt apos.atName
      let (f, first) ← holding [ov] (getMethod ov m pl)
      callWith pos f first (backTo pos (starEach (a :: es) X.env)) (backToKw pos (keywordEach [] X.env))) := by rfl) : E X (.Call (.Attribute o m apos) (a :: es) [] pos) (gMeth c S f fs) := by
  obtain ⟨C, fa, fd, h1, h2, h3, h4⟩ := mt.ex
  exact e_meth h1 h2 h3 (hr.mono hk) h4 ho ha hno hst hpl ht
theorem e_metC0 {pl : Sem Bool} {c k L : Nat} {p0 : Str} {S : List D → Option D} {m : Str} {apos : Pos} (mt : Met X.prog X.w X.K X.mg X.base c m L [p0] S) (hr : Room k X.A) (hk : L ≤ k)
    (ho : E X o f) (hno : m ∉ cF c := by decide +kernel)
    (ht : eval (.Call (.Attribute o m apos) [] [] pos) X.env = (do
      let ov ← eval o X.env
      standAt apos.atName
      let (f, first) ← holding [ov] (getMethod ov m pl)
      callWith pos f first (backTo pos (starEach [] X.env)) (backToKw pos (keywordEach [] X.env))) := by rfl) : E X (.Call (.Attribute o m apos) [] [] pos) (gMeth c S f aN) := by
  obtain ⟨C, fa, fd, h1, h2, h3, h4⟩ := mt.ex
  exact e_meth0 h1 h2 h3 (hr.mono hk) h4 ho hno ht
/-- y = [..], known to all -/
theorem s_setLcS (i : Nat) {y : Str} {py : Pos} {elt iter tg : Expr} {ifs : List Expr} {scope : Scope} {own : List (Str × Nat)} {it : Ag} {spos : Pos} {ix : List Nat} {g : Gs} {p : Te} (hc : X.calm = true) (hN : X.N.Nodup) (hi : IC X tg iter it) (ok : BlkOk X.N X.env.scope scope own) (hix : ∀ i ∈ ix, i ∈ own.map (·.2))
    (hg : ∀ (s : Shared) (H : Hp) (C : Addr) (cl : List (Str × Addr)) (fp : List Addr), G (X.blk s H scope (compEnvC scope cl C X.env) fp) tg ix g)
    (ht : ∀ (s : Shared) (H : Hp) (C : Addr) (cl : List (Str × Addr)) (fp : List Addr), Ts (X.blk s H scope (compEnvC scope cl C X.env) fp) ifs p)
    (he : ∀ (s : Shared) (H : Hp) (C : Addr) (cl : List (Str × Addr)) (fp : List Addr), E (X.blk s H scope (compEnvC scope cl C X.env) fp) elt f)
    (hy : X.N[i]? = some y := by rfl) (hyl : X.env.scope.names.lookup y = some .local := by rfl) (hsw : swapsWith (.ListComp elt [⟨tg, iter, ifs, 0⟩] scope pos) (some (.Name y py)) spos.line X.env = pure true := by exact sw_true rfl rfl rfl (by decide +kernel)) (hs : ∀ x, foldedSetIterable iter X.env x = pure x := by intro _; rfl) (h0 : i ≠ 0 := by decide) :
    S X (.Assign [.Name y py] (.ListComp elt [⟨tg, iter, ifs, 0⟩] scope pos) spos) (sSet i (gL (gLc (own.map (·.2)) it g p f))) := by
  obtain ⟨t, h1, h2⟩ := (s_setLc (f := f) (py := py) (spos := spos) (pos := pos) i hc hN hi ok hix hg ht he hy hyl hsw hs h0).ex
  refine ⟨⟨t, h1, fun G0 H0 Z Γ σ G H D r R hf k => ?_⟩⟩
  obtain ⟨d, e1, hf⟩ := obind hf
  obtain ⟨ds, e2, e1⟩ := obind e1
  cases e1
  cases hf
  refine h2 G0 H0 Z Γ σ G H D (.nx (Γ.set i (.ow ds))) R (by show (gLc _ _ _ _ _ Γ).bind _ = _; rw [e2]; rfl) fun σ1 G1 H1 R1 => ?_
  by_cases hi : i < Γ.length
  · have q : (Γ.set i (.ow ds))[i]? = some (.ow ds) := by simp [hi]
    obtain ⟨G2, R2, _⟩ := R1.frzP (rp := []) (d := .lst ds) q rfl (by simp) (by simp [SlP]) rfl rfl
    rw [List.set_set] at R2
    exact k σ1 G2 H1 R2
  · have e : ∀ s, Γ.set i s = Γ := fun s => List.set_eq_of_length_le (by omega)
    rw [e] at R1
    refine k σ1 G1 H1 ?_
    rw [e]
    exact R1
theorem v_notT (h : B X e f) : V1 X (.UnaryOp .Not e pos) (gNot (gTru f)) := by
  obtain ⟨t, h1, h2⟩ := h.ex
  refine ⟨⟨⟨_, pe_notT h1, fun G0 H0 Z Γ σ G H Q c R hf k => ?_⟩⟩⟩
  obtain ⟨d0, e0, hf⟩ := obind hf
  cases hf
  obtain ⟨d1, e1, hf⟩ := obind e0
  cases hf
  obtain ⟨d2, e2, hf⟩ := obind e1
  refine h2 G0 H0 Z Γ σ G H _ _ R e2 fun G' H' v x r => ?_
  have z := dTru_ok x.gh hf r
  exact ⟨d1, z, k G' H' _ x (.bl _)⟩
end
theorem boot_len' : bootBuiltins "len" = some (.builtin "len") := PySem.boot_len
theorem boot_abs' : bootBuiltins "abs" = some (.builtin "abs") := by decide +kernel
theorem boot_max' : bootBuiltins "max" = some (.builtin "max") := by decide +kernel
theorem boot_min' : bootBuiltins "min" = some (.builtin "min") := by decide +kernel
theorem boot_sum' : bootBuiltins "sum" = some (.builtin "sum") := by decide +kernel
theorem boot_all' : bootBuiltins "all" = some (.builtin "all") := by decide +kernel
theorem boot_any' : bootBuiltins "any" = some (.builtin "any") := by decide +kernel
theorem boot_sorted' : bootBuiltins "sorted" = some (.builtin "sorted") := by decide +kernel
theorem boot_isinstance' : bootBuiltins "isinstance" = some (.builtin "isinstance") := by decide +kernel
theorem boot_int' : bootBuiltins "int" = some (.type "int") := by decide +kernel
theorem boot_list' : bootBuiltins "list" = some (.type "list") := by decide +kernel
theorem boot_bool' : bootBuiltins "bool" = some (.type "bool") := by decide +kernel
theorem boot_tuple' : bootBuiltins "tuple" = some (.type "tuple") := by decide +kernel
theorem boot_str' : bootBuiltins "str" = some (.type "str") := by decide +kernel
end DL

namespace DL
open PySem L2
variable [TC : TabCtx]

/-! ### reckoning a meaning step by step -/
section
variable {Γ Γ1 Γ2 : DEnv} {f g k : Ex} {fs : Ag} {p q : Te} {F F' F'' : Sm} {d x y z : D} {ds : List D} {b c : Bool} {r : Option Res} {o : D → D → Option D} {u : D → Option D} {i n : Nat} {m j : Int}
theorem ev_V (h : Γ[i]? = some (.sh d)) : gV i Γ = some d := by unfold gV; rw [h]
theorem ev_B (h : Γ[i]? = some (.sh d)) : gB i Γ = some d := by unfold gB; rw [h]
theorem ev_Bo {xs : List D} (h : Γ[i]? = some (.ow xs)) : gB i Γ = some (.lst xs) := by unfold gB; rw [h]
theorem ev_I : gI m Γ = some (.int m) := rfl
theorem ev_C : gC d Γ = some d := rfl
theorem ev_op (h1 : f Γ = some x) (h2 : g Γ = some y) (h3 : o x y = some d) : gOp o f g Γ = some d := by unfold gOp; rw [h1]; show (g Γ).bind _ = _; rw [h2]; exact h3
theorem ev_U (h1 : f Γ = some x) (h2 : u x = some d) : gU u f Γ = some d := by unfold gU; rw [h1]; exact h2
theorem ev_call {S : List D → Option D} (h1 : fs Γ = some ds) (h2 : S ds = some d) : gCall S fs Γ = some d := by unfold gCall; rw [h1]; exact h2
theorem ev_A {S : List D → Option D} (h1 : fs Γ = some ds) (h2 : S ds = some d) : gA S fs Γ = some d := by unfold gA; rw [h1]; exact h2
theorem ev_cs (h1 : f Γ = some d) (h2 : fs Γ = some ds) : aC f fs Γ = some (d :: ds) := by unfold aC; rw [h1]; show (fs Γ).bind _ = _; rw [h2]; rfl
theorem ev_nl : aN Γ = some [] := rfl
theorem ev_tu (h : fs Γ = some ds) : gTu n fs Γ = some (.tup ds) := by unfold gTu; rw [h]; rfl
theorem ev_L (h : fs Γ = some ds) : gL fs Γ = some (.lst ds) := by unfold gL; rw [h]; rfl
theorem ev_UL {u : D → Option (List D)} (h1 : f Γ = some x) (h2 : u x = some ds) : gUL u f Γ = some ds := by unfold gUL; rw [h1]; exact h2
theorem ev_Sl {fl fh : Op} {l h : Option Int} (h1 : f Γ = some x) (h2 : fl Γ = some l) (h3 : fh Γ = some h) (h4 : dCut x l h = some ds) : gSl f fl fh Γ = some ds := by unfold gSl; rw [h1]; show (fl Γ).bind _ = _; rw [h2]; show (fh Γ).bind _ = _; rw [h3]; exact h4
theorem ev_No : gNo Γ = some none := rfl
theorem ev_So (h : f Γ = some (.int m)) : gSo f Γ = some (some m) := by unfold gSo; rw [h]; rfl
theorem ev_meth {c : Nat} {S : List D → Option D} {vs : List D} (h1 : f Γ = some (.obj c vs)) (h2 : fs Γ = some ds) (h3 : S (.obj c vs :: ds) = some d) : gMeth c S f fs Γ = some d := by
  unfold gMeth; rw [h1]; show (if c = c then (fs Γ).bind fun ds => S (.obj c vs :: ds) else none) = _
  rw [if_pos rfl, h2]; exact h3
theorem ev_T (h : f Γ = some (.bl b)) : gT f Γ = some b := by unfold gT; rw [h]; rfl
theorem ev_Tru (h1 : f Γ = some x) (h2 : dTru x = some b) : gTru f Γ = some b := by unfold gTru; rw [h1]; exact h2
theorem ev_not (h : p Γ = some b) : gNot p Γ = some (!b) := by unfold gNot; rw [h]; rfl
theorem ev_and (h1 : p Γ = some b) (h2 : q Γ = some c) : gAnd p q Γ = some (b && c) := by unfold gAnd; rw [h1]; cases b <;> first | exact h2 | rfl
/-- the right one is asked only if the left one is true -/
theorem ev_andT (h1 : p Γ = some b) (h2 : b = true → q Γ = some c) : gAnd p q Γ = some (b && c) := by unfold gAnd; rw [h1]; cases b <;> first | exact h2 rfl | rfl
theorem ev_andF (h1 : p Γ = some false) : gAnd p q Γ = some false := by unfold gAnd; rw [h1]; rfl
theorem ev_or (h1 : p Γ = some b) (h2 : q Γ = some c) : gOr p q Γ = some (b || c) := by unfold gOr; rw [h1]; cases b <;> first | exact h2 | rfl
theorem ev_orF (h1 : p Γ = some b) (h2 : b = false → q Γ = some c) : gOr p q Γ = some (b || c) := by unfold gOr; rw [h1]; cases b <;> first | exact h2 rfl | rfl
theorem ev_orT (h1 : p Γ = some true) : gOr p q Γ = some true := by unfold gOr; rw [h1]; rfl
theorem ev_bl (h : p Γ = some b) : gBl p Γ = some (.bl b) := by unfold gBl; rw [h]; rfl
theorem ev_if (h1 : p Γ = some b) (h2 : b = true → f Γ = some d) (h3 : b = false → g Γ = some d) : gIf p f g Γ = some d := by unfold gIf; rw [h1]; cases b <;> first | exact h2 rfl | exact h3 rfl
theorem ev_ch {ch : D → Te} (h1 : f Γ = some x) (h2 : ch x Γ = some b) : gCh f ch Γ = some b := by unfold gCh; rw [h1]; exact h2
theorem ev_ch1 (h1 : f Γ = some y) (h2 : o x y = some (.bl b)) : gCh1 o f x Γ = some b := by unfold gCh1; rw [h1]; show dB (o x y) = _; rw [h2]; rfl
theorem ev_chn {ch : D → Te} (h1 : f Γ = some y) (h2 : o x y = some (.bl b)) (h3 : ch y Γ = some c) : gChn o f ch x Γ = some (b && c) := by
  unfold gChn; rw [h1]; show (dB (o x y)).bind _ = _; rw [h2]; show (if b = true then ch y Γ else some false) = _
  cases b <;> first | exact h3 | rfl
theorem ev_chnT {ch : D → Te} (h1 : f Γ = some y) (h2 : o x y = some (.bl b)) (h3 : b = true → ch y Γ = some c) : gChn o f ch x Γ = some (b && c) := by
  unfold gChn; rw [h1]; show (dB (o x y)).bind _ = _; rw [h2]; show (if b = true then ch y Γ else some false) = _
  cases b <;> first | exact h3 rfl | rfl
/-! statements -/
theorem sv_run {N : Nat} {B : Sm} (h : B (ds.map Sl.sh ++ List.replicate (N - ds.length) .no) = some (.rt d)) : runB N B ds = some d := by unfold runB; rw [h]; rfl
theorem sv_runN {N : Nat} {B : Sm} (h : B (ds.map Sl.sh ++ List.replicate (N - ds.length) .no) = some (.nx Γ)) : runB N B ds = some .non := by unfold runB; rw [h]; rfl
theorem sv_nx (h : F Γ = some (.nx Γ1)) (k : F' Γ1 = r) : sSeq F F' Γ = r := by unfold sSeq; rw [h]; exact k
theorem sv_rt (h : F Γ = some (.rt d)) : sSeq F F' Γ = some (.rt d) := by unfold sSeq; rw [h]; rfl
theorem sv_bk (h : F Γ = some (.bk Γ1)) : sSeq F F' Γ = some (.bk Γ1) := by unfold sSeq; rw [h]; rfl
theorem sv_ct (h : F Γ = some (.ct Γ1)) : sSeq F F' Γ = some (.ct Γ1) := by unfold sSeq; rw [h]; rfl
theorem sv_set (h : f Γ = some d) : sSet i f Γ = some (.nx (Γ.set i (.sh d))) := by unfold sSet; rw [h]; rfl
theorem sv_setO (h : fs Γ = some ds) : sSetO i fs Γ = some (.nx (Γ.set i (.ow ds))) := by unfold sSetO; rw [h]; rfl
theorem sv_exp (h : f Γ = some d) : sExp f Γ = some (.nx Γ) := by unfold sExp; rw [h]; rfl
theorem sv_ret (h : f Γ = some d) : sRet f Γ = some (.rt d) := by unfold sRet; rw [h]; rfl
theorem sv_unp {gs : Gs} (h : f Γ = some d) (h2 : gs d Γ = some Γ1) : sUnp gs f Γ = some (.nx Γ1) := by unfold sUnp; rw [h]; show (gs d Γ).bind _ = _; rw [h2]; rfl
theorem sv_par {is : List Nat} (h : fs Γ = some ds) : sPar is fs Γ = some (.nx ((is.zip ds).foldl (fun Γ p => Γ.set p.1 (.sh p.2)) Γ)) := by unfold sPar; rw [h]; rfl
theorem sv_if (h : p Γ = some b) (h1 : b = true → F Γ = r) (h2 : b = false → F' Γ = r) : sIf p F F' Γ = r := by unfold sIf; rw [h]; cases b <;> first | exact h1 rfl | exact h2 rfl
theorem sv_ifT (h : p Γ = some true) (h1 : F Γ = r) : sIf p F F' Γ = r := sv_if h (fun _ => h1) (fun e => nomatch e)
theorem sv_ifF (h : p Γ = some false) (h1 : F' Γ = r) : sIf p F F' Γ = r := sv_if h (fun e => nomatch e) (fun _ => h1)
/-- an if in a row of statements: both ways go on by themselves -/
theorem sv_ifS (h : p Γ = some b) (h1 : b = true → sSeq F F'' Γ = r) (h2 : b = false → sSeq F' F'' Γ = r) : sSeq (sIf p F F') F'' Γ = r := by
  unfold sSeq sIf; rw [h]
  cases b
  · exact h2 rfl
  · exact h1 rfl
theorem sv_nil : sNil Γ = some (.nx Γ) := rfl
theorem sv_nilS : sSeq sNil F Γ = F Γ := rfl
theorem sv_seqA : sSeq (sSeq F F') F'' Γ = sSeq F (sSeq F' F'') Γ := by
  unfold sSeq
  cases F Γ with
  | none => rfl
  | some r => cases r <;> rfl
theorem sv_app {rp : Pth} {xs : List D} {s s2 : Sl} (h : f Γ = some d) (h0 : Γ[i]? = some s) (h1 : getR rp s = some (.ow xs)) (h2 : xs.length < 1000000) (h3 : setR rp (.ow (xs ++ [d])) s = some s2) : sApp i rp f Γ = some (.nx (Γ.set i s2)) := by
  unfold sApp; rw [h]
  show (match gP i rp Γ with | some (.ow xs) => if xs.length < 1000000 then upP i rp (.ow (xs ++ [d])) Γ else none | _ => none) = _
  have e : gP i rp Γ = some (.ow xs) := by unfold gP; rw [h0]; exact h1
  rw [e]; show (if xs.length < 1000000 then upP i rp (.ow (xs ++ [d])) Γ else none) = _
  rw [if_pos h2]; unfold upP; rw [h0]; show (setR rp (.ow (xs ++ [d])) s).bind _ = _; rw [h3]; rfl
theorem sv_app0 {xs : List D} (h : f Γ = some d) (h1 : Γ[i]? = some (.ow xs)) (h2 : xs.length < 1000000) : sApp i [] f Γ = some (.nx (Γ.set i (.ow (xs ++ [d])))) := sv_app h h1 rfl h2 rfl
theorem sv_aug (h1 : Γ[i]? = some (.sh x)) (h2 : f Γ = some y) (h3 : o x y = some d) : sAug o i f Γ = some (.nx (Γ.set i (.sh d))) := by
  unfold sAug; rw [ev_V h1]; show (f Γ).bind _ = _; rw [h2]; show (o x y).bind _ = _; rw [h3]; rfl
theorem sv_frz (h : F (frzE i Γ) = r) : sFrz i F Γ = r := h
theorem sv_for {it : Ag} {gs : Gs} (h : it Γ = some ds) (h2 : forL gs F ds Γ = r) : sFor it gs F Γ = r := by unfold sFor; rw [h]; exact h2
/-! .. in a row -/
theorem sq_set (h : f Γ = some d) (k : F' (Γ.set i (.sh d)) = r) : sSeq (sSet i f) F' Γ = r := sv_nx (sv_set h) k
theorem sq_setO (h : fs Γ = some ds) (k : F' (Γ.set i (.ow ds)) = r) : sSeq (sSetO i fs) F' Γ = r := sv_nx (sv_setO h) k
theorem sq_exp (h : f Γ = some d) (k : F' Γ = r) : sSeq (sExp f) F' Γ = r := sv_nx (sv_exp h) k
theorem sq_unp {gs : Gs} (h : f Γ = some d) (h2 : gs d Γ = some Γ1) (k : F' Γ1 = r) : sSeq (sUnp gs f) F' Γ = r := sv_nx (sv_unp h h2) k
theorem sq_par {is : List Nat} (h : fs Γ = some ds) (k : F' ((is.zip ds).foldl (fun Γ p => Γ.set p.1 (.sh p.2)) Γ) = r) : sSeq (sPar is fs) F' Γ = r := sv_nx (sv_par h) k
theorem sq_app {xs : List D} (h : f Γ = some d) (h1 : Γ[i]? = some (.ow xs)) (h2 : xs.length < 1000000) (k : F' (Γ.set i (.ow (xs ++ [d]))) = r) : sSeq (sApp i [] f) F' Γ = r := sv_nx (sv_app0 h h1 h2) k
theorem sq_aug (h1 : Γ[i]? = some (.sh x)) (h2 : f Γ = some y) (h3 : o x y = some d) (k : F' (Γ.set i (.sh d)) = r) : sSeq (sAug o i f) F' Γ = r := sv_nx (sv_aug h1 h2 h3) k
theorem sq_frz (h : sSeq F F' (frzE i Γ) = r) : sSeq (sFrz i F) F' Γ = r := h
theorem sq_nil (h : F Γ = r) : sSeq sNil F Γ = r := h
theorem sq_ret (h : f Γ = some d) : sSeq (sRet f) F Γ = some (.rt d) := sv_rt (sv_ret h)
/-- an if that sets one name on each way -/
theorem sq_ifV {P : D → Prop} (h : p Γ = some b) (h1 : b = true → ∃ d, P d ∧ F Γ = some (.nx (Γ.set i (.sh d)))) (h2 : b = false → ∃ d, P d ∧ F' Γ = some (.nx (Γ.set i (.sh d)))) (k : ∀ d, P d → F'' (Γ.set i (.sh d)) = r) : sSeq (sIf p F F') F'' Γ = r := by
  cases b with
  | true => obtain ⟨d, hd, e⟩ := h1 rfl; exact sv_nx (sv_ifT h e) (k d hd)
  | false => obtain ⟨d, hd, e⟩ := h2 rfl; exact sv_nx (sv_ifF h e) (k d hd)
theorem sq_ifX {Q : DEnv → Prop} (h : p Γ = some b) (h1 : b = true → ∃ Γ', Q Γ' ∧ F Γ = some (.nx Γ')) (h2 : b = false → ∃ Γ', Q Γ' ∧ F' Γ = some (.nx Γ')) (k : ∀ Γ', Q Γ' → F'' Γ' = r) : sSeq (sIf p F F') F'' Γ = r := by
  cases b with
  | true => obtain ⟨d, hd, e⟩ := h1 rfl; exact sv_nx (sv_ifT h e) (k d hd)
  | false => obtain ⟨d, hd, e⟩ := h2 rfl; exact sv_nx (sv_ifF h e) (k d hd)
/-- a test that is false, nothing is done -/
theorem sq_ifN (h : p Γ = some b) (hb : b = false) (k : F'' Γ = r) : sSeq (sIf p F sNil) F'' Γ = r := sv_nx (sv_ifF (by rw [h, hb]) rfl) k
theorem sv_ifN (h : p Γ = some b) (hb : b = false) : sIf p F sNil Γ = some (.nx Γ) := sv_ifF (by rw [h, hb]) rfl
/-! loops -/
theorem forL_nil {gs : Gs} : forL gs F [] Γ = some (.nx Γ) := rfl
theorem forL_nx {gs : Gs} (h : gs d Γ = some Γ1) (h2 : F Γ1 = some (.nx Γ2)) (k : forL gs F ds Γ2 = r) : forL gs F (d :: ds) Γ = r := by
  show (gs d Γ).bind _ = _; rw [h]; show (F Γ1).bind _ = _; rw [h2]; exact k
theorem forL_ct {gs : Gs} (h : gs d Γ = some Γ1) (h2 : F Γ1 = some (.ct Γ2)) (k : forL gs F ds Γ2 = r) : forL gs F (d :: ds) Γ = r := by
  show (gs d Γ).bind _ = _; rw [h]; show (F Γ1).bind _ = _; rw [h2]; exact k
theorem forL_rt {gs : Gs} (h : gs d Γ = some Γ1) (h2 : F Γ1 = some (.rt x)) : forL gs F (d :: ds) Γ = some (.rt x) := by
  show (gs d Γ).bind _ = _; rw [h]; show (F Γ1).bind _ = _; rw [h2]; rfl
theorem forL_bk {gs : Gs} (h : gs d Γ = some Γ1) (h2 : F Γ1 = some (.bk Γ2)) : forL gs F (d :: ds) Γ = some (.nx Γ2) := by
  show (gs d Γ).bind _ = _; rw [h]; show (F Γ1).bind _ = _; rw [h2]; rfl
/-- a loop that is not left, by its invariant -/
theorem forL_inv {gs : Gs} (Iv : List D → DEnv → Prop) (hs : ∀ d ds Γ, Iv (d :: ds) Γ → ∃ Γ1 Γ2, gs d Γ = some Γ1 ∧ (F Γ1 = some (.nx Γ2) ∨ F Γ1 = some (.ct Γ2)) ∧ Iv ds Γ2) : ∀ (ds : List D) (Γ : DEnv), Iv ds Γ → ∃ Γ', forL gs F ds Γ = some (.nx Γ') ∧ Iv [] Γ'
  | [], Γ, h => ⟨Γ, rfl, h⟩
  | d :: ds, Γ, h => by
    obtain ⟨Γ1, Γ2, h1, h2, h3⟩ := hs d ds Γ h
    obtain ⟨Γ', h4, h5⟩ := forL_inv Iv hs ds Γ2 h3
    rcases h2 with h2 | h2
    · exact ⟨Γ', forL_nx h1 h2 h4, h5⟩
    · exact ⟨Γ', forL_ct h1 h2 h4, h5⟩
theorem compL_nil {gs : Gs} : compL gs p f [] Γ = some [] := rfl
/-- a comprehension without a test: each item by itself -/
theorem compL_map {gs : Gs} {α : Type} (xs : List α) (u v : α → D) (h : ∀ a ∈ xs, ∃ Γ1, gs (u a) Γ = some Γ1 ∧ f Γ1 = some (v a)) : compL gs gYes f (xs.map u) Γ = some (xs.map v) := by
  induction xs with
  | nil => rfl
  | cons a xs ih =>
    obtain ⟨Γ1, h1, h2⟩ := h a List.mem_cons_self
    rw [List.map_cons, List.map_cons]
    show (gs (u a) Γ).bind _ = _
    rw [h1]
    show (f Γ1).bind _ = _
    rw [h2]
    show (compL gs gYes f (xs.map u) Γ).bind _ = _
    rw [ih fun b hb => h b (List.mem_cons_of_mem _ hb)]
    rfl
/-- .. with a test -/
theorem compL_filter {gs : Gs} {α : Type} (xs : List α) (u v : α → D) (t : α → Bool) (h : ∀ a ∈ xs, ∃ Γ1, gs (u a) Γ = some Γ1 ∧ p Γ1 = some (t a) ∧ (t a = true → f Γ1 = some (v a))) : compL gs p f (xs.map u) Γ = some ((xs.filter t).map v) := by
  induction xs with
  | nil => rfl
  | cons a xs ih =>
    obtain ⟨Γ1, h1, h2, h3⟩ := h a List.mem_cons_self
    have ih := ih fun b hb => h b (List.mem_cons_of_mem _ hb)
    rw [List.map_cons]
    show (gs (u a) Γ).bind _ = _
    rw [h1]
    show (p Γ1).bind _ = _
    rw [h2]
    cases e : t a with
    | true =>
      show (f Γ1).bind _ = _
      rw [h3 e]
      show (compL gs p f (xs.map u) Γ).bind _ = _
      rw [ih, List.filter_cons_of_pos e]
      rfl
    | false =>
      show compL gs p f (xs.map u) Γ = _
      rw [ih, List.filter_cons_of_neg (by rw [e]; simp)]
theorem ev_lc {own : List Nat} {it : Ag} {gs : Gs} {ds' : List D} (h : it Γ = some ds) (hl : ds.length < 1000000) (h2 : compL gs p f ds (wipeE Γ own) = some ds') : gLc own it gs p f Γ = some ds' := by
  unfold gLc; rw [h]; show (if ds.length < 1000000 then compL gs p f ds (wipeE Γ own) else none) = _
  rw [if_pos hl]; exact h2
theorem ev_it (h : f Γ = some (.lst ds)) : gIt f Γ = some ds := by unfold gIt; rw [h]; rfl
theorem ev_itT (h : f Γ = some (.tup ds)) : gIt f Γ = some ds := by unfold gIt; rw [h]; rfl
theorem ev_itS {ns : List Int} (h : f Γ = some (.scr ns)) : gIt f Γ = some (ns.map D.int) := by unfold gIt; rw [h]; rfl
theorem ev_rng1 (h : fs Γ = some [.int m]) (h1 : -(2 ^ 62) ≤ m) (h2 : m < 2 ^ 62) : gRng fs Γ = some (rngD 0 m.toNat) := by
  unfold gRng; rw [h]; show (if -(2 ^ 62) ≤ m ∧ m < 2 ^ 62 then some (rngD 0 m.toNat) else none) = _; rw [if_pos ⟨h1, h2⟩]
theorem ev_rng2 (h : fs Γ = some [.int m, .int j]) (h1 : -(2 ^ 62) ≤ m) (h2 : m < 2 ^ 62) (h3 : -(2 ^ 62) ≤ j) (h4 : j < 2 ^ 62) : gRng fs Γ = some (rngD m (j - m).toNat) := by
  unfold gRng; rw [h]; show (if -(2 ^ 62) ≤ m ∧ m < 2 ^ 62 ∧ -(2 ^ 62) ≤ j ∧ j < 2 ^ 62 then some (rngD m (j - m).toNat) else none) = _; rw [if_pos ⟨h1, h2, h3, h4⟩]
theorem d_all {bs : List Bool} : dAll (.lst (bs.map D.bl)) = some (.bl (bs.all id)) := by show (bls? (bs.map D.bl)).bind _ = _; rw [bls?_map]; rfl
theorem d_any {bs : List Bool} : dAny (.lst (bs.map D.bl)) = some (.bl (bs.any id)) := by show (bls? (bs.map D.bl)).bind _ = _; rw [bls?_map]; rfl
theorem d_sum {ns : List Int} : dSum (.lst (ns.map D.int)) = some (.int ns.sum) := by show (ints? (ns.map D.int)).bind _ = _; rw [ints?_map]; rfl
theorem d_max {ns : List Int} (h : ns ≠ []) : dMax (.lst (ns.map D.int)) = some (.int (maxI ns)) := by show (ints? (ns.map D.int)).bind _ = _; rw [ints?_map]; cases ns with | nil => exact absurd rfl h | cons => rfl
theorem d_min {ns : List Int} (h : ns ≠ []) : dMin (.lst (ns.map D.int)) = some (.int (minI ns)) := by show (ints? (ns.map D.int)).bind _ = _; rw [ints?_map]; cases ns with | nil => exact absurd rfl h | cons => rfl
theorem d_sorted {ns : List Int} : dSorted (.lst (ns.map D.int)) = some ((srt ns).map D.int) := by show (ints? (ns.map D.int)).bind _ = _; rw [ints?_map]; rfl
/-! data -/
theorem d_add : dAdd (.int m) (.int j) = some (.int (m + j)) := rfl
theorem d_sub : dSub (.int m) (.int j) = some (.int (m - j)) := rfl
theorem mulOk_l (h1 : -(2 ^ 64) < m) (h2 : m < 2 ^ 64) : mulOk m j = true := by
  have h := intBits_le_64 h1 h2
  have h' : ¬ (Builtin.Int.intBits m > shortFactorBits) := Nat.not_lt.mpr h
  unfold mulOk
  rw [decide_eq_false h']
  rfl
theorem mulOk_r (h1 : -(2 ^ 64) < j) (h2 : j < 2 ^ 64) : mulOk m j = true := by
  have h := intBits_le_64 h1 h2
  have h' : ¬ (Builtin.Int.intBits j > shortFactorBits) := Nat.not_lt.mpr h
  unfold mulOk
  rw [decide_eq_false h', Bool.and_false]
  rfl
theorem d_mul (h : mulOk m j = true) : dMul (.int m) (.int j) = some (.int (m * j)) := by show (if mulOk m j = true then some (D.int (m * j)) else none) = _; rw [if_pos h]
theorem d_div (h : 0 < j) (h2 : j.natAbs.log2 < 9000) : dDiv (.int m) (.int j) = some (.int (m / j)) := by show (if 0 < j ∧ j.natAbs.log2 < 9000 then some (D.int (m / j)) else none) = _; rw [if_pos ⟨h, h2⟩]
theorem log_of {k : Nat} (h : j.natAbs < 2 ^ k) (hk : 0 < k) (h9 : k ≤ 9000) : j.natAbs.log2 < 9000 := Nat.lt_of_lt_of_le (PySem.Flt.log2_lt_of hk h) h9
theorem d_mod (h : 0 < j) : dMod (.int m) (.int j) = some (.int (m % j)) := by show (if 0 < j then some (D.int (m % j)) else none) = _; rw [if_pos h]
theorem d_pow (h : 0 ≤ j ∧ j ≤ 1000000 ∧ m.natAbs < 2 ^ 64) : dPow (.int m) (.int j) = some (.int (m ^ j.toNat)) := by show (if 0 ≤ j ∧ j ≤ 1000000 ∧ m.natAbs < 2 ^ 64 then some (D.int (m ^ j.toNat)) else none) = _; rw [if_pos h]
theorem d_eq {bb : Bool} (h1 : eqOk x = true) (h2 : eqOk y = true) (h : eqd x y = bb) : dEq x y = some (.bl bb) := by unfold dEq; rw [h1, h2]; show some (D.bl (eqd x y)) = _; rw [h]
theorem d_ne {bb : Bool} (h1 : eqOk x = true) (h2 : eqOk y = true) (h : eqd x y = bb) : dNe x y = some (.bl (!bb)) := by unfold dNe; rw [h1, h2]; show some (D.bl (!eqd x y)) = _; rw [h]
theorem eqd_int : eqd (.int m) (.int j) = (m == j) := by unfold eqd toPy; rfl
theorem eqd_bl {a b : Bool} : eqd (.bl a) (.bl b) = (a == b) := by unfold eqd toPy; rfl
theorem eqOk_int : eqOk (.int m) = true := by unfold eqOk pyOk toPy; rfl
theorem eqOk_bl : eqOk (.bl b) = true := by unfold eqOk pyOk toPy; rfl
theorem eqOk_non : eqOk .non = true := by unfold eqOk pyOk toPy; rfl
theorem d_lenL {xs : List D} : dLen (.lst xs) = some (.int xs.length) := rfl
theorem d_lenS {ns : List Int} : dLen (.scr ns) = some (.int ns.length) := rfl
theorem d_ixL {xs : List D} {k : Nat} (h : xs[k]? = some d) : dIx (.lst xs) (.int (k : Nat)) = some d := atI_nat h
end
end DL

namespace DL
open PySem L2
variable [TC : TabCtx]

/-! ### zip of three lists -/
def Itz3 (K : PySem.W.Frag) (a b c : Addr) : It :=
  ⟨fun i H => ∃ (xs ys zs : List V) (x y z : V), SqL K H a xs ∧ SqL K H b ys ∧ SqL K H c zs ∧ xs[i]? = some x ∧ ys[i]? = some y ∧ zs[i]? = some z,
    fun i H v H' => ∃ T x y z, v = .ref T ∧ H T = none ∧ H' = upd H T (.tup [x, y, z]) ∧ (∀ xs, SqL K H a xs → xs[i]? = some x) ∧ (∀ ys, SqL K H b ys → ys[i]? = some y) ∧ ∀ zs, SqL K H c zs → zs[i]? = some z,
    fun i H => ∃ xs ys zs : List V, SqL K H a xs ∧ SqL K H b ys ∧ SqL K H c zs ∧ (xs.length ≤ i ∨ ys.length ≤ i ∨ zs.length ≤ i)⟩
/-- a list's iterator at i, as one that draws: up to the list's end, or not at all -/
theorem draws_at {prog : Program} {w : World} {A : Around} (hh : A.handled = none) (it l : Addr) (hne : l ≠ it) (items : Array Value) (i : Nat) :
    ∃ n P St, Draws prog w A it [it, l] n P St ∧ i ≤ n ∧ (items.size ≤ i → i = n) ∧ ∀ h : Heap, h.IsListIter it l i → h.IsList l items → St i h := by
  by_cases hi : i < items.size
  · exact ⟨_, _, _, Draws.list hh it l hne items, by omega, fun z => by omega, fun h a b => ⟨a, b⟩⟩
  · refine ⟨i, fun _ _ => False, fun j h => j = i ∧ h.IsListIter it l i ∧ h.IsList l items, ⟨fun _ _ st => let ⟨o, ho, _⟩ := st.2.1; ⟨o, ho⟩, fun _ _ _ st hk => ⟨st.1, st.2.1.at fun o e => hk it (by simp) o e, st.2.2.at fun o e => hk l (by simp) o e⟩, fun j s Q E hj st hQ => absurd st.1 (by omega), fun s Q E st hE => ?_⟩, Nat.le_refl _, fun _ => rfl, fun h a b => ⟨rfl, a, b⟩⟩
    exact wpAny_nextOf_list_end hh st.2.1 st.2.2 (by simp; omega) hE
theorem turn_zip3 {P : Program} {w : World} {K : PySem.W.Frag} {elts : List Expr} {kk : Nat} {tpos : Pos} {a b c z TI TO i1 i2 i3 : Addr} (D : ZipSep3 z TI TO i1 i2 i3 [i1, a] [i2, b] [i3, c]) (na : a ≠ i1) (nb : b ≠ i2) (nc : c ≠ i3) :
    Turn P w K (.Tuple elts kk tpos) (Itz3 K a b c) [z, TI, TO, i1, i2, i3] z (fun i h => IsZip h z TI TO .none ∧ IsTupOf3 h TI (.ref i1) (.ref i2) (.ref i3) ∧ (∃ x y u, IsTupOf3 h TO x y u) ∧ h.IsListIter i1 a i ∧ h.IsListIter i2 b i ∧ h.IsListIter i3 c i) where
  mem := by simp
  obj := fun i h st q hq => by
    obtain ⟨hz, hTI, ⟨x, y, u, hTO⟩, ⟨o1, e1, _, d1⟩, ⟨o2, e2, _, d2⟩, ⟨o3, e3, _, d3⟩⟩ := st
    have e' : q = z ∨ q = TI ∨ q = TO ∨ q = i1 ∨ q = i2 ∨ q = i3 := by simpa using hq
    rcases e' with q | q | q | q | q | q
    · rw [q]; exact ⟨_, hz, fun v q => nomatch q⟩
    · rw [q]; exact ⟨_, hTI, fun v q => nomatch q⟩
    · rw [q]; exact ⟨_, hTO, fun v q => nomatch q⟩
    · rw [q]; exact ⟨o1, e1, fun v q => by rw [d1] at q; cases q⟩
    · rw [q]; exact ⟨o2, e2, fun v q => by rw [d2] at q; cases q⟩
    · rw [q]; exact ⟨o3, e3, fun v q => by rw [d3] at q; cases q⟩
  keep := fun i h h' st k => by
    obtain ⟨hz, hTI, ⟨x, y, u, hTO⟩, h1, h2, h3⟩ := st
    exact ⟨k z (by simp) _ hz, k TI (by simp) _ hTI, ⟨x, y, u, k TO (by simp) _ hTO⟩, h1.at fun o q => k i1 (by simp) o q, h2.at fun o q => k i2 (by simp) o q, h3.at fun o q => k i3 (by simp) o q⟩
  item := by
    intro X hP hw hK hc i pins s σ H E I hf st hg
    subst hP hw hK
    obtain ⟨hz, hTI, ⟨x0, y0, u0, hTO⟩, h1, h2, h3⟩ := st
    obtain ⟨xs, ys, zs, x, y, u, hqx, hqy, hqz, hx, hy, hu⟩ := hg
    obtain ⟨its, rv, p, _⟩ := I.list hqx
    obtain ⟨its2, rv2, p2, _⟩ := I.list hqy
    obtain ⟨its3, rv3, p3, _⟩ := I.list hqz
    obtain ⟨w1, hw1, rw1⟩ := rv.get hx
    obtain ⟨w2, hw2, rw2⟩ := rv2.get hy
    obtain ⟨w3, hw3, rw3⟩ := rv3.get hu
    have hzl : z < s.heap.objs.size := Heap.lt_size hz
    have hh := I.ok.hd hc
    have hh1 : (Around.in1 X.A).handled = none := hh
    have lt : ∀ {xs : List Value} {i : Nat} {x : Value}, xs[i]? = some x → i < xs.toArray.size := fun e => by simpa using (List.getElem?_eq_some_iff.mp e).1
    refine wpAny_pyNext_zipD3_item D (Draws.list hh1 i1 a na its.toArray) (Draws.list hh1 i2 b nb its2.toArray) (Draws.list hh1 i3 c nc its3.toArray) hz hTI hTO ⟨h1, p.isList⟩ ⟨h2, p2.isList⟩ ⟨h3, p3.isList⟩ (lt hw1) (lt hw2) (lt hw3) fun v1 v2 v3 h' tk y1 y2 y3 z' TO' d1 d2 d3 hT hsz hk => ?_
    obtain rfl : v1 = w1 := by have : its[i]? = some v1 := by simpa using y1
                               rw [hw1] at this; cases this; rfl
    obtain rfl : v2 = w2 := by have : its2[i]? = some v2 := by simpa using y2
                               rw [hw2] at this; cases this; rfl
    obtain rfl : v3 = w3 := by have : its3[i]? = some v3 := by simpa using y3
                               rw [hw3] at this; cases this; rfl
    refine ⟨_, rfl, wpAny_letOwnedTupleGo_zip (s := { s with heap := h', toks := tk }) z' fun h'' z'' sb => ?_⟩
    have hT2 : h''.get? s.heap.objs.size = some { cls := .type "tuple", data := .seq #[v1, v2, v3] } := (sb.2 _ (Nat.ne_of_gt hzl)).trans hT
    have new : ObjOk X.prog X.w (upd H s.heap.objs.size (.tup [x, y, u])) h'' s.heap.objs.size (.tup [x, y, u]) :=
      ⟨by show 3 ≤ sizeLine; decide, [v1, v2, v3], .cons rw1 (.cons rw2 (.cons rw3 .nil)), ⟨_, hT2, rfl, _, rfl⟩⟩
    have I1 : Inv X pins σ (upd H s.heap.objs.size (.tup [x, y, u])) { s with heap := h'', toks := tk } :=
      I.turnedNew (t' := tk) (ch := [z, TI, TO, i1, i2, i3]) (fun c o hb q => (sb.2 c (fun q' => hb (by simp [q']))).trans (hk c o (fun q' => hb (by simp [q'])) (fun q' => hb (by simp [q'])) (fun q' => hb (by simp [q'])) (fun q' => hb (by simp [q'])) (fun q' => hb (by simp [q'])) q)) hf (Nat.le_refl _) new
    refine ⟨.ref s.heap.objs.size, _, I1, rfl, ⟨_, x, y, u, rfl, I.hok.fresh (Nat.le_refl _), rfl, fun l hl => by rw [I.list_inj hl hqx]; exact hx, fun l hl => by rw [I.list_inj hl hqy]; exact hy, fun l hl => by rw [I.list_inj hl hqz]; exact hu⟩, ⟨z'', ?_, ⟨v1, v2, v3, ?_⟩, ?_, ?_, ?_⟩, fun c hcm => ?_⟩
    · exact (sb.2 _ D.TIz).trans (hk _ _ D.TIz D.TITO D.TIi1 D.TIi2 D.TIi3 hTI)
    · exact (sb.2 _ D.TOz).trans TO'
    · exact d1.1.at fun o q => (sb.2 _ D.zi1.symm).trans q
    · exact d2.1.at fun o q => (sb.2 _ D.zi2.symm).trans q
    · exact d3.1.at fun o q => (sb.2 _ D.zi3.symm).trans q
    · have hlt : c < s.heap.objs.size := by
        have e' : c = z ∨ c = TI ∨ c = TO ∨ c = i1 ∨ c = i2 ∨ c = i3 := by simpa using hcm
        rcases e' with q | q | q | q | q | q
        · rw [q]; exact hzl
        · rw [q]; exact Heap.lt_size hTI
        · rw [q]; exact Heap.lt_size hTO
        · rw [q]; obtain ⟨_, e1, _⟩ := h1; exact Heap.lt_size e1
        · rw [q]; obtain ⟨_, e2, _⟩ := h2; exact Heap.lt_size e2
        · rw [q]; obtain ⟨_, e3, _⟩ := h3; exact Heap.lt_size e3
      rw [upd_ne (Nat.ne_of_lt hlt)]
      exact (hf c hcm).1
  done := by
    intro X hP hw hK hc i pins s σ H E I hf st hg
    subst hP hw hK
    obtain ⟨hz, hTI, ⟨x0, y0, u0, hTO⟩, h1, h2, h3⟩ := st
    obtain ⟨xs, ys, zs, hqx, hqy, hqz, hend⟩ := hg
    obtain ⟨its, rv, p, _⟩ := I.list hqx
    obtain ⟨its2, rv2, p2, _⟩ := I.list hqy
    obtain ⟨its3, rv3, p3, _⟩ := I.list hqz
    have e1 := rv.length
    have e2 := rv2.length
    have e3 := rv3.length
    have hh : (Around.in1 X.A).handled = none := I.ok.hd hc
    obtain ⟨n1, P1, S1, D1, g1, f1, c1⟩ := draws_at (prog := X.prog) (w := X.w) hh i1 a na its.toArray i
    obtain ⟨n2, P2, S2, D2, g2, f2, c2⟩ := draws_at (prog := X.prog) (w := X.w) hh i2 b nb its2.toArray i
    obtain ⟨n3, P3, S3, D3, g3, f3, c3⟩ := draws_at (prog := X.prog) (w := X.w) hh i3 c nc its3.toArray i
    refine wpAny_pyNext_zipD3_end D D1 D2 D3 hz hTI hTO (c1 _ h1 p.isList) (c2 _ h2 p2.isList) (c3 _ h3 p3.isList) g1 g2 g3 (hend.imp (fun q => f1 (by simp; omega)) (Or.imp (fun q => f2 (by simp; omega)) fun q => f3 (by simp; omega))) fun h' tk hk => ⟨rfl, I.turnedL (t' := tk) (ch := [z, TI, TO, i1, i2, i3]) (fun c o hb q =>
      hk c o (fun q' => hb (by simp [q'])) (fun q' => hb (by simp [q'])) (fun q' => hb (by simp [q'])) (fun q' => hb (by simp [q'])) (fun q' => hb (by simp [q'])) q) hf⟩
  self := fun A i s Q E st h => wpAny_pyIter_zip st.1 h

theorem apart3 {n a b c : Nat} (ha : a < n) (hb : b < n) (hc : c < n) : ZipSep3 (n + 5) (n + 3) (n + 4) n (n + 1) (n + 2) [n, a] [n + 1, b] [n + 2, c] := by
  have f (x y : Nat) (h : x < y ∨ y < x) : (x : Addr) ≠ y := by
    intro e
    have e : (x : Nat) = y := e
    omega
  have m (x y z : Nat) (h : (x < y ∨ y < x) ∧ (x < z ∨ z < x)) : (x : Addr) ∉ ([y, z] : List Addr) := by
    intro e
    simp only [List.mem_cons, List.not_mem_nil, or_false] at e
    rcases e with e | e
    · exact f _ _ h.1 e
    · exact f _ _ h.2 e
  constructor
  all_goals first | (exact List.mem_cons_self ..) | (refine f _ _ ?_; omega) | (refine m _ _ _ ?_; omega)
def iZip3 (K : PySem.W.Frag) (ta : TA) : TI := fun σ H R => ta σ H fun vs H1 => ∃ a b c xs ys zs, vs = [.ref a, .ref b, .ref c] ∧ SqL K H1 a xs ∧ SqL K H1 b ys ∧ SqL K H1 c zs ∧ R (Itz3 K a b c) H1
theorem pi_zip3 {X : Cx} {e e2 e3 : Expr} {ta : TA} {p pos tpos : Pos} {elts : List Expr} {kk : Nat} (hg : Gl X "zip") (hm : X.mg "zip" = none) (ha : PA X [e, e2, e3] ta)
    (hs : starEach [e, e2, e3] X.env = (false, eval e X.env) :: starEach [e2, e3] X.env := by rfl) (hpl : (backTo pos (starEach [e2, e3] X.env)).any (·.1) = false := by rfl) :
    PI X (.Tuple elts kk tpos) (.Call (.Name "zip" p) [e, e2, e3] [] pos) (iZip3 X.K ta) := by
  refine ⟨fun pins s σ H R I h => ?_⟩
  refine PyProof.Rows.Call_ (ld_blt I hg hm PyProof.Rows.boot_zip (PyProof.Rows.callWith_type1 (thn (ha.run pos pins s σ H _ I h) fun us s1 ⟨vs, H1, I1, r1, q1⟩ => ?_) hs hpl))
  obtain ⟨a, b, c, xs, ys, zs, ex, hqx, hqy, hqz, q⟩ := q1
  subst ex
  cases r1 with
  | cons r rr =>
    cases rr with
    | cons r' rr =>
      cases rr with
      | cons r'' rr =>
        cases rr
        cases r
        cases r'
        cases r''
        obtain ⟨its, rv, p1, _⟩ := I1.list hqx
        obtain ⟨its2, rv2, p2, _⟩ := I1.list hqy
        obtain ⟨its3, rv3, p3, _⟩ := I1.list hqz
        have la : a < s1.heap.objs.size := p1.lt
        have lb : b < s1.heap.objs.size := p2.lt
        have lc : c < s1.heap.objs.size := p3.lt
        refine zip_begins3 (begins_list a its.toArray) (begins_list b its2.toArray) (begins_list c its3.toArray) p1.isList p2.isList p3.isList fun h' hz hTI hTO h1 h2 h3 hsz hk => wpAny_pyIter_zip hz ?_
        have I2 : Inv X pins σ H1 { s1 with heap := h' } := I1.kept (t' := s1.toks) hk
        refine ⟨s1.heap.objs.size + 5, [s1.heap.objs.size + 5, s1.heap.objs.size + 3, s1.heap.objs.size + 4, s1.heap.objs.size, s1.heap.objs.size + 1, s1.heap.objs.size + 2], _, _, H1, rfl, I2, turn_zip3 (apart3 la lb lc) (Nat.ne_of_lt la) (by show b ≠ _; exact Nat.ne_of_lt (Nat.lt_succ_of_lt lb)) (by show c ≠ _; exact Nat.ne_of_lt (Nat.lt_succ_of_lt (Nat.lt_succ_of_lt lc))), ⟨hz, hTI, ⟨_, _, _, hTO⟩, ⟨_, h1, rfl, rfl⟩, ⟨_, h2, rfl, rfl⟩, ⟨_, h3, rfl, rfl⟩⟩, fun d hd => ?_, q⟩
        have hle : s1.heap.objs.size ≤ d := by
          have e' : d = s1.heap.objs.size + 5 ∨ d = s1.heap.objs.size + 3 ∨ d = s1.heap.objs.size + 4 ∨ d = s1.heap.objs.size ∨ d = s1.heap.objs.size + 1 ∨ d = s1.heap.objs.size + 2 := by simpa using hd
          rcases e' with z | z | z | z | z | z <;> rw [z] <;> first | exact Nat.le_add_right _ _ | exact Nat.le_refl _
        exact I1.fpOk hle (I1.hok.fresh hle)

def zipD3 : List D → List D → List D → List D
  | x :: xs, y :: ys, z :: zs => .tup [x, y, z] :: zipD3 xs ys zs
  | _, _, _ => []
theorem zipD3_get : ∀ {xs ys zs : List D} {i : Nat} {d : D}, (zipD3 xs ys zs)[i]? = some d → ∃ x y z, xs[i]? = some x ∧ ys[i]? = some y ∧ zs[i]? = some z ∧ d = .tup [x, y, z]
  | [], _, _, _, _, h => by simp [zipD3] at h
  | _ :: _, [], _, _, _, h => by simp [zipD3] at h
  | _ :: _, _ :: _, [], _, _, h => by simp [zipD3] at h
  | x :: xs, y :: ys, z :: zs, 0, d, h => by simp [zipD3] at h; exact ⟨x, y, z, rfl, rfl, rfl, h.symm⟩
  | x :: xs, y :: ys, z :: zs, i + 1, d, h => by
    obtain ⟨x', y', z', h1, h2, h3, h4⟩ := zipD3_get (xs := xs) (ys := ys) (zs := zs) (i := i) (d := d) (by simpa [zipD3] using h)
    exact ⟨x', y', z', by simpa using h1, by simpa using h2, by simpa using h3, h4⟩
theorem zipD3_len : ∀ {xs ys zs : List D}, (zipD3 xs ys zs).length = min (min xs.length ys.length) zs.length
  | [], _, _ => by simp [zipD3]
  | _ :: _, [], _ => by simp [zipD3]
  | _ :: _, _ :: _, [] => by simp [zipD3]
  | x :: xs, y :: ys, z :: zs => by simp [zipD3, zipD3_len (xs := xs) (ys := ys) (zs := zs)]
def dZip3 : List D → Option (List D)
  | [x, y, z] => (dItems x).bind fun xs => (dItems y).bind fun ys => (dItems z).bind fun zs => some (zipD3 xs ys zs)
  | _ => none
def gZip3 (fs : Ag) : Ag := fun Γ => (fs Γ).bind dZip3
theorem i_zip3 {X : Cx} {a b c : Expr} {fs : Ag} {pos p tpos : Pos} {elts : List Expr} {kk : Nat} (hg : Gl X "zip") (hm : X.mg "zip" = none) (ha : AN X [a, b, c] 3 fs) (hs : starEach [a, b, c] X.env = (false, eval a X.env) :: starEach [b, c] X.env := by rfl) (hpl : (backTo pos (starEach [b, c] X.env)).any (·.1) = false := by rfl) :
    I X (.Tuple elts kk tpos) (.Call (.Name "zip" p) [a, b, c] [] pos) (gZip3 fs) := by
  obtain ⟨t, h1, h2⟩ := ha.a.ex
  refine ⟨⟨_, pi_zip3 hg hm h1 hs hpl, fun G0 H0 Z Γ σ G H R ds Rl hf k => ?_⟩⟩
  obtain ⟨xs, e1, hf⟩ := obind hf
  have hl := ha.n Γ xs e1
  refine h2 G0 H0 Z Γ σ G H _ _ Rl e1 fun G1 H1 vs x1 r1 => ?_
  match xs, hl, hf, r1 with
  | [x, y, z], _, hf, .cons r (.cons q (.cons o .nil)) =>
    replace hf : ((dItems x).bind fun xs => (dItems y).bind fun ys => (dItems z).bind fun zs => some (zipD3 xs ys zs)) = some ds := hf
    obtain ⟨as, a1, hf⟩ := obind hf
    obtain ⟨bs, a2, hf⟩ := obind hf
    obtain ⟨cs, a3, hf⟩ := obind hf
    cases hf
    obtain ⟨p1, v1, rfl, s1, r1⟩ := r.items a1
    obtain ⟨p2, v2, rfl, s2, r2⟩ := q.items a2
    obtain ⟨p3, v3, rfl, s3, r3⟩ := o.items a3
    refine ⟨p1, p2, p3, v1, v2, v3, rfl, x1.gh.seq s1, x1.gh.seq s2, x1.gh.seq s3, k G1 H1 _ x1 fun i G2 H2 t1 t2 => ?_⟩
    have q1 : SqL X.K H2 p1 v1 := (t1.trans t2).seq s1
    have q2 : SqL X.K H2 p2 v2 := (t1.trans t2).seq s2
    have q3 : SqL X.K H2 p3 v3 := (t1.trans t2).seq s3
    refine ⟨fun hi => ?_, fun d hd => ?_⟩
    · rw [zipD3_len] at hi
      refine ⟨v1, v2, v3, q1, q2, q3, ?_⟩
      rw [r1.length, r2.length, r3.length]
      omega
    · obtain ⟨x, y, z, g1, g2, g3, rfl⟩ := zipD3_get hd
      obtain ⟨w1, b1, c1⟩ := r1.get i g1
      obtain ⟨w2, b2, c2⟩ := r2.get i g2
      obtain ⟨w3, b3, c3⟩ := r3.get i g3
      refine ⟨⟨v1, v2, v3, w1, w2, w3, q1, q2, q3, b1, b2, b3⟩, fun u H3 yl => ?_⟩
      obtain ⟨T, z1, z2, z3, rfl, hT, rfl, f1, f2, f3⟩ := yl
      have y1 := f1 v1 q1
      have y2 := f2 v2 q2
      have y3 := f3 v3 q3
      rw [b1] at y1
      rw [b2] at y2
      rw [b3] at y3
      cases y1
      cases y2
      cases y3
      have x2 := Ext.new1 (o := .tup [w1, w2, w3]) t2 hT
      exact ⟨_, x2, .tup (SqT.of upd_same) (.cons ((c1.mono t1).mono x2.gg) (.cons ((c2.mono t1).mono x2.gg) (.cons ((c3.mono t1).mono x2.gg) .nil)))⟩
end DL

namespace DL
open PySem L2
variable [TC : TabCtx]

/-! ### fields of an object of one's own -/
section
variable {K : PySem.W.Frag} {mg : Str → Option Value} {G H : Hp}
theorem HdL.setv : ∀ {vs : List V} {F : Addr → Prop} {ss : List Sl} (j : Nat) {v : V} {s : Sl} {F1 : Addr → Prop}, HdL K mg G H vs F ss → Hd K mg G H v F1 s → (∀ a, F1 a → ¬ F a) → HdL K mg G H (vs.set j v) (fun a => F a ∨ F1 a) (ss.set j s)
  | _, _, _, _, _, _, _, .nil, _, _ => .nil
  | _, _, _, 0, _, _, _, .cons (F := F) (F1 := Fh) (F2 := Ft) h r s1 s2 d, hv, dj => .cons hv r (fun _ x => .inr x) (fun a x => .inl (s2 a x)) fun a x y => dj a x (s2 a y)
  | _, _, _, j + 1, _, _, _, .cons (F := F) (F1 := Fh) (F2 := Ft) h r s1 s2 d, hv, dj =>
    .cons h (HdL.setv j r hv fun a x y => dj a x (s2 a y)) (fun a x => .inl (s1 a x)) (fun a x => x.elim (fun x => .inl (s2 a x)) .inr) fun a x y => y.elim (d a x) fun y => dj a y (s1 a x)
theorem HdL.snoc : ∀ {vs : List V} {F : Addr → Prop} {ss : List Sl} {v : V} {s : Sl} {F1 : Addr → Prop}, HdL K mg G H vs F ss → Hd K mg G H v F1 s → (∀ a, F1 a → ¬ F a) → HdL K mg G H (vs ++ [v]) (fun a => F a ∨ F1 a) (ss ++ [s])
  | _, F, _, v, s, F1, .nil, hv, dj => .cons (F1 := F1) (F2 := fun _ => False) hv .nil (fun _ x => .inr x) (fun _ x => x.elim) fun _ _ y => y
  | _, _, _, _, _, _, .cons (F := F) (F1 := Fh) (F2 := Ft) h r s1 s2 d, hv, dj =>
    .cons h (HdL.snoc r hv fun a x y => dj a x (s2 a y)) (fun a x => .inl (s1 a x)) (fun a x => x.elim (fun x => .inl (s2 a x)) .inr) fun a x y => y.elim (d a x) fun y => dj a y (s1 a x)
theorem putF_set : ∀ {ns : List Str} {vs : List V} {j : Nat} {f : Str} {v : V}, ns.Nodup → ns[j]? = some f → j < vs.length → putF f v (ns.zip vs) = ns.zip (vs.set j v)
  | [], _, _, _, _, _, h, _ => by simp at h
  | _ :: _, [], _, _, _, _, _, h => by simp at h
  | n :: ns, w :: vs, 0, f, v, nd, h, _ => by
    simp at h; subst h
    show (if n = n then (n, v) :: ns.zip vs else _) = _
    rw [if_pos rfl]; rfl
  | n :: ns, w :: vs, j + 1, f, v, nd, h, hl => by
    have hn : ¬ n = f := fun e => by
      subst e
      exact (List.nodup_cons.mp nd).1 (List.mem_of_getElem? (by simpa using h))
    show (if n = f then (n, v) :: ns.zip vs else (n, w) :: putF f v (ns.zip vs)) = _
    rw [if_neg hn, putF_set (List.nodup_cons.mp nd).2 (by simpa using h) (by simpa using hl)]
    rfl
theorem putF_snoc : ∀ {ns : List Str} {vs : List V} {f : Str} {v : V}, ns.Nodup → ns[vs.length]? = some f → putF f v (ns.zip vs) = ns.zip (vs ++ [v])
  | [], vs, _, _, _, h => by simp at h
  | n :: ns, [], f, v, nd, h => by
    simp at h; subst h; simp [putF]
  | n :: ns, w :: vs, f, v, nd, h => by
    have hn : ¬ n = f := fun e => by
      subst e
      exact (List.nodup_cons.mp nd).1 (List.mem_of_getElem? (by simpa using h))
    show (if n = f then (n, v) :: ns.zip vs else (n, w) :: putF f v (ns.zip vs)) = _
    rw [if_neg hn, putF_snoc (List.nodup_cons.mp nd).2 (by simpa using h)]
    rfl
end

/-! ### new things -/
abbrev Sx := DEnv → Option Sl
structure EN (X : Cx) (e : Expr) (f : Sx) : Prop where
  ex : ∃ t, PE X e t ∧ ∀ G0 H0 Z Γ σ G H Q s, Rel X.K X.mg G0 H0 Z Γ σ G H → f Γ = some s → (∀ G' H' v F, Ext G H G' H' → Hd X.K X.mg G' H' v F s → (∀ a, F a → G' a = none ∧ H a = none ∧ H' a ≠ none) → Q v H') → t σ H Q
def nSh (f : Ex) : Sx := fun Γ => (f Γ).bind fun d => some (.sh d)
def nOw (f : Ag) : Sx := fun Γ => (f Γ).bind fun d => some (.ow d)
def nD (f : Sx) : Ex := fun Γ => (f Γ).bind toD
section
variable {X : Cx} {e a b o tg : Expr} {es : List Expr} {f k : Ex} {fs : Ag} {st : Stmt} {sts : List Stmt} {F F' : Sm} {p : Te} {pos pos' : Pos} {n : Nat} {ix : List Nat} {g : Gs} {sx : Sx}
theorem E.nw (h : E X e f) : EN X e (nSh f) := by
  obtain ⟨t, h1, h2⟩ := h.ex
  refine ⟨⟨t, h1, fun G0 H0 Z Γ σ G H Q s R hf k => ?_⟩⟩
  obtain ⟨d, e1, hf⟩ := obind hf
  cases hf
  exact h2 G0 H0 Z Γ σ G H Q d R e1 fun G' H' v x r => k G' H' v (fun _ => False) x (.sh r) fun _ z => z.elim
theorem EL.nw (h : EL X e fs) : EN X e (nOw fs) := by
  obtain ⟨t, h1, h2⟩ := h.ex
  refine ⟨⟨t, h1, fun G0 H0 Z Γ σ G H Q s R hf k => ?_⟩⟩
  obtain ⟨d, e1, hf⟩ := obind hf
  cases hf
  exact h2 G0 H0 Z Γ σ G H Q d R e1 fun G' H' q vs x hq gq h r => k G' H' _ (fun a => a = q) x (.ow rfl h r) fun a e => by subst e; exact ⟨gq, hq, by rw [h]; simp⟩
theorem EN.fz (h : EN X e sx) : E X e (nD sx) := by
  obtain ⟨t, h1, h2⟩ := h.ex
  refine ⟨⟨t, h1, fun G0 H0 Z Γ σ G H Q d R hf k => ?_⟩⟩
  obtain ⟨s, e1, hf⟩ := obind hf
  refine h2 G0 H0 Z Γ σ G H Q s R e1 fun G' H' v F x hd hF => ?_
  obtain ⟨G2, y, r⟩ := hd.frz hf x.gh fun a z => (hF a z).1
  refine k G2 H' v ⟨x.gg.trans y.gg, x.hh, y.gh, fun a q => ?_, x.hn, fun t => TC.ti.keep (x.tb t) y.gg (fun _ _ => rfl) (fun a h g => by
    cases q : G2 a with
    | none => rfl
    | some u =>
      rcases y.new a (by rw [q]; simp) with z | z
      · exact absurd g z
      · exact absurd (hF a z).2.1 (TC.ti.live t a h).1)⟩ r
  rcases y.new a q with z | z
  · exact x.new a z
  · exact .inr (hF a z).2.1
def sSetN (i : Nat) (f : Sx) : Sm := fun Γ => (f Γ).bind fun s => some (.nx (Γ.set i s))
theorem s_setN (i : Nat) {x : Str} (hN : X.N.Nodup) (he : EN X e sx) (h0 : i ≠ 0 := by decide) (hi : X.N[i]? = some x := by rfl) (hx : Loc X.env.scope x := by first | exact Or.inl rfl | exact Or.inr rfl) (hs : swapsWith e (some (.Name x pos')) pos.line X.env = pure false := by rfl)
    (hf : X.fn x = true ∨ X.env.scope.names.lookup x = some .local := by first | exact .inl rfl | exact .inr rfl | assumption) : S X (.Assign [.Name x pos'] e pos) (sSetN i sx) := by
  obtain ⟨t, h1, h2⟩ := he.ex
  refine ⟨⟨_, ps_set hN hi hx h1 hs hf, fun G0 H0 Z Γ σ G H D r R hf k => ?_⟩⟩
  obtain ⟨d, e1, hf⟩ := obind hf
  cases hf
  exact h2 G0 H0 Z Γ σ G H _ d R e1 fun G1 H1 v F x1 hd hF => k _ G1 H1 (R.setNew x1 i hd hF (.inl h0))

/-! P.f = e -/
def sFld (i : Nat) (rp : Pth) (c j : Nat) (f : Sx) : Sm := fun Γ => (f Γ).bind fun sn => match gP i rp Γ with
  | some (.ob c' fs) => if c' = c then (if j < fs.length then upP i rp (.ob c (fs.set j sn)) Γ else if j = fs.length then upP i rp (.ob c (fs ++ [sn])) Γ else none) else none
  | _ => none
theorem cF_short (c : Nat) : (cF c).length < 1000 := by
  have h : ∀ x ∈ cTab, x.2.length < 1000 := by decide +kernel
  unfold cF
  rw [List.getD_eq_getElem?_getD]
  cases q : cTab[c]? with
  | none => simp
  | some x => exact h x (List.mem_of_getElem? q)
theorem zip_short {c : Nat} {vs : List V} : ((cF c).zip vs).length < 1000 := by
  have := cF_short c
  rw [List.length_zip]
  omega
theorem s_fld {i : Nat} {rp : Pth} {c j : Nat} {C : Addr} {x : Str} (ck : CK X.K X.mg c C) (hp : PL X o i rp) (he : EN X e sx) (hj : (cF c)[j]? = some x := by rfl) (nd : (cF c).Nodup := by decide +kernel) (hs : swapsWith e (some (.Attribute o x pos')) pos.line X.env = pure false := by rfl) :
    S X (.Assign [.Attribute o x pos'] e pos) (sFld i rp c j sx) := by
  obtain ⟨t, t1, t2⟩ := he.ex
  obtain ⟨u, u1, u2⟩ := hp.ex
  refine ⟨⟨_, ps_fld u1 t1 hs, fun G0 H0 Z Γ σ G H D r R hf k => ?_⟩⟩
  obtain ⟨sn, e1, hf⟩ := obind hf
  cases q : gP i rp Γ with
  | none => rw [q] at hf; cases hf
  | some par =>
    rw [q] at hf
    cases par with
    | ob c' fs =>
      replace hf : (if c' = c then (if j < fs.length then upP i rp (.ob c (fs.set j sn)) Γ else if j = fs.length then upP i rp (.ob c (fs ++ [sn])) Γ else none) else none) = some r := hf
      split at hf
      · rename_i hc
        subst hc
        obtain ⟨s, b1, b2, b3⟩ := gP_some q (by simp [SlP])
        refine t2 G0 H0 Z Γ σ G H _ sn R e1 fun G1 H1 v F x1 hd hF => ?_
        refine u2 G0 H0 Z Γ σ G H G1 H1 _ s _ R x1 b1 b2 b3 (by simp) fun v0 pk => ?_
        obtain ⟨F1, P⟩ := pk G1 H1 x1
        have hdP := P.hd
        cases hdP with
        | ob f hm ho n sF rr =>
          rename_i p C' dx vs F'
          rw [ck.hm] at hm
          cases hm
          refine ⟨p, C, dx, _, rfl, ho, ck.cl, ck.na x (List.mem_of_getElem? hj), zip_short, ?_⟩
          have gp := (P.fr p f).1
          have hlen := rr.length
          have dj : ∀ a, F a → ¬ F1 a := fun a y z => (P.fr a z).2.2.2.2 (hF a y).2.1
          have njF : ¬ F p := fun y => dj p y f
          -- the object as it is then
          have fin : ∀ (vs' : List V) (fs' : List Sl) (s2 : Sl), putF x v ((cF c').zip vs) = (cF c').zip vs' → (∀ {Hx : Hp}, HdL X.K X.mg G1 Hx vs F' fs → Hd X.K X.mg G1 Hx v F sn → HdL X.K X.mg G1 Hx vs' (fun a => F' a ∨ F a) fs') → setR rp (.ob c' fs') s = some s2 →
              Rel X.K X.mg G0 H0 Z (Γ.set i s2) σ G1 (upd H1 p (.ins C dx (putF x v ((cF c').zip vs)))) := fun vs' fs' s2 ez mk es => by
            rw [ez]
            have keep : ∀ (Y : Addr → Prop), ¬ Y p → ∀ a o, Y a → H1 a = some o → upd H1 p (.ins C dx ((cF c').zip vs')) a = some o := fun Y hy a o ya q => by
              rw [upd_ne]
              · exact q
              · intro e; subst e; exact hy ya
            refine P.up G1 _ (fun a => F1 a ∨ F a) (.ob c' fs') s2 (Same.refl _) (fun a o q => ?_) (fun a q => .inl q) (fun a o nf q => ?_) ?_ (fun a y => ?_) (fun _ => rfl) es
            · rw [upd_ne (ne_of_none q gp)]; exact x1.gh _ _ q
            · rw [upd_ne]
              · exact q
              · intro e; subst e; exact nf f
            · refine .ob (.inl f) ck.hm upd_same (F' := fun a => F' a ∨ F a) (fun y => y.elim n njF) (fun a y => y.elim (fun y => .inl (sF a y)) .inr) ?_
              exact mk (rr.mono (Same.refl _) (fun a o y q _ => keep F' n a o y q)) (hd.mono (Same.refl _) (fun a o y q _ => keep F njF a o y q))
            · have up : H1 a ≠ none → upd H1 p (.ins C dx ((cF c').zip vs')) a ≠ none := fun q => by
                by_cases e : a = p
                · subst e; rw [upd_same]; simp
                · rw [upd_ne e]; exact q
              rcases y with y | y
              · exact ⟨(P.fr a y).1, up (P.fr a y).2.2.1, .inl y⟩
              · exact ⟨(hF a y).1, up (hF a y).2.2, .inr (hF a y).2.1⟩
          have djL : ∀ a, F a → ¬ F' a := fun a y z => dj a y (sF a z)
          split at hf
          · rename_i hjl
            obtain ⟨s', s2, a1, a2, rfl⟩ := upP_some hf
            rw [b1] at a1
            cases a1
            exact k σ G1 _ (fin (vs.set j v) _ s2 (putF_set nd hj (by rw [hlen]; exact hjl)) (fun r h => r.setv j h djL) a2)
          · split at hf
            · rename_i hjl
              obtain ⟨s', s2, a1, a2, rfl⟩ := upP_some hf
              rw [b1] at a1
              cases a1
              exact k σ G1 _ (fin (vs ++ [v]) _ s2 (putF_snoc nd (by rw [hlen, ← hjl]; exact hj)) (fun r h => r.snoc h djL) a2)
            · cases hf
      · cases hf
    | _ => cases hf

/-! ### defs that change their first argument -/
def spM (K : PySem.W.Frag) (mg : Str → Option Value) (n : Nat) (F : Sl → List D → Option (D × Sl)) : Sp := fun vs H Q _ =>
  ∃ v0 args G s ds d s' Fp, vs = v0 :: args ∧ args.length = n ∧ Same G H ∧ TC.ti.t G H ∧ Hd K mg G H v0 Fp s ∧ (∀ a, Fp a → G a = none ∧ H a ≠ none ∧ ¬ TC.ti.tz a) ∧ RepL K mg G args ds ∧ F s ds = some (d, s') ∧
    ∀ G' H' v Fp', Same G G' → Same G' H' → TC.ti.t G' H' → (∀ a, ¬ Fp a → H a ≠ none → H' a ≠ none) → (∀ a, G' a ≠ none → G a ≠ none ∨ H a = none ∨ Fp a) → (∀ a o, ¬ Fp a → H a = some o → NT o → H' a = some o) → Rep K mg G' v d → Hd K mg G' H' v0 Fp' s' → (∀ a, Fp' a → G' a = none ∧ H' a ≠ none ∧ (Fp a ∨ H a = none)) → Q v H'
def runM (n : Nat) (B : Sm) : Sl → List D → Option (D × Sl) := fun s ds => (B (s :: ds.map Sl.sh ++ List.replicate (n - (ds.length + 1)) .no)).bind fun r => match r with
  | .rm d s' => if isOwn s' then some (d, s') else none
  | .nx Γ => (Γ[0]?).bind fun s' => if isOwn s' then some (.non, s') else none
  | _ => none
def sRetM (f : Ex) : Sm := fun Γ => (f Γ).bind fun d => (Γ[0]?).bind fun s => if isOwn s then some (.rm d s) else none
theorem s_retM (he : E X e f) : S X (.Return (some e) pos) (sRetM f) := by
  obtain ⟨t, h1, h2⟩ := he.ex
  refine ⟨⟨_, ps_ret h1, fun G0 H0 Z Γ σ G H D r R hf k => ?_⟩⟩
  obtain ⟨d, e1, hf⟩ := obind hf
  obtain ⟨s, e2, hf⟩ := obind hf
  split at hf
  · cases hf
    exact h2 G0 H0 Z Γ σ G H _ d R e1 fun G1 H1 v x1 r1 => k Γ σ G1 H1 v (R.ext x1) e2 r1
  · cases hf
def sRetMN : Sm := fun Γ => (Γ[0]?).bind fun s => if isOwn s then some (.rm .non s) else none
theorem s_retMN : S X (.Return none pos) sRetMN := ⟨⟨_, ps_retN, fun G0 H0 Z Γ σ G H D r R hf k => by
  obtain ⟨s, e2, hf⟩ := obind hf
  split at hf
  · cases hf
    exact k Γ σ G H _ R e2 .non
  · cases hf⟩⟩
end
section
variable {P : Program} {w : World} {K : PySem.W.Frag} {mg : Str → Option Value} {base : Heap}
/-- the slots at the entry -/
theorem startM_rel {G H : Hp} {N : List Str} {v0 : V} {vs : List V} {s : Sl} {ds : List D} {Fp : Addr → Prop} (gh : Same G H) (tb : TC.ti.t G H) (hd : Hd K mg G H v0 Fp s) (fr : ∀ a, Fp a → G a = none ∧ H a ≠ none ∧ ¬ TC.ti.tz a) (r : RepL K mg G vs ds) (dec : ∀ a, Decidable (Fp a)) :
    Rel K mg G (fun a => if Fp a then none else H a) ⟨TC.ti.tz, some v0, TC.ti⟩ (s :: ds.map Sl.sh ++ List.replicate (N.length - (ds.length + 1)) .no) (L2.start N (v0 :: vs)) G H := by
  have hl := r.length
  unfold L2.start
  refine ⟨by simp [hl], gh, fun a o q _ => ?_, Same.refl _, fun a h => .inl h, fun a z => (TC.ti.live tb a z).1, fun v s' e1 _ _ => by cases e1; simp, tb, fun _ h => h, rfl, fun a h => by
    by_cases x : Fp a
    · simp [x] at h
    · simpa [x] using h, fun i a => i = 0 ∧ Fp a, fun i a z => ⟨(fr a z.2).1, by simp [z.2], (fr a z.2).2.1, (fr a z.2).2.2⟩, fun i j a z1 z2 => z1.1.trans z2.1.symm, fun i s' h => ?_⟩
  · split at q
    · cases q
    · exact q
  · cases i with
    | zero =>
      simp at h
      subst h
      exact .inr (.inl ⟨v0, by simp, hd.wide fun a x => ⟨rfl, x⟩⟩)
    | succ i =>
      have e : N.length - (ds.length + 1) = (N.length - 1) - ds.length := by omega
      rw [List.cons_append, List.getElem?_cons_succ, e] at h
      rcases start_get h with z | ⟨d, e1, rfl⟩
      · exact .inl z
      · obtain ⟨v, e2, e3⟩ := r.get i e1
        refine .inr (.inl ⟨v, ?_, .sh e3⟩)
        have hi : i < vs.length := (List.getElem?_eq_some_iff.mp e2).1
        rw [List.map_cons, List.cons_append, List.getElem?_cons_succ, List.getElem?_append_left (by simpa using hi), List.getElem?_map, e2]
        rfl
open Classical in
theorem def_okM {x qual : Str} {st : Stmt} {f : Addr} {fd : FuncData} {N ps : List Str} {k : Nat} {B : Sm} (F : Fun K x qual st f fd) (S : FnScope N ps (defScope st)) {n : Nat} (hps : ps.length = n + 1)
    (hbody : ∀ (cdv : Value) (A : Around) (outer : List PySem.Env) (s : Shared) (H : Hp) (E : XK), Room k (A.deeper (PyProof.Rows.envOfC qual (defScope st) s.heap.objs.size f cdv)) →
      Ss (cxOf CX0 P w K mg base N qual (defScope st) f cdv A outer s H E).nox (defBody st) B) : FnOk P w K mg base CX0 (k + 1) f fd ps (spM K mg n (runM N.length B)) := by
  refine F.ok S (fun vs H Q E h => ?_) (fun cdv A outer s H vs Q E hr h => ?_)
  · obtain ⟨v0, args, G, s, ds, d, s', Fp, rfl, hl, _⟩ := h
    simp [hl, hps]
  · obtain ⟨v0, args, G, sl, ds, d, s', Fp, rfl, hl, gh, tb, hd, fr, r, hf, kk⟩ := h
    obtain ⟨t, h1, h2⟩ := (hbody cdv A outer s H E hr).ex
    refine ⟨t, h1, ?_⟩
    obtain ⟨r1, e1, hf⟩ := obind hf
    have R := startM_rel (N := N) gh tb hd fr r fun a => inferInstance
    have fin : ∀ (Γ : DEnv) (σ : L2.St) (G' H' : Hp) (v : V), Rel K mg G (fun a => if Fp a then none else H a) ⟨TC.ti.tz, some v0, TC.ti⟩ Γ σ G' H' → Γ[0]? = some s' → isOwn s' = true → Rep K mg G' v d → Q v H' := fun Γ σ G' H' v R' e0 ns rv => by
      have es := R'.an v0 s' rfl e0 ns
      obtain ⟨own, o1, o2, o3⟩ := R'.own
      rcases o3 0 s' e0 with z | ⟨v', z1, z2⟩ | ⟨_, _, z, _⟩
      · rw [z] at ns; cases ns
      rotate_left
      · rw [z] at ns; cases ns
      · rw [es] at z1
        cases z1
        refine kk G' H' v (own 0) R'.gg R'.gh R'.tbc (fun a nf h => R'.hn a (by simpa [nf] using h)) (fun a q => ?_) (fun a o nf q n => R'.hh a o (by simp [nf, q]) n) rv z2 fun a y => ?_
        · rcases R'.new a q with z | z
          · exact .inl z
          · by_cases fa : Fp a
            · exact .inr (.inr fa)
            · simp [fa] at z
              exact .inr (.inl z)
        · obtain ⟨w1, w2, w3, w4⟩ := o1 0 a y
          refine ⟨w1, w3, ?_⟩
          by_cases fa : Fp a
          · exact .inl fa
          · simp [fa] at w2
            exact .inr w2
    refine h2 G _ _ _ _ G H _ r1 R e1 ?_
    cases r1 with
    | rm d' s2 =>
      replace hf : (if isOwn s2 then some (d', s2) else none) = some (d, s') := hf
      split at hf
      · rename_i ns
        cases hf
        exact fun Γ σ G' H' v R' e0 rv => fin Γ σ G' H' v R' e0 ns rv
      · cases hf
    | nx Γ =>
      obtain ⟨s2, e2, hf⟩ := obind hf
      split at hf
      · rename_i ns
        cases hf
        exact fun σ' G' H' R' => fin Γ σ' G' H' _ R' e2 ns .non
      · cases hf
    | rt d => cases hf
    | ro s => cases hf
    | bk Γ => cases hf
    | ct Γ => cases hf
end

/-! ### objects that are made -/
structure Mak (P : Program) (w : World) (K : PySem.W.Frag) (mg : Str → Option Value) (base : Heap) (c L : Nat) (ps : List Str) (S : Sl → List D → Option (D × Sl)) : Prop where
  ex : ∃ C f fd p0 ps', ps = p0 :: ps' ∧ mg (cN c) = some (.ref C) ∧ Mk K C f ∧ FnOk P w K mg base CX0 L f fd ps (spM K mg ps'.length S) ∧ Binds K fd ps []
def gMk (c : Nat) (S : Sl → List D → Option (D × Sl)) (fs : Ag) : Sx := fun Γ => (fs Γ).bind fun ds => (S (.ob c []) ds).bind fun r => match r.1 with
  | .non => some r.2
  | _ => none
section
variable {X : Cx} {a : Expr} {es : List Expr} {fs : Ag} {pos p : Pos}
theorem make_ok {c : Nat} {C : Addr} {n : Nat} {S : Sl → List D → Option (D × Sl)} {t : TA} (hm : X.mg (cN c) = some (.ref C)) (hn : ∀ Γ ds, fs Γ = some ds → ds.length = n)
    (h2 : ∀ (G0 H0 : Hp) (Z : Zs) (Γ : DEnv) (σ : L2.St) (G H : Hp) (Q : List V → Hp → Prop) (ds : List D), Rel X.K X.mg G0 H0 Z Γ σ G H → fs Γ = some ds → (∀ G' H' vs, Ext G H G' H' → RepL X.K X.mg G' vs ds → Q vs H') → t σ H Q) :
    ∀ (G0 H0 : Hp) (Z : Zs) (Γ : DEnv) (σ : L2.St) (G H : Hp) (Q : VK) (s : Sl), Rel X.K X.mg G0 H0 Z Γ σ G H → gMk c S fs Γ = some s → (∀ G' H' v F, Ext G H G' H' → Hd X.K X.mg G' H' v F s → (∀ a, F a → G' a = none ∧ H a = none ∧ H' a ≠ none) → Q v H') → tMake C (spM X.K X.mg n S) [] E0 t σ H Q := by
  intro G0 H0 Z Γ σ G H Q s R hf k
  obtain ⟨ds, e1, hf⟩ := obind hf
  obtain ⟨⟨d, s'⟩, e2, hf⟩ := obind hf
  have hd : d = .non ∧ s' = s := by
    cases d with
    | non => cases hf; exact ⟨rfl, rfl⟩
    | _ => cases hf
  obtain ⟨rfl, rfl⟩ := hd
  refine h2 G0 H0 Z Γ σ G H _ ds R e1 fun G1 H1 vs x1 r1 => ?_
  intro x dx nx ndx ne
  have gx : G1 x = none := x1.gh.free nx
  have Hx : H x = none := x1.hf nx
  have T1 := (R.ext x1).tbc
  have keep : ∀ b o, H1 b = some o → upd (upd H1 dx (.own x)) x (.ins C dx []) b = some o := fun b o q => by
    rw [upd_ne (ne_of_none q nx), upd_ne (ne_of_none q ndx)]; exact q
  refine ⟨.ref x, vs, G1, .ob c [], ds, .non, s', fun b => b = x, by rw [List.append_nil], ?_, fun b o q => keep b o (x1.gh _ _ q), TC.ti.keep T1 (Same.refl _) (fun a h => same_at (fun b o q => keep b o q) (TC.ti.live T1 a h).1) (fun _ _ g => g), ?_, fun b e => by subst e; exact ⟨gx, by rw [upd_same]; simp, fun z => (TC.ti.live T1 _ z).1 nx⟩, r1, e2, ?_⟩
  · rw [r1.length, hn Γ ds e1]
  · exact .ob (F' := fun _ => False) (dx := dx) (vs := []) rfl hm (by rw [upd_same, List.zip_nil_right]) (fun z => z) (fun _ z => z.elim) .nil
  · intro G' H' v Fp' gg gh tb' hn' nw kp rv hv fr
    cases rv
    have keep' : ∀ b o, H b = some o → NT o → upd (upd H1 dx (.own x)) x (.ins C dx []) b = some o := fun b o q n => keep b o (x1.hh b o q n)
    have kn : ∀ b, H1 b ≠ none → upd (upd H1 dx (.own x)) x (.ins C dx []) b ≠ none := fun b h => nn (fun b o q => keep b o q) h
    refine ⟨rfl, k G' H' (.ref x) Fp' ⟨x1.gg.trans gg, fun b o q n => ?_, gh, fun b q => ?_, fun b h => hn' b (fun e => by subst e; exact h Hx) (kn b (x1.hn b h)), fun _ => tb'⟩ hv fun b y => ?_⟩
    · exact kp b o (fun e => by subst e; rw [Hx] at q; cases q) (keep' b o q n) n
    · rcases nw b q with z | z | z
      · exact x1.new b z
      · refine .inr ?_
        cases e : H b with
        | none => rfl
        | some o => exact absurd z (kn b (x1.hn b (by rw [e]; simp)))
      · subst z; exact .inr Hx
    · obtain ⟨w1, w2, w3⟩ := fr b y
      refine ⟨w1, ?_, w2⟩
      rcases w3 with z | z
      · subst z; exact Hx
      · cases e : H b with
        | none => rfl
        | some o => exact absurd z (kn b (x1.hn b (by rw [e]; simp)))
theorem e_mkC {c k L : Nat} {p0 : Str} {ps : List Str} {S : Sl → List D → Option (D × Sl)} (m : Mak X.prog X.w X.K X.mg X.base c L (p0 :: ps) S) (hr : Room k X.A) (hk : L + 1 ≤ k)
    (ha : AN X (a :: es) ps.length fs) (hg : Gl X (cN c) := by rfl) (hdb : (cN c == ("__debug__" : Str)) = false := by decide) (he : starEach (a :: es) X.env = (false, eval a X.env) :: starEach es X.env := by rfl) (hpl : (backTo pos (starEach es X.env)).any (·.1) = false := by rfl) :
    EN X (.Call (.Name (cN c) p) (a :: es) [] pos) (gMk c S fs) := by
  obtain ⟨C, f, fd, q0, ps', ep, h1, h2, h3, h4⟩ := m.ex
  cases ep
  obtain ⟨t, t1, t2⟩ := ha.a.ex
  exact ⟨⟨_, pe_make h2 h3 (hr.mono hk) hg h1 h4 .nil pass0 t1 hdb he hpl, make_ok h1 ha.n t2⟩⟩
theorem e_mkC0 {c k L : Nat} {p0 : Str} {S : Sl → List D → Option (D × Sl)} (m : Mak X.prog X.w X.K X.mg X.base c L [p0] S) (hr : Room k X.A) (hk : L + 1 ≤ k)
    (hg : Gl X (cN c) := by rfl) (hdb : (cN c == ("__debug__" : Str)) = false := by decide) : EN X (.Call (.Name (cN c) p) [] [] pos) (gMk c S aN) := by
  obtain ⟨C, f, fd, q0, ps', ep, h1, h2, h3, h4⟩ := m.ex
  cases ep
  exact ⟨⟨_, pe_make0 h2 h3 (hr.mono hk) hg h1 h4 .nil pass0 hdb, make_ok (fs := aN) (n := 0) h1 (fun _ _ h => by cases h; rfl) fun G0 H0 Z Γ σ G H Q ds R e kk => by cases e; exact kk G H [] (.refl R.gh) .nil⟩⟩
end

/-! ### defs that give a thing of the caller's own -/
def sRetO (i : Nat) (rp : Pth) : Sm := fun Γ => match gP i rp Γ with
  | some s => if isOwn s then some (.ro s) else none
  | none => none
section
variable {X : Cx} {a e : Expr} {es : List Expr} {fs : Ag} {pos p : Pos} {sx : Sx}
theorem isOwn_no : isOwn .no = false := rfl
theorem s_retO {i : Nat} {rp : Pth} (hp : PL X e i rp) : S X (.Return (some e) pos) (sRetO i rp) := by
  obtain ⟨t, h1, h2⟩ := hp.ex
  refine ⟨⟨_, ps_ret h1, fun G0 H0 Z Γ σ G H D r R hf k => ?_⟩⟩
  unfold sRetO at hf
  cases q : gP i rp Γ with
  | none => rw [q] at hf; cases hf
  | some s1 =>
    rw [q] at hf
    replace hf : (if isOwn s1 then some (Res.ro s1) else none) = some r := hf
    split at hf
    · rename_i ho
      cases hf
      have hn : SlP s1 := ⟨(fun z => by subst z; rw [isOwn_no] at ho; cases ho), (fun d z => by subst z; cases ho)⟩
      obtain ⟨s, b1, b2, b3⟩ := gP_some q hn
      refine h2 G0 H0 Z Γ σ G H G H _ s s1 R (Ext.refl R.gh) b1 b2 b3 hn.1 fun v pk => ?_
      obtain ⟨F1, P⟩ := pk G H (Ext.refl R.gh)
      exact k G H v F1 R.end P.hd fun a y => ⟨(P.fr a y).1, (P.fr a y).2.1, (P.fr a y).2.2.1⟩
    · cases hf
def sRetEN (sx : Sx) : Sm := fun Γ => (sx Γ).bind fun s => some (.ro s)
theorem s_retEN (he : EN X e sx) : S X (.Return (some e) pos) (sRetEN sx) := by
  obtain ⟨t, h1, h2⟩ := he.ex
  refine ⟨⟨_, ps_ret h1, fun G0 H0 Z Γ σ G H D r R hf k => ?_⟩⟩
  obtain ⟨s, e1, hf⟩ := obind hf
  cases hf
  exact h2 G0 H0 Z Γ σ G H _ s R e1 fun G1 H1 v F x1 hd hF => k G1 H1 v F (R.ext x1).end hd fun a y => ⟨(hF a y).1, R.hf (hF a y).2.1, (hF a y).2.2⟩
/-- the promise: something new -/
def spN (K : PySem.W.Frag) (mg : Str → Option Value) (n : Nat) (F : List D → Option Sl) : Sp := fun vs H Q _ =>
  ∃ G ds s, vs.length = n ∧ Same G H ∧ TC.ti.t G H ∧ RepL K mg G vs ds ∧ F ds = some s ∧ ∀ G' H' v F', Ext G H G' H' → Hd K mg G' H' v F' s → (∀ a, F' a → G' a = none ∧ H a = none ∧ H' a ≠ none) → Q v H'
def runN (n : Nat) (B : Sm) : List D → Option Sl := fun ds => (B (ds.map Sl.sh ++ List.replicate (n - ds.length) .no)).bind fun r => match r with
  | .rt d => some (.sh d)
  | .ro s => some s
  | .nx _ => some (.sh .non)
  | _ => none
structure CalN (P : Program) (w : World) (K : PySem.W.Frag) (mg : Str → Option Value) (base : Heap) (x : Str) (L : Nat) (ps : List Str) (S : List D → Option Sl) : Prop where
  ex : ∃ f fd, FnOk P w K mg base CX0 L f fd ps (spN K mg ps.length S) ∧ mg x = some (.ref f) ∧ PySem.W.keepIn K (.ref f) = true ∧ Binds K fd ps []
def gCallN (S : List D → Option Sl) (fs : Ag) : Sx := fun Γ => (fs Γ).bind S
theorem e_callN {k L : Nat} {ps : List Str} {S : List D → Option Sl} {x : Str} {p : Pos} (c : CalN X.prog X.w X.K X.mg X.base x L ps S) (hr : Room k X.A) (hk : L ≤ k)
    (ha : AN X (a :: es) ps.length fs) (hg : Gl X x := by rfl) (hdb : (x == ("__debug__" : Str)) = false := by decide) (he : starEach (a :: es) X.env = (false, eval a X.env) :: starEach es X.env := by rfl) (hpl : (backTo pos (starEach es X.env)).any (·.1) = false := by rfl) :
    EN X (.Call (.Name x p) (a :: es) [] pos) (gCallN S fs) := by
  obtain ⟨f, fd, f1, f2, f3, f4⟩ := c.ex
  obtain ⟨t, h1, h2⟩ := ha.a.ex
  refine ⟨⟨_, pe_call f1 (hr.mono hk) hg f2 f3 f4 .nil pass0 h1 hdb he hpl, fun G0 H0 Z Γ σ G H Q s R hf k => ?_⟩⟩
  obtain ⟨ds, e1, hf⟩ := obind hf
  refine h2 G0 H0 Z Γ σ G H _ _ R e1 fun G1 H1 vs x1 r1 => ?_
  refine ⟨G1, ds, s, ?_, x1.gh, (R.ext x1).tbc, ?_, hf, fun G' H' v F x2 r2 f2 => k G' H' v F (x1.trans x2) r2 fun b y => ?_⟩
  · rw [List.append_nil, r1.length, ha.n Γ ds e1]
  · rw [List.append_nil]; exact r1
  · obtain ⟨w1, w2, w3⟩ := f2 b y
    exact ⟨w1, x1.hf w2, w3⟩
end
section
variable {P : Program} {w : World} {K : PySem.W.Frag} {mg : Str → Option Value} {base : Heap}
theorem def_okN {x qual : Str} {st : Stmt} {f : Addr} {fd : FuncData} {N ps : List Str} {k : Nat} {B : Sm} (F : Fun K x qual st f fd) (S : FnScope N ps (defScope st))
    (hbody : ∀ (cdv : Value) (A : Around) (outer : List PySem.Env) (s : Shared) (H : Hp) (E : XK), Room k (A.deeper (PyProof.Rows.envOfC qual (defScope st) s.heap.objs.size f cdv)) →
      Ss (cxOf CX0 P w K mg base N qual (defScope st) f cdv A outer s H E).nox (defBody st) B) : FnOk P w K mg base CX0 (k + 1) f fd ps (spN K mg ps.length (runN N.length B)) := by
  refine F.ok S (fun vs H Q E h => ?_) (fun cdv A outer s H vs Q E hr h => ?_)
  · obtain ⟨G, ds, d, hl, _⟩ := h
    exact hl
  · obtain ⟨G, ds, sl, hl, gh, tb, r, hf, k'⟩ := h
    obtain ⟨t, h1, h2⟩ := (hbody cdv A outer s H E hr).ex
    refine ⟨t, h1, ?_⟩
    obtain ⟨r1, e1, hf⟩ := obind hf
    refine h2 G H _ _ _ G H _ r1 (start_rel gh tb r) e1 ?_
    cases r1 with
    | rt d' => cases hf; exact fun G' H' v x r => k' G' H' v (fun _ => False) x (.sh r) fun _ z => z.elim
    | ro s' => cases hf; exact fun G' H' v F' x h f => k' G' H' v F' x h f
    | nx Γ => cases hf; exact fun σ' G' H' R => k' G' H' _ (fun _ => False) R.end (.sh .non) fun _ z => z.elim
    | rm d s => cases hf
    | bk Γ => cases hf
    | ct Γ => cases hf
end
end DL

namespace DL
open PySem PySem.Spec PyProof.Rows L2
variable [TC : TabCtx]

/-! ### del xs[a:] of a list -/
theorem keep_take {α : Type} (p : Nat → Bool) (a : Nat) : ∀ (xs : List α) (m : Nat), (∀ k, m ≤ k → k < m + xs.length → p k = decide (a ≤ k)) → (xs.zipIdx m).filterMap (fun t : α × Nat => if p t.2 = true then none else some t.1) = xs.take (a - m)
  | [], m, _ => by simp
  | x :: xs, m, h => by
    rw [List.zipIdx_cons, List.filterMap_cons]
    have h0 := h m (Nat.le_refl _) (by simp)
    have ih := keep_take p a xs (m + 1) fun k h1 h2 => h k (by omega) (by simp at h2 ⊢; omega)
    by_cases e : a ≤ m
    · have e1 : p m = true := by rw [h0]; exact decide_eq_true e
      rw [e1]
      have z : a - m = 0 := by omega
      have z1 : a - (m + 1) = 0 := by omega
      rw [z1] at ih
      simp [z, ih]
    · have e1 : p m = false := by rw [h0]; exact decide_eq_false e
      rw [e1]
      have z : a - m = (a - (m + 1)) + 1 := by omega
      rw [z, List.take_succ_cons]
      simp [ih]
section
variable {prog : Program} {w : World} {A : Around} {E : Value → Shared → Prop} {s : Shared}
theorem bounds_from {a n : Nat} (h : a ≤ n) : sliceBounds (some (a : Int)) none none n = ((a : Int), (n : Int), 1) := by
  simp only [sliceBounds, Option.getD_none]
  have h1 : ¬ ((a : Int) < 0) := by omega
  simp only [h1, if_false, show (1 : Int) > 0 by decide, if_true]
  congr 1
  omega
theorem delItem_from {l sl : Addr} {items : Array Value} {n : Nat} {vl : Value} {a : Nat} {Q : Unit → Shared → Prop}
    (e : s.heap.get? l = some { cls := .type "list", data := .seq items n }) (hs : s.heap.IsSliceOf sl vl .none .none) (pl : IsPart vl (some (a : Int))) (ha : a ≤ items.size)
    (hsz : items.size ≤ sizeLine) (h : ∀ f : Array Value → Array Value, f items = items.extract 0 a → Q () { s with heap := s.heap.update l (Obj.mapSeq f) }) :
    wpAny (model prog w) A (delItem (.ref l) (.ref sl)) Q E s := by
  have hl : s.heap.IsList l items := PySem.IsL.isList e
  obtain ⟨os, hos, hcs, hds⟩ := id hs
  have hTs : s.TypeIs (.ref sl) "slice" := ⟨os, hos, hcs⟩
  have hstep : ¬ ((rawPart none == rawInt 0) = true) := Bool.false_ne_true
  refine wpAny_delItem_slot hl.typeIs (by decide) PySem.F.slot_list_delitem (wpAny_call_entry PySem.F.slot_list_delitem hl.typeIs PySem.F.entry_list_delitem ?_ (PySem.F.args_list_delitem_2 _ _))
  show wpAny _ _ (Builtin.List.listSubscript? (.ref sl) >>= _) _ _ s
  refine wpAny_bind ?_
  unfold Builtin.List.listSubscript?
  refine wpAny_bind (wpAny_specialOf hTs slice_no_index ?_)
  simp only [Option.isNone_none, if_true]
  refine wpAny_pure ?_
  show wpAny _ _ (typeOf (.ref sl) >>= _) _ _ s
  refine wpAny_bind (wpAny_typeOf hTs ?_)
  first
    | rw [if_neg (by decide)]
    | refine PySem.W.KFB.if_not (by decide) ?_
  rw [listSliceParts_eq]
  refine wpAny_bind (wpAny_bind (wpAny_field hos hds (x := .none) rfl (wpAny_bind (wpAny_listPart .none ?_))))
  rw [if_neg hstep]
  refine wpAny_bind (wpAny_field hos hds (x := vl) rfl (wpAny_bind (wpAny_listPart pl ?_)))
  refine wpAny_bind (wpAny_field hos hds (x := .none) rfl (wpAny_bind (wpAny_listPart .none (wpAny_pure ?_))))
  refine wpAny_bind ?_
  unfold Builtin.List.listItems
  refine wpAny_bind (wpAny_seqItems e rfl (wpAny_pure ?_))
  refine wpAny_bind (wpAny_of_eq ((sliceIndices_raw (some (a : Int)) none none items.size (by simp)).trans (congrArg (pure : Int × Int × Int → Sem (Int × Int × Int)) (bounds_from ha))) ?_)
  refine wpAny_bind (wpAny_rule ?_)
  have hf : (items.toList.zipIdx.filterMap fun (x, k) => if (if (1 : Int) > 0 then (decide ((a : Int) ≤ (k : Int)) && decide ((k : Int) < (items.size : Int)) && (((k : Int) - (a : Int)) % 1 == 0)) else (decide ((items.size : Int) < (k : Int)) && decide ((k : Int) ≤ (a : Int)) && (((a : Int) - (k : Int)) % (-1) == 0))) = true then none else some x).toArray = items.extract 0 a := by
    have := keep_take (α := Value) (fun k => if (1 : Int) > 0 then (decide ((a : Int) ≤ (k : Int)) && decide ((k : Int) < (items.size : Int)) && (((k : Int) - (a : Int)) % 1 == 0)) else (decide ((items.size : Int) < (k : Int)) && decide ((k : Int) ≤ (a : Int)) && (((a : Int) - (k : Int)) % (-1) == 0))) a items.toList 0 fun k h1 h2 => by
      have h3 : (k : Int) < items.size := by simp at h2; omega
      simp [h3, Int.emod_one]
    rw [Nat.sub_zero] at this
    refine (congrArg List.toArray this).trans ?_
    apply Array.toList_inj.mp
    simp
  refine wpAny_bind (wpAny_updateSeq (hz := hsz) (_hz' := ?_) e rfl ?_)
  rotate_left
  · show (List.toArray _).size ≤ _
    have h2 := congrArg Array.size hf
    rw [Array.size_extract] at h2
    refine Nat.le_trans (Nat.le_of_eq h2) ?_
    omega
  refine wpAny_bind (wpAny_letGo ?_)
  first
    | exact wpAny_pure ⟨.none, rfl, h _ hf⟩
    | exact wpAny_pure (h _ hf)
    | exact ⟨.none, rfl, h _ hf⟩
end
section
variable {X : Cx}
theorem del_from {pins : List (Addr × Obj)} {s : Shared} {σ : L2.St} {H : Hp} {l sl : Addr} {xs : List V} {a : Nat} {vl : Value} {Q : Unit → Shared → Prop} (I : Inv X pins σ H s) (hH : H l = some (.lst xs))
    (hs : s.heap.IsSliceOf sl vl .none .none) (pl : RelV (.int a) vl) (ha : a ≤ xs.length) (h : ∀ s', Inv X pins σ (upd H l (.lst (xs.take a))) s' → Q () s') :
    wpAny (model X.prog X.w) X.A (delItem (.ref l) (.ref sl)) Q X.xe s := by
  obtain ⟨ta, rfl⟩ := pl
  obtain ⟨z, its, n, r, hl, e⟩ := I.lstM hH
  refine delItem_from (a := a) e hs (.int _ _) (by rw [List.size_toArray]; omega) (by rw [List.size_toArray]; omega) fun f hf => h _ ?_
  refine I.lset (its' := its.take a) (t' := s.toks) hH e ?_ (r.take a) ?_
  · rw [hf]
    apply Array.toList_inj.mp
    simp
  · rw [List.length_take]; omega
def tDelF (to ti : TE) : TS := fun D σ H => to σ H fun x H1 => ti σ H1 fun y H2 => ∃ (l : Addr) (xs : List V) (k : Nat), x = .ref l ∧ y = .int k ∧ H2 l = some (.lst xs) ∧ k ≤ xs.length ∧ D.nx σ (upd H2 l (.lst (xs.take k)))
theorem ps_delF {o i : Expr} {to ti : TE} {tpos sp pos : Pos} (ho : PE X o to) (hi : PE X i ti) : PS X (.Delete [.Subscript o (.Slice (some i) none none sp) tpos] pos) (tDelF to ti) := by
  refine ⟨fun pins s σ H D I h => ?_⟩
  refine wpAny_Delete (wpAny_deleteEach_cons (wpAny_delete_Subscript (thn (ho.run pins s σ H _ I h) fun u s1 ⟨x, H1, I1, rx, q1⟩ => ?_)))
  refine wpAny_Slice (thn (hi.run pins s1 σ H1 _ I1 q1) fun vl s2 ⟨l, H2, I2, pl, q2⟩ => ?_)
  rw [evalPart_none]
  refine wpAny_pure (wpAny_pure ?_)
  have I4 : Inv X pins σ H2 { s2 with heap := s2.heap.push { cls := .type "slice", data := .fields #[vl, .none, .none] } } := I2.kept (t' := s2.toks) fun b ob q => Heap.get?_push_of_some _ q
  obtain ⟨l', xs, k, rfl, rfl, hH, hk, q3⟩ := q2
  cases rx
  exact del_from I4 hH (Heap.IsSliceOf.new ..) pl hk fun s3 I3 => wpAny_deleteEach_nil ⟨σ, _, I3, q3⟩
end
end DL

namespace DL
open PySem L2
variable [TC : TabCtx]

/-! ### arguments that are only looked at -/
inductive RepM (K : PySem.W.Frag) (mg : Str → Option Value) (G H : Hp) : List Bool → List V → List D → Prop
  | nil : RepM K mg G H [] [] []
  | sh {ms : List Bool} {v : V} {vs : List V} {d : D} {ds : List D} (h : Rep K mg G v d) (r : RepM K mg G H ms vs ds) : RepM K mg G H (false :: ms) (v :: vs) (d :: ds)
  | bo {ms : List Bool} {v : V} {vs : List V} {d : D} {ds : List D} (h : RepB K mg G H v d) (r : RepM K mg G H ms vs ds) : RepM K mg G H (true :: ms) (v :: vs) (d :: ds)
def mkS : Bool → D → Sl
  | true, d => .bo d
  | false, d => .sh d
def slM : List Bool → List D → List Sl
  | m :: ms, d :: ds => mkS m d :: slM ms ds
  | _, _ => []
section
variable {K : PySem.W.Frag} {mg : Str → Option Value} {G H G' H' : Hp}
theorem RepM.ext (e : Ext G H G' H') : ∀ {ms : List Bool} {vs : List V} {ds : List D}, RepM K mg G H ms vs ds → RepM K mg G' H' ms vs ds
  | _, _, _, .nil => .nil
  | _, _, _, .sh h r => .sh (h.mono e.gg) (r.ext e)
  | _, _, _, .bo h r => .bo (h.ext e) (r.ext e)
theorem RepM.len : ∀ {ms : List Bool} {vs : List V} {ds : List D}, RepM K mg G H ms vs ds → vs.length = ms.length ∧ ds.length = ms.length
  | _, _, _, .nil => ⟨rfl, rfl⟩
  | _, _, _, .sh _ r => by have := r.len; simp [this.1, this.2]
  | _, _, _, .bo _ r => by have := r.len; simp [this.1, this.2]
theorem RepM.get : ∀ {ms : List Bool} {vs : List V} {ds : List D} (i : Nat) {s : Sl}, RepM K mg G H ms vs ds → (slM ms ds)[i]? = some s → ∃ v d, vs[i]? = some v ∧ ((s = .sh d ∧ Rep K mg G v d) ∨ (s = .bo d ∧ RepB K mg G H v d))
  | _, _, _, _, _, .nil, e => by simp [slM] at e
  | _, _, _, 0, _, .sh h _, e => by simp [slM, mkS] at e; subst e; exact ⟨_, _, rfl, .inl ⟨rfl, h⟩⟩
  | _, _, _, 0, _, .bo h _, e => by simp [slM, mkS] at e; subst e; exact ⟨_, _, rfl, .inr ⟨rfl, h⟩⟩
  | _, _, _, i + 1, _, .sh _ r, e => by
    obtain ⟨v, d, h1, h2⟩ := r.get i (by simpa [slM] using e)
    exact ⟨v, d, by simpa using h1, h2⟩
  | _, _, _, i + 1, _, .bo _ r, e => by
    obtain ⟨v, d, h1, h2⟩ := r.get i (by simpa [slM] using e)
    exact ⟨v, d, by simpa using h1, h2⟩
theorem slM_len : ∀ {ms : List Bool} {ds : List D}, ds.length = ms.length → (slM ms ds).length = ms.length
  | [], [], _ => rfl
  | _ :: _, _ :: _, h => by simp [slM, slM_len (Nat.succ.inj h)]
  | [], _ :: _, h => by simp at h
  | _ :: _, [], h => by simp at h
end
def runK (ms : List Bool) (n : Nat) (F : Sm) : List D → Option D := fun ds => (F (slM ms ds ++ List.replicate (n - ms.length) .no)).bind fun r => match r with
  | .rt d => some d
  | .nx _ => some .non
  | _ => none
def spK (K : PySem.W.Frag) (mg : Str → Option Value) (ms : List Bool) (F : List D → Option D) : Sp := fun vs H Q _ =>
  ∃ G ds d, Same G H ∧ TC.ti.t G H ∧ RepM K mg G H ms vs ds ∧ F ds = some d ∧ ∀ G' H' v, Ext G H G' H' → Rep K mg G' v d → Q v H'
theorem startK_rel {K : PySem.W.Frag} {mg : Str → Option Value} {G H : Hp} {N : List Str} {ms : List Bool} {vs : List V} {ds : List D} (gh : Same G H) (tb : TC.ti.t G H) (r : RepM K mg G H ms vs ds) : Rel K mg G H ⟨TC.ti.tz, none, TC.ti⟩ (slM ms ds ++ List.replicate (N.length - ms.length) .no) (L2.start N vs) G H := by
  obtain ⟨hv, hd⟩ := r.len
  have hl := slM_len hd
  unfold L2.start
  refine ⟨by simp [hl, hv], gh, same_n (Same.refl _), Same.refl _, fun a h => .inl h, fun a z => (TC.ti.live tb a z).1, fun _ _ z => (by cases z), tb, fun _ h => h, rfl, fun _ h => h, fun _ _ => False, fun _ _ z => z.elim, fun _ _ _ z => z.elim, fun i s h => ?_⟩
  by_cases hi : i < ms.length
  · rw [List.getElem?_append_left (by omega)] at h
    obtain ⟨v, d, e1, e2⟩ := r.get i h
    have st : (vs.map some ++ List.replicate (N.length - vs.length) none)[i]? = some (some v) := by
      rw [List.getElem?_append_left (by simp; omega), List.getElem?_map, e1]
      rfl
    rcases e2 with ⟨rfl, e2⟩ | ⟨rfl, e2⟩
    · exact .inr (.inl ⟨v, st, .sh e2⟩)
    · exact .inr (.inr ⟨v, d, rfl, st, e2⟩)
  · rw [List.getElem?_append_right (by omega), List.getElem?_replicate] at h
    split at h
    · cases h; exact .inl rfl
    · cases h
section
variable {P : Program} {w : World} {K : PySem.W.Frag} {mg : Str → Option Value} {base : Heap}
theorem def_okK {x qual : Str} {st : Stmt} {f : Addr} {fd : FuncData} {N ps : List Str} {k : Nat} {B : Sm} {ms : List Bool} (F : Fun K x qual st f fd) (S : FnScope N ps (defScope st)) (hms : ms.length = ps.length)
    (hbody : ∀ (cdv : Value) (A : Around) (outer : List PySem.Env) (s : Shared) (H : Hp) (E : XK), Room k (A.deeper (PyProof.Rows.envOfC qual (defScope st) s.heap.objs.size f cdv)) →
      Ss (cxOf CX0 P w K mg base N qual (defScope st) f cdv A outer s H E).nox (defBody st) B) : FnOk P w K mg base CX0 (k + 1) f fd ps (spK K mg ms (runK ms N.length B)) := by
  refine F.ok S (fun vs H Q E h => ?_) (fun cdv A outer s H vs Q E hr h => ?_)
  · obtain ⟨G, ds, d, gh, _, r, _⟩ := h
    rw [r.len.1, hms]
  · obtain ⟨G, ds, d, gh, tb, r, hf, k'⟩ := h
    obtain ⟨t, h1, h2⟩ := (hbody cdv A outer s H E hr).ex
    refine ⟨t, h1, ?_⟩
    obtain ⟨r1, e1, hf⟩ := obind hf
    refine h2 G H _ _ _ G H _ r1 (startK_rel gh tb r) e1 ?_
    cases r1 with
    | rt d' => cases hf; exact fun G' H' v x r => k' G' H' v x r
    | nx Γ => cases hf; exact fun σ' G' H' R => k' G' H' _ R.end .non
    | rm d s => cases hf
    | ro s => cases hf
    | bk Γ => cases hf
    | ct Γ => cases hf
end
structure CalK (P : Program) (w : World) (K : PySem.W.Frag) (mg : Str → Option Value) (base : Heap) (x : Str) (L : Nat) (ps : List Str) (ms : List Bool) (S : List D → Option D) : Prop where
  ex : ∃ f fd, FnOk P w K mg base CX0 L f fd ps (spK K mg ms S) ∧ mg x = some (.ref f) ∧ PySem.W.keepIn K (.ref f) = true ∧ Binds K fd ps []
structure MetK (P : Program) (w : World) (K : PySem.W.Frag) (mg : Str → Option Value) (base : Heap) (c : Nat) (m : Str) (L : Nat) (ps : List Str) (ms : List Bool) (S : List D → Option D) : Prop where
  ex : ∃ C f fd, CK K mg c C ∧ Meth K C m f ∧ FnOk P w K mg base CX0 L f fd ps (spK K mg ms S) ∧ Binds K fd ps []
structure AM (X : Cx) (es : List Expr) (ms : List Bool) (f : Ag) : Prop where
  ex : ∃ t, PA X es t ∧ ∀ G0 H0 Z Γ σ G H Q ds, Rel X.K X.mg G0 H0 Z Γ σ G H → f Γ = some ds → (∀ G' H' vs, Ext G H G' H' → RepM X.K X.mg G' H' ms vs ds → Q vs H') → t σ H Q
section
variable {X : Cx} {e a b o : Expr} {es : List Expr} {f g : Ex} {fs : Ag} {pos : Pos} {ms : List Bool}
theorem m_nil : AM X [] [] aN := ⟨⟨_, pa_nil, fun G0 H0 Z Γ σ G H Q ds R hf k => by cases hf; exact k G H _ (Ext.refl R.gh) .nil⟩⟩
theorem m_sh (he : E X e f) (hr : AM X es ms fs) (hs : starEach (e :: es) X.env = (false, eval e X.env) :: starEach es X.env := by rfl) : AM X (e :: es) (false :: ms) (aC f fs) := by
  obtain ⟨t, h1, h2⟩ := he.ex
  obtain ⟨u, q1, q2⟩ := hr.ex
  refine ⟨⟨_, pa_cons h1 q1 hs, fun G0 H0 Z Γ σ G H Q ds R hf k => ?_⟩⟩
  obtain ⟨d, e1, hf⟩ := obind hf
  obtain ⟨ds', e2, hf⟩ := obind hf
  cases hf
  refine h2 G0 H0 Z Γ σ G H _ d R e1 fun G1 H1 v x1 r1 => ?_
  refine q2 G0 H0 Z Γ σ G1 H1 _ ds' (R.ext x1) e2 fun G2 H2 vs x2 r2 => ?_
  exact k G2 H2 _ (x1.trans x2) (.sh (r1.mono x2.gg) r2)
theorem m_bo (he : B X e f) (hr : AM X es ms fs) (hs : starEach (e :: es) X.env = (false, eval e X.env) :: starEach es X.env := by rfl) : AM X (e :: es) (true :: ms) (aC f fs) := by
  obtain ⟨t, h1, h2⟩ := he.ex
  obtain ⟨u, q1, q2⟩ := hr.ex
  refine ⟨⟨_, pa_cons h1 q1 hs, fun G0 H0 Z Γ σ G H Q ds R hf k => ?_⟩⟩
  obtain ⟨d, e1, hf⟩ := obind hf
  obtain ⟨ds', e2, hf⟩ := obind hf
  cases hf
  refine h2 G0 H0 Z Γ σ G H _ d R e1 fun G1 H1 v x1 r1 => ?_
  refine q2 G0 H0 Z Γ σ G1 H1 _ ds' (R.ext x1) e2 fun G2 H2 vs x2 r2 => ?_
  exact k G2 H2 _ (x1.trans x2) (.bo (r1.ext x2) r2)
theorem e_callK {k L : Nat} {ps : List Str} {S : List D → Option D} {x : Str} {p : Pos} (c : CalK X.prog X.w X.K X.mg X.base x L ps ms S) (hr : Room k X.A) (hk : L ≤ k)
    (ha : AM X (a :: es) ms fs) (hg : Gl X x := by rfl) (hdb : (x == ("__debug__" : Str)) = false := by decide) (he : starEach (a :: es) X.env = (false, eval a X.env) :: starEach es X.env := by rfl) (hpl : (backTo pos (starEach es X.env)).any (·.1) = false := by rfl) :
    E X (.Call (.Name x p) (a :: es) [] pos) (gCall S fs) := by
  obtain ⟨f, fd, f1, f2, f3, f4⟩ := c.ex
  obtain ⟨t, h1, h2⟩ := ha.ex
  refine ⟨⟨_, pe_call f1 (hr.mono hk) hg f2 f3 f4 .nil pass0 h1 hdb he hpl, fun G0 H0 Z Γ σ G H Q d R hf k => ?_⟩⟩
  obtain ⟨ds, e1, hf⟩ := obind hf
  refine h2 G0 H0 Z Γ σ G H _ _ R e1 fun G1 H1 vs x1 r1 => ?_
  refine ⟨G1, ds, d, x1.gh, (R.ext x1).tbc, ?_, hf, fun G' H' v x2 r2 => k G' H' v (x1.trans x2) r2⟩
  rw [List.append_nil]; exact r1
/-- the object that a value is, where it is only looked at -/
theorem RepB.objAt {K : PySem.W.Frag} {mg : Str → Option Value} {G H : Hp} {v : V} {c : Nat} {ds : List D} (gh : Same G H) (r : RepB K mg G H v (.obj c ds)) : ∃ p C dx vs, v = .ref p ∧ mg (cN c) = some (.ref C) ∧ H p = some (.ins C dx ((cF c).zip vs)) ∧ RepBL K mg G H vs ds := by
  cases r with
  | sh r => cases r with
    | obj hm h r => exact ⟨_, _, _, _, rfl, hm, gh _ _ h, r.bo⟩
  | obj hm h r => exact ⟨_, _, _, _, rfl, hm, h, r⟩
theorem e_metK {pl : Sem Bool} {c k L : Nat} {ps : List Str} {S : List D → Option D} {m : Str} {apos : Pos} (mt : MetK X.prog X.w X.K X.mg X.base c m L ps (true :: ms) S) (hr : Room k X.A) (hk : L ≤ k)
    (ho : B X o f) (ha : AM X (a :: es) ms fs) (hno : m ∉ cF c := by decide +kernel)
    (hst : starEach (a :: es) X.env = (false, eval a X.env) :: starEach es X.env := by rfl) (hpl : (backTo pos (starEach es X.env)).any (·.1) = false := by rfl)
    (ht : eval (.Call (.Attribute o m apos) (a :: es) [] pos) X.env = (do
      let ov ← eval o X.env
      standAt apos.atName
      let (f, first) ← holding [ov] (getMethod ov m pl)
      callWith pos f first (backTo pos (starEach (a :: es) X.env)) (backToKw pos (keywordEach [] X.env))) := by rfl) : E X (.Call (.Attribute o m apos) (a :: es) [] pos) (gMeth c S f fs) := by
  obtain ⟨C, fa, fd, ck, hme, FO, hb⟩ := mt.ex
  obtain ⟨t, h1, h2⟩ := ha.ex
  obtain ⟨u, q1, q2⟩ := ho.ex
  refine ⟨⟨_, pe_meth q1 ck.cl hme FO (hr.mono hk) hb .nil pass0 h1 hst hpl ht, fun G0 H0 Z Γ σ G H Q d R hf k => ?_⟩⟩
  obtain ⟨y, e1, hv⟩ := obind hf
  cases y with
  | obj c' vs' =>
    replace hv : (if c' = c then (fs Γ).bind fun ds => S (.obj c' vs' :: ds) else none) = some d := hv
    split at hv
    · rename_i cz
      subst cz
      obtain ⟨ds, e2, hv⟩ := obind hv
      refine q2 G0 H0 Z Γ σ G H _ _ R e1 fun G1 H1 v x1 r1 => ?_
      obtain ⟨p, C', dx, ws, rfl, hm', hp, _⟩ := r1.objAt x1.gh
      rw [ck.hm] at hm'
      cases hm'
      refine ⟨_, _, _, rfl, hp, zip_lookup_none hno, ?_⟩
      refine h2 G0 H0 Z Γ σ G1 H1 _ _ (R.ext x1) e2 fun G2 H2 vs x2 r2 => ?_
      exact ⟨G2, _, d, x2.gh, ((R.ext x1).ext x2).tbc, .bo (r1.ext x2) (by rw [List.append_nil]; exact r2), hv, fun G' H' v x3 r3 => k G' H' v ((x1.trans x2).trans x3) r3⟩
    · cases hv
  | _ => cases hv
theorem e_metK0 {pl : Sem Bool} {c k L : Nat} {ps : List Str} {S : List D → Option D} {m : Str} {apos : Pos} (mt : MetK X.prog X.w X.K X.mg X.base c m L ps [true] S) (hr : Room k X.A) (hk : L ≤ k)
    (ho : B X o f) (hno : m ∉ cF c := by decide +kernel)
    (ht : eval (.Call (.Attribute o m apos) [] [] pos) X.env = (do
      let ov ← eval o X.env
      standAt apos.atName
      let (f, first) ← holding [ov] (getMethod ov m pl)
      callWith pos f first (backTo pos (starEach [] X.env)) (backToKw pos (keywordEach [] X.env))) := by rfl) : E X (.Call (.Attribute o m apos) [] [] pos) (gMeth c S f aN) := by
  obtain ⟨C, fa, fd, ck, hme, FO, hb⟩ := mt.ex
  obtain ⟨u, q1, q2⟩ := ho.ex
  refine ⟨⟨_, pe_meth0 q1 ck.cl hme FO (hr.mono hk) hb .nil pass0 ht, fun G0 H0 Z Γ σ G H Q d R hf k => ?_⟩⟩
  obtain ⟨y, e1, hv⟩ := obind hf
  cases y with
  | obj c' vs' =>
    replace hv : (if c' = c then (aN Γ).bind fun ds => S (.obj c' vs' :: ds) else none) = some d := hv
    split at hv
    · rename_i cz
      subst cz
      obtain ⟨ds, e2, hv⟩ := obind hv
      cases e2
      refine q2 G0 H0 Z Γ σ G H _ _ R e1 fun G1 H1 v x1 r1 => ?_
      obtain ⟨p, C', dx, ws, rfl, hm', hp, _⟩ := r1.objAt x1.gh
      rw [ck.hm] at hm'
      cases hm'
      refine ⟨_, _, _, rfl, hp, zip_lookup_none hno, ?_⟩
      exact ⟨G1, _, d, x1.gh, (R.ext x1).tbc, .bo r1 .nil, hv, fun G' H' v x3 r3 => k G' H' v (x1.trans x3) r3⟩
    · cases hv
  | _ => cases hv
/-- o.f of what is only looked at -/
theorem b_fld {c j : Nat} {C : Addr} {x : Str} (ck : CK X.K X.mg c C) (he : B X o f) (hj : (cF c)[j]? = some x := by rfl) (nd : (cF c).Nodup := by decide +kernel) (hb : attributeBase o x X.env (eval o X.env) = eval o X.env := by rfl) : B X (.Attribute o x pos) (gU (dFld c j) f) := by
  obtain ⟨t, h1, h2⟩ := he.ex
  refine ⟨⟨_, pe_fld h1 hb, fun G0 H0 Z Γ σ G H Q d R hf k => ?_⟩⟩
  obtain ⟨y, e1, hv⟩ := obind hf
  cases y with
  | obj c' vs =>
    replace hv : (if c' = c then vs[j]? else none) = some d := hv
    split at hv
    · rename_i cz
      subst cz
      refine h2 G0 H0 Z Γ σ G H _ _ R e1 fun G1 H1 v x1 r1 => ?_
      obtain ⟨p, C', dx, ws, rfl, hm', hp, rl⟩ := r1.objAt x1.gh
      rw [ck.hm] at hm'
      cases hm'
      obtain ⟨w, g1, g2⟩ := rl.get j hv
      exact ⟨_, _, _, _, w, rfl, hp, ck.cl, ck.na x (List.mem_of_getElem? hj), zip_lookup nd hj g1, k G1 H1 w x1 g2⟩
    · cases hv
  | _ => cases hv
/-- neither a list nor an object: nothing can be changed in it -/
def isIm : D → Bool
  | .lst _ => false
  | .obj _ _ => false
  | .dic _ _ => false
  | _ => true
def gIm (f : Ex) : Ex := fun Γ => (f Γ).bind fun d => if isIm d then some d else none
theorem B.im (h : B X e f) : E X e (gIm f) := by
  obtain ⟨t, h1, h2⟩ := h.ex
  refine ⟨⟨t, h1, fun G0 H0 Z Γ σ G H Q d R hf k => ?_⟩⟩
  obtain ⟨y, e1, hv⟩ := obind hf
  split at hv
  · rename_i hi
    cases hv
    refine h2 G0 H0 Z Γ σ G H Q _ R e1 fun G1 H1 v x1 r1 => k G1 H1 v x1 ?_
    refine r1.flat (fun xs z => ?_) (fun c xs z => ?_) fun ks xs z => ?_
    · subst z; cases hi
    · subst z; cases hi
    · subst z; cases hi
  · cases hv
end

/-! ### calls that change a place of one's own -/
/-- an expression that changes slots' places (not the slots) and gives a datum -/
abbrev Mx := DEnv → Option (D × DEnv)
structure EM (X : Cx) (e : Expr) (f : Mx) : Prop where
  ex : ∃ t, PE X e t ∧ ∀ G0 H0 Z Γ σ G H Q d Γ', Rel X.K X.mg G0 H0 Z Γ σ G H → f Γ = some (d, Γ') → (∀ G' H' v, Rel X.K X.mg G0 H0 Z Γ' σ G' H' → Rep X.K X.mg G' v d → Q v H') → t σ H Q
structure CalM (P : Program) (w : World) (K : PySem.W.Frag) (mg : Str → Option Value) (base : Heap) (x : Str) (L : Nat) (ps : List Str) (S : Sl → List D → Option (D × Sl)) : Prop where
  ex : ∃ f fd n, ps.length = n + 1 ∧ FnOk P w K mg base CX0 L f fd ps (spM K mg n S) ∧ mg x = some (.ref f) ∧ PySem.W.keepIn K (.ref f) = true ∧ Binds K fd ps []
structure MetM (P : Program) (w : World) (K : PySem.W.Frag) (mg : Str → Option Value) (base : Heap) (c : Nat) (m : Str) (L : Nat) (ps : List Str) (S : Sl → List D → Option (D × Sl)) : Prop where
  ex : ∃ C f fd n, ps.length = n + 1 ∧ CK K mg c C ∧ Meth K C m f ∧ FnOk P w K mg base CX0 L f fd ps (spM K mg n S) ∧ Binds K fd ps []
/-- place i rp is changed by S -/
def gCM (i : Nat) (rp : Pth) (S : Sl → List D → Option (D × Sl)) (fs : Ag) : Mx := fun Γ => match gP i rp Γ with
  | some s1 => if isOwn s1 then (fs Γ).bind fun ds => (S s1 ds).bind fun r => (Γ[i]?).bind fun s => (setR rp r.2 s).bind fun s2 => some (r.1, Γ.set i s2) else none
  | none => none
theorem gCM_some {i : Nat} {rp : Pth} {S : Sl → List D → Option (D × Sl)} {fs : Ag} {Γ Γ' : DEnv} {d : D} (h : gCM i rp S fs Γ = some (d, Γ')) :
    ∃ s s1 ds s1' s2, Γ[i]? = some s ∧ getR rp s = some s1 ∧ SlP s ∧ SlP s1 ∧ isOwn s1 = true ∧ fs Γ = some ds ∧ S s1 ds = some (d, s1') ∧ setR rp s1' s = some s2 ∧ Γ' = Γ.set i s2 := by
  unfold gCM at h
  cases q : gP i rp Γ with
  | none => rw [q] at h; cases h
  | some s1 =>
    rw [q] at h
    replace h : (if isOwn s1 then (fs Γ).bind fun ds => (S s1 ds).bind fun r => (Γ[i]?).bind fun s => (setR rp r.2 s).bind fun s2 => some (r.1, Γ.set i s2) else none) = some (d, Γ') := h
    split at h
    · rename_i ho
      obtain ⟨ds, e1, h⟩ := obind h
      obtain ⟨⟨d', s1'⟩, e2, h⟩ := obind h
      obtain ⟨s, e3, h⟩ := obind h
      obtain ⟨s2, e4, h⟩ := obind h
      cases h
      have hP : SlP s1 := ⟨(fun z => by subst z; cases ho), (fun d z => by subst z; cases ho)⟩
      obtain ⟨s', b1, b2, b3⟩ := gP_some q hP
      rw [e3] at b1
      cases b1
      exact ⟨s, s1, ds, s1', s2, e3, b2, b3, hP, ho, e1, e2, e4, rfl⟩
    · cases h
section
variable {X : Cx} {e a b o : Expr} {es : List Expr} {f g : Ex} {fs : Ag} {pos : Pos} {n i : Nat} {rp : Pth} {S : Sl → List D → Option (D × Sl)} {mx : Mx}
/-- the callee's promise at a place -/
theorem change_ok {G0 H0 G H Hb : Hp} {Z : Zs} {Γ : DEnv} {σ : L2.St} {n : Nat} {Q : VK} {E : XK} {s s1 s1' s2 : Sl} {v : V} {F1 : Addr → Prop} {vs : List V} {ds : List D} {d : D} (P : Pack X.K X.mg G0 H0 Z Γ σ i rp s s1 v F1 Hb G H) (gh : Same G H) (hb : ∀ a, Hb a ≠ none → H a ≠ none) (r : RepL X.K X.mg G vs ds) (hn : ds.length = n) (ho : isOwn s1 = true)
    (hS : S s1 ds = some (d, s1')) (es : setR rp s1' s = some s2) (k : ∀ G' H' u, Rel X.K X.mg G0 H0 Z (Γ.set i s2) σ G' H' → Rep X.K X.mg G' u d → Q u H') : spM X.K X.mg n S (v :: vs) H Q E := by
  refine ⟨v, vs, G, s1, ds, d, s1', F1, rfl, by rw [r.length, hn], gh, P.tb, P.hd, fun a y => ⟨(P.fr a y).1, (P.fr a y).2.2.1, P.ntz a y⟩, r, hS, fun G' H' u Fp' gg gh' tb' hn' nw keep rv hd' fr => k G' H' u ?_ rv⟩
  have free : ∀ a, H a = none → Hb a = none := fun a z => by
    cases q : Hb a with
    | none => rfl
    | some o => exact absurd z (hb a (by rw [q]; simp))
  refine P.upC G' H' Fp' s1' s2 gg gh' tb' hn' (fun a q => ?_) keep hd' (fun a y => ?_) (fun _ => ho) es
  · rcases nw a q with z | z | z
    · exact .inl z
    · exact .inr (.inl (free a z))
    · exact .inr (.inr z)
  · obtain ⟨w1, w2, w3⟩ := fr a y
    exact ⟨w1, w2, w3.elim .inl fun z => .inr (free a z)⟩
theorem em_call {k L : Nat} {ps : List Str} {x : Str} {p : Pos} (c : CalM X.prog X.w X.K X.mg X.base x L ps S) (hr : Room k X.A) (hk : L ≤ k) (hp : PL X o i rp)
    (ha : AN X es n fs) (hn : ps.length = n + 1 := by rfl) (hg : Gl X x := by rfl) (hdb : (x == ("__debug__" : Str)) = false := by decide) (he : starEach (o :: es) X.env = (false, eval o X.env) :: starEach es X.env := by rfl) (hpl : (backTo pos (starEach es X.env)).any (·.1) = false := by rfl) :
    EM X (.Call (.Name x p) (o :: es) [] pos) (gCM i rp S fs) := by
  obtain ⟨f, fd, n', f0, f1, f2, f3, f4⟩ := c.ex
  have : n' = n := by omega
  subst this
  obtain ⟨t, t1, t2⟩ := ha.a.ex
  obtain ⟨u, u1, u2⟩ := hp.ex
  refine ⟨⟨_, pe_call f1 (hr.mono hk) hg f2 f3 f4 .nil pass0 (pa_cons u1 t1 he) hdb he hpl, fun G0 H0 Z Γ σ G H Q d Γ' R hf k => ?_⟩⟩
  obtain ⟨s, s1, ds, s1', s2, b1, b2, b3, b4, ho, e1, hS, es', rfl⟩ := gCM_some hf
  refine u2 G0 H0 Z Γ σ G H G H _ s s1 R (Ext.refl R.gh) b1 b2 b3 b4.1 fun v pk => ?_
  refine t2 G0 H0 Z Γ σ G H _ ds R e1 fun G1 H1 vs x1 r1 => ?_
  obtain ⟨F1, P⟩ := pk G1 H1 x1
  rw [List.append_nil]
  exact change_ok (E := E0) P x1.gh x1.hn r1 (ha.n Γ ds e1) ho hS es' k
theorem em_met {pl : Sem Bool} {c k L : Nat} {ps : List Str} {m : Str} {apos : Pos} (mt : MetM X.prog X.w X.K X.mg X.base c m L ps S) (hr : Room k X.A) (hk : L ≤ k) (hp : PL X o i rp)
    (ha : AN X (a :: es) n fs) (hn : ps.length = n + 1 := by rfl) (hno : m ∉ cF c := by decide +kernel)
    (hst : starEach (a :: es) X.env = (false, eval a X.env) :: starEach es X.env := by rfl) (hpl : (backTo pos (starEach es X.env)).any (·.1) = false := by rfl)
    (ht : eval (.Call (.Attribute o m apos) (a :: es) [] pos) X.env = (do
      let ov ← eval o X.env
      standAt apos.atName
      let (f, first) ← holding [ov] (getMethod ov m pl)
      callWith pos f first (backTo pos (starEach (a :: es) X.env)) (backToKw pos (keywordEach [] X.env))) := by rfl) :
    EM X (.Call (.Attribute o m apos) (a :: es) [] pos) (fun Γ => match gP i rp Γ with | some (.ob c' _) => if c' = c then gCM i rp S fs Γ else none | _ => none) := by
  obtain ⟨C, fa, fd, n', f0, ck, hme, FO, hb⟩ := mt.ex
  have : n' = n := by omega
  subst this
  obtain ⟨t, t1, t2⟩ := ha.a.ex
  obtain ⟨u, u1, u2⟩ := hp.ex
  refine ⟨⟨_, pe_meth u1 ck.cl hme FO (hr.mono hk) hb .nil pass0 t1 hst hpl ht, fun G0 H0 Z Γ σ G H Q d Γ' R hf k => ?_⟩⟩
  cases q : gP i rp Γ with
  | none => rw [q] at hf; cases hf
  | some s0 =>
    rw [q] at hf
    cases s0 with
    | ob c' fls =>
      replace hf : (if c' = c then gCM i rp S fs Γ else none) = some (d, Γ') := hf
      split at hf
      · rename_i cz
        subst cz
        obtain ⟨s, s1, ds, s1', s2, b1, b2, b3, b4, ho, e1, hS, es', rfl⟩ := gCM_some hf
        have e0 : s1 = .ob c' fls := by
          unfold gP at q
          rw [b1] at q
          exact Option.some.inj (b2.symm.trans q)
        subst e0
        refine u2 G0 H0 Z Γ σ G H G H _ s _ R (Ext.refl R.gh) b1 b2 b3 b4.1 fun v pk => ?_
        obtain ⟨F0, P0⟩ := pk G H (Ext.refl R.gh)
        have hd := P0.hd
        cases hd with
        | ob ff hm hh nn sF rr =>
          rw [ck.hm] at hm
          cases hm
          refine ⟨_, _, _, rfl, hh, zip_lookup_none hno, ?_⟩
          refine t2 G0 H0 Z Γ σ G H _ ds R e1 fun G1 H1 vs x1 r1 => ?_
          obtain ⟨F1, P⟩ := pk G1 H1 x1
          rw [List.append_nil]
          exact change_ok (E := E0) P x1.gh x1.hn r1 (ha.n Γ ds e1) ho hS es' k
      · cases hf
    | _ => cases hf
theorem em_met0 {pl : Sem Bool} {c k L : Nat} {ps : List Str} {m : Str} {apos : Pos} (mt : MetM X.prog X.w X.K X.mg X.base c m L ps S) (hr : Room k X.A) (hk : L ≤ k) (hp : PL X o i rp)
    (hn : ps.length = 1 := by rfl) (hno : m ∉ cF c := by decide +kernel)
    (ht : eval (.Call (.Attribute o m apos) [] [] pos) X.env = (do
      let ov ← eval o X.env
      standAt apos.atName
      let (f, first) ← holding [ov] (getMethod ov m pl)
      callWith pos f first (backTo pos (starEach [] X.env)) (backToKw pos (keywordEach [] X.env))) := by rfl) :
    EM X (.Call (.Attribute o m apos) [] [] pos) (fun Γ => match gP i rp Γ with | some (.ob c' _) => if c' = c then gCM i rp S aN Γ else none | _ => none) := by
  obtain ⟨C, fa, fd, n', f0, ck, hme, FO, hb⟩ := mt.ex
  have : n' = 0 := by omega
  subst this
  obtain ⟨u, u1, u2⟩ := hp.ex
  refine ⟨⟨_, pe_meth0 u1 ck.cl hme FO (hr.mono hk) hb .nil pass0 ht, fun G0 H0 Z Γ σ G H Q d Γ' R hf k => ?_⟩⟩
  cases q : gP i rp Γ with
  | none => rw [q] at hf; cases hf
  | some s0 =>
    rw [q] at hf
    cases s0 with
    | ob c' fls =>
      replace hf : (if c' = c then gCM i rp S aN Γ else none) = some (d, Γ') := hf
      split at hf
      · rename_i cz
        subst cz
        obtain ⟨s, s1, ds, s1', s2, b1, b2, b3, b4, ho, e1, hS, es', rfl⟩ := gCM_some hf
        have e0 : s1 = .ob c' fls := by
          unfold gP at q
          rw [b1] at q
          exact Option.some.inj (b2.symm.trans q)
        subst e0
        cases e1
        refine u2 G0 H0 Z Γ σ G H G H _ s _ R (Ext.refl R.gh) b1 b2 b3 b4.1 fun v pk => ?_
        obtain ⟨F0, P0⟩ := pk G H (Ext.refl R.gh)
        have hd := P0.hd
        cases hd with
        | ob ff hm hh nn sF rr =>
          rw [ck.hm] at hm
          cases hm
          refine ⟨_, _, _, rfl, hh, zip_lookup_none hno, ?_⟩
          obtain ⟨F1, P⟩ := pk G H (Ext.refl R.gh)
          exact change_ok (E := E0) (vs := []) (ds := []) P R.gh (fun _ h => h) .nil rfl ho hS es' k
      · cases hf
    | _ => cases hf
def gMM (i : Nat) (rp : Pth) (c : Nat) (S : Sl → List D → Option (D × Sl)) (fs : Ag) : Mx := fun Γ => match gP i rp Γ with | some (.ob c' _) => if c' = c then gCM i rp S fs Γ else none | _ => none
/-! statements of these -/
def sExpM (f : Mx) : Sm := fun Γ => (f Γ).bind fun r => some (.nx r.2)
theorem s_exprM (he : EM X e mx) (hs : swapsWith e none pos.line X.env = pure false := by rfl) : DL.S X (.Expr e pos) (sExpM mx) := by
  obtain ⟨t, h1, h2⟩ := he.ex
  refine ⟨⟨_, ps_expr h1 hs, fun G0 H0 Z Γ σ G H D r R hf k => ?_⟩⟩
  obtain ⟨⟨d, Γ'⟩, e1, hf⟩ := obind hf
  cases hf
  exact h2 G0 H0 Z Γ σ G H _ d Γ' R e1 fun G1 H1 v R1 r1 => k σ G1 H1 R1
def sSetM (j : Nat) (f : Mx) : Sm := fun Γ => (f Γ).bind fun r => some (.nx (r.2.set j (.sh r.1)))
theorem s_setM (j : Nat) {x : Str} {pos' : Pos} (hN : X.N.Nodup) (he : EM X e mx) (hi : X.N[j]? = some x := by rfl) (hx : Loc X.env.scope x := by first | exact Or.inl rfl | exact Or.inr rfl) (hs : swapsWith e (some (.Name x pos')) pos.line X.env = pure false := by rfl)
    (hf : X.fn x = true ∨ X.env.scope.names.lookup x = some .local := by first | exact .inl rfl | exact .inr rfl | assumption) : DL.S X (.Assign [.Name x pos'] e pos) (sSetM j mx) := by
  obtain ⟨t, h1, h2⟩ := he.ex
  refine ⟨⟨_, ps_set hN hi hx h1 hs hf, fun G0 H0 Z Γ σ G H D r R hf k => ?_⟩⟩
  obtain ⟨⟨d, Γ'⟩, e1, hf⟩ := obind hf
  cases hf
  exact h2 G0 H0 Z Γ σ G H _ d Γ' R e1 fun G1 H1 v R1 r1 => k _ G1 H1 (R1.set j r1)
def sRetCM (f : Mx) : Sm := fun Γ => (f Γ).bind fun r => (r.2[0]?).bind fun s => if isOwn s then some (.rm r.1 s) else none
theorem s_retCM (he : EM X e mx) : DL.S X (.Return (some e) pos) (sRetCM mx) := by
  obtain ⟨t, h1, h2⟩ := he.ex
  refine ⟨⟨_, ps_ret h1, fun G0 H0 Z Γ σ G H D r R hf k => ?_⟩⟩
  obtain ⟨⟨d, Γ'⟩, e1, hf⟩ := obind hf
  obtain ⟨s, e2, hf⟩ := obind hf
  split at hf
  · cases hf
    exact h2 G0 H0 Z Γ σ G H _ d Γ' R e1 fun G1 H1 v R1 r1 => k Γ' σ G1 H1 v R1 e2 r1
  · cases hf
/-- del P[k:] -/
def sDelF (i : Nat) (rp : Pth) (f : Ex) : Sm := fun Γ => match gP i rp Γ with
  | some (.ow xs) => (f Γ).bind fun d => match d with
    | .int k => if 0 ≤ k ∧ k.toNat ≤ xs.length then upP i rp (.ow (xs.take k.toNat)) Γ else none
    | _ => none
  | _ => none
theorem s_delF {sp tpos : Pos} (hp : PL X o i rp) (he : E X e f) : DL.S X (.Delete [.Subscript o (.Slice (some e) none none sp) tpos] pos) (sDelF i rp f) := by
  obtain ⟨t, t1, t2⟩ := he.ex
  obtain ⟨u, u1, u2⟩ := hp.ex
  refine ⟨⟨_, ps_delF u1 t1, fun G0 H0 Z Γ σ G H D r R hf k => ?_⟩⟩
  unfold sDelF at hf
  cases q : gP i rp Γ with
  | none => rw [q] at hf; cases hf
  | some par =>
    rw [q] at hf
    cases par with
    | ow xs =>
      obtain ⟨d, e1, hf⟩ := obind hf
      cases d with
      | int j =>
        replace hf : (if 0 ≤ j ∧ j.toNat ≤ xs.length then upP i rp (.ow (xs.take j.toNat)) Γ else none) = some r := hf
        split at hf
        · rename_i hj
          obtain ⟨s, s2, a1, a2, rfl⟩ := upP_some hf
          obtain ⟨s', b1, b2, b3⟩ := gP_some q (by simp [SlP])
          rw [a1] at b1
          cases b1
          refine u2 G0 H0 Z Γ σ G H G H _ s _ R (Ext.refl R.gh) a1 b2 b3 (by simp) fun v pk => ?_
          refine t2 G0 H0 Z Γ σ G H _ _ R e1 fun G1 H1 w x1 r1 => ?_
          obtain ⟨F1, p1⟩ := pk G1 H1 x1
          obtain ⟨l, vs, rfl, d1, d2, d3⟩ := p1.list x1.gh
          rw [r1.intv]
          refine ⟨l, vs, j.toNat, rfl, by rw [Int.toNat_of_nonneg hj.1], d1, by rw [d2.length]; exact hj.2, ?_⟩
          exact k σ G1 _ (d3 _ _ _ (d2.take _) a2)
        · cases hf
      | _ => cases hf
    | _ => cases hf
end
end DL

namespace DL
open PySem L2
variable [TC : TabCtx]

section
variable {X : Cx} {e a b o : Expr} {es : List Expr} {f g k : Ex} {fs : Ag} {pos pos' : Pos} {n i : Nat} {rp : Pth}
/-- a + b of lists that are looked at: a new list -/
def gCat (f g : Ex) : Ag := fun Γ => (f Γ).bind fun x => (g Γ).bind fun y => match x, y with
  | .lst xs, .lst ys => if xs.length + ys.length < 1000000 then some (xs ++ ys) else none
  | _, _ => none
theorem el_cat (ha : B X a f) (hb : B X b g) : EL X (.BinOp a .Add b pos) (gCat f g) := by
  obtain ⟨t, h1, h2⟩ := ha.ex
  obtain ⟨u, q1, q2⟩ := hb.ex
  refine ⟨⟨_, pe_op op_cat h1 q1, fun G0 H0 Z Γ σ G H Q ds R hf k => ?_⟩⟩
  obtain ⟨x, e1, hf⟩ := obind hf
  obtain ⟨y, e2, hf⟩ := obind hf
  cases x with
  | lst xs =>
    cases y with
    | lst ys =>
      replace hf : (if xs.length + ys.length < 1000000 then some (xs ++ ys) else none) = some ds := hf
      split at hf
      · rename_i hz
        cases hf
        refine h2 G0 H0 Z Γ σ G H _ _ R e1 fun G1 H1 v x1 r1 => ?_
        refine q2 G0 H0 Z Γ σ G1 H1 _ _ (R.ext x1) e2 fun G2 H2 w x2 r2 => ?_
        obtain ⟨p, vs, rfl, hp, rp⟩ := (r1.ext x2).lst x2.gh
        obtain ⟨q, ws, rfl, hq, rq⟩ := r2.lst x2.gh
        refine ⟨p, q, vs, ws, rfl, rfl, hp, hq, by rw [rp.length, rq.length]; exact Nat.le_trans (Nat.le_of_lt hz) line_big, fun l hl => ?_⟩
        exact k G2 _ l _ ((x1.trans x2).trans (Ext.own1 x2.gh hl)) ((x1.trans x2).hf hl) (x2.gh.free hl) upd_same (rp.append rq)
      · cases hf
    | _ => cases hf
  | _ => cases hf

/-! P.f += e -/
theorem Pack.setSh {K : PySem.W.Frag} {mg : Str → Option Value} {G0 H0 G H Hb : Hp} {Z : Zs} {Γ : DEnv} {σ : L2.St} {s s2 : Sl} {c j : Nat} {x : Str} {fs : List Sl} {v0 v : V} {F1 : Addr → Prop} {d : D} (P : Pack K mg G0 H0 Z Γ σ i rp s (.ob c fs) v0 F1 Hb G H) (gh : Same G H)
    (hj : (cF c)[j]? = some x) (nd : (cF c).Nodup) (r : Rep K mg G v d) (hl : j < fs.length) (es : setR rp (.ob c (fs.set j (.sh d))) s = some s2) :
    ∃ p C dx vs, v0 = .ref p ∧ mg (cN c) = some (.ref C) ∧ H p = some (.ins C dx ((cF c).zip vs)) ∧ Rel K mg G0 H0 Z (Γ.set i s2) σ G (upd H p (.ins C dx (putF x v ((cF c).zip vs)))) := by
  have hd := P.hd
  cases hd with
  | ob f hm ho n sF rr =>
    rename_i p C dx vs F'
    have gp := (P.fr p f).1
    have hlen := rr.length
    refine ⟨p, C, dx, vs, rfl, hm, ho, ?_⟩
    rw [putF_set nd hj (by rw [hlen]; exact hl)]
    have keep : ∀ (Y : Addr → Prop), ¬ Y p → ∀ a o, Y a → H a = some o → upd H p (.ins C dx ((cF c).zip (vs.set j v))) a = some o := fun Y hy a o ya q => by
      rw [upd_ne]
      · exact q
      · intro e; subst e; exact hy ya
    refine P.up G _ F1 (.ob c (fs.set j (.sh d))) s2 (Same.refl _) (fun a o q => ?_) (fun a q => .inl q) (fun a o nf q => ?_) ?_ (fun a y => ?_) (fun _ => rfl) es
    · rw [upd_ne (ne_of_none q gp)]; exact gh _ _ q
    · rw [upd_ne]
      · exact q
      · intro e; subst e; exact nf f
    · have hs := (rr.mono (H' := upd H p (.ins C dx ((cF c).zip (vs.set j v)))) (Same.refl _) (fun a o y q _ => keep F' n a o y q)).setv j (F1 := fun _ => False) (Hd.sh r) (fun _ z => z.elim)
      exact .ob f hm upd_same (F' := fun a => F' a ∨ False) (fun y => y.elim n id) (fun a y => y.elim (sF a) False.elim) hs
    · refine ⟨(P.fr a y).1, ?_, .inl y⟩
      by_cases e : a = p
      · subst e; rw [upd_same]; simp
      · rw [upd_ne e]; exact (P.fr a y).2.2.1
def sAugF (i : Nat) (rp : Pth) (c j : Nat) (f : Ex) : Sm := fun Γ => match gP i rp Γ with
  | some (.ob c' fs) => if c' = c then (match fs[j]? with
    | some (.sh (.int a)) => (f Γ).bind fun d => match d with
      | .int b => upP i rp (.ob c (fs.set j (.sh (.int (a + b))))) Γ
      | _ => none
    | _ => none) else none
  | _ => none
theorem s_augF {c j : Nat} {C : Addr} {x : Str} {tpos : Pos} (ck : CK X.K X.mg c C) (hp : PL X o i rp) (he : E X e f) (hj : (cF c)[j]? = some x := by rfl) (nd : (cF c).Nodup := by decide +kernel) :
    S X (.AugAssign (.Attribute o x tpos) .Add e pos) (sAugF i rp c j f) := by
  obtain ⟨t, t1, t2⟩ := he.ex
  obtain ⟨u, u1, u2⟩ := hp.ex
  refine ⟨⟨_, ps_fldaug u1 t1 in_add, fun G0 H0 Z Γ σ G H D r R hf k => ?_⟩⟩
  unfold sAugF at hf
  cases q : gP i rp Γ with
  | none => rw [q] at hf; cases hf
  | some par =>
    rw [q] at hf
    cases par with
    | ob c' fls =>
      replace hf : (if c' = c then (match fls[j]? with
        | some (.sh (.int a)) => (f Γ).bind fun d => match d with
          | .int b => upP i rp (.ob c (fls.set j (.sh (.int (a + b))))) Γ
          | _ => none
        | _ => none) else none) = some r := hf
      split at hf
      · rename_i hc
        subst hc
        split at hf
        · rename_i a0 hfa
          obtain ⟨d, e1, hf⟩ := obind hf
          cases d with
          | int b0 =>
            replace hf : upP i rp (.ob c' (fls.set j (.sh (.int (a0 + b0))))) Γ = some r := hf
            obtain ⟨s, s2, a1, a2, rfl⟩ := upP_some hf
            obtain ⟨s', b1, b2, b3⟩ := gP_some q (by simp [SlP])
            rw [a1] at b1
            cases b1
            refine u2 G0 H0 Z Γ σ G H G H _ s _ R (Ext.refl R.gh) a1 b2 b3 (by simp) fun v0 pk => ?_
            obtain ⟨F0, P0⟩ := pk G H (Ext.refl R.gh)
            obtain ⟨p, C1, dx, vs, v1, F2, rfl, hm, ho, e2, P1⟩ := P0.fld b2 hfa
            rw [ck.hm] at hm
            cases hm
            have hv1 := P1.hd
            cases hv1 with
            | sh rv =>
              rw [rv.intv] at e2
              refine ⟨p, _, dx, _, .int a0, rfl, ho, ck.cl, ck.na x (List.mem_of_getElem? hj), zip_lookup nd hj e2, ?_⟩
              refine t2 G0 H0 Z Γ σ G H _ _ R e1 fun G1 H1 w x1 r1 => ?_
              rw [r1.intv]
              refine ⟨a0, b0, rfl, rfl, ?_⟩
              obtain ⟨F3, P3⟩ := pk G1 H1 x1
              obtain ⟨p', C2, dx2, vs2, ep, hm2, ho2, RR⟩ := P3.setSh x1.gh hj nd (v := .int (a0 + b0)) (.int _) ((List.getElem?_eq_some_iff.mp hfa).1) a2
              cases ep
              rw [ck.hm] at hm2
              cases hm2
              exact ⟨dx2, _, ho2, zip_short, k σ G1 _ RR⟩
          | _ => cases hf
        · cases hf
      · cases hf
    | _ => cases hf

/-! del P[k] -/
def sDelI (i : Nat) (rp : Pth) (f : Ex) : Sm := fun Γ => match gP i rp Γ with
  | some (.ow xs) => (f Γ).bind fun d => match d with
    | .int k => if -(2 ^ 63) ≤ k ∧ k < 2 ^ 63 then (seqIndex? k xs.length).bind fun m => upP i rp (.ow (xs.eraseIdx m)) Γ else none
    | _ => none
  | _ => none
theorem RepL.eraseIdx {K : PySem.W.Frag} {mg : Str → Option Value} {G : Hp} : ∀ (i : Nat) {vs : List V} {ds : List D}, RepL K mg G vs ds → RepL K mg G (vs.eraseIdx i) (ds.eraseIdx i)
  | _, _, _, .nil => .nil
  | 0, _, _, .cons _ r => r
  | i + 1, _, _, .cons h r => .cons h (r.eraseIdx i)
theorem s_delI {tpos : Pos} (hp : PL X o i rp) (he : E X e f) : S X (.Delete [.Subscript o e tpos] pos) (sDelI i rp f) := by
  obtain ⟨t, t1, t2⟩ := he.ex
  obtain ⟨u, u1, u2⟩ := hp.ex
  refine ⟨⟨_, ps_delL u1 t1, fun G0 H0 Z Γ σ G H D r R hf k => ?_⟩⟩
  unfold sDelI at hf
  cases q : gP i rp Γ with
  | none => rw [q] at hf; cases hf
  | some par =>
    rw [q] at hf
    cases par with
    | ow xs =>
      obtain ⟨d, e1, hf⟩ := obind hf
      cases d with
      | int j =>
        replace hf : (if -(2 ^ 63) ≤ j ∧ j < 2 ^ 63 then (seqIndex? j xs.length).bind fun m => upP i rp (.ow (xs.eraseIdx m)) Γ else none) = some r := hf
        split at hf
        · rename_i hj
          obtain ⟨m, e3, hf⟩ := obind hf
          obtain ⟨s, s2, a1, a2, rfl⟩ := upP_some hf
          obtain ⟨s', b1, b2, b3⟩ := gP_some q (by simp [SlP])
          rw [a1] at b1
          cases b1
          refine u2 G0 H0 Z Γ σ G H G H _ s _ R (Ext.refl R.gh) a1 b2 b3 (by simp) fun v pk => ?_
          refine t2 G0 H0 Z Γ σ G H _ _ R e1 fun G1 H1 w x1 r1 => ?_
          obtain ⟨F1, p1⟩ := pk G1 H1 x1
          obtain ⟨l, vs, rfl, d1, d2, d3⟩ := p1.list x1.gh
          rw [r1.intv]
          refine ⟨l, vs, j, m, rfl, rfl, d1, hj.1, hj.2, by rw [d2.length]; exact e3, ?_⟩
          exact k σ G1 _ (d3 _ _ _ (RepL.eraseIdx m d2) a2)
        · cases hf
      | _ => cases hf
    | _ => cases hf

/-! P.insert(k, e), P.extend(e) -/
def sIns (i : Nat) (rp : Pth) (k f : Ex) : Sm := fun Γ => (k Γ).bind fun j => (f Γ).bind fun d => match gP i rp Γ, j with
  | some (.ow xs), .int j => if xs.length < 1000000 ∧ 0 ≤ j ∧ j < 2 ^ 63 then upP i rp (.ow (xs.take j.toNat ++ [d] ++ xs.drop j.toNat)) Γ else none
  | _, _ => none
theorem s_ins {ap : Pos} (hp : PL X o i rp) (hk : E X a k) (he : E X e f) (hst : starEach [a, e] X.env = (false, eval a X.env) :: starEach [e] X.env := by rfl) (hst2 : starEach [e] X.env = (false, eval e X.env) :: starEach [] X.env := by rfl)
    (hpe : ∀ {r : V → List V → Hp → VK → Prop} {to : TE} {ta : TA}, MtR X "list.insert" r → PE X o to → PA X [a, e] ta → PE X (.Call (.Attribute o "insert" ap) [a, e] [] pos) (tBM X.K "list" r to ta) := by intro r to ta hm ho hp; exact pe_bm PySem.F.plainAttrs_list PySem.F.slot_list_insert PySem.F.type_list_insert hm ho hp)
    (hs : swapsWith (.Call (.Attribute o "insert" ap) [a, e] [] pos) none pos'.line X.env = pure false := by rfl) : S X (.Expr (.Call (.Attribute o "insert" ap) [a, e] [] pos) pos') (sIns i rp k f) := by
  obtain ⟨t, h1, h2⟩ := he.ex
  obtain ⟨w, w1, w2⟩ := hk.ex
  obtain ⟨u, u1, u2⟩ := hp.ex
  refine ⟨⟨_, ps_expr (hpe mt_insert u1 (pa_cons w1 (pa_cons h1 pa_nil hst2) hst)) hs, fun G0 H0 Z Γ σ G H D r R hf kk => ?_⟩⟩
  obtain ⟨j, e1, hf⟩ := obind hf
  obtain ⟨d, e2, hf⟩ := obind hf
  cases q : gP i rp Γ with
  | none => rw [q] at hf; cases hf
  | some s1 =>
    rw [q] at hf
    cases s1 with
    | ow xs =>
      cases j with
      | int j =>
        replace hf : (if xs.length < 1000000 ∧ 0 ≤ j ∧ j < 2 ^ 63 then upP i rp (.ow (xs.take j.toNat ++ [d] ++ xs.drop j.toNat)) Γ else none) = some r := hf
        split at hf
        · rename_i hl
          obtain ⟨s, s2, a1, a2, rfl⟩ := upP_some hf
          obtain ⟨s', b1, b2, b3⟩ := gP_some q (by simp [SlP])
          rw [a1] at b1
          cases b1
          refine u2 G0 H0 Z Γ σ G H G H _ s _ R (Ext.refl R.gh) a1 b2 b3 (by simp) fun v pk => ?_
          obtain ⟨F0, p0⟩ := pk G H (Ext.refl R.gh)
          obtain ⟨l0, vs0, rfl, c1, c2, _⟩ := p0.list R.gh
          refine ⟨.inl ⟨rfl, _, SqL.of c1⟩, ?_⟩
          refine w2 G0 H0 Z Γ σ G H _ _ R e1 fun G1 H1 z x1 r1 => ?_
          refine h2 G0 H0 Z Γ σ G1 H1 _ _ (R.ext x1) e2 fun G2 H2 y x2 r2 => ?_
          obtain ⟨F1, p1⟩ := pk G2 H2 (x1.trans x2)
          obtain ⟨l, vs, el, d1, d2, d3⟩ := p1.list x2.gh
          cases el
          rw [r1.intv]
          refine ⟨_, vs, j, y, rfl, rfl, d1, by rw [d2.length]; exact Nat.lt_of_lt_of_le hl.1 line_big, hl.2.1, hl.2.2, ?_⟩
          exact kk σ G2 _ (d3 _ _ _ (((d2.take _).append (.cons r2 .nil)).append (d2.drop _)) a2)
        · cases hf
      | _ => cases hf
    | _ => cases hf
def sExt (i : Nat) (rp : Pth) (f : Ag) : Sm := fun Γ => (f Γ).bind fun ds => match gP i rp Γ with
  | some (.ow xs) => if xs.length + ds.length < 1000000 then upP i rp (.ow (xs ++ ds)) Γ else none
  | _ => none
theorem s_ext {ap : Pos} (hp : PL X o i rp) (he : EL X e fs) (hst : starEach [e] X.env = (false, eval e X.env) :: starEach [] X.env := by rfl)
    (hpe : ∀ {r : V → List V → Hp → VK → Prop} {to te : TE}, MtR X "list.extend" r → PE X o to → PE X e te → PE X (.Call (.Attribute o "extend" ap) [e] [] pos) (tBM X.K "list" r to (tCons te tNil)) := by intro r to te hm ho hp; exact pe_bm PySem.F.plainAttrs_list PySem.F.slot_list_extend PySem.F.type_list_extend hm ho (pa_cons hp pa_nil))
    (hs : swapsWith (.Call (.Attribute o "extend" ap) [e] [] pos) none pos'.line X.env = pure false := by rfl) : S X (.Expr (.Call (.Attribute o "extend" ap) [e] [] pos) pos') (sExt i rp fs) := by
  obtain ⟨t, h1, h2⟩ := he.ex
  obtain ⟨u, u1, u2⟩ := hp.ex
  refine ⟨⟨_, ps_expr (hpe mt_extend u1 h1) hs, fun G0 H0 Z Γ σ G H D r R hf k => ?_⟩⟩
  obtain ⟨ds, e1, hf⟩ := obind hf
  cases q : gP i rp Γ with
  | none => rw [q] at hf; cases hf
  | some s1 =>
    rw [q] at hf
    cases s1 with
    | ow xs =>
      replace hf : (if xs.length + ds.length < 1000000 then upP i rp (.ow (xs ++ ds)) Γ else none) = some r := hf
      split at hf
      · rename_i hl
        obtain ⟨s, s2, a1, a2, rfl⟩ := upP_some hf
        obtain ⟨s', b1, b2, b3⟩ := gP_some q (by simp [SlP])
        rw [a1] at b1
        cases b1
        refine u2 G0 H0 Z Γ σ G H G H _ s _ R (Ext.refl R.gh) a1 b2 b3 (by simp) fun v pk => ?_
        obtain ⟨F0, p0⟩ := pk G H (Ext.refl R.gh)
        obtain ⟨l0, vs0, rfl, c1, c2, _⟩ := p0.list R.gh
        refine ⟨.inl ⟨rfl, _, SqL.of c1⟩, ?_⟩
        refine h2 G0 H0 Z Γ σ G H _ _ R e1 fun G1 H1 q vs x1 hq gq hv rv => ?_
        obtain ⟨F1, p1⟩ := pk G1 H1 x1
        obtain ⟨l, ws, el, d1, d2, d3⟩ := p1.list x1.gh
        cases el
        refine ⟨_, q, ws, vs, rfl, rfl, d1, hv, by rw [d2.length, rv.length]; exact Nat.le_trans (Nat.le_of_lt hl) line_big, ?_⟩
        exact k σ G1 _ (d3 _ _ _ (d2.append rv) a2)
      · cases hf
    | _ => cases hf
end
end DL

namespace DL
open PySem L2
variable [TC : TabCtx]
/-- isinstance(x, C), C a class of the program -/
structure CI (K : PySem.W.Frag) (mg : Str → Option Value) (c : Nat) (C : Addr) : Prop where
  hm : mg (cN c) = some (.ref C)
  cl : Cls K C
  ha : PySem.W.findIn K (.ref C) "__class__" = some (some (.builtin "object.__class__"))
  hn : PySem.W.specialIn K (.builtin "object.__class__") "__get__" = some (some (.builtin "getset_descriptor.__get__"))
  ht : PySem.W.takesIn K (.builtin "object.__class__") = some true
  hr : PySem.W.mroIn K C (.type "object") = some true
def dIsiC (c : Nat) : D → Option D
  | .obj c' _ => if c' = c then some (.bl true) else none
  | _ => none
section
variable {X : Cx} {a : Expr} {f : Ex} {pos : Pos}
theorem e_isiC {c : Nat} {C : Addr} {x : Str} {p p2 : Pos} (ci : CI X.K X.mg c C) (hg : Gl X x) (hm : X.mg x = none) (hv : bootBuiltins x = some (.builtin "isinstance")) (ha : B X a f)
    (hgy : Gl X (cN c) := by rfl) (hn : x ≠ "__name__" := by decide) (hdb : (x == ("__debug__" : Str)) = false := by decide) (hdby : (cN c == ("__debug__" : Str)) = false := by decide)
    (he : starEach [a, .Name (cN c) p2] X.env = (false, eval a X.env) :: starEach [.Name (cN c) p2] X.env := by rfl) (hpl : (backTo pos (starEach [.Name (cN c) p2] X.env)).any (·.1) = false := by rfl) (he2 : starEach [.Name (cN c) p2] X.env = (false, eval (.Name (cN c) p2) X.env) :: starEach [] X.env := by rfl) :
    E X (.Call (.Name x p) [a, .Name (cN c) p2] [] pos) (gU (dIsiC c) f) := by
  obtain ⟨t, h1, h2⟩ := ha.ex
  refine ⟨⟨_, pe_callB call_isi hg hm hv (pa_cons h1 (pa_cons (pe_glob (v := .ref C) hgy ci.hm rfl hdby) pa_nil he2) he) hn hdb he hpl, fun G0 H0 Z Γ σ G H Q d R hf k => ?_⟩⟩
  obtain ⟨y, e1, hv'⟩ := obind hf
  clear hf
  refine h2 G0 H0 Z Γ σ G H _ y R e1 fun G1 H1 v x1 r1 => ?_
  cases y with
  | obj c' ds =>
    replace hv' : (if c' = c then some (D.bl true) else none) = some d := hv'
    split at hv'
    · rename_i cz
      subst cz
      cases hv'
      obtain ⟨q, C', dx, vs, rfl, hm', hp, _⟩ := r1.objAt x1.gh
      rw [ci.hm] at hm'
      cases hm'
      refine ⟨_, _, .ref C, .ref C, true, rfl, .own C, .base (.ins hp ci.cl ci.ha ci.hn ci.ht ci.hr), ?_, k G1 H1 _ x1 (.bl true)⟩
      unfold PySem.W.kitOne
      rw [if_pos (beq_self_eq_true _)]
    · cases hv'
  | _ => cases hv'
end
end DL

namespace DL
open PySem L2
variable [TC : TabCtx]

/-! ### objects that are made of things that are only looked at -/
open Classical in
noncomputable abbrev maskH (Fp : Addr → Prop) (H : Hp) : Hp := fun a => if Fp a then none else H a
def spMK (K : PySem.W.Frag) (mg : Str → Option Value) (ms : List Bool) (F : Sl → List D → Option (D × Sl)) : Sp := fun vs H Q _ =>
  ∃ v0 args G s ds d s' Fp, vs = v0 :: args ∧ Same G H ∧ TC.ti.t G H ∧ Hd K mg G H v0 Fp s ∧ (∀ a, Fp a → G a = none ∧ H a ≠ none ∧ ¬ TC.ti.tz a) ∧ RepM K mg G (maskH Fp H) ms args ds ∧ F s ds = some (d, s') ∧
    ∀ G' H' v Fp', Same G G' → Same G' H' → TC.ti.t G' H' → (∀ a, ¬ Fp a → H a ≠ none → H' a ≠ none) → (∀ a, G' a ≠ none → G a ≠ none ∨ H a = none ∨ Fp a) → (∀ a o, ¬ Fp a → H a = some o → NT o → H' a = some o) → Rep K mg G' v d → Hd K mg G' H' v0 Fp' s' → (∀ a, Fp' a → G' a = none ∧ H' a ≠ none ∧ (Fp a ∨ H a = none)) → Q v H'
def runMK (ms : List Bool) (n : Nat) (B : Sm) : Sl → List D → Option (D × Sl) := fun s ds => (B (s :: slM ms ds ++ List.replicate (n - (ms.length + 1)) .no)).bind fun r => match r with
  | .rm d s' => if isOwn s' then some (d, s') else none
  | .nx Γ => (Γ[0]?).bind fun s' => if isOwn s' then some (.non, s') else none
  | _ => none
section
variable {P : Program} {w : World} {K : PySem.W.Frag} {mg : Str → Option Value} {base : Heap}
theorem startMK_rel {G H : Hp} {N : List Str} {v0 : V} {vs : List V} {s : Sl} {ds : List D} {ms : List Bool} {Fp : Addr → Prop} (gh : Same G H) (tb : TC.ti.t G H) (hd : Hd K mg G H v0 Fp s) (fr : ∀ a, Fp a → G a = none ∧ H a ≠ none ∧ ¬ TC.ti.tz a) (r : RepM K mg G (maskH Fp H) ms vs ds) :
    Rel K mg G (maskH Fp H) ⟨TC.ti.tz, some v0, TC.ti⟩ (s :: slM ms ds ++ List.replicate (N.length - (ms.length + 1)) .no) (L2.start N (v0 :: vs)) G H := by
  obtain ⟨hv, hdl⟩ := r.len
  have hl := slM_len hdl
  unfold L2.start
  refine ⟨by simp [hl, hv], gh, fun a o q _ => ?_, Same.refl _, fun a h => .inl h, fun a z => (TC.ti.live tb a z).1, fun v s' e1 _ _ => by cases e1; simp, tb, fun _ h => h, rfl, fun a h => by
    by_cases x : Fp a
    · simp [maskH, x] at h
    · simpa [maskH, x] using h, fun i a => i = 0 ∧ Fp a, fun i a z => ⟨(fr a z.2).1, by simp [maskH, z.2], (fr a z.2).2.1, (fr a z.2).2.2⟩, fun i j a z1 z2 => z1.1.trans z2.1.symm, fun i s' h => ?_⟩
  · unfold maskH at q
    split at q
    · cases q
    · exact q
  · cases i with
    | zero =>
      simp at h
      subst h
      exact .inr (.inl ⟨v0, by simp, hd.wide fun a x => ⟨rfl, x⟩⟩)
    | succ i =>
      have e : N.length - (ms.length + 1) = (N.length - 1) - ms.length := by omega
      rw [List.cons_append, List.getElem?_cons_succ, e] at h
      by_cases hi : i < ms.length
      · rw [List.getElem?_append_left (by omega)] at h
        obtain ⟨v, d, e1, e2⟩ := r.get i h
        have st : ((v0 :: vs).map some ++ List.replicate (N.length - (v0 :: vs).length) none)[i + 1]? = some (some v) := by
          rw [List.map_cons, List.cons_append, List.getElem?_cons_succ, List.getElem?_append_left (by simp; omega), List.getElem?_map, e1]
          rfl
        rcases e2 with ⟨rfl, e2⟩ | ⟨rfl, e2⟩
        · exact .inr (.inl ⟨v, st, .sh e2⟩)
        · exact .inr (.inr ⟨v, d, rfl, st, e2⟩)
      · rw [List.getElem?_append_right (by omega), List.getElem?_replicate] at h
        split at h
        · cases h; exact .inl rfl
        · cases h
open Classical in
theorem def_okMK {x qual : Str} {st : Stmt} {f : Addr} {fd : FuncData} {N ps : List Str} {k : Nat} {B : Sm} {ms : List Bool} (F : Fun K x qual st f fd) (S : FnScope N ps (defScope st)) (hps : ps.length = ms.length + 1)
    (hbody : ∀ (cdv : Value) (A : Around) (outer : List PySem.Env) (s : Shared) (H : Hp) (E : XK), Room k (A.deeper (PyProof.Rows.envOfC qual (defScope st) s.heap.objs.size f cdv)) →
      Ss (cxOf CX0 P w K mg base N qual (defScope st) f cdv A outer s H E).nox (defBody st) B) : FnOk P w K mg base CX0 (k + 1) f fd ps (spMK K mg ms (runMK ms N.length B)) := by
  refine F.ok S (fun vs H Q E h => ?_) (fun cdv A outer s H vs Q E hr h => ?_)
  · obtain ⟨v0, args, G, s, ds, d, s', Fp, rfl, _, _, _, _, r, _⟩ := h
    simp [r.len.1, hps]
  · obtain ⟨v0, args, G, sl, ds, d, s', Fp, rfl, gh, tb, hd, fr, r, hf, kk⟩ := h
    obtain ⟨t, h1, h2⟩ := (hbody cdv A outer s H E hr).ex
    refine ⟨t, h1, ?_⟩
    obtain ⟨r1, e1, hf⟩ := obind hf
    have R := startMK_rel (N := N) gh tb hd fr r
    have fin : ∀ (Γ : DEnv) (σ : L2.St) (G' H' : Hp) (v : V), Rel K mg G (maskH Fp H) ⟨TC.ti.tz, some v0, TC.ti⟩ Γ σ G' H' → Γ[0]? = some s' → isOwn s' = true → Rep K mg G' v d → Q v H' := fun Γ σ G' H' v R' e0 ns rv => by
      have es := R'.an v0 s' rfl e0 ns
      obtain ⟨own, o1, o2, o3⟩ := R'.own
      rcases o3 0 s' e0 with z | ⟨v', z1, z2⟩ | ⟨_, _, z, _⟩
      · rw [z] at ns; cases ns
      rotate_left
      · rw [z] at ns; cases ns
      · rw [es] at z1
        cases z1
        refine kk G' H' v (own 0) R'.gg R'.gh R'.tbc (fun a nf h => R'.hn a (by simpa [nf] using h)) (fun a q => ?_) (fun a o nf q n => R'.hh a o (by simp [nf, q]) n) rv z2 fun a y => ?_
        · rcases R'.new a q with z | z
          · exact .inl z
          · by_cases fa : Fp a
            · exact .inr (.inr fa)
            · simp [fa] at z
              exact .inr (.inl z)
        · obtain ⟨w1, w2, w3, w4⟩ := o1 0 a y
          refine ⟨w1, w3, ?_⟩
          by_cases fa : Fp a
          · exact .inl fa
          · simp [fa] at w2
            exact .inr w2
    refine h2 G _ _ _ _ G H _ r1 R e1 ?_
    cases r1 with
    | rm d' s2 =>
      replace hf : (if isOwn s2 then some (d', s2) else none) = some (d, s') := hf
      split at hf
      · rename_i ns
        cases hf
        exact fun Γ σ G' H' v R' e0 rv => fin Γ σ G' H' v R' e0 ns rv
      · cases hf
    | nx Γ =>
      obtain ⟨s2, e2, hf⟩ := obind hf
      split at hf
      · rename_i ns
        cases hf
        exact fun σ' G' H' R' => fin Γ σ' G' H' _ R' e2 ns .non
      · cases hf
    | rt d => cases hf
    | ro s => cases hf
    | bk Γ => cases hf
    | ct Γ => cases hf
end
structure MakK (P : Program) (w : World) (K : PySem.W.Frag) (mg : Str → Option Value) (base : Heap) (c L : Nat) (ps : List Str) (ms : List Bool) (S : Sl → List D → Option (D × Sl)) : Prop where
  ex : ∃ C f fd p0 ps', ps = p0 :: ps' ∧ mg (cN c) = some (.ref C) ∧ Mk K C f ∧ FnOk P w K mg base CX0 L f fd ps (spMK K mg ms S) ∧ Binds K fd ps []
section
variable {X : Cx} {a : Expr} {es : List Expr} {fs : Ag} {pos p : Pos}
theorem make_okK {c : Nat} {C : Addr} {ms : List Bool} {S : Sl → List D → Option (D × Sl)} {t : TA} (hm : X.mg (cN c) = some (.ref C))
    (h2 : ∀ (G0 H0 : Hp) (Z : Zs) (Γ : DEnv) (σ : L2.St) (G H : Hp) (Q : List V → Hp → Prop) (ds : List D), Rel X.K X.mg G0 H0 Z Γ σ G H → fs Γ = some ds → (∀ G' H' vs, Ext G H G' H' → RepM X.K X.mg G' H' ms vs ds → Q vs H') → t σ H Q) :
    ∀ (G0 H0 : Hp) (Z : Zs) (Γ : DEnv) (σ : L2.St) (G H : Hp) (Q : VK) (s : Sl), Rel X.K X.mg G0 H0 Z Γ σ G H → gMk c S fs Γ = some s → (∀ G' H' v F, Ext G H G' H' → Hd X.K X.mg G' H' v F s → (∀ a, F a → G' a = none ∧ H a = none ∧ H' a ≠ none) → Q v H') → tMake C (spMK X.K X.mg ms S) [] E0 t σ H Q := by
  intro G0 H0 Z Γ σ G H Q s R hf k
  obtain ⟨ds, e1, hf⟩ := obind hf
  obtain ⟨⟨d, s'⟩, e2, hf⟩ := obind hf
  have hd : d = .non ∧ s' = s := by
    cases d with
    | non => cases hf; exact ⟨rfl, rfl⟩
    | _ => cases hf
  obtain ⟨rfl, rfl⟩ := hd
  refine h2 G0 H0 Z Γ σ G H _ ds R e1 fun G1 H1 vs x1 r1 => ?_
  intro x dx nx ndx ne
  have gx : G1 x = none := x1.gh.free nx
  have Hx : H x = none := x1.hf nx
  have T1 := (R.ext x1).tbc
  have keep : ∀ b o, H1 b = some o → upd (upd H1 dx (.own x)) x (.ins C dx []) b = some o := fun b o q => by
    rw [upd_ne (ne_of_none q nx), upd_ne (ne_of_none q ndx)]; exact q
  refine ⟨.ref x, vs, G1, .ob c [], ds, .non, s', fun b => b = x, by rw [List.append_nil], fun b o q => keep b o (x1.gh _ _ q), TC.ti.keep T1 (Same.refl _) (fun a h => same_at (fun b o q => keep b o q) (TC.ti.live T1 a h).1) (fun _ _ g => g), ?_, fun b e => by subst e; exact ⟨gx, by rw [upd_same]; simp, fun z => (TC.ti.live T1 _ z).1 nx⟩, r1.ext (Ext.same (Same.refl _) (fun b o q => ?_) (fun b o q => ?_) fun b q => .inl q), e2, ?_⟩
  · exact .ob (F' := fun _ => False) (dx := dx) (vs := []) rfl hm (by rw [upd_same, List.zip_nil_right]) (fun z => z) (fun _ z => z.elim) .nil
  · unfold maskH
    rw [if_neg (fun e => by subst e; rw [nx] at q; cases q)]
    exact keep b o q
  · unfold maskH
    rw [if_neg (fun e => by subst e; rw [gx] at q; cases q)]
    exact keep b o (x1.gh _ _ q)
  · intro G' H' v Fp' gg gh tb' hn' nw kp rv hv fr
    cases rv
    have keep' : ∀ b o, H b = some o → NT o → upd (upd H1 dx (.own x)) x (.ins C dx []) b = some o := fun b o q n => keep b o (x1.hh b o q n)
    have kn : ∀ b, H1 b ≠ none → upd (upd H1 dx (.own x)) x (.ins C dx []) b ≠ none := fun b h => nn (fun b o q => keep b o q) h
    refine ⟨rfl, k G' H' (.ref x) Fp' ⟨x1.gg.trans gg, fun b o q n => ?_, gh, fun b q => ?_, fun b h => hn' b (fun e => by subst e; exact h Hx) (kn b (x1.hn b h)), fun _ => tb'⟩ hv fun b y => ?_⟩
    · exact kp b o (fun e => by subst e; rw [Hx] at q; cases q) (keep' b o q n) n
    · rcases nw b q with z | z | z
      · exact x1.new b z
      · refine .inr ?_
        cases e : H b with
        | none => rfl
        | some o => exact absurd z (kn b (x1.hn b (by rw [e]; simp)))
      · subst z; exact .inr Hx
    · obtain ⟨w1, w2, w3⟩ := fr b y
      refine ⟨w1, ?_, w2⟩
      rcases w3 with z | z
      · subst z; exact Hx
      · cases e : H b with
        | none => rfl
        | some o => exact absurd z (kn b (x1.hn b (by rw [e]; simp)))
theorem e_mkCK {c k L : Nat} {ps : List Str} {ms : List Bool} {S : Sl → List D → Option (D × Sl)} (m : MakK X.prog X.w X.K X.mg X.base c L ps ms S) (hr : Room k X.A) (hk : L + 1 ≤ k)
    (ha : AM X (a :: es) ms fs) (hg : Gl X (cN c) := by rfl) (hdb : (cN c == ("__debug__" : Str)) = false := by decide) (he : starEach (a :: es) X.env = (false, eval a X.env) :: starEach es X.env := by rfl) (hpl : (backTo pos (starEach es X.env)).any (·.1) = false := by rfl) :
    EN X (.Call (.Name (cN c) p) (a :: es) [] pos) (gMk c S fs) := by
  obtain ⟨C, f, fd, q0, ps', rfl, h1, h2, h3, h4⟩ := m.ex
  obtain ⟨t, t1, t2⟩ := ha.ex
  exact ⟨⟨_, pe_make h2 h3 (hr.mono hk) hg h1 h4 .nil pass0 t1 hdb he hpl, make_okK h1 t2⟩⟩
end
end DL

namespace DL
open PySem PySem.Spec PyProof.Rows L2
variable [TC : TabCtx]

/-! ### list(enumerate(xs)) -/
def EnumAt (h : Heap) (e it : Addr) (i : Nat) : Prop := (∃ old, IsEnum h e it ((i : Nat) : Int) old) ∨ ∃ old T f oT, IsEnumHeld h e it ((i : Nat) : Int) old T f ∧ h.get? T = some oT ∧ T ≠ e ∧ T ≠ it
/-- the pairs that are made so far, in the list at q -/
structure Built (K : PySem.W.Frag) (H0 : Hp) (a q : Addr) (xs : List V) (i : Nat) (Ts : List Addr) (H : Hp) : Prop where
  len : Ts.length = i
  lst : H q = some (.lst (Ts.map V.ref))
  keep : ∀ b o, H0 b = some o → H b = some o
  new : ∀ b, H b ≠ none → H0 b ≠ none ∨ b = q ∨ b ∈ Ts
  tup : ∀ j T, Ts[j]? = some T → H0 T = none ∧ T ≠ q ∧ ∃ x, xs[j]? = some x ∧ H T = some (.tup [.int (j : Nat), x])
  q0 : H0 q = none
  src : SqL K H0 a xs
section
variable {X : Cx} {pins : List (Addr × Obj)} {σ : L2.St} {A1 : Around} {H0 : Hp} {a q e it : Addr} {xs : List V} {Rs : Result → Shared → Prop}
theorem enum_loop (hh : A1.in1.handled = none) (hne : e ≠ it) (hdone : ∀ Ts H s, Inv X pins σ H s → Built X.K H0 a q xs xs.length Ts H → Rs (.ok (.ret .none)) s) :
    ∀ (m i : Nat) (Ts : List Addr) (H : Hp) (s : Shared), i + m = xs.length → Inv X pins σ H s → Built X.K H0 a q xs i Ts H → EnumAt s.heap e it i → s.heap.IsListIter it a i → (∀ b ∈ [e, it], FpOk X pins H b) →
      codeAny (model X.prog X.w) A1 (.builtin "list.extend.loop" ⟨[.ref q, .ref e, .none], []⟩) Rs s := by
  intro m
  induction m with
  | zero =>
    intro i Ts H s hi I B st hit hf
    obtain ⟨its, rv, pl, hz⟩ := I.list ((show Same H0 H from B.keep).seq B.src)
    have hl := rv.length
    have hx : its.toArray[i]? = none := by rw [Array.getElem?_eq_none (by simp; omega)]
    obtain ⟨f0, f1, f2, f3, f4, f5⟩ := hf it (by simp)
    refine codeAny_builtin PySem.F.entry_extend_loop ?_
    rw [Around.under_plainId PySem.F.plain_extend_loop _]
    show wpAny _ A1.in1 (pyNext (.ref e) >>= _) _ _ s
    have fin : ∀ h' : Heap, Heap.ExtBut it s.heap h' → Rs (.ok (.ret .none)) { s with heap := h' } := fun h' eb => by
      have I1 := I.turned (t' := s.toks) (fun b o hb k => eb b o hb k) f0 f1 f3 f4 f5
      have e2 : i = xs.length := by omega
      rw [e2] at B
      exact hdone Ts H _ I1 B
    rcases st with ⟨old, he⟩ | ⟨old, T, f, oT, he, hT, r1, r2⟩
    · exact wpAny_bind (wpAny_pyNext_enum_end hh he hit pl.isList hx fun h' eb => wpAny_pure (fin h' eb))
    · exact wpAny_bind (wpAny_pyNext_enum_end_held hh he hit pl.isList hx fun h' eb => wpAny_pure (fin h' eb))
  | succ m ih =>
    intro i Ts H s hi I B st hit hf
    obtain ⟨its, rv, pl, hz⟩ := I.list ((show Same H0 H from B.keep).seq B.src)
    have hl := rv.length
    obtain ⟨x, hx⟩ : ∃ x, xs[i]? = some x := ⟨_, List.getElem?_eq_getElem (by omega)⟩
    obtain ⟨u, hu, ru⟩ := rv.get hx
    have hil : it < s.heap.objs.size := by obtain ⟨_, k, _⟩ := hit; exact Heap.lt_size k
    refine codeAny_builtin PySem.F.entry_extend_loop ?_
    rw [Around.under_plainId PySem.F.plain_extend_loop _]
    show wpAny _ A1.in1 (pyNext (.ref e) >>= _) _ _ s
    have go : ∀ h' : Heap, EnumAt h' e it (i + 1) → h'.IsListIter it a (i + 1) → h'.get? s.heap.objs.size = some { cls := .type "tuple", data := .seq #[.int i s.toks, u] } → e < s.heap.objs.size →
        (∀ b o, b ≠ e → b ≠ it → s.heap.get? b = some o → h'.get? b = some o) →
        wpAny (model X.prog X.w) A1.in1 (updateSeq q (·.push (.ref s.heap.objs.size)) >>= fun _ => again (.builtin "list.extend.loop" ⟨[.ref q, .ref e, .none], []⟩)) (fun fin s' => match fin with | .done f => Rs (.ok f) s' | .again c' => c'.quiet = true ∧ codeAny (model X.prog X.w) A1 c' Rs s') (fun e s' => Rs (.error e) s') { s with heap := h', toks := s.toks + 1 } := fun h' st' hit' hT hel hk => by
      have fr : H s.heap.objs.size = none := I.hok.fresh (Nat.le_refl _)
      have new : ObjOk X.prog X.w (upd H s.heap.objs.size (.tup [.int (i : Nat), x])) h' s.heap.objs.size (.tup [.int (i : Nat), x]) :=
        ⟨by show 2 ≤ sizeLine; decide, [.int i s.toks, u], .cons ⟨_, rfl⟩ (.cons ru .nil), ⟨_, hT, rfl, _, rfl⟩⟩
      have I1 : Inv X pins σ (upd H s.heap.objs.size (.tup [.int (i : Nat), x])) { s with heap := h', toks := s.toks + 1 } :=
        I.turnedNew (ch := [e, it]) (fun b ob hb k => hk b ob (fun z => hb (by simp [z])) (fun z => hb (by simp [z])) k) hf (Nat.le_refl _) new
      have qne : q ≠ s.heap.objs.size := ne_of_none B.lst fr
      have hq1 : upd H s.heap.objs.size (.tup [.int (i : Nat), x]) q = some (.lst (Ts.map V.ref)) := by rw [upd_ne qne]; exact B.lst
      obtain ⟨z, its2, k2, r2, hl2, e2⟩ := I1.lstM hq1
      have l2 : its2.length = i := by rw [← hl2, List.length_map, B.len]
      refine wpAny_bind (wpAny_updateSeq e2 rfl (wpAny_pure ⟨plainId_quiet PySem.F.plain_extend_loop _, ?_⟩) (by show (its2.toArray).size ≤ sizeLine; rw [List.size_toArray]; omega) (by show (its2.toArray.push _).size ≤ sizeLine + 1; rw [Array.size_push, List.size_toArray]; omega))
      have I2 := I1.lset (f := (·.push (Value.ref s.heap.objs.size))) (its' := its2 ++ [.ref s.heap.objs.size]) (ys := Ts.map V.ref ++ [V.ref s.heap.objs.size]) (t' := s.toks + 1) hq1 e2 (by simp) (r2.append (.cons (show L2.RelV (V.ref s.heap.objs.size) (Value.ref s.heap.objs.size) from rfl) .nil)) (by rw [List.length_append, List.length_singleton, List.length_map, B.len]; omega)
      refine ih (i + 1) (Ts ++ [s.heap.objs.size]) _ _ (by omega) I2 ?_ ?_ ?_ ?_
      · refine ⟨by simp [B.len], by rw [upd_same, List.map_append]; rfl, fun b o k => ?_, fun b k => ?_, fun j T k => ?_, B.q0, B.src⟩
        · rw [upd_ne (ne_of_none k B.q0), upd_ne (ne_of_none (B.keep b o k) fr)]
          exact B.keep b o k
        · by_cases c1 : b = q
          · exact .inr (.inl c1)
          · rw [upd_ne c1] at k
            by_cases c2 : b = s.heap.objs.size
            · exact .inr (.inr (by simp [c2]))
            · rw [upd_ne c2] at k
              rcases B.new b k with z | z | z
              · exact .inl z
              · exact .inr (.inl z)
              · exact .inr (.inr (by simp [z]))
        · by_cases c : j < Ts.length
          · rw [List.getElem?_append_left c] at k
            obtain ⟨t1, t2, y, t3, t4⟩ := B.tup j T k
            refine ⟨t1, t2, y, t3, ?_⟩
            rw [upd_ne t2, upd_ne (ne_of_none t4 fr)]
            exact t4
          · rw [List.getElem?_append_right (by omega)] at k
            have e3 : j - Ts.length = 0 := by
              have := (List.getElem?_eq_some_iff.mp k).1
              simp at this
              omega
            rw [e3] at k
            have e4 : T = s.heap.objs.size := by simpa using k.symm
            have e5 : j = i := by rw [← B.len]; omega
            subst e4
            subst e5
            refine ⟨?_, Ne.symm qne, x, hx, by rw [upd_ne (Ne.symm qne), upd_same]⟩
            cases w : H0 s.heap.objs.size with
            | none => rfl
            | some o => rw [B.keep _ _ w] at fr; cases fr
      · have keepq : ∀ b o, b ≠ q → h'.get? b = some o → (h'.update q (Obj.mapSeq (·.push (Value.ref s.heap.objs.size)))).get? b = some o := fun b o hb k => (Heap.get?_update_other h' _ (Ne.symm hb)).trans k
        have eq : e ≠ q := fun z => by have := (hf e (by simp)).1; rw [z, B.lst] at this; cases this
        rcases st' with ⟨old, he⟩ | ⟨old, T, f, oT, he, hTT, r1, r2⟩
        · exact .inl ⟨old, keepq _ _ eq he⟩
        · by_cases c : T = q
          · exact .inr ⟨old, T, f, _, keepq _ _ eq he, by rw [c]; exact PySem.IsL.update e2 _, r1, r2⟩
          · exact .inr ⟨old, T, f, oT, keepq _ _ eq he, keepq _ _ c hTT, r1, r2⟩
      · have iq : it ≠ q := fun z => by have := (hf it (by simp)).1; rw [z, B.lst] at this; cases this
        exact hit'.at fun o k => (Heap.get?_update_other h' _ (Ne.symm iq)).trans k
      · intro b hb
        obtain ⟨f0, f1, f2, f3, f4, f5⟩ := hf b hb
        have hbl : b < s.heap.objs.size := by
          have e' : b = e ∨ b = it := by simpa using hb
          rcases e' with z | z
          · rw [z]; exact hel
          · rw [z]; exact hil
        refine ⟨?_, f1, f2, f3, f4, f5⟩
        rw [upd_ne (fun z => by rw [z, B.lst] at f0; cases f0), upd_ne (Nat.ne_of_lt hbl)]
        exact f0
    have nit : s.heap.objs.size ≠ it := Nat.ne_of_gt hil
    have ec : ((i + 1 : Nat) : Int) = (i : Int) + 1 := by omega
    have hu' : its.toArray[i]? = some u := by simpa using hu
    rcases st with ⟨old, he⟩ | ⟨old, T, f, oT, he, hT, r1, r2⟩
    · have hel := Heap.lt_size he
      exact wpAny_bind (wpAny_pyNext_enum_item he hit pl.isList hu' hne fun h' ho hit' hT hsz hk => go h' (.inr ⟨_, s.heap.objs.size, false, _, by rw [ec]; exact ho, hT, Nat.ne_of_gt hel, nit⟩) hit' hT hel hk)
    · have hel := Heap.lt_size he
      exact wpAny_bind (wpAny_pyNext_enum_item_held he hT r1 r2 hit pl.isList hu' hne fun h' ho hit' hT' hsz hk => go h' (.inr ⟨old, T, true, oT, by rw [ec]; exact ho, hk _ _ r1 r2 hT, r1, r2⟩) hit' hT' hel hk)
theorem hint_enum {prog : Program} {w : World} {A : Around} {E : Value → Shared → Prop} {s : Shared} {r : Addr} {Q : Bool → Shared → Prop} (hT : s.TypeIs (.ref r) "enumerate") (h : Q true s) :
    wpAny (model prog w) A (Builtin.List.listLengthHint (.ref r)) Q E s := by
  have hl : typeLookup (.type "enumerate") "__len__" = pure none := by rw [typeLookup_type, builtinLookup_eq_fast]; kernel_rfl
  have hn0 : typeLookup (.type "enumerate") "__length_hint__" = pure none := by rw [typeLookup_type, builtinLookup_eq_fast]; kernel_rfl
  unfold Builtin.List.listLengthHint
  refine wpAny_bind (wpAny_specialOf hT hl ?_)
  show wpAny _ A (specialOf (Value.ref r) (Str.ofString "__length_hint__") >>= _) _ _ _
  refine wpAny_bind (wpAny_specialOf hT hn0 ?_)
  exact wpAny_pure h
/-- what list(enumerate(xs)) gives -/
def tLE (ta : TA) (K : PySem.W.Frag) : TE := fun σ H Q => ta σ H fun vs H1 => ∃ a xs, vs = [.ref a] ∧ SqL K H1 a xs ∧ ∀ q Ts H', Built K H1 a q xs xs.length Ts H' → Q (.ref q) H'
theorem pe_listEnum {o : Expr} {ta : TA} {p p2 pos pos2 : Pos} (hcm : X.calm = true) (hg : Gl X "list") (hm : X.mg "list" = none) (hge : Gl X "enumerate") (hme : X.mg "enumerate" = none) (ha : PA X [o] ta)
    (hs : starEach [o] X.env = [(false, eval o X.env)] := by rfl) (na : starEach [.Call (.Name "enumerate" p2) [o] [] pos2] X.env = (false, eval (.Call (.Name "enumerate" p2) [o] [] pos2) X.env) :: starEach [] X.env := by rfl) :
    PE X (.Call (.Name "list" p) [.Call (.Name "enumerate" p2) [o] [] pos2] [] pos) (tLE ta X.K) := by
  refine ⟨fun pins s σ H Q I h => ?_⟩
  refine Call_ (ld_blt I hg hm boot_list (PyProof.Rows.callWith_type1 (args_cons (Call_ (ld_blt I hge hme boot_enumerate (PyProof.Rows.callWith_type1 (thn (ha.run pos2 pins s σ H _ I h) fun us s1 ⟨vs, H1, I1, r1, q1⟩ => ?_) hs rfl))) na) na))
  obtain ⟨a, xs, ex, hq, q⟩ := q1
  subst ex
  cases r1 with
  | cons r rr =>
    cases rr
    cases r
    obtain ⟨its, rv, p', hz⟩ := I1.list hq
    refine call_enumerate_list p'.isList fun h' he hit hsz hk => args_nil ?_
    have I2 : Inv X pins σ H1 { s1 with heap := h' } := I1.kept (t' := s1.toks) hk
    have hfp : ∀ b ∈ [s1.heap.objs.size + 1, s1.heap.objs.size], FpOk X pins H1 b := fun b hb => by
      have e' : b = s1.heap.objs.size + 1 ∨ b = s1.heap.objs.size := by simpa using hb
      have hle : s1.heap.objs.size ≤ b := by
        rcases e' with z | z
        · rw [z]; exact Nat.le_add_right _ _
        · rw [z]; exact Nat.le_refl _
      exact I1.fpOk hle (I1.hok.fresh hle)
    -- list(..)
    refine callType_codes (Q₁ := fun obj s₁ => obj = .ref h'.objs.size ∧ s₁ = { s1 with heap := h'.push { cls := .type "list", data := .seq #[] } }) PySem.F.called_list (PySem.F.typeCall_list_1 _) PySem.F.entry_list_init
      (code_list_new _ ⟨rfl, rfl⟩) fun obj s₁ h₁ => ?_
    obtain ⟨rfl, rfl⟩ := h₁
    have hS : (h'.push { cls := .type "list", data := .seq #[] }).get? h'.objs.size = some { cls := .type "list", data := .seq #[] } := Heap.get?_push_size _ rfl
    refine ⟨⟨_, hS, rfl⟩, PySem.F.args_list_init_2 _ _, ?_⟩
    have fr : H1 h'.objs.size = none := I2.hok.fresh (Nat.le_refl _)
    have J1 : Inv X pins σ (upd H1 h'.objs.size (.lst [])) { s1 with heap := h'.push { cls := .type "list", data := .seq #[] } } := I2.lnew (its := []) (t' := s1.toks) .nil (Nat.zero_le _)
    show wpAny _ _ (do let old ← Builtin.List.listItems (.ref h'.objs.size); Builtin.List.listUpdate (.ref h'.objs.size) (fun _ => #[]); letGo old.toList.reverse; Builtin.List.listExtendWith (.ref h'.objs.size) (.ref (s1.heap.objs.size + 1)) .none) _ _ _
    refine wpAny_bind ?_
    unfold Builtin.List.listItems
    refine wpAny_bind (wpAny_seqItems hS rfl (wpAny_pure ?_))
    show wpAny _ _ (updateSeq h'.objs.size (fun _ => #[]) >>= fun _ => letGo (#[] : Array Value).toList.reverse >>= fun _ => Builtin.List.listExtendWith (.ref h'.objs.size) (.ref (s1.heap.objs.size + 1)) .none) _ _ _
    refine wpAny_bind (wpAny_updateSeq hS rfl ?_)
    have J2 := J1.lset (f := fun _ => #[]) (its := []) (its' := []) (ys := []) (t' := s1.toks) upd_same hS rfl .nil (Nat.zero_le _)
    rw [upd_upd] at J2
    refine wpAny_bind (wpAny_letGo ?_)
    have qe : h'.objs.size ≠ s1.heap.objs.size + 1 := by rw [hsz]; omega
    have qi : h'.objs.size ≠ s1.heap.objs.size := by rw [hsz]; omega
    have stay : ∀ b o, h'.get? b = some o → ((h'.push { cls := .type "list", data := .seq #[] }).update h'.objs.size (Obj.mapSeq fun _ => #[])).get? b = some o := fun b o k =>
      (Heap.get?_update_other _ _ (Nat.ne_of_gt (Heap.lt_size k))).trans (Heap.get?_push_of_some _ k)
    have he2 := stay _ _ he
    unfold Builtin.List.listExtendWith
    refine wpAny_bind (wpAny_typeOf (T := "enumerate") ⟨_, he2, rfl⟩ ?_)
    have h1 : Builtin.List.listSameRef (.ref h'.objs.size) (.ref (s1.heap.objs.size + 1)) = false := by simp [Builtin.List.listSameRef, qe]
    have h2 : (Value.type "enumerate" == Value.type "list") = false := by decide
    have h3 : (Value.type "enumerate" == Value.type "tuple") = false := by decide
    simp only [h1, h2, h3, Bool.or_false, Bool.false_eq_true, if_false]
    refine wpAny_bind (wpAny_pyIter_enum he2 ?_)
    refine wpAny_bind (wpAny_holding (hint_enum ⟨_, he2, rfl⟩ ?_))
    have B0 : Built X.K H1 a h'.objs.size xs 0 [] (upd H1 h'.objs.size (.lst [])) := ⟨rfl, upd_same, fun b o k => by rw [upd_ne (ne_of_none k fr)]; exact k, fun b k => by
      by_cases c : b = h'.objs.size
      · exact .inr (.inl c)
      · rw [upd_ne c] at k; exact .inl k, fun j T k => by simp at k, fr, hq⟩
    have fin := fun (Rs : Result → Shared → Prop) (J : Inv X pins σ (upd H1 h'.objs.size (.lst [])) { s1 with heap := ((h'.push { cls := .type "list", data := .seq #[] }).update h'.objs.size (Obj.mapSeq fun _ => #[])) }) (hd : ∀ Ts H s, Inv X pins σ H s → Built X.K H1 a h'.objs.size xs xs.length Ts H → Rs (.ok (.ret .none)) s) =>
      enum_loop (A1 := X.A.in1) (Rs := Rs) (I1.ok.hd hcm) (show s1.heap.objs.size + 1 ≠ s1.heap.objs.size by omega) hd xs.length 0 [] _ _ (by omega) J B0 (.inl ⟨_, he2⟩) (hit.at fun o k => stay _ o k) (fun b hb => by
        obtain ⟨f0, f1, f2, f3, f4, f5⟩ := hfp b hb
        refine ⟨?_, f1, f2, f3, f4, f5⟩
        have e' : b = s1.heap.objs.size + 1 ∨ b = s1.heap.objs.size := by simpa using hb
        have hbn : b ≠ h'.objs.size := by
          rw [hsz]
          rcases e' with z | z
          · rw [z]; exact Nat.ne_of_lt (Nat.lt_succ_self _)
          · rw [z]; exact Nat.ne_of_lt (Nat.lt_succ_of_lt (Nat.lt_succ_self _))
        rw [upd_ne hbn]
        exact f0)
    refine wpAny_ite_split (fun _ => ?_) (fun _ => wpAny_pure ⟨plainId_quiet PySem.F.plain_extend_loop _, fin _ J2 fun Ts H' s' I' B' => ⟨rfl, .ref h'.objs.size, H', I', rfl, q _ Ts H' B'⟩⟩)
    refine wpAny_bind (wpAny_rule ?_)
    refine wpAny_bind ?_
    show wpAny _ _ (updateSeq h'.objs.size (·.push .none) >>= fun _ => updateSeq h'.objs.size (·.pop)) _ _ _
    obtain ⟨z, its3, k3, r3, hl3, e3⟩ := J2.lstM upd_same
    cases r3
    refine wpAny_bind (wpAny_updateSeq e3 rfl ?_)
    have J3 := J2.lset (f := (·.push Value.none)) (its' := [Value.none]) (ys := [.non]) (t' := s1.toks) upd_same e3 (by simp) (.cons rfl .nil) (by rw [List.length_singleton, sizeLine_eq]; decide)
    obtain ⟨z4, its4, k4, r4, hl4, e4⟩ := J3.lstM upd_same
    obtain ⟨u4, rfl, ru4⟩ := r4.one
    refine wpAny_updateSeq e4 rfl ?_ (by show 1 ≤ sizeLine; rw [sizeLine_eq]; decide) (by show 0 ≤ sizeLine + 1; exact Nat.zero_le _)
    have J4 := J3.lset (f := (·.pop)) (its := [u4]) (its' := []) (ys := []) (t' := s1.toks) upd_same e4 (by rfl) .nil (Nat.zero_le _)
    rw [upd_upd, upd_upd] at J4
    refine wpAny_pure ⟨plainId_quiet PySem.F.plain_extend_loop _, ?_⟩
    have stay2 : ∀ (h2 : Heap) (f : Array Value → Array Value) b o, b ≠ h'.objs.size → h2.get? b = some o → (h2.update h'.objs.size (Obj.mapSeq f)).get? b = some o := fun h2 f b o hb k => (Heap.get?_update_other _ _ (Ne.symm hb)).trans k
    exact enum_loop (A1 := X.A.in1) (I1.ok.hd hcm) (show s1.heap.objs.size + 1 ≠ s1.heap.objs.size by omega) (fun Ts H' s' I' B' => ⟨rfl, .ref h'.objs.size, H', I', rfl, q _ Ts H' B'⟩) xs.length 0 [] _ _ (by omega) J4 B0
      (.inl ⟨_, stay2 _ _ _ _ (Ne.symm qe) (stay2 _ _ _ _ (Ne.symm qe) he2)⟩) (hit.at fun o k => stay2 _ _ _ o (Ne.symm qi) (stay2 _ _ _ o (Ne.symm qi) (stay _ o k))) (fun b hb => by
        obtain ⟨f0, f1, f2, f3, f4, f5⟩ := hfp b hb
        refine ⟨?_, f1, f2, f3, f4, f5⟩
        have e' : b = s1.heap.objs.size + 1 ∨ b = s1.heap.objs.size := by simpa using hb
        have hbn : b ≠ h'.objs.size := by
          rw [hsz]
          rcases e' with z | z
          · rw [z]; exact Nat.ne_of_lt (Nat.lt_succ_self _)
          · rw [z]; exact Nat.ne_of_lt (Nat.lt_succ_of_lt (Nat.lt_succ_self _))
        rw [upd_ne hbn]
        exact f0)
/-- list(enumerate(xs)), a new list -/
theorem el_enum {o : Expr} {fs : Ag} {p p2 pos pos2 : Pos} (hcm : X.calm = true) (hg : Gl X "list") (hm : X.mg "list" = none) (hge : Gl X "enumerate") (hme : X.mg "enumerate" = none) (ha : AN X [o] 1 fs)
    (hs : starEach [o] X.env = [(false, eval o X.env)] := by rfl) (na : starEach [.Call (.Name "enumerate" p2) [o] [] pos2] X.env = (false, eval (.Call (.Name "enumerate" p2) [o] [] pos2) X.env) :: starEach [] X.env := by rfl) :
    EL X (.Call (.Name "list" p) [.Call (.Name "enumerate" p2) [o] [] pos2] [] pos) (gEnum fs) := by
  obtain ⟨t, h1, h2⟩ := ha.a.ex
  refine ⟨⟨_, pe_listEnum hcm hg hm hge hme h1 hs na, fun G0 H0 Z Γ σ G H Q ds R hf k => ?_⟩⟩
  obtain ⟨xs, e1, hf⟩ := obind hf
  have hl := ha.n Γ xs e1
  refine h2 G0 H0 Z Γ σ G H _ _ R e1 fun G1 H1 vs x1 r1 => ?_
  match xs, hl, hf, r1 with
  | [x], _, hf, .cons r .nil =>
    replace hf : ((dItems x).bind fun xs => some (enumD 0 xs)) = some ds := hf
    obtain ⟨as, a1, hf⟩ := obind hf
    cases hf
    obtain ⟨p1, vs1, rfl, s1, r1⟩ := r.items a1
    refine ⟨p1, vs1, rfl, x1.gh.seq s1, fun q Ts H' B => ?_⟩
    have lv := r1.length
    -- what is known now: the pairs too
    have hmem : ∀ T, T ∈ Ts → ∃ j, Ts[j]? = some T := fun T hT => List.mem_iff_getElem?.mp hT
    classical
    let G2 : Hp := fun b => if b ∈ Ts then H' b else G1 b
    have gT : ∀ T, T ∈ Ts → H1 T = none ∧ T ≠ q ∧ H' T ≠ none := fun T hT => by
      obtain ⟨j, hj⟩ := hmem T hT
      obtain ⟨t1, t2, y, t3, t4⟩ := B.tup j T hj
      exact ⟨t1, t2, by rw [t4]; simp⟩
    have qT : q ∉ Ts := fun z => (gT q z).2.1 rfl
    have sg : Same G1 G2 := fun b u z => by
      show (if b ∈ Ts then H' b else G1 b) = some u
      rw [if_neg (fun w => by have := (gT b w).1; rw [x1.gh b u z] at this; cases this)]
      exact z
    have e : Ext G1 H1 G2 H' := Ext.same sg B.keep (fun b u z => by
      have z : (if b ∈ Ts then H' b else G1 b) = some u := z
      split at z
      · exact z
      · exact B.keep _ _ (x1.gh b u z)) fun b z => by
      have z : (if b ∈ Ts then H' b else G1 b) ≠ none := z
      split at z
      · rename_i w; exact .inr (gT b w).1
      · exact .inl z
    have q2 : G2 q = none := by
      show (if q ∈ Ts then H' q else G1 q) = none
      rw [if_neg qT]
      exact x1.gh.free B.q0
    refine k G2 H' q _ (x1.trans e) (x1.hf B.q0) q2 B.lst ?_
    -- the items
    have items : ∀ (Us : List Addr) (vs2 : List V) (ds2 : List D) (j : Nat), Us.length = vs2.length → RepL X.K X.mg G1 vs2 ds2 → (∀ i T, Us[i]? = some T → ∃ x, vs2[i]? = some x ∧ G2 T = some (.tup [.int ((j + i : Nat) : Int), x])) → RepL X.K X.mg G2 (Us.map V.ref) (enumD j ds2) := by
      intro Us
      induction Us with
      | nil =>
        intro vs2 ds2 j hl hr _
        cases vs2 with
        | nil => cases hr; exact .nil
        | cons => simp at hl
      | cons U Us ih =>
        intro vs2 ds2 j hl hr hg
        cases hr with
        | nil => simp at hl
        | cons h r =>
          obtain ⟨y, y1, y2⟩ := hg 0 U rfl
          cases y1
          refine .cons (.tup (SqT.of y2) (.cons (.int _) (.cons (h.mono sg) .nil))) (ih _ _ (j + 1) (by simpa using hl) r fun i T hT => ?_)
          obtain ⟨w, w1, w2⟩ := hg (i + 1) T (by simpa using hT)
          refine ⟨w, by simpa using w1, ?_⟩
          have e5 : j + 1 + i = j + (i + 1) := by omega
          rw [e5]
          exact w2
    refine items Ts vs1 as 0 B.len r1 fun i T hT => ?_
    obtain ⟨t1, t2, y, t3, t4⟩ := B.tup i T hT
    refine ⟨y, t3, ?_⟩
    show (if T ∈ Ts then H' T else G1 T) = _
    rw [if_pos (List.mem_of_getElem? hT), t4]
    simp
end
end DL

namespace DL
open PySem L2
variable [TC : TabCtx]

def dShl : D → D → Option D
  | .int i, .int j => if 0 ≤ j ∧ j ≤ 1000000 ∧ i.natAbs < 2 ^ 64 then some (.int (i * 2 ^ j.toNat)) else none
  | _, _ => none
section
variable {X : Cx} {e a b o : Expr} {f g k : Ex} {fs : Ag} {pos pos' : Pos} {n i : Nat} {rp : Pth}
theorem od_shl : OpD X (binaryOp .LShift) dShl := opd_i op_shl fun x y d e => by
  unfold dShl at e
  split at e
  · split at e
    · cases e; rename_i z; exact ⟨_, _, rfl, rfl, z, fun _ _ _ => .int _⟩
    · cases e
  · cases e
/-- a global name that is an int -/
def GlI (mg : Str → Option Value) (x : Str) (n : Int) : Prop := ∃ t, mg x = some (.int n t)
theorem e_gint {x : Str} {n : Int} (hm : GlI X.mg x n) (hg : Gl X x := by rfl) (hd : (x == ("__debug__" : Str)) = false := by decide) : E X (.Name x pos) (gI n) := by
  obtain ⟨t, hm⟩ := hm
  exact ⟨⟨_, pe_glob hg hm (v := .int n) ⟨t, rfl⟩ hd, fun G0 H0 Z Γ σ G H Q d R hf k => by cases hf; exact k G H _ (Ext.refl R.gh) (.int n)⟩⟩
/-- xs[::-1] -/
def gRevL (f : Ex) : Ag := fun Γ => (f Γ).bind fun x => match x with
  | .lst xs => some xs.reverse
  | _ => none
theorem el_revL {kk : Nat} {p1 p2 p3 : Pos} (he : B X e f) : EL X (.Subscript e (.Slice none none (some (.UnaryOp .USub (.Constant (.int 1) kk p1) p2)) p3) pos) (gRevL f) := by
  obtain ⟨t, h1, h2⟩ := he.ex
  refine ⟨⟨_, pe_revL h1, fun G0 H0 Z Γ σ G H Q ds R hf k => ?_⟩⟩
  obtain ⟨x, e1, hf⟩ := obind hf
  cases x with
  | lst xs =>
    cases hf
    refine h2 G0 H0 Z Γ σ G H _ _ R e1 fun G1 H1 v x1 r1 => ?_
    obtain ⟨p, vs, rfl, hp, rp⟩ := r1.lst x1.gh
    refine ⟨p, vs, rfl, SqL.of hp, fun q hq => ?_⟩
    exact k G1 _ q _ (x1.trans (Ext.own1 x1.gh hq)) (x1.hf hq) (x1.gh.free hq) upd_same rp.reverse
  | _ => cases hf
/-- P.pop() -/
def sPop (i : Nat) (rp : Pth) : Sm := fun Γ => match gP i rp Γ with
  | some (.ow xs) => if xs = [] then none else upP i rp (.ow xs.dropLast) Γ
  | _ => none
theorem RepL.dropLast {K : PySem.W.Frag} {mg : Str → Option Value} {G : Hp} {vs : List V} {ds : List D} (r : RepL K mg G vs ds) : RepL K mg G vs.dropLast ds.dropLast := by
  rw [List.dropLast_eq_take, List.dropLast_eq_take, r.length]
  exact r.take _
theorem s_pop {ap : Pos} (hp : PL X o i rp)
    (hpe : ∀ {r : V → List V → Hp → VK → Prop} {to : TE}, MtR X "list.pop" r → PE X o to → PE X (.Call (.Attribute o "pop" ap) [] [] pos) (tBM0 X.K "list" r to) := by intro r to hm ho; exact pe_bm0 PySem.F.plainAttrs_list PySem.F.slot_list_pop PySem.F.type_list_pop hm ho)
    (hs : swapsWith (.Call (.Attribute o "pop" ap) [] [] pos) none pos'.line X.env = pure false := by rfl) : S X (.Expr (.Call (.Attribute o "pop" ap) [] [] pos) pos') (sPop i rp) := by
  obtain ⟨u, u1, u2⟩ := hp.ex
  refine ⟨⟨_, ps_expr (hpe mt_pop u1) hs, fun G0 H0 Z Γ σ G H D r R hf k => ?_⟩⟩
  unfold sPop at hf
  cases q : gP i rp Γ with
  | none => rw [q] at hf; cases hf
  | some s1 =>
    rw [q] at hf
    cases s1 with
    | ow xs =>
      replace hf : (if xs = [] then none else upP i rp (.ow xs.dropLast) Γ) = some r := hf
      split at hf
      · cases hf
      · rename_i hl
        obtain ⟨s, s2, a1, a2, rfl⟩ := upP_some hf
        obtain ⟨s', b1, b2, b3⟩ := gP_some q (by simp [SlP])
        rw [a1] at b1
        cases b1
        refine u2 G0 H0 Z Γ σ G H G H _ s _ R (Ext.refl R.gh) a1 b2 b3 (by simp) fun v pk => ?_
        obtain ⟨F0, p0⟩ := pk G H (Ext.refl R.gh)
        obtain ⟨l, ws, rfl, d1, d2, d3⟩ := p0.list R.gh
        refine ⟨.inl ⟨rfl, _, SqL.of d1⟩, ?_⟩
        have hlen := d2.length
        have hpos : 0 < xs.length := List.length_pos_iff.mpr hl
        refine ⟨_, ws, ws[ws.length - 1]'(by omega), rfl, rfl, d1, List.getElem?_eq_getElem _, ?_⟩
        exact k σ G _ (d3 _ _ _ d2.dropLast a2)
    | _ => cases hf
end
end DL

namespace DL
open PySem L2
variable [TC : TabCtx]
/-! ### P.f, a, b = e -/
/-- an attribute as a target -/
def gAttr (K : PySem.W.Frag) (ta : TE) (f : Str) : TG := fun v σ H Q => ta σ H fun x H1 => ∃ a C dx fs, x = .ref a ∧ H1 a = some (.ins C dx fs) ∧ Cls K C ∧ NoAttr K C f ∧ fs.length < 1000 ∧ Q σ (L2.upd H1 a (.ins C dx (putF f v fs)))
theorem pg_attr {X : Cx} {o : Expr} {ta : TE} {f : Str} {pos : Pos} (ha : PE X o ta) : PG X (.Attribute o f pos) (gAttr X.K ta f) := by
  refine ⟨fun pins s σ H v u Q I r h => ?_⟩
  rw [PySem.assign_Attribute]
  refine wpAny_bind (wpAny_holding (thn (ha.run pins s σ H _ I h) fun ov s1 ⟨x, H1, I1, rx, a, C, dx, fs, ex, ea, c, n, l, q⟩ => ?_))
  subst ex
  obtain rfl : ov = Value.ref a := rx
  refine wpAny_bind (wpAny_standAt (wpAny_bind (wpAny_holding (setattr_ok I1 ea c n l r fun s3 I3 => ?_))))
  exact wpAny_release ⟨σ, _, I3, q⟩
def sUnpF (i : Nat) (rp : Pth) (c j n : Nat) (gs : Gss) (f : Ex) : Sm := fun Γ => (f Γ).bind fun d => match d with
  | .tup (d0 :: ds) => if ds.length + 1 = n then (DL.sFld i rp c j (fun _ => some (.sh d0)) Γ).bind fun r => match r with
      | .nx Γ1 => (gs ds Γ1).bind fun Γ' => some (.nx Γ')
      | _ => none
    else none
  | _ => none
section
variable {X : Cx} {e o : Expr} {es : List Expr} {f : Ex} {pos pos' pt : Pos} {n k : Nat} {ix : List Nat} {gs : Gss}
theorem s_unpF {i : Nat} {rp : Pth} {c j : Nat} {C : Addr} {x : Str} (ck : CK X.K X.mg c C) (hp : PL X o i rp) (he : E X e f) (hl : GL X es ix gs) (hc : X.calm = true) (hj : (cF c)[j]? = some x := by rfl) (nd : (cF c).Nodup := by decide +kernel)
    (hn : (assignEach (.Attribute o x pos' :: es) X.env).length = n := by rfl) (hst : (assignEach (.Attribute o x pos' :: es) X.env).findIdx? (·.1) = none := by rfl)
    (hcs : (assignEach (.Attribute o x pos' :: es) X.env).map (·.2) = assign (.Attribute o x pos') X.env :: (assignEach es X.env).map (·.2) := by rfl)
    (hs : swapsWithSole [.Tuple (.Attribute o x pos' :: es) k pt] e pos.line X.env = pure false := by rfl) (hw : swappedStores [.Tuple (.Attribute o x pos' :: es) k pt] e X.env = pure none := by rfl)
    (h1 : (assignEach [.Tuple (.Attribute o x pos' :: es) k pt] X.env).map (·.2) = [assign (.Tuple (.Attribute o x pos' :: es) k pt) X.env] := by rfl) :
    S X (.Assign [.Tuple (.Attribute o x pos' :: es) k pt] e pos) (sUnpF i rp c j n gs f) := by
  obtain ⟨t, t1, t2⟩ := he.ex
  obtain ⟨u, u1, u2⟩ := hp.ex
  obtain ⟨w, w1, w2⟩ := hl.ex
  refine ⟨⟨_, ps_asg t1 (pg_tup hc (pgs_cons (pg_attr u1) w1 hcs) hn hst) hs hw h1, fun G0 H0 Z Γ σ G H D r R hf kk => ?_⟩⟩
  obtain ⟨d, e1, hf⟩ := obind hf
  refine t2 G0 H0 Z Γ σ G H _ d R e1 fun G1 H1 v x1 hd => ?_
  cases d with
  | tup dd =>
    cases dd with
    | nil => cases hf
    | cons d0 ds =>
      replace hf : (if ds.length + 1 = n then (DL.sFld i rp c j (fun _ => some (.sh d0)) Γ).bind fun r => match r with
        | .nx Γ1 => (gs ds Γ1).bind fun Γ' => some (.nx Γ')
        | _ => none else none) = some r := hf
      split at hf
      · rename_i hlen
        obtain ⟨r1, e2, hf⟩ := obind hf
        cases hd with
        | tup hT rr =>
          have hvl := rr.length
          cases rr with
          | cons r0 rr =>
            rename_i pa v0 vs
            refine ⟨_, _, rfl, sqt_same x1.gh hT, by rw [hvl]; simpa using hlen, _, _, rfl, ?_⟩
            have go : ∀ Γ1 H', Rel X.K X.mg G0 H0 Z Γ1 σ G1 H' → r1 = .nx Γ1 → w vs σ H' D.nx := fun Γ1 H' R1 e3 => by
              subst e3
              obtain ⟨Γ', e4, hf⟩ := obind hf
              cases hf
              exact w2 G0 H0 Z Γ1 σ G1 H' _ ds vs Γ' R1 rr e4 fun σ' R' _ => kk σ' G1 H' R'
            clear hf
            replace e2 : (match gP i rp Γ with
              | some (.ob c' fs) => if c' = c then (if j < fs.length then upP i rp (.ob c (fs.set j (.sh d0))) Γ else if j = fs.length then upP i rp (.ob c (fs ++ [.sh d0])) Γ else none) else none
              | _ => none) = some r1 := e2
            cases q : gP i rp Γ with
            | none => rw [q] at e2; cases e2
            | some par =>
              rw [q] at e2
              cases par with
              | ob c' fs =>
                replace e2 : (if c' = c then (if j < fs.length then upP i rp (.ob c (fs.set j (.sh d0))) Γ else if j = fs.length then upP i rp (.ob c (fs ++ [.sh d0])) Γ else none) else none) = some r1 := e2
                split at e2
                · rename_i hcc
                  subst hcc
                  obtain ⟨s, b1, b2, b3⟩ := gP_some q (by simp [SlP])
                  refine u2 G0 H0 Z Γ σ G H G1 H1 _ s _ R x1 b1 b2 b3 (by simp) fun vq pk => ?_
                  obtain ⟨F1, P⟩ := pk G1 H1 x1
                  have hdP := P.hd
                  cases hdP with
                  | ob f hm ho nn sF rs =>
                    rename_i p C' dx vf F'
                    rw [ck.hm] at hm
                    cases hm
                    refine ⟨p, C, dx, _, rfl, ho, ck.cl, ck.na x (List.mem_of_getElem? hj), zip_short, ?_⟩
                    have gp := (P.fr p f).1
                    have hlen2 := rs.length
                    have fin : ∀ (vs' : List V) (fs' : List Sl) (s2 : Sl), putF x v0 ((cF c').zip vf) = (cF c').zip vs' → (∀ {Hx : Hp}, HdL X.K X.mg G1 Hx vf F' fs → Hd X.K X.mg G1 Hx v0 (fun _ => False) (.sh d0) → HdL X.K X.mg G1 Hx vs' (fun a => F' a ∨ False) fs') → setR rp (.ob c' fs') s = some s2 →
                        Rel X.K X.mg G0 H0 Z (Γ.set i s2) σ G1 (upd H1 p (.ins C dx (putF x v0 ((cF c').zip vf)))) := fun vs' fs' s2 ez mk es => by
                      rw [ez]
                      have keep : ∀ (Y : Addr → Prop), ¬ Y p → ∀ a o, Y a → H1 a = some o → upd H1 p (.ins C dx ((cF c').zip vs')) a = some o := fun Y hy a o ya q => by
                        rw [upd_ne]
                        · exact q
                        · intro e; subst e; exact hy ya
                      refine P.up G1 _ (fun a => F1 a ∨ False) (.ob c' fs') s2 (Same.refl _) (fun a o q => ?_) (fun a q => .inl q) (fun a o nf q => ?_) ?_ (fun a y => ?_) (fun _ => rfl) es
                      · rw [upd_ne (ne_of_none q gp)]; exact x1.gh _ _ q
                      · rw [upd_ne]
                        · exact q
                        · intro e; subst e; exact nf f
                      · refine .ob (.inl f) ck.hm upd_same (F' := fun a => F' a ∨ False) (fun y => y.elim nn (fun y => y.elim)) (fun a y => y.elim (fun y => .inl (sF a y)) .inr) ?_
                        exact mk (rs.mono (Same.refl _) (fun a o y q _ => keep F' nn a o y q)) (.sh r0)
                      · have up : H1 a ≠ none → upd H1 p (.ins C dx ((cF c').zip vs')) a ≠ none := fun q => by
                          by_cases e : a = p
                          · subst e; rw [upd_same]; simp
                          · rw [upd_ne e]; exact q
                        rcases y with y | y
                        · exact ⟨(P.fr a y).1, up (P.fr a y).2.2.1, .inl y⟩
                        · exact y.elim
                    have djL : ∀ a, (fun _ : Addr => False) a → ¬ F' a := fun a y _ => y.elim
                    split at e2
                    · rename_i hjl
                      obtain ⟨s', s2, a1, a2, rfl⟩ := upP_some e2
                      rw [b1] at a1
                      cases a1
                      exact go _ _ (fin (vf.set j v0) _ s2 (putF_set nd hj (by rw [hlen2]; exact hjl)) (fun r h => r.setv j h djL) a2) rfl
                    · split at e2
                      · rename_i hjl
                        obtain ⟨s', s2, a1, a2, rfl⟩ := upP_some e2
                        rw [b1] at a1
                        cases a1
                        exact go _ _ (fin (vf ++ [v0]) _ s2 (putF_snoc nd (by rw [hlen2, ← hjl]; exact hj)) (fun r h => r.snoc h djL) a2) rfl
                      · cases e2
                · cases e2
              | _ => cases e2
      · cases hf
  | _ => cases hf
end
end DL

namespace DL
open PySem L2 LamX PySem.Spec PyProof.Rows
/-! ### a lambda with parameters -/
/-- parameters, no other name of its own: captured ones and globals -/
structure LamS1 (sc scope : Scope) (prs : List Str) : Prop where
  kind : scope.kind = .function
  co : scope.isCoroutine = false
  gen : scope.isGenerator = false
  own : ∀ y ∈ scope.names, (y.2 = .local → y.1 ∈ prs) ∧ y.2 ≠ .cell
  par : ∀ p ∈ prs, scope.names.lookup p = some .local
  nd : prs.Nodup
  free : ∀ y ∈ scope.names, y.2 = .free → sc.names.lookup y.1 = some .cell ∨ sc.names.lookup y.1 = some .free
def lamS1B (sc scope : Scope) (prs : List Str) : Bool :=
  decide (scope.kind = .function) && !scope.isCoroutine && !scope.isGenerator && (prs.all fun p => decide (scope.names.lookup p = some .local)) && decide prs.Nodup && scope.names.all fun y => (!decide (y.2 = .local) || decide (y.1 ∈ prs)) && !decide (y.2 = .cell) && (!decide (y.2 = .free) || decide (sc.names.lookup y.1 = some .cell) || decide (sc.names.lookup y.1 = some .free))
theorem lamS1_by {sc scope : Scope} {prs : List Str} (h : lamS1B sc scope prs = true) : LamS1 sc scope prs := by
  unfold lamS1B at h
  simp only [Bool.and_eq_true, Bool.or_eq_true, Bool.not_eq_true', decide_eq_true_eq, decide_eq_false_iff_not, List.all_eq_true] at h
  obtain ⟨⟨⟨⟨⟨h1, h2⟩, h3⟩, h5⟩, h6⟩, h4⟩ := h
  refine ⟨h1, h2, h3, fun y hy => ⟨fun e => ?_, (h4 y hy).1.2⟩, h5, h6, fun y hy e => ?_⟩
  · rcases (h4 y hy).1.1 with z | z
    · exact absurd e z
    · exact z
  · rcases (h4 y hy).2 with (z | z) | z
    · exact absurd e z
    · exact .inl z
    · exact .inr z
theorem LamS1.has {X : Cx} {scope : Scope} {prs : List Str} (L : LamS1 X.env.scope scope prs) (ok : X.Ok) : ∀ y ∈ scope.names, y.2 = .free → ∃ c, X.env.cells.lookup y.1 = some c := fun y hy e => by
  rcases L.free y hy e with k | k
  · exact ok.has _ (.inl k)
  · exact ok.has _ (.inr k)
/-- the context of the lambda's body: the maker's slots and the parameters' -/
def lamCx1 (X : Cx) (A : Around) (outer : List Env) (s : Shared) (H : Hp) (E : XK) (scope : Scope) (prs : List Str) (f c' : Addr) : Cx :=
  { lamCx X A outer s H E scope f c' with N := X.N ++ prs }
section
variable {X : Cx} {pins : List (Addr × Obj)} {σ : L2.St} {H HZ : Hp} {s s1 : Shared}
theorem lam_start1 {A : Around} {outer : List Env} {E : XK} {scope : Scope} {prs : List Str} {vs : List V} {us : List Value} {f c' : Addr} {h₁ : Heap} {tk : Nat} (I : Inv X pins σ H s) (L : LamS1 X.env.scope scope prs) (hp : ∀ p ∈ prs, p ∉ X.N) (rv : Vals vs us) (hl : vs.length = prs.length) (e0 : Env0 X.prog X.w X.K X.mg X.base A outer s1 HZ) (hd : A.handled = none)
    (un : Un (frs X.stack) [] H HZ s.heap s1.heap) (hns : h₁.Ns s1.heap.objs.size fun y => (prs.zip us).reverse.lookup y) (kp : ∀ b o, s1.heap.get? b = some o → h₁.get? b = some o) :
    Inv (lamCx1 X A outer s1 HZ E scope prs f c') [] (σ ++ vs.map some) HZ { s1 with heap := h₁, toks := tk } := by
  have hfree := L.has I.ok
  have cm : ∀ {y c}, (cloFrom X.env.cells scope.names []).lookup y = some c → X.env.cells.lookup y = some c := fun {y c} e => by
    rcases cloFrom_mem (PySem.mem_of_lookup e) with hm | ⟨h1, h2⟩
    · cases hm
    · obtain ⟨c1, hc⟩ := hfree _ h1 rfl
      have hc : X.env.cells.lookup y = some c1 := hc
      have e2 : c = c1 := by
        rw [h2, hc] <;> rfl
      rw [e2]
      exact hc
  have look : ∀ {y}, scope.names.lookup y = some .free → ∃ c, (cloFrom X.env.cells scope.names []).lookup y = some c := fun {y} hl => by
    have hy : (y, NameKind.free) ∈ scope.names := PySem.mem_of_lookup hl
    exact mem_lookup (cloFrom_has (cells := X.env.cells) (acc := []) hy)
  have cellK : ∀ {c : Addr} {v : Option Value}, H c = none → s.heap.IsCell c v → h₁.IsCell c v := fun {c v} n ⟨o, ho, hd⟩ => by
    obtain ⟨sl, q⟩ := un.any ho n (by simp)
    exact ⟨_, kp _ _ q, hd⟩
  have noA : ∀ b : Addr, b ∉ (lamCx1 X A outer s1 HZ E scope prs f c').ex := fun b z => absurd (show b ∈ ([] : List Addr) from z) (by simp)
  refine ⟨⟨e0.mod, L.kind, rfl, rfl, Nat.le_refl _, fun y z c e1 e2 => I.ok.inj y z c (cm e1) (cm e2), fun y hy => ?_, fun y c z _ => ?_, fun _ => hd, Around.frames_deeper e0.frames, .inr ⟨rfl, rfl⟩, fun b z => absurd z (noA b), e0.bs, e0.bsz, fun b _ _ => noA b,
      fun b z => absurd z (noA b), e0.funs, e0.frf⟩,
    rfl, e0.bare, Un.kept kp, ⟨_, hns, fun i y v' e1 e2 e3 => ?_⟩, fun y c e => ?_, e0.hok.fresh (Nat.le_refl _), fun y c e => ?_, fun q hq => absurd (show q ∈ ([] : List (Addr × Obj)) ++ [] from hq) (by simp), e0.hok.kept kp, ?_⟩
  · have hy : scope.names.lookup y = some .cell ∨ scope.names.lookup y = some .free := hy
    rcases hy with hy | hy
    · exact absurd rfl (L.own _ (PySem.mem_of_lookup hy)).2
    · exact look hy
  · have z : false = true := z
    cases z
  · have e1 : (X.N ++ prs)[i]? = some y := e1
    have e3 : Vis scope y := e3
    by_cases hi : i < X.N.length
    · rw [List.getElem?_append_left hi] at e1
      rw [List.getElem?_append_left (by rw [I.len]; exact hi)] at e2
      have yp : y ∉ prs := fun z => hp y z (List.mem_of_getElem? e1)
      rcases e3 with k | k | k
      · exact absurd ((L.own _ (PySem.mem_of_lookup k)).1 rfl) yp
      · exact absurd rfl (L.own _ (PySem.mem_of_lookup k)).2
      · obtain ⟨m, hn, hl⟩ := I.loc
        have hvis : Vis X.env.scope y := (L.free _ (PySem.mem_of_lookup k) rfl).elim (fun k => .inr (.inl k)) (fun k => .inr (.inr k))
        obtain ⟨w', r, q⟩ := hl i y v' e1 e2 hvis
        obtain ⟨c2, h2⟩ := look k
        refine ⟨w', r, .inr ⟨.inr k, c2, h2, ?_⟩⟩
        have c1 := cm h2
        rcases q with ⟨k', _⟩ | ⟨_, c3, e', z⟩
        · have k' : X.env.scope.names.lookup y = some .local := k'
          rcases L.free _ (PySem.mem_of_lookup k) rfl with k2 | k2 <;> rw [show X.env.scope.names.lookup y = _ from k2] at k' <;> cases k'
        · rw [c1] at e'
          cases e'
          exact cellK (I.freeC y _ c1) z
    · have hi : X.N.length ≤ i := Nat.le_of_not_lt hi
      rw [List.getElem?_append_right hi] at e1
      rw [List.getElem?_append_right (by rw [I.len]; exact hi), I.len, List.getElem?_map] at e2
      cases q : vs[i - X.N.length]? with
      | none => rw [q] at e2; cases e2
      | some w =>
        rw [q] at e2
        have ev : w = v' := by simpa using e2
        subst ev
        obtain ⟨u, hu, ru⟩ := rv.get q
        exact ⟨u, ru, .inl ⟨L.par y (List.mem_of_getElem? e1), NdefX.zip_look L.nd e1 hu⟩⟩
  · obtain ⟨w', z⟩ := I.cell y c (cm e)
    exact ⟨w', cellK (I.freeC y c (cm e)) z⟩
  · obtain ⟨v, o, ho, hd⟩ := I.cell y c (cm e)
    exact un.free c o ho (I.freeC y c (cm e)) (by simp)
  · show (σ ++ vs.map some).length = (X.N ++ prs).length
    rw [List.length_append, List.length_append, I.len, List.length_map, hl]
/-- x(e, ..), in the def that got the lambda -/
theorem pe_act1 {CXg : CXT} {Eg : XK} {Ng : List Str} {qg : Str} {sg : Scope} {g f c' : Addr} {cdg pm ctv : Value} {params : Arguments} {body : Expr} {scope : Scope} {prs : List Str} {k i : Nat} {a : Str} {e : Expr} {es : List Expr} {ta : TA} {pn : List (Addr × Obj)} {xe : Value → Shared → Prop} {W : WX} {E : XK} {tb : TE} {p1 p2 : Pos}
    (I : Inv X pins σ H s) (L : LamS1 X.env.scope scope prs) (hp : ∀ p ∈ prs, p ∉ X.N) (hf : s.heap.get? f = some (PySem.W.kla_obj "<lambda>" (X.env.qual ++ "<lambda>") params body scope (cloFrom X.env.cells scope.names []) pm c' ctv)) (hfn : H f = none) (hfr : f ∉ frs X.stack)
    (hbind : ∀ us : List Value, us.length = prs.length → bindArgs (PySem.W.kla_fn "<lambda>" (X.env.qual ++ "<lambda>") params body scope (cloFrom X.env.cells scope.names []) pm (.ref c') ctv) ⟨us, []⟩ = pure (prs.zip us))
    (tk : Takes ((cxOf CXg X.prog X.w X.K X.mg X.base Ng qg sg g cdg X.A X.stack s H Eg).tr pn xe) W) (hW : ∀ cls d σ' H', E cls d H' → W cls d σ' H') (hr : Room (k + 1) (X.A.deeper (envOfC qg sg s.heap.objs.size g cdg)))
    (hbody : ∀ (A : Around) (outer : List Env) (s : Shared) (H : Hp), Room k (A.deeper (lamEnv X scope s.heap.objs.size f c')) → PE (lamCx1 X A outer s H E scope prs f c') body tb)
    (hN : Ng[i]? = some a) (hv : Vis sg a) (ha : PA ((cxOf CXg X.prog X.w X.K X.mg X.base Ng qg sg g cdg X.A X.stack s H Eg).tr pn xe) (e :: es) ta)
    (he : starEach (e :: es) ((cxOf CXg X.prog X.w X.K X.mg X.base Ng qg sg g cdg X.A X.stack s H Eg).tr pn xe).env = (false, eval e ((cxOf CXg X.prog X.w X.K X.mg X.base Ng qg sg g cdg X.A X.stack s H Eg).tr pn xe).env) :: starEach es ((cxOf CXg X.prog X.w X.K X.mg X.base Ng qg sg g cdg X.A X.stack s H Eg).tr pn xe).env)
    (hpl : (backTo p2 (starEach es ((cxOf CXg X.prog X.w X.K X.mg X.base Ng qg sg g cdg X.A X.stack s H Eg).tr pn xe).env)).any (·.1) = false)
    (hd : (a == ("__debug__" : Str)) = false := by decide) (hcd : (a == ("__classdict__" : Str)) = false := by decide) :
    PE ((cxOf CXg X.prog X.w X.K X.mg X.base Ng qg sg g cdg X.A X.stack s H Eg).tr pn xe) (.Call (.Name a p1) (e :: es) [] p2)
      (fun σZ HZ Q => σZ[i]? = some (some (.ref f)) ∧ ta σZ HZ fun ws H2 => ws.length = prs.length ∧ H2 c' = some (CodeO c' (X.env.qual ++ "<lambda>")) ∧ tb (σ ++ ws.map some) H2 Q) := by
  refine ⟨fun pinsZ sZ σZ HZ Q IZ h => ?_⟩
  obtain ⟨hs, ht⟩ := h
  refine wpAny_Call_Name_kw (thn ((pe_var (pos := p1) (i := i) hN hv hd hcd).run pinsZ sZ σZ HZ (fun v H1 => v = .ref f ∧ H1 = HZ) IZ ⟨.ref f, hs, rfl, rfl⟩) fun u s0 ⟨v0, H1, I1, r1, q1⟩ => ?_)
  obtain ⟨ev, eH⟩ := q1
  subst ev
  rw [eH] at I1
  obtain rfl : u = Value.ref f := r1
  have of0 : s0.heap.get? f = some (PySem.W.kla_obj "<lambda>" (X.env.qual ++ "<lambda>") params body scope (cloFrom X.env.cells scope.names []) pm c' ctv) := I1.base.keep f _ hf hfn hfr (fun z => nomatch (show f ∈ ([] : List Addr) from z))
  refine PySem.W.callWith_F ⟨_, _, _, _, of0⟩ (thn (ha.run p2 pinsZ s0 σZ HZ _ I1 ht) fun us s1 ⟨ws, H2, I2, r2, hlen, hc, hq⟩ => ?_) he hpl
  have of1 : s1.heap.get? f = some (PySem.W.kla_obj "<lambda>" (X.env.qual ++ "<lambda>") params body scope (cloFrom X.env.cells scope.names []) pm c' ctv) := I2.base.keep f _ hf hfn hfr (fun z => nomatch (show f ∈ ([] : List Addr) from z))
  refine ⟨⟨_, _, _, _, of1⟩, ?_⟩
  have un : Un (frs X.stack) [] H H2 s.heap s1.heap := I2.base
  obtain ⟨⟨oc, vs, t, hoc, hdc, hvc⟩, _, _⟩ := I2.hok c' _ hc
  have hul : us.length = prs.length := by rw [← hlen]; exact r2.length.symm
  have rc : codeAny (model X.prog X.w) (X.A.deeper (envOfC qg sg s.heap.objs.size g cdg)) (.call (.ref f) ⟨us, []⟩) (CR (L2.CX X.prog X.w) (envOfC qg sg s.heap.objs.size g cdg :: X.stack) X.prog X.w H2 s1 Q E) s1 := by
    refine PySem.W.kla_callFunE hr.depth of1 rfl L.co L.gen rfl ⟨c', oc, vs, t, rfl, hoc, hdc, hvc⟩ ?_
    rw [hbind us hul]
    refine wpAny_pure (wpAny_newFunctionEnv (fun y hy => (L.own y hy).2) (fun y hy => L.par _ (List.of_mem_zip hy).1) (fun h₁ hns hsb => ⟨I2.nolimit.fresh _ hsb, ?_⟩) L.kind)
    show codeAny _ _ (.expr body (lamEnv X scope s1.heap.objs.size f c')) _ _
    have kp : ∀ b o, s1.heap.get? b = some o → h₁.get? b = some o := fun b o e => hsb.extBut b o (Nat.ne_of_lt (Heap.lt_size e)) (Heap.get?_push_of_some _ e)
    have J : Inv (lamCx1 X (X.A.deeper (envOfC qg sg s.heap.objs.size g cdg)) (envOfC qg sg s.heap.objs.size g cdg :: X.stack) s1 H2 E scope prs f c') [] (σ ++ ws.map some) H2 { s1 with heap := h₁, toks := s1.toks + (prs.zip us).length } :=
      lam_start1 I L hp r2 hlen I2.env0 hr.hd un hns kp
    refine PySem.W.kla_codeExpr (wpAny_mono ((hbody _ _ s1 H2 (hr.deeper _)).run [] _ _ H2 Q J hq) (fun v s' hq => ?_) fun e s' hq => hq)
    obtain ⟨w', H', J', rv, q⟩ := hq
    exact ⟨w', H', J'.os, J'.bare, J'.base, J'.hok, rv, q⟩
  have hx : Passes (L2.CX X.prog X.w) ((cxOf CXg X.prog X.w X.K X.mg X.base Ng qg sg g cdg X.A X.stack s H Eg).tr pn xe) E := passes_call tk hW
  refine wpAny_call (codeAny_mono rc fun r s' hq => ?_)
  cases r with
  | error e => exact hx pinsZ σZ H2 s1 e s' I2 hq
  | ok fl =>
    cases fl with
    | ret u => exact I2.after hq
    | next => exact False.elim hq
    | brk => exact False.elim hq
    | cont => exact False.elim hq
end
end DL

namespace DL
open PySem L2 LamX PySem.Spec PyProof.Rows
/-! ### x(lambda ps: b, e2), x(e2, lambda ps: b) -/
/-- the def that calls what it got: the parameter a in the slot fi; mk: how it starts; TT: what it makes of the lambda's reading and of its other argument -/
def GivesTo1 (X : Cx) (Ng : List Str) (x : Str) (sg : Scope) (g : Addr) (cdg : Value) (bg : List Stmt) (a : Str) (fi : Nat) (q : Str) (n : Nat) (mk : V → V → List V) (TT : (XK → List V → Hp → VK → Prop) → Addr → Addr → V → Hp → VK → Prop) : Prop :=
  ∀ (f c' : Addr) (s : Shared) (H : Hp) (Q : VK) (w : V) (tl : XK → List V → Hp → VK → Prop),
    (∀ (W : WX) (pn : List (Addr × Obj)) (xe : Value → Shared → Prop) (E : XK) (e : Expr) (es : List Expr) (ta : TA) (p1 p2 : Pos), Takes ((cxOf C8.CX0 X.prog X.w X.K X.mg X.base Ng x sg g cdg X.A X.stack s H C8.E0).tr pn xe) W → (∀ cls d σ' H', E cls d H' → W cls d σ' H') →
      PA ((cxOf C8.CX0 X.prog X.w X.K X.mg X.base Ng x sg g cdg X.A X.stack s H C8.E0).tr pn xe) (e :: es) ta →
      starEach (e :: es) ((cxOf C8.CX0 X.prog X.w X.K X.mg X.base Ng x sg g cdg X.A X.stack s H C8.E0).tr pn xe).env = (false, eval e ((cxOf C8.CX0 X.prog X.w X.K X.mg X.base Ng x sg g cdg X.A X.stack s H C8.E0).tr pn xe).env) :: starEach es ((cxOf C8.CX0 X.prog X.w X.K X.mg X.base Ng x sg g cdg X.A X.stack s H C8.E0).tr pn xe).env →
      (backTo p2 (starEach es ((cxOf C8.CX0 X.prog X.w X.K X.mg X.base Ng x sg g cdg X.A X.stack s H C8.E0).tr pn xe).env)).any (·.1) = false →
      PE ((cxOf C8.CX0 X.prog X.w X.K X.mg X.base Ng x sg g cdg X.A X.stack s H C8.E0).tr pn xe) (.Call (.Name a p1) (e :: es) [] p2) (fun σZ HZ Q => σZ[fi]? = some (some (.ref f)) ∧ ta σZ HZ fun ws H2 => ws.length = n ∧ H2 c' = some (CodeO c' q) ∧ tl E ws H2 Q)) →
    H c' = some (CodeO c' q) → TT tl f c' w H Q →
    ∃ t, PSs (cxOf C8.CX0 X.prog X.w X.K X.mg X.base Ng x sg g cdg X.A X.stack s H C8.E0).nox bg t ∧ t { nx := fun _ H' => Q .non H', rt := Q } (L2.start Ng (mk (.ref f) w)) H
/-- the heap after a lambda is made: as it was, its code object told by the table; or the table has grown by a new code object -/
def Grown (H : Hp) (P : Addr) (q : Str) (ps : Array Value) (H1 : Hp) (c' : Addr) : Prop :=
  (H1 = H ∧ ∃ pos, codeAmong pos ps.toList = some (.ref c')) ∨ (H c' = none ∧ ∃ pos : Pos, H1 = L2.upd (L2.upd H P (.tbl (ps ++ #[rawInt pos.line, rawInt pos.col, .ref c']))) c' (CodeO c' q))
/-- the table at P: what it tells is known -/
structure TabAt (H : Hp) (P : Addr) (q : Str) (ps : Array Value) : Prop where
  at_ : H P = some (.tbl ps)
  tri : TriplesOk ps.toList
  known : ∀ (pos : Pos) (cv : Value), codeAmong pos ps.toList = some cv → ∃ c, cv = .ref c ∧ H c = some (CodeO c q)
def tLam1 (P : Addr) (q : Str) (TT : (XK → List V → Hp → VK → Prop) → Addr → Addr → V → Hp → VK → Prop) (t : XK → TE) (t2 : TA) : TE := fun σ H Q => ∃ ps, TabAt H P q ps ∧ ∀ H1 c' f, Grown H P q ps H1 c' → H1 c' = some (CodeO c' q) →
  t2 σ H1 fun ws H2 => ∃ w, ws = [w] ∧ H2 c' = some (CodeO c' q) ∧ TT (fun E vs H' Q' => t E (σ ++ vs.map some) H' Q') f c' w H2 Q
def tLam2 (P : Addr) (q : Str) (TT : (XK → List V → Hp → VK → Prop) → Addr → Addr → V → Hp → VK → Prop) (t : XK → TE) (t2 : TE) : TE := fun σ H Q => t2 σ H fun w H0 => ∃ ps, TabAt H0 P q ps ∧ ∀ H1 c' f, Grown H0 P q ps H1 c' → H1 c' = some (CodeO c' q) →
  TT (fun E vs H' Q' => t E (σ ++ vs.map some) H' Q') f c' w H1 Q
section
variable {X : Cx} {pins : List (Addr × Obj)} {σ : L2.St} {H : Hp} {s : Shared}
/-- the lambda is made: its code object is new, or told by the table -/
theorem lam_make3 {c P : Addr} {ps : Array Value} {params : Arguments} {body : Expr} {scope : Scope} {pos : Pos} {E : Value → Shared → Prop} {Q : Value → Shared → Prop} (I : Inv X pins σ H s) (TB : TabB X.base X.mg c P) (hcode : X.env.code = .ref c)
    (hT : TabAt H P (X.env.qual ++ "<lambda>") ps) (hdef : defaultsOf params X.env = ([], [])) (hfree : ∀ y ∈ scope.names, y.2 = .free → ∃ c, X.env.cells.lookup y.1 = some c)
    (h : ∀ (f c' : Addr) (pm ctv : Value) (H1 : Hp) (s' : Shared), Inv X pins σ H1 s' → Grown H P (X.env.qual ++ "<lambda>") ps H1 c' →
      s'.heap.get? f = some (PySem.W.kla_obj "<lambda>" (X.env.qual ++ "<lambda>") params body scope (cloFrom X.env.cells scope.names []) pm c' ctv) → H1 f = none → f ∉ frs X.stack → H1 c' = some (CodeO c' (X.env.qual ++ "<lambda>")) → Q (.ref f) s') :
    wpAny (model X.prog X.w) X.A (eval (.Lambda params body scope pos) X.env) Q E s := by
  obtain ⟨hP, ht, ha⟩ := hT
  refine PySem.W.kla_eval hdef ?_
  have bP : s.heap.BuiltinsAt X.mg P := TB.bm.keeps I.bk
  have hP' : s.heap.get? P = some { cls := .none, data := .fields ps } := I.hok P _ hP
  have nofr : ∀ f, s.heap.objs.size ≤ f → f ∉ frs X.stack := fun f hf z => by
    rcases List.mem_cons.mp (I.stkSub _ z) with e | e
    · have h1 := I.lt
      rw [← e] at h1
      exact Nat.lt_irrefl _ (Nat.lt_of_lt_of_le h1 hf)
    · exact I.nofs hf e
  cases hc : codeAmong pos ps.toList with
  | none =>
    refine PySem.W.kla_makeFunction (mg := X.mg) (c := c) (P := P) (ps := ps) (closure_ok hfree) I.ok.glob (I.mod.glob.keeps I.bk) hcode (TB.code.keeps I.bk) hP' ht hc TB.gP bP fun c' ctv h' tk hx hge hlt hrec htb => ?_
    obtain ⟨c2, oc, vs, t, e2, hoc, hd, hv⟩ := hrec
    cases e2
    have hsz : s.heap.objs.size ≤ h'.objs.size := Nat.le_trans hge (Nat.le_of_lt hlt)
    have nC : H c' = none := I.hok.fresh hge
    have I1 := inv_table (t' := tk) (more := #[rawInt pos.line, rawInt pos.col, .ref c']) (h' := h'.push (PySem.W.kla_obj "<lambda>" (X.env.qual ++ "<lambda>") params body scope (cloFrom X.env.cells scope.names []) ((X.mg "__name__").getD .none) c' ctv)) I hP
      (fun b o hb e => Heap.get?_push_of_some _ (hx b o hb e)) (Heap.get?_push_of_some _ htb) hge ⟨oc, vs, t, Heap.get?_push_of_some _ hoc, hd, hv⟩
    refine h h'.objs.size c' ((X.mg "__name__").getD .none) ctv _ _ I1 (.inr ⟨nC, pos, rfl⟩) (Heap.get?_push_size _ rfl) ?_ (nofr _ hsz) upd_same
    have n1 : h'.objs.size ≠ c' := Nat.ne_of_gt hlt
    have n2 : h'.objs.size ≠ P := Nat.ne_of_gt (Nat.lt_of_lt_of_le (Heap.lt_size hP') hsz)
    rw [upd_ne n1, upd_ne n2]
    exact I.hok.fresh hsz
  | some cv =>
    obtain ⟨c', e, hco⟩ := ha pos cv hc
    subst e
    refine PySem.W.kla_makeFunctionHit (mg := X.mg) (c := c) (P := P) (ps := ps) (closure_ok hfree) I.ok.glob (I.mod.glob.keeps I.bk) hcode (TB.code.keeps I.bk) hP' ht hc bP fun ctv h' tk hx hsz => ?_
    have I1 : Inv X pins σ H { s with heap := h'.push (PySem.W.kla_obj "<lambda>" (X.env.qual ++ "<lambda>") params body scope (cloFrom X.env.cells scope.names []) ((X.mg "__name__").getD .none) c' ctv), toks := tk } := I.kept fun b o e => Heap.get?_push_of_some _ (hx b o e)
    exact h h'.objs.size c' ((X.mg "__name__").getD .none) ctv H _ I1 (.inl ⟨rfl, pos, hc⟩) (Heap.get?_push_size _ rfl) (I.hok.fresh hsz) (nofr _ hsz) hco
end
section
variable {X : Cx}
theorem frs_sub {e : Env} {es : List Env} {a : Addr} (h : a ∈ frs es) : a ∈ frs (e :: es) := by
  unfold frs at h ⊢
  rw [List.filterMap_cons]
  split
  · exact h
  · exact List.mem_cons_of_mem _ h
theorem pe_lamcall1 {TT : (XK → List V → Hp → VK → Prop) → Addr → Addr → V → Hp → VK → Prop} {x a : Str} {ps : List Str} {g c P : Addr} {k fi : Nat} {pg : Arguments} {bg : List Stmt} {sg : Scope} {dV kV doc pm cdv ct oc : Value} {an od : Option Addr} {osl : Array (Option Value)} {Ng : List Str}
    {params : Arguments} {body e2 : Expr} {scope : Scope} {prs : List Str} {t : XK → TE} {t2 : TA} {p lpos pos : Pos} (hg : Gl X x) (hm : X.mg x = some (.ref g)) (hk : PySem.W.keepIn X.K (.ref g) = true)
    (lk : X.K.lookup g = some ⟨oc, od, .func (PySem.W.fnOf x x pg bg sg dV kV doc pm an cdv ct), osl⟩) (hcg : PySem.W.codeIn X.K cdv x = true) (hb : L2.Binds X.K (PySem.W.fnOf x x pg bg sg dV kV doc pm an cdv ct) ps []) (hps : ps.length = 2) (Sg : FnScope Ng ps sg) (hNg : Ng[fi]? = some a) (hva : Vis sg a)
    (hG : GivesTo1 X Ng x sg g cdv bg a fi (X.env.qual ++ "<lambda>") prs.length (fun f w => [f, w]) TT)
    (TB : TabB X.base X.mg c P) (hcode : X.env.code = .ref c) (hr : Room (k + 2) X.A) (L : LamS1 X.env.scope scope prs) (hpr : ∀ p ∈ prs, p ∉ X.N) (hdef : defaultsOf params X.env = ([], []))
    (hbind : ∀ (q : Str) (cl : List (Str × Addr)) (pm cv ctv : Value) (us : List Value), us.length = prs.length → bindArgs (PySem.W.kla_fn "<lambda>" q params body scope cl pm cv ctv) ⟨us, []⟩ = pure (prs.zip us))
    (hbody : ∀ (A : Around) (outer : List Env) (s : Shared) (H : Hp) (E : XK) (f c' : Addr), Room k (A.deeper (lamEnv X scope s.heap.objs.size f c')) → PE (lamCx1 X A outer s H E scope prs f c') body (t E))
    (h2 : PA X [e2] t2) (hpl : (backTo pos (starEach [e2] X.env)).any (·.1) = false := by rfl)
    (hdb : (x == ("__debug__" : Str)) = false := by decide) (hd : (a == ("__debug__" : Str)) = false := by decide) (hcd : (a == ("__classdict__" : Str)) = false := by decide) :
    PE X (.Call (.Name x p) [.Lambda params body scope lpos, e2] [] pos) (tLam1 P (X.env.qual ++ "<lambda>") TT t t2) := by
  refine ⟨fun pins s σ H Q I h => ?_⟩
  obtain ⟨ts, hT, h⟩ := h
  refine wpAny_Call_Name_kw (ld_glob I hg hm ?_ hdb)
  refine PySem.W.callWith_K (h₀ := X.base) I.ok.mod.kin hk ?_ (by rfl) hpl
  show wpAny _ _ (spliced ((false, eval (.Lambda params body scope lpos) X.env) :: backTo pos (starEach [e2] X.env))) _ _ s
  refine Calls.spliced_cons (lam_make3 I TB hcode hT hdef (L.has I.ok) fun f c' pm' ctv H1 s' I1 gr hf hfn hfr hco => ?_)
  have hfl : f ≠ X.env.locals := fun z => by
    obtain ⟨m, ⟨o, es, ep, ho, hdd, _⟩, _⟩ := I1.loc
    rw [← z, hf] at ho
    cases ho
    cases hdd
  have hfs : f ∉ X.fs := fun z => hfr (by
    rcases I1.ok.stk with e | ⟨e, _⟩
    · rw [e]; exact z
    · rw [e]
      exact frs_sub z)
  have I2 : Inv X ((f, PySem.W.kla_obj "<lambda>" (X.env.qual ++ "<lambda>") params body scope (cloFrom X.env.cells scope.names []) pm' c' ctv) :: pins) σ H1 s' := I1.pins_of fun p hp => by
    rcases List.mem_cons.mp hp with e | e
    · rw [e]
      exact ⟨hf, hfn, hfl, hfs, fun v z => by cases z⟩
    · exact I1.pin p (List.mem_append_right _ e)
  refine thn (h2.run pos _ s' σ H1 _ I2 (h H1 c' f gr hco)) fun us s2 ⟨vs, H2, I3, r, w, ew, hco2, hTT⟩ => ?_
  subst ew
  obtain ⟨hf2, hfn2, _⟩ := I3.pin (f, _) (List.mem_append_right _ List.mem_cons_self)
  have I4 : Inv X pins σ H2 s2 := I3.pins_of fun p hp => I3.pin p (List.mem_append_right _ (List.mem_cons_of_mem _ hp))
  cases r with
  | cons r0 rr =>
    cases rr with
    | nil =>
      rename_i u _
      refine ⟨I4.kIn, ?_⟩
      have rc : codeAny (model X.prog X.w) X.A (.call (.ref g) ⟨[.ref f, u], []⟩) (CR C8.CX0 X.stack X.prog X.w H2 s2 Q C8.E0) s2 := by
        refine run_ofS (N := Ng) (ps := ps) (us := [.ref f, u]) (vs := [.ref f, w]) lk hcg Sg hr I4.env0 (hb s2 [.ref f, u] I4.kIn hps.symm) (.cons rfl (.cons r0 .nil)) hps.symm fun hr' => ?_
        obtain ⟨t', ht', hq'⟩ := hG f c' s2 H2 Q w (fun E vs H' Q' => t E (σ ++ vs.map some) H' Q') (fun W pn xe E e es ta p1 p2 tk hW hpa he hpl2 => pe_act1 (i := fi) I4 L hpr hf2 hfn2 hfr (fun us hl => hbind _ _ _ _ _ us hl) tk hW hr' (fun A outer s H hr2 => hbody A outer s H E f c' hr2) hNg hva hpa he hpl2 hd hcd) hco2 hTT
        exact ⟨t', ht'.nox, hq'⟩
      refine wpAny_call (codeAny_mono rc fun r s3 hq => ?_)
      cases r with
      | error e => exact (show False from hq).elim
      | ok fl =>
        cases fl with
        | ret u => exact I4.after hq
        | next => exact False.elim hq
        | brk => exact False.elim hq
        | cont => exact False.elim hq
theorem pe_lamcall2 {TT : (XK → List V → Hp → VK → Prop) → Addr → Addr → V → Hp → VK → Prop} {x a : Str} {ps : List Str} {g c P : Addr} {k fi : Nat} {pg : Arguments} {bg : List Stmt} {sg : Scope} {dV kV doc pm cdv ct oc : Value} {an od : Option Addr} {osl : Array (Option Value)} {Ng : List Str}
    {params : Arguments} {body e2 : Expr} {scope : Scope} {prs : List Str} {t : XK → TE} {t2 : TE} {p lpos pos : Pos} (hg : Gl X x) (hm : X.mg x = some (.ref g)) (hk : PySem.W.keepIn X.K (.ref g) = true)
    (lk : X.K.lookup g = some ⟨oc, od, .func (PySem.W.fnOf x x pg bg sg dV kV doc pm an cdv ct), osl⟩) (hcg : PySem.W.codeIn X.K cdv x = true) (hb : L2.Binds X.K (PySem.W.fnOf x x pg bg sg dV kV doc pm an cdv ct) ps []) (hps : ps.length = 2) (Sg : FnScope Ng ps sg) (hNg : Ng[fi]? = some a) (hva : Vis sg a)
    (hG : GivesTo1 X Ng x sg g cdv bg a fi (X.env.qual ++ "<lambda>") prs.length (fun f w => [w, f]) TT)
    (TB : TabB X.base X.mg c P) (hcode : X.env.code = .ref c) (hr : Room (k + 2) X.A) (L : LamS1 X.env.scope scope prs) (hpr : ∀ p ∈ prs, p ∉ X.N) (hdef : defaultsOf params X.env = ([], []))
    (hbind : ∀ (q : Str) (cl : List (Str × Addr)) (pm cv ctv : Value) (us : List Value), us.length = prs.length → bindArgs (PySem.W.kla_fn "<lambda>" q params body scope cl pm cv ctv) ⟨us, []⟩ = pure (prs.zip us))
    (hbody : ∀ (A : Around) (outer : List Env) (s : Shared) (H : Hp) (E : XK) (f c' : Addr), Room k (A.deeper (lamEnv X scope s.heap.objs.size f c')) → PE (lamCx1 X A outer s H E scope prs f c') body (t E))
    (h2 : PE X e2 t2) (he2 : starEach [e2, .Lambda params body scope lpos] X.env = (false, eval e2 X.env) :: starEach [.Lambda params body scope lpos] X.env := by rfl)
    (hdb : (x == ("__debug__" : Str)) = false := by decide) (hd : (a == ("__debug__" : Str)) = false := by decide) (hcd : (a == ("__classdict__" : Str)) = false := by decide) :
    PE X (.Call (.Name x p) [e2, .Lambda params body scope lpos] [] pos) (tLam2 P (X.env.qual ++ "<lambda>") TT t t2) := by
  refine ⟨fun pins s σ H Q I h => ?_⟩
  refine wpAny_Call_Name_kw (ld_glob I hg hm ?_ hdb)
  refine PySem.W.callWith_K (h₀ := X.base) I.ok.mod.kin hk ?_ he2 (by rfl)
  rw [he2]
  show wpAny _ _ (spliced ((false, eval e2 X.env) :: backTo pos (starEach [.Lambda params body scope lpos] X.env))) _ _ s
  refine Calls.spliced_cons (thn (h2.run pins s σ H _ I h) fun u s0 ⟨w, H0, I0, r0, ts, hT, h⟩ => ?_)
  show wpAny _ _ (spliced ((false, eval (.Lambda params body scope lpos) X.env) :: backTo pos (starEach [] X.env))) _ _ s0
  refine Calls.spliced_cons (lam_make3 I0 TB hcode hT hdef (L.has I0.ok) fun f c' pm' ctv H1 s' I1 gr hf hfn hfr hco => ?_)
  refine Calls.spliced_nil ⟨I1.kIn, ?_⟩
  have rc : codeAny (model X.prog X.w) X.A (.call (.ref g) ⟨[u, .ref f], []⟩) (CR C8.CX0 X.stack X.prog X.w H1 s' Q C8.E0) s' := by
    refine run_ofS (N := Ng) (ps := ps) (us := [u, .ref f]) (vs := [w, .ref f]) lk hcg Sg hr I1.env0 (hb s' [u, .ref f] I1.kIn hps.symm) (.cons r0 (.cons rfl .nil)) hps.symm fun hr' => ?_
    obtain ⟨t', ht', hq'⟩ := hG f c' s' H1 Q w (fun E vs H' Q' => t E (σ ++ vs.map some) H' Q') (fun W pn xe E e es ta p1 p2 tk hW hpa he hpl2 => pe_act1 (i := fi) I1 L hpr hf hfn hfr (fun us hl => hbind _ _ _ _ _ us hl) tk hW hr' (fun A outer s H hr2 => hbody A outer s H E f c' hr2) hNg hva hpa he hpl2 hd hcd) hco (h H1 c' f gr hco)
    exact ⟨t', ht'.nox, hq'⟩
  refine wpAny_call (codeAny_mono rc fun r s3 hq => ?_)
  cases r with
  | error e => exact (show False from hq).elim
  | ok fl =>
    cases fl with
    | ret u => exact I1.after hq
    | next => exact False.elim hq
    | brk => exact False.elim hq
    | cont => exact False.elim hq
end
end DL

namespace DL
open PySem L2 LamX PySem.Spec PyProof.Rows
variable [TC : TabCtx]
/-! ### functions as data -/
open Classical in
noncomputable def gFn (d0 : D) (F : List D → Option D) (fi : Nat) (fs : Ag) : Ex := fun Γ => if Γ[fi]? = some (.sh d0) then (fs Γ).bind F else none
theorem ev_fn {d0 : D} {F : List D → Option D} {fi : Nat} {fs : Ag} {Γ : DEnv} {es : List D} {d : D} (h1 : Γ[fi]? = some (.sh d0)) (h2 : fs Γ = some es) (h3 : F es = some d) : gFn d0 F fi fs Γ = some d := by
  unfold gFn
  rw [if_pos h1, h2]
  exact h3
/-- a call of what was got: a, in the slot fi, with n arguments -/
structure Acts (X : Cx) (a : Str) (fi n : Nat) (d0 : D) (F : List D → Option D) : Prop where
  run : ∀ {e : Expr} {es : List Expr} {fs : Ag} {p1 p2 : Pos}, AN X (e :: es) n fs → starEach (e :: es) X.env = (false, eval e X.env) :: starEach es X.env → (backTo p2 (starEach es X.env)).any (·.1) = false → E X (.Call (.Name a p1) (e :: es) [] p2) (gFn d0 F fi fs)
theorem e_act {X : Cx} {a : Str} {fi n : Nat} {d0 : D} {F : List D → Option D} {e : Expr} {es : List Expr} {fs : Ag} {p1 p2 : Pos} (ac : Acts X a fi n d0 F) (h : AN X (e :: es) n fs) (he : starEach (e :: es) X.env = (false, eval e X.env) :: starEach es X.env := by rfl) (hpl : (backTo p2 (starEach es X.env)).any (·.1) = false := by rfl) :
    E X (.Call (.Name a p1) (e :: es) [] p2) (gFn d0 F fi fs) := ac.run h he hpl
/-- what the making of a lambda asks of the tables -/
structure TabHas (P : Addr) (q : Str) : Prop where
  get : ∀ G H, TC.ti.t G H → ∃ ps : Array Value, H P = some (.tbl ps) ∧ TriplesOk ps.toList ∧ ∀ (pos : Pos) (cv : Value), codeAmong pos ps.toList = some cv → ∃ c, cv = .ref c ∧ G c = some (CodeO c q)
  gn : ∀ G H, TC.ti.t G H → G P = none
  grow : ∀ (G H : Hp) (ps : Array Value) (c' : Addr) (pos : Pos), Same G H → TC.ti.t G H → H P = some (.tbl ps) → H c' = none → TC.ti.t (upd G c' (CodeO c' q)) (upd (upd H P (.tbl (ps ++ #[rawInt pos.line, rawInt pos.col, .ref c']))) c' (CodeO c' q))
/-- the heap after a lambda is made -/
theorem TabHas.ext {P : Addr} {q : Str} (T : TabHas P q) {G H H1 : Hp} {ps : Array Value} {c' : Addr} (gh : Same G H) (t : TC.ti.t G H) (hP : H P = some (.tbl ps)) (kn : ∀ (pos : Pos) (cv : Value), codeAmong pos ps.toList = some cv → ∃ c, cv = .ref c ∧ G c = some (CodeO c q)) (g : Grown H P q ps H1 c') : ∃ G1, Ext G H G1 H1 ∧ G1 c' = some (CodeO c' q) := by
  rcases g with ⟨rfl, pos, hc⟩ | ⟨hn, pos, rfl⟩
  · obtain ⟨c, e, hg⟩ := kn pos _ hc
    cases e
    exact ⟨G, Ext.refl gh, hg⟩
  · have gn : G c' = none := gh.free hn
    have gP := T.gn G H t
    have nPc : P ≠ c' := ne_of_none hP hn
    refine ⟨upd G c' (CodeO c' q), ⟨same_upd gn, fun a o e n => ?_, fun a o e => ?_, fun a e => ?_, fun a e => ?_, fun t => T.grow G H ps c' pos gh t hP hn⟩, upd_same⟩
    · rw [upd_ne (ne_of_none e hn), upd_ne (fun z => n ps (Option.some.inj (e.symm.trans (by rw [z]; exact hP))))]
      exact e
    · by_cases z : a = c'
      · subst z; rw [upd_same] at e ⊢; exact e
      · rw [upd_ne z] at e
        rw [upd_ne z, upd_ne (ne_of_none e gP)]
        exact gh _ _ e
    · by_cases z : a = c'
      · subst z; exact .inr hn
      · rw [upd_ne z] at e; exact .inl e
    · by_cases z : a = c'
      · subst z; rw [upd_same]; simp
      · rw [upd_ne z]
        by_cases z2 : a = P
        · subst z2; rw [upd_same]; simp
        · rw [upd_ne z2]; exact e
/-! the slots that a lambda catches -/
def caps : List Nat → DEnv → Option (List D)
  | [], _ => some []
  | i :: is, Γ => (gV i Γ).bind fun d => (caps is Γ).bind fun ds => some (d :: ds)
def capE (n : Nat) : List Nat → List D → DEnv
  | i :: is, d :: ds => (capE n is ds).set i (.sh d)
  | _, _ => List.replicate n .no
theorem capE_len (n : Nat) : ∀ (is : List Nat) (ds : List D), (capE n is ds).length = n
  | [], _ => by simp [capE]
  | _ :: _, [] => by simp [capE]
  | i :: is, d :: ds => by simp [capE, capE_len n is ds]
theorem caps_len : ∀ {is : List Nat} {Γ : DEnv} {ds : List D}, caps is Γ = some ds → ds.length = is.length
  | [], _, _, h => by cases h; rfl
  | i :: is, Γ, _, h => by
    obtain ⟨d, e1, h⟩ := obind h
    obtain ⟨ds, e2, h⟩ := obind h
    cases h
    simp [caps_len e2]
/-- what the caught slots hold -/
structure Caught (is : List Nat) (σ : L2.St) (vs : List V) : Prop where
  len : vs.length = is.length
  at_ : ∀ (k i : Nat) (v : V), is[k]? = some i → vs[k]? = some v → σ[i]? = some (some v)
theorem Rel.caught {K : PySem.W.Frag} {mg : Str → Option Value} {G0 H0 : Hp} {Z : Zs} {Γ : DEnv} {σ : L2.St} {G H : Hp} (R : Rel K mg G0 H0 Z Γ σ G H) : ∀ {is : List Nat} {ds : List D}, caps is Γ = some ds → ∃ vs, Caught is σ vs ∧ RepL K mg G vs ds
  | [], _, h => by cases h; exact ⟨[], ⟨rfl, fun k i v z => by simp at z⟩, .nil⟩
  | i :: is, _, h => by
    obtain ⟨d, e1, h⟩ := obind h
    obtain ⟨ds, e2, h⟩ := obind h
    cases h
    obtain ⟨vs, c, r⟩ := R.caught e2
    have q : Γ[i]? = some (.sh d) := by
      unfold gV at e1
      split at e1
      · cases e1; assumption
      · cases e1
    obtain ⟨v, h1, h2⟩ := R.sh q
    refine ⟨v :: vs, ⟨by simp [c.len], fun k j w a b => ?_⟩, .cons h2 r⟩
    cases k with
    | zero => simp at a b; subst a; subst b; exact h1
    | succ k => exact c.at_ k j w (by simpa using a) (by simpa using b)
theorem capE_get {n : Nat} : ∀ {is : List Nat} {ds : List D} {j : Nat} {s : Sl}, (capE n is ds)[j]? = some s → s = .no ∨ ∃ (k : Nat) (d : D), is[k]? = some j ∧ ds[k]? = some d ∧ s = .sh d
  | [], _, j, s, h => by
    simp only [capE, List.getElem?_replicate] at h
    split at h
    · cases h; exact .inl rfl
    · cases h
  | _ :: _, [], j, s, h => by
    simp only [capE, List.getElem?_replicate] at h
    split at h
    · cases h; exact .inl rfl
    · cases h
  | i :: is, d :: ds, j, s, h => by
    rw [capE] at h
    rcases set_get h with ⟨e, _, rfl⟩ | ⟨_, q⟩
    · exact .inr ⟨0, d, by simp [e], by simp, rfl⟩
    · rcases capE_get q with z | ⟨k, d', h1, h2, h3⟩
      · exact .inl z
      · exact .inr ⟨k + 1, d', by simpa using h1, by simpa using h2, h3⟩
/-- the slots of a lambda's body: what was caught, and the arguments -/
theorem body_rel {K : PySem.W.Frag} {mg : Str → Option Value} {G H : Hp} {is : List Nat} {σ : L2.St} {vs ws : List V} {ds es : List D} (gh : Same G H) (tb : TC.ti.t G H) (c : Caught is σ vs) (r : RepL K mg G vs ds) (r2 : RepL K mg G ws es) :
    Rel K mg G H ⟨TC.ti.tz, none, TC.ti⟩ (capE σ.length is ds ++ es.map Sl.sh) (σ ++ ws.map some) G H := by
  refine ⟨by simp [capE_len, r2.length], gh, same_n (Same.refl _), Same.refl _, fun a h => .inl h, fun a z => (TC.ti.live tb a z).1, fun _ _ z => (by cases z), tb, fun _ h => h, rfl, fun _ h => h, fun _ _ => False, fun _ _ z => z.elim, fun _ _ _ z => z.elim, fun i s h => ?_⟩
  by_cases hi : i < σ.length
  · rw [List.getElem?_append_left (by rw [capE_len]; exact hi)] at h
    rw [List.getElem?_append_left hi]
    rcases capE_get h with z | ⟨k, d, h1, h2, rfl⟩
    · exact .inl z
    · obtain ⟨v, h3, h4⟩ := r.get k h2
      exact .inr (.inl ⟨v, c.at_ k i v h1 h3, .sh h4⟩)
  · have hi : σ.length ≤ i := Nat.le_of_not_lt hi
    rw [List.getElem?_append_right (by rw [capE_len]; exact hi), capE_len, List.getElem?_map] at h
    rw [List.getElem?_append_right hi, List.getElem?_map]
    cases q : es[i - σ.length]? with
    | none => rw [q] at h; cases h
    | some d =>
      rw [q] at h
      cases h
      obtain ⟨v, h3, h4⟩ := r2.get _ q
      exact .inr (.inl ⟨v, by rw [h3]; rfl, .sh h4⟩)
open Classical in
noncomputable def allF (g : D → Option D) : Option D := if h : ∃ r, ∀ a c q vs ds, g (.fn a c q vs ds) = some r then some h.choose else none
theorem allF_of {g : D → Option D} {r : D} (h : ∀ a c q vs ds, g (.fn a c q vs ds) = some r) : allF g = some r := by
  have ex : ∃ r, ∀ a c q vs ds, g (.fn a c q vs ds) = some r := ⟨r, h⟩
  unfold allF
  rw [dif_pos ex]
  have h1 := ex.choose_spec 0 0 Str.empty [] []
  rw [h 0 0 Str.empty [] []] at h1
  exact h1.symm
theorem allF_some {g : D → Option D} {r : D} (h : allF g = some r) : ∀ a c q vs ds, g (.fn a c q vs ds) = some r := by
  unfold allF at h
  split at h
  · rename_i ex
    cases h
    exact ex.choose_spec
  · cases h
/-- x(lambda ..: b, e2); S: the meaning of x, F what the lambda means -/
noncomputable def gLam1 (S : D → (List D → Option D) → List D → Option D) (is : List Nat) (fb : Ex) (f2 : Ex) : Ex := fun Γ => (caps is Γ).bind fun ds => (f2 Γ).bind fun w => allF fun d0 => S d0 (fun es => fb (capE Γ.length is ds ++ es.map Sl.sh)) [d0, w]
/-- x(e2, lambda ..: b) -/
noncomputable def gLam2 (S : D → (List D → Option D) → List D → Option D) (is : List Nat) (fb : Ex) (f2 : Ex) : Ex := fun Γ => (caps is Γ).bind fun ds => (f2 Γ).bind fun w => allF fun d0 => S d0 (fun es => fb (capE Γ.length is ds ++ es.map Sl.sh)) [w, d0]
theorem ev_lam1 {S : D → (List D → Option D) → List D → Option D} {is : List Nat} {fb f2 : Ex} {Γ : DEnv} {ds : List D} {w r : D} (h1 : caps is Γ = some ds) (h2 : f2 Γ = some w) (h3 : ∀ d0, S d0 (fun es => fb (capE Γ.length is ds ++ es.map Sl.sh)) [d0, w] = some r) : gLam1 S is fb f2 Γ = some r := by
  unfold gLam1
  rw [h1, Option.bind_some, h2, Option.bind_some]
  exact allF_of fun _ _ _ _ _ => h3 _
theorem ev_lam2 {S : D → (List D → Option D) → List D → Option D} {is : List Nat} {fb f2 : Ex} {Γ : DEnv} {ds : List D} {w r : D} (h1 : caps is Γ = some ds) (h2 : f2 Γ = some w) (h3 : ∀ d0, S d0 (fun es => fb (capE Γ.length is ds ++ es.map Sl.sh)) [w, d0] = some r) : gLam2 S is fb f2 Γ = some r := by
  unfold gLam2
  rw [h1, Option.bind_some, h2, Option.bind_some]
  exact allF_of fun _ _ _ _ _ => h3 _
/-- a def that gets a function: the parameter a, in the slot fi, called with n arguments -/
structure CalF (P : Program) (w : World) (K : PySem.W.Frag) (mg : Str → Option Value) (base : Heap) (x : Str) (L : Nat) (Ng ps : List Str) (a : Str) (fi n : Nat) (st : Stmt) (B : D → (List D → Option D) → Sm) : Prop where
  ex : ∃ g fd, Fun K x x st g fd ∧ mg x = some (.ref g) ∧ PySem.W.keepIn K (.ref g) = true ∧ Binds K fd ps [] ∧ FnScope Ng ps (defScope st) ∧ Ng[fi]? = some a ∧ Vis (defScope st) a ∧ ps.length = 2 ∧
    ∀ (cdv : Value) (A : Around) (outer : List PySem.Env) (s : Shared) (H : Hp) (E : XK) (d0 : D) (F : List D → Option D), Room L (A.deeper (envOfC x (defScope st) s.heap.objs.size g cdv)) →
      Acts (cxOf CX0 P w K mg base Ng x (defScope st) g cdv A outer s H E).nox a fi n d0 F → Ss (cxOf CX0 P w K mg base Ng x (defScope st) g cdv A outer s H E).nox (defBody st) (B d0 F)
/-- what such a def makes of the lambda's reading -/
def TTd (K : PySem.W.Frag) (mg : Str → Option Value) (q : Str) (mkD : D → D → List D) (N : Nat) (B : D → (List D → Option D) → Sm) : (XK → List V → Hp → VK → Prop) → Addr → Addr → V → Hp → VK → Prop := fun tl f c' w H Q =>
  ∃ (G : Hp) (vs : List V) (ds : List D) (dw r : D) (F : List D → Option D), Same G H ∧ TC.ti.t G H ∧ G c' = some (CodeO c' q) ∧ RepL K mg G vs ds ∧ Rep K mg G w dw ∧
    (∀ (G' H' : Hp) (ws : List V) (es : List D) (r' : D) (Q' : VK), Same G' H' → TC.ti.t G' H' → RepL K mg G' vs ds → RepL K mg G' ws es → F es = some r' → (∀ G'' H'' v, Ext G' H' G'' H'' → Rep K mg G'' v r' → Q' v H'') → tl C8.E0 ws H' Q') ∧
    runB N (B (.fn f c' q vs ds) F) (mkD (.fn f c' q vs ds) dw) = some r ∧ ∀ G' H' v, Ext G H G' H' → Rep K mg G' v r → Q v H'
theorem gives_of {X : Cx} {Ng : List Str} {x a q : Str} {st : Stmt} {g : Addr} {cdg : Value} {fi n : Nat} {mk : V → V → List V} {mkD : D → D → List D} {B : D → (List D → Option D) → Sm} {k : Nat}
    (hmk : ∀ {K : PySem.W.Frag} {mg : Str → Option Value} {G : Hp} {f w : V} {d e : D}, Rep K mg G f d → Rep K mg G w e → RepL K mg G (mk f w) (mkD d e))
    (hr : ∀ s : Shared, Room k (X.A.deeper (envOfC x (defScope st) s.heap.objs.size g cdg)))
    (h : ∀ (cdv : Value) (A : Around) (outer : List PySem.Env) (s : Shared) (H : Hp) (E : XK) (d0 : D) (F : List D → Option D), Room k (A.deeper (envOfC x (defScope st) s.heap.objs.size g cdv)) →
      Acts (cxOf CX0 X.prog X.w X.K X.mg X.base Ng x (defScope st) g cdv A outer s H E).nox a fi n d0 F → Ss (cxOf CX0 X.prog X.w X.K X.mg X.base Ng x (defScope st) g cdv A outer s H E).nox (defBody st) (B d0 F)) :
    GivesTo1 X Ng x (defScope st) g cdg (defBody st) a fi q n mk (TTd X.K X.mg q mkD Ng.length B) := by
  intro f c' s H Q w tl act hc hT
  obtain ⟨G, vs, ds, dw, r, F, gh, tb, gc, rl, rw', hl, hB, k'⟩ := hT
  have rf : Rep X.K X.mg G (.ref f) (.fn f c' q vs ds) := .fn gc rl
  have ac : Acts (cxOf CX0 X.prog X.w X.K X.mg X.base Ng x (defScope st) g cdg X.A X.stack s H C8.E0).nox a fi n (.fn f c' q vs ds) F := by
    refine ⟨fun {e es fs p1 p2} ha he hpl => ?_⟩
    obtain ⟨ta, h1, h2⟩ := ha.a.ex
    have pe := act (fun _ _ _ _ => False) [] (fun _ _ => False) C8.E0 e es ta p1 p2 takes0 (fun _ _ _ _ z => z) h1 he hpl
    refine ⟨⟨_, pe, fun G0 H0 Z Γ σ G1 H1 Q1 d R hf k1 => ?_⟩⟩
    unfold gFn at hf
    split at hf
    · rename_i hd0
      obtain ⟨es', e1, hf⟩ := obind hf
      obtain ⟨v0, e2, r2⟩ := R.sh hd0
      cases r2 with
      | fn hc2 rl2 =>
        refine ⟨e2, h2 G0 H0 Z Γ σ G1 H1 _ es' R e1 fun G2 H2 ws x2 r3 => ⟨by rw [r3.length, ha.n Γ es' e1], x2.gh _ _ (x2.gg _ _ hc2), ?_⟩⟩
        exact hl G2 H2 ws es' d _ x2.gh ((R.ext x2).tbc) (rl2.mono x2.gg) r3 hf fun G3 H3 v x3 r4 => k1 G3 H3 v (x2.trans x3) r4
    · cases hf
  obtain ⟨t, h1, h2⟩ := (h cdg X.A X.stack s H C8.E0 (.fn f c' q vs ds) F (hr s) ac).ex
  refine ⟨t, h1, ?_⟩
  obtain ⟨r1, e1, hf⟩ := obind hB
  refine h2 G H _ _ _ G H _ r1 (start_rel gh tb (hmk rf rw')) e1 ?_
  cases r1 with
  | rt d' => cases hf; exact fun G' H' v x r => k' G' H' v x r
  | nx Γ => cases hf; exact fun σ' G' H' R => k' G' H' _ R.end .non
  | rm d s => cases hf
  | ro s => cases hf
  | bk Γ => cases hf
  | ct Γ => cases hf
/-- the name of a lambda in the def x -/
@[irreducible] def lamQ (x : Str) : Str := x ++ ".<locals>." ++ "<lambda>"
theorem lamq_of {CX : CXT} {P : Program} {w : World} {K : PySem.W.Frag} {mg : Str → Option Value} {base : Heap} {N : List Str} {x : Str} {sc : Scope} {f : Addr} {cd : Value} {A : Around} {outer : List Env} {s : Shared} {H : Hp} {E : XK} : (cxOf CX P w K mg base N x sc f cd A outer s H E).nox.env.qual ++ "<lambda>" = lamQ x := by
  unfold lamQ
  rfl
theorem e_lam1 {X : Cx} {x a : Str} {ps : List Str} {P c : Addr} {L k fi : Nat} {Ng : List Str} {st : Stmt} {B : D → (List D → Option D) → Sm} {params : Arguments} {body e2 : Expr} {scope : Scope} {prs : List Str} {fb f2 : Ex} {p lpos pos : Pos} (is : List Nat)
    (cf : CalF X.prog X.w X.K X.mg X.base x L Ng ps a fi prs.length st B) (TB : TabB X.base X.mg c P) (hcode : X.env.code = .ref c) {q : Str} (hq : X.env.qual ++ "<lambda>" = q) (T : TabHas P q) (hr : Room (k + 2) X.A) (hk : L ≤ k) (L1 : LamS1 X.env.scope scope prs)
    (hbody : ∀ (A : Around) (outer : List Env) (s : Shared) (H : Hp) (E' : XK) (f c' : Addr), Room k (A.deeper (lamEnv X scope s.heap.objs.size f c')) → E (lamCx1 X A outer s H E' scope prs f c') body fb)
    (h2 : E X e2 f2) (hpr : ∀ p ∈ prs, p ∉ X.N := by decide) (hdef : defaultsOf params X.env = ([], []) := by rfl)
    (hbind : ∀ (q : Str) (cl : List (Str × Addr)) (pm cv ctv : Value) (us : List Value), us.length = prs.length → bindArgs (PySem.W.kla_fn "<lambda>" q params body scope cl pm cv ctv) ⟨us, []⟩ = pure (prs.zip us))
    (hg : Gl X x := by rfl) (hs2 : starEach [e2] X.env = (false, eval e2 X.env) :: starEach [] X.env := by rfl) (hpl : (backTo pos (starEach [e2] X.env)).any (·.1) = false := by rfl)
    (hdb : (x == ("__debug__" : Str)) = false := by decide) (hd : (a == ("__debug__" : Str)) = false := by decide) (hcd : (a == ("__classdict__" : Str)) = false := by decide) :
    E X (.Call (.Name x p) [.Lambda params body scope lpos, e2] [] pos) (gLam1 (fun d0 F => runB Ng.length (B d0 F)) is fb f2) := by
  subst hq
  obtain ⟨g, fd, F, hm, hkp, hb, Sg, hNg, hva, hps, hB⟩ := cf.ex
  obtain ⟨⟨oc, od, kV, doc, pm, an, cdv, ct, osl, rfl, lk, hcd'⟩, _⟩ := F
  obtain ⟨t, t1, t2⟩ := h2.ex
  have hr2 : Room (k + 1 + 1) X.A := hr
  have pe := pe_lamcall1 (p := p) (lpos := lpos) (t := fun _ => tEx X.K X.mg fb) (t2 := tCons t tNil) hg hm hkp lk hcd' hb hps Sg hNg hva (gives_of (q := X.env.qual ++ "<lambda>") (mk := fun f w => [f, w]) (mkD := fun d e => [d, e]) (fun a b => .cons a (.cons b .nil)) (fun s => (hr2.deeper _).mono (Nat.le_succ_of_le hk)) hB) TB hcode hr L1 hpr hdef hbind (fun A outer s H E' f c' hr' => (hbody A outer s H E' f c' hr').pe) (pa_cons t1 pa_nil hs2) hpl hdb hd hcd
  refine ⟨⟨_, pe, fun G0 H0 Z Γ σ G H Q r R hf kk => ?_⟩⟩
  obtain ⟨ds, e1, hf⟩ := obind hf
  obtain ⟨w, e2, hf⟩ := obind hf
  have hall := allF_some hf
  obtain ⟨ts, hP, tri, kn⟩ := T.get G H R.tbc
  obtain ⟨vs, ca, rl⟩ := R.caught e1
  refine ⟨ts, ⟨hP, tri, fun pos cv hc => ?_⟩, fun H1 c' f gr _ => ?_⟩
  · obtain ⟨c0, a1, a2⟩ := kn pos cv hc
    exact ⟨c0, a1, R.gh _ _ a2⟩
  · obtain ⟨G1, x1, gc⟩ := T.ext R.gh R.tbc hP kn gr
    refine t2 G0 H0 Z Γ σ G1 H1 _ w (R.ext x1) e2 fun G2 H2 v x2 r2 => ?_
    refine ⟨v, rfl, x2.gh _ _ (x2.gg _ _ gc), G2, vs, ds, w, r, _, x2.gh, ((R.ext x1).ext x2).tbc, x2.gg _ _ gc, (rl.mono x1.gg).mono x2.gg, r2, fun G' H' ws es r' Q' gh tb rl' re hF k => ?_, hall _ _ _ _ _, fun G' H' v x3 r3 => kk G' H' v ((x1.trans x2).trans x3) r3⟩
    refine ⟨G', H', _, _, G', r', body_rel gh tb ca rl' re, ?_, k⟩
    rw [R.len]
    exact hF
theorem e_lam2 {X : Cx} {x a : Str} {ps : List Str} {P c : Addr} {L k fi : Nat} {Ng : List Str} {st : Stmt} {B : D → (List D → Option D) → Sm} {params : Arguments} {body e2 : Expr} {scope : Scope} {prs : List Str} {fb f2 : Ex} {p lpos pos : Pos} (is : List Nat)
    (cf : CalF X.prog X.w X.K X.mg X.base x L Ng ps a fi prs.length st B) (TB : TabB X.base X.mg c P) (hcode : X.env.code = .ref c) {q : Str} (hq : X.env.qual ++ "<lambda>" = q) (T : TabHas P q) (hr : Room (k + 2) X.A) (hk : L ≤ k) (L1 : LamS1 X.env.scope scope prs)
    (hbody : ∀ (A : Around) (outer : List Env) (s : Shared) (H : Hp) (E' : XK) (f c' : Addr), Room k (A.deeper (lamEnv X scope s.heap.objs.size f c')) → E (lamCx1 X A outer s H E' scope prs f c') body fb)
    (h2 : E X e2 f2) (hpr : ∀ p ∈ prs, p ∉ X.N := by decide) (hdef : defaultsOf params X.env = ([], []) := by rfl)
    (hbind : ∀ (q : Str) (cl : List (Str × Addr)) (pm cv ctv : Value) (us : List Value), us.length = prs.length → bindArgs (PySem.W.kla_fn "<lambda>" q params body scope cl pm cv ctv) ⟨us, []⟩ = pure (prs.zip us))
    (hg : Gl X x := by rfl) (hs2 : starEach [e2, .Lambda params body scope lpos] X.env = (false, eval e2 X.env) :: starEach [.Lambda params body scope lpos] X.env := by rfl)
    (hdb : (x == ("__debug__" : Str)) = false := by decide) (hd : (a == ("__debug__" : Str)) = false := by decide) (hcd : (a == ("__classdict__" : Str)) = false := by decide) :
    E X (.Call (.Name x p) [e2, .Lambda params body scope lpos] [] pos) (gLam2 (fun d0 F => runB Ng.length (B d0 F)) is fb f2) := by
  subst hq
  obtain ⟨g, fd, F, hm, hkp, hb, Sg, hNg, hva, hps, hB⟩ := cf.ex
  obtain ⟨⟨oc, od, kV, doc, pm, an, cdv, ct, osl, rfl, lk, hcd'⟩, _⟩ := F
  obtain ⟨t, t1, t2⟩ := h2.ex
  have hr2 : Room (k + 1 + 1) X.A := hr
  have pe := pe_lamcall2 (p := p) (lpos := lpos) (pos := pos) (t := fun _ => tEx X.K X.mg fb) hg hm hkp lk hcd' hb hps Sg hNg hva (gives_of (q := X.env.qual ++ "<lambda>") (mk := fun f w => [w, f]) (mkD := fun d e => [e, d]) (fun a b => .cons b (.cons a .nil)) (fun s => (hr2.deeper _).mono (Nat.le_succ_of_le hk)) hB) TB hcode hr L1 hpr hdef hbind (fun A outer s H E' f c' hr' => (hbody A outer s H E' f c' hr').pe) t1 hs2 hdb hd hcd
  refine ⟨⟨_, pe, fun G0 H0 Z Γ σ G H Q r R hf kk => ?_⟩⟩
  obtain ⟨ds, e1, hf⟩ := obind hf
  obtain ⟨w, e2, hf⟩ := obind hf
  have hall := allF_some hf
  refine t2 G0 H0 Z Γ σ G H _ w R e2 fun Ga Ha v x0 r2 => ?_
  have R0 := R.ext x0
  obtain ⟨ts, hP, tri, kn⟩ := T.get Ga Ha R0.tbc
  obtain ⟨vs, ca, rl⟩ := R0.caught e1
  refine ⟨ts, ⟨hP, tri, fun pos cv hc => ?_⟩, fun H1 c' f gr _ => ?_⟩
  · obtain ⟨c0, a1, a2⟩ := kn pos cv hc
    exact ⟨c0, a1, R0.gh _ _ a2⟩
  · obtain ⟨G1, x1, gc⟩ := T.ext R0.gh R0.tbc hP kn gr
    refine ⟨G1, vs, ds, w, r, _, x1.gh, (R0.ext x1).tbc, gc, rl.mono x1.gg, r2.mono x1.gg, fun G' H' ws es r' Q' gh tb rl' re hF k => ?_, hall _ _ _ _ _, fun G' H' v x3 r3 => kk G' H' v ((x0.trans x1).trans x3) r3⟩
    refine ⟨G', H', _, _, G', r', body_rel gh tb ca rl' re, ?_, k⟩
    rw [R.len]
    exact hF
end DL

namespace DL
open PySem L2 LamX PySem.Spec PyProof.Rows
/-! ### the tables of a program's lambdas -/
def tabI (T : List (Addr × Str)) : TabI where
  tz := fun a => ∃ p ∈ T, p.1 = a
  t := fun G H => ∀ p ∈ T, G p.1 = none ∧ ∃ ps : Array Value, H p.1 = some (.tbl ps) ∧ TriplesOk ps.toList ∧ ∀ (pos : Pos) (cv : Value), codeAmong pos ps.toList = some cv → ∃ c, cv = .ref c ∧ G c = some (CodeO c p.2)
  keep := fun {G H G' H'} t g k n p hp => by
    obtain ⟨h0, ps, h1, h2, h3⟩ := t p hp
    refine ⟨n _ ⟨p, hp, rfl⟩ h0, ps, by rw [k _ ⟨p, hp, rfl⟩]; exact h1, h2, fun pos cv hc => ?_⟩
    obtain ⟨c, e1, e2⟩ := h3 pos cv hc
    exact ⟨c, e1, g _ _ e2⟩
  live := fun {G H} t a ⟨p, hp, e⟩ => by
    obtain ⟨h0, ps, h1, _⟩ := t p hp
    subst e
    exact ⟨by rw [h1]; simp, h0⟩
  tbl := fun {G H} t a ⟨p, hp, e⟩ => by
    obtain ⟨h0, ps, h1, _⟩ := t p hp
    subst e
    exact ⟨ps, h1⟩
  less := fun {G G' H} t s k p hp => by
    obtain ⟨h0, ps, h1, h2, h3⟩ := t p hp
    refine ⟨?_, ps, h1, h2, fun pos cv hc => ?_⟩
    · cases q : G' p.1 with
      | none => rfl
      | some o => rw [s _ _ q] at h0; cases h0
    · obtain ⟨c, e1, e2⟩ := h3 pos cv hc
      refine ⟨c, e1, ?_⟩
      rcases k _ _ e2 with z | z
      · exact z
      · rcases z with ⟨vs, z⟩ | ⟨C, dx, fs, z⟩ | ⟨kvs, z⟩ <;> cases z
abbrev tabCx (T : List (Addr × Str)) : TabCtx := ⟨tabI T⟩
theorem tabHas {T : List (Addr × Str)} {P : Addr} {q : Str} (hm : (P, q) ∈ T) (nd : (T.map (·.1)).Nodup) : @TabHas (tabCx T) P q := by
  have uniq : ∀ p ∈ T, p.1 = P → p.2 = q := fun p hp e => by
    have key : ∀ (T : List (Addr × Str)), (T.map (·.1)).Nodup → ∀ p1 ∈ T, ∀ p2 ∈ T, p1.1 = p2.1 → p1 = p2 := fun T => by
      induction T with
      | nil => intro _ p1 h; cases h
      | cons x T ih =>
        intro nd p1 h1 p2 h2 e
        rw [List.map_cons, List.nodup_cons] at nd
        rcases List.mem_cons.mp h1 with a | a <;> rcases List.mem_cons.mp h2 with b | b
        · rw [a, b]
        · subst a; exact absurd (List.mem_map.mpr ⟨p2, b, e.symm⟩) nd.1
        · subst b; exact absurd (List.mem_map.mpr ⟨p1, a, e⟩) nd.1
        · exact ih nd.2 p1 a p2 b e
    rw [key T nd p hp (P, q) hm e]
  refine @TabHas.mk (tabCx T) P q (fun G H t => ?_) (fun G H t => (t _ hm).1) fun G H ps c' pos gh t hP hn p hp => ?_
  · obtain ⟨_, ps, h⟩ := t _ hm
    exact ⟨ps, h⟩
  · obtain ⟨g0, ps1, h1, h2, h3⟩ := t p hp
    have gn : G c' = none := gh.free hn
    have nc : p.1 ≠ c' := ne_of_none h1 hn
    by_cases e : p.1 = P
    · rw [e] at h1 g0 nc ⊢
      rw [hP] at h1
      cases h1
      have eL : (ps ++ #[rawInt pos.line, rawInt pos.col, .ref c']).toList = ps.toList ++ [rawInt pos.line, rawInt pos.col, .ref c'] := by simp
      refine ⟨by rw [upd_ne nc]; exact g0, _, by rw [upd_ne nc, upd_same], by rw [eL]; exact PySem.TriplesOk_snoc _ _ _ _ h2, fun p' cv hc => ?_⟩
      rw [eL] at hc
      rcases among_app _ h2 hc with z | z
      · obtain ⟨c0, e1, e2⟩ := h3 p' cv z
        exact ⟨c0, e1, by rw [upd_ne (ne_of_none e2 gn)]; exact e2⟩
      · exact ⟨c', z, by rw [upd_same, uniq p hp e]⟩
    · refine ⟨by rw [upd_ne nc]; exact g0, ps1, by rw [upd_ne nc, upd_ne e]; exact h1, h2, fun p' cv hc => ?_⟩
      obtain ⟨c0, e1, e2⟩ := h3 p' cv hc
      exact ⟨c0, e1, by rw [upd_ne (ne_of_none e2 gn)]; exact e2⟩
/-! ### a def whose code object is known -/
section
variable {P : Program} {w : World} {K : PySem.W.Frag} {mg : Str → Option Value} {base : Heap}
theorem Fun.okC {x qual : Str} {st : Stmt} {f c : Addr} {fd : FuncData} {N ps : List Str} {k : Nat} {sp : Sp} (F : Fun K x qual st f fd) (hcode : fd.code = .ref c) (S : FnScope N ps (defScope st)) (len : ∀ vs H Q E, sp vs H Q E → vs.length = ps.length)
    (hbody : ∀ (A : Around) (outer : List Env) (s : Shared) (H : Hp) (vs : List V) (Q : VK) (E : XK), Room k (A.deeper (envOfC qual (defScope st) s.heap.objs.size f (.ref c))) → sp vs H Q E →
      ∃ t, PSs (cxOf CX0 P w K mg base N qual (defScope st) f (.ref c) A outer s H E).nox (defBody st) t ∧ t { nx := fun _ H' => Q .non H', rt := Q } (start N vs) H) : FnOk P w K mg base CX0 (k + 1) f fd ps sp := by
  obtain ⟨⟨oc, od, kV, doc, pm, an, cdv, ct, osl, rfl, lk, hcd⟩, _⟩ := F
  have e : cdv = .ref c := hcode
  subst e
  refine fn_of lk hcd S len fun A outer s H vs Q E hr hsp => ?_
  obtain ⟨t, h, q⟩ := hbody A outer s H vs Q E hr hsp
  exact ⟨t, h.nox, q⟩
variable [TC : TabCtx]
theorem def_okC {x qual : Str} {st : Stmt} {f c : Addr} {fd : FuncData} {N ps : List Str} {k : Nat} {B : Sm} (F : Fun K x qual st f fd) (hcode : fd.code = .ref c) (S : FnScope N ps (defScope st))
    (hbody : ∀ (A : Around) (outer : List PySem.Env) (s : Shared) (H : Hp) (E : XK), Room k (A.deeper (PyProof.Rows.envOfC qual (defScope st) s.heap.objs.size f (.ref c))) →
      Ss (cxOf CX0 P w K mg base N qual (defScope st) f (.ref c) A outer s H E).nox (defBody st) B) : FnOk P w K mg base CX0 (k + 1) f fd ps (spD K mg ps.length (runB N.length B)) := by
  refine Fun.okC F hcode S (fun vs H Q E h => ?_) (fun A outer s H vs Q E hr h => ?_)
  · obtain ⟨G, ds, d, hl, _⟩ := h
    exact hl
  · obtain ⟨G, ds, d, hl, gh, tb, r, hf, k'⟩ := h
    obtain ⟨t, h1, h2⟩ := (hbody A outer s H E hr).ex
    refine ⟨t, h1, ?_⟩
    obtain ⟨r1, e1, hf⟩ := obind hf
    refine h2 G H _ _ _ G H _ r1 (start_rel gh tb r) e1 ?_
    cases r1 with
    | rt d' => cases hf; exact fun G' H' v x r => k' G' H' v x r
    | nx Γ => cases hf; exact fun σ' G' H' R => k' G' H' _ R.end .non
    | rm d s => cases hf
    | ro s => cases hf
    | bk Γ => cases hf
    | ct Γ => cases hf
theorem def_okNC {x qual : Str} {st : Stmt} {f c : Addr} {fd : FuncData} {N ps : List Str} {k : Nat} {B : Sm} (F : Fun K x qual st f fd) (hcode : fd.code = .ref c) (S : FnScope N ps (defScope st))
    (hbody : ∀ (A : Around) (outer : List PySem.Env) (s : Shared) (H : Hp) (E : XK), Room k (A.deeper (PyProof.Rows.envOfC qual (defScope st) s.heap.objs.size f (.ref c))) →
      Ss (cxOf CX0 P w K mg base N qual (defScope st) f (.ref c) A outer s H E).nox (defBody st) B) : FnOk P w K mg base CX0 (k + 1) f fd ps (spN K mg ps.length (runN N.length B)) := by
  refine Fun.okC F hcode S (fun vs H Q E h => ?_) (fun A outer s H vs Q E hr h => ?_)
  · obtain ⟨G, ds, d, hl, _⟩ := h
    exact hl
  · obtain ⟨G, ds, sl, hl, gh, tb, r, hf, k'⟩ := h
    obtain ⟨t, h1, h2⟩ := (hbody A outer s H E hr).ex
    refine ⟨t, h1, ?_⟩
    obtain ⟨r1, e1, hf⟩ := obind hf
    refine h2 G H _ _ _ G H _ r1 (start_rel gh tb r) e1 ?_
    cases r1 with
    | rt d' => cases hf; exact fun G' H' v x r => k' G' H' v (fun _ => False) x (.sh r) fun _ z => z.elim
    | ro s' => cases hf; exact fun G' H' v F' x h f => k' G' H' v F' x h f
    | nx Γ => cases hf; exact fun σ' G' H' R => k' G' H' _ (fun _ => False) R.end (.sh .non) fun _ z => z.elim
    | rm d s => cases hf
    | bk Γ => cases hf
    | ct Γ => cases hf
end
/-! ### the law's own start, with tables -/
def spLawT (K : PySem.W.Frag) (T : List (Addr × Str)) : Sp := fun vs H Q _ => ∃ (a : Addr) (ns : List Int), vs = [.ref a] ∧ SqL K H a (ns.map V.int) ∧ ns.length ≤ 63 ∧ (∀ p ∈ T, H p.1 = some (.tbl #[])) ∧ ∀ H', Q (.bl true) H'
theorem law_startT {P : Program} {w : World} {K : PySem.W.Frag} {mg : Str → Option Value} {base : Heap} {k : Nat} {fa : Addr} {fd : FuncData} {x : Str} {S : List D → Option D} (T : List (Addr × Str))
    (h : @FnOk P w K mg base CX0 k fa fd [x] (@spD (tabCx T) K mg 1 S)) (hS : ∀ ns : List Int, ns.length ≤ 63 → S [.scr ns] = some (.bl true)) : FnOk P w K mg base CX0 k fa fd [x] (spLawT K T) := by
  refine h.imp fun vs H Q E ⟨a, ns, e, hs, hl, hT, kk⟩ => ?_
  subst e
  let G : Hp := fun b => if b ∈ T.map (·.1) then none else H b
  have gh : Same G H := fun b o e => by
    have e : (if b ∈ T.map (·.1) then none else H b) = some o := e
    split at e
    · cases e
    · exact e
  have gt : ∀ p ∈ T, G p.1 = none := fun p hp => if_pos (List.mem_map.mpr ⟨p, hp, rfl⟩)
  have go : ∀ b o, H b = some o → (∀ ps, o ≠ .tbl ps) → G b = some o := fun b o e n => by
    refine (if_neg fun z => ?_).trans e
    obtain ⟨p, hp, ep⟩ := List.mem_map.mp z
    have := hT p hp
    rw [ep, e] at this
    cases this
    exact n _ rfl
  have hs' : SqL K G a (ns.map V.int) := by
    rcases hs with (q | ⟨o, q⟩) | q
    · exact .inl (.inl (go _ _ q nofun))
    · exact .inl (.inr ⟨o, go _ _ q nofun⟩)
    · exact .inr q
  refine ⟨G, [.scr ns], .bl true, rfl, gh, fun p hp => ⟨gt p hp, #[], hT p hp, True.intro, fun pos cv hc => ?_⟩, .cons (.scr hs') .nil, hS ns hl, fun G' H' v x r => by cases r; exact kk H'⟩
  have z : codeAmong pos [] = some cv := hc
  simp [codeAmong] at z
end DL

namespace DL
open PySem L2
variable [TC : TabCtx]

/-! ### zip of a list and a tuple -/
def Itlt (K : PySem.W.Frag) (a b : Addr) : It :=
  ⟨fun i H => ∃ (ls ts : List V) (m n : V), SqL K H a ls ∧ SqT K H b ts ∧ ls[i]? = some m ∧ ts[i]? = some n,
    fun i H v H' => ∃ T m n, v = .ref T ∧ H T = none ∧ H' = upd H T (.tup [m, n]) ∧ (∀ ls, SqL K H a ls → ls[i]? = some m) ∧ ∀ ts, SqT K H b ts → ts[i]? = some n,
    fun i H => ∃ ls ts : List V, SqL K H a ls ∧ SqT K H b ts ∧ (ls.length ≤ i ∨ ts.length ≤ i)⟩
/-- a tuple's iterator at i, as one that draws: up to the tuple's end, or not at all -/
theorem draws_atT {prog : Program} {w : World} {A : Around} (hh : A.handled = none) (it l : Addr) (hne : l ≠ it) (items : Array Value) (i : Nat) :
    ∃ n P St, Draws prog w A it [it, l] n P St ∧ i ≤ n ∧ (items.size ≤ i → i = n) ∧ ∀ h : Heap, h.IsTupleIter it l i → h.IsTuple l items → St i h := by
  by_cases hi : i < items.size
  · exact ⟨_, _, _, Draws.tuple hh it l hne items, by omega, fun z => by omega, fun h a b => ⟨a, b⟩⟩
  · refine ⟨i, fun _ _ => False, fun j h => j = i ∧ h.IsTupleIter it l i ∧ h.IsTuple l items, ⟨fun _ _ st => let ⟨o, ho, _⟩ := st.2.1; ⟨o, ho⟩, fun _ _ _ st hk => ⟨st.1, st.2.1.at fun o e => hk it (by simp) o e, st.2.2.at fun o e => hk l (by simp) o e⟩, fun j s Q E hj st hQ => absurd st.1 (by omega), fun s Q E st hE => ?_⟩, Nat.le_refl _, fun _ => rfl, fun h a b => ⟨rfl, a, b⟩⟩
    exact wpAny_nextOf_tuple_end hh st.2.1 st.2.2 (by simp; omega) hE
theorem turn_ziplt {P : Program} {w : World} {K : PySem.W.Frag} {elts : List Expr} {kk : Nat} {tpos : Pos} {a b z TI TO i1 i2 : Addr} (D : ZipSep2 z TI TO i1 i2 [i1, a] [i2, b]) (na : a ≠ i1) (nb : b ≠ i2) :
    Turn P w K (.Tuple elts kk tpos) (Itlt K a b) [z, TI, TO, i1, i2] z (fun i h => IsZip h z TI TO .none ∧ IsTupOf2 h TI (.ref i1) (.ref i2) ∧ (∃ x y, IsTupOf2 h TO x y) ∧ h.IsListIter i1 a i ∧ h.IsTupleIter i2 b i) where
  mem := by simp
  obj := fun i h st q hq => by
    obtain ⟨mz, mTI, ⟨x, y, mTO⟩, ⟨o1, e1, _, d1⟩, ⟨o2, e2, _, d2⟩⟩ := st
    have cs : q = z ∨ q = TI ∨ q = TO ∨ q = i1 ∨ q = i2 := by simpa using hq
    rcases cs with q | q | q | q | q
    · rw [q]; exact ⟨_, mz, fun v q => nomatch q⟩
    · rw [q]; exact ⟨_, mTI, fun v q => nomatch q⟩
    · rw [q]; exact ⟨_, mTO, fun v q => nomatch q⟩
    · rw [q]; exact ⟨o1, e1, fun v q => by (rw [d1] at q; cases q)⟩
    · rw [q]; exact ⟨o2, e2, fun v q => by (rw [d2] at q; cases q)⟩
  keep := fun i h h' st k => by
    obtain ⟨mz, mTI, ⟨x, y, mTO⟩, m1, m2⟩ := st
    exact ⟨k z (by simp) _ mz, k TI (by simp) _ mTI, ⟨x, y, k TO (by simp) _ mTO⟩, m1.at fun o q => k i1 (by simp) o q, m2.at fun o q => k i2 (by simp) o q⟩
  item := by
    intro X hP hw hK hc i pins s σ H E I hf st hg
    subst hP hw hK
    obtain ⟨mz, mTI, ⟨x0, y0, mTO⟩, m1, m2⟩ := st
    obtain ⟨ls, ts, m, n, hql, hqt, hm, hn⟩ := hg
    obtain ⟨lits, lrv, lp, _⟩ := I.list hql
    obtain ⟨tits, trv, tp, _⟩ := I.tuple hqt
    obtain ⟨w1, hw1, rw1⟩ := lrv.get hm
    obtain ⟨w2, hw2, rw2⟩ := trv.get hn
    have mzl : z < s.heap.objs.size := Heap.lt_size mz
    have hh := I.ok.hd hc
    have hh1 : (Around.in1 X.A).handled = none := hh
    have lt : ∀ {xs : List Value} {i : Nat} {x : Value}, xs[i]? = some x → i < xs.toArray.size := fun e => by simpa using (List.getElem?_eq_some_iff.mp e).1
    refine wpAny_pyNext_zipD2_item D (Draws.list hh1 i1 a na lits.toArray) (Draws.tuple hh1 i2 b nb tits.toArray) mz mTI mTO ⟨m1, lp.isList⟩ ⟨m2, (show s.heap.IsTuple b tits.toArray from tp)⟩ (lt hw1) (lt hw2) fun v1 v2 h' tk y1 y2 z' TO' d1 d2 hT hsz hk => ?_
    obtain rfl : v1 = w1 := by have : lits[i]? = some v1 := by simpa using y1
                               rw [hw1] at this; cases this; rfl
    obtain rfl : v2 = w2 := by have : tits[i]? = some v2 := by simpa using y2
                               rw [hw2] at this; cases this; rfl
    refine ⟨_, rfl, wpAny_letOwnedTupleGo_zip (s := { s with heap := h', toks := tk }) z' fun h'' z'' sb => ?_⟩
    have tT2 : h''.get? s.heap.objs.size = some { cls := .type "tuple", data := .seq #[v1, v2] } := (sb.2 _ (Nat.ne_of_gt mzl)).trans hT
    have fresh2 : ObjOk X.prog X.w (upd H s.heap.objs.size (.tup [m, n])) h'' s.heap.objs.size (.tup [m, n]) :=
      ⟨by show 2 ≤ sizeLine; decide, [v1, v2], .cons rw1 (.cons rw2 .nil), ⟨_, tT2, rfl, _, rfl⟩⟩
    have I2 : Inv X pins σ (upd H s.heap.objs.size (.tup [m, n])) { s with heap := h'', toks := tk } :=
      I.turnedNew (t' := tk) (ch := [z, TI, TO, i1, i2]) (fun c o hb q => (sb.2 c (fun u => hb (by simp [u]))).trans (hk c o (fun u => hb (by simp [u])) (fun u => hb (by simp [u])) (fun u => hb (by simp [u])) (fun u => hb (by simp [u])) q)) hf (Nat.le_refl _) fresh2
    refine ⟨.ref s.heap.objs.size, _, I2, rfl, ⟨_, m, n, rfl, I.hok.fresh (Nat.le_refl _), rfl, fun l hl => by (rw [I.list_inj hl hql]; exact hm), fun l hl => by (rw [I.tuple_inj hl hqt]; exact hn)⟩, ⟨z'', ?_, ⟨v1, v2, ?_⟩, ?_, ?_⟩, fun c hcm => ?_⟩
    · exact (sb.2 _ D.TIz).trans (hk _ _ D.TIz D.TITO D.TIi1 D.TIi2 mTI)
    · exact (sb.2 _ D.TOz).trans TO'
    · exact d1.1.at fun o q => (sb.2 _ D.zi1.symm).trans q
    · exact d2.1.at fun o q => (sb.2 _ D.zi2.symm).trans q
    · have clt : c < s.heap.objs.size := by
        have cs : c = z ∨ c = TI ∨ c = TO ∨ c = i1 ∨ c = i2 := by simpa using hcm
        rcases cs with q | q | q | q | q
        · rw [q]; exact mzl
        · rw [q]; exact Heap.lt_size mTI
        · rw [q]; exact Heap.lt_size mTO
        · rw [q]; obtain ⟨_, f1, _⟩ := m1; exact Heap.lt_size f1
        · rw [q]; obtain ⟨_, f2, _⟩ := m2; exact Heap.lt_size f2
      rw [upd_ne (Nat.ne_of_lt clt)]
      exact (hf c hcm).1
  done := by
    intro X hP hw hK hc i pins s σ H E I hf st hg
    subst hP hw hK
    obtain ⟨mz, mTI, ⟨x0, y0, mTO⟩, m1, m2⟩ := st
    obtain ⟨ls, ts, hql, hqt, hend⟩ := hg
    obtain ⟨lits, lrv, lp, _⟩ := I.list hql
    obtain ⟨tits, trv, tp, _⟩ := I.tuple hqt
    have e1 := lrv.length
    have e2 := trv.length
    have hh : (Around.in1 X.A).handled = none := I.ok.hd hc
    obtain ⟨n1, P1, S1, D1, g1, f1, c1⟩ := draws_at (prog := X.prog) (w := X.w) hh i1 a na lits.toArray i
    obtain ⟨n2, P2, S2, D2, g2, f2, c2⟩ := draws_atT (prog := X.prog) (w := X.w) hh i2 b nb tits.toArray i
    refine wpAny_pyNext_zipD2_end D D1 D2 mz mTI mTO (c1 _ m1 lp.isList) (c2 _ m2 tp) g1 g2 (hend.imp (fun q => f1 (by simp; omega)) fun q => f2 (by simp; omega)) fun h' tk hk => ⟨rfl, I.turnedL (t' := tk) (ch := [z, TI, TO, i1, i2]) (fun c o hb q =>
      hk c o (fun u => hb (by simp [u])) (fun u => hb (by simp [u])) (fun u => hb (by simp [u])) (fun u => hb (by simp [u])) q) hf⟩
  self := fun A i s Q E st hq => wpAny_pyIter_zip st.1 hq

theorem apart2 {n a b : Nat} (ha : a < n) (hb : b < n) : ZipSep2 (n + 4) (n + 2) (n + 3) n (n + 1) [n, a] [n + 1, b] := by
  have f (x y : Nat) (h : x < y ∨ y < x) : (x : Addr) ≠ y := by
    intro e
    have e : (x : Nat) = y := e
    omega
  have m (x y z : Nat) (h : (x < y ∨ y < x) ∧ (x < z ∨ z < x)) : (x : Addr) ∉ ([y, z] : List Addr) := by
    intro e
    simp only [List.mem_cons, List.not_mem_nil, or_false] at e
    rcases e with e | e
    · exact f _ _ h.1 e
    · exact f _ _ h.2 e
  constructor
  all_goals first | (exact List.mem_cons_self ..) | (refine f _ _ ?_; omega) | (refine m _ _ _ ?_; omega)
def iZiplt (K : PySem.W.Frag) (ta : TA) : TI := fun σ H R => ta σ H fun vs H1 => ∃ a b ls ts, vs = [.ref a, .ref b] ∧ SqL K H1 a ls ∧ SqT K H1 b ts ∧ R (Itlt K a b) H1
theorem pi_ziplt {X : Cx} {e e2 : Expr} {ta : TA} {p pos tpos : Pos} {elts : List Expr} {kk : Nat} (hg : Gl X "zip") (hm : X.mg "zip" = none) (ha : PA X [e, e2] ta)
    (hst : starEach [e, e2] X.env = (false, eval e X.env) :: starEach [e2] X.env := by rfl) (hpl : (backTo pos (starEach [e2] X.env)).any (·.1) = false := by rfl) :
    PI X (.Tuple elts kk tpos) (.Call (.Name "zip" p) [e, e2] [] pos) (iZiplt X.K ta) := by
  refine ⟨fun pins s σ H R I h => ?_⟩
  refine PyProof.Rows.Call_ (ld_blt I hg hm PyProof.Rows.boot_zip (PyProof.Rows.callWith_type1 (thn (ha.run pos pins s σ H _ I h) fun us s1 ⟨vs, H1, I1, r1, q1⟩ => ?_) hst hpl))
  obtain ⟨a, b, ls, ts, ex, hql, hqt, q⟩ := q1
  subst ex
  cases r1 with
  | cons r rr =>
    cases rr with
    | cons r' rr =>
      cases rr
      cases r
      cases r'
      obtain ⟨lits, lrv, p1, _⟩ := I1.list hql
      obtain ⟨tits, trv, p2, _⟩ := I1.tuple hqt
      have la : a < s1.heap.objs.size := p1.lt
      have lb : b < s1.heap.objs.size := by obtain ⟨o2, ho2, _⟩ := id p2; exact Heap.lt_size ho2
      refine zip_begins2 (begins_list a lits.toArray) (begins_tuple b tits.toArray) p1.isList p2 fun h' mz mTI mTO m1 m2 hsz hk => wpAny_pyIter_zip mz ?_
      have I2 : Inv X pins σ H1 { s1 with heap := h' } := I1.kept (t' := s1.toks) hk
      refine ⟨s1.heap.objs.size + 4, [s1.heap.objs.size + 4, s1.heap.objs.size + 2, s1.heap.objs.size + 3, s1.heap.objs.size, s1.heap.objs.size + 1], _, _, H1, rfl, I2, turn_ziplt (apart2 la lb) (Nat.ne_of_lt la) (by show b ≠ _; exact Nat.ne_of_lt (Nat.lt_succ_of_lt lb)), ⟨mz, mTI, ⟨_, _, mTO⟩, ⟨_, m1, rfl, rfl⟩, ⟨_, m2, rfl, rfl⟩⟩, fun d hd => ?_, q⟩
      have dle : s1.heap.objs.size ≤ d := by
        have cs : d = s1.heap.objs.size + 4 ∨ d = s1.heap.objs.size + 2 ∨ d = s1.heap.objs.size + 3 ∨ d = s1.heap.objs.size ∨ d = s1.heap.objs.size + 1 := by simpa using hd
        rcases cs with z | z | z | z | z <;> rw [z] <;> first | exact Nat.le_add_right _ _ | exact Nat.le_refl _
      exact I1.fpOk dle (I1.hok.fresh dle)
def dZiplt : List D → Option (List D)
  | [x, .tup ys] => (dItems x).bind fun xs => some (zipD xs ys)
  | _ => none
def gZiplt (fs : Ag) : Ag := fun Γ => (fs Γ).bind dZiplt
theorem i_ziplt {X : Cx} {a b : Expr} {fs : Ag} {pos p tpos : Pos} {elts : List Expr} {kk : Nat} (hg : Gl X "zip") (hm : X.mg "zip" = none) (ha : AN X [a, b] 2 fs) (hst : starEach [a, b] X.env = (false, eval a X.env) :: starEach [b] X.env := by rfl) (hpl : (backTo pos (starEach [b] X.env)).any (·.1) = false := by rfl) :
    I X (.Tuple elts kk tpos) (.Call (.Name "zip" p) [a, b] [] pos) (gZiplt fs) := by
  obtain ⟨t, h1, h2⟩ := ha.a.ex
  refine ⟨⟨_, pi_ziplt hg hm h1 hst hpl, fun G0 H0 Z Γ σ G H R ds Rl hf k => ?_⟩⟩
  obtain ⟨xs, e1, hf⟩ := obind hf
  have hl := ha.n Γ xs e1
  refine h2 G0 H0 Z Γ σ G H _ _ Rl e1 fun G1 H1 vs x1 r1 => ?_
  match xs, hl, hf, r1 with
  | [x, .tup ys], _, hf, .cons r (.cons (.tup hT rt) .nil) =>
    replace hf : ((dItems x).bind fun xs => some (zipD xs ys)) = some ds := hf
    obtain ⟨as, a1, hf⟩ := obind hf
    cases hf
    obtain ⟨p1, v1, rfl, s1, r1⟩ := r.items a1
    refine ⟨p1, _, v1, _, rfl, x1.gh.seq s1, sqt_same x1.gh hT, k G1 H1 _ x1 fun i G2 H2 t1 t2 => ?_⟩
    have q1 : SqL X.K H2 p1 v1 := (t1.trans t2).seq s1
    have q2 := sqt_same (t1.trans t2) hT
    refine ⟨fun hi => ⟨v1, _, q1, q2, ?_⟩, fun d hd => ?_⟩
    · rw [zipD_len] at hi
      rw [r1.length, rt.length]
      omega
    · obtain ⟨x, y, g1, g2, rfl⟩ := zipD_get hd
      obtain ⟨w1, b1, c1⟩ := r1.get i g1
      obtain ⟨w2, b2, c2⟩ := rt.get i g2
      refine ⟨⟨v1, _, w1, w2, q1, q2, b1, b2⟩, fun u H3 yl => ?_⟩
      obtain ⟨T, z1, z2, rfl, hTn, rfl, f1, f2⟩ := yl
      have y1 := f1 v1 q1
      have y2 := f2 _ q2
      rw [b1] at y1
      rw [b2] at y2
      cases y1
      cases y2
      have x2 := Ext.new1 (o := .tup [w1, w2]) t2 hTn
      exact ⟨_, x2, .tup (SqT.of upd_same) (.cons ((c1.mono t1).mono x2.gg) (.cons ((c2.mono t1).mono x2.gg) .nil))⟩
end DL

/-! itertools.combinations of a list -/
namespace CpComb
open PySem PySem.Spec
open Sem (wp)
theorem mro_cb : mroOf (.type "itertools.combinations") = pure [.type "itertools.combinations", .type "object"] := by rw [mroOf_type]; kernel_rfl
theorem lookup_cb_new : typeLookup (.type "itertools.combinations") "__new__" = pure (some (.builtin "itertools.combinations.__new__")) := by rw [typeLookup_type, builtinLookup_eq_fast]; kernel_rfl
theorem slot_cb_init : Slot "itertools.combinations" "__init__" "object.__init__" :=
  .of (owner := "object") (n := "__init__") (by rw [typeLookup_type, builtinLookup_eq_fast]; kernel_rfl) (by decide +kernel) (by decide +kernel) (by decide +kernel)
    (by first | exact .inl (by decide +kernel) | exact .inr (by decide +kernel)) (by rw [isSubtype_type]; kernel_rfl)
theorem sub_cb : isSubtype (.type "itertools.combinations") (.type "itertools.combinations") = pure true := by rw [isSubtype_type]; kernel_rfl
theorem called_cb : TypeCalled "itertools.combinations" "itertools.combinations.__new__" "object.__init__" :=
  ⟨by decide +kernel, by decide +kernel, ⟨_, _, mro_cb⟩, madeBy_type mro_cb lookup_cb_new (by decide +kernel), by decide +kernel, sub_cb, slot_cb_init⟩
theorem typeCall_cb_2 (a b : Value) : checkTypeCall "itertools.combinations" ⟨[a, b], []⟩ = pure () := by kernel_rfl
theorem newCall_cb_2 (a b : Value) : checkBuiltinCall "itertools.combinations.__new__" ⟨[.type "itertools.combinations", a, b], []⟩ = pure () := by kernel_rfl
theorem entry_cb_new : entryFor table "itertools.combinations.__new__" = some Builtin.«itertools.combinations.__new__» := entryFor_of_tree (by kernel_rfl)
theorem slot_cb_iter : Slot "itertools.combinations" "__iter__" "itertools.combinations.__iter__" :=
  .of (owner := "itertools.combinations") (n := "__iter__") (by rw [typeLookup_type, builtinLookup_eq_fast]; kernel_rfl) (by decide +kernel) (by decide +kernel) (by decide +kernel)
    (by first | exact .inl (by decide +kernel) | exact .inr (by decide +kernel)) sub_cb
theorem slot_cb_next : Slot "itertools.combinations" "__next__" "itertools.combinations.__next__" :=
  .of (owner := "itertools.combinations") (n := "__next__") (by rw [typeLookup_type, builtinLookup_eq_fast]; kernel_rfl) (by decide +kernel) (by decide +kernel) (by decide +kernel)
    (by first | exact .inl (by decide +kernel) | exact .inr (by decide +kernel)) sub_cb
theorem entry_cb_iter : entryFor table "itertools.combinations.__iter__" = some Builtin.«dict_keyiterator.__iter__» :=
  entryFor_alias (id' := "dict_keyiterator.__iter__") (by kernel_rfl) (by first | rfl | decide +kernel | (unfold String.splitOn; simp +decide [String.splitOnAux])) (by decide +kernel) (by kernel_rfl)
theorem entry_cb_next : entryFor table "itertools.combinations.__next__" = some Builtin.«itertools.combinations.__next__» := entryFor_of_tree (by kernel_rfl)
theorem owner_cb : Manifest.owners.lookup (String.ofList ['s', 'n', 'o', 'i', 't', 'a', 'n', 'i', 'b', 'm', 'o', 'c', '.', 's', 'l', 'o', 'o', 't', 'r', 'e', 't', 'i'].reverse) = some Manifest.sig_itertools_combinations := by kernel_rfl
theorem args_cb_iter (a : Value) : argsOk "itertools.combinations.__iter__" ⟨[a], []⟩ := by
  unfold argsOk; rw [signature?_of (id := "itertools.combinations.__iter__") (n := ['_', '_', 'r', 'e', 't', 'i', '_', '_']) (o := ['s', 'n', 'o', 'i', 't', 'a', 'n', 'i', 'b', 'm', 'o', 'c', '.', 's', 'l', 'o', 'o', 't', 'r', 'e', 't', 'i']) (by kernel_rfl) owner_cb]; kernel_rfl
theorem args_cb_next (a : Value) : argsOk "itertools.combinations.__next__" ⟨[a], []⟩ := by
  unfold argsOk; rw [signature?_of (id := "itertools.combinations.__next__") (n := ['_', '_', 't', 'x', 'e', 'n', '_', '_']) (o := ['s', 'n', 'o', 'i', 't', 'a', 'n', 'i', 'b', 'm', 'o', 'c', '.', 's', 'l', 'o', 'o', 't', 'r', 'e', 't', 'i']) (by kernel_rfl) owner_cb]; kernel_rfl
theorem noDict_cb : typeHasDict (.type "itertools.combinations") = false := by decide +kernel
/-- the record: the pool, the stage, what was handed out last, the indices -/
abbrev IsCb (h : Heap) (it pool : Addr) (st : Nat) (last : Value) (ix : List Nat) : Prop := h.get? it = some { cls := .type "itertools.combinations", dict := none, data := .fields (([.ref pool, rawInt st, last] ++ ix.map fun (n : Nat) => rawInt n).toArray), slots := #[] }
theorem meets_cb_new (l : Addr) (o : Obj) (items : Array Value) (n r : Nat) (t : Tok) (hr : r < 100) (hc : o.cls = .type "list") (hd : o.data = .seq items n) (hsz : items.size ≤ sizeLine) :
    Meets (Builtin.«itertools.combinations.__new__» ⟨[.type "itertools.combinations", .ref l, .int r t], []⟩)
      (fun _ R s => s.heap.get? l = some o ∧ ∀ h' : Heap, (∀ b o', s.heap.get? b = some o' → h'.get? b = some o') → R (.ok (.ret (.ref (h'.objs.size + 1)))) { s with heap := (h'.push { cls := .type "tuple", data := .seq items }).push { cls := .type "itertools.combinations", data := .fields (([.ref h'.objs.size, rawInt (if r > items.size then 2 else 0), .none] ++ (List.range r).map fun (n : Nat) => rawInt n).toArray) } }) :=
  .of_wp fun prog w A R s h => by
    obtain ⟨hp, g, dd, tk, os⟩ := s
    obtain ⟨ht, h⟩ := h
    have hsub := sub_cb
    have hd' := noDict_cb
    have hn : ¬ ((decide ((r : Int) < -(2 ^ 63 : Int)) || decide ((r : Int) ≥ 2 ^ 63)) = true) := by
      rw [decide_eq_false (by omega), decide_eq_false (by omega)]
      decide
    have es : ("itertools." ++ "combinations" : String) = "itertools.combinations" := by decide +kernel
    have big : Builtin.Itertools.itTooMany (r : Int) = false := by
      show decide ((r : Int) > 2 ^ 20) = false
      rw [decide_eq_false (by omega)]
    repeat (first
      | wp_step
      | rw [es]
      | (with_reducible refine wpAny_of_eq sub_cb ?_)
      | (with_reducible refine wpAny_collect_seq (hsz := hsz) l (.inl rfl) ht hc hd ?_)
      | simp only [List.head?_cons, Option.some_or, List.getElem?_cons_succ, List.getElem?_cons_zero, List.length_cons, List.length_nil, List.forIn_nil])
    refine wpAny_ite_false (decide_eq_false hn) ?_
    refine wpAny_pure ?_
    refine wpAny_bind ?_
    refine wpAny_collect_seq (hsz := hsz) l (.inl rfl) ht hc hd (fun h' hk => ?_)
    refine wpAny_ite_false (decide_eq_false (by omega)) ?_
    refine wpAny_ite_false (by rw [big]; rfl) ?_
    refine wpAny_bind ?_
    refine wpAny_newObj_type ?_ (by show items.toList.toArray.size ≤ sizeLine; simpa using hsz)
    refine wpAny_pure ?_
    refine wpAny_bind ?_
    show wpAny _ _ (Builtin.Itertools.itNewRecord (.type "itertools.combinations") _) _ _ _
    unfold Builtin.Itertools.itNewRecord
    dsimp only
    refine wpAny_ite_true (by rw [hd']; rfl) ?_
    have e1 : items.toList.length = items.size := by simp
    have e2 : ((r : Int)).toNat = r := Int.toNat_natCast r
    have e3 : items.toList.toArray = items := by simp
    rw [e1, e2, e3]
    refine wpAny_newObj_type ?_ (by
      show (([Value.ref h'.objs.size, rawInt (if r > items.size then 2 else 0), Value.none] ++ (List.range r).map fun (n : Nat) => rawInt n).toArray).size ≤ sizeLine + 2
      simp
      have : (100 : Nat) ≤ sizeLine := by decide
      omega)
    refine wpAny_pure ⟨_, rfl, ?_⟩
    have hh := h h' hk
    rw [← Heap.size_push h' { cls := Value.type "tuple", data := Data.seq items }] at hh
    exact hh
end CpComb

namespace CpComb
open PySem PySem.Spec
open Sem (wp)
def cbO (pool : Addr) (st : Nat) (last : Value) (ix : List Nat) : Obj := { cls := .type "itertools.combinations", dict := none, data := .fields (([.ref pool, rawInt st, last] ++ ix.map fun (n : Nat) => rawInt n).toArray), slots := #[] }
section
variable {prog : Program} {w : World} {A : Around} {E : Value → Shared → Prop} {s : Shared}
theorem call_comb {l : Addr} {items : Array Value} {r : Nat} {t : Tok} {Q : Value → Shared → Prop} (hr : r < 100) (hl : s.heap.IsList l items) (hsz : items.size ≤ sizeLine)
    (h : ∀ h' : Heap, (∀ b o, s.heap.get? b = some o → h'.get? b = some o) → Q (.ref (h'.objs.size + 1)) { s with heap := (h'.push { cls := .type "tuple", data := .seq items }).push (cbO h'.objs.size (if r > items.size then 2 else 0) .none (List.range r)) }) :
    wpAny (model prog w) A (call (.type "itertools.combinations") [.ref l, .int r t]) Q E s := by
  obtain ⟨o, ho, hc, n, hd⟩ := hl
  refine callType_new called_cb (by decide +kernel) (typeCall_cb_2 _ _) (newCall_cb_2 _ _) (fun obj => F.args_object_init_3 obj _ _) entry_cb_new (meets_cb_new l o items n r t hr hc hd hsz) ⟨ho, fun h' hk => ?_⟩
  have e0 : rawInt (if r > items.size then 2 else 0) = rawInt ((if r > items.size then 2 else 0 : Nat) : Int) := by split <;> rfl
  rw [e0]
  have g1 := Heap.get?_push_size (h'.push { cls := .type "tuple", data := .seq items }) (o := cbO h'.objs.size (if r > items.size then 2 else 0) .none (List.range r)) rfl
  rw [Heap.size_push] at g1
  exact ⟨⟨_, g1, rfl⟩, h h' hk⟩
theorem nums_ok {it P : Addr} {st : Nat} {last : Value} {ix : List Nat} {Q : List Nat → Shared → Prop} (hc : s.heap.get? it = some (cbO P st last ix)) (h : Q ix s) : wpAny (model prog w) A (Builtin.Itertools.itNumbersFrom (.ref it) 3) Q E s := by
  unfold Builtin.Itertools.itNumbersFrom
  refine wpAny_bind (wpAny_load hc ?_)
  refine wpAny_pure ?_
  have e : ∀ f : Value → Nat, (∀ n : Nat, f (rawInt n) = n) → (([.ref P, rawInt st, last] ++ ix.map fun (n : Nat) => rawInt n).toArray.toList.drop 3).map f = ix := fun f hf => by
    have : ∀ l : List Nat, l.map (f ∘ fun (n : Nat) => rawInt n) = l := fun l => by
      induction l with
      | nil => rfl
      | cons a l ih => rw [List.map_cons, ih]; show f (rawInt a) :: l = a :: l; rw [hf]
    simp only [List.toList_toArray, List.cons_append, List.nil_append, List.drop_succ_cons, List.drop_zero, List.map_map]
    exact this ix
  refine (congrArg (fun l => Q l s) (e _ fun n => rfl)).mpr h
theorem stage_ok {it P : Addr} {st : Nat} {last : Value} {ix : List Nat} {Q : Int → Shared → Prop} (hc : s.heap.get? it = some (cbO P st last ix)) (h : Q (st : Int) s) : wpAny (model prog w) A (Builtin.Itertools.itIntField (.ref it) 1) Q E s := by
  unfold Builtin.Itertools.itIntField
  exact wpAny_bind (wpAny_field hc rfl (x := rawInt st) rfl (wpAny_pure h))
theorem pool_ok {P : Addr} {oP : Obj} {items : Array Value} {nP : Nat} {Q : Array Value → Shared → Prop} (hp : s.heap.get? P = some oP) (hd : oP.data = .seq items nP) (h : Q items s) : wpAny (model prog w) A (Builtin.Itertools.itPoolItems (.ref P)) Q E s := by
  unfold Builtin.Itertools.itPoolItems
  refine wpAny_bind ?_
  show wpAny _ _ (load P >>= _) _ _ _
  refine wpAny_bind (wpAny_load hp ?_)
  rw [hd]
  exact wpAny_pure (wpAny_pure h)
/-- what is left of a step: the tuple is handed out -/
structure After (s : Shared) (it P : Addr) (ix : List Nat) (items : Array Value) (h' : Heap) : Prop where
  rcd : h'.get? it = some (cbO P 1 (.ref s.heap.objs.size) ix)
  tup : h'.get? s.heap.objs.size = some { cls := .type "tuple", data := .seq (ix.map fun i => items.getD i .none).toArray }
  keep : ∀ b o, b ≠ it → s.heap.get? b = some o → h'.get? b = some o
theorem size_up (h : Heap) (a : Addr) (f : Obj → Obj) : (h.update a f).objs.size = h.objs.size := Heap.size_update ..
section
variable {it P : Addr} {ix : List Nat} {oP : Obj} {items : Array Value} {nP : Nat} {last : Value} {Q : Value → Shared → Prop}
/-- the record's object behind the last store -/
theorem after_ok {h1 : Heap} (c1 : h1.get? it = some (cbO P 1 last ix)) (z1 : h1.objs.size = s.heap.objs.size) (k1 : ∀ b o, b ≠ it → s.heap.get? b = some o → h1.get? b = some o) :
    After s it P ix items ((h1.push { cls := .type "tuple", data := .seq (ix.map fun i => items.getD i .none).toArray }).update it (Obj.mapFields (·.setIfInBounds 2 (.ref h1.objs.size)))) := by
  have c2 : (h1.push { cls := .type "tuple", data := .seq (ix.map fun i => items.getD i .none).toArray }).get? it = some (cbO P 1 last ix) := Heap.get?_push_of_some _ c1
  have lt := Heap.lt_size c1
  refine ⟨?_, ?_, fun b o hb q => ?_⟩
  · rw [Heap.get?_update_self _ c2 rfl, ← z1]
    rfl
  · rw [← z1, Heap.get?_update_other _ _ (Nat.ne_of_lt lt)]
    exact Heap.get?_push_size _ rfl
  · rw [Heap.get?_update_other _ _ (Ne.symm hb)]
    exact Heap.get?_push_of_some _ (k1 b o hb q)
theorem cb_next0 (hc : s.heap.get? it = some (cbO P 0 last ix)) (hp : s.heap.get? P = some oP) (hd : oP.data = .seq items nP) (hne : P ≠ it) (hx : ix.length ≤ 100)
    (h : ∀ h', After s it P ix items h' → Q (.ref s.heap.objs.size) { s with heap := h' }) :
    wpAny (model prog w) A (Builtin.«itertools.combinations.__next__» ⟨[.ref it], []⟩) (fun fin s' => ∃ v, fin = .done (.ret v) ∧ Q v s') E s := by
  show wpAny _ _ (field (.ref it) 0 >>= _) _ _ _
  refine wpAny_bind (wpAny_field hc rfl (x := .ref P) rfl ?_)
  show wpAny _ _ (Builtin.Itertools.itNumbersFrom (.ref it) 3 >>= _) _ _ _
  refine wpAny_bind (nums_ok hc ?_)
  show wpAny _ _ (Builtin.Itertools.itIntField (.ref it) 1 >>= _) _ _ _
  refine wpAny_bind (stage_ok hc ?_)
  show wpAny _ _ (setField (.ref it) 1 (rawInt 1) >>= _) _ _ _
  refine wpAny_bind (wpAny_setField hc rfl (by simp) ?_)
  have c1 : (s.heap.update it (Obj.mapFields (·.setIfInBounds 1 (rawInt 1)))).get? it = some (cbO P 1 last ix) := Heap.get?_update_self _ hc rfl
  have p1 : (s.heap.update it (Obj.mapFields (·.setIfInBounds 1 (rawInt 1)))).get? P = some oP := (Heap.get?_update_other _ _ (Ne.symm hne)).trans hp
  have z1 : (s.heap.update it (Obj.mapFields (·.setIfInBounds 1 (rawInt 1)))).objs.size = s.heap.objs.size := size_up ..
  have k1 : ∀ b o, b ≠ it → s.heap.get? b = some o → (s.heap.update it (Obj.mapFields (·.setIfInBounds 1 (rawInt 1)))).get? b = some o := fun b o hb q => (Heap.get?_update_other _ _ (Ne.symm hb)).trans q
  generalize s.heap.update it (Obj.mapFields (·.setIfInBounds 1 (rawInt 1))) = h1 at c1 p1 z1 k1 ⊢
  have A1 := after_ok (s := s) (items := items) c1 z1 k1
  refine wpAny_bind ?_
  show wpAny _ _ (Builtin.Itertools.itPoolItems (.ref P) >>= _) _ _ _
  refine wpAny_bind (pool_ok p1 hd ?_)
  refine wpAny_newTuple ?_ (by rw [List.length_map]; exact Nat.le_trans hx (by decide))
  have c2 : (h1.push { cls := .type "tuple", data := .seq (ix.map fun i => items.getD i .none).toArray }).get? it = some (cbO P 1 last ix) := Heap.get?_push_of_some _ c1
  refine wpAny_bind (wpAny_field c2 rfl (x := last) rfl ?_)
  refine wpAny_bind (wpAny_setField c2 rfl (by simp) ?_)
  refine wpAny_bind (wpAny_letGo ?_)
  refine wpAny_pure ⟨_, rfl, ?_⟩
  have e : (Value.ref h1.objs.size) = .ref s.heap.objs.size := by rw [z1]
  have hh := h _ A1
  rw [← e] at hh
  exact hh
/-- the indices behind these, of n -/
def nx2 (n i j : Nat) : Option (List Nat) := if j + 1 ≠ n then some [i, j + 1] else if i + 2 ≠ n then some [i + 1, i + 2] else none
def nx3 (n i j k : Nat) : Option (List Nat) := if k + 1 ≠ n then some [i, j, k + 1] else if j + 2 ≠ n then some [i, j + 1, j + 2] else if i + 3 ≠ n then some [i + 1, i + 2, i + 3] else none
def nxC (n : Nat) : List Nat → Option (List Nat)
  | [i, j] => nx2 n i j
  | [i, j, k] => nx3 n i j k
  | _ => none
theorem nxL2 {n i j : Nat} (hn : 2 ≤ n) {o : Option (List Nat)} (h : (match (match (j != 1 + n - 2) with | true => some 1 | false => (match (i != 0 + n - 2) with | true => some 0 | false => (none : Option Nat))) with | none => none | some k => some ([i, j].take k ++ (List.range (2 - k)).map ([i, j].getD k 0 + 1 + ·))) = o) : o = nx2 n i j := by
  unfold nx2
  cases h1 : (j != 1 + n - 2) with
  | true =>
    rw [h1] at h
    have : j + 1 ≠ n := by
      have := bne_iff_ne.mp h1
      omega
    rw [if_pos this, ← h]
    rfl
  | false =>
    rw [h1] at h
    have : ¬ (j + 1 ≠ n) := by
      have := bne_eq_false_iff_eq.mp h1
      omega
    rw [if_neg this]
    cases h2 : (i != 0 + n - 2) with
    | true =>
      rw [h2] at h
      have : i + 2 ≠ n := by
        have := bne_iff_ne.mp h2
        omega
      rw [if_pos this, ← h]
      rfl
    | false =>
      rw [h2] at h
      have : ¬ (i + 2 ≠ n) := by
        have := bne_eq_false_iff_eq.mp h2
        omega
      rw [if_neg this, ← h]
theorem nxL3 {n i j k : Nat} (hn : 3 ≤ n) {o : Option (List Nat)} (h : (match (match (k != 2 + n - 3) with | true => some 2 | false => (match (j != 1 + n - 3) with | true => some 1 | false => (match (i != 0 + n - 3) with | true => some 0 | false => (none : Option Nat)))) with | none => none | some m => some ([i, j, k].take m ++ (List.range (3 - m)).map ([i, j, k].getD m 0 + 1 + ·))) = o) : o = nx3 n i j k := by
  unfold nx3
  cases h1 : (k != 2 + n - 3) with
  | true =>
    rw [h1] at h
    have : k + 1 ≠ n := by
      have := bne_iff_ne.mp h1
      omega
    rw [if_pos this, ← h]
    rfl
  | false =>
    rw [h1] at h
    have : ¬ (k + 1 ≠ n) := by
      have := bne_eq_false_iff_eq.mp h1
      omega
    rw [if_neg this]
    cases h2 : (j != 1 + n - 3) with
    | true =>
      rw [h2] at h
      have : j + 2 ≠ n := by
        have := bne_iff_ne.mp h2
        omega
      rw [if_pos this, ← h]
      rfl
    | false =>
      rw [h2] at h
      have : ¬ (j + 2 ≠ n) := by
        have := bne_eq_false_iff_eq.mp h2
        omega
      rw [if_neg this]
      cases h3 : (i != 0 + n - 3) with
      | true =>
        rw [h3] at h
        have : i + 3 ≠ n := by
          have := bne_iff_ne.mp h3
          omega
        rw [if_pos this, ← h]
        rfl
      | false =>
        rw [h3] at h
        have : ¬ (i + 3 ≠ n) := by
          have := bne_eq_false_iff_eq.mp h3
          omega
        rw [if_neg this, ← h]
/-- two or three indices -/
def Two (n : Nat) (ix : List Nat) : Prop := (∃ i j, ix = [i, j] ∧ 2 ≤ n) ∨ ∃ i j k, ix = [i, j, k] ∧ 3 ≤ n
theorem Two.len {n : Nat} (h : Two n ix) : ix.length ≤ 3 := by
  rcases h with ⟨i, j, rfl, _⟩ | ⟨i, j, k, rfl, _⟩ <;> simp
theorem cb_next1 {jx : List Nat} (hc : s.heap.get? it = some (cbO P 1 last ix)) (hp : s.heap.get? P = some oP) (hd : oP.data = .seq items nP) (hne : P ≠ it) (hs : nxC items.size ix = some jx) (h2 : Two items.size ix)
    (h : ∀ h', After s it P jx items h' → Q (.ref s.heap.objs.size) { s with heap := h' }) :
    wpAny (model prog w) A (Builtin.«itertools.combinations.__next__» ⟨[.ref it], []⟩) (fun fin s' => ∃ v, fin = .done (.ret v) ∧ Q v s') E s := by
  have hx := h2.len
  have hj : jx.length = ix.length := by
    rcases h2 with ⟨i, j, rfl, hn⟩ | ⟨i, j, k, rfl, hn⟩
    · replace hs : nx2 items.size i j = some jx := hs
      unfold nx2 at hs
      split at hs
      · cases hs; rfl
      · split at hs <;> cases hs
        rfl
    · replace hs : nx3 items.size i j k = some jx := hs
      unfold nx3 at hs
      split at hs
      · cases hs; rfl
      · split at hs
        · cases hs; rfl
        · split at hs <;> cases hs
          rfl
  show wpAny _ _ (field (.ref it) 0 >>= _) _ _ _
  refine wpAny_bind (wpAny_field hc rfl (x := .ref P) rfl ?_)
  show wpAny _ _ (Builtin.Itertools.itNumbersFrom (.ref it) 3 >>= _) _ _ _
  refine wpAny_bind (nums_ok hc ?_)
  show wpAny _ _ (Builtin.Itertools.itIntField (.ref it) 1 >>= _) _ _ _
  refine wpAny_bind (stage_ok hc ?_)
  show wpAny _ _ (Builtin.Itertools.itPoolItems (.ref P) >>= _) _ _ _
  refine wpAny_bind (pool_ok hp hd ?_)
  split
  · rename_i nxt heq
    have e : nxt = jx := by
      rcases h2 with ⟨i, j, rfl, hn⟩ | ⟨i, j, k, rfl, hn⟩
      · have := nxL2 hn (show _ = some nxt from heq)
        exact Option.some.inj (this.trans hs)
      · have := nxL3 hn (show _ = some nxt from heq)
        exact Option.some.inj (this.trans hs)
    subst e
    refine wpAny_bind ?_
    show wpAny _ _ (updateFields it _) _ _ _
    have ef : ((cbO P 1 last ix).mapFields fun fs => fs.extract 0 3 ++ (nxt.map fun (n : Nat) => rawInt n).toArray) = cbO P 1 last nxt := by
      have : (([.ref P, rawInt 1, last] ++ ix.map fun (n : Nat) => rawInt n).toArray.extract 0 3 ++ (nxt.map fun (n : Nat) => rawInt n).toArray) = ([.ref P, rawInt 1, last] ++ nxt.map fun (n : Nat) => rawInt n).toArray := by
        apply Array.ext'
        simp
      show ({ cls := .type "itertools.combinations", dict := none, data := .fields (([.ref P, rawInt 1, last] ++ ix.map fun (n : Nat) => rawInt n).toArray.extract 0 3 ++ (nxt.map fun (n : Nat) => rawInt n).toArray), slots := #[] } : Obj) = _
      rw [this]
      rfl
    refine wpAny_updateFields hc rfl ?_ (by
      show (([.ref P, rawInt 1, last] ++ ix.map fun (n : Nat) => rawInt n).toArray.extract 0 3 ++ (nxt.map fun (n : Nat) => rawInt n).toArray).size ≤ sizeLine + 3
      simp
      have : (3 : Nat) ≤ sizeLine := by decide
      omega)
    have c1 := Heap.get?_update_self (Obj.mapFields fun fs => fs.extract 0 3 ++ (nxt.map fun (n : Nat) => rawInt n).toArray) hc rfl
    rw [ef] at c1
    have p1 : (s.heap.update it (Obj.mapFields fun fs => fs.extract 0 3 ++ (nxt.map fun (n : Nat) => rawInt n).toArray)).get? P = some oP := (Heap.get?_update_other _ _ (Ne.symm hne)).trans hp
    have z1 : (s.heap.update it (Obj.mapFields fun fs => fs.extract 0 3 ++ (nxt.map fun (n : Nat) => rawInt n).toArray)).objs.size = s.heap.objs.size := size_up ..
    have k1 : ∀ b o, b ≠ it → s.heap.get? b = some o → (s.heap.update it (Obj.mapFields fun fs => fs.extract 0 3 ++ (nxt.map fun (n : Nat) => rawInt n).toArray)).get? b = some o := fun b o hb q => (Heap.get?_update_other _ _ (Ne.symm hb)).trans q
    generalize s.heap.update it (Obj.mapFields fun fs => fs.extract 0 3 ++ (nxt.map fun (n : Nat) => rawInt n).toArray) = h1 at c1 p1 z1 k1 ⊢
    have A1 := after_ok (s := s) (items := items) c1 z1 k1
    refine wpAny_bind ?_
    show wpAny _ _ (Builtin.Itertools.itPoolItems (.ref P) >>= _) _ _ _
    refine wpAny_bind (pool_ok p1 hd ?_)
    refine wpAny_newTuple ?_ (by rw [List.length_map, hj]; exact Nat.le_trans hx (by decide))
    have c2 : (h1.push { cls := .type "tuple", data := .seq (nxt.map fun i => items.getD i .none).toArray }).get? it = some (cbO P 1 last nxt) := Heap.get?_push_of_some _ c1
    refine wpAny_bind (wpAny_field c2 rfl (x := last) rfl ?_)
    refine wpAny_bind (wpAny_setField c2 rfl (by simp) ?_)
    refine wpAny_bind (wpAny_letGo ?_)
    refine wpAny_pure ⟨_, rfl, ?_⟩
    have e : (Value.ref h1.objs.size) = .ref s.heap.objs.size := by rw [z1]
    have hh := h _ A1
    rw [← e] at hh
    exact hh
  · rename_i heq
    exfalso
    rcases h2 with ⟨i, j, rfl, hn⟩ | ⟨i, j, k, rfl, hn⟩
    · have := nxL2 hn (show _ = none from heq)
      cases this.trans hs
    · have := nxL3 hn (show _ = none from heq)
      cases this.trans hs
theorem stop_ok {s : Shared} {R : Fin → Shared → Prop} (hh : A.handled = none) (hQ : ∀ e h', CpRep.StopE e h' → (∀ b o, s.heap.get? b = some o → h'.get? b = some o) → E e { s with heap := h' }) : wpAny (model prog w) A (Builtin.Itertools.itStop : Sem Fin) R E s := by
  unfold Builtin.Itertools.itStop
  show wpAny _ _ (newExc (.type "StopIteration") [] >>= _) _ _ _
  refine wpAny_bind ?_
  simp only [newExc, newTuple]
  refine wpAny_bind (wpAny_newObj_type ?_ (by size_fits))
  refine wpAny_bind (m := firstArgMember _ _) (wpAny_of_eq (a := Value.none) (by first | rfl | (simp only [firstArgMember]; rfl)) ?_)
  refine wpAny_newObj_type ?_ (by size_fits)
  simp only [raiseNew]
  refine wpAny_bind (wpAny_handled ?_)
  rw [hh]
  refine wpAny_bind (wpAny_pure (wpAny_throw ?_))
  exact hQ _ _ ⟨_, _, _, rfl, Heap.get?_push_size _ rfl, rfl, rfl, rfl⟩ fun b o q => Heap.get?_push_of_some _ (Heap.get?_push_of_some _ q)
theorem cb_end1 {R : Fin → Shared → Prop} (hh : A.handled = none) (hc : s.heap.get? it = some (cbO P 1 last ix)) (hp : s.heap.get? P = some oP) (hd : oP.data = .seq items nP) (hs : nxC items.size ix = none) (h2 : Two items.size ix)
    (hQ : ∀ e h', CpRep.StopE e h' → (∀ b o, b ≠ it → s.heap.get? b = some o → h'.get? b = some o) → E e { s with heap := h' }) : wpAny (model prog w) A (Builtin.«itertools.combinations.__next__» ⟨[.ref it], []⟩) R E s := by
  show wpAny _ _ (field (.ref it) 0 >>= _) _ _ _
  refine wpAny_bind (wpAny_field hc rfl (x := .ref P) rfl ?_)
  show wpAny _ _ (Builtin.Itertools.itNumbersFrom (.ref it) 3 >>= _) _ _ _
  refine wpAny_bind (nums_ok hc ?_)
  show wpAny _ _ (Builtin.Itertools.itIntField (.ref it) 1 >>= _) _ _ _
  refine wpAny_bind (stage_ok hc ?_)
  show wpAny _ _ (Builtin.Itertools.itPoolItems (.ref P) >>= _) _ _ _
  refine wpAny_bind (pool_ok hp hd ?_)
  split
  · rename_i nxt heq
    exfalso
    rcases h2 with ⟨i, j, rfl, hn⟩ | ⟨i, j, k, rfl, hn⟩
    · have := nxL2 hn (show _ = some nxt from heq)
      cases this.trans hs
    · have := nxL3 hn (show _ = some nxt from heq)
      cases this.trans hs
  · refine wpAny_bind (wpAny_setField hc rfl (by simp) ?_)
    refine stop_ok hh fun e h' se k => hQ e h' se fun b o hb q => k b o ((Heap.get?_update_other _ _ (Ne.symm hb)).trans q)
theorem cb_end2 {R : Fin → Shared → Prop} (hh : A.handled = none) (hc : s.heap.get? it = some (cbO P 2 last ix))
    (hQ : ∀ e h', CpRep.StopE e h' → (∀ b o, b ≠ it → s.heap.get? b = some o → h'.get? b = some o) → E e { s with heap := h' }) : wpAny (model prog w) A (Builtin.«itertools.combinations.__next__» ⟨[.ref it], []⟩) R E s := by
  show wpAny _ _ (field (.ref it) 0 >>= _) _ _ _
  refine wpAny_bind (wpAny_field hc rfl (x := .ref P) rfl ?_)
  show wpAny _ _ (Builtin.Itertools.itNumbersFrom (.ref it) 3 >>= _) _ _ _
  refine wpAny_bind (nums_ok hc ?_)
  show wpAny _ _ (Builtin.Itertools.itIntField (.ref it) 1 >>= _) _ _ _
  refine wpAny_bind (stage_ok hc ?_)
  show wpAny _ _ (rule _ >>= _) _ _ _
  refine wpAny_bind (wpAny_rule ?_)
  exact stop_ok hh fun e h' se k => hQ e h' se fun b o _ q => k b o q
end
end
end CpComb

namespace CpComb
open PySem PySem.Spec
section
variable {prog : Program} {w : World} {A : Around} {E : Value → Shared → Prop} {s : Shared} {it P : Addr} {ix : List Nat} {oP : Obj} {items : Array Value} {nP : Nat} {last : Value}
theorem iter_comb {st : Nat} {Q : Value → Shared → Prop} (hc : s.heap.get? it = some (cbO P st last ix)) (h : Q (.ref it) s) : wpAny (model prog w) A (pyIter (.ref it)) Q E s := by
  have hT : s.TypeIs (.ref it) "itertools.combinations" := ⟨_, hc, rfl⟩
  refine wpAny_pyIter_slot hT slot_cb_iter (wpAny_call_entry slot_cb_iter hT entry_cb_iter ?_ (args_cb_iter _))
  show wpAny _ _ (ret (.ref it)) _ _ s
  exact wpAny_pure ⟨_, rfl, "itertools.combinations", _, hT, slot_cb_next.lookup, h⟩
theorem pn0 {Q : Option Value → Shared → Prop} (hc : s.heap.get? it = some (cbO P 0 last ix)) (hp : s.heap.get? P = some oP) (hd : oP.data = .seq items nP) (hne : P ≠ it) (hx : ix.length ≤ 100)
    (h : ∀ h', After s it P ix items h' → Q (some (.ref s.heap.objs.size)) { s with heap := h' }) : wpAny (model prog w) A (pyNext (.ref it)) Q E s := by
  have hT : s.TypeIs (.ref it) "itertools.combinations" := ⟨_, hc, rfl⟩
  unfold pyNext
  exact wpAny_bind (wpAny_attempt (wpAny_callSpecial?_slot (name := Str.ofString "__next__") hT slot_cb_next
    (wpAny_call_entry slot_cb_next hT entry_cb_next (cb_next0 hc hp hd hne hx fun h' a => wpAny_pure (h h' a)) (args_cb_next _))))
theorem pn1 {jx : List Nat} {Q : Option Value → Shared → Prop} (hc : s.heap.get? it = some (cbO P 1 last ix)) (hp : s.heap.get? P = some oP) (hd : oP.data = .seq items nP) (hne : P ≠ it) (hs : nxC items.size ix = some jx) (h2 : Two items.size ix)
    (h : ∀ h', After s it P jx items h' → Q (some (.ref s.heap.objs.size)) { s with heap := h' }) : wpAny (model prog w) A (pyNext (.ref it)) Q E s := by
  have hT : s.TypeIs (.ref it) "itertools.combinations" := ⟨_, hc, rfl⟩
  unfold pyNext
  exact wpAny_bind (wpAny_attempt (wpAny_callSpecial?_slot (name := Str.ofString "__next__") hT slot_cb_next
    (wpAny_call_entry slot_cb_next hT entry_cb_next (cb_next1 hc hp hd hne hs h2 fun h' a => wpAny_pure (h h' a)) (args_cb_next _))))
theorem pe1 {Q : Option Value → Shared → Prop} (hh : A.handled = none) (hc : s.heap.get? it = some (cbO P 1 last ix)) (hp : s.heap.get? P = some oP) (hd : oP.data = .seq items nP) (hs : nxC items.size ix = none) (h2 : Two items.size ix)
    (hQ : ∀ h', (∀ b o, b ≠ it → s.heap.get? b = some o → h'.get? b = some o) → Q none { s with heap := h' }) : wpAny (model prog w) A (pyNext (.ref it)) Q E s := by
  have hT : s.TypeIs (.ref it) "itertools.combinations" := ⟨_, hc, rfl⟩
  unfold pyNext
  refine wpAny_bind (wpAny_attempt (wpAny_callSpecial?_slot (name := Str.ofString "__next__") hT slot_cb_next
    (wpAny_call_entry slot_cb_next hT entry_cb_next ?_ (args_cb_next _))))
  refine cb_end1 hh hc hp hd hs h2 fun e h' se k => ?_
  obtain ⟨a, o, vs, rfl, ho, hcl, _⟩ := se
  refine wpAny_bind (wpAny_isInstance (T := "StopIteration") (b := true) ⟨o, ho, hcl⟩ isSubtype_stop ?_)
  exact wpAny_pure (hQ _ k)
theorem pe2 {Q : Option Value → Shared → Prop} (hh : A.handled = none) (hc : s.heap.get? it = some (cbO P 2 last ix))
    (hQ : ∀ h', (∀ b o, b ≠ it → s.heap.get? b = some o → h'.get? b = some o) → Q none { s with heap := h' }) : wpAny (model prog w) A (pyNext (.ref it)) Q E s := by
  have hT : s.TypeIs (.ref it) "itertools.combinations" := ⟨_, hc, rfl⟩
  unfold pyNext
  refine wpAny_bind (wpAny_attempt (wpAny_callSpecial?_slot (name := Str.ofString "__next__") hT slot_cb_next
    (wpAny_call_entry slot_cb_next hT entry_cb_next ?_ (args_cb_next _))))
  refine cb_end2 hh hc fun e h' se k => ?_
  obtain ⟨a, o, vs, rfl, ho, hcl, _⟩ := se
  refine wpAny_bind (wpAny_isInstance (T := "StopIteration") (b := true) ⟨o, ho, hcl⟩ isSubtype_stop ?_)
  exact wpAny_pure (hQ _ k)
end
/-- the combinations, one after another -/
structure Chain (n : Nat) (L : List (List Nat)) : Prop where
  two : ∀ ix ∈ L, Two n ix
  step : ∀ k ix jx, L[k]? = some ix → L[k + 1]? = some jx → nxC n ix = some jx
  stop : ∀ k ix, L[k]? = some ix → L[k + 1]? = none → nxC n ix = none
end CpComb
namespace L2
open PySem PySem.Spec CpComb
def Itcb (vs : List V) (L : List (List Nat)) : It :=
  ⟨fun i _ => i < L.length, fun i H v H' => ∃ T ix, v = .ref T ∧ H T = none ∧ L[i]? = some ix ∧ H' = upd H T (.tup (ix.map fun k => vs.getD k .non)), fun i _ => L.length ≤ i⟩
/-- where the record stands at turn i -/
def CbAt (h : Heap) (it P : Addr) (L : List (List Nat)) (i : Nat) : Prop := ∃ last ix,
  (L = [] ∧ h.get? it = some (cbO P 2 last ix)) ∨ (i = 0 ∧ L[0]? = some ix ∧ h.get? it = some (cbO P 0 last ix)) ∨ ∃ j, i = j + 1 ∧ L[j]? = some ix ∧ h.get? it = some (cbO P 1 last ix)
theorem vals_getD : ∀ {vs : List V} {us : List Value}, Vals vs us → ∀ k, RelV (vs.getD k .non) (us.getD k .none)
  | _, _, .nil, k => rfl
  | _, _, .cons r _, 0 => r
  | _, _, .cons _ t, k + 1 => vals_getD t k
theorem vals_ix {vs : List V} {us : List Value} (r : Vals vs us) : ∀ ix : List Nat, Vals (ix.map fun k => vs.getD k .non) (ix.map fun k => us.getD k .none)
  | [] => .nil
  | k :: ix => .cons (vals_getD r k) (vals_ix r ix)
theorem arr_getD (us : List Value) (k : Nat) : us.toArray.getD k .none = us.getD k .none := by
  rw [List.getD_eq_getElem?_getD]
  by_cases h : k < us.length
  · simp [Array.getD, h]
  · simp [Array.getD, h]
theorem turn_comb {P : Program} {w : World} {K : PySem.W.Frag} {tg : Expr} {it T0 : Addr} {vs : List V} {us : List Value} {L : List (List Nat)} (rv : Vals vs us) (C : Chain us.length L) (hne : T0 ≠ it) :
    Turn P w K tg (Itcb vs L) [it, T0] it (fun i h => h.get? T0 = some { cls := .type "tuple", data := .seq us.toArray } ∧ CbAt h it T0 L i) where
  mem := by simp
  obj := fun i h st c hc => by
    obtain ⟨hT, last, ix, q⟩ := st
    have e' : c = it ∨ c = T0 := by simpa using hc
    rcases e' with rfl | rfl
    · rcases q with ⟨_, q⟩ | ⟨_, _, q⟩ | ⟨_, _, _, q⟩ <;> exact ⟨_, q, fun v z => nomatch z⟩
    · exact ⟨_, hT, fun v z => nomatch z⟩
  keep := fun i h h' st k => by
    obtain ⟨hT, last, ix, q⟩ := st
    refine ⟨k T0 (by simp) _ hT, last, ix, ?_⟩
    rcases q with ⟨e, q⟩ | ⟨e, e2, q⟩ | ⟨j, e, e2, q⟩
    · exact .inl ⟨e, k it (by simp) _ q⟩
    · exact .inr (.inl ⟨e, e2, k it (by simp) _ q⟩)
    · exact .inr (.inr ⟨j, e, e2, k it (by simp) _ q⟩)
  item := by
    intro X hP hw hK hc i pins s σ H E I hf st hg
    subst hP hw hK
    obtain ⟨hT, last, ix, q⟩ := st
    have hg : i < L.length := hg
    obtain ⟨jx, hjx⟩ : ∃ jx, L[i]? = some jx := ⟨_, List.getElem?_eq_getElem hg⟩
    have t2 := C.two jx (List.mem_of_getElem? hjx)
    have len := t2.len
    have sz : us.toArray.size = us.length := by simp
    have fin : ∀ h', After s it T0 jx us.toArray h' → ∃ u, (some (Value.ref s.heap.objs.size)) = some u ∧
        wpAny (model X.prog X.w) X.A (letOwnedTupleGo tg (.ref it) u) (fun _ s2 => ∃ x H', Inv X pins σ H' s2 ∧ RelV x u ∧ (Itcb vs L).yld i H x H' ∧ (s2.heap.get? T0 = some { cls := .type "tuple", data := .seq us.toArray } ∧ CbAt s2.heap it T0 L (i + 1)) ∧ ∀ b ∈ [it, T0], H' b = none) E { s with heap := h' } := fun h' a => by
      have itl : it < s.heap.objs.size := by
        rcases q with ⟨_, q⟩ | ⟨_, _, q⟩ | ⟨_, _, _, q⟩ <;> exact Heap.lt_size q
      have tl : T0 < s.heap.objs.size := Heap.lt_size hT
      refine ⟨_, rfl, go_of (s := { s with heap := h' }) (n := "itertools.combinations") a.rcd rfl rfl (by decide) ?_⟩
      have e : (jx.map fun i => us.toArray.getD i .none) = jx.map fun k => us.getD k .none := List.map_congr_left fun k _ => arr_getD us k
      have tup := a.tup
      rw [e] at tup
      have new : ObjOk X.prog X.w (upd H s.heap.objs.size (.tup (jx.map fun k => vs.getD k .non))) h' s.heap.objs.size (.tup (jx.map fun k => vs.getD k .non)) :=
        ⟨by rw [List.length_map]; exact Nat.le_trans len (by decide), jx.map fun k => us.getD k .none, vals_ix rv jx, ⟨_, tup, rfl, _, rfl⟩⟩
      have I1 : Inv X pins σ (upd H s.heap.objs.size (.tup (jx.map fun k => vs.getD k .non))) { s with heap := h' } :=
        I.turnedNew (t' := s.toks) (ch := [it, T0]) (fun c o hb z => a.keep c o (fun z' => hb (by simp [z'])) z) hf (Nat.le_refl _) new
      refine ⟨.ref s.heap.objs.size, _, I1, rfl, ⟨_, jx, rfl, I.hok.fresh (Nat.le_refl _), hjx, rfl⟩, ⟨a.keep _ _ hne hT, _, jx, .inr (.inr ⟨i, rfl, hjx, a.rcd⟩)⟩, fun c hcm => ?_⟩
      have hlt : c < s.heap.objs.size := by
        have e' : c = it ∨ c = T0 := by simpa using hcm
        rcases e' with rfl | rfl
        · exact itl
        · exact tl
      rw [upd_ne (Nat.ne_of_lt hlt)]
      exact (hf c hcm).1
    rcases q with ⟨e, _⟩ | ⟨e, e2, q⟩ | ⟨j, e, e2, q⟩
    · rw [e] at hg; simp at hg
    · subst e
      rw [hjx] at e2
      cases e2
      exact pn0 q hT rfl hne (by omega) fin
    · subst e
      have st := C.step j ix jx e2 hjx
      have tw := C.two ix (List.mem_of_getElem? e2)
      rw [← sz] at st tw
      exact pn1 q hT rfl hne st tw fin
  done := by
    intro X hP hw hK hc i pins s σ H E I hf st hg
    subst hP hw hK
    obtain ⟨hT, last, ix, q⟩ := st
    have hg : L.length ≤ i := hg
    obtain ⟨f0, f1, f2, f3, f4, f5⟩ := hf it (by simp)
    have sz : us.toArray.size = us.length := by simp
    have fin : ∀ h', (∀ b o, b ≠ it → s.heap.get? b = some o → h'.get? b = some o) → (none : Option Value) = none ∧ Inv X pins σ H { s with heap := h' } := fun h' k => ⟨rfl, I.turned (t' := s.toks) (fun b o hb e => k b o hb e) f0 f1 f3 f4 f5⟩
    rcases q with ⟨e, q⟩ | ⟨e, e2, q⟩ | ⟨j, e, e2, q⟩
    · exact pe2 (I.ok.hd hc) q fin
    · have := (List.getElem?_eq_some_iff.mp e2).1
      omega
    · subst e
      have hj := (List.getElem?_eq_some_iff.mp e2).1
      have st := C.stop j ix e2 (List.getElem?_eq_none (by omega))
      have tw := C.two ix (List.mem_of_getElem? e2)
      rw [← sz] at st tw
      exact pe1 (I.ok.hd hc) q hT rfl st tw fin
  self := fun A i s Q E st h => by
    obtain ⟨_, last, ix, q⟩ := st
    rcases q with ⟨_, q⟩ | ⟨_, _, q⟩ | ⟨_, _, _, q⟩ <;> exact iter_comb q h
def iComb (K : PySem.W.Frag) (r : Nat) (ta : TA) : TI := fun σ H R => ta σ H fun vs H1 => ∃ a xs L, vs = [.ref a, .int r] ∧ SqL K H1 a xs ∧ Chain xs.length L ∧ (L = [] ↔ r > xs.length) ∧ (∀ ix, L[0]? = some ix → ix = List.range r) ∧ R (Itcb xs L) H1
theorem pi_comb {X : Cx} {tg e e2 : Expr} {ta : TA} {p pos : Pos} {r : Nat} (hr : r < 100) (hg : Gl X "combinations") (hm : X.mg "combinations" = some (.type "itertools.combinations")) (ha : PA X [e, e2] ta)
    (hs : starEach [e, e2] X.env = (false, eval e X.env) :: starEach [e2] X.env := by rfl) (hpl : (backTo pos (starEach [e2] X.env)).any (·.1) = false := by rfl) :
    PI X tg (.Call (.Name "combinations" p) [e, e2] [] pos) (iComb X.K r ta) := by
  refine ⟨fun pins s σ H R I h => ?_⟩
  refine PyProof.Rows.Call_ (ld_glob I hg hm (PyProof.Rows.callWith_type1 (thn (ha.run pos pins s σ H _ I h) fun us s1 ⟨vs, H1, I1, r1, q1⟩ => ?_) hs hpl))
  obtain ⟨a, xs, L, ex, hq, C, c0, c1, q⟩ := q1
  subst ex
  cases r1 with
  | cons r0 rr =>
    cases rr with
    | cons r' rr =>
      cases rr
      cases r0
      obtain ⟨t, rfl⟩ := r'
      obtain ⟨its, rv, p', hz⟩ := I1.list hq
      have hl := rv.length
      have sz : its.toArray.size = its.length := by simp
      refine call_comb hr p'.isList (by rw [sz]; omega) fun h' hk => ?_
      have It1 : Inv X pins σ H1 { s1 with heap := h' } := I1.kept (t' := s1.toks) hk
      have I2 : Inv X pins σ H1 { s1 with heap := (h'.push { cls := .type "tuple", data := .seq its.toArray }).push (cbO h'.objs.size (if r > its.toArray.size then 2 else 0) .none (List.range r)) } := I1.kept (t' := s1.toks) fun b o e => Heap.get?_push_of_some _ (Heap.get?_push_of_some _ (hk b o e))
      have g1 := Heap.get?_push_size (h'.push { cls := .type "tuple", data := .seq its.toArray }) (o := cbO h'.objs.size (if r > its.toArray.size then 2 else 0) .none (List.range r)) rfl
      rw [Heap.size_push] at g1
      have gP : ((h'.push { cls := .type "tuple", data := .seq its.toArray }).push (cbO h'.objs.size (if r > its.toArray.size then 2 else 0) .none (List.range r))).get? h'.objs.size = some { cls := .type "tuple", data := .seq its.toArray } := Heap.get?_push_of_some _ (Heap.get?_push_size _ rfl)
      refine iter_comb g1 ?_
      refine ⟨h'.objs.size + 1, [h'.objs.size + 1, h'.objs.size], _, _, H1, rfl, I2, turn_comb rv (by rw [← hl]; exact C) (Nat.ne_of_lt (Nat.lt_succ_self _)), ⟨gP, .none, List.range r, ?_⟩, fun b hb => ?_, q⟩
      · by_cases z : r > xs.length
        · have zz : (if r > its.toArray.size then 2 else 0) = 2 := if_pos (by rw [sz, ← hl]; exact z)
          rw [zz] at g1
          refine .inl ⟨c0.mpr z, ?_⟩
          rw [zz]
          exact g1
        · have zz : (if r > its.toArray.size then 2 else 0) = 0 := if_neg (by rw [sz, ← hl]; exact z)
          rw [zz] at g1
          have hne : L ≠ [] := fun e => z (c0.mp e)
          obtain ⟨ix, hix⟩ : ∃ ix, L[0]? = some ix := ⟨_, List.getElem?_eq_getElem (List.length_pos_iff.mpr hne)⟩
          refine .inr (.inl ⟨rfl, ?_, ?_⟩)
          · rw [hix, c1 ix hix]
          · rw [zz]
            exact g1
      · have e' : b = h'.objs.size + 1 ∨ b = h'.objs.size := by simpa using hb
        have hle : h'.objs.size ≤ b := by
          rcases e' with z | z
          · rw [z]; exact Nat.le_add_right _ _
          · rw [z]; exact Nat.le_refl _
        have hfree : H1 b = none := It1.hok.fresh hle
        obtain ⟨f0, f1, f2, f3, f4, f5⟩ := It1.fpOk hle hfree
        exact ⟨f0, f1, f2, f3, f4, f5⟩
end L2

namespace DL
open PySem L2 CpComb
variable [TC : TabCtx]
/-! combinations of a list, two or three of its items -/
def walkC (n : Nat) : Nat → List Nat → List (List Nat)
  | 0, _ => []
  | f + 1, ix => ix :: match nxC n ix with
    | none => []
    | some jx => walkC n f jx
/-- indices as they come -/
def Good (n : Nat) (ix : List Nat) : Prop := (∃ i j, ix = [i, j] ∧ i < j ∧ j < n) ∨ ∃ i j k, ix = [i, j, k] ∧ i < j ∧ j < k ∧ k < n
def meas (n : Nat) : List Nat → Nat
  | [i, j] => (n - i) * (n + 1) + (n - j)
  | [i, j, k] => (n - i) * ((n + 1) * (n + 1)) + ((n - j) * (n + 1) + (n - k))
  | _ => 0
theorem Good.two {n : Nat} {ix : List Nat} (h : Good n ix) : Two n ix := by
  rcases h with ⟨i, j, rfl, h1, h2⟩ | ⟨i, j, k, rfl, h1, h2, h3⟩
  · exact .inl ⟨i, j, rfl, by omega⟩
  · exact .inr ⟨i, j, k, rfl, by omega⟩
theorem Good.next {n : Nat} {ix jx : List Nat} (h : Good n ix) (e : nxC n ix = some jx) : Good n jx ∧ meas n jx < meas n ix ∧ jx.length = ix.length := by
  rcases h with ⟨i, j, rfl, h1, h2⟩ | ⟨i, j, k, rfl, h1, h2, h3⟩
  · replace e : nx2 n i j = some jx := e
    unfold nx2 at e
    split at e
    · cases e
      exact ⟨.inl ⟨i, j + 1, rfl, by omega, by omega⟩, by show (n - i) * (n + 1) + (n - (j + 1)) < (n - i) * (n + 1) + (n - j); omega, rfl⟩
    · split at e
      · cases e
        refine ⟨.inl ⟨i + 1, i + 2, rfl, by omega, by omega⟩, ?_, rfl⟩
        show (n - (i + 1)) * (n + 1) + (n - (i + 2)) < (n - i) * (n + 1) + (n - j)
        have : (n - i) * (n + 1) = (n - (i + 1)) * (n + 1) + (n + 1) := by
          have : n - i = (n - (i + 1)) + 1 := by omega
          rw [this, Nat.succ_mul]
        omega
      · cases e
  · replace e : nx3 n i j k = some jx := e
    unfold nx3 at e
    have m1 : (n - i) * ((n + 1) * (n + 1)) = (n - (i + 1)) * ((n + 1) * (n + 1)) + (n + 1) * (n + 1) := by
      have : n - i = (n - (i + 1)) + 1 := by omega
      rw [this, Nat.succ_mul]
    have m2 : (n - j) * (n + 1) = (n - (j + 1)) * (n + 1) + (n + 1) := by
      have : n - j = (n - (j + 1)) + 1 := by omega
      rw [this, Nat.succ_mul]
    split at e
    · cases e
      exact ⟨.inr ⟨i, j, k + 1, rfl, by omega, by omega, by omega⟩, by show (n - i) * ((n + 1) * (n + 1)) + ((n - j) * (n + 1) + (n - (k + 1))) < (n - i) * ((n + 1) * (n + 1)) + ((n - j) * (n + 1) + (n - k)); omega, rfl⟩
    · split at e
      · cases e
        refine ⟨.inr ⟨i, j + 1, j + 2, rfl, by omega, by omega, by omega⟩, ?_, rfl⟩
        show (n - i) * ((n + 1) * (n + 1)) + ((n - (j + 1)) * (n + 1) + (n - (j + 2))) < (n - i) * ((n + 1) * (n + 1)) + ((n - j) * (n + 1) + (n - k))
        omega
      · split at e
        · cases e
          refine ⟨.inr ⟨i + 1, i + 2, i + 3, rfl, by omega, by omega, by omega⟩, ?_, rfl⟩
          show (n - (i + 1)) * ((n + 1) * (n + 1)) + ((n - (i + 2)) * (n + 1) + (n - (i + 3))) < (n - i) * ((n + 1) * (n + 1)) + ((n - j) * (n + 1) + (n - k))
          have : (n - (i + 2)) * (n + 1) + (n - (i + 3)) < (n + 1) * (n + 1) := by
            have : (n - (i + 2)) * (n + 1) ≤ (n - 1) * (n + 1) := Nat.mul_le_mul_right _ (by omega)
            have h : (n + 1) * (n + 1) = (n - 1) * (n + 1) + 2 * (n + 1) := by
              rw [← Nat.add_mul]
              congr 1
              omega
            omega
          omega
        · cases e
theorem walk_good {n : Nat} : ∀ (f : Nat) {ix : List Nat}, Good n ix → ∀ jx ∈ walkC n f ix, Good n jx ∧ jx.length = ix.length
  | 0, _, _, jx, hj => by cases hj
  | f + 1, ix, h, jx, hj => by
    rcases List.mem_cons.mp hj with rfl | hj
    · exact ⟨h, rfl⟩
    · cases e : nxC n ix with
      | none => rw [e] at hj; cases hj
      | some kx =>
        rw [e] at hj
        obtain ⟨g, _, l⟩ := h.next e
        obtain ⟨a, b⟩ := walk_good f g jx hj
        exact ⟨a, b.trans l⟩
theorem walk_zero {n f : Nat} {ix : List Nat} : (walkC n (f + 1) ix)[0]? = some ix := rfl
theorem walk_chain {n : Nat} : ∀ (f : Nat) {ix : List Nat}, Good n ix → meas n ix < f → (∀ k a b, (walkC n f ix)[k]? = some a → (walkC n f ix)[k + 1]? = some b → nxC n a = some b) ∧ ∀ k a, (walkC n f ix)[k]? = some a → (walkC n f ix)[k + 1]? = none → nxC n a = none
  | 0, _, _, h => by omega
  | f + 1, ix, g, hf => by
    cases e : nxC n ix with
    | none =>
      have w : walkC n (f + 1) ix = [ix] := by
        show ix :: (match nxC n ix with | none => [] | some jx => walkC n f jx) = _
        rw [e]
      rw [w]
      refine ⟨fun k a b h1 h2 => ?_, fun k a h1 _ => ?_⟩
      · simp at h2
      · cases k with
        | zero => simp at h1; rw [← h1]; exact e
        | succ k => simp at h1
    | some jx =>
      obtain ⟨g2, ml, _⟩ := g.next e
      have w : walkC n (f + 1) ix = ix :: walkC n f jx := by
        show ix :: (match nxC n ix with | none => [] | some jx => walkC n f jx) = _
        rw [e]
      obtain ⟨i1, i2⟩ := walk_chain f g2 (by omega)
      obtain ⟨f', rfl⟩ : ∃ f', f = f' + 1 := ⟨f - 1, by omega⟩
      rw [w]
      refine ⟨fun k a b h1 h2 => ?_, fun k a h1 h2 => ?_⟩
      · cases k with
        | zero =>
          cases h1
          rw [List.getElem?_cons_succ, walk_zero] at h2
          cases h2
          exact e
        | succ k => exact i1 k a b h1 h2
      · cases k with
        | zero => rw [List.getElem?_cons_succ, walk_zero] at h2; cases h2
        | succ k => exact i2 k a h1 h2
/-- all of them come -/
theorem walk_all2 {n : Nat} : ∀ (f : Nat) {i j : Nat}, i < j → j < n → meas n [i, j] < f → ∀ a b, a < b → b < n → (i < a ∨ i = a ∧ j ≤ b) → [a, b] ∈ walkC n f [i, j]
  | 0, _, _, _, _, h => by omega
  | f + 1, i, j, h1, h2, hf => fun a b h3 h4 h5 => by
    by_cases z : i = a ∧ j = b
    · obtain ⟨rfl, rfl⟩ := z
      exact List.mem_cons_self
    · show [a, b] ∈ [i, j] :: (match nx2 n i j with | none => [] | some jx => walkC n f jx)
      refine List.mem_cons_of_mem _ ?_
      have g : Good n [i, j] := .inl ⟨i, j, rfl, h1, h2⟩
      unfold nx2
      by_cases c : j + 1 ≠ n
      · have m := (g.next (show nxC n [i, j] = some [i, j + 1] by show nx2 n i j = _; unfold nx2; rw [if_pos c])).2.1
        rw [if_pos c]
        exact walk_all2 f (by omega) (by omega) (by omega) a b h3 h4 (by omega)
      · rw [if_neg c]
        by_cases c2 : i + 2 ≠ n
        · have m := (g.next (show nxC n [i, j] = some [i + 1, i + 2] by show nx2 n i j = _; unfold nx2; rw [if_neg c, if_pos c2])).2.1
          rw [if_pos c2]
          exact walk_all2 f (by omega) (by omega) (by omega) a b h3 h4 (by omega)
        · omega
theorem walk_all3 {n : Nat} : ∀ (f : Nat) {i j k : Nat}, i < j → j < k → k < n → meas n [i, j, k] < f → ∀ a b c, a < b → b < c → c < n → (i < a ∨ i = a ∧ (j < b ∨ j = b ∧ k ≤ c)) → [a, b, c] ∈ walkC n f [i, j, k]
  | 0, _, _, _, _, _, _, h => by omega
  | f + 1, i, j, k, h1, h2, h3, hf => fun a b c h4 h5 h6 h7 => by
    by_cases z : i = a ∧ j = b ∧ k = c
    · obtain ⟨rfl, rfl, rfl⟩ := z
      exact List.mem_cons_self
    · show [a, b, c] ∈ [i, j, k] :: (match nx3 n i j k with | none => [] | some jx => walkC n f jx)
      refine List.mem_cons_of_mem _ ?_
      have g : Good n [i, j, k] := .inr ⟨i, j, k, rfl, h1, h2, h3⟩
      unfold nx3
      by_cases c1 : k + 1 ≠ n
      · have m := (g.next (show nxC n [i, j, k] = some [i, j, k + 1] by show nx3 n i j k = _; unfold nx3; rw [if_pos c1])).2.1
        rw [if_pos c1]
        exact walk_all3 f (by omega) (by omega) (by omega) (by omega) a b c h4 h5 h6 (by omega)
      · rw [if_neg c1]
        by_cases c2 : j + 2 ≠ n
        · have m := (g.next (show nxC n [i, j, k] = some [i, j + 1, j + 2] by show nx3 n i j k = _; unfold nx3; rw [if_neg c1, if_pos c2])).2.1
          rw [if_pos c2]
          exact walk_all3 f (by omega) (by omega) (by omega) (by omega) a b c h4 h5 h6 (by omega)
        · rw [if_neg c2]
          by_cases c3 : i + 3 ≠ n
          · have m := (g.next (show nxC n [i, j, k] = some [i + 1, i + 2, i + 3] by show nx3 n i j k = _; unfold nx3; rw [if_neg c1, if_neg c2, if_pos c3])).2.1
            rw [if_pos c3]
            exact walk_all3 f (by omega) (by omega) (by omega) (by omega) a b c h4 h5 h6 (by omega)
          · omega
/-- the combinations of n things, two or three -/
def combI (r n : Nat) : List (List Nat) := if r > n then [] else walkC n (meas n (List.range r) + 1) (List.range r)
theorem range_good {r n : Nat} (hr : r = 2 ∨ r = 3) (h : ¬ r > n) : Good n (List.range r) := by
  rcases hr with rfl | rfl
  · exact .inl ⟨0, 1, rfl, by omega, by omega⟩
  · exact .inr ⟨0, 1, 2, rfl, by omega, by omega, by omega⟩
theorem comb_chain {r n : Nat} (hr : r = 2 ∨ r = 3) : Chain n (combI r n) ∧ (combI r n = [] ↔ r > n) ∧ ∀ ix, (combI r n)[0]? = some ix → ix = List.range r := by
  unfold combI
  by_cases z : r > n
  · rw [if_pos z]
    exact ⟨⟨(fun ix h => by cases h), (fun k a b h => by simp at h), (fun k a h => by simp at h)⟩, ⟨fun _ => z, fun _ => rfl⟩, fun ix h => by simp at h⟩
  · rw [if_neg z]
    have g := range_good hr z
    obtain ⟨c1, c2⟩ := walk_chain (n := n) (meas n (List.range r) + 1) g (Nat.lt_succ_self _)
    exact ⟨⟨fun ix h => (walk_good _ g ix h).1.two, c1, c2⟩, ⟨fun h => (by cases h), fun h => absurd h z⟩, fun ix h => by rw [walk_zero] at h; exact (Option.some.inj h).symm⟩
theorem comb2_mem {n : Nat} {ix : List Nat} : ix ∈ combI 2 n ↔ ∃ i j, ix = [i, j] ∧ i < j ∧ j < n := by
  unfold combI
  by_cases z : 2 > n
  · rw [if_pos z]
    exact ⟨fun h => (by cases h), fun ⟨i, j, _, h1, h2⟩ => by omega⟩
  · rw [if_neg z]
    have g := range_good (.inl rfl) z
    constructor
    · intro h
      obtain ⟨gg, l⟩ := walk_good _ g ix h
      rcases gg with q | ⟨i, j, k, rfl, _⟩
      · exact q
      · simp at l
    · rintro ⟨i, j, rfl, h1, h2⟩
      exact walk_all2 _ (i := 0) (j := 1) (by omega) (by omega) (Nat.lt_succ_self _) i j h1 h2 (by omega)
theorem comb3_mem {n : Nat} {ix : List Nat} : ix ∈ combI 3 n ↔ ∃ i j k, ix = [i, j, k] ∧ i < j ∧ j < k ∧ k < n := by
  unfold combI
  by_cases z : 3 > n
  · rw [if_pos z]
    exact ⟨fun h => (by cases h), fun ⟨i, j, k, _, h1, h2, h3⟩ => by omega⟩
  · rw [if_neg z]
    have g := range_good (.inr rfl) z
    constructor
    · intro h
      obtain ⟨gg, l⟩ := walk_good _ g ix h
      rcases gg with ⟨i, j, rfl, _⟩ | q
      · simp at l
      · exact q
    · rintro ⟨i, j, k, rfl, h1, h2, h3⟩
      exact walk_all3 _ (i := 0) (j := 1) (k := 2) (by omega) (by omega) (by omega) (Nat.lt_succ_self _) i j k h1 h2 h3 (by omega)
def combD (r : Nat) (xs : List D) : List D := (combI r xs.length).map fun ix => .tup (ix.map fun k => xs.getD k .non)
def dComb : List D → Option (List D)
  | [x, .int r] => if r = 2 ∨ r = 3 then (dItems x).bind fun xs => some (combD r.toNat xs) else none
  | _ => none
def gComb (fs : Ag) : Ag := fun Γ => (fs Γ).bind dComb
theorem RepL.getD {K : PySem.W.Frag} {mg : Str → Option Value} {G : Hp} : ∀ {vs : List V} {ds : List D} (k : Nat), RepL K mg G vs ds → k < ds.length → Rep K mg G (vs.getD k .non) (ds.getD k .non)
  | _, _, k, .nil, h => by simp at h
  | _, _, 0, .cons r _, _ => r
  | _, _, k + 1, .cons _ r, h => RepL.getD k r (by simp at h; omega)
theorem RepL.ixs {K : PySem.W.Frag} {mg : Str → Option Value} {G : Hp} {vs : List V} {ds : List D} (r : RepL K mg G vs ds) : ∀ ix : List Nat, (∀ k ∈ ix, k < ds.length) → RepL K mg G (ix.map fun k => vs.getD k .non) (ix.map fun k => ds.getD k .non)
  | [], _ => .nil
  | k :: ix, h => .cons (r.getD k (h k List.mem_cons_self)) (r.ixs ix fun j hj => h j (List.mem_cons_of_mem _ hj))
theorem i_comb {X : Cx} {tg a b : Expr} {fs : Ag} {pos p : Pos} (hg : Gl X "combinations") (hm : X.mg "combinations" = some (.type "itertools.combinations")) (ha : AN X [a, b] 2 fs)
    {r : Nat} (hr : r = 2 ∨ r = 3) (hfs : ∀ Γ ds, fs Γ = some ds → ∃ x, ds = [x, .int r]) (hst : starEach [a, b] X.env = (false, eval a X.env) :: starEach [b] X.env := by rfl) (hpl : (backTo pos (starEach [b] X.env)).any (·.1) = false := by rfl) : I X tg (.Call (.Name "combinations" p) [a, b] [] pos) (gComb fs) := by
  obtain ⟨t, h1, h2⟩ := ha.a.ex
  refine ⟨⟨_, pi_comb (r := r) (by omega) hg hm h1 hst hpl, fun G0 H0 Z Γ σ G H R ds Rl hf k => ?_⟩⟩
  obtain ⟨xs, e1, hf⟩ := obind hf
  obtain ⟨x, rfl⟩ := hfs Γ xs e1
  refine h2 G0 H0 Z Γ σ G H _ _ Rl e1 fun G1 H1 vs x1 r1 => ?_
  cases r1 with
  | cons q0 q1 =>
    cases q1 with
    | cons q1 q2 =>
      cases q2
      rw [q1.intv]
      replace hf : (if ((r : Nat) : Int) = 2 ∨ ((r : Nat) : Int) = 3 then (dItems x).bind fun xs => some (combD ((r : Nat) : Int).toNat xs) else none) = some ds := hf
      rw [if_pos (by omega), Int.toNat_natCast] at hf
      obtain ⟨as, a1, hf⟩ := obind hf
      cases hf
      obtain ⟨p1, v1, rfl, s1, r1⟩ := q0.items a1
      obtain ⟨c1, c2, c3⟩ := comb_chain (n := v1.length) hr
      refine ⟨p1, v1, combI r v1.length, rfl, x1.gh.seq s1, c1, c2, c3, k G1 H1 _ x1 fun i G2 H2 t1 t2 => ?_⟩
      have ln : v1.length = as.length := r1.length
      have ll : (combD r as).length = (combI r v1.length).length := by unfold combD; rw [List.length_map, ln]
      refine ⟨fun hi => ?_, fun d hd => ?_⟩
      · show (combI r v1.length).length ≤ i
        omega
      · unfold combD at hd
        rw [List.getElem?_map, ← ln] at hd
        obtain ⟨ix, hix, rfl⟩ := Option.map_eq_some_iff.mp hd
        refine ⟨(List.getElem?_eq_some_iff.mp hix).1, fun u H3 yl => ?_⟩
        obtain ⟨T, jx, rfl, hTn, hj, rfl⟩ := yl
        rw [hix] at hj
        cases hj
        have x2 := Ext.new1 (o := .tup (ix.map fun k => v1.getD k .non)) t2 hTn
        have small : ∀ k ∈ ix, k < as.length := fun k hk => by
          have hm := List.mem_of_getElem? hix
          rw [ln] at hm
          rcases hr with rfl | rfl
          · obtain ⟨i, j, rfl, h1, h2⟩ := comb2_mem.mp hm
            simp only [List.mem_cons, List.not_mem_nil, or_false] at hk
            omega
          · obtain ⟨i, j, l, rfl, h1, h2, h3⟩ := comb3_mem.mp hm
            simp only [List.mem_cons, List.not_mem_nil, or_false] at hk
            omega
        exact ⟨_, x2, .tup (SqT.of upd_same) (((r1.mono t1).mono x2.gg).ixs ix small)⟩
theorem comb_fs {f : Ex} {r : Nat} (Γ : DEnv) (ds : List D) (h : aC f (aC (gI (r : Nat)) aN) Γ = some ds) : ∃ x, ds = [x, .int (r : Nat)] := by
  obtain ⟨x, e1, h⟩ := obind h
  obtain ⟨ys, e2, h⟩ := obind h
  cases h
  replace e2 : some [D.int ((r : Nat) : Int)] = some ys := e2
  cases e2
  exact ⟨x, rfl⟩
/-! x = y = e -/
def sSet2 (g1 g2 : Gs) (f : Ex) : Sm := fun Γ => (f Γ).bind fun d => (g1 d Γ).bind fun Γ1 => (g2 d Γ1).bind fun Γ2 => some (.nx Γ2)
theorem s_set2 {X : Cx} {t1 t2 e : Expr} {f : Ex} {g1 g2 : Gs} {ix1 ix2 : List Nat} {pos : Pos} (he : E X e f) (h1 : DL.G X t1 ix1 g1) (h2 : DL.G X t2 ix2 g2) (ha : (assignEach [t1, t2] X.env).map (·.2) = [assign t1 X.env, assign t2 X.env] := by rfl) (hw : swappedStores [t1, t2] e X.env = pure none := by rfl) : S X (.Assign [t1, t2] e pos) (sSet2 g1 g2 f) := by
  obtain ⟨t, a1, a2⟩ := he.ex
  obtain ⟨u, b1, b2⟩ := h1.ex
  obtain ⟨v, c1, c2⟩ := h2.ex
  refine ⟨⟨_, ps_asg2 a1 b1 c1 ha hw, fun G0 H0 Z Γ σ G H D r R hf k => ?_⟩⟩
  obtain ⟨d, e1, hf⟩ := obind hf
  obtain ⟨Γ1, e2, hf⟩ := obind hf
  obtain ⟨Γ2, e3, hf⟩ := obind hf
  cases hf
  refine a2 G0 H0 Z Γ σ G H _ d R e1 fun G1 H1 w x1 r1 => ?_
  refine b2 G0 H0 Z Γ σ G1 H1 _ d w Γ1 (R.ext x1) r1 e2 fun σ1 R1 _ => ?_
  exact c2 G0 H0 Z Γ1 σ1 G1 H1 _ d w Γ2 R1 r1 e3 fun σ2 R2 _ => k σ2 G1 H1 R2
end DL

namespace K10
open PySem L2 DL
def topS (i : Nat) : Stmt := PySem.Challenge.pw_fewestlines_k10_whole_flat_pieces.main.body.getD i (.Pass ⟨0, 0, 0, 0⟩)
section
variable {P : Program} {w : World} {K : PySem.W.Frag} {mg : Str → Option Value} {base : Heap} [TC : TabCtx]
/-! taken_in_turn -/
abbrev s_taken_in_turn : Stmt := topS 2
abbrev N_taken_in_turn : List Str := ["longest", "length", "pieces", "reasons", "start", "end", "shape", "why"]
theorem sc_taken_in_turn : FnScope N_taken_in_turn ["longest", "length"] (defScope s_taken_in_turn) := ⟨rfl, rfl, rfl, by decide +kernel, rfl, by decide +kernel, by decide +kernel⟩
noncomputable def B_taken_in_turn : D → (List D → Option D) → Sm := fun d0 F =>
  (sSeq (sSetO 2 aN)
  (sSeq (sSetO 3 aN)
  (sSeq (sSet 4 (gI 0))
  (sSeq (sWhile (gT (gOp dLt (gV 4) (gV 1)))
  (sSeq (sUnp (gTg 3 (gTo (gN 5) (gTo (gN 6) (gTo (gN 7) gEnd)))) (gFn d0 F 0 (aC (gV 4) aN)))
  (sSeq (sApp 2 [] (gTu 2 (aC (gV 4) (aC (gV 6) aN))))
  (sSeq (sIf (gT (gOp dNoN (gB 7) (gC .non)))
  (sApp 3 [] (gV 7))
  sNil)
  (sSet 4 (gV 5))))))
  (sFrz 3 (sFrz 2 (sRet (gTu 2 (aC (gV 2) (aC (gV 3) aN))))))))))
noncomputable def S_taken_in_turn : D → (List D → Option D) → List D → Option D := fun d0 F => runB 8 (B_taken_in_turn d0 F)
theorem ok_taken_in_turn {f : Addr} : ∀ (cdv : Value) (A : Around) (outer : List PySem.Env) (s : Shared) (H : Hp) (E : XK) (d0 : D) (F : List D → Option D), Room 0 (A.deeper (PyProof.Rows.envOfC "taken_in_turn" (defScope s_taken_in_turn) s.heap.objs.size f cdv)) → Acts (cxOf CX0 P w K mg base N_taken_in_turn "taken_in_turn" (defScope s_taken_in_turn) f cdv A outer s H E).nox "longest" 0 1 d0 F → Ss (cxOf CX0 P w K mg base N_taken_in_turn "taken_in_turn" (defScope s_taken_in_turn) f cdv A outer s H E).nox (defBody s_taken_in_turn) (B_taken_in_turn d0 F) := fun cdv A outer s H E d0 F hr ac =>
  (ss_cons (s_setO 2 sc_taken_in_turn.nd (el_lst n_nil))
  (ss_cons (s_setO 3 sc_taken_in_turn.nd (el_lst n_nil))
  (ss_cons (s_set 4 sc_taken_in_turn.nd e_int)
  (ss_cons (s_while PassesOwn.never (t_cmp od_lt (e_var 4) (e_var 1))
  (ss_cons (s_unp (e_act ac (n_cons (e_var 4) n_nil)) (g_tup rfl (gl_cons (g_name 5 sc_taken_in_turn.nd) (gl_cons (g_name 6 sc_taken_in_turn.nd) (gl_cons (g_name 7 sc_taken_in_turn.nd) gl_nil)))))
  (ss_cons (s_app (pl_var 2) (e_tup (n_cons (e_var 4) (n_cons (e_var 6) n_nil))))
  (ss_cons (s_if (t_cmpB ob_noN (b_var 7) e_non.bo)
  (ss_one (s_app (pl_var 3) (e_var 7)))
  ss_nil)
  (ss_one (s_set 4 sc_taken_in_turn.nd (e_var 5)))))))
  (ss_one (s_frz 3 (s_frz 2 (s_ret (e_tup (n_cons (e_var 2) (n_cons (e_var 3) n_nil)))))))))))
/-! starts_stand -/
abbrev s_starts_stand : Stmt := topS 5
abbrev N_starts_stand : List Str := ["starts", "length", "one", "other"]
theorem sc_starts_stand : FnScope N_starts_stand ["starts", "length"] (defScope s_starts_stand) := ⟨rfl, rfl, rfl, by decide +kernel, rfl, by decide +kernel, by decide +kernel⟩
noncomputable def B_starts_stand : Sm :=
  (sSeq (sIf (gOr (gNot (gTru (gB 0))) (gT (gOp dEq (gB 1) (gI 0))))
  (sRet (gBl (gAnd (gNot (gTru (gB 0))) (gT (gOp dEq (gB 1) (gI 0))))))
  sNil)
  (sSeq (sFor (gZip (aC (gV 0) (aC (gL (gSl (gB 0) (gSo (gI 1)) gNo)) aN))) (gTg 2 (gTo (gN 2) (gTo (gN 3) gEnd)))
  (sIf (gT (gOp dGe (gV 2) (gV 3)))
  (sRet (gC (.bl false)))
  sNil))
  (sRet (gBl (gAnd (gT (gOp dEq (gIx (gB 0) (gI 0)) (gI 0))) (gT (gOp dLt (gIx (gB 0) (gU dNeg (gI 1))) (gV 1))))))))
noncomputable def S_starts_stand : List D → Option D := runB 4 B_starts_stand
theorem ok_starts_stand {f : Addr} {fd : FuncData} (F : Fun K "starts_stand" "starts_stand" s_starts_stand f fd) (m_zip : mg "zip" = none) : FnOk P w K mg base CX0 1 f fd ["starts", "length"] (spD K mg 2 S_starts_stand) :=
  def_ok F sc_starts_stand fun cdv A outer s H E hr =>
  (ss_cons (s_if (w_or (t_not (t_tru (b_var 0))) (w_or1 (t_cmpB (ob_eq hr.units) (b_var 1) e_int.bo))).t
  (ss_one (s_ret (v_and (v_notT (b_var 0)) (v_one (e_cmpB (ob_eq hr.units) (b_var 1) e_int.bo).v)).e))
  ss_nil)
  (ss_cons (s_for PassesOwn.never rfl (i_zip (by rfl) m_zip (n_cons (e_var 0) (n_cons (el_sl (b_var 0) (o_so e_int) o_no).fz n_nil))).fb (g_tup rfl (gl_cons (g_name 2 sc_starts_stand.nd) (gl_cons (g_name 3 sc_starts_stand.nd) gl_nil)))
  (ss_one (s_if (t_cmp od_ge (e_var 2) (e_var 3))
  (ss_one (s_ret e_bl))
  ss_nil)))
  (ss_one (s_ret (v_and (e_cmpB (ob_eq hr.units) (e_ix (b_var 0) e_int).bo e_int.bo).v (v_one (e_cmp od_lt (e_ix (b_var 0) (e_neg e_int)) (e_var 1)).v)).e))))
/-! frame_stands -/
abbrev s_frame_stands : Stmt := topS 3
abbrev N_frame_stands : List Str := ["pieces", "reasons", "length", "piece"]
theorem sc_frame_stands : FnScope N_frame_stands ["pieces", "reasons", "length"] (defScope s_frame_stands) := ⟨rfl, rfl, rfl, by decide +kernel, rfl, by decide +kernel, by decide +kernel⟩
noncomputable def B_frame_stands : Sm :=
  (sSeq (sIf (gNot (gTru (gCall S_starts_stand (aC (gL (gLc [3] (gIt (gV 0)) (gN 3) gYes (gIx (gB 3) (gI 0)))) (aC (gV 2) aN)))))
  (sRet (gC (.bl false)))
  sNil)
  (sRet (gOp dEq (gU dLen (gB 1)) (gA dMax2 (aC (gI 0) (aC (gOp dSub (gU dLen (gB 0)) (gI 1)) aN))))))
noncomputable def S_frame_stands : List D → Option D := runB 4 B_frame_stands
theorem ok_frame_stands {f : Addr} {fd : FuncData} (F : Fun K "frame_stands" "frame_stands" s_frame_stands f fd) (c_starts_stand : Cal P w K mg base "starts_stand" 1 ["starts", "length"] S_starts_stand) (m_len : mg "len" = none) (m_max : mg "max" = none) : FnOk P w K mg base CX0 2 f fd ["pieces", "reasons", "length"] (spD K mg 3 S_frame_stands) :=
  def_ok F sc_frame_stands fun cdv A outer s H E hr =>
  (ss_cons (s_if (t_not (t_tru (e_callC c_starts_stand hr (by decide) (n_cons (el_lc (own := [("piece", 3)]) rfl sc_frame_stands.nd (i_list (e_var 0)).c (blkOk_by (own := [("piece", 3)]) (N := N_frame_stands) (sc := defScope s_frame_stands) (by decide +kernel)) (by decide) (fun _ _ _ _ _ => (g_name 3 sc_frame_stands.nd)) (fun _ _ _ _ _ => ts_nil) (fun _ _ _ _ _ => (e_ix (b_var 3) e_int))).fz (n_cons (e_var 2) n_nil))).bo))
  (ss_one (s_ret e_bl))
  ss_nil)
  (ss_one (s_ret (e_cmpB (ob_eq hr.units) (e_cb cb_len (by rfl) m_len boot_len' (b_var 1)).bo (e_cba (cb_max2 rfl) (by rfl) m_max boot_max' (n_cons e_int (n_cons (e_op od_sub (e_cb cb_len (by rfl) m_len boot_len' (b_var 0)) e_int) n_nil)).a).bo))))
/-! ends_of -/
abbrev s_ends_of : Stmt := topS 4
abbrev N_ends_of : List Str := ["pieces", "length", "piece"]
theorem sc_ends_of : FnScope N_ends_of ["pieces", "length"] (defScope s_ends_of) := ⟨rfl, rfl, rfl, by decide +kernel, rfl, by decide +kernel, by decide +kernel⟩
noncomputable def B_ends_of : Sm :=
  (sRet (gOp dAdd (gL (gLc [2] (gIt (gL (gSl (gB 0) (gSo (gI 1)) gNo))) (gN 2) gYes (gIx (gB 2) (gI 0)))) (gL (aC (gV 1) aN))))
noncomputable def S_ends_of : List D → Option D := runB 3 B_ends_of
theorem ok_ends_of {f : Addr} {fd : FuncData} (F : Fun K "ends_of" "ends_of" s_ends_of f fd) : FnOk P w K mg base CX0 1 f fd ["pieces", "length"] (spD K mg 2 S_ends_of) :=
  def_ok F sc_ends_of fun cdv A outer s H E hr =>
  (ss_one (s_ret (e_op od_add (el_lc (own := [("piece", 2)]) rfl sc_ends_of.nd (i_list (el_sl (b_var 0) (o_so e_int) o_no).fz).c (blkOk_by (own := [("piece", 2)]) (N := N_ends_of) (sc := defScope s_ends_of) (by decide +kernel)) (by decide) (fun _ _ _ _ _ => (g_name 2 sc_ends_of.nd)) (fun _ _ _ _ _ => ts_nil) (fun _ _ _ _ _ => (e_ix (b_var 2) e_int))).fz (el_lst (n_cons (e_var 1) n_nil)).fz)))
/-! fewest_parts -/
abbrev s_fewest_parts : Stmt := topS 6
abbrev N_fewest_parts : List Str := ["length", "stands", "least", "end", "best", "start"]
theorem sc_fewest_parts : FnScope N_fewest_parts ["length", "stands"] (defScope s_fewest_parts) := ⟨rfl, rfl, rfl, by decide +kernel, rfl, by decide +kernel, by decide +kernel⟩
noncomputable def B_fewest_parts : D → (List D → Option D) → Sm := fun d0 F =>
  (sSeq (sSetO 2 (aC (gI 0) aN))
  (sSeq (sFor (gRng (aC (gI 1) (aC (gOp dAdd (gV 0) (gI 1)) aN))) (gN 3)
  (sSeq (sSet 4 (gOp dAdd (gIx (gB 2) (gOp dSub (gV 3) (gI 1))) (gI 1)))
  (sSeq (sFor (gRng (aC (gOp dSub (gV 3) (gI 1)) aN)) (gN 5)
  (sIf (gAnd (gT (gOp dLt (gOp dAdd (gIx (gB 2) (gV 5)) (gI 1)) (gV 4))) (gTru (gFn d0 F 1 (aC (gV 5) (aC (gV 3) aN)))))
  (sSet 4 (gOp dAdd (gIx (gB 2) (gV 5)) (gI 1)))
  sNil))
  (sApp 2 [] (gV 4)))))
  (sRet (gIx (gB 2) (gV 0)))))
noncomputable def S_fewest_parts : D → (List D → Option D) → List D → Option D := fun d0 F => runB 6 (B_fewest_parts d0 F)
theorem ok_fewest_parts {f : Addr} (m_range : mg "range" = none) : ∀ (cdv : Value) (A : Around) (outer : List PySem.Env) (s : Shared) (H : Hp) (E : XK) (d0 : D) (F : List D → Option D), Room 0 (A.deeper (PyProof.Rows.envOfC "fewest_parts" (defScope s_fewest_parts) s.heap.objs.size f cdv)) → Acts (cxOf CX0 P w K mg base N_fewest_parts "fewest_parts" (defScope s_fewest_parts) f cdv A outer s H E).nox "stands" 1 2 d0 F → Ss (cxOf CX0 P w K mg base N_fewest_parts "fewest_parts" (defScope s_fewest_parts) f cdv A outer s H E).nox (defBody s_fewest_parts) (B_fewest_parts d0 F) := fun cdv A outer s H E d0 F hr ac =>
  (ss_cons (s_setO 2 sc_fewest_parts.nd (el_lst (n_cons e_int n_nil)))
  (ss_cons (s_for PassesOwn.never rfl (i_rng2 (by rfl) m_range (n_cons e_int (n_cons (e_op od_add (e_var 0) e_int) n_nil))).fb (g_name 3 sc_fewest_parts.nd)
  (ss_cons (s_set 4 sc_fewest_parts.nd (e_op od_add (e_ix (b_var 2) (e_op od_sub (e_var 3) e_int)) e_int))
  (ss_cons (s_for PassesOwn.never rfl (i_rng1 (by rfl) m_range (n_cons (e_op od_sub (e_var 3) e_int) n_nil)).fb (g_name 5 sc_fewest_parts.nd)
  (ss_one (s_if (w_and (t_cmp od_lt (e_op od_add (e_ix (b_var 2) (e_var 5)) e_int) (e_var 4)) (w_and1 (t_tru (e_act ac (n_cons (e_var 5) (n_cons (e_var 3) n_nil))).bo))).t
  (ss_one (s_set 4 sc_fewest_parts.nd (e_op od_add (e_ix (b_var 2) (e_var 5)) e_int)))
  ss_nil)))
  (ss_one (s_app (pl_var 2) (e_var 4))))))
  (ss_one (s_ret (e_ix (b_var 2) (e_var 0))))))
/-! FlatCutting.__init__ -/
abbrev s_FlatCutting___init__ : Stmt := inClass (topS 8) 0
abbrev N_FlatCutting___init__ : List Str := ["self", "pieces", "reasons"]
theorem sc_FlatCutting___init__ : FnScope N_FlatCutting___init__ ["self", "pieces", "reasons"] (defScope s_FlatCutting___init__) := ⟨rfl, rfl, rfl, by decide +kernel, rfl, by decide +kernel, by decide +kernel⟩
noncomputable def B_FlatCutting___init__ : Sm :=
  (sSeq (sFld 0 [] 6 0 (nSh (gL (gUL dList (gB 1)))))
  (sFld 0 [] 6 1 (nSh (gL (gUL dList (gB 2))))))
noncomputable def S_FlatCutting___init__ : Sl → List D → Option (D × Sl) := runM 3 B_FlatCutting___init__
theorem ok_FlatCutting___init__ {f : Addr} {fd : FuncData} {C6 : Addr} (F : Fun K "__init__" "FlatCutting.__init__" s_FlatCutting___init__ f fd) (m_list : mg "list" = none) (ck6 : CK K mg 6 C6) : FnOk P w K mg base CX0 1 f fd ["self", "pieces", "reasons"] (spM K mg 2 S_FlatCutting___init__) :=
  def_okM F sc_FlatCutting___init__ rfl fun cdv A outer s H E hr =>
  (ss_cons (s_fld (c := 6) (j := 0) ck6 (pl_var 0) (el_cty cb_list (by rfl) m_list boot_list' (b_var 1)).fz.nw)
  (ss_one (s_fld (c := 6) (j := 1) ck6 (pl_var 0) (el_cty cb_list (by rfl) m_list boot_list' (b_var 2)).fz.nw)))
/-! between -/
abbrev s_between : Stmt := topS 11
abbrev N_between : List Str := ["low", "high"]
theorem sc_between : FnScope N_between ["low", "high"] (defScope s_between) := ⟨rfl, rfl, rfl, by decide +kernel, rfl, by decide +kernel, by decide +kernel⟩
noncomputable def B_between : Sm :=
  (sRet (gOp dDiv (gOp dAdd (gV 0) (gV 1)) (gI 2)))
noncomputable def S_between : List D → Option D := runB 2 B_between
theorem ok_between {f : Addr} {fd : FuncData} (F : Fun K "between" "between" s_between f fd) : FnOk P w K mg base CX0 1 f fd ["low", "high"] (spD K mg 2 S_between) :=
  def_ok F sc_between fun cdv A outer s H E hr =>
  (ss_one (s_ret (e_op od_div (e_op od_add (e_var 0) (e_var 1)) e_int)))
/-! longest_flat -/
abbrev s_longest_flat : Stmt := topS 10
abbrev N_longest_flat : List Str := ["values", "start", "error", "least", "greatest", "index", "other"]
theorem sc_longest_flat : FnScope N_longest_flat ["values", "start", "error"] (defScope s_longest_flat) := ⟨rfl, rfl, rfl, by decide +kernel, rfl, by decide +kernel, by decide +kernel⟩
noncomputable def B_longest_flat : Sm :=
  (sSeq (sSet2 (gN 3) (gN 4) (gV 1))
  (sSeq (sFor (gRng (aC (gV 1) (aC (gU dLen (gB 0)) aN))) (gN 5)
  (sSeq (sFor (gIt (gTu 2 (aC (gV 3) (aC (gV 4) aN)))) (gN 6)
  (sIf (gT (gOp dGt (gU dAbs (gOp dSub (gIx (gB 0) (gV 5)) (gIx (gB 0) (gV 6)))) (gOp dMul (gI 2) (gV 2))))
  (sRet (gTu 3 (aC (gV 5) (aC (gCall S_between (aC (gIx (gB 0) (gV 3)) (aC (gIx (gB 0) (gV 4)) aN))) (aC (gTu 2 (aC (gV 6) (aC (gV 5) aN))) aN)))))
  sNil))
  (sSeq (sIf (gT (gOp dLt (gIx (gB 0) (gV 5)) (gIx (gB 0) (gV 3))))
  (sSet 3 (gV 5))
  sNil)
  (sIf (gT (gOp dGt (gIx (gB 0) (gV 5)) (gIx (gB 0) (gV 4))))
  (sSet 4 (gV 5))
  sNil))))
  (sRet (gTu 3 (aC (gU dLen (gB 0)) (aC (gCall S_between (aC (gIx (gB 0) (gV 3)) (aC (gIx (gB 0) (gV 4)) aN))) (aC (gC .non) aN)))))))
noncomputable def S_longest_flat : List D → Option D := runB 7 B_longest_flat
theorem ok_longest_flat {f : Addr} {fd : FuncData} (F : Fun K "longest_flat" "longest_flat" s_longest_flat f fd) (m_len : mg "len" = none) (m_range : mg "range" = none) (m_abs : mg "abs" = none) (c_between : Cal P w K mg base "between" 1 ["low", "high"] S_between) : FnOk P w K mg base CX0 2 f fd ["values", "start", "error"] (spD K mg 3 S_longest_flat) :=
  def_ok F sc_longest_flat fun cdv A outer s H E hr =>
  (ss_cons (s_set2 (e_var 1) (g_name 3 sc_longest_flat.nd) (g_name 4 sc_longest_flat.nd))
  (ss_cons (s_for PassesOwn.never rfl (i_rng2 (by rfl) m_range (n_cons (e_var 1) (n_cons (e_cb cb_len (by rfl) m_len boot_len' (b_var 0)) n_nil))).fb (g_name 5 sc_longest_flat.nd)
  (ss_cons (s_for PassesOwn.never rfl (i_list (e_tup (n_cons (e_var 3) (n_cons (e_var 4) n_nil)))).fb (g_name 6 sc_longest_flat.nd)
  (ss_one (s_if (t_cmp od_gt (e_cb cb_abs (by rfl) m_abs boot_abs' (e_op od_sub (e_ix (b_var 0) (e_var 5)) (e_ix (b_var 0) (e_var 6))).bo) (e_op od_mul e_int (e_var 2)))
  (ss_one (s_ret (e_tup (n_cons (e_var 5) (n_cons (e_callC c_between hr (by decide) (n_cons (e_ix (b_var 0) (e_var 3)) (n_cons (e_ix (b_var 0) (e_var 4)) n_nil))) (n_cons (e_tup (n_cons (e_var 6) (n_cons (e_var 5) n_nil))) n_nil))))))
  ss_nil)))
  (ss_cons (s_if (t_cmp od_lt (e_ix (b_var 0) (e_var 5)) (e_ix (b_var 0) (e_var 3)))
  (ss_one (s_set 3 sc_longest_flat.nd (e_var 5)))
  ss_nil)
  (ss_one (s_if (t_cmp od_gt (e_ix (b_var 0) (e_var 5)) (e_ix (b_var 0) (e_var 4)))
  (ss_one (s_set 4 sc_longest_flat.nd (e_var 5)))
  ss_nil)))))
  (ss_one (s_ret (e_tup (n_cons (e_cb cb_len (by rfl) m_len boot_len' (b_var 0)) (n_cons (e_callC c_between hr (by decide) (n_cons (e_ix (b_var 0) (e_var 3)) (n_cons (e_ix (b_var 0) (e_var 4)) n_nil))) (n_cons e_non n_nil))))))))
/-! flat_cut -/
abbrev s_flat_cut : Stmt := topS 9
abbrev N_flat_cut : List Str := ["values", "error", "pieces", "reasons"]
theorem sc_flat_cut : FnScope N_flat_cut ["values", "error"] (defScope s_flat_cut) := ⟨rfl, rfl, rfl, by decide +kernel, rfl, by decide +kernel, by decide +kernel⟩
noncomputable def B_flat_cut : Sm :=
  (sSeq (sUnp (gTg 2 (gTo (gN 2) (gTo (gN 3) gEnd))) (gLam1 S_taken_in_turn [0, 1] (gCall S_longest_flat (aC (gV 0) (aC (gV 4) (aC (gV 1) aN)))) (gU dLen (gB 0))))
  (sRet (nD (gMk 6 S_FlatCutting___init__ (aC (gV 2) (aC (gV 3) aN))))))
noncomputable def S_flat_cut : List D → Option D := runB 4 B_flat_cut
theorem ok_flat_cut {f : Addr} {fd : FuncData} {cL PL : Addr} (F : Fun K "flat_cut" "flat_cut" s_flat_cut f fd) (hcode : fd.code = .ref cL) (TB : LamX.TabB base mg cL PL) (TH : TabHas PL (lamQ "flat_cut")) (m_len : mg "len" = none) (c_longest_flat : Cal P w K mg base "longest_flat" 2 ["values", "start", "error"] S_longest_flat) (c_taken_in_turn : CalF P w K mg base "taken_in_turn" 0 N_taken_in_turn ["longest", "length"] "longest" 0 1 s_taken_in_turn B_taken_in_turn) (k_FlatCutting : Mak P w K mg base 6 1 ["self", "pieces", "reasons"] S_FlatCutting___init__) : FnOk P w K mg base CX0 5 f fd ["values", "error"] (spD K mg 2 S_flat_cut) :=
  def_okC F hcode sc_flat_cut fun A outer s H E hr =>
  (ss_cons (s_unp (e_lam1 (prs := ["start"]) [0, 1] c_taken_in_turn TB rfl lamq_of TH hr (by decide) (show LamS1 (defScope s_flat_cut) _ _ from lamS1_by (by decide +kernel)) (fun A outer s H E' f c' hr => (e_callC c_longest_flat hr (by decide) (n_cons (e_var 0) (n_cons (e_var 4) (n_cons (e_var 1) n_nil))))) (e_cb cb_len (by rfl) m_len boot_len' (b_var 0)) (hpr := show ∀ p ∈ (["start"] : List Str), p ∉ N_flat_cut from by decide +kernel) (hbind := fun _ _ _ _ _ us hl => match us, hl with | [_], _ => rfl)) (g_tup rfl (gl_cons (g_name 2 sc_flat_cut.nd) (gl_cons (g_name 3 sc_flat_cut.nd) gl_nil))))
  (ss_one (s_ret (e_mkC (c := 6) k_FlatCutting hr (by decide) (n_cons (e_var 2) (n_cons (e_var 3) n_nil))).fz)))
/-! judge_flat -/
abbrev s_judge_flat : Stmt := topS 12
abbrev N_judge_flat : List Str := ["values", "error", "cutting", "ends", "start", "height", "end", "first", "last", "_", "value"]
theorem sc_judge_flat : FnScope N_judge_flat ["values", "error", "cutting"] (defScope s_judge_flat) := ⟨rfl, rfl, rfl, by decide +kernel, rfl, by decide +kernel, by decide +kernel⟩
noncomputable def B_judge_flat : Sm :=
  (sSeq (sIf (gNot (gTru (gCall S_frame_stands (aC (gU (dFld 6 0) (gV 2)) (aC (gU (dFld 6 1) (gV 2)) (aC (gU dLen (gB 0)) aN))))))
  (sRet (gC (.bl false)))
  sNil)
  (sSeq (sSet 3 (gCall S_ends_of (aC (gU (dFld 6 0) (gV 2)) (aC (gU dLen (gB 0)) aN))))
  (sSeq (sFor (gZip (aC (gU (dFld 6 0) (gV 2)) (aC (gV 3) aN))) (gTg 2 (gTo (gTg 2 (gTo (gN 4) (gTo (gN 5) gEnd))) (gTo (gN 6) gEnd)))
  (sIf (gNot (gTru (gU dAll (gL (gLc [10] (gIt (gL (gSl (gB 0) (gSo (gV 4)) (gSo (gV 6))))) (gN 10) gYes (gOp dLe (gU dAbs (gOp dSub (gV 10) (gV 5))) (gV 1)))))))
  (sRet (gC (.bl false)))
  sNil))
  (sSeq (sFor (gZip3 (aC (gU (dFld 6 1) (gV 2)) (aC (gU (dFld 6 0) (gV 2)) (aC (gV 3) aN)))) (gTg 3 (gTo (gTg 2 (gTo (gN 7) (gTo (gN 8) gEnd))) (gTo (gTg 2 (gTo (gN 4) (gTo (gN 9) gEnd))) (gTo (gN 6) gEnd))))
  (sSeq (sIf (gNot (gCh (gV 4) (gChn dLe (gV 7) (gChn dLt (gV 8) (gCh1 dLe (gV 6))))))
  (sRet (gC (.bl false)))
  sNil)
  (sIf (gT (gOp dLe (gU dAbs (gOp dSub (gIx (gB 0) (gV 7)) (gIx (gB 0) (gV 8)))) (gOp dMul (gI 2) (gV 1))))
  (sRet (gC (.bl false)))
  sNil)))
  (sRet (gC (.bl true)))))))
noncomputable def S_judge_flat : List D → Option D := runB 11 B_judge_flat
theorem ok_judge_flat {f : Addr} {fd : FuncData} {C6 : Addr} (F : Fun K "judge_flat" "judge_flat" s_judge_flat f fd) (m_len : mg "len" = none) (ck6 : CK K mg 6 C6) (c_frame_stands : Cal P w K mg base "frame_stands" 2 ["pieces", "reasons", "length"] S_frame_stands) (c_ends_of : Cal P w K mg base "ends_of" 1 ["pieces", "length"] S_ends_of) (m_zip : mg "zip" = none) (m_abs : mg "abs" = none) (m_all : mg "all" = none) : FnOk P w K mg base CX0 3 f fd ["values", "error", "cutting"] (spD K mg 3 S_judge_flat) :=
  def_ok F sc_judge_flat fun cdv A outer s H E hr =>
  (ss_cons (s_if (t_not (t_tru (e_callC c_frame_stands hr (by decide) (n_cons (e_fld (c := 6) (j := 0) ck6 (e_var 2)) (n_cons (e_fld (c := 6) (j := 1) ck6 (e_var 2)) (n_cons (e_cb cb_len (by rfl) m_len boot_len' (b_var 0)) n_nil)))).bo))
  (ss_one (s_ret e_bl))
  ss_nil)
  (ss_cons (s_set 3 sc_judge_flat.nd (e_callC c_ends_of hr (by decide) (n_cons (e_fld (c := 6) (j := 0) ck6 (e_var 2)) (n_cons (e_cb cb_len (by rfl) m_len boot_len' (b_var 0)) n_nil))))
  (ss_cons (s_for PassesOwn.never rfl (i_zip (by rfl) m_zip (n_cons (e_fld (c := 6) (j := 0) ck6 (e_var 2)) (n_cons (e_var 3) n_nil))).fb (g_tup rfl (gl_cons (g_tup rfl (gl_cons (g_name 4 sc_judge_flat.nd) (gl_cons (g_name 5 sc_judge_flat.nd) gl_nil))) (gl_cons (g_name 6 sc_judge_flat.nd) gl_nil)))
  (ss_one (s_if (t_not (t_tru (e_cb (cb_all rfl) (by rfl) m_all boot_all' (el_lc (own := [("value", 10)]) rfl sc_judge_flat.nd (i_list (el_sl (b_var 0) (o_so (e_var 4)) (o_so (e_var 6))).fz).c (blkOk_by (own := [("value", 10)]) (N := N_judge_flat) (sc := defScope s_judge_flat) (by decide +kernel)) (by decide) (fun _ _ _ _ _ => (g_name 10 sc_judge_flat.nd)) (fun _ _ _ _ _ => ts_nil) (fun _ _ _ _ _ => (e_cmp od_le (e_cb cb_abs (by rfl) m_abs boot_abs' (e_op od_sub (e_var 10) (e_var 5)).bo) (e_var 1)))).fz.bo).bo))
  (ss_one (s_ret e_bl))
  ss_nil)))
  (ss_cons (s_for PassesOwn.never rfl (i_zip3 (by rfl) m_zip (n_cons (e_fld (c := 6) (j := 1) ck6 (e_var 2)) (n_cons (e_fld (c := 6) (j := 0) ck6 (e_var 2)) (n_cons (e_var 3) n_nil)))).fb (g_tup rfl (gl_cons (g_tup rfl (gl_cons (g_name 7 sc_judge_flat.nd) (gl_cons (g_name 8 sc_judge_flat.nd) gl_nil))) (gl_cons (g_tup rfl (gl_cons (g_name 4 sc_judge_flat.nd) (gl_cons (g_name 9 sc_judge_flat.nd) gl_nil))) (gl_cons (g_name 6 sc_judge_flat.nd) gl_nil))))
  (ss_cons (s_if (t_not (t_chn (e_var 4) (c_cons od_le (e_var 7) (c_cons od_lt (e_var 8) (c_last od_le (e_var 6))))))
  (ss_one (s_ret e_bl))
  ss_nil)
  (ss_one (s_if (t_cmp od_le (e_cb cb_abs (by rfl) m_abs boot_abs' (e_op od_sub (e_ix (b_var 0) (e_var 7)) (e_ix (b_var 0) (e_var 8))).bo) (e_op od_mul e_int (e_var 1)))
  (ss_one (s_ret e_bl))
  ss_nil))))
  (ss_one (s_ret e_bl))))))
/-! plain_flat -/
abbrev s_plain_flat : Stmt := topS 15
abbrev N_plain_flat : List Str := ["values", "error", "one", "other"]
theorem sc_plain_flat : FnScope N_plain_flat ["values", "error"] (defScope s_plain_flat) := ⟨rfl, rfl, rfl, by decide +kernel, rfl, by decide +kernel, by decide +kernel⟩
noncomputable def B_plain_flat : Sm :=
  (sSeq (sFor (gComb (aC (gV 0) (aC (gI 2) aN))) (gTg 2 (gTo (gN 2) (gTo (gN 3) gEnd)))
  (sIf (gT (gOp dGt (gU dAbs (gOp dSub (gV 2) (gV 3))) (gOp dMul (gI 2) (gV 1))))
  (sRet (gC (.bl false)))
  sNil))
  (sRet (gC (.bl true))))
noncomputable def S_plain_flat : List D → Option D := runB 4 B_plain_flat
theorem ok_plain_flat {f : Addr} {fd : FuncData} (F : Fun K "plain_flat" "plain_flat" s_plain_flat f fd) (m_combinations : mg "combinations" = some (.type "itertools.combinations")) (m_abs : mg "abs" = none) : FnOk P w K mg base CX0 1 f fd ["values", "error"] (spD K mg 2 S_plain_flat) :=
  def_ok F sc_plain_flat fun cdv A outer s H E hr =>
  (ss_cons (s_for PassesOwn.never rfl (i_comb (by rfl) m_combinations (n_cons (e_var 0) (n_cons e_int n_nil)) (r := 2) (.inl rfl) comb_fs).fb (g_tup rfl (gl_cons (g_name 2 sc_plain_flat.nd) (gl_cons (g_name 3 sc_plain_flat.nd) gl_nil)))
  (ss_one (s_if (t_cmp od_gt (e_cb cb_abs (by rfl) m_abs boot_abs' (e_op od_sub (e_var 2) (e_var 3)).bo) (e_op od_mul e_int (e_var 1)))
  (ss_one (s_ret e_bl))
  ss_nil)))
  (ss_one (s_ret e_bl)))
/-! plain_flat_count -/
abbrev s_plain_flat_count : Stmt := topS 14
abbrev N_plain_flat_count : List Str := ["values", "error"]
theorem sc_plain_flat_count : FnScope N_plain_flat_count ["values", "error"] (defScope s_plain_flat_count) := ⟨rfl, rfl, rfl, by decide +kernel, rfl, by decide +kernel, by decide +kernel⟩
noncomputable def B_plain_flat_count : Sm :=
  (sRet (gLam2 S_fewest_parts [0, 1] (gCall S_plain_flat (aC (gL (gSl (gB 0) (gSo (gV 2)) (gSo (gV 3)))) (aC (gV 1) aN))) (gU dLen (gB 0))))
noncomputable def S_plain_flat_count : List D → Option D := runB 2 B_plain_flat_count
theorem ok_plain_flat_count {f : Addr} {fd : FuncData} {cL PL : Addr} (F : Fun K "plain_flat_count" "plain_flat_count" s_plain_flat_count f fd) (hcode : fd.code = .ref cL) (TB : LamX.TabB base mg cL PL) (TH : TabHas PL (lamQ "plain_flat_count")) (m_len : mg "len" = none) (c_plain_flat : Cal P w K mg base "plain_flat" 1 ["values", "error"] S_plain_flat) (c_fewest_parts : CalF P w K mg base "fewest_parts" 0 N_fewest_parts ["length", "stands"] "stands" 1 2 s_fewest_parts B_fewest_parts) : FnOk P w K mg base CX0 4 f fd ["values", "error"] (spD K mg 2 S_plain_flat_count) :=
  def_okC F hcode sc_plain_flat_count fun A outer s H E hr =>
  (ss_one (s_ret (e_lam2 (prs := ["start", "end"]) [0, 1] c_fewest_parts TB rfl lamq_of TH hr (by decide) (show LamS1 (defScope s_plain_flat_count) _ _ from lamS1_by (by decide +kernel)) (fun A outer s H E' f c' hr => (e_callC c_plain_flat hr (by decide) (n_cons (el_sl (b_var 0) (o_so (e_var 2)) (o_so (e_var 3))).fz (n_cons (e_var 1) n_nil)))) (e_cb cb_len (by rfl) m_len boot_len' (b_var 0)) (hpr := show ∀ p ∈ (["start", "end"] : List Str), p ∉ N_plain_flat_count from by decide +kernel) (hbind := fun _ _ _ _ _ us hl => match us, hl with | [_, _], _ => rfl))))
/-! _law_cell -/
abbrev s__law_cell : Stmt := topS 17
abbrev N__law_cell : List Str := ["script", "k"]
theorem sc__law_cell : FnScope N__law_cell ["script", "k"] (defScope s__law_cell) := ⟨rfl, rfl, rfl, by decide +kernel, rfl, by decide +kernel, by decide +kernel⟩
noncomputable def B__law_cell : Sm :=
  (sSeq (sIf (gT (gOp dLt (gV 1) (gU dLen (gB 0))))
  (sRet (gIx (gB 0) (gV 1)))
  sNil)
  (sRet (gI 0)))
noncomputable def S__law_cell : List D → Option D := runB 2 B__law_cell
theorem ok__law_cell {f : Addr} {fd : FuncData} (F : Fun K "_law_cell" "_law_cell" s__law_cell f fd) (m_len : mg "len" = none) : FnOk P w K mg base CX0 1 f fd ["script", "k"] (spD K mg 2 S__law_cell) :=
  def_ok F sc__law_cell fun cdv A outer s H E hr =>
  (ss_cons (s_if (t_cmp od_lt (e_var 1) (e_cb cb_len (by rfl) m_len boot_len' (b_var 0)))
  (ss_one (s_ret (e_ix (b_var 0) (e_var 1))))
  ss_nil)
  (ss_one (s_ret e_int)))
/-! _law_digits -/
abbrev s__law_digits : Stmt := topS 18
abbrev N__law_digits : List Str := ["cell", "many", "count", "digits", "rest", "k", "mixed"]
theorem sc__law_digits : FnScope N__law_digits ["cell", "many", "count"] (defScope s__law_digits) := ⟨rfl, rfl, rfl, by decide +kernel, rfl, by decide +kernel, by decide +kernel⟩
noncomputable def B__law_digits : Sm :=
  (sSeq (sSetO 3 aN)
  (sSeq (sSet 4 (gV 0))
  (sSeq (sFor (gRng (aC (gV 2) aN)) (gN 5)
  (sIf (gT (gOp dGe (gV 0) (gOp dPow (gI 10) (gI 18))))
  (sSeq (sApp 3 [] (gOp dMod (gU dInt (gB 4)) (gV 1)))
  (sSet 4 (gOp dDiv (gV 4) (gV 1))))
  (sSeq (sSet 6 (gOp dMod (gU dInt (gOp dAdd (gOp dAdd (gOp dMul (gV 0) (gI 48271)) (gOp dMul (gV 5) (gI 69621))) (gI 1013))) (gI 2147483647)))
  (sSeq (sSet 6 (gOp dMod (gU dInt (gOp dAdd (gOp dAdd (gOp dMul (gV 6) (gV 6)) (gOp dMul (gI 7) (gV 6))) (gV 5))) (gI 2147483629)))
  (sApp 3 [] (gOp dMod (gU dInt (gOp dDiv (gV 6) (gI 31))) (gV 1)))))))
  (sFrz 3 (sRet (gV 3))))))
noncomputable def S__law_digits : List D → Option D := runB 7 B__law_digits
theorem ok__law_digits {f : Addr} {fd : FuncData} (F : Fun K "_law_digits" "_law_digits" s__law_digits f fd) (m_range : mg "range" = none) (m_int : mg "int" = none) : FnOk P w K mg base CX0 1 f fd ["cell", "many", "count"] (spD K mg 3 S__law_digits) :=
  def_ok F sc__law_digits fun cdv A outer s H E hr =>
  (ss_cons (s_setO 3 sc__law_digits.nd (el_lst n_nil))
  (ss_cons (s_set 4 sc__law_digits.nd (e_var 0))
  (ss_cons (s_for PassesOwn.never rfl (i_rng1 (by rfl) m_range (n_cons (e_var 2) n_nil)).fb (g_name 5 sc__law_digits.nd)
  (ss_one (s_if (t_cmp od_ge (e_var 0) (e_op od_pow e_int e_int))
  (ss_cons (s_app (pl_var 3) (e_op od_mod (e_cty cb_int (by rfl) m_int boot_int' (b_var 4)) (e_var 1)))
  (ss_one (s_set 4 sc__law_digits.nd (e_op od_div (e_var 4) (e_var 1)))))
  (ss_cons (s_set 6 sc__law_digits.nd (e_op od_mod (e_cty cb_int (by rfl) m_int boot_int' (e_op od_add (e_op od_add (e_op od_mul (e_var 0) e_int) (e_op od_mul (e_var 5) e_int)) e_int).bo) e_int))
  (ss_cons (s_set 6 sc__law_digits.nd (e_op od_mod (e_cty cb_int (by rfl) m_int boot_int' (e_op od_add (e_op od_add (e_op od_mul (e_var 6) (e_var 6)) (e_op od_mul e_int (e_var 6))) (e_var 5)).bo) e_int))
  (ss_one (s_app (pl_var 3) (e_op od_mod (e_cty cb_int (by rfl) m_int boot_int' (e_op od_div (e_var 6) e_int).bo) (e_var 1)))))))))
  (ss_one (s_frz 3 (s_ret (e_var 3)))))))
/-! _law_values -/
abbrev s__law_values : Stmt := topS 19
abbrev N__law_values : List Str := ["script", "place", "most", "cell", "size", "style", "digits", "values", "last", "k"]
theorem sc__law_values : FnScope N__law_values ["script", "place", "most"] (defScope s__law_values) := ⟨rfl, rfl, rfl, by decide +kernel, rfl, by decide +kernel, by decide +kernel⟩
noncomputable def B__law_values : Sm :=
  (sSeq (sSet 3 (gCall S__law_cell (aC (gV 0) (aC (gV 1) aN))))
  (sSeq (sSet 4 (gOp dMod (gU dInt (gB 3)) (gOp dAdd (gV 2) (gI 1))))
  (sSeq (sSet 5 (gOp dMod (gU dInt (gOp dDiv (gV 3) (gOp dAdd (gV 2) (gI 1)))) (gI 3)))
  (sSeq (sSet 6 (gCall S__law_digits (aC (gCall S__law_cell (aC (gV 0) (aC (gOp dAdd (gV 1) (gI 1)) aN))) (aC (gIx (gL (aC (gI 19) (aC (gOp dPow (gI 10) (gI 9)) (aC (gI 13) aN)))) (gV 5)) (aC (gV 4) aN)))))
  (sSeq (sSetO 7 aN)
  (sSeq (sSet 8 (gI 0))
  (sSeq (sFor (gRng (aC (gV 4) aN)) (gN 9)
  (sSeq (sIf (gT (gOp dEq (gB 5) (gI 2)))
  (sSet 8 (gI 0))
  sNil)
  (sSeq (sSet 8 (gOp dSub (gOp dAdd (gV 8) (gU dInt (gIx (gB 6) (gV 9)))) (gIx (gL (aC (gI 9) (aC (gOp dMul (gI 5) (gOp dPow (gI 10) (gI 8))) (aC (gI 6) aN)))) (gV 5))))
  (sApp 7 [] (gV 8)))))
  (sFrz 7 (sRet (gV 7))))))))))
noncomputable def S__law_values : List D → Option D := runB 10 B__law_values
theorem ok__law_values {f : Addr} {fd : FuncData} (F : Fun K "_law_values" "_law_values" s__law_values f fd) (c__law_cell : Cal P w K mg base "_law_cell" 1 ["script", "k"] S__law_cell) (m_int : mg "int" = none) (c__law_digits : Cal P w K mg base "_law_digits" 1 ["cell", "many", "count"] S__law_digits) (m_range : mg "range" = none) : FnOk P w K mg base CX0 2 f fd ["script", "place", "most"] (spD K mg 3 S__law_values) :=
  def_ok F sc__law_values fun cdv A outer s H E hr =>
  (ss_cons (s_set 3 sc__law_values.nd (e_callC c__law_cell hr (by decide) (n_cons (e_var 0) (n_cons (e_var 1) n_nil))))
  (ss_cons (s_set 4 sc__law_values.nd (e_op od_mod (e_cty cb_int (by rfl) m_int boot_int' (b_var 3)) (e_op od_add (e_var 2) e_int)))
  (ss_cons (s_set 5 sc__law_values.nd (e_op od_mod (e_cty cb_int (by rfl) m_int boot_int' (e_op od_div (e_var 3) (e_op od_add (e_var 2) e_int)).bo) e_int))
  (ss_cons (s_set 6 sc__law_values.nd (e_callC c__law_digits hr (by decide) (n_cons (e_callC c__law_cell hr (by decide) (n_cons (e_var 0) (n_cons (e_op od_add (e_var 1) e_int) n_nil))) (n_cons (e_ix (el_lst (n_cons e_int (n_cons (e_op od_pow e_int e_int) (n_cons e_int n_nil)))).fz.bo (e_var 5)) (n_cons (e_var 4) n_nil)))))
  (ss_cons (s_setO 7 sc__law_values.nd (el_lst n_nil))
  (ss_cons (s_set 8 sc__law_values.nd e_int)
  (ss_cons (s_for PassesOwn.never rfl (i_rng1 (by rfl) m_range (n_cons (e_var 4) n_nil)).fb (g_name 9 sc__law_values.nd)
  (ss_cons (s_if (t_cmpB (ob_eq hr.units) (b_var 5) e_int.bo)
  (ss_one (s_set 8 sc__law_values.nd e_int))
  ss_nil)
  (ss_cons (s_set 8 sc__law_values.nd (e_op od_sub (e_op od_add (e_var 8) (e_cty cb_int (by rfl) m_int boot_int' (e_ix (b_var 6) (e_var 9)).bo)) (e_ix (el_lst (n_cons e_int (n_cons (e_op od_mul e_int (e_op od_pow e_int e_int)) (n_cons e_int n_nil)))).fz.bo (e_var 5))))
  (ss_one (s_app (pl_var 7) (e_var 8))))))
  (ss_one (s_frz 7 (s_ret (e_var 7)))))))))))
/-! _law_error_of -/
abbrev s__law_error_of : Stmt := topS 20
abbrev N__law_error_of : List Str := ["script", "place", "values", "cell"]
theorem sc__law_error_of : FnScope N__law_error_of ["script", "place", "values"] (defScope s__law_error_of) := ⟨rfl, rfl, rfl, by decide +kernel, rfl, by decide +kernel, by decide +kernel⟩
noncomputable def B__law_error_of : Sm :=
  (sSeq (sSet 3 (gCall S__law_cell (aC (gV 0) (aC (gV 1) aN))))
  (sSeq (sIf (gAnd (gT (gOp dEq (gOp dMod (gU dInt (gB 3)) (gI 3)) (gI 2))) (gT (gOp dGt (gU dLen (gB 2)) (gI 1))))
  (sRet (gOp dMod (gU dInt (gOp dDiv (gV 3) (gI 3))) (gOp dAdd (gOp dDiv (gOp dSub (gU dMax (gB 2)) (gU dMin (gB 2))) (gI 2)) (gI 2))))
  sNil)
  (sRet (gOp dMod (gU dInt (gOp dDiv (gV 3) (gI 3))) (gI 10)))))
noncomputable def S__law_error_of : List D → Option D := runB 4 B__law_error_of
theorem ok__law_error_of {f : Addr} {fd : FuncData} (F : Fun K "_law_error_of" "_law_error_of" s__law_error_of f fd) (c__law_cell : Cal P w K mg base "_law_cell" 1 ["script", "k"] S__law_cell) (m_len : mg "len" = none) (m_int : mg "int" = none) (m_max : mg "max" = none) (m_min : mg "min" = none) : FnOk P w K mg base CX0 2 f fd ["script", "place", "values"] (spD K mg 3 S__law_error_of) :=
  def_ok F sc__law_error_of fun cdv A outer s H E hr =>
  (ss_cons (s_set 3 sc__law_error_of.nd (e_callC c__law_cell hr (by decide) (n_cons (e_var 0) (n_cons (e_var 1) n_nil))))
  (ss_cons (s_if (w_and (t_cmpB (ob_eq hr.units) (e_op od_mod (e_cty cb_int (by rfl) m_int boot_int' (b_var 3)) e_int).bo e_int.bo) (w_and1 (t_cmp od_gt (e_cb cb_len (by rfl) m_len boot_len' (b_var 2)) e_int))).t
  (ss_one (s_ret (e_op od_mod (e_cty cb_int (by rfl) m_int boot_int' (e_op od_div (e_var 3) e_int).bo) (e_op od_add (e_op od_div (e_op od_sub (e_cb (cb_max rfl) (by rfl) m_max boot_max' (b_var 2)) (e_cb (cb_min rfl) (by rfl) m_min boot_min' (b_var 2))) e_int) e_int))))
  ss_nil)
  (ss_one (s_ret (e_op od_mod (e_cty cb_int (by rfl) m_int boot_int' (e_op od_div (e_var 3) e_int).bo) e_int)))))
/-! _law_flat -/
abbrev s__law_flat : Stmt := topS 21
abbrev N__law_flat : List Str := ["values", "error"]
theorem sc__law_flat : FnScope N__law_flat ["values", "error"] (defScope s__law_flat) := ⟨rfl, rfl, rfl, by decide +kernel, rfl, by decide +kernel, by decide +kernel⟩
noncomputable def B__law_flat : Sm :=
  (sRet (gBl (gOr (gT (gOp dEq (gU dLen (gB 0)) (gI 0))) (gT (gOp dLe (gOp dSub (gU dMax (gB 0)) (gU dMin (gB 0))) (gOp dMul (gI 2) (gV 1)))))))
noncomputable def S__law_flat : List D → Option D := runB 2 B__law_flat
theorem ok__law_flat {f : Addr} {fd : FuncData} (F : Fun K "_law_flat" "_law_flat" s__law_flat f fd) (m_max : mg "max" = none) (m_min : mg "min" = none) (m_len : mg "len" = none) : FnOk P w K mg base CX0 1 f fd ["values", "error"] (spD K mg 2 S__law_flat) :=
  def_ok F sc__law_flat fun cdv A outer s H E hr =>
  (ss_one (s_ret (v_or (e_cmpB (ob_eq hr.units) (e_cb cb_len (by rfl) m_len boot_len' (b_var 0)).bo e_int.bo).v (v_one (e_cmp od_le (e_op od_sub (e_cb (cb_max rfl) (by rfl) m_max boot_max' (b_var 0)) (e_cb (cb_min rfl) (by rfl) m_min boot_min' (b_var 0))) (e_op od_mul e_int (e_var 1))).v)).e))
/-! _law_flat_starts -/
abbrev s__law_flat_starts : Stmt := topS 22
abbrev N__law_flat_starts : List Str := ["values", "error", "starts", "k"]
theorem sc__law_flat_starts : FnScope N__law_flat_starts ["values", "error"] (defScope s__law_flat_starts) := ⟨rfl, rfl, rfl, by decide +kernel, rfl, by decide +kernel, by decide +kernel⟩
noncomputable def B__law_flat_starts : Sm :=
  (sSeq (sSetO 2 aN)
  (sSeq (sFor (gRng (aC (gU dLen (gB 0)) aN)) (gN 3)
  (sIf (gOr (gT (gOp dEq (gU dLen (gB 2)) (gI 0))) (gNot (gTru (gCall S__law_flat (aC (gL (gSl (gB 0) (gSo (gIx (gB 2) (gOp dSub (gU dLen (gB 2)) (gI 1)))) (gSo (gOp dAdd (gV 3) (gI 1))))) (aC (gV 1) aN))))))
  (sApp 2 [] (gV 3))
  sNil))
  (sFrz 2 (sRet (gV 2)))))
noncomputable def S__law_flat_starts : List D → Option D := runB 4 B__law_flat_starts
theorem ok__law_flat_starts {f : Addr} {fd : FuncData} (F : Fun K "_law_flat_starts" "_law_flat_starts" s__law_flat_starts f fd) (m_len : mg "len" = none) (m_range : mg "range" = none) (c__law_flat : Cal P w K mg base "_law_flat" 1 ["values", "error"] S__law_flat) : FnOk P w K mg base CX0 2 f fd ["values", "error"] (spD K mg 2 S__law_flat_starts) :=
  def_ok F sc__law_flat_starts fun cdv A outer s H E hr =>
  (ss_cons (s_setO 2 sc__law_flat_starts.nd (el_lst n_nil))
  (ss_cons (s_for PassesOwn.never rfl (i_rng1 (by rfl) m_range (n_cons (e_cb cb_len (by rfl) m_len boot_len' (b_var 0)) n_nil)).fb (g_name 3 sc__law_flat_starts.nd)
  (ss_one (s_if (w_or (t_cmpB (ob_eq hr.units) (e_cb cb_len (by rfl) m_len boot_len' (b_var 2)).bo e_int.bo) (w_or1 (t_not (t_tru (e_callC c__law_flat hr (by decide) (n_cons (el_sl (b_var 0) (o_so (e_ix (b_var 2) (e_op od_sub (e_cb cb_len (by rfl) m_len boot_len' (b_var 2)) e_int))) (o_so (e_op od_add (e_var 3) e_int))).fz (n_cons (e_var 1) n_nil))).bo)))).t
  (ss_one (s_app (pl_var 2) (e_var 3)))
  ss_nil)))
  (ss_one (s_frz 2 (s_ret (e_var 2))))))
/-! _law_flat_least -/
abbrev s__law_flat_least : Stmt := topS 23
abbrev N__law_flat_least : List Str := ["values", "error", "counts", "end", "best", "start"]
theorem sc__law_flat_least : FnScope N__law_flat_least ["values", "error"] (defScope s__law_flat_least) := ⟨rfl, rfl, rfl, by decide +kernel, rfl, by decide +kernel, by decide +kernel⟩
noncomputable def B__law_flat_least : Sm :=
  (sSeq (sSetO 2 (aC (gI 0) aN))
  (sSeq (sFor (gRng (aC (gI 1) (aC (gOp dAdd (gU dLen (gB 0)) (gI 1)) aN))) (gN 3)
  (sSeq (sSet 4 (gOp dAdd (gIx (gB 2) (gOp dSub (gV 3) (gI 1))) (gI 1)))
  (sSeq (sFor (gRng (aC (gV 3) aN)) (gN 5)
  (sIf (gAnd (gT (gOp dLt (gOp dAdd (gIx (gB 2) (gV 5)) (gI 1)) (gV 4))) (gTru (gCall S__law_flat (aC (gL (gSl (gB 0) (gSo (gV 5)) (gSo (gV 3)))) (aC (gV 1) aN)))))
  (sSet 4 (gOp dAdd (gIx (gB 2) (gV 5)) (gI 1)))
  sNil))
  (sApp 2 [] (gV 4)))))
  (sRet (gIx (gB 2) (gU dLen (gB 0))))))
noncomputable def S__law_flat_least : List D → Option D := runB 6 B__law_flat_least
theorem ok__law_flat_least {f : Addr} {fd : FuncData} (F : Fun K "_law_flat_least" "_law_flat_least" s__law_flat_least f fd) (m_len : mg "len" = none) (m_range : mg "range" = none) (c__law_flat : Cal P w K mg base "_law_flat" 1 ["values", "error"] S__law_flat) : FnOk P w K mg base CX0 2 f fd ["values", "error"] (spD K mg 2 S__law_flat_least) :=
  def_ok F sc__law_flat_least fun cdv A outer s H E hr =>
  (ss_cons (s_setO 2 sc__law_flat_least.nd (el_lst (n_cons e_int n_nil)))
  (ss_cons (s_for PassesOwn.never rfl (i_rng2 (by rfl) m_range (n_cons e_int (n_cons (e_op od_add (e_cb cb_len (by rfl) m_len boot_len' (b_var 0)) e_int) n_nil))).fb (g_name 3 sc__law_flat_least.nd)
  (ss_cons (s_set 4 sc__law_flat_least.nd (e_op od_add (e_ix (b_var 2) (e_op od_sub (e_var 3) e_int)) e_int))
  (ss_cons (s_for PassesOwn.never rfl (i_rng1 (by rfl) m_range (n_cons (e_var 3) n_nil)).fb (g_name 5 sc__law_flat_least.nd)
  (ss_one (s_if (w_and (t_cmp od_lt (e_op od_add (e_ix (b_var 2) (e_var 5)) e_int) (e_var 4)) (w_and1 (t_tru (e_callC c__law_flat hr (by decide) (n_cons (el_sl (b_var 0) (o_so (e_var 5)) (o_so (e_var 3))).fz (n_cons (e_var 1) n_nil))).bo))).t
  (ss_one (s_set 4 sc__law_flat_least.nd (e_op od_add (e_ix (b_var 2) (e_var 5)) e_int)))
  ss_nil)))
  (ss_one (s_app (pl_var 2) (e_var 4))))))
  (ss_one (s_ret (e_ix (b_var 2) (e_cb cb_len (by rfl) m_len boot_len' (b_var 0)))))))
/-! law -/
abbrev s_law : Stmt := topS 24
abbrev N_law : List Str := ["script", "values", "error", "given", "found", "starts", "ends", "k", "least", "i", "j", "piece", "value"]
theorem sc_law : FnScope N_law ["script"] (defScope s_law) := ⟨rfl, rfl, rfl, by decide +kernel, rfl, by decide +kernel, by decide +kernel⟩
noncomputable def B_law : Sm :=
  (sSeq (sSet 1 (gCall S__law_values (aC (gV 0) (aC (gI 0) (aC (gI 16) aN)))))
  (sSeq (sSet 2 (gCall S__law_error_of (aC (gV 0) (aC (gI 2) (aC (gV 1) aN)))))
  (sSeq (sSet 3 (gL (gUL dList (gB 1))))
  (sSeq (sSet 4 (gCall S_flat_cut (aC (gV 3) (aC (gV 2) aN))))
  (sSeq (sIf (gOr (gNot (gTru (gU (dIsiC 6) (gB 4)))) (gT (gOp dNe (gL (gLc [11] (gIt (gU (dFld 6 0) (gV 4))) (gN 11) gYes (gIx (gB 11) (gI 0)))) (gCall S__law_flat_starts (aC (gV 1) (aC (gV 2) aN))))))
  (sRet (gC (.bl false)))
  sNil)
  (sSeq (sSet 5 (gCall S__law_flat_starts (aC (gV 1) (aC (gV 2) aN))))
  (sSeq (sSet 6 (gOp dAdd (gL (gSl (gB 5) (gSo (gI 1)) gNo)) (gL (aC (gU dLen (gB 1)) aN))))
  (sSeq (sFor (gRng (aC (gU dLen (gB 5)) aN)) (gN 7)
  (sIf (gNot (gTru (gU dAll (gL (gLc [12] (gIt (gL (gSl (gB 1) (gSo (gIx (gB 5) (gV 7))) (gSo (gIx (gB 6) (gV 7)))))) (gN 12) gYes (gOp dLe (gU dAbs (gOp dSub (gV 12) (gIx (gIx (gU (dFld 6 0) (gV 4)) (gV 7)) (gI 1)))) (gV 2)))))))
  (sRet (gC (.bl false)))
  sNil))
  (sSeq (sIf (gT (gOp dNe (gU dLen (gU (dFld 6 1) (gV 4))) (gA dMax2 (aC (gI 0) (aC (gOp dSub (gU dLen (gB 5)) (gI 1)) aN)))))
  (sRet (gC (.bl false)))
  sNil)
  (sSeq (sFor (gRng (aC (gU dLen (gU (dFld 6 1) (gV 4))) aN)) (gN 7)
  (sSeq (sUnp (gTg 2 (gTo (gN 9) (gTo (gN 10) gEnd))) (gIx (gU (dFld 6 1) (gV 4)) (gV 7)))
  (sIf (gOr (gNot (gCh (gIx (gB 5) (gV 7)) (gChn dLe (gV 9) (gChn dLt (gV 10) (gCh1 dLe (gIx (gB 5) (gOp dAdd (gV 7) (gI 1)))))))) (gT (gOp dLe (gU dAbs (gOp dSub (gIx (gB 1) (gV 9)) (gIx (gB 1) (gV 10)))) (gOp dMul (gI 2) (gV 2)))))
  (sRet (gC (.bl false)))
  sNil)))
  (sSeq (sSet 8 (gCall S__law_flat_least (aC (gV 1) (aC (gV 2) aN))))
  (sSeq (sIf (gOr (gT (gOp dNe (gU dLen (gB 5)) (gB 8))) (gOr (gT (gOp dNe (gCall S_plain_flat_count (aC (gV 3) (aC (gV 2) aN))) (gB 8))) (gT (gOp dNe (gB 3) (gB 1)))))
  (sRet (gC (.bl false)))
  sNil)
  (sRet (gOp dIsN (gCall S_judge_flat (aC (gV 3) (aC (gV 2) (aC (gV 4) aN)))) (gC (.bl true))))))))))))))))
noncomputable def S_law : List D → Option D := runB 13 B_law
theorem ok_law {f : Addr} {fd : FuncData} {C6 : Addr} (F : Fun K "law" "law" s_law f fd) (c__law_values : Cal P w K mg base "_law_values" 2 ["script", "place", "most"] S__law_values) (c__law_error_of : Cal P w K mg base "_law_error_of" 2 ["script", "place", "values"] S__law_error_of) (m_list : mg "list" = none) (c_flat_cut : Cal P w K mg base "flat_cut" 5 ["values", "error"] S_flat_cut) (ck6 : CK K mg 6 C6) (c__law_flat_starts : Cal P w K mg base "_law_flat_starts" 2 ["values", "error"] S__law_flat_starts) (ci6 : CI K mg 6 C6) (m_isinstance : mg "isinstance" = none) (m_len : mg "len" = none) (m_range : mg "range" = none) (m_abs : mg "abs" = none) (m_all : mg "all" = none) (m_max : mg "max" = none) (c__law_flat_least : Cal P w K mg base "_law_flat_least" 2 ["values", "error"] S__law_flat_least) (c_plain_flat_count : Cal P w K mg base "plain_flat_count" 4 ["values", "error"] S_plain_flat_count) (c_judge_flat : Cal P w K mg base "judge_flat" 3 ["values", "error", "cutting"] S_judge_flat) : FnOk P w K mg base CX0 6 f fd ["script"] (spD K mg 1 S_law) :=
  def_ok F sc_law fun cdv A outer s H E hr =>
  (ss_cons (s_set 1 sc_law.nd (e_callC c__law_values hr (by decide) (n_cons (e_var 0) (n_cons e_int (n_cons e_int n_nil)))))
  (ss_cons (s_set 2 sc_law.nd (e_callC c__law_error_of hr (by decide) (n_cons (e_var 0) (n_cons e_int (n_cons (e_var 1) n_nil)))))
  (ss_cons (s_set 3 sc_law.nd (el_cty cb_list (by rfl) m_list boot_list' (b_var 1)).fz)
  (ss_cons (s_set 4 sc_law.nd (e_callC c_flat_cut hr (by decide) (n_cons (e_var 3) (n_cons (e_var 2) n_nil))))
  (ss_cons (s_if (w_or (t_not (t_tru (e_isiC (c := 6) (x := "isinstance") ci6 (by rfl) m_isinstance boot_isinstance' (b_var 4)).bo)) (w_or1 (t_cmpB (ob_ne hr.units) (el_lc (own := [("piece", 11)]) rfl sc_law.nd (i_list (e_fld (c := 6) (j := 0) ck6 (e_var 4))).c (blkOk_by (own := [("piece", 11)]) (N := N_law) (sc := defScope s_law) (by decide +kernel)) (by decide) (fun _ _ _ _ _ => (g_name 11 sc_law.nd)) (fun _ _ _ _ _ => ts_nil) (fun _ _ _ _ _ => (e_ix (b_var 11) e_int))).fz.bo (e_callC c__law_flat_starts hr (by decide) (n_cons (e_var 1) (n_cons (e_var 2) n_nil))).bo))).t
  (ss_one (s_ret e_bl))
  ss_nil)
  (ss_cons (s_set 5 sc_law.nd (e_callC c__law_flat_starts hr (by decide) (n_cons (e_var 1) (n_cons (e_var 2) n_nil))))
  (ss_cons (s_set 6 sc_law.nd (e_op od_add (el_sl (b_var 5) (o_so e_int) o_no).fz (el_lst (n_cons (e_cb cb_len (by rfl) m_len boot_len' (b_var 1)) n_nil)).fz))
  (ss_cons (s_for PassesOwn.never rfl (i_rng1 (by rfl) m_range (n_cons (e_cb cb_len (by rfl) m_len boot_len' (b_var 5)) n_nil)).fb (g_name 7 sc_law.nd)
  (ss_one (s_if (t_not (t_tru (e_cb (cb_all rfl) (by rfl) m_all boot_all' (el_lc (own := [("value", 12)]) rfl sc_law.nd (i_list (el_sl (b_var 1) (o_so (e_ix (b_var 5) (e_var 7))) (o_so (e_ix (b_var 6) (e_var 7)))).fz).c (blkOk_by (own := [("value", 12)]) (N := N_law) (sc := defScope s_law) (by decide +kernel)) (by decide) (fun _ _ _ _ _ => (g_name 12 sc_law.nd)) (fun _ _ _ _ _ => ts_nil) (fun _ _ _ _ _ => (e_cmp od_le (e_cb cb_abs (by rfl) m_abs boot_abs' (e_op od_sub (e_var 12) (e_ix (e_ix (e_fld (c := 6) (j := 0) ck6 (e_var 4)).bo (e_var 7)).bo e_int)).bo) (e_var 2)))).fz.bo).bo))
  (ss_one (s_ret e_bl))
  ss_nil)))
  (ss_cons (s_if (t_cmpB (ob_ne hr.units) (e_cb cb_len (by rfl) m_len boot_len' (e_fld (c := 6) (j := 1) ck6 (e_var 4)).bo).bo (e_cba (cb_max2 rfl) (by rfl) m_max boot_max' (n_cons e_int (n_cons (e_op od_sub (e_cb cb_len (by rfl) m_len boot_len' (b_var 5)) e_int) n_nil)).a).bo)
  (ss_one (s_ret e_bl))
  ss_nil)
  (ss_cons (s_for PassesOwn.never rfl (i_rng1 (by rfl) m_range (n_cons (e_cb cb_len (by rfl) m_len boot_len' (e_fld (c := 6) (j := 1) ck6 (e_var 4)).bo) n_nil)).fb (g_name 7 sc_law.nd)
  (ss_cons (s_unp (e_ix (e_fld (c := 6) (j := 1) ck6 (e_var 4)).bo (e_var 7)) (g_tup rfl (gl_cons (g_name 9 sc_law.nd) (gl_cons (g_name 10 sc_law.nd) gl_nil))))
  (ss_one (s_if (w_or (t_not (t_chn (e_ix (b_var 5) (e_var 7)) (c_cons od_le (e_var 9) (c_cons od_lt (e_var 10) (c_last od_le (e_ix (b_var 5) (e_op od_add (e_var 7) e_int))))))) (w_or1 (t_cmp od_le (e_cb cb_abs (by rfl) m_abs boot_abs' (e_op od_sub (e_ix (b_var 1) (e_var 9)) (e_ix (b_var 1) (e_var 10))).bo) (e_op od_mul e_int (e_var 2))))).t
  (ss_one (s_ret e_bl))
  ss_nil))))
  (ss_cons (s_set 8 sc_law.nd (e_callC c__law_flat_least hr (by decide) (n_cons (e_var 1) (n_cons (e_var 2) n_nil))))
  (ss_cons (s_if (w_or (t_cmpB (ob_ne hr.units) (e_cb cb_len (by rfl) m_len boot_len' (b_var 5)).bo (b_var 8)) (w_or (t_cmpB (ob_ne hr.units) (e_callC c_plain_flat_count hr (by decide) (n_cons (e_var 3) (n_cons (e_var 2) n_nil))).bo (b_var 8)) (w_or1 (t_cmpB (ob_ne hr.units) (b_var 3) (b_var 1))))).t
  (ss_one (s_ret e_bl))
  ss_nil)
  (ss_one (s_ret (e_cmpB ob_isN (e_callC c_judge_flat hr (by decide) (n_cons (e_var 3) (n_cons (e_var 2) (n_cons (e_var 4) n_nil)))).bo e_bl.bo)))))))))))))))
end
end K10

namespace K10
open PySem L2 DL
local macro_rules | `(tactic| walk_at "ev call") => `(tactic| ((with_reducible (show _ = _)); with_reducible assumption))
local macro_rules | `(tactic| walk_at "ev mul") => `(tactic| first | (with_reducible assumption) | exact mulOk_l (by omega) (by omega) | exact mulOk_r (by omega) (by omega) | decide +kernel)
local macro_rules | `(tactic| walk_at "ev pos") => `(tactic| first | (with_reducible assumption) | decide | omega)
local macro_rules | `(tactic| walk_at "ev log") => `(tactic| first | (with_reducible assumption) | exact log_of (k := 100) (by omega) (by decide) (by decide) | decide +kernel)
local macro_rules | `(tactic| walk_at "ev") => `(tactic| (repeat' first
  | (with_reducible exact ev_I) | (with_reducible exact ev_C) | (with_reducible exact ev_nl) | (with_reducible exact ev_No)
  | ((with_reducible apply ev_V); exact rfl) | ((with_reducible apply ev_B); exact rfl) | ((with_reducible apply ev_Bo); exact rfl)
  | (with_reducible apply ev_cs) | (with_reducible apply ev_tu) | (with_reducible apply ev_L)
  | (with_reducible apply ev_op) | (with_reducible apply ev_U) | (with_reducible apply ev_call) | (with_reducible apply ev_A)
  | (with_reducible apply ev_UL) | (with_reducible apply ev_Sl) | (with_reducible apply ev_So) | (with_reducible apply ev_meth)
  | (with_reducible apply ev_T) | (with_reducible apply ev_Tru) | (with_reducible apply ev_not) | (with_reducible apply ev_bl)
  | (with_reducible apply ev_ch) | (with_reducible apply ev_ch1) | (with_reducible apply ev_chn)
  | (with_reducible apply ev_and) | (with_reducible apply ev_or)
  | (with_reducible exact d_add) | (with_reducible exact d_sub)
  | ((with_reducible refine d_mul ?_); walk_at "ev mul") | ((with_reducible refine d_mod ?_); walk_at "ev pos") | ((with_reducible refine d_div ?_ ?_) <;> first | walk_at "ev pos" | walk_at "ev log")
  | ((with_reducible (show dLt (.int _) (.int _) = _)); exact rfl) | ((with_reducible (show dLe (.int _) (.int _) = _)); exact rfl) | ((with_reducible (show dGt (.int _) (.int _) = _)); exact rfl) | ((with_reducible (show dGe (.int _) (.int _) = _)); exact rfl)
  | ((with_reducible (show dInt (.int _) = _)); exact rfl) | ((with_reducible (show dAbs (.int _) = _)); exact rfl) | ((with_reducible (show dNeg (.int _) = _)); exact rfl)
  | ((with_reducible (show dTru (.bl _) = _)); exact rfl) | ((with_reducible refine d_pow ?_); decide)
  | ((with_reducible (show dIsi _ (.bl _) = _)); exact rfl) | ((with_reducible (show dIsi _ (.tup _) = _)); exact rfl) | ((with_reducible (show dIsi _ (.int _) = _)); exact rfl) | ((with_reducible (show dIsi _ .non = _)); exact rfl)
  | ((with_reducible (show dIsN _ _ = _)); exact rfl) | ((with_reducible (show dNoN _ _ = _)); exact rfl)
  | ((with_reducible (show dLen (.lst _) = _)); exact rfl) | ((with_reducible (show dLen (.scr _) = _)); exact rfl) | ((with_reducible (show dLen (.tup _) = _)); exact rfl)
  | (with_reducible refine d_eq eqOk_int eqOk_int eqd_int) | (with_reducible refine d_eq eqOk_bl eqOk_bl eqd_bl) | (with_reducible refine d_ne eqOk_int eqOk_int eqd_int)
  | (with_reducible refine d_ne eqOk_bl eqOk_bl eqd_bl) | ((with_reducible (show dIx (.tup _) (.int _) = _)); exact rfl)
  | walk_at "ev call"))
local macro_rules | `(tactic| walk_at "ev norm") => `(tactic| simp only [List.map_cons, List.map_nil, List.length_cons, List.length_nil, Nat.reduceAdd, Nat.reduceSub, List.reduceReplicate, List.cons_append, List.nil_append, List.set_cons_zero, List.set_cons_succ, List.zip_cons_cons, List.zip_nil_left, List.zip_nil_right, List.foldl_cons, List.foldl_nil])
local macro_rules | `(tactic| walk_at "ev st") => `(tactic| first
  | ((with_reducible apply sq_set); walk_at "ev"; all_goals (try walk_at "ev norm"))
  | ((with_reducible apply sq_unp); (walk_at "ev"); (all_goals try exact rfl); all_goals (try walk_at "ev norm"))
  | ((with_reducible apply sq_par); walk_at "ev"; all_goals (try walk_at "ev norm"))
  | ((with_reducible apply sq_setO); walk_at "ev"; all_goals (try walk_at "ev norm"))
  | ((with_reducible apply sq_ret); walk_at "ev")
  | ((with_reducible apply sv_ret); walk_at "ev")
  | ((with_reducible apply sv_set); walk_at "ev")
  | (with_reducible apply sq_nil))
def absI (a : Int) : Int := if a < 0 then -a else a
theorem absI_le {a b : Int} : absI a ≤ b ↔ -b ≤ a ∧ a ≤ b := by unfold absI; split <;> omega
def encP (a : Int × Int) : D := .tup [.int a.1, .int a.2]
def encL (l : Int × Int × Int) : D := .tup [.int l.1, .int l.2.1, .int l.2.2]
theorem all_map_bl {α : Type} (xs : List α) (t : α → Bool) : dAll (.lst (xs.map fun a => D.bl (t a))) = some (.bl (xs.all t)) := by
  have e : xs.map (fun a => D.bl (t a)) = (xs.map t).map D.bl := by rw [List.map_map]; rfl
  rw [e, d_all]
  simp [List.all_map]
def cell (ns : List Int) (k : Nat) : Int := ns.getD k 0
theorem cell_eq (ns : List Int) (k : Int) (h0 : 0 ≤ k) : S__law_cell [.scr ns, .int k] = some (.int (cell ns k.toNat)) := by
  obtain ⟨k, rfl⟩ := Int.eq_ofNat_of_zero_le h0
  refine sv_run ?_
  unfold B__law_cell
  walk_at "ev norm"
  refine sv_ifS (b := decide ((k : Int) < (ns.length : Int))) ?_ ?_ ?_
  · walk_at "ev"
  · intro h
    have h : k < ns.length := by simpa using h
    refine sv_rt (sv_ret (ev_op (ev_B rfl) (ev_V rfl) ?_))
    show (atI ns (k : Int)).map D.int = _
    rw [atI_nat (List.getElem?_eq_getElem h)]
    simp [cell, h]
  · intro h
    have h : ns.length ≤ k := by simpa using h
    rw [sv_nilS]
    refine sv_ret ?_
    simp [cell, List.getElem?_eq_none h, gI]
local macro_rules | `(tactic| walk_at "ev call") => `(tactic| with_reducible exact cell_eq _ _ (by decide))
theorem forL_rng {gs : Gs} {F : Sm} (n : Nat) (lo : Int) (Iv : Nat → DEnv → Prop) (hs : ∀ (k : Nat) Γ, k < n → Iv k Γ → ∃ Γ1 Γ2, gs (.int (lo + (k : Nat))) Γ = some Γ1 ∧ (F Γ1 = some (.nx Γ2) ∨ F Γ1 = some (.ct Γ2)) ∧ Iv (k + 1) Γ2) (Γ : DEnv) (h0 : Iv 0 Γ) : ∃ Γ', forL gs F (rngD lo n) Γ = some (.nx Γ') ∧ Iv n Γ' := by
  have key : ∀ m k Γ, k + m = n → Iv k Γ → ∃ Γ', forL gs F ((List.range' k m).map fun i => D.int (lo + (i : Nat))) Γ = some (.nx Γ') ∧ Iv n Γ' := by
    intro m
    induction m with
    | zero =>
      intro k Γ e h
      obtain rfl : k = n := by omega
      exact ⟨Γ, rfl, h⟩
    | succ m ih =>
      intro k Γ e h
      obtain ⟨Γ1, Γ2, h1, h2, h3⟩ := hs k Γ (by omega) h
      obtain ⟨Γ', h4, h5⟩ := ih (k + 1) Γ2 (by omega) h3
      refine ⟨Γ', ?_, h5⟩
      rw [List.range'_succ, List.map_cons]
      rcases h2 with h2 | h2
      · exact forL_nx h1 h2 h4
      · exact forL_ct h1 h2 h4
  have := key n 0 Γ (by omega) h0
  rwa [← List.range_eq_range'] at this
def mix1 (c : Int) (k : Nat) : Int := (c * 48271 + k * 69621 + 1013) % 2147483647
def mix2 (c : Int) (k : Nat) : Int := (mix1 c k * mix1 c k + 7 * mix1 c k + k) % 2147483629
/-- the law's digits -/
theorem digits_eq (c many n : Int) (h0 : 0 < many) (h1 : many ≤ 10 ^ 15) (n0 : 0 ≤ n) (n1 : n ≤ 100000) : ∃ ds : List Int, S__law_digits [.int c, .int many, .int n] = some (.lst (ds.map D.int)) ∧ (ds.length : Int) = n ∧ ∀ d ∈ ds, 0 ≤ d ∧ d < many := by
  obtain ⟨n, rfl⟩ := Int.eq_ofNat_of_zero_le n0
  have hloop := forL_rng (gs := gN 5) (F := (sIf (gT (gOp dGe (gV 0) (gOp dPow (gI 10) (gI 18))))
  (sSeq (sApp 3 [] (gOp dMod (gU dInt (gB 4)) (gV 1)))
  (sSet 4 (gOp dDiv (gV 4) (gV 1))))
  (sSeq (sSet 6 (gOp dMod (gU dInt (gOp dAdd (gOp dAdd (gOp dMul (gV 0) (gI 48271)) (gOp dMul (gV 5) (gI 69621))) (gI 1013))) (gI 2147483647)))
  (sSeq (sSet 6 (gOp dMod (gU dInt (gOp dAdd (gOp dAdd (gOp dMul (gV 6) (gV 6)) (gOp dMul (gI 7) (gV 6))) (gV 5))) (gI 2147483629)))
  (sApp 3 [] (gOp dMod (gU dInt (gOp dDiv (gV 6) (gI 31))) (gV 1))))))) n 0
    (fun k Γ => ∃ (ds : List Int) (rest : Int) (s5 s6 : Sl), Γ = [.sh (.int c), .sh (.int many), .sh (.int n), .ow (ds.map D.int), .sh (.int rest), s5, s6] ∧ ds.length = k ∧ ∀ d ∈ ds, 0 ≤ d ∧ d < many) ?_
    [.sh (.int c), .sh (.int many), .sh (.int n), .ow [], .sh (.int c), .no, .no] ⟨[], c, .no, .no, rfl, rfl, by simp⟩
  · obtain ⟨Γ', hf, ds, rest, s5, s6, rfl, hl, hb⟩ := hloop
    refine ⟨ds, ?_, by omega, hb⟩
    refine sv_run ?_
    unfold B__law_digits
    walk_at "ev norm"
    walk_at "ev st"
    walk_at "ev st"
    refine sv_nx (sv_for (ev_rng1 (ev_cs (ev_V rfl) ev_nl) (by omega) (by omega)) hf) ?_
    refine sv_frz ?_
    exact sv_ret (ev_V rfl)
  · rintro k Γ hk ⟨ds, rest, s5, s6, rfl, hl, hb⟩
    have e : (0 + (k : Int)) = k := by omega
    rw [e]
    have push : ∀ x : Int, (∀ d ∈ ds ++ [x % many], 0 ≤ d ∧ d < many) := fun x d hd => by
      rcases List.mem_append.mp hd with z | z
      · exact hb d z
      · rw [List.mem_singleton] at z
        subst z
        exact ⟨Int.emod_nonneg _ (by omega), Int.emod_lt_of_pos _ h0⟩
    have len : (ds.map D.int).length < 1000000 := by rw [List.length_map]; omega
    refine ⟨[.sh (.int c), .sh (.int many), .sh (.int n), .ow (ds.map D.int), .sh (.int rest), .sh (.int k), s6], ?_⟩
    by_cases hc : c ≥ 10 ^ 18
    · refine ⟨_, rfl, .inl (sv_ifT ?_ (sv_nx (sv_app0 (xs := ds.map D.int) (d := .int (rest % many)) ?_ rfl len) (sv_set (d := .int (rest / many)) ?_))), ds ++ [rest % many], rest / many, .sh (.int k), s6, ?_, by simp [hl], push _⟩
      · refine ev_T (ev_op (ev_V rfl) (ev_op ev_I ev_I (d_pow (by decide))) ?_)
        show some (D.bl (decide _)) = _
        rw [decide_eq_true]
        exact hc
      · walk_at "ev"
      · exact ev_op (ev_V rfl) (ev_V rfl) (d_div h0 (log_of (k := 100) (by omega) (by decide) (by decide)))
      · simp
    · have b1 : -(2 ^ 64) < mix1 c k ∧ mix1 c k < 2 ^ 64 := by
        unfold mix1
        omega
      refine ⟨_, rfl, .inl (sv_ifF ?_ (sv_nx (sv_set (d := .int (mix1 c k)) ?_) (sv_nx (sv_set (d := .int (mix2 c k)) ?_) (sv_app0 (xs := ds.map D.int) (d := .int (mix2 c k / 31 % many)) ?_ rfl len)))), ds ++ [mix2 c k / 31 % many], rest, .sh (.int k), .sh (.int (mix2 c k)), ?_, by simp [hl], push _⟩
      · refine ev_T (ev_op (ev_V rfl) (ev_op ev_I ev_I (d_pow (by decide))) ?_)
        show some (D.bl (decide _)) = _
        rw [decide_eq_false]
        exact hc
      · unfold mix1
        walk_at "ev"
      · walk_at "ev norm"
        unfold mix2
        generalize mix1 c k = m at *
        refine ev_op (ev_U (ev_op (ev_op (ev_op (ev_V rfl) (ev_V rfl) (d_mul (mulOk_l b1.1 b1.2))) (ev_op ev_I (ev_V rfl) (d_mul (mulOk_r b1.1 b1.2))) d_add) (ev_V rfl) d_add) rfl) ev_I (d_mod (by decide))
      · walk_at "ev norm"
        generalize mix2 c k = m at *
        walk_at "ev"
      · simp
theorem ixm (ms : List Int) (i : Int) (h0 : 0 ≤ i) (h1 : i < ms.length) : ∃ m, m ∈ ms ∧ dIx (.lst (ms.map D.int)) (.int i) = some (.int m) := by
  obtain ⟨k, rfl⟩ := Int.eq_ofNat_of_zero_le h0
  have hk : k < ms.length := by omega
  exact ⟨ms[k], List.getElem_mem hk, d_ixL (by simp [hk])⟩
def Asc (pts : List (Int × Int)) : Prop := pts.Pairwise fun a b => a.1 < b.1
abbrev SmP (a : Int × Int) : Prop := (-(2 ^ 50) < a.1 ∧ a.1 < 2 ^ 50) ∧ -(2 ^ 50) < a.2 ∧ a.2 < 2 ^ 50
theorem maxI_mem {ns : List Int} (h : ns ≠ []) : maxI ns ∈ ns ∧ ∀ n ∈ ns, n ≤ maxI ns := maxI_spec ns (by cases ns with | nil => exact absurd rfl h | cons => simp)
theorem minI_mem {ns : List Int} (h : ns ≠ []) : minI ns ∈ ns ∧ ∀ n ∈ ns, minI ns ≤ n := minI_spec ns (by cases ns with | nil => exact absurd rfl h | cons => simp)
def three (a b c : Int × Int) (e : Int) : Bool := decide (absI (b.2 * (c.1 - a.1) - a.2 * (c.1 - b.1) - c.2 * (b.1 - a.1)) ≤ 2 * e * (c.1 - a.1))
theorem all_range_succ (n : Nat) (t : Nat → Bool) : (List.range (n + 1)).all t = (t 0 && (List.range n).all fun k => t (k + 1)) := by
  rw [List.range_succ_eq_map, List.all_cons, List.all_map]; rfl
/-- a loop that leaves with r at the first item that fails -/
theorem forL_chk {gs : Gs} {F : Sm} (r : D) (Iv : DEnv → Prop) : ∀ (ds : List D) (t : Nat → Bool) (hs : ∀ k d Γ, ds[k]? = some d → Iv Γ → ∃ Γ1, gs d Γ = some Γ1 ∧ (t k = true → ∃ Γ2, F Γ1 = some (.nx Γ2) ∧ Iv Γ2) ∧ (t k = false → F Γ1 = some (.rt r))) (Γ : DEnv), Iv Γ →
    ((List.range ds.length).all t = true → ∃ Γ', forL gs F ds Γ = some (.nx Γ') ∧ Iv Γ') ∧ ((List.range ds.length).all t = false → forL gs F ds Γ = some (.rt r))
  | [], t, hs, Γ, h => ⟨fun _ => ⟨Γ, rfl, h⟩, fun z => by simp at z⟩
  | d :: ds, t, hs, Γ, h => by
    obtain ⟨Γ1, g1, ht, hf⟩ := hs 0 d Γ rfl h
    rw [List.length_cons, all_range_succ]
    cases e : t 0 with
    | false => exact ⟨fun z => by simp at z, fun _ => forL_rt g1 (hf e)⟩
    | true =>
      obtain ⟨Γ2, f2, i2⟩ := ht e
      obtain ⟨k1, k2⟩ := forL_chk r Iv ds (fun k => t (k + 1)) (fun k d Γ hd => hs (k + 1) d Γ (by simpa using hd)) Γ2 i2
      refine ⟨fun z => ?_, fun z => forL_nx g1 f2 (k2 (by simpa using z))⟩
      obtain ⟨Γ', w1, w2⟩ := k1 (by simpa using z)
      exact ⟨Γ', forL_nx g1 f2 w1, w2⟩
theorem rngD_len {lo : Int} {n : Nat} : (rngD lo n).length = n := by simp [rngD]
theorem rngD_get {lo : Int} {n k : Nat} {d : D} (h : (rngD lo n)[k]? = some d) : k < n ∧ d = .int (lo + (k : Nat)) := by
  have hk : k < n := by
    have := (List.getElem?_eq_some_iff.mp h).1
    rwa [rngD_len] at this
  simp [rngD, hk] at h
  exact ⟨hk, h.symm⟩
def pAt (pts : List (Int × Int)) (k : Nat) : Int × Int := pts.getD k (0, 0)
theorem pAt_get {pts : List (Int × Int)} {k : Nat} (h : k < pts.length) : pts[k]? = some (pAt pts k) := by simp [pAt, h]
theorem pAt_mem {pts : List (Int × Int)} {k : Nat} (h : k < pts.length) : pAt pts k ∈ pts := List.mem_of_getElem? (pAt_get h)
theorem ixp {pts : List (Int × Int)} {k : Nat} {i : Int} (h : k < pts.length) (e : i = (k : Nat)) : dIx (.lst (pts.map encP)) (.int i) = some (encP (pAt pts k)) := by
  subst e
  exact d_ixL (by rw [List.getElem?_map, pAt_get h]; rfl)
def fitsB (pts : List (Int × Int)) (e : Int) : Bool := (List.range (pts.length - 2)).all fun k => (List.range (k + 1)).all fun j => (List.range (j + 1)).all fun i => three (pAt pts i) (pAt pts (j + 1)) (pAt pts (k + 2)) e
theorem sv_runO {N : Nat} {B : Sm} {ds : List D} {s : Sl} (h : B (ds.map Sl.sh ++ List.replicate (N - ds.length) .no) = some (.ro s)) : DL.runN N B ds = some s := by unfold DL.runN; rw [h]; rfl
theorem cutD_map {α β : Type} (f : α → β) (xs : List α) (lo hi : Option Int) : cutD (xs.map f) lo hi = (cutD xs lo hi).map f := by
  unfold cutD
  rw [List.length_map, List.map_take, List.map_drop]
theorem cutD_mem {α : Type} {xs : List α} {lo hi : Option Int} {a : α} (h : a ∈ cutD xs lo hi) : a ∈ xs := List.mem_of_mem_drop (List.mem_of_mem_take h)
theorem cutD_len {α : Type} (xs : List α) (lo hi : Option Int) : (cutD xs lo hi).length ≤ xs.length := by
  unfold cutD
  rw [List.length_take, List.length_drop]
  omega
theorem d_cut {α : Type} {f : α → D} {xs : List α} {lo hi : Option Int} : dCut (.lst (xs.map f)) lo hi = some ((cutD xs lo hi).map f) := by
  show some (cutD (xs.map f) lo hi) = _
  rw [cutD_map]
theorem cutD_nat {α : Type} (xs : List α) (a b : Nat) (hb : b ≤ xs.length) : cutD xs (some a) (some b) = (xs.drop a).take (b - a) := by
  unfold cutD
  rw [HT.sIx_nat, HT.sIx_nat, Nat.min_eq_left hb]
  by_cases h : a ≤ xs.length
  · rw [Nat.min_eq_left h]
  · rw [Nat.min_eq_right (by omega), List.drop_eq_nil_of_le (Nat.le_refl _), List.drop_eq_nil_of_le (by omega), List.take_nil, List.take_nil]
theorem cutD_from {α : Type} (xs : List α) (a : Nat) : cutD xs (some a) none = xs.drop a := by
  unfold cutD
  rw [HT.sIx_nat, HT.sIx_none]
  by_cases h : a ≤ xs.length
  · rw [Nat.min_eq_left h, List.take_of_length_le (by simp)]
  · rw [Nat.min_eq_right (by omega), List.drop_eq_nil_of_le (Nat.le_refl _), List.drop_eq_nil_of_le (by omega), List.take_nil]
theorem cutD_to {α : Type} (xs : List α) (b : Nat) : cutD xs none (some b) = xs.take b := by
  unfold cutD
  rw [HT.sIx_nat, HT.sIx_none, List.drop_zero]
  by_cases h : b ≤ xs.length
  · rw [Nat.min_eq_left h]; rfl
  · rw [Nat.min_eq_right (by omega), List.take_of_length_le (by omega), List.take_of_length_le (by omega)]
theorem d_cat {α : Type} {f : α → D} {xs ys : List α} (h : xs.length + ys.length < 1000000) : dAdd (.lst (xs.map f)) (.lst (ys.map f)) = some (.lst ((xs ++ ys).map f)) := by
  show (if (xs.map f).length + (ys.map f).length < 1000000 then some (D.lst (xs.map f ++ ys.map f)) else none) = _
  rw [List.length_map, List.length_map, if_pos h, List.map_append]
/-- a loop that leaves with a good value, or goes on -/
theorem forL_ret {gs : Gs} {F : Sm} (P : D → Prop) (Iv : DEnv → Prop) : ∀ (ds : List D) (hs : ∀ d Γ, d ∈ ds → Iv Γ → ∃ Γ1, gs d Γ = some Γ1 ∧ ((∃ Γ2, F Γ1 = some (.nx Γ2) ∧ Iv Γ2) ∨ ∃ r, F Γ1 = some (.rt r) ∧ P r)) (Γ : DEnv), Iv Γ →
    (∃ Γ', forL gs F ds Γ = some (.nx Γ') ∧ Iv Γ') ∨ ∃ r, forL gs F ds Γ = some (.rt r) ∧ P r
  | [], hs, Γ, h => .inl ⟨Γ, rfl, h⟩
  | d :: ds, hs, Γ, h => by
    obtain ⟨Γ1, g1, q⟩ := hs d Γ List.mem_cons_self h
    rcases q with ⟨Γ2, f2, i2⟩ | ⟨r, f2, pr⟩
    · rcases forL_ret P Iv ds (fun d Γ hd => hs d Γ (List.mem_cons_of_mem _ hd)) Γ2 i2 with ⟨Γ', w1, w2⟩ | ⟨r, w1, w2⟩
      · exact .inl ⟨Γ', forL_nx g1 f2 w1, w2⟩
      · exact .inr ⟨r, forL_nx g1 f2 w1, w2⟩
    · exact .inr ⟨r, forL_rt g1 f2, pr⟩
theorem rngD_mem {lo : Int} {n : Nat} {d : D} (h : d ∈ rngD lo n) : ∃ k : Nat, k < n ∧ d = .int (lo + k) := by
  obtain ⟨k, hk, e⟩ := List.mem_map.mp h
  exact ⟨k, by simpa using hk, e.symm⟩
theorem d_ixC {f : α → D} {xs : List α} {k : Nat} {i : Int} {a : α} (h : xs[k]? = some a) (e : i = (k : Nat)) : dIx (.lst (xs.map f)) (.int i) = some (f a) := by
  subst e
  exact d_ixL (by rw [List.getElem?_map, h]; rfl)
theorem pAt_d (pts : List (Int × Int)) (hb : ∀ a ∈ pts, SmP a) {i j : Nat} (hi : i < pts.length) (hj : j < pts.length) : -(2 ^ 52) < (pAt pts j).1 - (pAt pts i).1 ∧ (pAt pts j).1 - (pAt pts i).1 < 2 ^ 52 := by
  have h1 := hb _ (pAt_mem hi)
  have h2 := hb _ (pAt_mem hj)
  omega
theorem compL_ex {gs : Gs} {f : Ex} {Γ : DEnv} {β : Type} (enc : β → D) : ∀ (ds : List D) (h : ∀ d ∈ ds, ∃ Γ1 v, gs d Γ = some Γ1 ∧ f Γ1 = some (enc v)), ∃ vs : List β, compL gs gYes f ds Γ = some (vs.map enc) ∧ vs.length = ds.length
  | [], _ => ⟨[], rfl, rfl⟩
  | d :: ds, h => by
    obtain ⟨Γ1, v, h1, h2⟩ := h d List.mem_cons_self
    obtain ⟨vs, h3, h4⟩ := compL_ex enc ds fun d hd => h d (List.mem_cons_of_mem _ hd)
    refine ⟨v :: vs, ?_, by simp [h4]⟩
    unfold compL
    rw [h1]
    show (f Γ1).bind _ = _
    rw [h2]
    show (compL gs gYes f ds Γ).bind _ = _
    rw [h3]
    rfl
def encC (c : Int × Int × Int × Int) : D := .tup [.int c.1, encL c.2]
/-- where the pieces end -/
def endsOf (sts : List Int) (n : Nat) : List Int := sts.drop 1 ++ [(n : Int)]
theorem ends_get {sts : List Int} {n k : Nat} (hk : k < sts.length) : (endsOf sts n)[k]? = some (if k + 1 < sts.length then sts.getD (k + 1) 0 else (n : Int)) := by
  unfold endsOf
  by_cases h : k + 1 < sts.length
  · rw [if_pos h, List.getElem?_append_left (by simp; omega), List.getElem?_drop]
    simp [Nat.add_comm 1 k, h]
  · rw [if_neg h, List.getElem?_append_right (by simp; omega)]
    have : k - (sts.drop 1).length = 0 := by simp; omega
    rw [this]
    rfl
theorem ends_len {sts : List Int} {n : Nat} : (endsOf sts n).length = sts.length - 1 + 1 := by simp [endsOf]
theorem ev_ends {sts : List Int} {n : Nat} {Γ : DEnv} {i j : Nat} {f : Ex} (hs : sts.length < 10000) (hi : gB i Γ = some (.lst (sts.map D.int))) (hj : f Γ = some (.int n)) : gOp dAdd (gL (gSl (gB i) (gSo (gI 1)) gNo)) (gL (aC f aN)) Γ = some (.lst ((endsOf sts n).map D.int)) := by
  refine ev_op (ev_L (ev_Sl hi (ev_So ev_I) ev_No d_cut)) (ev_L (ev_cs hj ev_nl)) ?_
  have e : cutD sts (some 1) none = sts.drop 1 := cutD_from sts 1
  rw [e]
  exact d_cat (xs := sts.drop 1) (ys := [(n : Int)]) (by simp; omega)
section
variable {p : Te} {F F' F'' : Sm} {Γ : DEnv} {b : Bool} {f : Ex} {d : D} {i : Nat} {P : D → Prop} {gs : Gs} {Γ1 : DEnv}
theorem ex_ifS (h : p Γ = some b) (h1 : b = true → ∃ r, P r ∧ sSeq F F'' Γ = some (.rt r)) (h2 : b = false → ∃ r, P r ∧ sSeq F' F'' Γ = some (.rt r)) : ∃ r, P r ∧ sSeq (sIf p F F') F'' Γ = some (.rt r) := by
  cases b with
  | true =>
    obtain ⟨r, h3, h4⟩ := h1 rfl
    exact ⟨r, h3, sv_ifS h (fun _ => h4) (fun z => by cases z)⟩
  | false =>
    obtain ⟨r, h3, h4⟩ := h2 rfl
    exact ⟨r, h3, sv_ifS h (fun z => by cases z) (fun _ => h4)⟩
theorem ex_set (h : f Γ = some d) (k : ∃ r, P r ∧ F' (Γ.set i (.sh d)) = some (.rt r)) : ∃ r, P r ∧ sSeq (sSet i f) F' Γ = some (.rt r) := by
  obtain ⟨r, h1, h2⟩ := k
  exact ⟨r, h1, sq_set h h2⟩
theorem ex_unp (h : f Γ = some d) (h2 : gs d Γ = some Γ1) (k : ∃ r, P r ∧ F' Γ1 = some (.rt r)) : ∃ r, P r ∧ sSeq (sUnp gs f) F' Γ = some (.rt r) := by
  obtain ⟨r, h3, h4⟩ := k
  exact ⟨r, h3, sq_unp h h2 h4⟩
theorem ex_ret (h : f Γ = some d) (hp : P d) : ∃ r, P r ∧ sRet f Γ = some (.rt r) := ⟨d, hp, sv_ret h⟩
theorem ex_retS (h : f Γ = some d) (hp : P d) : ∃ r, P r ∧ sSeq (sRet f) F' Γ = some (.rt r) := ⟨d, hp, sq_ret h⟩
theorem ex_seqA (h : ∃ r, P r ∧ sSeq F (sSeq F' F'') Γ = some (.rt r)) : ∃ r, P r ∧ sSeq (sSeq F F') F'' Γ = some (.rt r) := by
  obtain ⟨r, h1, h2⟩ := h
  exact ⟨r, h1, by rw [sv_seqA]; exact h2⟩
theorem ex_nilS (h : ∃ r, P r ∧ F Γ = some (.rt r)) : ∃ r, P r ∧ sSeq sNil F Γ = some (.rt r) := h
end
/-! a calculus of what a statement ends in -/
def W (F : Sm) (Γ : DEnv) (P : Res → Prop) : Prop := ∃ r, F Γ = some r ∧ P r
def thenP (F : Sm) (P : Res → Prop) : Res → Prop
  | .nx Γ => W F Γ P
  | r => P r
/-- what a loop's body may end in -/
def bodyP (Iv : DEnv → Prop) (P : Res → Prop) : Res → Prop
  | .nx Γ => Iv Γ
  | .ct Γ => Iv Γ
  | .bk Γ => P (.nx Γ)
  | .rt d => P (.rt d)
  | .rm d s => P (.rm d s)
  | .ro s => P (.ro s)
def isRt (P : D → Prop) : Res → Prop
  | .rt d => P d
  | _ => False
def isRo (P : Sl → Prop) : Res → Prop
  | .ro s => P s
  | _ => False
def isRm (P : D → Sl → Prop) : Res → Prop
  | .rm d s => P d s
  | .nx (s :: _) => P .non s
  | _ => False
section
variable {F F' F'' : Sm} {Γ Γ1 : DEnv} {P Q : Res → Prop} {f : Ex} {fs : Ag} {d : D} {ds : List D} {i : Nat} {p : Te} {b : Bool} {gs : Gs} {it : Ag}
theorem W_mono (h : W F Γ Q) (k : ∀ r, Q r → P r) : W F Γ P := by
  obtain ⟨r, h1, h2⟩ := h
  exact ⟨r, h1, k r h2⟩
theorem W_seq (h : W F Γ (thenP F' P)) : W (sSeq F F') Γ P := by
  obtain ⟨r, h1, h2⟩ := h
  cases r with
  | nx Γ1 =>
    obtain ⟨r2, h3, h4⟩ := h2
    exact ⟨r2, sv_nx h1 h3, h4⟩
  | _ => exact ⟨_, by unfold sSeq; rw [h1]; rfl, h2⟩
theorem W_set (h : f Γ = some d) (k : P (.nx (Γ.set i (.sh d)))) : W (sSet i f) Γ P := ⟨_, sv_set h, k⟩
theorem W_setO (h : fs Γ = some ds) (k : P (.nx (Γ.set i (.ow ds)))) : W (sSetO i fs) Γ P := ⟨_, sv_setO h, k⟩
theorem W_ret (h : f Γ = some d) (k : P (.rt d)) : W (sRet f) Γ P := ⟨_, sv_ret h, k⟩
theorem W_nil (k : P (.nx Γ)) : W sNil Γ P := ⟨_, rfl, k⟩
theorem W_brk (k : P (.bk Γ)) : W sBrk Γ P := ⟨_, rfl, k⟩
theorem W_cnt (k : P (.ct Γ)) : W sCnt Γ P := ⟨_, rfl, k⟩
theorem W_if (h : p Γ = some b) (h1 : b = true → W F Γ P) (h2 : b = false → W F' Γ P) : W (sIf p F F') Γ P := by
  cases b with
  | true =>
    obtain ⟨r, h3, h4⟩ := h1 rfl
    exact ⟨r, sv_ifT h h3, h4⟩
  | false =>
    obtain ⟨r, h3, h4⟩ := h2 rfl
    exact ⟨r, sv_ifF h h3, h4⟩
theorem W_unp (h : f Γ = some d) (h2 : gs d Γ = some Γ1) (k : P (.nx Γ1)) : W (sUnp gs f) Γ P := ⟨_, sv_unp h h2, k⟩
theorem W_app {xs : List D} (h : f Γ = some d) (h1 : Γ[i]? = some (.ow xs)) (h2 : xs.length < 1000000) (k : P (.nx (Γ.set i (.ow (xs ++ [d]))))) : W (sApp i [] f) Γ P := ⟨_, sv_app0 h h1 h2, k⟩
theorem W_aug {x y : D} {o : D → D → Option D} (h1 : Γ[i]? = some (.sh x)) (h2 : f Γ = some y) (h3 : o x y = some d) (k : P (.nx (Γ.set i (.sh d)))) : W (sAug o i f) Γ P := ⟨_, sv_aug h1 h2 h3, k⟩
theorem W_frz (h : W F (frzE i Γ) P) : W (sFrz i F) Γ P := h
theorem W_par {is : List Nat} (h : fs Γ = some ds) (k : P (.nx ((is.zip ds).foldl (fun Γ p => Γ.set p.1 (.sh p.2)) Γ))) : W (sPar is fs) Γ P := ⟨_, sv_par h, k⟩
theorem W_forL (Iv : Nat → DEnv → Prop) : ∀ (ds : List D) (hs : ∀ k d Γ, ds[k]? = some d → Iv k Γ → ∃ Γ1, gs d Γ = some Γ1 ∧ W F Γ1 (bodyP (Iv (k + 1)) P)) (hn : ∀ Γ', Iv ds.length Γ' → P (.nx Γ')) (Γ : DEnv), Iv 0 Γ → W (forL gs F ds) Γ P := by
  have key : ∀ (ds : List D) (m : Nat) (hs : ∀ k d Γ, ds[k]? = some d → Iv (m + k) Γ → ∃ Γ1, gs d Γ = some Γ1 ∧ W F Γ1 (bodyP (Iv (m + k + 1)) P)) (hn : ∀ Γ', Iv (m + ds.length) Γ' → P (.nx Γ')) (Γ : DEnv), Iv m Γ → W (forL gs F ds) Γ P := by
    intro ds
    induction ds with
    | nil => intro m hs hn Γ h0; exact ⟨_, rfl, hn Γ h0⟩
    | cons d ds ih =>
      intro m hs hn Γ h0
      obtain ⟨Γ1, g1, r, h1, h2⟩ := hs 0 d Γ rfl h0
      have rest : ∀ Γ2, Iv (m + 1) Γ2 → W (forL gs F ds) Γ2 P := fun Γ2 h => ih (m + 1) (fun k d Γ hd hi => by
        have e : m + 1 + k = m + (k + 1) := by omega
        rw [e] at hi ⊢
        exact hs (k + 1) d Γ (by simpa using hd) hi) (fun Γ' hi => hn Γ' (by
        have e : m + (d :: ds).length = m + 1 + ds.length := by simp; omega
        rw [e]; exact hi)) Γ2 h
      cases r with
      | nx Γ2 =>
        obtain ⟨r2, h3, h4⟩ := rest Γ2 h2
        exact ⟨r2, forL_nx g1 h1 h3, h4⟩
      | ct Γ2 =>
        obtain ⟨r2, h3, h4⟩ := rest Γ2 h2
        exact ⟨r2, forL_ct g1 h1 h3, h4⟩
      | bk Γ2 => exact ⟨_, forL_bk g1 h1, h2⟩
      | rt d => exact ⟨_, forL_rt g1 h1, h2⟩
      | rm d s => exact ⟨_, by unfold forL; rw [g1]; show (F Γ1).bind _ = _; rw [h1]; rfl, h2⟩
      | ro s => exact ⟨_, by unfold forL; rw [g1]; show (F Γ1).bind _ = _; rw [h1]; rfl, h2⟩
  intro ds hs hn Γ h0
  exact key ds 0 (fun k d Γ hd hi => by rw [Nat.zero_add] at hi ⊢; exact hs k d Γ hd hi) (fun Γ' hi => hn Γ' (by rw [Nat.zero_add] at hi; exact hi)) Γ h0
theorem W_for (Iv : Nat → DEnv → Prop) (hit : it Γ = some ds) (h0 : Iv 0 Γ) (hs : ∀ k d Γ, ds[k]? = some d → Iv k Γ → ∃ Γ1, gs d Γ = some Γ1 ∧ W F Γ1 (bodyP (Iv (k + 1)) P)) (hn : ∀ Γ', Iv ds.length Γ' → P (.nx Γ')) : W (sFor it gs F) Γ P := by
  obtain ⟨r, h1, h2⟩ := W_forL Iv ds hs hn Γ h0
  exact ⟨r, sv_for hit h1, h2⟩
/-- for i in range(..) -/
theorem W_rng (Iv : Nat → DEnv → Prop) {lo : Int} {n : Nat} (hit : it Γ = some (rngD lo n)) (h0 : Iv 0 Γ) (hs : ∀ k Γ, k < n → Iv k Γ → ∃ Γ1, gs (.int (lo + (k : Nat))) Γ = some Γ1 ∧ W F Γ1 (bodyP (Iv (k + 1)) P)) (hn : ∀ Γ', Iv n Γ' → P (.nx Γ')) : W (sFor it gs F) Γ P :=
  W_for Iv hit h0 (fun k d Γ hd hi => by
    obtain ⟨h1, rfl⟩ := rngD_get hd
    exact hs k Γ h1 hi) (fun Γ' h => hn Γ' (by rw [rngD_len] at h; exact h))
/-- for x in xs, the list of the data of some things -/
theorem W_map {α : Type} {enc : α → D} {xs : List α} (Iv : Nat → DEnv → Prop) (hit : it Γ = some (xs.map enc)) (h0 : Iv 0 Γ) (hs : ∀ k a Γ, xs[k]? = some a → Iv k Γ → ∃ Γ1, gs (enc a) Γ = some Γ1 ∧ W F Γ1 (bodyP (Iv (k + 1)) P)) (hn : ∀ Γ', Iv xs.length Γ' → P (.nx Γ')) : W (sFor it gs F) Γ P :=
  W_for Iv hit h0 (fun k d Γ hd hi => by
    rw [List.getElem?_map] at hd
    obtain ⟨a, ha, rfl⟩ := Option.map_eq_some_iff.mp hd
    exact hs k a Γ ha hi) (fun Γ' h => hn Γ' (by rw [List.length_map] at h; exact h))
theorem W_while (Iv : Nat → DEnv → Prop) (h0 : ∃ m, Iv m Γ) (hs : ∀ m Γ, Iv m Γ → ∃ b, p Γ = some b ∧ (b = false → P (.nx Γ)) ∧ (b = true → W F Γ (bodyP (fun Γ' => ∃ m', m' < m ∧ Iv m' Γ') P))) : W (sWhile p F) Γ P := by
  obtain ⟨m, h0⟩ := h0
  have key : ∀ (n m : Nat) (Γ : DEnv), m < n → Iv m Γ → W (whileN n p F) Γ P := by
    intro n
    induction n with
    | zero => intro m Γ h; omega
    | succ n ih =>
      intro m Γ hm h
      obtain ⟨b, h1, h2, h3⟩ := hs m Γ h
      cases b with
      | false =>
        refine ⟨.nx Γ, ?_, h2 rfl⟩
        unfold whileN
        rw [h1]
        rfl
      | true =>
        obtain ⟨r, h4, h5⟩ := h3 rfl
        cases r with
        | nx Γ2 =>
          obtain ⟨m', k1, k2⟩ := h5
          obtain ⟨r2, h6, h7⟩ := ih m' Γ2 (by omega) k2
          exact ⟨r2, by rw [whileN, h1]; show (F Γ).bind _ = _; rw [h4]; exact h6, h7⟩
        | ct Γ2 =>
          obtain ⟨m', k1, k2⟩ := h5
          obtain ⟨r2, h6, h7⟩ := ih m' Γ2 (by omega) k2
          exact ⟨r2, by rw [whileN, h1]; show (F Γ).bind _ = _; rw [h4]; exact h6, h7⟩
        | bk Γ2 => exact ⟨_, by rw [whileN, h1]; show (F Γ).bind _ = _; rw [h4]; rfl, h5⟩
        | rt d => exact ⟨_, by rw [whileN, h1]; show (F Γ).bind _ = _; rw [h4]; rfl, h5⟩
        | rm d s => exact ⟨_, by rw [whileN, h1]; show (F Γ).bind _ = _; rw [h4]; rfl, h5⟩
        | ro s => exact ⟨_, by rw [whileN, h1]; show (F Γ).bind _ = _; rw [h4]; rfl, h5⟩
  obtain ⟨r, h1, h2⟩ := key (m + 1) m Γ (by omega) h0
  exact ⟨r, sWhile_of h1, h2⟩
theorem run_W {N : Nat} {B : Sm} {P : D → Prop} (h : W B (ds.map Sl.sh ++ List.replicate (N - ds.length) .no) (isRt P)) : ∃ d, runB N B ds = some d ∧ P d := by
  obtain ⟨r, h1, h2⟩ := h
  cases r with
  | rt d => exact ⟨d, sv_run h1, h2⟩
  | _ => exact h2.elim
theorem run_Weq {N : Nat} {B : Sm} (h : W B (ds.map Sl.sh ++ List.replicate (N - ds.length) .no) (isRt (· = d))) : runB N B ds = some d := by
  obtain ⟨d', h1, rfl⟩ := run_W h
  exact h1
theorem run_WO {N : Nat} {B : Sm} {P : Sl → Prop} (h : W B (ds.map Sl.sh ++ List.replicate (N - ds.length) .no) (isRo P)) : ∃ s, DL.runN N B ds = some s ∧ P s := by
  obtain ⟨r, h1, h2⟩ := h
  cases r with
  | ro s => exact ⟨s, sv_runO h1, h2⟩
  | _ => exact h2.elim
/-- a loop that tests: at the first thing that fails it returns the value r -/
theorem W_chk {α : Type} {enc : α → D} {xs : List α} (t : Nat → Bool) (Iv : DEnv → Prop) (hit : it Γ = some (xs.map enc)) (h0 : Iv Γ) (hs : ∀ k a Γ, xs[k]? = some a → Iv Γ → ∃ Γ1, gs (enc a) Γ = some Γ1 ∧ W F Γ1 (bodyP (fun Γ' => t k = true ∧ Iv Γ') fun r => t k = false ∧ P r)) (hn : (List.range xs.length).all t = true → ∀ Γ', Iv Γ' → P (.nx Γ')) : W (sFor it gs F) Γ P := by
  refine W_map (fun k Γ => (∀ j, j < k → t j = true) ∧ Iv Γ) hit ⟨fun j h => by omega, h0⟩ (fun k a Γ ha hi => ?_) fun Γ' h => hn (by simpa [List.all_eq_true] using h.1) Γ' h.2
  obtain ⟨Γ1, h1, h2⟩ := hs k a Γ ha hi.2
  refine ⟨Γ1, h1, W_mono h2 fun r hr => ?_⟩
  have fin : ∀ Γ', (t k = true ∧ Iv Γ') → ((∀ j, j < k + 1 → t j = true) ∧ Iv Γ') := fun Γ' h => ⟨fun j hj => by
    by_cases e : j = k
    · rw [e]; exact h.1
    · exact hi.1 j (by omega), h.2⟩
  cases r with
  | nx Γ' => exact fin Γ' hr
  | ct Γ' => exact fin Γ' hr
  | bk Γ' => exact hr.2
  | rt d => exact hr.2
  | rm d s => exact hr.2
  | ro s => exact hr.2
theorem wq_set (h : f Γ = some d) (k : W F' (Γ.set i (.sh d)) P) : W (sSeq (sSet i f) F') Γ P := W_seq (W_set h k)
theorem wq_setO (h : fs Γ = some ds) (k : W F' (Γ.set i (.ow ds)) P) : W (sSeq (sSetO i fs) F') Γ P := W_seq (W_setO h k)
theorem wq_unp (h : f Γ = some d) (h2 : gs d Γ = some Γ1) (k : W F' Γ1 P) : W (sSeq (sUnp gs f) F') Γ P := W_seq (W_unp h h2 k)
theorem wq_app {xs : List D} (h : f Γ = some d) (h1 : Γ[i]? = some (.ow xs)) (h2 : xs.length < 1000000) (k : W F' (Γ.set i (.ow (xs ++ [d]))) P) : W (sSeq (sApp i [] f) F') Γ P := W_seq (W_app h h1 h2 k)
theorem wq_par {is : List Nat} (h : fs Γ = some ds) (k : W F' ((is.zip ds).foldl (fun Γ p => Γ.set p.1 (.sh p.2)) Γ) P) : W (sSeq (sPar is fs) F') Γ P := W_seq (W_par h k)
theorem wq_if (h : p Γ = some b) (h1 : b = true → W F Γ (thenP F'' P)) (h2 : b = false → W F' Γ (thenP F'' P)) : W (sSeq (sIf p F F') F'') Γ P := W_seq (W_if h h1 h2)
/-- if p: return f -/
theorem wq_ifR (h : p Γ = some b) (h1 : b = true → ∃ d, f Γ = some d ∧ P (.rt d)) (h2 : b = false → W F'' Γ P) : W (sSeq (sIf p (sRet f) sNil) F'') Γ P :=
  W_seq (W_if h (fun e => by
    obtain ⟨d, h3, h4⟩ := h1 e
    exact W_ret h3 h4) fun e => W_nil (h2 e))
theorem wq_ret (h : f Γ = some d) (k : P (.rt d)) : W (sSeq (sRet f) F') Γ P := W_seq (W_ret h k)
theorem wq_ifN (h : p Γ = some b) (hb : b = false) (k : W F'' Γ P) : W (sSeq (sIf p F sNil) F'') Γ P := W_seq (W_if h (fun e => by rw [hb] at e; cases e) fun _ => W_nil k)
theorem wq_for (Iv : Nat → DEnv → Prop) (hit : it Γ = some ds) (h0 : Iv 0 Γ) (hs : ∀ k d Γ, ds[k]? = some d → Iv k Γ → ∃ Γ1, gs d Γ = some Γ1 ∧ W F Γ1 (bodyP (Iv (k + 1)) (thenP F' P))) (hn : ∀ Γ', Iv ds.length Γ' → W F' Γ' P) : W (sSeq (sFor it gs F) F') Γ P := W_seq (W_for Iv hit h0 hs hn)
theorem wq_rng (Iv : Nat → DEnv → Prop) {lo : Int} {n : Nat} (hit : it Γ = some (rngD lo n)) (h0 : Iv 0 Γ) (hs : ∀ k Γ, k < n → Iv k Γ → ∃ Γ1, gs (.int (lo + (k : Nat))) Γ = some Γ1 ∧ W F Γ1 (bodyP (Iv (k + 1)) (thenP F' P))) (hn : ∀ Γ', Iv n Γ' → W F' Γ' P) : W (sSeq (sFor it gs F) F') Γ P := W_seq (W_rng Iv hit h0 hs hn)
theorem wq_map {α : Type} {enc : α → D} {xs : List α} (Iv : Nat → DEnv → Prop) (hit : it Γ = some (xs.map enc)) (h0 : Iv 0 Γ) (hs : ∀ k a Γ, xs[k]? = some a → Iv k Γ → ∃ Γ1, gs (enc a) Γ = some Γ1 ∧ W F Γ1 (bodyP (Iv (k + 1)) (thenP F' P))) (hn : ∀ Γ', Iv xs.length Γ' → W F' Γ' P) : W (sSeq (sFor it gs F) F') Γ P := W_seq (W_map Iv hit h0 hs hn)
/-- a loop of tests over things that a list of data tells -/
theorem wq_chk (t : Nat → Bool) (Iv : DEnv → Prop) (hit : it Γ = some ds) (h0 : Iv Γ) (hs : ∀ k d Γ, ds[k]? = some d → Iv Γ → ∃ Γ1, gs d Γ = some Γ1 ∧ (t k = true → W F Γ1 (bodyP Iv fun _ => False)) ∧ (t k = false → W F Γ1 (bodyP (fun _ => False) (thenP F' P)))) (hn : (List.range ds.length).all t = true → ∀ Γ', Iv Γ' → W F' Γ' P) : W (sSeq (sFor it gs F) F') Γ P := by
  refine wq_for (fun k Γ => (∀ j, j < k → t j = true) ∧ Iv Γ) hit ⟨fun j h => by omega, h0⟩ (fun k a Γ ha hi => ?_) fun Γ' h => hn (by simpa [List.all_eq_true] using h.1) Γ' h.2
  obtain ⟨Γ1, h1, h2, h3⟩ := hs k a Γ ha hi.2
  refine ⟨Γ1, h1, ?_⟩
  cases e : t k with
  | false =>
    refine W_mono (h3 e) fun r hr => ?_
    cases r with
    | nx Γ' => exact hr.elim
    | ct Γ' => exact hr.elim
    | bk Γ' => exact hr
    | rt d => exact hr
    | rm d s => exact hr
    | ro s => exact hr
  | true =>
    refine W_mono (h2 e) fun r hr => ?_
    have fin : ∀ Γ', Iv Γ' → ((∀ j, j < k + 1 → t j = true) ∧ Iv Γ') := fun Γ' h => ⟨fun j hj => by
      by_cases e2 : j = k
      · rw [e2]; exact e
      · exact hi.1 j (by omega), h⟩
    cases r with
    | nx Γ' => exact fin Γ' hr
    | ct Γ' => exact fin Γ' hr
    | bk Γ' => exact hr.elim
    | rt d => exact hr.elim
    | rm d s => exact hr.elim
    | ro s => exact hr.elim
theorem W_ifR (h : p Γ = some b) (h1 : b = true → ∃ d, f Γ = some d ∧ P (.rt d)) (h2 : b = false → P (.nx Γ)) : W (sIf p (sRet f) sNil) Γ P :=
  W_if h (fun e => by
    obtain ⟨d, h3, h4⟩ := h1 e
    exact W_ret h3 h4) fun e => W_nil (h2 e)
end
theorem ev_Bb {Γ : DEnv} {i : Nat} {d : D} (h : Γ[i]? = some (.bo d)) : gB i Γ = some d := by unfold gB; rw [h]
theorem run_WKeq {ms : List Bool} {N : Nat} {B : Sm} {ds : List D} {d : D} (h : W B (slM ms ds ++ List.replicate (N - ms.length) .no) (isRt (· = d))) : runK ms N B ds = some d := by
  obtain ⟨r, h1, h2⟩ := h
  cases r with
  | rt d' =>
    have e : d' = d := h2
    subst e
    unfold runK
    rw [h1]
    rfl
  | _ => exact h2.elim
theorem run_WK {ms : List Bool} {N : Nat} {B : Sm} {ds : List D} {P : D → Prop} (h : W B (slM ms ds ++ List.replicate (N - ms.length) .no) (isRt P)) : ∃ d, runK ms N B ds = some d ∧ P d := by
  obtain ⟨r, h1, h2⟩ := h
  cases r with
  | rt d' => exact ⟨d', by unfold runK; rw [h1]; rfl, h2⟩
  | _ => exact h2.elim
theorem W_pop {Γ : DEnv} {i : Nat} {xs : List D} {P : Res → Prop} (h1 : Γ[i]? = some (.ow xs)) (hne : xs ≠ []) (k : P (.nx (Γ.set i (.ow xs.dropLast)))) : W (sPop i []) Γ P := by
  refine ⟨.nx (Γ.set i (.ow xs.dropLast)), ?_, k⟩
  have e1 : gP i [] Γ = some (.ow xs) := by unfold gP; rw [h1]; rfl
  have e3 : upP i [] (.ow xs.dropLast) Γ = some (.nx (Γ.set i (.ow xs.dropLast))) := by unfold upP; rw [h1]; rfl
  unfold sPop
  rw [e1]
  show (if xs = [] then none else upP i [] (.ow xs.dropLast) Γ) = _
  rw [if_neg hne, e3]
theorem wq_while {F F' : Sm} {p : Te} {Γ : DEnv} {P : Res → Prop} (Iv : Nat → DEnv → Prop) (h0 : ∃ m, Iv m Γ) (hs : ∀ m Γ, Iv m Γ → ∃ b, p Γ = some b ∧ (b = false → W F' Γ P) ∧ (b = true → W F Γ (bodyP (fun Γ' => ∃ m', m' < m ∧ Iv m' Γ') (thenP F' P)))) : W (sSeq (sWhile p F) F') Γ P := W_seq (W_while Iv h0 hs)
/-- a loop of tests whose invariant tells the turn -/
theorem wq_chkI {F F' : Sm} {Γ : DEnv} {P : Res → Prop} {it : Ag} {gs : Gs} {ds : List D} (t : Nat → Bool) (Iv : Nat → DEnv → Prop) (hit : it Γ = some ds) (h0 : Iv 0 Γ) (hs : ∀ k d Γ, ds[k]? = some d → Iv k Γ → ∃ Γ1, gs d Γ = some Γ1 ∧ (t k = true → W F Γ1 (bodyP (Iv (k + 1)) fun _ => False)) ∧ (t k = false → W F Γ1 (bodyP (fun _ => False) (thenP F' P)))) (hn : (List.range ds.length).all t = true → ∀ Γ', Iv ds.length Γ' → W F' Γ' P) : W (sSeq (sFor it gs F) F') Γ P := by
  refine wq_for (fun k Γ => (∀ j, j < k → t j = true) ∧ Iv k Γ) hit ⟨fun j h => by omega, h0⟩ (fun k a Γ ha hi => ?_) fun Γ' h => hn (by simpa [List.all_eq_true] using h.1) Γ' h.2
  obtain ⟨Γ1, h1, h2, h3⟩ := hs k a Γ ha hi.2
  refine ⟨Γ1, h1, ?_⟩
  cases e : t k with
  | false =>
    refine W_mono (h3 e) fun r hr => ?_
    cases r with
    | nx Γ' => exact hr.elim
    | ct Γ' => exact hr.elim
    | bk Γ' => exact hr
    | rt d => exact hr
    | rm d s => exact hr
    | ro s => exact hr
  | true =>
    refine W_mono (h2 e) fun r hr => ?_
    have fin : ∀ Γ', Iv (k + 1) Γ' → ((∀ j, j < k + 1 → t j = true) ∧ Iv (k + 1) Γ') := fun Γ' h => ⟨fun j hj => by
      by_cases e2 : j = k
      · rw [e2]; exact e
      · exact hi.1 j (by omega), h⟩
    cases r with
    | nx Γ' => exact fin Γ' hr
    | ct Γ' => exact fin Γ' hr
    | bk Γ' => exact hr.elim
    | rt d => exact hr.elim
    | rm d s => exact hr.elim
    | ro s => exact hr.elim
/-- a loop of tests: r is returned at the first that fails; such loops stand in one another -/
theorem W_tst {F : Sm} {Γ : DEnv} {P : Res → Prop} {it : Ag} {gs : Gs} {ds : List D} {r : D} (t : Nat → Bool) (Iv : DEnv → Prop) (hit : it Γ = some ds) (h0 : Iv Γ) (hs : ∀ k d Γ, ds[k]? = some d → Iv Γ → ∃ Γ1, gs d Γ = some Γ1 ∧ ∀ P' : Res → Prop, (t k = true → ∀ Γ2, Iv Γ2 → P' (.nx Γ2)) → (t k = false → P' (.rt r)) → W F Γ1 P') (h1 : (List.range ds.length).all t = true → ∀ Γ', Iv Γ' → P (.nx Γ')) (h2 : (List.range ds.length).all t = false → P (.rt r)) : W (sFor it gs F) Γ P := by
  refine W_for (fun k Γ => (∀ j, j < k → t j = true) ∧ Iv Γ) hit ⟨fun j h => by omega, h0⟩ (fun k d Γ hd hi => ?_) fun Γ' h => h1 (by simpa [List.all_eq_true] using h.1) Γ' h.2
  obtain ⟨Γ1, g1, hw⟩ := hs k d Γ hd hi.2
  refine ⟨Γ1, g1, hw _ (fun e Γ2 hi2 => ⟨fun j hj => ?_, hi2⟩) fun e => h2 ?_⟩
  · by_cases e2 : j = k
    · rw [e2]; exact e
    · exact hi.1 j (by omega)
  · rw [Bool.eq_false_iff]
    intro w
    have := List.all_eq_true.mp w k (List.mem_range.mpr (List.getElem?_eq_some_iff.mp hd).1)
    rw [e] at this
    cases this
theorem whileN_nx {n : Nat} {c : Te} {body : Sm} {Γ Γ2 : DEnv} {r : Res} (h : c Γ = some true) (hb : body Γ = some (.nx Γ2)) (k : whileN n c body Γ2 = some r) : whileN (n + 1) c body Γ = some r := by
  unfold whileN
  rw [h]
  show ((body Γ).bind _) = _
  rw [hb]
  exact k
theorem whileN_bk {n : Nat} {c : Te} {body : Sm} {Γ Γ2 : DEnv} (h : c Γ = some true) (hb : body Γ = some (.bk Γ2)) : whileN (n + 1) c body Γ = some (.nx Γ2) := by
  unfold whileN
  rw [h]
  show ((body Γ).bind _) = _
  rw [hb]
  rfl
theorem whileN_no {n : Nat} {c : Te} {body : Sm} {Γ : DEnv} (h : c Γ = some false) : whileN (n + 1) c body Γ = some (.nx Γ) := by
  unfold whileN
  rw [h]
  rfl
/-- the starts stand -/
def adjB (sts : List Int) : Bool := (List.range (sts.length - 1)).all fun k => decide (sts.getD k 0 < sts.getD (k + 1) 0)
def startsB (sts : List Int) (n : Nat) : Bool := if sts = [] ∨ n = 0 then (sts.isEmpty && n == 0) else adjB sts && (sts.getD 0 0 == 0 && decide (sts.getD (sts.length - 1) 0 < n))
theorem atI_last {α : Type} {xs : List α} {z : α} (h : xs ≠ []) : atI xs (-1) = some (xs.getD (xs.length - 1) z) := by
  have hp : 0 < xs.length := List.length_pos_iff.mpr h
  unfold atI ixN
  rw [if_neg (by omega), if_pos (by omega)]
  show xs[(-1 + (xs.length : Int)).toNat]? = _
  have e : (-1 + (xs.length : Int)).toNat = xs.length - 1 := by omega
  rw [e, List.getD_eq_getElem?_getD, List.getElem?_eq_getElem (by omega)]
  rfl
theorem zipD_two {sts : List Int} {k : Nat} {d : D} (h : (zipD (sts.map D.int) ((sts.drop 1).map D.int))[k]? = some d) : d = .tup [.int (sts.getD k 0), .int (sts.getD (k + 1) 0)] := by
  obtain ⟨x, y, h1, h2, rfl⟩ := zipD_get h
  rw [List.getElem?_map] at h1 h2
  obtain ⟨a, ha, rfl⟩ := Option.map_eq_some_iff.mp h1
  obtain ⟨b, hb, rfl⟩ := Option.map_eq_some_iff.mp h2
  rw [List.getElem?_drop, Nat.add_comm] at hb
  rw [List.getD_eq_getElem?_getD, List.getD_eq_getElem?_getD, ha, hb]
  rfl
theorem starts_eq (sts : List Int) (n : Nat) (hl : sts.length < 10000) : S_starts_stand [.lst (sts.map D.int), .int n] = some (.bl (startsB sts n)) := by
  have ht : gOr (gNot (gTru (gB 0))) (gT (gOp dEq (gB 1) (gI 0))) [.sh (.lst (sts.map D.int)), .sh (.int n), .no, .no] = some (!!(sts.map D.int).isEmpty || ((n : Int) == 0)) :=
    ev_or (ev_not (ev_Tru (ev_B rfl) rfl)) (ev_T (ev_op (ev_B rfl) ev_I (d_eq eqOk_int eqOk_int eqd_int)))
  have ha : gAnd (gNot (gTru (gB 0))) (gT (gOp dEq (gB 1) (gI 0))) [.sh (.lst (sts.map D.int)), .sh (.int n), .no, .no] = some (!!(sts.map D.int).isEmpty && ((n : Int) == 0)) :=
    ev_and (ev_not (ev_Tru (ev_B rfl) rfl)) (ev_T (ev_op (ev_B rfl) ev_I (d_eq eqOk_int eqOk_int eqd_int)))
  refine sv_run ?_
  unfold startsB
  by_cases h0 : sts = [] ∨ n = 0
  · rw [if_pos h0]
    have e1 : (!!(sts.map D.int).isEmpty || ((n : Int) == 0)) = true := by
      rcases h0 with rfl | rfl
      · rfl
      · simp
    have e2 : (!!(sts.map D.int).isEmpty && ((n : Int) == 0)) = (sts.isEmpty && n == 0) := by
      rw [Bool.not_not]
      cases sts with
      | nil =>
        show (true && ((n : Int) == 0)) = (true && (n == 0))
        rw [Bool.eq_iff_iff]
        simp
      | cons => rfl
    refine sv_rt (sv_ifT (ht.trans (congrArg some e1)) (sv_ret (ev_bl (ha.trans (congrArg some e2)))))
  · rw [if_neg h0]
    simp only [not_or] at h0
    have e1 : (!!(sts.map D.int).isEmpty || ((n : Int) == 0)) = false := by
      rw [Bool.not_not]
      cases sts with
      | nil => exact absurd rfl h0.1
      | cons x xs => 
        show (false || ((n : Int) == 0)) = false
        have := h0.2
        simp
        omega
    refine sq_ifN ht e1 ?_
    have hs := forL_chk (gs := gTg 2 (gTo (gN 2) (gTo (gN 3) gEnd))) (F := sIf (gT (gOp dGe (gV 2) (gV 3))) (sRet (gC (.bl false))) sNil) (.bl false) (fun Γ => ∃ s2 s3, Γ = [.sh (.lst (sts.map D.int)), .sh (.int n), s2, s3]) (zipD (sts.map D.int) ((sts.drop 1).map D.int)) (fun k => decide (sts.getD k 0 < sts.getD (k + 1) 0)) ?_ [.sh (.lst (sts.map D.int)), .sh (.int n), .no, .no] ⟨_, _, rfl⟩
    · obtain ⟨c1, c2⟩ := hs
      have el : (zipD (sts.map D.int) ((sts.drop 1).map D.int)).length = sts.length - 1 := by
        rw [zipD_len, List.length_map, List.length_map, List.length_drop]
        omega
      rw [el] at c1 c2
      have hit : gZip (aC (gV 0) (aC (gL (gSl (gB 0) (gSo (gI 1)) gNo)) aN)) [.sh (.lst (sts.map D.int)), .sh (.int n), .no, .no] = some (zipD (sts.map D.int) ((sts.drop 1).map D.int)) := by
        unfold gZip
        have := ev_cs (f := gV 0) (fs := aC (gL (gSl (gB 0) (gSo (gI 1)) gNo)) aN) (Γ := [.sh (.lst (sts.map D.int)), .sh (.int n), .no, .no]) (ev_V rfl) (ev_cs (ev_L (ev_Sl (ev_B rfl) (ev_So ev_I) ev_No (d_cut (f := D.int) (xs := sts)))) ev_nl)
        rw [this]
        have e : cutD sts (some 1) none = sts.drop 1 := cutD_from sts 1
        rw [e]
        rfl
      unfold adjB
      cases hc : (List.range (sts.length - 1)).all fun k => decide (sts.getD k 0 < sts.getD (k + 1) 0) with
      | false => exact sv_rt (sv_for hit (c2 hc))
      | true =>
        obtain ⟨Γ', f1, s2, s3, rfl⟩ := c1 hc
        refine sv_nx (sv_for hit f1) (sv_ret (ev_bl ?_))
        rw [Bool.true_and]
        have i0 : dIx (.lst (sts.map D.int)) (.int 0) = some (.int (sts.getD 0 0)) := by
          cases sts with
          | nil => exact absurd rfl h0.1
          | cons x xs => exact d_ixC (f := D.int) (xs := x :: xs) (k := 0) rfl rfl
        have i1 : dIx (.lst (sts.map D.int)) (.int (-1)) = some (.int (sts.getD (sts.length - 1) 0)) := by
          show atI (sts.map D.int) (-1) = _
          rw [atI_map, atI_last (z := 0) h0.1]
          rfl
        exact ev_and (ev_T (ev_op (ev_op (ev_B rfl) ev_I i0) ev_I (d_eq eqOk_int eqOk_int eqd_int))) (ev_T (ev_op (ev_op (ev_B rfl) (ev_U ev_I rfl) i1) (ev_V rfl) rfl))
    · rintro k d Γ hd ⟨s2, s3, rfl⟩
      obtain rfl := zipD_two hd
      refine ⟨[.sh (.lst (sts.map D.int)), .sh (.int n), .sh (.int (sts.getD k 0)), .sh (.int (sts.getD (k + 1) 0))], rfl, ?_⟩
      have ht : gT (gOp dGe (gV 2) (gV 3)) [.sh (.lst (sts.map D.int)), .sh (.int n), .sh (.int (sts.getD k 0)), .sh (.int (sts.getD (k + 1) 0))] = some (decide (sts.getD k 0 ≥ sts.getD (k + 1) 0)) := ev_T (ev_op (ev_V rfl) (ev_V rfl) rfl)
      generalize sts.getD k 0 = u at *
      generalize sts.getD (k + 1) 0 = v at *
      refine ⟨fun h => ⟨_, sv_ifF (ht.trans (congrArg some ?_)) rfl, _, _, rfl⟩, fun h => sv_ifT (ht.trans (congrArg some ?_)) (sv_ret ev_C)⟩
      · simp only [decide_eq_true_eq] at h
        simp only [decide_eq_false_iff_not]
        omega
      · simp only [decide_eq_false_iff_not] at h
        simp only [decide_eq_true_eq]
        omega

/-! the least number of pieces, for any kind of piece: R s t, the things from s up to t may stand in one piece -/
structure LeastG (R : Nat → Nat → Prop) (n : Nat) (c : Nat → Int) : Prop where
  zero : c 0 = 0
  up : ∀ t s, t ≤ n → s < t → R s t → c t ≤ c s + 1
  lo : ∀ t, 0 < t → t ≤ n → ∃ s, s < t ∧ R s t ∧ c t = c s + 1
theorem LeastG.nonneg {R : Nat → Nat → Prop} {n : Nat} {c : Nat → Int} (h : LeastG R n c) : ∀ m t, t ≤ m → t ≤ n → 0 ≤ c t := by
  intro m
  induction m with
  | zero => intro t h1 _; have : t = 0 := by omega
            rw [this, h.zero]; exact Int.le_refl _
  | succ m ih =>
    intro t h1 h2
    by_cases h0 : t = 0
    · rw [h0, h.zero]; exact Int.le_refl _
    · obtain ⟨s, h3, _, h5⟩ := h.lo t (by omega) h2
      have := ih s (by omega) (by omega)
      omega
/-- a cutting whose pieces are allowed and whose reasons hold has the least number of pieces -/
theorem LeastG.eq {R : Nat → Nat → Prop} (mono : ∀ s t s' t', R s t → s ≤ s' → t' ≤ t → R s' t') {n L : Nat} {c : Nat → Int} (h : LeastG R n c) (st : Nat → Nat) (h0 : st 0 = 0) (hn : st L = n) (asc : ∀ k, k < L → st k < st (k + 1)) (fit : ∀ k, k < L → R (st k) (st (k + 1))) (why : ∀ k, k + 1 < L → ¬ R (st k) (st (k + 1) + 1)) : c n = L := by
  have le : ∀ d k, k + d ≤ L → st k ≤ st (k + d) := by
    intro d
    induction d with
    | zero => intro k _; exact Nat.le_refl _
    | succ d ih => intro k hk; have := ih k (by omega); have := asc (k + d) (by omega); rw [← Nat.add_assoc]; omega
  have ub : ∀ k, k ≤ L → c (st k) ≤ k := by
    intro k
    induction k with
    | zero => intro _; rw [h0, h.zero]; exact Int.le_refl _
    | succ k ih =>
      intro hk
      have h1 := ih (by omega)
      have e1 := le (L - (k + 1)) (k + 1) (by omega)
      have e2 : k + 1 + (L - (k + 1)) = L := by omega
      rw [e2, hn] at e1
      have := h.up (st (k + 1)) (st k) e1 (asc k (by omega)) (fit k (by omega))
      omega
  have lb : ∀ m t, t ≤ m → t ≤ n → ∀ k, k < L → st k < t → (k : Int) + 1 ≤ c t := by
    intro m
    induction m with
    | zero => intro t h1 _ k _ h2; omega
    | succ m ih =>
      intro t h1 h2 k hk h3
      obtain ⟨s, h4, h5, h6⟩ := h.lo t (by omega) h2
      cases k with
      | zero =>
        have := h.nonneg s s (Nat.le_refl _) (by omega)
        omega
      | succ k =>
        have : st k < s := by
          refine Nat.lt_of_not_le fun z => why k hk (mono _ _ _ _ h5 z (by omega))
        have := ih s (by omega) (by omega) k (by omega) this
        omega
  have u := ub L (Nat.le_refl _)
  rw [hn] at u
  cases L with
  | zero => have : n = 0 := by omega
            rw [this, h.zero]; rfl
  | succ L =>
    have := lb n n (Nat.le_refl _) (Nat.le_refl _) L (by omega) (by have := asc L (by omega); omega)
    omega
theorem all_rangeG {α : Type} (xs : List α) (z : α) (t : α → Bool) : (List.range xs.length).all (fun k => t (xs.getD k z)) = xs.all t := by
  induction xs with
  | nil => rfl
  | cons x xs ih =>
    rw [List.length_cons, all_range_succ, List.all_cons, ← ih]
    rfl
theorem all_false {n : Nat} {t : Nat → Bool} {k : Nat} (hk : k < n) (h : t k = false) : (List.range n).all t = false := by
  rw [Bool.eq_false_iff]
  intro w
  have := List.all_eq_true.mp w k (List.mem_range.mpr hk)
  rw [h] at this
  cases this
/-! frames of cuttings: starts and the number of reasons -/
section
variable {β γ : Type} {eb : β → D} {er : γ → D}
def encG (eb : β → D) (a : Int × β) : D := .tup [.int a.1, eb a.2]
def stG (pcs : List (Int × β)) : List Int := pcs.map (·.1)
theorem stG_len (pcs : List (Int × β)) : (stG pcs).length = pcs.length := by simp [stG]
theorem stG_enc (pcs : List (Int × β)) : pcs.map (fun c => D.int c.1) = (stG pcs).map D.int := by simp [stG]
theorem dmax0 (n : Nat) : dMax2 [.int 0, .int ((n : Int) - 1)] = some (.int (max 0 ((n : Int) - 1))) := by
  show some (D.int (if (n : Int) - 1 > 0 then (n : Int) - 1 else 0)) = _
  congr 2
  split <;> omega
theorem frame_eq (pcs : List (Int × β)) (rs : List γ) (n : Nat) (hl : pcs.length < 10000) : S_frame_stands [.lst (pcs.map (encG eb)), .lst (rs.map er), .int n] = some (.bl (startsB (stG pcs) n && ((rs.length : Int) == max 0 ((pcs.length : Int) - 1)))) := by
  refine run_Weq ?_
  unfold B_frame_stands
  walk_at "ev norm"
  have hst := starts_eq (stG pcs) n (by rw [stG_len]; exact hl)
  refine W_seq (W_if (ev_not (ev_Tru (ev_call (ev_cs (ev_L (ev_lc (ev_it (ev_V rfl)) (by simp; omega) (compL_map pcs (encG eb) (fun c => .int c.1) fun c _ => ⟨_, rfl, ev_op (ev_B rfl) ev_I rfl⟩))) (ev_cs (ev_V rfl) ev_nl)) (by rw [stG_enc]; exact hst)) rfl)) (fun h => W_ret ev_C ?_) (fun h => W_nil (W_ret (ev_op (ev_U (ev_B rfl) (by rw [d_lenL, List.length_map])) (ev_A (ev_cs ev_I (ev_cs (ev_op (ev_U (ev_B rfl) (by rw [d_lenL, List.length_map])) ev_I d_sub) ev_nl)) (dmax0 _)) (d_eq eqOk_int eqOk_int eqd_int)) ?_)))
  · have h : startsB (stG pcs) n = false := by simpa using h
    show D.bl false = D.bl _
    rw [h]
    rfl
  · have h : startsB (stG pcs) n = true := by simpa using h
    show D.bl _ = D.bl _
    rw [h]
    rfl
theorem endsof_eq (pcs : List (Int × β)) (n : Nat) (hl : pcs.length < 10000) : S_ends_of [.lst (pcs.map (encG eb)), .int n] = some (.lst ((endsOf (stG pcs) n).map D.int)) := by
  refine run_Weq ?_
  unfold B_ends_of
  walk_at "ev norm"
  have e : cutD pcs (some 1) none = pcs.drop 1 := cutD_from pcs 1
  refine W_ret (ev_op (ev_L (ev_lc (ev_it (ev_L (ev_Sl (ev_B rfl) (ev_So ev_I) ev_No d_cut))) (by rw [e]; simp; omega) (compL_map (cutD pcs (some 1) none) (encG eb) (fun c => .int c.1) fun c _ => ⟨_, rfl, ev_op (ev_B rfl) ev_I rfl⟩))) (ev_L (ev_cs (ev_V rfl) ev_nl)) ?_) rfl
  rw [e]
  have e2 : (pcs.drop 1).map (fun c => D.int c.1) = ((stG pcs).drop 1).map D.int := by rw [List.map_drop, List.map_drop, stG_enc]
  rw [e2]
  exact d_cat (xs := (stG pcs).drop 1) (ys := [(n : Int)]) (by simp [stG_len]; omega)
end
/-! the judge, and the judge of the law, for any test C of a piece and any test Q of a reason -/
section
variable (sts : List Int) (n rl : Nat) (C Q : Nat → Bool)
def stA (k : Nat) : Int := sts.getD k 0
def enA (k : Nat) : Int := (endsOf sts n).getD k 0
def okS' (k : Nat) : Bool := decide (0 ≤ stA sts k) && (decide (stA sts k < enA sts n k) && decide (enA sts n k ≤ n))
def judgeG : Bool := (startsB sts n && ((rl : Int) == max 0 ((sts.length : Int) - 1))) && ((List.range sts.length).all C && (List.range rl).all Q)
def judgedG : Bool := if n = 0 ∨ sts.length = 0 then decide (n = 0) && (decide (sts.length = 0) && decide (rl = 0)) else (stA sts 0 == 0 && ((rl : Int) == (sts.length : Int) - 1)) && ((List.range sts.length).all (fun k => okS' sts n k && C k) && (List.range rl).all Q)
theorem enA_get {k : Nat} (hk : k < sts.length) : (endsOf sts n)[k]? = some (enA sts n k) := by
  unfold enA
  rw [List.getD_eq_getElem?_getD, ends_get hk]
  rfl
theorem enA_eq {k : Nat} (hk : k < sts.length) : enA sts n k = if k + 1 < sts.length then stA sts (k + 1) else (n : Int) := by
  have h := ends_get (n := n) hk
  rw [enA_get sts n hk] at h
  exact Option.some.inj h
theorem stA_get {k : Nat} (hk : k < sts.length) : sts[k]? = some (stA sts k) := by
  unfold stA
  rw [List.getD_eq_getElem?_getD, List.getElem?_eq_getElem hk]
  rfl
/-- what the starts' test says -/
theorem startsB_okG (hn : n ≠ 0) (hp : sts ≠ []) : startsB sts n = (stA sts 0 == 0 && (List.range sts.length).all (okS' sts n)) := by
  have hne : ¬ (sts = [] ∨ n = 0) := by
    rintro (z | z)
    · exact hp z
    · exact hn z
  have hl : 0 < sts.length := List.length_pos_iff.mpr hp
  unfold startsB adjB
  rw [if_neg hne]
  show (((List.range (sts.length - 1)).all fun k => decide (stA sts k < stA sts (k + 1))) && (stA sts 0 == 0 && decide (stA sts (sts.length - 1) < n))) = _
  rw [Bool.eq_iff_iff]
  simp only [Bool.and_eq_true, List.all_eq_true, List.mem_range, decide_eq_true_eq, beq_iff_eq, okS']
  constructor
  · rintro ⟨h1, h2, h3⟩
    have pos : ∀ k, k < sts.length → 0 ≤ stA sts k := by
      intro k
      induction k with
      | zero => intro _; omega
      | succ k ih => intro hk; have := ih (by omega); have := h1 k (by omega); omega
    refine ⟨h2, fun k hk => ⟨pos k hk, ?_⟩⟩
    rw [enA_eq sts n hk]
    by_cases h : k + 1 < sts.length
    · rw [if_pos h]
      refine ⟨h1 k (by omega), ?_⟩
      have up : ∀ j, k + 1 + j < sts.length → stA sts (k + 1) ≤ stA sts (k + 1 + j) := by
        intro j
        induction j with
        | zero => intro _; exact Int.le_refl _
        | succ j ih => intro hj; have := ih (by omega); have := h1 (k + 1 + j) (by omega); rw [← Nat.add_assoc]; omega
      have := up (sts.length - 1 - (k + 1)) (by omega)
      have e2 : k + 1 + (sts.length - 1 - (k + 1)) = sts.length - 1 := by omega
      rw [e2] at this
      omega
    · rw [if_neg h]
      have e2 : k = sts.length - 1 := by omega
      rw [e2]
      omega
  · rintro ⟨h1, h2⟩
    refine ⟨fun k hk => ?_, h1, ?_⟩
    · have := (h2 k (by omega)).2.1
      rw [enA_eq sts n (by omega), if_pos (by omega)] at this
      exact this
    · have := (h2 (sts.length - 1) (by omega)).2.1
      rw [enA_eq sts n (by omega), if_neg (by omega)] at this
      exact this
theorem judges_agreeG : judgeG sts n rl C Q = judgedG sts n rl C Q := by
  unfold judgeG judgedG
  by_cases hn : n = 0 ∨ sts.length = 0
  · rw [if_pos hn]
    have e1 : startsB sts n = (decide (sts.length = 0) && decide (n = 0)) := by
      unfold startsB
      have h : sts = [] ∨ n = 0 := by
        rcases hn with h | h
        · exact .inr h
        · exact .inl (List.length_eq_zero_iff.mp h)
      rw [if_pos h]
      cases sts with
      | nil =>
        show (true && (n == 0)) = (true && decide (n = 0))
        rw [Bool.eq_iff_iff]
        simp
      | cons => simp
    rw [e1]
    by_cases a : sts.length = 0
    · by_cases b : n = 0
      · by_cases c : rl = 0
        · simp [a, b, c]
          decide
        · have e2 : ((rl : Int) == max 0 (((sts.length : Nat) : Int) - 1)) = false := by
            rw [beq_eq_false_iff_ne]
            omega
          rw [e2]
          simp [c]
      · simp [a, b]
    · simp [a]
  · rw [if_neg hn]
    simp only [not_or] at hn
    have hp : sts ≠ [] := fun z => hn.2 (by rw [z]; rfl)
    rw [startsB_okG sts n hn.1 hp]
    have em : max 0 ((sts.length : Int) - 1) = (sts.length : Int) - 1 := by omega
    rw [em]
    rw [Bool.eq_iff_iff]
    simp only [Bool.and_eq_true, List.all_eq_true, List.mem_range, beq_iff_eq]
    constructor
    · rintro ⟨⟨⟨h1, h2⟩, h3⟩, h4, h5⟩
      exact ⟨⟨h1, h3⟩, fun k hk => ⟨h2 k hk, h4 k hk⟩, h5⟩
    · rintro ⟨⟨h1, h3⟩, h4, h5⟩
      exact ⟨⟨⟨h1, fun k hk => (h4 k hk).1⟩, h3⟩, fun k hk => (h4 k hk).2, h5⟩
end
theorem pc_getG {β : Type} {pcs : List (Int × β)} {k : Nat} {z : Int × β} (hk : k < pcs.length) : pcs[k]? = some (stA (stG pcs) k, (pcs.getD k z).2) := by
  unfold stA stG
  rw [List.getD_eq_getElem?_getD, List.getD_eq_getElem?_getD, List.getElem?_map, List.getElem?_eq_getElem hk]
  rfl
theorem values_eq (ns : List Int) (pl most : Int) (h0 : 0 ≤ pl) (m0 : 0 ≤ most) (m1 : most ≤ 1000) : ∃ vs : List Int, S__law_values [.scr ns, .int pl, .int most] = some (.lst (vs.map D.int)) ∧ (vs.length : Int) ≤ most ∧ ∀ v ∈ vs, -(most * 10 ^ 9) ≤ v ∧ v ≤ most * 10 ^ 9 := by
  have key : ∃ d, S__law_values [.scr ns, .int pl, .int most] = some d ∧ ∃ vs : List Int, d = .lst (vs.map D.int) ∧ (vs.length : Int) ≤ most ∧ ∀ v ∈ vs, -(most * 10 ^ 9) ≤ v ∧ v ≤ most * 10 ^ 9 := by
    refine run_W ?_
    unfold B__law_values
    walk_at "ev norm"
    refine wq_set (ev_call (ev_cs (ev_V rfl) (ev_cs (ev_V rfl) ev_nl)) (cell_eq _ _ h0)) ?_
    walk_at "ev norm"
    refine wq_set (ev_op (ev_U (ev_B rfl) rfl) (ev_op (ev_V rfl) ev_I d_add) (d_mod (by omega))) ?_
    walk_at "ev norm"
    have z0 := Int.emod_nonneg (cell ns pl.toNat) (show most + 1 ≠ 0 by omega)
    have z1 := Int.emod_lt_of_pos (cell ns pl.toNat) (show 0 < most + 1 by omega)
    generalize cell ns pl.toNat % (most + 1) = n at *
    refine wq_set (ev_op (ev_U (ev_op (ev_V rfl) (ev_op (ev_V rfl) ev_I d_add) (d_div (by omega) (log_of (k := 100) (by omega) (by decide) (by decide)))) rfl) ev_I (d_mod (by decide))) ?_
    walk_at "ev norm"
    have s0 := Int.emod_nonneg (cell ns pl.toNat / (most + 1)) (show (3 : Int) ≠ 0 by omega)
    have s1 := Int.emod_lt_of_pos (cell ns pl.toNat / (most + 1)) (show (0 : Int) < 3 by omega)
    generalize cell ns pl.toNat / (most + 1) % 3 = sty at *
    obtain ⟨mny, mm, im⟩ := ixm [19, 10 ^ 9, 13] sty s0 (by simpa using s1)
    have mb : 0 < mny ∧ mny ≤ 10 ^ 9 := by
      simp only [List.mem_cons, List.not_mem_nil, or_false] at mm
      rcases mm with rfl | rfl | rfl <;> decide
    obtain ⟨dg, hdg, ld, vd⟩ := digits_eq (cell ns (pl + 1).toNat) mny n mb.1 (by omega) z0 (by omega)
    refine wq_set (ev_call (ev_cs (ev_call (ev_cs (ev_V rfl) (ev_cs (ev_op (ev_V rfl) ev_I d_add) ev_nl)) (cell_eq _ _ (by omega))) (ev_cs (ev_op (ev_L (ev_cs ev_I (ev_cs (ev_op ev_I ev_I (d_pow (by decide))) (ev_cs ev_I ev_nl)))) (ev_V rfl) im) (ev_cs (ev_V rfl) ev_nl))) hdg) ?_
    walk_at "ev norm"
    refine wq_setO ev_nl ?_
    walk_at "ev norm"
    refine wq_set ev_I ?_
    walk_at "ev norm"
    refine wq_rng (n := n.toNat) (lo := 0) (fun k Γ => ∃ (vs : List Int) (last : Int) (s9 : Sl), vs.length = k ∧ (-(k * 10 ^ 9 : Int) ≤ last ∧ last ≤ (k * 10 ^ 9 : Int)) ∧ (∀ v ∈ vs, -(k * 10 ^ 9 : Int) ≤ v ∧ v ≤ (k * 10 ^ 9 : Int)) ∧ Γ = [.sh (.scr ns), .sh (.int pl), .sh (.int most), .sh (.int (cell ns pl.toNat)), .sh (.int n), .sh (.int sty), .sh (.lst (dg.map D.int)), .ow (vs.map D.int), .sh (.int last), s9]) (ev_rng1 (ev_cs (ev_V rfl) ev_nl) (by omega) (by omega)) ⟨[], 0, .no, rfl, by omega, by simp, rfl⟩ ?_ ?_
    · rintro k Γ hk ⟨vs, last, s9, lv, lb, vb, rfl⟩
      refine ⟨_, rfl, ?_⟩
      walk_at "ev norm"
      obtain ⟨sub, msub, isub⟩ := ixm [9, 5 * 10 ^ 8, 6] sty s0 (by simpa using s1)
      have id : dIx (.lst (dg.map D.int)) (.int (0 + (k : Nat))) = some (.int (dg.getD k 0)) := d_ixC (k := k) (by rw [List.getD_eq_getElem?_getD, List.getElem?_eq_getElem (by omega)]; rfl) (by omega)
      have hsub : 0 ≤ sub ∧ sub ≤ 10 ^ 9 := by
        simp only [List.mem_cons, List.not_mem_nil, or_false] at msub
        rcases msub with rfl | rfl | rfl <;> decide
      have hdk := vd (dg.getD k 0) (by rw [List.getD_eq_getElem?_getD, List.getElem?_eq_getElem (by omega)]; exact List.getElem_mem _)
      have rest : ∀ last' : Int, (-(k * 10 ^ 9 : Int) ≤ last' ∧ last' ≤ (k * 10 ^ 9 : Int)) → W (sSeq (sSet 8 (gOp dSub (gOp dAdd (gV 8) (gU dInt (gIx (gB 6) (gV 9)))) (gIx (gL (aC (gI 9) (aC (gOp dMul (gI 5) (gOp dPow (gI 10) (gI 8))) (aC (gI 6) aN)))) (gV 5)))) (sApp 7 [] (gV 8))) [.sh (.scr ns), .sh (.int pl), .sh (.int most), .sh (.int (cell ns pl.toNat)), .sh (.int n), .sh (.int sty), .sh (.lst (dg.map D.int)), .ow (vs.map D.int), .sh (.int last'), .sh (.int (0 + (k : Nat)))] (fun r => ∃ (vs : List Int) (last : Int) (s9 : Sl), vs.length = k + 1 ∧ (-((k + 1 : Nat) * 10 ^ 9 : Int) ≤ last ∧ last ≤ ((k + 1 : Nat) * 10 ^ 9 : Int)) ∧ (∀ v ∈ vs, -((k + 1 : Nat) * 10 ^ 9 : Int) ≤ v ∧ v ≤ ((k + 1 : Nat) * 10 ^ 9 : Int)) ∧ r = .nx [.sh (.scr ns), .sh (.int pl), .sh (.int most), .sh (.int (cell ns pl.toNat)), .sh (.int n), .sh (.int sty), .sh (.lst (dg.map D.int)), .ow (vs.map D.int), .sh (.int last), s9]) := by
        intro last' hlast
        refine wq_set (ev_op (ev_op (ev_V rfl) (ev_U (ev_op (ev_B rfl) (ev_V rfl) id) rfl) d_add) (ev_op (ev_L (ev_cs ev_I (ev_cs (ev_op ev_I (ev_op ev_I ev_I (d_pow (by decide))) (d_mul (by decide +kernel))) (ev_cs ev_I ev_nl)))) (ev_V rfl) isub) d_sub) ?_
        walk_at "ev norm"
        refine W_app (ev_V rfl) rfl (by rw [List.length_map]; omega) ⟨vs ++ [last' + dg.getD k 0 - sub], last' + dg.getD k 0 - sub, .sh (.int (0 + (k : Nat))), by simp [lv], by omega, fun v hv => ?_, ?_⟩
        · rcases List.mem_append.mp hv with z | z
          · have := vb v z
            omega
          · rw [List.mem_singleton] at z
            omega
        · rw [List.map_append]
          rfl
      refine wq_if (ev_T (ev_op (ev_B rfl) ev_I (d_eq eqOk_int eqOk_int eqd_int))) (fun _ => W_set ev_I ?_) (fun _ => W_nil ?_)
      · refine W_mono (rest 0 (by omega)) ?_
        rintro _ ⟨vs', l', s', e1, e2, e3, rfl⟩
        exact ⟨vs', l', s', e1, e2, e3, rfl⟩
      · refine W_mono (rest last lb) ?_
        rintro _ ⟨vs', l', s', e1, e2, e3, rfl⟩
        exact ⟨vs', l', s', e1, e2, e3, rfl⟩
    · rintro Γ ⟨vs, last, s9, lv, lb, vb, rfl⟩
      exact W_frz (W_ret (ev_V rfl) ⟨vs, rfl, by omega, fun v hv => by have := vb v hv; omega⟩)
  obtain ⟨_, h1, vs, rfl, h2⟩ := key
  exact ⟨vs, h1, h2⟩
theorem error_eq (ns : List Int) (pl : Int) (vs : List Int) (h0 : 0 ≤ pl) : ∃ e : Int, S__law_error_of [.scr ns, .int pl, .lst (vs.map D.int)] = some (.int e) ∧ 0 ≤ e := by
  have key : ∃ d, S__law_error_of [.scr ns, .int pl, .lst (vs.map D.int)] = some d ∧ ∃ e : Int, d = .int e ∧ 0 ≤ e := by
    refine run_W ?_
    unfold B__law_error_of
    walk_at "ev norm"
    refine wq_set (ev_call (ev_cs (ev_V rfl) (ev_cs (ev_V rfl) ev_nl)) (cell_eq _ _ h0)) ?_
    walk_at "ev norm"
    refine wq_ifR (ev_and (ev_T (ev_op (ev_op (ev_U (ev_B rfl) rfl) ev_I (d_mod (by decide))) ev_I (d_eq eqOk_int eqOk_int eqd_int))) (ev_T (ev_op (ev_U (ev_B rfl) (by rw [d_lenL, List.length_map])) ev_I rfl))) (fun hc => ?_) (fun _ => ?_)
    · have hp : vs ≠ [] := by
        rintro rfl
        simp at hc
      have mx := (maxI_mem hp).2 _ (minI_mem hp).1
      exact ⟨_, ev_op (ev_U (ev_op (ev_V rfl) ev_I (d_div (by decide) (by decide +kernel))) rfl) (ev_op (ev_op (ev_op (ev_U (ev_B rfl) (d_max hp)) (ev_U (ev_B rfl) (d_min hp)) d_sub) ev_I (d_div (by decide) (by decide +kernel))) ev_I d_add) (d_mod (by omega)), _, rfl, Int.emod_nonneg _ (by omega)⟩
    · exact W_ret (ev_op (ev_U (ev_op (ev_V rfl) ev_I (d_div (by decide) (by decide +kernel))) rfl) ev_I (d_mod (by decide))) ⟨_, rfl, Int.emod_nonneg _ (by omega)⟩
  obtain ⟨_, h1, e, rfl, h2⟩ := key
  exact ⟨e, h1, h2⟩
/-! flat pieces -/
def vAt (vs : List Int) (k : Nat) : Int := vs.getD k 0
def FlatR (vs : List Int) (e : Int) (s t : Nat) : Prop := ∀ i j, s ≤ i → i < j → j < t → absI (vAt vs i - vAt vs j) ≤ 2 * e
theorem FlatR.mono {vs : List Int} {e : Int} (s t s' t' : Nat) (h : FlatR vs e s t) (h1 : s ≤ s') (h2 : t' ≤ t) : FlatR vs e s' t' := fun i j h3 h4 h5 => h i j (by omega) h4 (by omega)
theorem vAt_get {vs : List Int} {k : Nat} (h : k < vs.length) : vs[k]? = some (vAt vs k) := by simp [vAt, h]
theorem vAt_mem {vs : List Int} {k : Nat} (h : k < vs.length) : vAt vs k ∈ vs := List.mem_of_getElem? (vAt_get h)
theorem mem_vAt {vs : List Int} {v : Int} (h : v ∈ vs) : ∃ k, k < vs.length ∧ v = vAt vs k := by
  obtain ⟨k, hk, e⟩ := List.mem_iff_getElem.mp h
  exact ⟨k, hk, by rw [← e]; simp [vAt, hk]⟩
def flatB (xs : List Int) (e : Int) : Bool := decide (xs.length = 0) || decide (maxI xs - minI xs ≤ 2 * e)
theorem flatB_iff (xs : List Int) (e : Int) (he : 0 ≤ e) : flatB xs e = true ↔ ∀ a ∈ xs, ∀ b ∈ xs, absI (a - b) ≤ 2 * e := by
  unfold flatB
  cases xs with
  | nil => simp
  | cons x xs =>
    have hp : x :: xs ≠ [] := by simp
    obtain ⟨m1, m2⟩ := maxI_mem hp
    obtain ⟨n1, n2⟩ := minI_mem hp
    simp only [Bool.or_eq_true, decide_eq_true_eq]
    constructor
    · rintro (h | h)
      · simp at h
      · intro a ha b hb
        have := m2 a ha; have := m2 b hb; have := n2 a ha; have := n2 b hb
        rw [absI_le]
        omega
    · intro h
      have := h _ m1 _ n1
      rw [absI_le] at this
      exact .inr (by omega)
theorem slice_get {vs : List Int} {s t : Nat} (ht : t ≤ vs.length) (i : Nat) (h : s + i < t) : (cutD vs (some (s : Int)) (some (t : Int)))[i]? = some (vAt vs (s + i)) := by
  rw [cutD_nat vs s t ht, List.getElem?_take, if_pos (by omega), List.getElem?_drop, vAt_get (by omega)]
theorem slice_len {vs : List Int} {s t : Nat} (ht : t ≤ vs.length) : (cutD vs (some (s : Int)) (some (t : Int))).length = t - s := by
  rw [cutD_nat vs s t ht]
  simp
  omega
theorem slice_mem {vs : List Int} {s t : Nat} (ht : t ≤ vs.length) {a : Int} : a ∈ cutD vs (some (s : Int)) (some (t : Int)) ↔ ∃ i, s ≤ i ∧ i < t ∧ a = vAt vs i := by
  rw [List.mem_iff_getElem?]
  constructor
  · rintro ⟨i, hi⟩
    have h := (List.getElem?_eq_some_iff.mp hi).1
    rw [slice_len ht] at h
    rw [slice_get ht i (by omega)] at hi
    exact ⟨s + i, by omega, by omega, (Option.some.inj hi).symm⟩
  · rintro ⟨i, h1, h2, rfl⟩
    refine ⟨i - s, ?_⟩
    rw [slice_get ht (i - s) (by omega)]
    congr 2
    omega
theorem absI_swap (a b : Int) : absI (a - b) = absI (b - a) := by unfold absI; split <;> split <;> omega
theorem flat_slice {vs : List Int} {e : Int} {s t : Nat} (he : 0 ≤ e) (ht : t ≤ vs.length) : flatB (cutD vs (some (s : Int)) (some (t : Int))) e = true ↔ FlatR vs e s t := by
  rw [flatB_iff _ _ he]
  constructor
  · intro h i j h1 h2 h3
    exact h _ ((slice_mem ht).mpr ⟨i, h1, by omega, rfl⟩) _ ((slice_mem ht).mpr ⟨j, by omega, h3, rfl⟩)
  · intro h a ha b hb
    obtain ⟨i, i1, i2, rfl⟩ := (slice_mem ht).mp ha
    obtain ⟨j, j1, j2, rfl⟩ := (slice_mem ht).mp hb
    rcases Nat.lt_trichotomy i j with z | z | z
    · exact h i j i1 z j2
    · subst z
      have : vAt vs i - vAt vs i = 0 := by omega
      rw [this]
      simp [absI]
      omega
    · rw [absI_swap]
      exact h j i j1 z i2
theorem dabs (a : Int) : dAbs (.int a) = some (.int (absI a)) := rfl
theorem lflat_eq (xs : List Int) (e : Int) : S__law_flat [.lst (xs.map D.int), .int e] = some (.bl (flatB xs e)) := by
  refine run_Weq ?_
  unfold B__law_flat
  walk_at "ev norm"
  have h1 : gT (gOp dEq (gU dLen (gB 0)) (gI 0)) [.sh (.lst (xs.map D.int)), .sh (.int e)] = some (decide (xs.length = 0)) := by
    refine (ev_T (ev_op (ev_U (ev_B rfl) (by rw [d_lenL, List.length_map])) ev_I (d_eq eqOk_int eqOk_int eqd_int))).trans ?_
    congr 1
    rw [Bool.eq_iff_iff]
    simp
  refine W_ret (ev_bl (ev_orF h1 fun hz => ev_T (ev_op (ev_op (ev_U (ev_B rfl) (d_max ?_)) (ev_U (ev_B rfl) (d_min ?_)) d_sub) (ev_op ev_I (ev_V rfl) (d_mul (mulOk_l (by omega) (by omega)))) rfl))) rfl <;> (rintro rfl; simp at hz)
/-- the law's least number -/
theorem lfleast_eq (vs : List Int) (e : Int) (he : 0 ≤ e) (hl : vs.length < 1000) : ∃ c : Nat → Int, S__law_flat_least [.lst (vs.map D.int), .int e] = some (.int (c vs.length)) ∧ LeastG (FlatR vs e) vs.length c := by
  have key : ∃ d, S__law_flat_least [.lst (vs.map D.int), .int e] = some d ∧ ∃ c : Nat → Int, d = .int (c vs.length) ∧ LeastG (FlatR vs e) vs.length c := by
    refine run_W ?_
    unfold B__law_flat_least
    walk_at "ev norm"
    refine wq_setO (ev_cs ev_I ev_nl) ?_
    walk_at "ev norm"
    have lV : dLen (.lst (vs.map D.int)) = some (.int vs.length) := by rw [d_lenL, List.length_map]
    refine wq_rng (n := vs.length) (lo := 1) (fun k Γ => ∃ (cs : List Int) (s3 s4 s5 : Sl), Γ = [.sh (.lst (vs.map D.int)), .sh (.int e), .ow (cs.map D.int), s3, s4, s5] ∧ cs.length = k + 1 ∧ LeastG (FlatR vs e) k (fun t => cs.getD t 0)) ?_ ⟨[0], .no, .no, .no, rfl, rfl, rfl, fun t s h1 h2 => by omega, fun t h1 h2 => by omega⟩ ?_ ?_
    · refine (ev_rng2 (m := 1) (j := (vs.length : Int) + 1) (ev_cs ev_I (ev_cs (ev_op (ev_U (ev_B rfl) lV) ev_I d_add) ev_nl)) (by omega) (by omega) (by omega) (by omega)).trans ?_
      have z : ((vs.length : Int) + 1 - 1).toNat = vs.length := by omega
      rw [z]
    · rintro k Γ hk ⟨cs, s3, s4, s5, rfl, h1, h2⟩
      have get : ∀ t, t < k + 1 → cs[t]? = some (cs.getD t 0) := fun t ht => by
        rw [List.getD_eq_getElem?_getD, List.getElem?_eq_getElem (by omega)]
        rfl
      refine ⟨_, rfl, ?_⟩
      walk_at "ev norm"
      refine wq_set (ev_op (ev_op (ev_Bo rfl) (ev_op (ev_V rfl) ev_I d_sub) (d_ixC (k := k) (get k (by omega)) (by omega))) ev_I d_add) ?_
      walk_at "ev norm"
      refine wq_rng (n := k + 1) (lo := 0) (fun j Γ => ∃ (best : Int) (s5 : Sl), Γ = [.sh (.lst (vs.map D.int)), .sh (.int e), .ow (cs.map D.int), .sh (.int (1 + (k : Nat))), .sh (.int best), s5] ∧ (∀ s, s < j → FlatR vs e s (k + 1) → best ≤ cs.getD s 0 + 1) ∧ ∃ s, s < k + 1 ∧ FlatR vs e s (k + 1) ∧ best = cs.getD s 0 + 1) ?_ ⟨_, _, rfl, fun s h => by omega, k, by omega, fun i j h1 h2 h3 => by omega, rfl⟩ ?_ ?_
      · refine (ev_rng1 (m := 1 + (k : Nat)) (ev_cs (ev_V rfl) ev_nl) (by omega) (by omega)).trans ?_
        have z : (1 + (k : Int)).toNat = k + 1 := by omega
        rw [z]
      · rintro j Γ hj ⟨best, s5, rfl, b1, s, b2, b3, b4⟩
        refine ⟨_, rfl, ?_⟩
        walk_at "ev norm"
        have ij : dIx (.lst (cs.map D.int)) (.int (0 + (j : Nat))) = some (.int (cs.getD j 0)) := d_ixC (k := j) (get j hj) (by omega)
        have fs : flatB (cutD vs (some (0 + (j : Int))) (some (1 + (k : Int)))) e = true ↔ FlatR vs e j (k + 1) := by
          have e1 : (0 + (j : Int)) = (j : Int) := by omega
          have e2 : (1 + (k : Int)) = ((k + 1 : Nat) : Int) := by omega
          rw [e1, e2]
          exact flat_slice he (by omega)
        refine W_if (b := decide (cs.getD j 0 + 1 < best) && flatB (cutD vs (some (0 + (j : Int))) (some (1 + (k : Int)))) e) (ev_and (ev_T (ev_op (ev_op (ev_op (ev_Bo rfl) (ev_V rfl) ij) ev_I d_add) (ev_V rfl) rfl)) (ev_Tru (ev_call (ev_cs (ev_L (ev_Sl (ev_B rfl) (ev_So (ev_V rfl)) (ev_So (ev_V rfl)) d_cut)) (ev_cs (ev_V rfl) ev_nl)) (lflat_eq _ _)) rfl)) (fun hc => W_set (ev_op (ev_op (ev_Bo rfl) (ev_V rfl) ij) ev_I d_add) ?_) (fun hc => W_nil ?_)
        · rw [Bool.and_eq_true, decide_eq_true_eq, fs] at hc
          refine ⟨cs.getD j 0 + 1, _, rfl, fun s' hs hf' => ?_, j, hj, hc.2, rfl⟩
          by_cases z : s' = j
          · rw [z]; exact Int.le_refl _
          · have := b1 s' (by omega) hf'
            omega
        · refine ⟨best, _, rfl, fun s' hs hf' => ?_, s, b2, b3, b4⟩
          by_cases z : s' = j
          · subst z
            have f1 := fs.mpr hf'
            rw [f1, Bool.and_true] at hc
            simp only [decide_eq_false_iff_not] at hc
            omega
          · exact b1 s' (by omega) hf'
      · rintro Γ ⟨best, s5, rfl, b1, s, b2, b3, b4⟩
        have ext : ∀ t, t < k + 1 → (cs ++ [best]).getD t 0 = cs.getD t 0 := fun t ht => by
          rw [List.getD_eq_getElem?_getD, List.getD_eq_getElem?_getD, List.getElem?_append_left (by omega)]
        have new : (cs ++ [best]).getD (k + 1) 0 = best := by
          rw [List.getD_eq_getElem?_getD, List.getElem?_append_right (by omega), h1, Nat.sub_self]
          rfl
        refine W_app (ev_V rfl) rfl (by rw [List.length_map]; omega) ⟨cs ++ [best], .sh (.int (1 + (k : Nat))), .sh (.int best), s5, ?_, by simp [h1], ?_⟩
        · rw [List.map_append]; rfl
        · refine ⟨?_, fun t s' ht hs hfit => ?_, fun t h0 ht => ?_⟩
          · show (cs ++ [best]).getD 0 0 = 0
            rw [ext 0 (by omega)]; exact h2.zero
          · show (cs ++ [best]).getD t 0 ≤ (cs ++ [best]).getD s' 0 + 1
            by_cases z : t = k + 1
            · subst z
              rw [new, ext s' (by omega)]
              exact b1 s' (by omega) hfit
            · rw [ext t (by omega), ext s' (by omega)]
              exact h2.up t s' (by omega) hs hfit
          · show ∃ s, s < t ∧ FlatR vs e s t ∧ (cs ++ [best]).getD t 0 = (cs ++ [best]).getD s 0 + 1
            by_cases z : t = k + 1
            · subst z
              exact ⟨s, b2, b3, by rw [new, ext s b2]; exact b4⟩
            · obtain ⟨s', c1, c2, c3⟩ := h2.lo t h0 (by omega)
              exact ⟨s', c1, c2, by rw [ext t (by omega), ext s' (by omega)]; exact c3⟩
    · rintro Γ ⟨cs, s3, s4, s5, rfl, h1, h2⟩
      exact W_ret (ev_op (ev_Bo rfl) (ev_U (ev_B rfl) lV) (d_ixC (k := vs.length) (by rw [List.getElem?_eq_getElem (by omega)]) rfl)) ⟨fun t => cs.getD t 0, by simp [h1], h2⟩
  obtain ⟨_, h1, c, rfl, h2⟩ := key
  exact ⟨c, h1, h2⟩
/-! the starts of the longest pieces -/
structure StOk (R : Nat → Nat → Prop) (k : Nat) (sts : List Nat) : Prop where
  nil : sts = [] ↔ k = 0
  lt : ∀ s ∈ sts, s < k
  two : ∀ i, i + 1 < sts.length → sts.getD i 0 < sts.getD (i + 1) 0 ∧ R (sts.getD i 0) (sts.getD (i + 1) 0) ∧ ¬ R (sts.getD i 0) (sts.getD (i + 1) 0 + 1)
  last : sts ≠ [] → R (sts.getD (sts.length - 1) 0) k
  zero : sts ≠ [] → sts.getD 0 0 = 0
  len : sts.length ≤ k
theorem getD_app1 {α : Type} {xs : List α} {y z : α} {i : Nat} (h : i < xs.length) : (xs ++ [y]).getD i z = xs.getD i z := by
  rw [List.getD_eq_getElem?_getD, List.getD_eq_getElem?_getD, List.getElem?_append_left h]
theorem getD_app2 {α : Type} {xs : List α} {y z : α} : (xs ++ [y]).getD xs.length z = y := by
  rw [List.getD_eq_getElem?_getD, List.getElem?_append_right (by omega), Nat.sub_self]
  rfl
theorem getD_mem' {α : Type} {xs : List α} {z : α} {i : Nat} (h : i < xs.length) : xs.getD i z ∈ xs := by
  rw [List.getD_eq_getElem?_getD, List.getElem?_eq_getElem h]
  exact List.getElem_mem h
theorem getD_get {α : Type} {xs : List α} {z : α} {i : Nat} (h : i < xs.length) : xs[i]? = some (xs.getD i z) := by
  rw [List.getD_eq_getElem?_getD, List.getElem?_eq_getElem h]
  rfl
theorem StOk.start (R : Nat → Nat → Prop) : StOk R 0 [] := ⟨by simp, by simp, by simp, by simp, by simp, by simp⟩
theorem StOk.keep {R : Nat → Nat → Prop} {k : Nat} {sts : List Nat} (h : StOk R k sts) (h0 : sts ≠ []) (h1 : R (sts.getD (sts.length - 1) 0) (k + 1)) : StOk R (k + 1) sts :=
  ⟨by constructor
      · intro z; exact absurd z h0
      · intro z; omega, fun s hs => by have := h.lt s hs; omega, h.two, fun _ => h1, h.zero, by have := h.len; omega⟩
theorem StOk.push {R : Nat → Nat → Prop} {k : Nat} {sts : List Nat} (h : StOk R k sts) (h0 : sts = [] ∨ ¬ R (sts.getD (sts.length - 1) 0) (k + 1)) (h1 : R k (k + 1)) : StOk R (k + 1) (sts ++ [k]) := by
  refine ⟨by simp, fun s hs => ?_, fun i hi => ?_, fun _ => ?_, fun _ => ?_, by have := h.len; simp; omega⟩
  · rcases List.mem_append.mp hs with z | z
    · have := h.lt s z; omega
    · rw [List.mem_singleton] at z; omega
  · simp only [List.length_append, List.length_singleton] at hi
    by_cases z : i + 1 < sts.length
    · rw [getD_app1 (by omega), getD_app1 (by omega)]
      exact h.two i z
    · have e : i + 1 = sts.length := by omega
      have hne : sts ≠ [] := by rintro rfl; simp at e
      have e2 : sts.length - 1 = i := by omega
      have hl := h.last hne
      rw [e2] at hl
      have hm := h.lt _ (getD_mem' (xs := sts) (z := 0) (i := i) (by omega))
      rw [getD_app1 (by omega), e, getD_app2]
      refine ⟨hm, hl, ?_⟩
      rcases h0 with z | z
      · exact absurd z hne
      · rw [e2] at z; exact z
  · have e : (sts ++ [k]).length - 1 = sts.length := by simp
    rw [e, getD_app2]
    exact h1
  · by_cases z : sts = []
    · subst z
      have := h.nil.mp rfl
      simp [this]
    · have : 0 < sts.length := List.length_pos_iff.mpr z
      rw [getD_app1 this]
      exact h.zero z
def sI (sts : List Nat) : List Int := sts.map fun (s : Nat) => (s : Int)
theorem sI_len (sts : List Nat) : (sI sts).length = sts.length := by simp [sI]
theorem sI_get {sts : List Nat} {k : Nat} (h : k < sts.length) : (sI sts)[k]? = some ((sts.getD k 0 : Nat) : Int) := by
  unfold sI
  rw [List.getElem?_map, getD_get (z := 0) h]
  rfl
theorem sI_app (sts : List Nat) (k : Nat) : sI (sts ++ [k]) = sI sts ++ [(k : Int)] := by simp [sI]
/-- where piece k ends -/
def enN (sts : List Nat) (n k : Nat) : Nat := if k + 1 < sts.length then sts.getD (k + 1) 0 else n
theorem sI_end {sts : List Nat} {n k : Nat} (h : k < sts.length) : (endsOf (sI sts) n)[k]? = some ((enN sts n k : Nat) : Int) := by
  rw [ends_get (by rw [sI_len]; exact h), sI_len]
  unfold enN
  by_cases z : k + 1 < sts.length
  · rw [if_pos z, if_pos z]
    congr 1
    rw [List.getD_eq_getElem?_getD, sI_get z]
    rfl
  · rw [if_neg z, if_neg z]
theorem StOk.en {R : Nat → Nat → Prop} {n : Nat} {sts : List Nat} (h : StOk R n sts) {k : Nat} (hk : k < sts.length) : sts.getD k 0 < enN sts n k ∧ enN sts n k ≤ n ∧ R (sts.getD k 0) (enN sts n k) := by
  unfold enN
  by_cases z : k + 1 < sts.length
  · rw [if_pos z]
    have h1 := h.two k z
    have h2 := h.lt _ (getD_mem' (xs := sts) (z := 0) z)
    exact ⟨h1.1, by omega, h1.2.1⟩
  · rw [if_neg z]
    have hne : sts ≠ [] := by rintro rfl; simp at hk
    have h1 := h.last hne
    have e : sts.length - 1 = k := by omega
    rw [e] at h1
    exact ⟨h.lt _ (getD_mem' (xs := sts) (z := 0) hk), by omega, h1⟩
/-! equal lists -/
theorem eqOk_map {α : Type} (f : α → D) (n : Nat) (hn : n < 60) (h : ∀ a, pyOk (f a) = true ∧ (toPy (f a)).canLay0 = true ∧ (toPy (f a)).depth ≤ n) : ∀ xs : List α, pyOks (xs.map f) = true ∧ PyData.canLayAll0 (toPys (xs.map f)) = true ∧ PyData.depthAll (toPys (xs.map f)) ≤ n
  | [] => ⟨rfl, rfl, by simp [toPys, PyData.depthAll]⟩
  | x :: xs => by
    obtain ⟨h1, h2, h3⟩ := h x
    obtain ⟨k1, k2, k3⟩ := eqOk_map f n hn h xs
    refine ⟨?_, ?_, ?_⟩
    · rw [List.map_cons, pyOks, h1, k1]; rfl
    · rw [List.map_cons, toPys, PyData.canLayAll0, h2, k2]; rfl
    · rw [List.map_cons, toPys, PyData.depthAll]; omega
theorem ne_self {α : Type} (f : α → D) (n : Nat) (hn : n < 60) (h : ∀ a, pyOk (f a) = true ∧ (toPy (f a)).canLay0 = true ∧ (toPy (f a)).depth ≤ n) (xs : List α) : dNe (.lst (xs.map f)) (.lst (xs.map f)) = some (.bl false) := by
  obtain ⟨k1, k2, k3⟩ := eqOk_map f n hn h xs
  have e1 : toPy (.lst (xs.map f)) = .list (toPys (xs.map f)) := by rw [toPy]
  have c : (toPy (.lst (xs.map f))).canLay0 = true := by rw [e1, PyData.canLay0]; exact k2
  have ok : eqOk (.lst (xs.map f)) = true := by
    unfold eqOk SeqAt.shaped
    rw [c, pyOk, k1, e1, PyData.depth]
    simp
    omega
  refine d_ne (bb := true) ok ok ?_
  unfold eqd
  exact SeqAt.eqv_refl _ c
theorem okP (a : Int × Int) : pyOk (encP a) = true ∧ (toPy (encP a)).canLay0 = true ∧ (toPy (encP a)).depth ≤ 10 := by
  refine ⟨by simp [encP, pyOk, pyOks], by simp [encP, toPy, toPys, PyData.canLay0, PyData.canLayAll0], by simp [encP, toPy, toPys, PyData.depth, PyData.depthAll]⟩
theorem flat_one {vs : List Int} {e : Int} {k : Nat} : FlatR vs e k (k + 1) := fun i j h1 h2 h3 => by omega
theorem lfstarts_eq (vs : List Int) (e : Int) (he : 0 ≤ e) (hl : vs.length < 1000) : ∃ sts : List Nat, S__law_flat_starts [.lst (vs.map D.int), .int e] = some (.lst ((sI sts).map D.int)) ∧ StOk (FlatR vs e) vs.length sts := by
  have key : ∃ d, S__law_flat_starts [.lst (vs.map D.int), .int e] = some d ∧ ∃ sts : List Nat, d = .lst ((sI sts).map D.int) ∧ StOk (FlatR vs e) vs.length sts := by
    refine run_W ?_
    unfold B__law_flat_starts
    walk_at "ev norm"
    refine wq_setO ev_nl ?_
    walk_at "ev norm"
    have lV : dLen (.lst (vs.map D.int)) = some (.int vs.length) := by rw [d_lenL, List.length_map]
    refine wq_rng (n := vs.length) (lo := 0) (fun k Γ => ∃ (sts : List Nat) (s3 : Sl), Γ = [.sh (.lst (vs.map D.int)), .sh (.int e), .ow ((sI sts).map D.int), s3] ∧ StOk (FlatR vs e) k sts) ?_ ⟨[], .no, rfl, StOk.start _⟩ ?_ ?_
    · exact (ev_rng1 (m := (vs.length : Nat)) (ev_cs (ev_U (ev_B rfl) lV) ev_nl) (by omega) (by omega))
    · rintro k Γ hk ⟨sts, s3, rfl, ok⟩
      refine ⟨_, rfl, ?_⟩
      walk_at "ev norm"
      have ek : (0 + (k : Int)) = k := by omega
      rw [ek]
      have lS : dLen (.lst ((sI sts).map D.int)) = some (.int sts.length) := by rw [d_lenL, List.length_map, sI_len]
      have app : ∀ (Q : Res → Prop), (∃ (sts : List Nat) (s3 : Sl), Q (.nx [.sh (.lst (vs.map D.int)), .sh (.int e), .ow ((sI sts).map D.int), s3]) → Q (.nx [.sh (.lst (vs.map D.int)), .sh (.int e), .ow ((sI sts).map D.int), s3])) := fun Q => ⟨[], .no, id⟩
      have push : (sts = [] ∨ ¬ FlatR vs e (sts.getD (sts.length - 1) 0) (k + 1)) → W (sApp 2 [] (gV 3)) [.sh (.lst (vs.map D.int)), .sh (.int e), .ow ((sI sts).map D.int), .sh (.int k)] (bodyP (fun Γ => ∃ (sts : List Nat) (s3 : Sl), Γ = [.sh (.lst (vs.map D.int)), .sh (.int e), .ow ((sI sts).map D.int), s3] ∧ StOk (FlatR vs e) (k + 1) sts) (thenP (sFrz 2 (sRet (gV 2))) (isRt fun d => ∃ sts : List Nat, d = .lst ((sI sts).map D.int) ∧ StOk (FlatR vs e) vs.length sts))) := fun h =>
        W_app (ev_V rfl) rfl (by rw [List.length_map, sI_len]; have := ok.len; omega) ⟨sts ++ [k], .sh (.int k), by rw [sI_app, List.map_append]; rfl, ok.push h flat_one⟩
      by_cases h0 : sts = []
      · subst h0
        exact W_if (ev_orT (ev_T (ev_op (ev_U (ev_Bo rfl) d_lenL) ev_I (d_eq eqOk_int eqOk_int eqd_int)))) (fun _ => push (.inl rfl)) (fun z => by cases z)
      · have hp : 0 < sts.length := List.length_pos_iff.mpr h0
        have il : dIx (.lst ((sI sts).map D.int)) (.int ((sts.length : Int) - 1)) = some (.int ((sts.getD (sts.length - 1) 0 : Nat) : Int)) := d_ixC (k := sts.length - 1) (sI_get (by omega)) (by omega)
        have e1 : ((k : Int) + 1) = ((k + 1 : Nat) : Int) := by omega
        have fs := flat_slice (vs := vs) (e := e) (s := sts.getD (sts.length - 1) 0) (t := k + 1) he (by omega)
        rw [← e1] at fs
        have lz : (((sts.length : Nat) : Int) == 0) = false := by rw [beq_eq_false_iff_ne]; omega
        refine W_if (b := (((sts.length : Nat) : Int) == 0) || !flatB (cutD vs (some ((sts.getD (sts.length - 1) 0 : Nat) : Int)) (some ((k : Int) + 1))) e) (ev_or (ev_T (ev_op (ev_U (ev_Bo rfl) lS) ev_I (d_eq eqOk_int eqOk_int eqd_int))) (ev_not (ev_Tru (ev_call (ev_cs (ev_L (ev_Sl (ev_B rfl) (ev_So (ev_op (ev_Bo rfl) (ev_op (ev_U (ev_Bo rfl) lS) ev_I d_sub) il)) (ev_So (ev_op (ev_V rfl) ev_I d_add)) d_cut)) (ev_cs (ev_V rfl) ev_nl)) (lflat_eq _ _)) rfl))) (fun hc => push (.inr fun z => ?_)) (fun hc => W_nil ⟨sts, .sh (.int k), rfl, ok.keep h0 (fs.mp ?_)⟩)
        · rw [lz, fs.mpr z] at hc
          cases hc
        · rw [lz] at hc
          simpa using hc
    · rintro Γ ⟨sts, s3, rfl, ok⟩
      exact W_frz (W_ret (ev_V rfl) ⟨sts, rfl, ok⟩)
  obtain ⟨_, h1, sts, rfl, h2⟩ := key
  exact ⟨sts, h1, h2⟩
/-- what makes a piece end: a value of it that is too far from the next -/
theorem flat_far {vs : List Int} {e : Int} {s t : Nat} (h1 : FlatR vs e s t) (h2 : ¬ FlatR vs e s (t + 1)) : ∃ i, s ≤ i ∧ i < t ∧ 2 * e < absI (vAt vs i - vAt vs t) := by
  refine Classical.byContradiction fun z => h2 fun i j h3 h4 h5 => ?_
  by_cases hj : j = t
  · subst hj
    refine Int.not_lt.mp fun w => z ⟨i, h3, h4, w⟩
  · exact h1 i j h3 h4 (by omega)
/-! the judges -/
section
variable (vs : List Int) (e : Int) (pcs rs : List (Int × Int))
def hA (k : Nat) : Int := (pcs.getD k (0, 0)).2
def rA (k : Nat) : Int × Int := rs.getD k (0, 0)
def vI (i : Int) : Int := vAt vs i.toNat
def fC (k : Nat) : Bool := (cutD vs (some (stA (stG pcs) k)) (some (enA (stG pcs) vs.length k))).all fun v => decide (absI (v - hA pcs k) ≤ e)
def fCh (k : Nat) : Bool := decide (stA (stG pcs) k ≤ (rA rs k).1) && (decide ((rA rs k).1 < (rA rs k).2) && decide ((rA rs k).2 ≤ enA (stG pcs) vs.length k))
def fFar (k : Nat) : Bool := decide (absI (vI vs (rA rs k).1 - vI vs (rA rs k).2) ≤ 2 * e)
def fQ (k : Nat) : Bool := fCh vs pcs rs k && !fFar vs e rs k
def fJ : Bool := judgedG (stG pcs) vs.length rs.length (fC vs e pcs) (fQ vs e pcs rs)
end
theorem ixV {vs : List Int} {i : Int} (h0 : 0 ≤ i) (h1 : i < vs.length) : dIx (.lst (vs.map D.int)) (.int i) = some (.int (vI vs i)) := d_ixC (k := i.toNat) (vAt_get (by omega)) (by omega)
theorem fjudge_eq (vs : List Int) (e : Int) (pcs rs : List (Int × Int)) (hl : vs.length < 1000) (h1 : pcs.length < 1000) (h2 : rs.length < 1000) : S_judge_flat [.lst (vs.map D.int), .int e, .obj 6 [.lst (pcs.map encP), .lst (rs.map encP)]] = some (.bl (fJ vs e pcs rs)) := by
  have lV : dLen (.lst (vs.map D.int)) = some (.int vs.length) := by rw [d_lenL, List.length_map]
  generalize hcu : D.obj 6 [.lst (pcs.map encP), .lst (rs.map encP)] = cu
  have f0 : dFld 6 0 cu = some (.lst (pcs.map encP)) := by subst hcu; rfl
  have f1 : dFld 6 1 cu = some (.lst (rs.map encP)) := by subst hcu; rfl
  have hfr := frame_eq (eb := D.int) (er := encP) pcs rs vs.length (by omega)
  have hen := endsof_eq (eb := D.int) pcs vs.length (by omega)
  refine run_Weq ?_
  unfold B_judge_flat
  walk_at "ev norm"
  unfold fJ
  rw [← judges_agreeG]
  unfold judgeG
  rw [stG_len]
  refine wq_ifR (ev_not (ev_Tru (ev_call (ev_cs (ev_U (ev_V rfl) f0) (ev_cs (ev_U (ev_V rfl) f1) (ev_cs (ev_U (ev_B rfl) lV) ev_nl))) hfr) rfl)) (fun hz => ⟨_, ev_C, ?_⟩) (fun hz => ?_)
  · rw [Bool.not_eq_true'] at hz
    show D.bl false = D.bl _
    rw [hz]
    rfl
  have hfr2 : (startsB (stG pcs) vs.length && (rs.length : Int) == max 0 ((pcs.length : Int) - 1)) = true := by simpa using hz
  rw [hfr2, Bool.true_and]
  rw [Bool.and_eq_true] at hfr2
  have hrl : (rs.length : Int) = max 0 ((pcs.length : Int) - 1) := by simpa using hfr2.2
  refine wq_set (ev_call (ev_cs (ev_U (ev_V rfl) f0) (ev_cs (ev_U (ev_B rfl) lV) ev_nl)) hen) ?_
  walk_at "ev norm"
  have hzip : gZip (aC (gU (dFld 6 0) (gV 2)) (aC (gV 3) aN)) [.sh (.lst (vs.map D.int)), .sh (.int e), .sh cu, .sh (.lst ((endsOf (stG pcs) vs.length).map D.int)), .no, .no, .no, .no, .no, .no, .no] = some (zipD (pcs.map encP) ((endsOf (stG pcs) vs.length).map D.int)) := by
    unfold gZip
    rw [ev_cs (ev_U (ev_V rfl) f0) (ev_cs (ev_V rfl) ev_nl)]
    rfl
  have el : (zipD (pcs.map encP) ((endsOf (stG pcs) vs.length).map D.int)).length = pcs.length := by
    rw [zipD_len, List.length_map, List.length_map, ends_len, stG_len]
    omega
  refine wq_chk (fC vs e pcs) (fun Γ => ∃ s4 s5 s6, Γ = [.sh (.lst (vs.map D.int)), .sh (.int e), .sh cu, .sh (.lst ((endsOf (stG pcs) vs.length).map D.int)), s4, s5, s6, .no, .no, .no, .no]) hzip ⟨_, _, _, rfl⟩ ?_ ?_
  · rintro k d Γ hd ⟨s4, s5, s6, rfl⟩
    obtain ⟨x, y, g1, g2, rfl⟩ := zipD_get hd
    rw [List.getElem?_map] at g1 g2
    obtain ⟨c, w1, rfl⟩ := Option.map_eq_some_iff.mp g1
    obtain ⟨en, w2, rfl⟩ := Option.map_eq_some_iff.mp g2
    have kp := (List.getElem?_eq_some_iff.mp w1).1
    rw [pc_getG (z := (0, 0)) kp] at w1
    rw [enA_get _ _ (by rw [stG_len]; exact kp)] at w2
    cases w1
    cases w2
    refine ⟨[.sh (.lst (vs.map D.int)), .sh (.int e), .sh cu, .sh (.lst ((endsOf (stG pcs) vs.length).map D.int)), .sh (.int (stA (stG pcs) k)), .sh (.int (hA pcs k)), .sh (.int (enA (stG pcs) vs.length k)), .no, .no, .no, .no], rfl, ?_⟩
    have hall : gNot (gTru (gU dAll (gL (gLc [10] (gIt (gL (gSl (gB 0) (gSo (gV 4)) (gSo (gV 6))))) (gN 10) gYes (gOp dLe (gU dAbs (gOp dSub (gV 10) (gV 5))) (gV 1)))))) [.sh (.lst (vs.map D.int)), .sh (.int e), .sh cu, .sh (.lst ((endsOf (stG pcs) vs.length).map D.int)), .sh (.int (stA (stG pcs) k)), .sh (.int (hA pcs k)), .sh (.int (enA (stG pcs) vs.length k)), .no, .no, .no, .no] = some (!fC vs e pcs k) := by
      refine ev_not (ev_Tru (ev_U (ev_L (ev_lc (ev_it (ev_L (ev_Sl (ev_B rfl) (ev_So (ev_V rfl)) (ev_So (ev_V rfl)) d_cut))) (by rw [List.length_map]; have := cutD_len vs (some (stA (stG pcs) k)) (some (enA (stG pcs) vs.length k)); omega) (compL_map _ D.int (fun v => .bl (decide (absI (v - hA pcs k) ≤ e))) fun v _ => ⟨_, rfl, ?_⟩))) (all_map_bl _ _)) rfl)
      exact ev_op (ev_U (ev_op (ev_V rfl) (ev_V rfl) d_sub) (dabs _)) (ev_V rfl) rfl
    refine ⟨fun ht => ?_, fun ht => ?_⟩
    · rw [ht] at hall
      exact W_ifR hall (fun z => by cases z) fun _ => ⟨_, _, _, rfl⟩
    · rw [ht] at hall
      refine W_ifR hall (fun _ => ⟨_, ev_C, ?_⟩) fun z => by cases z
      show D.bl false = D.bl _
      rw [all_false (t := fC vs e pcs) kp ht]
      rfl
  rw [el]
  rintro hC Γ ⟨s4, s5, s6, rfl⟩
  rw [hC, Bool.true_and]
  have hzip3 : gZip3 (aC (gU (dFld 6 1) (gV 2)) (aC (gU (dFld 6 0) (gV 2)) (aC (gV 3) aN))) [.sh (.lst (vs.map D.int)), .sh (.int e), .sh cu, .sh (.lst ((endsOf (stG pcs) vs.length).map D.int)), s4, s5, s6, .no, .no, .no, .no] = some (zipD3 (rs.map encP) (pcs.map encP) ((endsOf (stG pcs) vs.length).map D.int)) := by
    unfold gZip3
    rw [ev_cs (ev_U (ev_V rfl) f1) (ev_cs (ev_U (ev_V rfl) f0) (ev_cs (ev_V rfl) ev_nl))]
    rfl
  have el3 : (zipD3 (rs.map encP) (pcs.map encP) ((endsOf (stG pcs) vs.length).map D.int)).length = rs.length := by
    rw [zipD3_len, List.length_map, List.length_map, List.length_map, ends_len, stG_len]
    omega
  refine wq_chk (fQ vs e pcs rs) (fun Γ => ∃ s4 s5 s6 s7 s8 s9, Γ = [.sh (.lst (vs.map D.int)), .sh (.int e), .sh cu, .sh (.lst ((endsOf (stG pcs) vs.length).map D.int)), s4, s5, s6, s7, s8, s9, .no]) hzip3 ⟨_, _, _, _, _, _, rfl⟩ ?_ ?_
  · rintro k d Γ hd ⟨s4, s5, s6, s7, s8, s9, rfl⟩
    obtain ⟨x, y, z, g1, g2, g3, rfl⟩ := zipD3_get hd
    rw [List.getElem?_map] at g1 g2 g3
    obtain ⟨r, w1, rfl⟩ := Option.map_eq_some_iff.mp g1
    obtain ⟨c, w2, rfl⟩ := Option.map_eq_some_iff.mp g2
    obtain ⟨en, w3, rfl⟩ := Option.map_eq_some_iff.mp g3
    have kr := (List.getElem?_eq_some_iff.mp w1).1
    have kp : k + 1 < pcs.length := by omega
    rw [pc_getG (z := (0, 0)) (by omega)] at w2
    rw [enA_get _ _ (by rw [stG_len]; omega)] at w3
    rw [getD_get (z := (0, 0)) kr] at w1
    cases w1
    cases w2
    cases w3
    refine ⟨[.sh (.lst (vs.map D.int)), .sh (.int e), .sh cu, .sh (.lst ((endsOf (stG pcs) vs.length).map D.int)), .sh (.int (stA (stG pcs) k)), s5, .sh (.int (enA (stG pcs) vs.length k)), .sh (.int (rA rs k).1), .sh (.int (rA rs k).2), .sh (.int (hA pcs k)), .no], rfl, ?_⟩
    have een : enA (stG pcs) vs.length k = stA (stG pcs) (k + 1) := by rw [enA_eq _ _ (by rw [stG_len]; omega), stG_len, if_pos kp]
    have hn : vs.length ≠ 0 := fun z => by
      have := hfr2.1
      rw [z] at this
      unfold startsB at this
      rw [if_pos (.inr rfl)] at this
      have hp : stG pcs ≠ [] := fun w => by
        have := stG_len pcs
        rw [w] at this
        simp at this
        omega
      cases h : stG pcs with
      | nil => exact hp h
      | cons => rw [h] at this; simp at this
    have hsts := startsB_okG (stG pcs) vs.length hn (fun w => by
      have := stG_len pcs
      rw [w] at this
      simp at this
      omega)
    rw [hsts, Bool.and_eq_true, stG_len] at hfr2
    have o1 := List.all_eq_true.mp hfr2.1.2 k (List.mem_range.mpr (by omega))
    have o2 := List.all_eq_true.mp hfr2.1.2 (k + 1) (List.mem_range.mpr kp)
    simp only [Bool.and_eq_true, okS', decide_eq_true_eq] at o1 o2
    have hch : gNot (gCh (gV 4) (gChn dLe (gV 7) (gChn dLt (gV 8) (gCh1 dLe (gV 6))))) [.sh (.lst (vs.map D.int)), .sh (.int e), .sh cu, .sh (.lst ((endsOf (stG pcs) vs.length).map D.int)), .sh (.int (stA (stG pcs) k)), s5, .sh (.int (enA (stG pcs) vs.length k)), .sh (.int (rA rs k).1), .sh (.int (rA rs k).2), .sh (.int (hA pcs k)), .no] = some (!fCh vs pcs rs k) :=
      ev_not (ev_ch (ev_V rfl) (ev_chn (ev_V rfl) rfl (ev_chn (ev_V rfl) rfl (ev_ch1 (ev_V rfl) rfl))))
    have hfar : fCh vs pcs rs k = true → gT (gOp dLe (gU dAbs (gOp dSub (gIx (gB 0) (gV 7)) (gIx (gB 0) (gV 8)))) (gOp dMul (gI 2) (gV 1))) [.sh (.lst (vs.map D.int)), .sh (.int e), .sh cu, .sh (.lst ((endsOf (stG pcs) vs.length).map D.int)), .sh (.int (stA (stG pcs) k)), s5, .sh (.int (enA (stG pcs) vs.length k)), .sh (.int (rA rs k).1), .sh (.int (rA rs k).2), .sh (.int (hA pcs k)), .no] = some (fFar vs e rs k) := fun hc => by
      simp only [fCh, Bool.and_eq_true, decide_eq_true_eq] at hc
      exact ev_T (ev_op (ev_U (ev_op (ev_op (ev_B rfl) (ev_V rfl) (ixV (by omega) (by omega))) (ev_op (ev_B rfl) (ev_V rfl) (ixV (by omega) (by omega))) d_sub) (dabs _)) (ev_op ev_I (ev_V rfl) (d_mul (mulOk_l (by omega) (by omega)))) rfl)
    refine ⟨fun hq => ?_, fun hq => ?_⟩
    · simp only [fQ, Bool.and_eq_true, Bool.not_eq_true'] at hq
      refine wq_ifR hch (fun z => by rw [hq.1] at z; cases z) fun _ => W_ifR (hfar hq.1) (fun z => by rw [hq.2] at z; cases z) fun _ => ⟨_, _, _, _, _, _, rfl⟩
    · have bad : D.bl false = D.bl ((List.range rs.length).all (fQ vs e pcs rs)) := by rw [all_false (t := fQ vs e pcs rs) kr hq]
      refine wq_ifR hch (fun z => ⟨_, ev_C, bad⟩) fun z => W_ifR (hfar (by simpa using z)) (fun z => ⟨_, ev_C, bad⟩) fun z2 => ?_
      unfold fQ at hq
      rw [z2] at hq
      have : fCh vs pcs rs k = true := by simpa using z
      rw [this] at hq
      cases hq
  rw [el3]
  rintro hQ Γ ⟨s4, s5, s6, s7, s8, s9, rfl⟩
  exact W_ret ev_C (by rw [hQ]; rfl)
/-- a flat cutting that is right has the fewest pieces -/
theorem fleast (vs : List Int) (e : Int) (he : 0 ≤ e) (pcs rs : List (Int × Int)) (c : Nat → Int) (hc : LeastG (FlatR vs e) vs.length c) (hJ : fJ vs e pcs rs = true) : (pcs.length : Int) = c vs.length := by
  unfold fJ judgedG at hJ
  rw [stG_len] at hJ
  by_cases hn : vs.length = 0 ∨ pcs.length = 0
  · rw [if_pos hn] at hJ
    simp only [Bool.and_eq_true, decide_eq_true_eq] at hJ
    rw [hJ.1, hJ.2.1, hc.zero]
    rfl
  · rw [if_neg hn] at hJ
    simp only [not_or] at hn
    simp only [Bool.and_eq_true, List.all_eq_true, List.mem_range, beq_iff_eq] at hJ
    obtain ⟨⟨a1, a2⟩, a3, a4⟩ := hJ
    have oS : ∀ k, k < pcs.length → (0 ≤ stA (stG pcs) k ∧ stA (stG pcs) k < enA (stG pcs) vs.length k ∧ enA (stG pcs) vs.length k ≤ vs.length) := fun k hk => by
      have := (a3 k hk).1
      simpa [okS', Bool.and_eq_true] using this
    have een : ∀ k, k < pcs.length → enA (stG pcs) vs.length k = if k + 1 < pcs.length then stA (stG pcs) (k + 1) else (vs.length : Int) := fun k hk => by rw [enA_eq _ _ (by rw [stG_len]; exact hk), stG_len]
    refine (LeastG.eq (R := FlatR vs e) FlatR.mono hc (fun k => if k < pcs.length then (stA (stG pcs) k).toNat else vs.length) ?_ ?_ ?_ ?_ ?_).symm
    · show (if 0 < pcs.length then _ else _) = 0
      rw [if_pos (by omega), a1]
      rfl
    · show (if pcs.length < pcs.length then _ else _) = _
      rw [if_neg (by omega)]
    · intro k hk
      have h1 := oS k hk
      have h2 := een k hk
      show (if k < pcs.length then _ else _) < (if k + 1 < pcs.length then _ else _)
      rw [if_pos hk]
      split at h2
      · rename_i z
        rw [if_pos z]
        have := oS (k + 1) z
        omega
      · rename_i z
        rw [if_neg z]
        omega
    · intro k hk i j i1 i2 i3
      have h1 := oS k hk
      have h2 := een k hk
      have hCk := (a3 k hk).2
      have i1 : (if k < pcs.length then (stA (stG pcs) k).toNat else vs.length) ≤ i := i1
      have i3 : j < (if k + 1 < pcs.length then (stA (stG pcs) (k + 1)).toNat else vs.length) := i3
      rw [if_pos hk] at i1
      have hen : j < (enA (stG pcs) vs.length k).toNat := by
        rw [h2]
        split at i3
        · rename_i z; rw [if_pos z]; exact i3
        · rename_i z; rw [if_neg z]; exact i3
      have near : ∀ m, (stA (stG pcs) k).toNat ≤ m → m < (enA (stG pcs) vs.length k).toNat → absI (vAt vs m - hA pcs k) ≤ e := fun m m1 m2 => by
        have e1 : stA (stG pcs) k = ((stA (stG pcs) k).toNat : Int) := by omega
        have e2 : enA (stG pcs) vs.length k = ((enA (stG pcs) vs.length k).toNat : Int) := by omega
        unfold fC at hCk
        rw [e1, e2] at hCk
        have := List.all_eq_true.mp hCk (vAt vs m) ((slice_mem (by omega)).mpr ⟨m, m1, m2, rfl⟩)
        exact of_decide_eq_true this
      have n1 := near i i1 (by omega)
      have n2 := near j (by omega) hen
      rw [absI_le] at n1 n2 ⊢
      omega
    · intro k hk hR
      have hQk := a4 k (by omega)
      simp only [fQ, fCh, fFar, Bool.and_eq_true, Bool.not_eq_true', decide_eq_true_eq, decide_eq_false_iff_not] at hQk
      have h2 := een k (by omega)
      rw [if_pos hk] at h2
      have s1 := oS k (by omega)
      have s2 := oS (k + 1) hk
      have hR : FlatR vs e (if k < pcs.length then (stA (stG pcs) k).toNat else vs.length) ((if k + 1 < pcs.length then (stA (stG pcs) (k + 1)).toNat else vs.length) + 1) := hR
      rw [if_pos (by omega), if_pos hk] at hR
      exact hQk.2 (hR (rA rs k).1.toNat (rA rs k).2.toNat (by omega) (by omega) (by omega))
theorem fmk_eq (xs ys : List D) : S_FlatCutting___init__ (.ob 6 []) [.lst xs, .lst ys] = some (.non, .ob 6 [.sh (.lst xs), .sh (.lst ys)]) := by
  first | unfold S_FlatCutting___init__ runMK B_FlatCutting___init__ | unfold S_FlatCutting___init__ runM B_FlatCutting___init__
  rfl
/-! pieces taken in turn, whatever a longest piece is -/
def trCond : Te := gT (gOp dLt (gV 4) (gV 1))
noncomputable def trBody (d0 : D) (F : List D → Option D) : Sm :=
  (sSeq (sUnp (gTg 3 (gTo (gN 5) (gTo (gN 6) (gTo (gN 7) gEnd)))) (gFn d0 F 0 (aC (gV 4) aN)))
  (sSeq (sApp 2 [] (gTu 2 (aC (gV 4) (aC (gV 6) aN))))
  (sSeq (sIf (gT (gOp dNoN (gB 7) (gC .non)))
  (sApp 3 [] (gV 7))
  sNil)
  (sSet 4 (gV 5)))))
theorem turn_step {d0 : D} {F : List D → Option D} {n s en : Nat} {sh w : D} {ps rs : List D} {s5 s6 s7 : Sl} (hF : F [.int s] = some (.tup [.int en, sh, w])) (lp : ps.length < 1000000) (lr : rs.length < 1000000) :
    trBody d0 F [.sh d0, .sh (.int n), .ow ps, .ow rs, .sh (.int s), s5, s6, s7] = some (.nx [.sh d0, .sh (.int n), .ow (ps ++ [.tup [.int s, sh]]), .ow (if isNon w then rs else rs ++ [w]), .sh (.int en), .sh (.int en), .sh sh, .sh w]) := by
  unfold trBody
  refine sq_unp (d := .tup [.int en, sh, w]) (ev_fn rfl (ev_cs (ev_V rfl) ev_nl) hF) rfl ?_
  refine sq_app (xs := ps) (d := .tup [.int s, sh]) (ev_tu (ev_cs (ev_V rfl) (ev_cs (ev_V rfl) ev_nl))) rfl lp ?_
  have ht : gT (gOp dNoN (gB 7) (gC .non)) [.sh d0, .sh (.int n), .ow (ps ++ [.tup [.int s, sh]]), .ow rs, .sh (.int s), .sh (.int en), .sh sh, .sh w] = some (!isNon w) := ev_T (ev_op (ev_B rfl) ev_C rfl)
  cases e : isNon w with
  | true =>
    rw [e] at ht
    exact sv_nx (sv_ifF ht rfl) (sv_set (ev_V rfl))
  | false =>
    rw [e] at ht
    exact sv_nx (sv_ifT ht (sv_app0 (xs := rs) (ev_V rfl) rfl lr)) (sv_set (ev_V rfl))
theorem turn_loop {F : List D → Option D} {n : Nat} (hn : n < 10000) (I : List D → List D → Nat → Prop) (hs : ∀ ps rs s, I ps rs s → s < n → ∃ (en : Nat) (sh w : D), F [.int s] = some (.tup [.int en, sh, w]) ∧ s < en ∧ I (ps ++ [.tup [.int s, sh]]) (if isNon w then rs else rs ++ [w]) en) :
    ∀ (r s : Nat) (ps rs : List D), n - s ≤ r → I ps rs s → ps.length ≤ s → rs.length ≤ s →
      ∃ ps' rs' s', I ps' rs' s' ∧ n ≤ s' ∧ ∀ (d0 : D) (s5 s6 s7 : Sl), ∃ k s5' s6' s7', whileN k trCond (trBody d0 F) [.sh d0, .sh (.int n), .ow ps, .ow rs, .sh (.int s), s5, s6, s7] = some (.nx [.sh d0, .sh (.int n), .ow ps', .ow rs', .sh (.int s'), s5', s6', s7']) := by
  have c0 : ∀ (d0 : D) (s : Nat) (ps rs : List D) (s5 s6 s7 : Sl), trCond [.sh d0, .sh (.int n), .ow ps, .ow rs, .sh (.int s), s5, s6, s7] = some (decide ((s : Int) < n)) := fun d0 s ps rs s5 s6 s7 => ev_T (ev_op (x := .int s) (y := .int n) (ev_V rfl) (ev_V rfl) rfl)
  have stop : ∀ (s : Nat) (ps rs : List D), n ≤ s → I ps rs s → ∃ ps' rs' s', I ps' rs' s' ∧ n ≤ s' ∧ ∀ (d0 : D) (s5 s6 s7 : Sl), ∃ k s5' s6' s7', whileN k trCond (trBody d0 F) [.sh d0, .sh (.int n), .ow ps, .ow rs, .sh (.int s), s5, s6, s7] = some (.nx [.sh d0, .sh (.int n), .ow ps', .ow rs', .sh (.int s'), s5', s6', s7']) := fun s ps rs h hI =>
    ⟨ps, rs, s, hI, h, fun d0 s5 s6 s7 => ⟨1, s5, s6, s7, whileN_no (by rw [c0, decide_eq_false (by omega)])⟩⟩
  intro r
  induction r with
  | zero => intro s ps rs hr hI _ _; exact stop s ps rs (by omega) hI
  | succ r ih =>
    intro s ps rs hr hI lp lr
    by_cases h : s < n
    · obtain ⟨en, sh, w, hF, lt, hI'⟩ := hs ps rs s hI h
      obtain ⟨ps', rs', s', a1, a2, a3⟩ := ih en (ps ++ [.tup [.int s, sh]]) (if isNon w then rs else rs ++ [w]) (by omega) hI' (by simp; omega) (by split <;> first | omega | (simp; omega))
      refine ⟨ps', rs', s', a1, a2, fun d0 s5 s6 s7 => ?_⟩
      obtain ⟨k, b5, b6, b7, hk⟩ := a3 d0 (.sh (.int en)) (.sh sh) (.sh w)
      exact ⟨k + 1, b5, b6, b7, whileN_nx (by rw [c0, decide_eq_true (by omega)]) (turn_step hF (by omega) (by omega)) hk⟩
    · exact stop s ps rs (by omega) hI
theorem turn_eq {F : List D → Option D} {n : Nat} (hn : n < 10000) (I : List D → List D → Nat → Prop) (h0 : I [] [] 0) (hs : ∀ ps rs s, I ps rs s → s < n → ∃ (en : Nat) (sh w : D), F [.int s] = some (.tup [.int en, sh, w]) ∧ s < en ∧ I (ps ++ [.tup [.int s, sh]]) (if isNon w then rs else rs ++ [w]) en) :
    ∃ ps rs s, I ps rs s ∧ n ≤ s ∧ ∀ d0, S_taken_in_turn d0 F [d0, .int n] = some (.tup [.lst ps, .lst rs]) := by
  obtain ⟨ps, rs, s, h1, h2, h3⟩ := turn_loop hn I hs n 0 [] [] (by omega) h0 (by simp) (by simp)
  refine ⟨ps, rs, s, h1, h2, fun d0 => ?_⟩
  obtain ⟨k, s5, s6, s7, w⟩ := h3 d0 .no .no .no
  refine sv_run ?_
  unfold B_taken_in_turn
  refine sq_setO ev_nl (sq_setO ev_nl (sq_set ev_I (sv_nx (sWhile_of w) ?_)))
  rfl
theorem gCall_of {Γ : DEnv} {S : List D → Option D} {fs : Ag} {ds : List D} (h : fs Γ = some ds) : gCall S fs Γ = S ds := by
  unfold gCall
  rw [h]
  rfl
/-! the least number of parts, by trying all cuts -/
theorem LeastG.unique {R : Nat → Nat → Prop} {n : Nat} {c c' : Nat → Int} (h : LeastG R n c) (h' : LeastG R n c') : ∀ m t, t ≤ m → t ≤ n → c t = c' t := by
  intro m
  induction m with
  | zero => intro t h1 _; have : t = 0 := by omega
            rw [this, h.zero, h'.zero]
  | succ m ih =>
    intro t h1 h2
    by_cases h0 : t = 0
    · rw [h0, h.zero, h'.zero]
    · obtain ⟨s, h3, h4, h5⟩ := h.lo t (by omega) h2
      obtain ⟨s', k3, k4, k5⟩ := h'.lo t (by omega) h2
      have a1 := ih s (by omega) (by omega)
      have a2 := ih s' (by omega) (by omega)
      have b1 := h'.up t s h2 h3 h4
      have b2 := h.up t s' h2 k3 k4
      omega
theorem fewest_one {d0 : D} {F : List D → Option D} (n : Nat) (R : Nat → Nat → Prop) (St : Nat → Nat → Bool) (hl : n < 1000) (h1R : ∀ k, k < n → R k (k + 1)) (hF : ∀ s t : Nat, s + 1 < t → t ≤ n → F [.int s, .int t] = some (.bl (St s t))) (hSt : ∀ s t : Nat, s + 1 < t → t ≤ n → (St s t = true ↔ R s t)) : ∃ c : Nat → Int, S_fewest_parts d0 F [.int n, d0] = some (.int (c n)) ∧ LeastG R n c := by
  have hloop := forL_rng (gs := gN 3) (F := (sSeq (sSet 4 (gOp dAdd (gIx (gB 2) (gOp dSub (gV 3) (gI 1))) (gI 1)))
    (sSeq (sFor (gRng (aC (gOp dSub (gV 3) (gI 1)) aN)) (gN 5)
    (sIf (gAnd (gT (gOp dLt (gOp dAdd (gIx (gB 2) (gV 5)) (gI 1)) (gV 4))) (gTru (gFn d0 F 1 (aC (gV 5) (aC (gV 3) aN)))))
    (sSet 4 (gOp dAdd (gIx (gB 2) (gV 5)) (gI 1)))
    sNil))
    (sApp 2 [] (gV 4))))) n 1
    (fun k Γ => ∃ (cs : List Int) (s3 s4 s5 : Sl), Γ = [.sh (.int n), .sh d0, .ow (cs.map D.int), s3, s4, s5] ∧ cs.length = k + 1 ∧ LeastG R k (fun t => cs.getD t 0)) ?_
    [.sh (.int n), .sh d0, .ow ([(0 : Int)].map D.int), .no, .no, .no] ⟨[0], .no, .no, .no, rfl, rfl, rfl, fun t s h1 h2 => by omega, fun t h1 h2 => by omega⟩
  · obtain ⟨Γ', hf, cs, s3, s4, s5, rfl, h1, h2⟩ := hloop
    refine ⟨fun t => cs.getD t 0, ?_, h2⟩
    refine sv_run ?_
    unfold B_fewest_parts
    refine sq_setO (ev_cs ev_I ev_nl) ?_
    refine sv_nx (sv_for ?_ hf) (sv_ret (ev_op (ev_Bo rfl) (ev_V rfl) (d_ixC (k := n) ?_ rfl)))
    · refine (ev_rng2 (m := 1) (j := (n : Int) + 1) (ev_cs ev_I (ev_cs (ev_op (ev_V rfl) ev_I d_add) ev_nl)) (by omega) (by omega) (by omega) (by omega)).trans ?_
      have z : ((n : Int) + 1 - 1).toNat = n := by omega
      rw [z]
    · show cs[n]? = some (cs.getD n 0)
      rw [List.getD_eq_getElem?_getD, List.getElem?_eq_getElem (by omega)]
      rfl
  · rintro k Γ hk ⟨cs, s3, s4, s5, rfl, h1, h2⟩
    have get : ∀ t, t < k + 1 → cs[t]? = some (cs.getD t 0) := fun t ht => by
      rw [List.getD_eq_getElem?_getD, List.getElem?_eq_getElem (by omega)]
      rfl
    refine ⟨[.sh (.int n), .sh d0, .ow (cs.map D.int), .sh (.int (1 + (k : Nat))), s4, s5], ?_⟩
    -- the best last piece
    have hin := forL_rng (gs := gN 5) (F := (sIf (gAnd (gT (gOp dLt (gOp dAdd (gIx (gB 2) (gV 5)) (gI 1)) (gV 4))) (gTru (gFn d0 F 1 (aC (gV 5) (aC (gV 3) aN)))))
      (sSet 4 (gOp dAdd (gIx (gB 2) (gV 5)) (gI 1)))
      sNil)) k 0
      (fun j Γ => ∃ (best : Int) (s5 : Sl), Γ = [.sh (.int n), .sh d0, .ow (cs.map D.int), .sh (.int (1 + (k : Nat))), .sh (.int best), s5] ∧ (∀ s, (s < j ∨ s = k) → R s (k + 1) → best ≤ cs.getD s 0 + 1) ∧ ∃ s, s < k + 1 ∧ R s (k + 1) ∧ best = cs.getD s 0 + 1) ?_
      [.sh (.int n), .sh d0, .ow (cs.map D.int), .sh (.int (1 + (k : Nat))), .sh (.int (cs.getD k 0 + 1)), s5] ⟨_, _, rfl, fun s h _ => by rcases h with h | h <;> first | omega | (subst h; exact Int.le_refl _), k, by omega, h1R k hk, rfl⟩
    · obtain ⟨Γ', hf, best, s5, rfl, b1, s, b2, b3, b4⟩ := hin
      have ext : ∀ t, t < k + 1 → (cs ++ [best]).getD t 0 = cs.getD t 0 := fun t ht => by
        rw [List.getD_eq_getElem?_getD, List.getD_eq_getElem?_getD, List.getElem?_append_left (by omega)]
      have new : (cs ++ [best]).getD (k + 1) 0 = best := by
        rw [List.getD_eq_getElem?_getD, List.getElem?_append_right (by omega), h1, Nat.sub_self]
        rfl
      have happ := sv_app0 (i := 2) (Γ := [.sh (.int n), .sh d0, .ow (cs.map D.int), .sh (.int (1 + (k : Nat))), .sh (.int best), s5]) (xs := cs.map D.int) (f := gV 4) (ev_V rfl) rfl (by rw [List.length_map]; omega)
      refine ⟨_, rfl, .inl (sq_set (d := .int (cs.getD k 0 + 1)) (ev_op (ev_op (ev_Bo rfl) (ev_op (ev_V rfl) ev_I d_sub) (d_ixC (k := k) (get k (by omega)) (by omega))) ev_I d_add) (sv_nx (sv_for ?_ hf) happ)), cs ++ [best], .sh (.int (1 + (k : Nat))), .sh (.int best), s5, ?_, by simp [h1], ?_⟩
      · refine (ev_rng1 (m := 1 + (k : Nat) - 1) (ev_cs (ev_op (ev_V rfl) ev_I d_sub) ev_nl) (by omega) (by omega)).trans ?_
        have z : (1 + (k : Int) - 1).toNat = k := by omega
        rw [z]
      · rw [List.map_append]; rfl
      · refine ⟨?_, fun t s' ht hs hfit => ?_, fun t h0 ht => ?_⟩
        · show (cs ++ [best]).getD 0 0 = 0
          rw [ext 0 (by omega)]; exact h2.zero
        · show (cs ++ [best]).getD t 0 ≤ (cs ++ [best]).getD s' 0 + 1
          by_cases z : t = k + 1
          · subst z
            rw [new, ext s' (by omega)]
            exact b1 s' (by omega) hfit
          · rw [ext t (by omega), ext s' (by omega)]
            exact h2.up t s' (by omega) hs hfit
        · show ∃ s, s < t ∧ R s t ∧ (cs ++ [best]).getD t 0 = (cs ++ [best]).getD s 0 + 1
          by_cases z : t = k + 1
          · subst z
            exact ⟨s, b2, b3, by rw [new, ext s b2]; exact b4⟩
          · obtain ⟨s', c1, c2, c3⟩ := h2.lo t h0 (by omega)
            exact ⟨s', c1, c2, by rw [ext t (by omega), ext s' (by omega)]; exact c3⟩
    · rintro j Γ hj ⟨best, s5, rfl, b1, s, b2, b3, b4⟩
      refine ⟨[.sh (.int n), .sh d0, .ow (cs.map D.int), .sh (.int (1 + (k : Nat))), .sh (.int best), .sh (.int (0 + (j : Nat)))], ?_⟩
      have ij : dIx (.lst (cs.map D.int)) (.int (0 + (j : Nat))) = some (.int (cs.getD j 0)) := d_ixC (k := j) (get j (by omega)) (by omega)
      have e1 : (0 + (j : Int)) = (j : Int) := by omega
      have e2 : (1 + (k : Int)) = ((k + 1 : Nat) : Int) := by omega
      have hfit : F [.int (0 + (j : Nat)), .int (1 + (k : Nat))] = some (.bl (St j (k + 1))) := by
        rw [e1, e2]
        exact hF j (k + 1) (by omega) (by omega)
      have fs := hSt j (k + 1) (by omega) (by omega)
      have ht : gAnd (gT (gOp dLt (gOp dAdd (gIx (gB 2) (gV 5)) (gI 1)) (gV 4))) (gTru (gFn d0 F 1 (aC (gV 5) (aC (gV 3) aN)))) [.sh (.int n), .sh d0, .ow (cs.map D.int), .sh (.int (1 + (k : Nat))), .sh (.int best), .sh (.int (0 + (j : Nat)))] = some (decide (cs.getD j 0 + 1 < best) && St j (k + 1)) :=
        ev_and (ev_T (ev_op (ev_op (ev_op (ev_Bo rfl) (ev_V rfl) ij) ev_I d_add) (ev_V rfl) rfl)) (ev_Tru (ev_fn rfl (ev_cs (ev_V rfl) (ev_cs (ev_V rfl) ev_nl)) hfit) rfl)
      cases hc : decide (cs.getD j 0 + 1 < best) && St j (k + 1) with
      | true =>
        rw [hc] at ht
        rw [Bool.and_eq_true, decide_eq_true_eq, fs] at hc
        refine ⟨_, rfl, .inl (sv_ifT ht (sv_set (ev_op (ev_op (ev_Bo rfl) (ev_V rfl) ij) ev_I d_add))), cs.getD j 0 + 1, _, rfl, fun s' hs hf' => ?_, j, by omega, hc.2, rfl⟩
        by_cases z : s' = j
        · rw [z]; exact Int.le_refl _
        · have := b1 s' (by omega) hf'
          omega
      | false =>
        rw [hc] at ht
        refine ⟨_, rfl, .inl (sv_ifF ht rfl), best, _, rfl, fun s' hs hf' => ?_, s, b2, b3, b4⟩
        by_cases z : s' = j
        · subst z
          have f1 := fs.mpr hf'
          rw [f1, Bool.and_true] at hc
          simp only [decide_eq_false_iff_not] at hc
          omega
        · exact b1 s' (by omega) hf'
theorem fewest_eq {F : List D → Option D} (n : Nat) (R : Nat → Nat → Prop) (St : Nat → Nat → Bool) (hl : n < 1000) (h1R : ∀ k, k < n → R k (k + 1)) (hF : ∀ s t : Nat, s + 1 < t → t ≤ n → F [.int s, .int t] = some (.bl (St s t))) (hSt : ∀ s t : Nat, s + 1 < t → t ≤ n → (St s t = true ↔ R s t)) : ∃ c : Nat → Int, (∀ d0, S_fewest_parts d0 F [.int n, d0] = some (.int (c n))) ∧ LeastG R n c := by
  obtain ⟨c, _, hc⟩ := fewest_one (d0 := .non) n R St hl h1R hF hSt
  refine ⟨c, fun d0 => ?_, hc⟩
  obtain ⟨c', h, hc'⟩ := fewest_one (d0 := d0) n R St hl h1R hF hSt
  rw [h, hc.unique hc' n n (Nat.le_refl _) (Nat.le_refl _)]
/-! flat pieces by trying all pairs; the longest flat piece -/
theorem combD2_map (xs : List Int) : combD 2 (xs.map D.int) = (combI 2 xs.length).map fun ix => encP (vAt xs (ix.getD 0 0), vAt xs (ix.getD 1 0)) := by
  unfold combD
  rw [List.length_map]
  refine List.map_congr_left fun ix hix => ?_
  obtain ⟨i, j, rfl, h1, h2⟩ := comb2_mem.mp hix
  have g : ∀ k, k < xs.length → (xs.map D.int).getD k .non = .int (vAt xs k) := fun k hk => by
    rw [List.getD_eq_getElem?_getD, List.getElem?_map, vAt_get hk]
    rfl
  show D.tup [(xs.map D.int).getD i .non, (xs.map D.int).getD j .non] = _
  rw [g i (by omega), g j (by omega)]
  rfl
theorem pflat_eq (xs : List Int) (e : Int) : ∃ b : Bool, S_plain_flat [.lst (xs.map D.int), .int e] = some (.bl b) ∧ (b = true ↔ FlatR xs e 0 xs.length) := by
  have key : ∃ d, S_plain_flat [.lst (xs.map D.int), .int e] = some d ∧ ∃ b : Bool, d = .bl b ∧ (b = true ↔ FlatR xs e 0 xs.length) := by
    refine run_W ?_
    unfold B_plain_flat
    walk_at "ev norm"
    refine wq_map (xs := combI 2 xs.length) (enc := fun ix => encP (vAt xs (ix.getD 0 0), vAt xs (ix.getD 1 0))) (fun k Γ => (∃ s2 s3, Γ = [.sh (.lst (xs.map D.int)), .sh (.int e), s2, s3]) ∧ ∀ m ix, m < k → (combI 2 xs.length)[m]? = some ix → absI (vAt xs (ix.getD 0 0) - vAt xs (ix.getD 1 0)) ≤ 2 * e) ?_ ⟨⟨.no, .no, rfl⟩, fun m ix hm => by omega⟩ ?_ ?_
    · rw [← combD2_map]
      unfold gComb
      rw [ev_cs (ev_V rfl) (ev_cs ev_I ev_nl)]
      rfl
    · rintro k ix Γ hk ⟨⟨s2, s3, rfl⟩, hI⟩
      obtain ⟨i, j, rfl, h1, h2⟩ := comb2_mem.mp (List.mem_of_getElem? hk)
      refine ⟨[.sh (.lst (xs.map D.int)), .sh (.int e), .sh (.int (vAt xs i)), .sh (.int (vAt xs j))], rfl, ?_⟩
      refine W_ifR (ev_T (ev_op (ev_U (ev_op (ev_V rfl) (ev_V rfl) d_sub) (dabs _)) (ev_op ev_I (ev_V rfl) (d_mul (mulOk_l (by omega) (by omega)))) rfl)) (fun hc => ⟨_, ev_C, false, rfl, ?_⟩) (fun hc => ⟨⟨_, _, rfl⟩, fun m ix hm hix => ?_⟩)
      · have hc := of_decide_eq_true hc
        refine ⟨fun z => (by cases z), fun z => ?_⟩
        have := z i j (Nat.zero_le _) h1 h2
        omega
      · by_cases z : m = k
        · subst z
          rw [hk] at hix
          cases hix
          have hc := of_decide_eq_false hc
          show absI (vAt xs i - vAt xs j) ≤ 2 * e
          omega
        · exact hI m ix (by omega) hix
    · rintro Γ ⟨⟨s2, s3, rfl⟩, hI⟩
      refine W_ret ev_C ⟨true, rfl, ⟨fun _ i j h1 h2 h3 => ?_, fun _ => rfl⟩⟩
      obtain ⟨m, hm⟩ := List.mem_iff_getElem?.mp (comb2_mem.mpr ⟨i, j, rfl, h2, h3⟩)
      exact hI m _ (List.getElem?_eq_some_iff.mp hm).1 hm
  obtain ⟨_, h1, b, rfl, h2⟩ := key
  exact ⟨b, h1, h2⟩
theorem between_eq (a b : Int) : S_between [.int a, .int b] = some (.int ((a + b) / 2)) := by
  refine run_Weq ?_
  unfold B_between
  exact W_ret (ev_op (ev_op (ev_V rfl) (ev_V rfl) d_add) ev_I (d_div (by decide) (by decide +kernel))) rfl
/-- what a longest flat piece says -/
def LfOk (vs : List Int) (e : Int) (s : Nat) (d : D) : Prop :=
  (∃ h, d = .tup [.int vs.length, .int h, .non] ∧ FlatR vs e s vs.length ∧ ∀ m, s ≤ m → m < vs.length → absI (vAt vs m - h) ≤ e) ∨
  (∃ t i : Nat, ∃ h, d = .tup [.int t, .int h, encP (i, t)] ∧ s < t ∧ t < vs.length ∧ FlatR vs e s t ∧ s ≤ i ∧ i < t ∧ 2 * e < absI (vAt vs i - vAt vs t) ∧ ∀ m, s ≤ m → m < t → absI (vAt vs m - h) ≤ e)
theorem flat_mid {vs : List Int} {e : Int} {s t le gr : Nat} (he : 0 ≤ e) (hf : FlatR vs e s t) (h1 : s ≤ le) (h2 : le < t) (h3 : s ≤ gr) (h4 : gr < t) (h5 : ∀ m, s ≤ m → m < t → vAt vs le ≤ vAt vs m ∧ vAt vs m ≤ vAt vs gr) : ∀ m, s ≤ m → m < t → absI (vAt vs m - (vAt vs le + vAt vs gr) / 2) ≤ e := by
  have d : vAt vs gr - vAt vs le ≤ 2 * e := by
    rcases Nat.lt_trichotomy le gr with z | z | z
    · have := hf le gr h1 z h4
      rw [absI_le] at this
      omega
    · subst z
      omega
    · have := hf gr le h3 z h2
      rw [absI_le] at this
      omega
  intro m m1 m2
  have := h5 m m1 m2
  rw [absI_le]
  omega
theorem lflong_eq (vs : List Int) (s : Nat) (e : Int) (he : 0 ≤ e) (hl : vs.length < 1000) (hs : s < vs.length) : ∃ d, S_longest_flat [.lst (vs.map D.int), .int s, .int e] = some d ∧ LfOk vs e s d := by
  have lV : dLen (.lst (vs.map D.int)) = some (.int vs.length) := by rw [d_lenL, List.length_map]
  have ixv : ∀ k : Nat, k < vs.length → ∀ m : Int, m = k → dIx (.lst (vs.map D.int)) (.int m) = some (.int (vAt vs k)) := fun k hk m em => d_ixC (k := k) (vAt_get hk) em
  refine run_W ?_
  unfold B_longest_flat
  walk_at "ev norm"
  refine W_seq ⟨.nx [.sh (.lst (vs.map D.int)), .sh (.int s), .sh (.int e), .sh (.int s), .sh (.int s), .no, .no], rfl, ?_⟩
  refine wq_rng (n := vs.length - s) (lo := (s : Int)) (fun k Γ => ∃ (le gr : Nat) (s5 s6 : Sl), Γ = [.sh (.lst (vs.map D.int)), .sh (.int s), .sh (.int e), .sh (.int le), .sh (.int gr), s5, s6] ∧ s ≤ le ∧ (le < s + k ∨ k = 0 ∧ le = s) ∧ s ≤ gr ∧ (gr < s + k ∨ k = 0 ∧ gr = s) ∧ FlatR vs e s (s + k) ∧ ∀ m, s ≤ m → m < s + k → vAt vs le ≤ vAt vs m ∧ vAt vs m ≤ vAt vs gr) ?_ ⟨s, s, .no, .no, rfl, Nat.le_refl _, .inr ⟨rfl, rfl⟩, Nat.le_refl _, .inr ⟨rfl, rfl⟩, fun i j h1 h2 h3 => by omega, fun m h1 h2 => by omega⟩ ?_ ?_
  · refine (ev_rng2 (m := (s : Int)) (j := (vs.length : Int)) (ev_cs (ev_V rfl) (ev_cs (ev_U (ev_B rfl) lV) ev_nl)) (by omega) (by omega) (by omega) (by omega)).trans ?_
    have z : ((vs.length : Int) - (s : Int)).toNat = vs.length - s := by omega
    rw [z]
  · rintro k Γ hk ⟨le, gr, s5, s6, rfl, a1, a2, a3, a4, hf, hb⟩
    have ek : ((s : Int) + (k : Nat)) = ((s + k : Nat) : Int) := by omega
    rw [ek]
    have hx : s + k < vs.length := by omega
    refine ⟨_, rfl, ?_⟩
    walk_at "ev norm"
    have hlt : ∀ o ∈ [le, gr], o < vs.length := by
      intro o ho
      simp only [List.mem_cons, List.not_mem_nil, or_false] at ho
      rcases ho with rfl | rfl <;> omega
    have hit : gIt (gTu 2 (aC (gV 3) (aC (gV 4) aN))) [.sh (.lst (vs.map D.int)), .sh (.int s), .sh (.int e), .sh (.int le), .sh (.int gr), .sh (.int ((s + k : Nat) : Int)), s6] = some ([le, gr].map fun o : Nat => D.int o) := ev_itT (ev_tu (ev_cs (ev_V rfl) (ev_cs (ev_V rfl) ev_nl)))
    refine wq_map (xs := [le, gr]) (enc := fun o : Nat => D.int o) (fun m Γ => (∃ s6, Γ = [.sh (.lst (vs.map D.int)), .sh (.int s), .sh (.int e), .sh (.int le), .sh (.int gr), .sh (.int ((s + k : Nat) : Int)), s6]) ∧ ∀ j, j < m → absI (vAt vs (s + k) - vAt vs ([le, gr].getD j 0)) ≤ 2 * e) hit ⟨⟨_, rfl⟩, fun j h => by omega⟩ ?_ ?_
    · rintro m o Γ hm ⟨⟨s6, rfl⟩, hI⟩
      have ho := List.mem_of_getElem? hm
      have hol := hlt o ho
      refine ⟨[.sh (.lst (vs.map D.int)), .sh (.int s), .sh (.int e), .sh (.int le), .sh (.int gr), .sh (.int ((s + k : Nat) : Int)), .sh (.int o)], rfl, ?_⟩
      refine W_ifR (ev_T (ev_op (ev_U (ev_op (ev_op (ev_B rfl) (ev_V rfl) (ixv (s + k) hx _ rfl)) (ev_op (ev_B rfl) (ev_V rfl) (ixv o hol _ rfl)) d_sub) (dabs _)) (ev_op ev_I (ev_V rfl) (d_mul (mulOk_l (by omega) (by omega)))) rfl)) (fun hc => ?_) (fun hc => ⟨⟨_, rfl⟩, fun j hj => ?_⟩)
      · have hc := of_decide_eq_true hc
        have k0 : k ≠ 0 := by
          rintro rfl
          have e1 : o = s := by
            simp only [List.mem_cons, List.not_mem_nil, or_false] at ho
            rcases ho with e2 | e2 <;> omega
          subst e1
          have : vAt vs (o + 0) - vAt vs o = 0 := by
            rw [Nat.add_zero]
            omega
          rw [this] at hc
          unfold absI at hc
          rw [if_neg (by omega)] at hc
          omega
        have ho1 : s ≤ o ∧ o < s + k := by
          simp only [List.mem_cons, List.not_mem_nil, or_false] at ho
          rcases ho with rfl | rfl <;> omega
        refine ⟨_, ev_tu (ev_cs (ev_V rfl) (ev_cs (ev_call (ev_cs (ev_op (ev_B rfl) (ev_V rfl) (ixv le (hlt le (by simp)) _ rfl)) (ev_cs (ev_op (ev_B rfl) (ev_V rfl) (ixv gr (hlt gr (by simp)) _ rfl)) ev_nl)) (between_eq _ _)) (ev_cs (ev_tu (ev_cs (ev_V rfl) (ev_cs (ev_V rfl) ev_nl))) ev_nl))), .inr ⟨s + k, o, _, rfl, by omega, hx, hf, ho1.1, ho1.2, ?_, flat_mid he hf a1 (by omega) a3 (by omega) hb⟩⟩
        rw [absI_swap]
        exact hc
      · have hc := of_decide_eq_false hc
        by_cases z : j = m
        · subst z
          rw [List.getD_eq_getElem?_getD, hm]
          show absI (vAt vs (s + k) - vAt vs o) ≤ 2 * e
          omega
        · exact hI j (by omega)
    · rintro Γ ⟨⟨s6, rfl⟩, hI⟩
      have n1 : absI (vAt vs (s + k) - vAt vs le) ≤ 2 * e := hI 0 (by show 0 < 2; omega)
      have n2 : absI (vAt vs (s + k) - vAt vs gr) ≤ 2 * e := hI 1 (by show 1 < 2; omega)
      have hf' : FlatR vs e s (s + (k + 1)) := by
        intro i j i1 i2 i3
        by_cases z : j = s + k
        · subst z
          have := hb i i1 i2
          rw [absI_le] at n1 n2 ⊢
          omega
        · exact hf i j i1 i2 (by omega)
      have lel : le < vs.length := hlt le (by simp)
      have grl : gr < vs.length := hlt gr (by simp)
      -- the least, then the greatest
      have two : ∀ le' : Nat, s ≤ le' → le' < s + k + 1 → (∀ m, s ≤ m → m < s + k + 1 → vAt vs le' ≤ vAt vs m) → W (sIf (gT (gOp dGt (gIx (gB 0) (gV 5)) (gIx (gB 0) (gV 4)))) (sSet 4 (gV 5)) sNil) [.sh (.lst (vs.map D.int)), .sh (.int s), .sh (.int e), .sh (.int le'), .sh (.int gr), .sh (.int ((s + k : Nat) : Int)), s6] (fun r => ∃ (gr' : Nat), r = .nx [.sh (.lst (vs.map D.int)), .sh (.int s), .sh (.int e), .sh (.int le'), .sh (.int gr'), .sh (.int ((s + k : Nat) : Int)), s6] ∧ s ≤ gr' ∧ gr' < s + k + 1 ∧ ∀ m, s ≤ m → m < s + k + 1 → vAt vs m ≤ vAt vs gr') := by
        intro le' _ _ _
        refine W_if (ev_T (ev_op (ev_op (ev_B rfl) (ev_V rfl) (ixv (s + k) hx _ rfl)) (ev_op (ev_B rfl) (ev_V rfl) (ixv gr grl _ rfl)) rfl)) (fun hc => W_set (ev_V rfl) ⟨s + k, rfl, by omega, by omega, fun m m1 m2 => ?_⟩) (fun hc => W_nil ⟨gr, rfl, a3, by omega, fun m m1 m2 => ?_⟩)
        · have hc := of_decide_eq_true hc
          by_cases z : m = s + k
          · subst z; exact Int.le_refl _
          · have := (hb m m1 (by omega)).2
            omega
        · have hc := of_decide_eq_false hc
          by_cases z : m = s + k
          · subst z; omega
          · exact (hb m m1 (by omega)).2
      refine wq_if (ev_T (ev_op (ev_op (ev_B rfl) (ev_V rfl) (ixv (s + k) hx _ rfl)) (ev_op (ev_B rfl) (ev_V rfl) (ixv le lel _ rfl)) rfl)) (fun hc => W_set (ev_V rfl) ?_) (fun hc => W_nil ?_)
      · have hc := of_decide_eq_true hc
        have hlo : ∀ m, s ≤ m → m < s + k + 1 → vAt vs (s + k) ≤ vAt vs m := fun m m1 m2 => by
          by_cases z : m = s + k
          · subst z; exact Int.le_refl _
          · have := (hb m m1 (by omega)).1
            omega
        refine W_mono (two (s + k) (by omega) (by omega) hlo) ?_
        rintro _ ⟨gr', rfl, g1, g2, g3⟩
        exact ⟨s + k, gr', _, _, rfl, by omega, .inl (by omega), g1, .inl (by omega), hf', fun m m1 m2 => ⟨hlo m m1 (by omega), g3 m m1 (by omega)⟩⟩
      · have hc := of_decide_eq_false hc
        have hlo : ∀ m, s ≤ m → m < s + k + 1 → vAt vs le ≤ vAt vs m := fun m m1 m2 => by
          by_cases z : m = s + k
          · subst z; omega
          · exact (hb m m1 (by omega)).1
        refine W_mono (two le a1 (by omega) hlo) ?_
        rintro _ ⟨gr', rfl, g1, g2, g3⟩
        exact ⟨le, gr', _, _, rfl, a1, .inl (by omega), g1, .inl (by omega), hf', fun m m1 m2 => ⟨hlo m m1 (by omega), g3 m m1 (by omega)⟩⟩
  · rintro Γ ⟨le, gr, s5, s6, rfl, a1, a2, a3, a4, hf, hb⟩
    have e1 : s + (vs.length - s) = vs.length := by omega
    rw [e1] at hf hb
    refine W_ret (ev_tu (ev_cs (ev_U (ev_B rfl) lV) (ev_cs (ev_call (ev_cs (ev_op (ev_B rfl) (ev_V rfl) (ixv le (by omega) _ rfl)) (ev_cs (ev_op (ev_B rfl) (ev_V rfl) (ixv gr (by omega) _ rfl)) ev_nl)) (between_eq _ _)) (ev_cs ev_C ev_nl)))) (.inl ⟨_, rfl, hf, flat_mid he hf a1 (by omega) a3 (by omega) hb⟩)
/-! the flat cut -/
theorem StOk.grow {R : Nat → Nat → Prop} {k k' : Nat} {sts : List Nat} (h : StOk R k sts) (h0 : sts ≠ []) (hk : k ≤ k') (h1 : R (sts.getD (sts.length - 1) 0) k') : StOk R k' sts :=
  ⟨by constructor
      · intro z; exact absurd z h0
      · intro z
        have hp : 0 < sts.length := List.length_pos_iff.mpr h0
        have := h.len
        omega, fun s hs => by have := h.lt s hs; omega, h.two, fun _ => h1, h.zero, by have := h.len; omega⟩
theorem StOk.unique {R : Nat → Nat → Prop} (mono : ∀ s t s' t', R s t → s ≤ s' → t' ≤ t → R s' t') {n : Nat} {a b : List Nat} (ha : StOk R n a) (hb : StOk R n b) : a = b := by
  by_cases hn : n = 0
  · rw [ha.nil.mpr hn, hb.nil.mpr hn]
  have a0 : a ≠ [] := fun z => hn (ha.nil.mp z)
  have b0 : b ≠ [] := fun z => hn (hb.nil.mp z)
  have la : 0 < a.length := List.length_pos_iff.mpr a0
  have lb : 0 < b.length := List.length_pos_iff.mpr b0
  have key : ∀ i, i < a.length → i < b.length ∧ a.getD i 0 = b.getD i 0 := by
    intro i
    induction i with
    | zero => intro _; exact ⟨lb, by rw [ha.zero a0, hb.zero b0]⟩
    | succ i ih =>
      intro hi
      obtain ⟨h1, h2⟩ := ih (by omega)
      obtain ⟨p1, p2, p3⟩ := ha.two i hi
      have hlt := ha.lt _ (getD_mem' (xs := a) (z := 0) hi)
      by_cases z : i + 1 < b.length
      · refine ⟨z, ?_⟩
        obtain ⟨q1, q2, q3⟩ := hb.two i z
        rw [← h2] at q2 q3
        rcases Nat.lt_trichotomy (a.getD (i + 1) 0) (b.getD (i + 1) 0) with w | w | w
        · exact absurd (mono _ _ _ _ q2 (Nat.le_refl _) (by omega)) p3
        · exact w
        · exact absurd (mono _ _ _ _ p2 (Nat.le_refl _) (by omega)) q3
      · have e : b.length - 1 = i := by omega
        have hl := hb.last b0
        rw [e, ← h2] at hl
        exact absurd (mono _ _ _ _ hl (Nat.le_refl _) (by omega)) p3
  have l1 : a.length ≤ b.length := by
    have := (key (a.length - 1) (by omega)).1
    omega
  have l2 : b.length ≤ a.length := by
    refine Nat.le_of_not_lt fun w => ?_
    have h2 := (key (a.length - 1) (by omega)).2
    have hl := ha.last a0
    obtain ⟨q1, q2, q3⟩ := hb.two (a.length - 1) (by omega)
    have hlt := hb.lt _ (getD_mem' (xs := b) (z := 0) (show a.length - 1 + 1 < b.length by omega))
    rw [h2] at hl
    exact absurd (mono _ _ _ _ hl (Nat.le_refl _) (by omega)) q3
  refine List.ext_getElem? fun i => ?_
  by_cases z : i < a.length
  · obtain ⟨h1, h2⟩ := key i z
    rw [getD_get (z := 0) z, getD_get (z := 0) h1, h2]
  · rw [List.getElem?_eq_none (by omega), List.getElem?_eq_none (by omega)]
theorem enN_push {sts : List Nat} {s t k : Nat} (h : k < sts.length) : enN (sts ++ [s]) t k = enN sts s k := by
  unfold enN
  by_cases z : k + 1 < sts.length
  · rw [if_pos (by simp; omega), if_pos z, getD_app1 z]
  · have e : k + 1 = sts.length := by omega
    rw [if_pos (by simp; omega), if_neg z, e, getD_app2]
theorem enN_new {sts : List Nat} {s t : Nat} : enN (sts ++ [s]) t sts.length = t := by
  unfold enN
  rw [if_neg (by simp)]
/-- a flat cut up to the place s -/
structure FOk (vs : List Int) (e : Int) (pcs rs : List (Int × Int)) (sts : List Nat) (s : Nat) : Prop where
  st : stG pcs = sI sts
  ok : StOk (FlatR vs e) s sts
  le : s ≤ vs.length
  far : s < vs.length → sts ≠ [] → ¬ FlatR vs e (sts.getD (sts.length - 1) 0) (s + 1)
  mid : ∀ k, k < sts.length → ∀ m, sts.getD k 0 ≤ m → m < enN sts s k → absI (vAt vs m - hA pcs k) ≤ e
  rl : rs.length = if s < vs.length then sts.length else sts.length - 1
  why : ∀ k, k < rs.length → ∃ i : Nat, rA rs k = ((i : Int), ((enN sts s k : Nat) : Int)) ∧ sts.getD k 0 ≤ i ∧ i < enN sts s k ∧ enN sts s k < vs.length ∧ 2 * e < absI (vAt vs i - vAt vs (enN sts s k))
theorem FOk.len {vs : List Int} {e : Int} {pcs rs : List (Int × Int)} {sts : List Nat} {s : Nat} (h : FOk vs e pcs rs sts s) : pcs.length = sts.length := by
  have := congrArg List.length h.st
  rwa [stG_len, sI_len] at this
theorem FOk.start (vs : List Int) (e : Int) : FOk vs e [] [] [] 0 :=
  ⟨rfl, StOk.start _, Nat.zero_le _, fun _ z => absurd rfl z, fun k hk => by simp at hk, by split <;> rfl, fun k hk => by simp at hk⟩
theorem FOk.push {vs : List Int} {e : Int} {pcs rs : List (Int × Int)} {sts : List Nat} {s t : Nat} {hh : Int} {rs' : List (Int × Int)} (h : FOk vs e pcs rs sts s) (hs : s < t) (ht : t ≤ vs.length) (hf : FlatR vs e s t) (hm : ∀ m, s ≤ m → m < t → absI (vAt vs m - hh) ≤ e)
    (hr : (t = vs.length ∧ rs' = rs) ∨ (t < vs.length ∧ ∃ i : Nat, rs' = rs ++ [((i : Int), (t : Int))] ∧ s ≤ i ∧ i < t ∧ 2 * e < absI (vAt vs i - vAt vs t))) : FOk vs e (pcs ++ [((s : Int), hh)]) rs' (sts ++ [s]) t := by
  have lp := h.len
  have hsv : s < vs.length := by omega
  have rl := h.rl
  rw [if_pos hsv] at rl
  have old : ∀ k, k < rs.length → ∃ i : Nat, rA rs k = ((i : Int), ((enN (sts ++ [s]) t k : Nat) : Int)) ∧ (sts ++ [s]).getD k 0 ≤ i ∧ i < enN (sts ++ [s]) t k ∧ enN (sts ++ [s]) t k < vs.length ∧ 2 * e < absI (vAt vs i - vAt vs (enN (sts ++ [s]) t k)) := fun k hk => by
    rw [enN_push (by omega), getD_app1 (by omega)]
    exact h.why k hk
  refine ⟨?_, ?_, ht, ?_, ?_, ?_, ?_⟩
  · rw [sI_app, ← h.st]
    unfold stG
    rw [List.map_append]
    rfl
  · refine ((h.ok.push ?_ flat_one).grow (by simp) (by omega) ?_)
    · by_cases z : sts = []
      · exact .inl z
      · exact .inr (h.far hsv z)
    · have e1 : (sts ++ [s]).length - 1 = sts.length := by simp
      rw [e1, getD_app2]
      exact hf
  · intro htv _
    have e1 : (sts ++ [s]).length - 1 = sts.length := by simp
    rw [e1, getD_app2]
    rcases hr with ⟨z, _⟩ | ⟨_, i, _, i1, i2, i3⟩
    · omega
    · intro w
      have := w i t i1 i2 (by omega)
      omega
  · intro k hk m m1 m2
    simp only [List.length_append, List.length_singleton] at hk
    by_cases z : k < sts.length
    · rw [getD_app1 z] at m1
      rw [enN_push z] at m2
      have := h.mid k z m m1 m2
      unfold hA at this ⊢
      rw [getD_app1 (by omega)]
      exact this
    · have e1 : k = sts.length := by omega
      subst e1
      rw [getD_app2] at m1
      rw [enN_new] at m2
      unfold hA
      rw [← lp, getD_app2]
      exact hm m m1 m2
  · rcases hr with ⟨z, rfl⟩ | ⟨z, i, rfl, _⟩
    · rw [if_neg (by omega), rl]
      simp
    · rw [if_pos z]
      simp [rl]
  · intro k hk
    rcases hr with ⟨z, rfl⟩ | ⟨z, i, rfl, i1, i2, i3⟩
    · exact old k hk
    · simp only [List.length_append, List.length_singleton] at hk
      by_cases w : k < rs.length
      · obtain ⟨i', j1, j2⟩ := old k w
        refine ⟨i', ?_, j2⟩
        unfold rA at j1 ⊢
        rw [getD_app1 w]
        exact j1
      · have e1 : k = rs.length := by omega
        subst e1
        refine ⟨i, ?_, ?_, ?_, ?_, ?_⟩
        · unfold rA
          rw [getD_app2, rl, enN_new]
        · rw [rl, getD_app2]
          exact i1
        · rw [rl, enN_new]
          exact i2
        · rw [rl, enN_new]
          exact z
        · rw [rl, enN_new]
          exact i3
theorem fcut_eq (vs : List Int) (e : Int) (he : 0 ≤ e) (hl : vs.length < 1000) : ∃ (pcs rs : List (Int × Int)) (sts : List Nat), S_flat_cut [.lst (vs.map D.int), .int e] = some (.obj 6 [.lst (pcs.map encP), .lst (rs.map encP)]) ∧ FOk vs e pcs rs sts vs.length := by
  obtain ⟨ps, rs, s, ⟨pcs, rl, sts, rfl, rfl, ok⟩, hs, hT⟩ := turn_eq (n := vs.length) (F := fun es => gCall S_longest_flat (aC (gV 0) (aC (gV 4) (aC (gV 1) aN))) (capE 4 [0, 1] [.lst (vs.map D.int), .int e] ++ es.map Sl.sh)) (by omega) (fun ps rs s => ∃ pcs rl sts, ps = pcs.map encP ∧ rs = rl.map encP ∧ FOk vs e pcs rl sts s) ⟨[], [], [], rfl, rfl, FOk.start vs e⟩ (by
    rintro ps rs s ⟨pcs, rl, sts, rfl, rfl, h⟩ hs
    obtain ⟨d, hd, ho⟩ := lflong_eq vs s e he hl hs
    have hF : gCall S_longest_flat (aC (gV 0) (aC (gV 4) (aC (gV 1) aN))) (capE 4 [0, 1] [.lst (vs.map D.int), .int e] ++ [D.int s].map Sl.sh) = some d := (gCall_of (ds := [.lst (vs.map D.int), .int s, .int e]) rfl).trans hd
    rcases ho with ⟨hh, rfl, h1, h2⟩ | ⟨t, i, hh, rfl, h1, h2, h3, h4, h5, h6, h7⟩
    · exact ⟨vs.length, .int hh, .non, hF, hs, pcs ++ [((s : Int), hh)], rl, sts ++ [s], by rw [List.map_append]; rfl, rfl, h.push hs (Nat.le_refl _) h1 h2 (.inl ⟨rfl, rfl⟩)⟩
    · refine ⟨t, .int hh, encP ((i : Int), (t : Int)), hF, h1, pcs ++ [((s : Int), hh)], rl ++ [((i : Int), (t : Int))], sts ++ [s], by rw [List.map_append]; rfl, ?_, h.push h1 (by omega) h3 h7 (.inr ⟨h2, i, rfl, h4, h5, h6⟩)⟩
      rw [List.map_append]; rfl)
  have e1 : s = vs.length := Nat.le_antisymm ok.le hs
  subst e1
  refine ⟨pcs, rl, sts, ?_, ok⟩
  have lV : dLen (.lst (vs.map D.int)) = some (.int vs.length) := by rw [d_lenL, List.length_map]
  refine sv_run ?_
  unfold B_flat_cut
  refine sq_unp (d := .tup [.lst (pcs.map encP), .lst (rl.map encP)]) (ev_lam1 rfl (ev_U (ev_B rfl) lV) hT) rfl ?_
  refine sv_ret ?_
  unfold nD gMk
  rw [ev_cs (ev_V rfl) (ev_cs (ev_V rfl) ev_nl)]
  simp only [Option.bind_some, fmk_eq]
  rfl
theorem pfcount_eq (vs : List Int) (e : Int) (hl : vs.length < 1000) : ∃ c : Nat → Int, S_plain_flat_count [.lst (vs.map D.int), .int e] = some (.int (c vs.length)) ∧ LeastG (FlatR vs e) vs.length c := by
  have lV : dLen (.lst (vs.map D.int)) = some (.int vs.length) := by rw [d_lenL, List.length_map]
  have one : ∀ s t : Nat, s + 1 < t → t ≤ vs.length → ∃ b : Bool, S_plain_flat [.lst ((cutD vs (some (s : Int)) (some (t : Int))).map D.int), .int e] = some (.bl b) ∧ (b = true ↔ FlatR vs e s t) := fun s t h1 h2 => by
    obtain ⟨b, hb, hb2⟩ := pflat_eq (cutD vs (some (s : Int)) (some (t : Int))) e
    refine ⟨b, hb, hb2.trans ?_⟩
    rw [slice_len h2]
    have g : ∀ i, s + i < t → vAt (cutD vs (some (s : Int)) (some (t : Int))) i = vAt vs (s + i) := fun i hi => by
      have := slice_get (vs := vs) (s := s) h2 i hi
      unfold vAt
      rw [List.getD_eq_getElem?_getD, this]
      rfl
    constructor
    · intro w i j i1 i2 i3
      have := w (i - s) (j - s) (by omega) (by omega) (by omega)
      rw [g _ (by omega), g _ (by omega)] at this
      rwa [show s + (i - s) = i by omega, show s + (j - s) = j by omega] at this
    · intro w i j i1 i2 i3
      rw [g _ (by omega), g _ (by omega)]
      exact w (s + i) (s + j) (by omega) (by omega) (by omega)
  obtain ⟨c, h1, h2⟩ := fewest_eq (F := fun es => gCall S_plain_flat (aC (gL (gSl (gB 0) (gSo (gV 2)) (gSo (gV 3)))) (aC (gV 1) aN)) (capE 2 [0, 1] [.lst (vs.map D.int), .int e] ++ es.map Sl.sh)) vs.length (FlatR vs e) (fun s t => if h : s + 1 < t ∧ t ≤ vs.length then (one s t h.1 h.2).choose else false) hl (fun k _ => flat_one) (fun s t h1 h2 => by
    rw [dif_pos ⟨h1, h2⟩]
    exact ev_call (ev_cs (ev_L (ev_Sl (ev_B rfl) (ev_So (ev_V rfl)) (ev_So (ev_V rfl)) d_cut)) (ev_cs (ev_V rfl) ev_nl)) (one s t h1 h2).choose_spec.1) (fun s t h1 h2 => by
    rw [dif_pos ⟨h1, h2⟩]
    exact (one s t h1 h2).choose_spec.2)
  refine ⟨c, ?_, h2⟩
  refine sv_run ?_
  unfold B_plain_flat_count
  exact sv_ret (ev_lam2 rfl (ev_U (ev_B rfl) lV) h1)
/-- such a cut is judged right -/
theorem FOk.right {vs : List Int} {e : Int} {pcs rs : List (Int × Int)} {sts : List Nat} (h : FOk vs e pcs rs sts vs.length) : (∀ k, k < sts.length → stA (stG pcs) k = ((sts.getD k 0 : Nat) : Int) ∧ enA (stG pcs) vs.length k = ((enN sts vs.length k : Nat) : Int) ∧ fC vs e pcs k = true) ∧ (∀ k, k < rs.length → fQ vs e pcs rs k = true) ∧ fJ vs e pcs rs = true := by
  have lp := h.len
  have rl := h.rl
  rw [if_neg (Nat.lt_irrefl _)] at rl
  have hS : ∀ k, k < sts.length → stA (stG pcs) k = ((sts.getD k 0 : Nat) : Int) := fun k hk => by
    unfold stA
    rw [h.st, List.getD_eq_getElem?_getD, sI_get hk]
    rfl
  have hE : ∀ k, k < sts.length → enA (stG pcs) vs.length k = ((enN sts vs.length k : Nat) : Int) := fun k hk => by
    unfold enA
    rw [h.st, List.getD_eq_getElem?_getD, sI_end hk]
    rfl
  have hC : ∀ k, k < sts.length → fC vs e pcs k = true := fun k hk => by
    unfold fC
    rw [hS k hk, hE k hk]
    have en := (h.ok.en hk).2.1
    refine List.all_eq_true.mpr fun v hv => ?_
    obtain ⟨m, m1, m2, rfl⟩ := (slice_mem en).mp hv
    exact decide_eq_true (h.mid k hk m m1 m2)
  have hQ : ∀ k, k < rs.length → fQ vs e pcs rs k = true := fun k hk => by
    have hk' : k < sts.length := by omega
    obtain ⟨i, i0, i1, i2, i3, i4⟩ := h.why k hk
    unfold fQ fCh fFar
    rw [i0, hS k hk', hE k hk']
    simp only [Bool.and_eq_true, decide_eq_true_eq, Bool.not_eq_true', decide_eq_false_iff_not]
    refine ⟨⟨by omega, by omega, by omega⟩, ?_⟩
    unfold vI
    rw [Int.toNat_natCast, Int.toNat_natCast]
    omega
  refine ⟨fun k hk => ⟨hS k hk, hE k hk, hC k hk⟩, hQ, ?_⟩
  unfold fJ judgedG
  rw [stG_len]
  by_cases hn : vs.length = 0
  · have := h.ok.nil.mpr hn
    rw [if_pos (.inl hn)]
    rw [this] at lp rl
    simp only [Bool.and_eq_true, decide_eq_true_eq]
    exact ⟨hn, by simpa using lp, by simpa using rl⟩
  · have h0 : sts ≠ [] := fun z => hn (h.ok.nil.mp z)
    have hp : 0 < sts.length := List.length_pos_iff.mpr h0
    rw [if_neg (by omega)]
    simp only [Bool.and_eq_true, beq_iff_eq, List.all_eq_true, List.mem_range, okS', decide_eq_true_eq]
    refine ⟨⟨?_, by omega⟩, fun k hk => ?_, fun k hk => hQ k hk⟩
    · rw [hS 0 hp, h.ok.zero h0]
      rfl
    · have hk' : k < sts.length := by omega
      have en := h.ok.en hk'
      refine ⟨?_, hC k hk'⟩
      rw [hS k hk', hE k hk']
      exact ⟨by omega, by omega, by omega⟩
theorem law_true (ns : List Int) (hl : ns.length ≤ 63) : S_law [.scr ns] = some (.bl true) := by
  obtain ⟨vs, hv, lv, bv⟩ := values_eq ns 0 16 (by omega) (by omega) (by omega)
  obtain ⟨e, her, he⟩ := error_eq ns 2 vs (by omega)
  obtain ⟨pcs, rs, sts, hcut, ok⟩ := fcut_eq vs e he (by omega)
  obtain ⟨sts', hst, ok'⟩ := lfstarts_eq vs e he (by omega)
  have eS := StOk.unique (R := FlatR vs e) FlatR.mono ok'  ok.ok
  subst eS
  obtain ⟨r1, r2, r3⟩ := ok.right
  have lp := ok.len
  have rl := ok.rl
  rw [if_neg (Nat.lt_irrefl _)] at rl
  have sl := ok.ok.len
  obtain ⟨c, hlc, hc⟩ := lfleast_eq vs e he (by omega)
  obtain ⟨c', hpc, hc'⟩ := pfcount_eq vs e (by omega)
  have ec : c' vs.length = c vs.length := hc'.unique hc _ _ (Nat.le_refl _) (Nat.le_refl _)
  have en := fleast vs e he pcs rs c hc r3
  have hj := fjudge_eq vs e pcs rs (by omega) (by omega) (by omega)
  rw [r3] at hj
  have lV : dLen (.lst (vs.map D.int)) = some (.int vs.length) := by rw [d_lenL, List.length_map]
  have lS : dLen (.lst ((sI sts').map D.int)) = some (.int sts'.length) := by rw [d_lenL, List.length_map, sI_len]
  have lR : dLen (.lst (rs.map encP)) = some (.int rs.length) := by rw [d_lenL, List.length_map]
  have ixS : ∀ k, k < sts'.length → ∀ m : Int, m = k → dIx (.lst ((sI sts').map D.int)) (.int m) = some (.int ((sts'.getD k 0 : Nat) : Int)) := fun k hk m em => d_ixC (k := k) (sI_get hk) em
  have ixE : ∀ k, k < sts'.length → ∀ m : Int, m = k → dIx (.lst ((endsOf (sI sts') vs.length).map D.int)) (.int m) = some (.int ((enN sts' vs.length k : Nat) : Int)) := fun k hk m em => d_ixC (k := k) (sI_end hk) em
  have ixP : ∀ k, k < sts'.length → ∀ m : Int, m = k → dIx (.lst (pcs.map encP)) (.int m) = some (encP (stA (stG pcs) k, hA pcs k)) := fun k hk m em => d_ixC (k := k) (pc_getG (by omega)) em
  have ixV : ∀ k : Nat, k < vs.length → ∀ m : Int, m = k → dIx (.lst (vs.map D.int)) (.int m) = some (.int (vAt vs k)) := fun k hk m em => d_ixC (k := k) (vAt_get hk) em
  refine run_Weq ?_
  unfold B_law
  walk_at "ev norm"
  refine wq_set (ev_call (ev_cs (ev_V rfl) (ev_cs ev_I (ev_cs ev_I ev_nl))) hv) ?_
  walk_at "ev norm"
  refine wq_set (ev_call (ev_cs (ev_V rfl) (ev_cs ev_I (ev_cs (ev_V rfl) ev_nl))) her) ?_
  walk_at "ev norm"
  refine wq_set (ev_L (ev_UL (ev_B rfl) rfl)) ?_
  walk_at "ev norm"
  refine wq_set (ev_call (ev_cs (ev_V rfl) (ev_cs (ev_V rfl) ev_nl)) hcut) ?_
  walk_at "ev norm"
  generalize hcu : D.obj 6 [.lst (pcs.map encP), .lst (rs.map encP)] = cu at *
  have f0 : dFld 6 0 cu = some (.lst (pcs.map encP)) := by subst hcu; rfl
  have f1 : dFld 6 1 cu = some (.lst (rs.map encP)) := by subst hcu; rfl
  have fi : dIsiC 6 cu = some (.bl true) := by subst hcu; rfl
  have nei : ∀ xs : List Int, dNe (.lst (xs.map D.int)) (.lst (xs.map D.int)) = some (.bl false) := fun xs => ne_self D.int 1 (by omega) (fun a => ⟨by simp [pyOk], by simp [toPy, PyData.canLay0], by simp [toPy, PyData.depth]⟩) xs
  have est : pcs.map (fun c => D.int c.1) = (sI sts').map D.int := by rw [stG_enc, ok.st]
  refine wq_ifN (b := false || false) (ev_or (ev_not (b := true) (ev_Tru (ev_U (ev_B rfl) fi) rfl)) (ev_T (ev_op (x := .lst ((sI sts').map D.int)) (y := .lst ((sI sts').map D.int)) (ev_L ((ev_lc (ev_it (ev_U (ev_V rfl) f0)) (by rw [List.length_map]; omega) (compL_map pcs encP (fun c => .int c.1) fun c _ => ⟨_, rfl, ev_op (ev_B rfl) ev_I rfl⟩)).trans (by rw [est]))) (ev_call (ev_cs (ev_V rfl) (ev_cs (ev_V rfl) ev_nl)) hst) (nei _)))) rfl ?_
  refine wq_set (ev_call (ev_cs (ev_V rfl) (ev_cs (ev_V rfl) ev_nl)) hst) ?_
  walk_at "ev norm"
  refine wq_set (ev_ends (j := 1) (n := vs.length) (by rw [sI_len]; omega) (ev_B rfl) (ev_U (ev_B rfl) lV)) ?_
  walk_at "ev norm"
  -- the heights
  refine wq_rng (n := sts'.length) (lo := 0) (fun k Γ => ∃ s7, Γ = [.sh (.scr ns), .sh (.lst (vs.map D.int)), .sh (.int e), .sh (.lst (vs.map D.int)), .sh cu, .sh (.lst ((sI sts').map D.int)), .sh (.lst ((endsOf (sI sts') vs.length).map D.int)), s7, .no, .no, .no, .no, .no]) (ev_rng1 (m := (sts'.length : Nat)) (ev_cs (ev_U (ev_B rfl) lS) ev_nl) (by omega) (by omega)) ⟨_, rfl⟩ ?_ ?_
  · rintro k Γ hk ⟨s7, rfl⟩
    have ek : (0 + (k : Int)) = k := by omega
    rw [ek]
    refine ⟨_, rfl, ?_⟩
    walk_at "ev norm"
    obtain ⟨q1, q2, q3⟩ := r1 k hk
    have hall : gNot (gTru (gU dAll (gL (gLc [12] (gIt (gL (gSl (gB 1) (gSo (gIx (gB 5) (gV 7))) (gSo (gIx (gB 6) (gV 7)))))) (gN 12) gYes (gOp dLe (gU dAbs (gOp dSub (gV 12) (gIx (gIx (gU (dFld 6 0) (gV 4)) (gV 7)) (gI 1)))) (gV 2)))))) [.sh (.scr ns), .sh (.lst (vs.map D.int)), .sh (.int e), .sh (.lst (vs.map D.int)), .sh cu, .sh (.lst ((sI sts').map D.int)), .sh (.lst ((endsOf (sI sts') vs.length).map D.int)), .sh (.int k), .no, .no, .no, .no, .no] = some (!fC vs e pcs k) := by
      unfold fC
      rw [q1, q2]
      refine ev_not (ev_Tru (ev_U (ev_L (ev_lc (ev_it (ev_L (ev_Sl (ev_B rfl) (ev_So (ev_op (ev_B rfl) (ev_V rfl) (ixS k hk _ rfl))) (ev_So (ev_op (ev_B rfl) (ev_V rfl) (ixE k hk _ rfl))) d_cut))) (by rw [List.length_map]; have := cutD_len vs (some ((sts'.getD k 0 : Nat) : Int)) (some ((enN sts' vs.length k : Nat) : Int)); omega) (compL_map _ D.int (fun v => .bl (decide (absI (v - hA pcs k) ≤ e))) fun v _ => ⟨_, rfl, ?_⟩))) (all_map_bl _ _)) rfl)
      exact ev_op (ev_U (ev_op (ev_V rfl) (ev_op (ev_op (ev_U (ev_V rfl) f0) (ev_V rfl) (ixP k hk _ rfl)) ev_I rfl) d_sub) (dabs _)) (ev_V rfl) rfl
    rw [q3] at hall
    exact W_ifR hall (fun z => by cases z) fun _ => ⟨_, rfl⟩
  rintro Γ ⟨s7, rfl⟩
  refine wq_ifN (b := false) (ev_T (ev_op (ev_U (ev_U (ev_V rfl) f1) lR) (ev_A (ev_cs ev_I (ev_cs (ev_op (ev_U (ev_B rfl) lS) ev_I d_sub) ev_nl)) (dmax0 _)) ((d_ne eqOk_int eqOk_int eqd_int).trans (by
    have : ((rs.length : Nat) : Int) = max 0 ((sts'.length : Int) - 1) := by omega
    rw [this, beq_self_eq_true]
    rfl)))) rfl ?_
  refine wq_rng (n := rs.length) (lo := 0) (fun k Γ => ∃ s7 s9 s10, Γ = [.sh (.scr ns), .sh (.lst (vs.map D.int)), .sh (.int e), .sh (.lst (vs.map D.int)), .sh cu, .sh (.lst ((sI sts').map D.int)), .sh (.lst ((endsOf (sI sts') vs.length).map D.int)), s7, .no, s9, s10, .no, .no]) (ev_rng1 (m := (rs.length : Nat)) (ev_cs (ev_U (ev_U (ev_V rfl) f1) lR) ev_nl) (by omega) (by omega)) ⟨_, _, _, rfl⟩ ?_ ?_
  · rintro k Γ hk ⟨s7, s9, s10, rfl⟩
    have ek : (0 + (k : Int)) = k := by omega
    rw [ek]
    refine ⟨_, rfl, ?_⟩
    walk_at "ev norm"
    obtain ⟨i, i0, i1, i2, i3, i4⟩ := ok.why k hk
    have hk1 : k + 1 < sts'.length := by omega
    have een : enN sts' vs.length k = sts'.getD (k + 1) 0 := by unfold enN; rw [if_pos hk1]
    rw [een] at i0 i2 i3 i4
    have ixR : dIx (.lst (rs.map encP)) (.int k) = some (encP ((i : Int), ((sts'.getD (k + 1) 0 : Nat) : Int))) := by
      refine (d_ixC (k := k) (getD_get (z := (0, 0)) hk) rfl).trans ?_
      show some (encP (rA rs k)) = _
      rw [i0]
    refine wq_unp (ev_op (ev_U (ev_V rfl) f1) (ev_V rfl) ixR) (Γ1 := [.sh (.scr ns), .sh (.lst (vs.map D.int)), .sh (.int e), .sh (.lst (vs.map D.int)), .sh cu, .sh (.lst ((sI sts').map D.int)), .sh (.lst ((endsOf (sI sts') vs.length).map D.int)), .sh (.int k), .no, .sh (.int i), .sh (.int ((sts'.getD (k + 1) 0 : Nat) : Int)), .no, .no]) rfl ?_
    refine W_ifR (ev_or (ev_not (ev_ch (ev_op (ev_B rfl) (ev_V rfl) (ixS k (by omega) _ rfl)) (ev_chn (ev_V rfl) rfl (ev_chn (ev_V rfl) rfl (ev_ch1 (ev_op (ev_B rfl) (ev_op (ev_V rfl) ev_I d_add) (ixS (k + 1) hk1 _ (by omega))) rfl))))) (ev_T (ev_op (ev_U (ev_op (ev_op (ev_B rfl) (ev_V rfl) (ixV i (by omega) _ rfl)) (ev_op (ev_B rfl) (ev_V rfl) (ixV _ i3 _ rfl)) d_sub) (dabs _)) (ev_op ev_I (ev_V rfl) (d_mul (mulOk_l (by omega) (by omega)))) rfl))) (fun hz => ?_) (fun _ => ⟨_, _, _, rfl⟩)
    exfalso
    simp only [Bool.or_eq_true, Bool.not_eq_true', decide_eq_true_eq, Bool.and_eq_false_iff, decide_eq_false_iff_not] at hz
    omega
  rintro Γ ⟨s7, s9, s10, rfl⟩
  refine wq_set (ev_call (ev_cs (ev_V rfl) (ev_cs (ev_V rfl) ev_nl)) hlc) ?_
  walk_at "ev norm"
  refine wq_ifN (b := false || (false || false)) (ev_or (ev_T (ev_op (ev_U (ev_B rfl) lS) (ev_B rfl) ((d_ne eqOk_int eqOk_int eqd_int).trans (by
    rw [← en, lp, beq_self_eq_true]
    rfl)))) (ev_or (ev_T (ev_op (ev_call (ev_cs (ev_V rfl) (ev_cs (ev_V rfl) ev_nl)) hpc) (ev_B rfl) ((d_ne eqOk_int eqOk_int eqd_int).trans (by
    rw [ec, beq_self_eq_true]
    rfl)))) (ev_T (ev_op (ev_B rfl) (ev_B rfl) (nei _))))) rfl ?_
  exact W_ret (ev_op (ev_call (ev_cs (ev_V rfl) (ev_cs (ev_V rfl) (ev_cs (ev_V rfl) ev_nl))) hj) ev_C rfl) rfl
end K10

namespace K10
open PySem L2 DL
def spLaw0 (K : PySem.W.Frag) : Sp := fun vs H Q _ => ∃ (a : Addr) (ns : List Int), vs = [.ref a] ∧ SqL K H a (ns.map V.int) ∧ ns.length ≤ 63 ∧ ∀ H', Q (.bl true) H'
theorem all_mk {l : PySem.W.OpenLaw} {w : World} {K : PySem.W.Frag} {h : Heap} {mg : Str → Option Value} {fa : Addr} (X : K.In h) (G : h.Ns mainGlobals mg) (hfa : mg "law" = some (.ref fa))
    {C6 : Addr} (gC6 : PySem.W.nsIn K mainGlobals "FlatCutting" = some (some (.ref C6))) (pg6 : PySem.W.plainGet K C6 Str.empty = true) (hd6 : PySem.W.hasDictIn K C6 = true) (po6 : PySem.W.plainOver K C6 = true) (sa6 : PySem.W.findIn K (.ref C6) "__setattr__" = some (some (.builtin "object.__setattr__")))
    (nf6_0 : PySem.W.findIn K (.ref C6) "pieces" = some none)
    (nf6_1 : PySem.W.findIn K (.ref C6) "reasons" = some none)
    (ia6 : PySem.W.findIn K (.ref C6) "__class__" = some (some (.builtin "object.__class__"))) (ib6 : PySem.W.specialIn K (.builtin "object.__class__") "__get__" = some (some (.builtin "getset_descriptor.__get__"))) (ie6 : PySem.W.takesIn K (.builtin "object.__class__") = some true) (ir6 : PySem.W.mroIn K C6 (.type "object") = some true)
    (mk6 : PySem.W.makesIn K C6 = true) (kc6 : PySem.W.keepIn K (.ref C6) = true)
    {f1 : Addr} {od1 an1 : Option Addr} {sl1 : Array (Option Value)} {oc1 kV1 dc1 pm1 cd1 ct1 : Value} (a1 : PySem.W.nsIn K mainGlobals "taken_in_turn" = some (some (.ref f1))) (l1 : K.lookup f1 = some ⟨oc1, od1, .func (PySem.W.fnOf "taken_in_turn" "taken_in_turn" (defArgs s_taken_in_turn) (defBody s_taken_in_turn) (defScope s_taken_in_turn) .none kV1 dc1 pm1 an1 cd1 ct1), sl1⟩) (c1 : PySem.W.codeIn K cd1 "taken_in_turn" = true) (k1 : PySem.W.keepIn K (.ref f1) = true)
    {f2 : Addr} {od2 an2 : Option Addr} {sl2 : Array (Option Value)} {oc2 kV2 dc2 pm2 cd2 ct2 : Value} (a2 : PySem.W.nsIn K mainGlobals "starts_stand" = some (some (.ref f2))) (l2 : K.lookup f2 = some ⟨oc2, od2, .func (PySem.W.fnOf "starts_stand" "starts_stand" (defArgs s_starts_stand) (defBody s_starts_stand) (defScope s_starts_stand) .none kV2 dc2 pm2 an2 cd2 ct2), sl2⟩) (c2 : PySem.W.codeIn K cd2 "starts_stand" = true) (k2 : PySem.W.keepIn K (.ref f2) = true)
    {f3 : Addr} {od3 an3 : Option Addr} {sl3 : Array (Option Value)} {oc3 kV3 dc3 pm3 cd3 ct3 : Value} (a3 : PySem.W.nsIn K mainGlobals "frame_stands" = some (some (.ref f3))) (l3 : K.lookup f3 = some ⟨oc3, od3, .func (PySem.W.fnOf "frame_stands" "frame_stands" (defArgs s_frame_stands) (defBody s_frame_stands) (defScope s_frame_stands) .none kV3 dc3 pm3 an3 cd3 ct3), sl3⟩) (c3 : PySem.W.codeIn K cd3 "frame_stands" = true) (k3 : PySem.W.keepIn K (.ref f3) = true)
    {f4 : Addr} {od4 an4 : Option Addr} {sl4 : Array (Option Value)} {oc4 kV4 dc4 pm4 cd4 ct4 : Value} (a4 : PySem.W.nsIn K mainGlobals "ends_of" = some (some (.ref f4))) (l4 : K.lookup f4 = some ⟨oc4, od4, .func (PySem.W.fnOf "ends_of" "ends_of" (defArgs s_ends_of) (defBody s_ends_of) (defScope s_ends_of) .none kV4 dc4 pm4 an4 cd4 ct4), sl4⟩) (c4 : PySem.W.codeIn K cd4 "ends_of" = true) (k4 : PySem.W.keepIn K (.ref f4) = true)
    {f5 : Addr} {od5 an5 : Option Addr} {sl5 : Array (Option Value)} {oc5 kV5 dc5 pm5 cd5 ct5 : Value} (a5 : PySem.W.nsIn K mainGlobals "fewest_parts" = some (some (.ref f5))) (l5 : K.lookup f5 = some ⟨oc5, od5, .func (PySem.W.fnOf "fewest_parts" "fewest_parts" (defArgs s_fewest_parts) (defBody s_fewest_parts) (defScope s_fewest_parts) .none kV5 dc5 pm5 an5 cd5 ct5), sl5⟩) (c5 : PySem.W.codeIn K cd5 "fewest_parts" = true) (k5 : PySem.W.keepIn K (.ref f5) = true)
    {f6 : Addr} {od6 an6 : Option Addr} {sl6 : Array (Option Value)} {oc6 kV6 dc6 pm6 cd6 ct6 : Value} (a6 : PySem.W.findIn K (.ref C6) "__init__" = some (some (.ref f6))) (i6 : PySem.W.isFn K (.ref f6) = true) (l6 : K.lookup f6 = some ⟨oc6, od6, .func (PySem.W.fnOf "__init__" "FlatCutting.__init__" (defArgs s_FlatCutting___init__) (defBody s_FlatCutting___init__) (defScope s_FlatCutting___init__) .none kV6 dc6 pm6 an6 cd6 ct6), sl6⟩) (c6 : PySem.W.codeIn K cd6 "FlatCutting.__init__" = true) (k6 : PySem.W.keepIn K (.ref f6) = true)
    {f7 : Addr} {od7 an7 : Option Addr} {sl7 : Array (Option Value)} {oc7 kV7 dc7 pm7 cd7 ct7 : Value} (a7 : PySem.W.nsIn K mainGlobals "between" = some (some (.ref f7))) (l7 : K.lookup f7 = some ⟨oc7, od7, .func (PySem.W.fnOf "between" "between" (defArgs s_between) (defBody s_between) (defScope s_between) .none kV7 dc7 pm7 an7 cd7 ct7), sl7⟩) (c7 : PySem.W.codeIn K cd7 "between" = true) (k7 : PySem.W.keepIn K (.ref f7) = true)
    {f8 : Addr} {od8 an8 : Option Addr} {sl8 : Array (Option Value)} {oc8 kV8 dc8 pm8 cd8 ct8 : Value} (a8 : PySem.W.nsIn K mainGlobals "longest_flat" = some (some (.ref f8))) (l8 : K.lookup f8 = some ⟨oc8, od8, .func (PySem.W.fnOf "longest_flat" "longest_flat" (defArgs s_longest_flat) (defBody s_longest_flat) (defScope s_longest_flat) .none kV8 dc8 pm8 an8 cd8 ct8), sl8⟩) (c8 : PySem.W.codeIn K cd8 "longest_flat" = true) (k8 : PySem.W.keepIn K (.ref f8) = true)
    {f9 : Addr} {od9 an9 : Option Addr} {sl9 : Array (Option Value)} {oc9 kV9 dc9 pm9 cd9 ct9 : Value} (a9 : PySem.W.nsIn K mainGlobals "flat_cut" = some (some (.ref f9))) (l9 : K.lookup f9 = some ⟨oc9, od9, .func (PySem.W.fnOf "flat_cut" "flat_cut" (defArgs s_flat_cut) (defBody s_flat_cut) (defScope s_flat_cut) .none kV9 dc9 pm9 an9 cd9 ct9), sl9⟩) (c9 : PySem.W.codeIn K cd9 "flat_cut" = true) (k9 : PySem.W.keepIn K (.ref f9) = true)
    {cL9 PL9 : Addr} {oq9 : Option Addr} {vl9 : Array Value} {os9 : Array (Option Value)} (e9 : cd9 = .ref cL9) (lc9 : K.lookup cL9 = some ⟨.type "code", oq9, .fields vl9, os9⟩) (vp9 : vl9[11]? = some (.ref PL9))
    (t09 : h.get? PL9 = some (PySem.W.tabObj #[])) (nk9 : K.lookup PL9 = none) (hc9 : PySem.W.codeHdIn K cL9 PL9 = true)
    {f10 : Addr} {od10 an10 : Option Addr} {sl10 : Array (Option Value)} {oc10 kV10 dc10 pm10 cd10 ct10 : Value} (a10 : PySem.W.nsIn K mainGlobals "judge_flat" = some (some (.ref f10))) (l10 : K.lookup f10 = some ⟨oc10, od10, .func (PySem.W.fnOf "judge_flat" "judge_flat" (defArgs s_judge_flat) (defBody s_judge_flat) (defScope s_judge_flat) .none kV10 dc10 pm10 an10 cd10 ct10), sl10⟩) (c10 : PySem.W.codeIn K cd10 "judge_flat" = true) (k10 : PySem.W.keepIn K (.ref f10) = true)
    {f11 : Addr} {od11 an11 : Option Addr} {sl11 : Array (Option Value)} {oc11 kV11 dc11 pm11 cd11 ct11 : Value} (a11 : PySem.W.nsIn K mainGlobals "plain_flat" = some (some (.ref f11))) (l11 : K.lookup f11 = some ⟨oc11, od11, .func (PySem.W.fnOf "plain_flat" "plain_flat" (defArgs s_plain_flat) (defBody s_plain_flat) (defScope s_plain_flat) .none kV11 dc11 pm11 an11 cd11 ct11), sl11⟩) (c11 : PySem.W.codeIn K cd11 "plain_flat" = true) (k11 : PySem.W.keepIn K (.ref f11) = true)
    {f12 : Addr} {od12 an12 : Option Addr} {sl12 : Array (Option Value)} {oc12 kV12 dc12 pm12 cd12 ct12 : Value} (a12 : PySem.W.nsIn K mainGlobals "plain_flat_count" = some (some (.ref f12))) (l12 : K.lookup f12 = some ⟨oc12, od12, .func (PySem.W.fnOf "plain_flat_count" "plain_flat_count" (defArgs s_plain_flat_count) (defBody s_plain_flat_count) (defScope s_plain_flat_count) .none kV12 dc12 pm12 an12 cd12 ct12), sl12⟩) (c12 : PySem.W.codeIn K cd12 "plain_flat_count" = true) (k12 : PySem.W.keepIn K (.ref f12) = true)
    {cL12 PL12 : Addr} {oq12 : Option Addr} {vl12 : Array Value} {os12 : Array (Option Value)} (e12 : cd12 = .ref cL12) (lc12 : K.lookup cL12 = some ⟨.type "code", oq12, .fields vl12, os12⟩) (vp12 : vl12[11]? = some (.ref PL12))
    (t012 : h.get? PL12 = some (PySem.W.tabObj #[])) (nk12 : K.lookup PL12 = none) (hc12 : PySem.W.codeHdIn K cL12 PL12 = true)
    {f13 : Addr} {od13 an13 : Option Addr} {sl13 : Array (Option Value)} {oc13 kV13 dc13 pm13 cd13 ct13 : Value} (a13 : PySem.W.nsIn K mainGlobals "_law_cell" = some (some (.ref f13))) (l13 : K.lookup f13 = some ⟨oc13, od13, .func (PySem.W.fnOf "_law_cell" "_law_cell" (defArgs s__law_cell) (defBody s__law_cell) (defScope s__law_cell) .none kV13 dc13 pm13 an13 cd13 ct13), sl13⟩) (c13 : PySem.W.codeIn K cd13 "_law_cell" = true) (k13 : PySem.W.keepIn K (.ref f13) = true)
    {f14 : Addr} {od14 an14 : Option Addr} {sl14 : Array (Option Value)} {oc14 kV14 dc14 pm14 cd14 ct14 : Value} (a14 : PySem.W.nsIn K mainGlobals "_law_digits" = some (some (.ref f14))) (l14 : K.lookup f14 = some ⟨oc14, od14, .func (PySem.W.fnOf "_law_digits" "_law_digits" (defArgs s__law_digits) (defBody s__law_digits) (defScope s__law_digits) .none kV14 dc14 pm14 an14 cd14 ct14), sl14⟩) (c14 : PySem.W.codeIn K cd14 "_law_digits" = true) (k14 : PySem.W.keepIn K (.ref f14) = true)
    {f15 : Addr} {od15 an15 : Option Addr} {sl15 : Array (Option Value)} {oc15 kV15 dc15 pm15 cd15 ct15 : Value} (a15 : PySem.W.nsIn K mainGlobals "_law_values" = some (some (.ref f15))) (l15 : K.lookup f15 = some ⟨oc15, od15, .func (PySem.W.fnOf "_law_values" "_law_values" (defArgs s__law_values) (defBody s__law_values) (defScope s__law_values) .none kV15 dc15 pm15 an15 cd15 ct15), sl15⟩) (c15 : PySem.W.codeIn K cd15 "_law_values" = true) (k15 : PySem.W.keepIn K (.ref f15) = true)
    {f16 : Addr} {od16 an16 : Option Addr} {sl16 : Array (Option Value)} {oc16 kV16 dc16 pm16 cd16 ct16 : Value} (a16 : PySem.W.nsIn K mainGlobals "_law_error_of" = some (some (.ref f16))) (l16 : K.lookup f16 = some ⟨oc16, od16, .func (PySem.W.fnOf "_law_error_of" "_law_error_of" (defArgs s__law_error_of) (defBody s__law_error_of) (defScope s__law_error_of) .none kV16 dc16 pm16 an16 cd16 ct16), sl16⟩) (c16 : PySem.W.codeIn K cd16 "_law_error_of" = true) (k16 : PySem.W.keepIn K (.ref f16) = true)
    {f17 : Addr} {od17 an17 : Option Addr} {sl17 : Array (Option Value)} {oc17 kV17 dc17 pm17 cd17 ct17 : Value} (a17 : PySem.W.nsIn K mainGlobals "_law_flat" = some (some (.ref f17))) (l17 : K.lookup f17 = some ⟨oc17, od17, .func (PySem.W.fnOf "_law_flat" "_law_flat" (defArgs s__law_flat) (defBody s__law_flat) (defScope s__law_flat) .none kV17 dc17 pm17 an17 cd17 ct17), sl17⟩) (c17 : PySem.W.codeIn K cd17 "_law_flat" = true) (k17 : PySem.W.keepIn K (.ref f17) = true)
    {f18 : Addr} {od18 an18 : Option Addr} {sl18 : Array (Option Value)} {oc18 kV18 dc18 pm18 cd18 ct18 : Value} (a18 : PySem.W.nsIn K mainGlobals "_law_flat_starts" = some (some (.ref f18))) (l18 : K.lookup f18 = some ⟨oc18, od18, .func (PySem.W.fnOf "_law_flat_starts" "_law_flat_starts" (defArgs s__law_flat_starts) (defBody s__law_flat_starts) (defScope s__law_flat_starts) .none kV18 dc18 pm18 an18 cd18 ct18), sl18⟩) (c18 : PySem.W.codeIn K cd18 "_law_flat_starts" = true) (k18 : PySem.W.keepIn K (.ref f18) = true)
    {f19 : Addr} {od19 an19 : Option Addr} {sl19 : Array (Option Value)} {oc19 kV19 dc19 pm19 cd19 ct19 : Value} (a19 : PySem.W.nsIn K mainGlobals "_law_flat_least" = some (some (.ref f19))) (l19 : K.lookup f19 = some ⟨oc19, od19, .func (PySem.W.fnOf "_law_flat_least" "_law_flat_least" (defArgs s__law_flat_least) (defBody s__law_flat_least) (defScope s__law_flat_least) .none kV19 dc19 pm19 an19 cd19 ct19), sl19⟩) (c19 : PySem.W.codeIn K cd19 "_law_flat_least" = true) (k19 : PySem.W.keepIn K (.ref f19) = true)
    {f20 : Addr} {od20 an20 : Option Addr} {sl20 : Array (Option Value)} {oc20 kV20 dc20 pm20 cd20 ct20 : Value} (a20 : PySem.W.nsIn K mainGlobals "law" = some (some (.ref f20))) (l20 : K.lookup f20 = some ⟨oc20, od20, .func (PySem.W.fnOf "law" "law" (defArgs s_law) (defBody s_law) (defScope s_law) .none kV20 dc20 pm20 an20 cd20 ct20), sl20⟩) (c20 : PySem.W.codeIn K cd20 "law" = true) (k20 : PySem.W.keepIn K (.ref f20) = true)
    (z_zip : PySem.W.nsIn K mainGlobals "zip" = some none)
    (z_len : PySem.W.nsIn K mainGlobals "len" = some none)
    (z_max : PySem.W.nsIn K mainGlobals "max" = some none)
    (z_range : PySem.W.nsIn K mainGlobals "range" = some none)
    (z_list : PySem.W.nsIn K mainGlobals "list" = some none)
    (z_abs : PySem.W.nsIn K mainGlobals "abs" = some none)
    (z_all : PySem.W.nsIn K mainGlobals "all" = some none)
    (z_combinations : PySem.W.nsIn K mainGlobals "combinations" = some (some (.type "itertools.combinations")))
    (z_int : PySem.W.nsIn K mainGlobals "int" = some none)
    (z_min : PySem.W.nsIn K mainGlobals "min" = some none)
    (z_isinstance : PySem.W.nsIn K mainGlobals "isinstance" = some none)
    (ndT : [PL9, PL12].Nodup) :
    LamX.LawAtS l w K CX0 6 63 "script" mg fa h := by
  letI TCi : TabCtx := tabCx ([(PL9, lamQ "flat_cut"), (PL12, lamQ "plain_flat_count")] : List (Addr × Str))
  have e := hfa.symm.trans (PySem.W.mg_of X G a20)
  cases e
  have M_zip := PySem.W.mg_none_of X G z_zip
  have M_len := PySem.W.mg_none_of X G z_len
  have M_max := PySem.W.mg_none_of X G z_max
  have M_range := PySem.W.mg_none_of X G z_range
  have M_list := PySem.W.mg_none_of X G z_list
  have M_abs := PySem.W.mg_none_of X G z_abs
  have M_all := PySem.W.mg_none_of X G z_all
  have M_combinations := PySem.W.mg_of X G z_combinations
  have M_int := PySem.W.mg_none_of X G z_int
  have M_min := PySem.W.mg_none_of X G z_min
  have M_isinstance := PySem.W.mg_none_of X G z_isinstance
  have M_ck6 : CK K mg 6 C6 := ⟨PySem.W.mg_of X G gC6, ⟨pg6, hd6, po6, sa6⟩, by
    intro x hx
    replace hx : x ∈ (["pieces", "reasons"] : List Str) := hx
    simp only [List.mem_cons, List.not_mem_nil, or_false] at hx
    rcases hx with hx | hx
    all_goals (subst hx; assumption)⟩
  have M_ci6 : CI K mg 6 C6 := ⟨M_ck6.hm, M_ck6.cl, ia6, ib6, ie6, ir6⟩
  have F1 := fun_mk (st := s_taken_in_turn) l1 c1 k1
  have b1 := F1.binds (ps := ["longest", "length"]) fun _ _ _ _ _ _ us hl => match us, hl with | [_, _], _ => rfl
  have C_taken_in_turn : ∀ base : Heap, (∀ p ∈ ([(cL9, PL9), (cL12, PL12)] : List (Addr × Addr)), LamX.TabB base mg p.1 p.2) → CalF l.prog w K mg base "taken_in_turn" 0 N_taken_in_turn ["longest", "length"] "longest" 0 1 s_taken_in_turn B_taken_in_turn := fun base TBs => ⟨f1, _, F1, PySem.W.mg_of X G a1, k1, b1, sc_taken_in_turn, rfl, .inl rfl, rfl, ok_taken_in_turn (base := base)⟩
  have F2 := fun_mk (st := s_starts_stand) l2 c2 k2
  have b2 := F2.binds (ps := ["starts", "length"]) fun _ _ _ _ _ _ us hl => match us, hl with | [_, _], _ => rfl
  have C_starts_stand : ∀ base : Heap, (∀ p ∈ ([(cL9, PL9), (cL12, PL12)] : List (Addr × Addr)), LamX.TabB base mg p.1 p.2) → Cal l.prog w K mg base "starts_stand" 1 ["starts", "length"] S_starts_stand := fun base TBs => ⟨f2, _, ok_starts_stand F2 M_zip, PySem.W.mg_of X G a2, k2, b2⟩
  have F3 := fun_mk (st := s_frame_stands) l3 c3 k3
  have b3 := F3.binds (ps := ["pieces", "reasons", "length"]) fun _ _ _ _ _ _ us hl => match us, hl with | [_, _, _], _ => rfl
  have C_frame_stands : ∀ base : Heap, (∀ p ∈ ([(cL9, PL9), (cL12, PL12)] : List (Addr × Addr)), LamX.TabB base mg p.1 p.2) → Cal l.prog w K mg base "frame_stands" 2 ["pieces", "reasons", "length"] S_frame_stands := fun base TBs => ⟨f3, _, ok_frame_stands F3 (C_starts_stand base TBs) M_len M_max, PySem.W.mg_of X G a3, k3, b3⟩
  have F4 := fun_mk (st := s_ends_of) l4 c4 k4
  have b4 := F4.binds (ps := ["pieces", "length"]) fun _ _ _ _ _ _ us hl => match us, hl with | [_, _], _ => rfl
  have C_ends_of : ∀ base : Heap, (∀ p ∈ ([(cL9, PL9), (cL12, PL12)] : List (Addr × Addr)), LamX.TabB base mg p.1 p.2) → Cal l.prog w K mg base "ends_of" 1 ["pieces", "length"] S_ends_of := fun base TBs => ⟨f4, _, ok_ends_of F4, PySem.W.mg_of X G a4, k4, b4⟩
  have F5 := fun_mk (st := s_fewest_parts) l5 c5 k5
  have b5 := F5.binds (ps := ["length", "stands"]) fun _ _ _ _ _ _ us hl => match us, hl with | [_, _], _ => rfl
  have C_fewest_parts : ∀ base : Heap, (∀ p ∈ ([(cL9, PL9), (cL12, PL12)] : List (Addr × Addr)), LamX.TabB base mg p.1 p.2) → CalF l.prog w K mg base "fewest_parts" 0 N_fewest_parts ["length", "stands"] "stands" 1 2 s_fewest_parts B_fewest_parts := fun base TBs => ⟨f5, _, F5, PySem.W.mg_of X G a5, k5, b5, sc_fewest_parts, rfl, .inl rfl, rfl, ok_fewest_parts (base := base) M_range⟩
  have F6 := fun_mk (st := s_FlatCutting___init__) l6 c6 k6
  have b6 := F6.binds (ps := ["self", "pieces", "reasons"]) fun _ _ _ _ _ _ us hl => match us, hl with | [_, _, _], _ => rfl
  have K_FlatCutting : ∀ base : Heap, (∀ p ∈ ([(cL9, PL9), (cL12, PL12)] : List (Addr × Addr)), LamX.TabB base mg p.1 p.2) → Mak l.prog w K mg base 6 1 ["self", "pieces", "reasons"] S_FlatCutting___init__ := fun base TBs => ⟨C6, f6, _, _, _, rfl, PySem.W.mg_of X G gC6, ⟨mk6, a6, i6, kc6⟩, ok_FlatCutting___init__ F6 M_list M_ck6, b6⟩
  have F7 := fun_mk (st := s_between) l7 c7 k7
  have b7 := F7.binds (ps := ["low", "high"]) fun _ _ _ _ _ _ us hl => match us, hl with | [_, _], _ => rfl
  have C_between : ∀ base : Heap, (∀ p ∈ ([(cL9, PL9), (cL12, PL12)] : List (Addr × Addr)), LamX.TabB base mg p.1 p.2) → Cal l.prog w K mg base "between" 1 ["low", "high"] S_between := fun base TBs => ⟨f7, _, ok_between F7, PySem.W.mg_of X G a7, k7, b7⟩
  have F8 := fun_mk (st := s_longest_flat) l8 c8 k8
  have b8 := F8.binds (ps := ["values", "start", "error"]) fun _ _ _ _ _ _ us hl => match us, hl with | [_, _, _], _ => rfl
  have C_longest_flat : ∀ base : Heap, (∀ p ∈ ([(cL9, PL9), (cL12, PL12)] : List (Addr × Addr)), LamX.TabB base mg p.1 p.2) → Cal l.prog w K mg base "longest_flat" 2 ["values", "start", "error"] S_longest_flat := fun base TBs => ⟨f8, _, ok_longest_flat F8 M_len M_range M_abs (C_between base TBs), PySem.W.mg_of X G a8, k8, b8⟩
  have F9 := fun_mk (st := s_flat_cut) l9 c9 k9
  have TH9 := tabHas (T := ([(PL9, lamQ "flat_cut"), (PL12, lamQ "plain_flat_count")] : List (Addr × Str))) (P := PL9) (q := lamQ "flat_cut") (by simp) ndT
  have b9 := F9.binds (ps := ["values", "error"]) fun _ _ _ _ _ _ us hl => match us, hl with | [_, _], _ => rfl
  have C_flat_cut : ∀ base : Heap, (∀ p ∈ ([(cL9, PL9), (cL12, PL12)] : List (Addr × Addr)), LamX.TabB base mg p.1 p.2) → Cal l.prog w K mg base "flat_cut" 5 ["values", "error"] S_flat_cut := fun base TBs => ⟨f9, _, ok_flat_cut F9 e9 (TBs (cL9, PL9) (by simp)) TH9 M_len (C_longest_flat base TBs) (C_taken_in_turn base TBs) (K_FlatCutting base TBs), PySem.W.mg_of X G a9, k9, b9⟩
  have F10 := fun_mk (st := s_judge_flat) l10 c10 k10
  have b10 := F10.binds (ps := ["values", "error", "cutting"]) fun _ _ _ _ _ _ us hl => match us, hl with | [_, _, _], _ => rfl
  have C_judge_flat : ∀ base : Heap, (∀ p ∈ ([(cL9, PL9), (cL12, PL12)] : List (Addr × Addr)), LamX.TabB base mg p.1 p.2) → Cal l.prog w K mg base "judge_flat" 3 ["values", "error", "cutting"] S_judge_flat := fun base TBs => ⟨f10, _, ok_judge_flat F10 M_len M_ck6 (C_frame_stands base TBs) (C_ends_of base TBs) M_zip M_abs M_all, PySem.W.mg_of X G a10, k10, b10⟩
  have F11 := fun_mk (st := s_plain_flat) l11 c11 k11
  have b11 := F11.binds (ps := ["values", "error"]) fun _ _ _ _ _ _ us hl => match us, hl with | [_, _], _ => rfl
  have C_plain_flat : ∀ base : Heap, (∀ p ∈ ([(cL9, PL9), (cL12, PL12)] : List (Addr × Addr)), LamX.TabB base mg p.1 p.2) → Cal l.prog w K mg base "plain_flat" 1 ["values", "error"] S_plain_flat := fun base TBs => ⟨f11, _, ok_plain_flat F11 M_combinations M_abs, PySem.W.mg_of X G a11, k11, b11⟩
  have F12 := fun_mk (st := s_plain_flat_count) l12 c12 k12
  have TH12 := tabHas (T := ([(PL9, lamQ "flat_cut"), (PL12, lamQ "plain_flat_count")] : List (Addr × Str))) (P := PL12) (q := lamQ "plain_flat_count") (by simp) ndT
  have b12 := F12.binds (ps := ["values", "error"]) fun _ _ _ _ _ _ us hl => match us, hl with | [_, _], _ => rfl
  have C_plain_flat_count : ∀ base : Heap, (∀ p ∈ ([(cL9, PL9), (cL12, PL12)] : List (Addr × Addr)), LamX.TabB base mg p.1 p.2) → Cal l.prog w K mg base "plain_flat_count" 4 ["values", "error"] S_plain_flat_count := fun base TBs => ⟨f12, _, ok_plain_flat_count F12 e12 (TBs (cL12, PL12) (by simp)) TH12 M_len (C_plain_flat base TBs) (C_fewest_parts base TBs), PySem.W.mg_of X G a12, k12, b12⟩
  have F13 := fun_mk (st := s__law_cell) l13 c13 k13
  have b13 := F13.binds (ps := ["script", "k"]) fun _ _ _ _ _ _ us hl => match us, hl with | [_, _], _ => rfl
  have C__law_cell : ∀ base : Heap, (∀ p ∈ ([(cL9, PL9), (cL12, PL12)] : List (Addr × Addr)), LamX.TabB base mg p.1 p.2) → Cal l.prog w K mg base "_law_cell" 1 ["script", "k"] S__law_cell := fun base TBs => ⟨f13, _, ok__law_cell F13 M_len, PySem.W.mg_of X G a13, k13, b13⟩
  have F14 := fun_mk (st := s__law_digits) l14 c14 k14
  have b14 := F14.binds (ps := ["cell", "many", "count"]) fun _ _ _ _ _ _ us hl => match us, hl with | [_, _, _], _ => rfl
  have C__law_digits : ∀ base : Heap, (∀ p ∈ ([(cL9, PL9), (cL12, PL12)] : List (Addr × Addr)), LamX.TabB base mg p.1 p.2) → Cal l.prog w K mg base "_law_digits" 1 ["cell", "many", "count"] S__law_digits := fun base TBs => ⟨f14, _, ok__law_digits F14 M_range M_int, PySem.W.mg_of X G a14, k14, b14⟩
  have F15 := fun_mk (st := s__law_values) l15 c15 k15
  have b15 := F15.binds (ps := ["script", "place", "most"]) fun _ _ _ _ _ _ us hl => match us, hl with | [_, _, _], _ => rfl
  have C__law_values : ∀ base : Heap, (∀ p ∈ ([(cL9, PL9), (cL12, PL12)] : List (Addr × Addr)), LamX.TabB base mg p.1 p.2) → Cal l.prog w K mg base "_law_values" 2 ["script", "place", "most"] S__law_values := fun base TBs => ⟨f15, _, ok__law_values F15 (C__law_cell base TBs) M_int (C__law_digits base TBs) M_range, PySem.W.mg_of X G a15, k15, b15⟩
  have F16 := fun_mk (st := s__law_error_of) l16 c16 k16
  have b16 := F16.binds (ps := ["script", "place", "values"]) fun _ _ _ _ _ _ us hl => match us, hl with | [_, _, _], _ => rfl
  have C__law_error_of : ∀ base : Heap, (∀ p ∈ ([(cL9, PL9), (cL12, PL12)] : List (Addr × Addr)), LamX.TabB base mg p.1 p.2) → Cal l.prog w K mg base "_law_error_of" 2 ["script", "place", "values"] S__law_error_of := fun base TBs => ⟨f16, _, ok__law_error_of F16 (C__law_cell base TBs) M_len M_int M_max M_min, PySem.W.mg_of X G a16, k16, b16⟩
  have F17 := fun_mk (st := s__law_flat) l17 c17 k17
  have b17 := F17.binds (ps := ["values", "error"]) fun _ _ _ _ _ _ us hl => match us, hl with | [_, _], _ => rfl
  have C__law_flat : ∀ base : Heap, (∀ p ∈ ([(cL9, PL9), (cL12, PL12)] : List (Addr × Addr)), LamX.TabB base mg p.1 p.2) → Cal l.prog w K mg base "_law_flat" 1 ["values", "error"] S__law_flat := fun base TBs => ⟨f17, _, ok__law_flat F17 M_max M_min M_len, PySem.W.mg_of X G a17, k17, b17⟩
  have F18 := fun_mk (st := s__law_flat_starts) l18 c18 k18
  have b18 := F18.binds (ps := ["values", "error"]) fun _ _ _ _ _ _ us hl => match us, hl with | [_, _], _ => rfl
  have C__law_flat_starts : ∀ base : Heap, (∀ p ∈ ([(cL9, PL9), (cL12, PL12)] : List (Addr × Addr)), LamX.TabB base mg p.1 p.2) → Cal l.prog w K mg base "_law_flat_starts" 2 ["values", "error"] S__law_flat_starts := fun base TBs => ⟨f18, _, ok__law_flat_starts F18 M_len M_range (C__law_flat base TBs), PySem.W.mg_of X G a18, k18, b18⟩
  have F19 := fun_mk (st := s__law_flat_least) l19 c19 k19
  have b19 := F19.binds (ps := ["values", "error"]) fun _ _ _ _ _ _ us hl => match us, hl with | [_, _], _ => rfl
  have C__law_flat_least : ∀ base : Heap, (∀ p ∈ ([(cL9, PL9), (cL12, PL12)] : List (Addr × Addr)), LamX.TabB base mg p.1 p.2) → Cal l.prog w K mg base "_law_flat_least" 2 ["values", "error"] S__law_flat_least := fun base TBs => ⟨f19, _, ok__law_flat_least F19 M_len M_range (C__law_flat base TBs), PySem.W.mg_of X G a19, k19, b19⟩
  have F20 := fun_mk (st := s_law) l20 c20 k20
  refine ⟨PySem.W.fnOf "law" "law" (defArgs s_law) (defBody s_law) (defScope s_law) .none kV20 dc20 pm20 an20 cd20 ct20, ([(cL9, PL9), (cL12, PL12)] : List (Addr × Addr)), spLawT K ([(PL9, lamQ "flat_cut"), (PL12, lamQ "plain_flat_count")] : List (Addr × Str)), ?_, ?_, ?_, fun s v => .of_eq rfl, ?_, fun base _ _ TBs => law_startT ([(PL9, lamQ "flat_cut"), (PL12, lamQ "plain_flat_count")] : List (Addr × Str)) (ok_law (P := l.prog) (w := w) (base := base) F20 (C__law_values base TBs) (C__law_error_of base TBs) M_list (C_flat_cut base TBs) M_ck6 (C__law_flat_starts base TBs) M_ci6 M_isinstance M_len M_range M_abs M_all M_max (C__law_flat_least base TBs) (C_plain_flat_count base TBs) (C_judge_flat base TBs)) law_true⟩
  · intro p hp
    simp only [List.mem_cons, List.not_mem_nil, or_false] at hp
    rcases hp with rfl | rfl
    · exact t09
    · exact t012
  · intro p hp
    simp only [List.mem_cons, List.not_mem_nil, or_false] at hp
    rcases hp with rfl | rfl
    · exact nk9
    · exact nk12
  · intro p hp
    simp only [List.mem_cons, List.not_mem_nil, or_false] at hp
    rcases hp with rfl | rfl
    · exact PySem.W.codeHd_of_K X hc9
    · exact PySem.W.codeHd_of_K X hc12
  · intro H a ns hl _ hT hS
    refine ⟨a, ns, rfl, hS, hl, fun p hp => ?_, fun _ => rfl⟩
    simp only [List.mem_cons, List.not_mem_nil, or_false] at hp
    rcases hp with rfl | rfl
    · exact hT (cL9, PL9) (by simp)
    · exact hT (cL12, PL12) (by simp)
end K10
open PySem PySem.W PyProof.Rows
set_option maxHeartbeats 0 in
theorem PySem.Challenge.cw_fewestlines_k10_whole_flat_pieces_holds : PySem.Challenge.rw_fewestlines_k10_whole_flat_pieces.Holds := by
  w_on; o_law; k_head; (case hw => w_witness2)
  k_fill
  refine LamX.walk_ofTs (l := PySem.Challenge.rw_fewestlines_k10_whole_flat_pieces) (n := 63) (k := 6) (x := "script") (CX := fun _ => L2.CX0) rfl (by decide) rfl ⟨rfl, by decide, by decide⟩ (fun w h Y => PySem.W.km_in_of Y) ?F (fun _ _ _ _ _ h => h)
  case F =>
    intro w mg fa h Y KX G hmg
    have hT8 := PySem.W.km_tabs_of Y
    refine' K10.all_mk KX G hmg ?gC6 ?pg6 ?hd6 ?po6 ?sa6 ?nf6_0 ?nf6_1 ?ia6 ?ib6 ?ie6 ?ir6 ?mk6 ?kc6 ?a1 ?l1 ?c1 ?k1 ?a2 ?l2 ?c2 ?k2 ?a3 ?l3 ?c3 ?k3 ?a4 ?l4 ?c4 ?k4 ?a5 ?l5 ?c5 ?k5 ?a6 ?i6 ?l6 ?c6 ?k6 ?a7 ?l7 ?c7 ?k7 ?a8 ?l8 ?c8 ?k8 ?a9 ?l9 ?c9 ?k9 ?e9 ?lc9 ?vp9 ?t09 ?nk9 ?hc9 ?a10 ?l10 ?c10 ?k10 ?a11 ?l11 ?c11 ?k11 ?a12 ?l12 ?c12 ?k12 ?e12 ?lc12 ?vp12 ?t012 ?nk12 ?hc12 ?a13 ?l13 ?c13 ?k13 ?a14 ?l14 ?c14 ?k14 ?a15 ?l15 ?c15 ?k15 ?a16 ?l16 ?c16 ?k16 ?a17 ?l17 ?c17 ?k17 ?a18 ?l18 ?c18 ?k18 ?a19 ?l19 ?c19 ?k19 ?a20 ?l20 ?c20 ?k20 ?z_zip ?z_len ?z_max ?z_range ?z_list ?z_abs ?z_all ?z_combinations ?z_int ?z_min ?z_isinstance ?ndT
    (case gC6 => k_is); (case pg6 => k_is); (case hd6 => k_is); (case po6 => k_is); (case sa6 => k_is); (case nf6_0 => k_is); (case nf6_1 => k_is); (case ia6 => k_is); (case ib6 => k_is); (case ie6 => k_is); (case ir6 => k_is); (case mk6 => k_is); (case kc6 => k_is); (case a1 => k_is); (case l1 => k_is); (case c1 => k_is); (case k1 => k_is); (case a2 => k_is); (case l2 => k_is); (case c2 => k_is); (case k2 => k_is); (case a3 => k_is); (case l3 => k_is); (case c3 => k_is); (case k3 => k_is); (case a4 => k_is); (case l4 => k_is); (case c4 => k_is); (case k4 => k_is); (case a5 => k_is); (case l5 => k_is); (case c5 => k_is); (case k5 => k_is); (case a6 => k_is); (case i6 => k_is); (case l6 => k_is); (case c6 => k_is); (case k6 => k_is); (case a7 => k_is); (case l7 => k_is); (case c7 => k_is); (case k7 => k_is); (case a8 => k_is); (case l8 => k_is); (case c8 => k_is); (case k8 => k_is); (case a9 => k_is); (case l9 => k_is); (case c9 => k_is); (case k9 => k_is); (case e9 => rfl); (case lc9 => k_is); (case vp9 => rfl); (case t09 => exact hT8 _ (by k_mem)); (case nk9 => kernel_rfl); (case hc9 => kernel_rfl); (case a10 => k_is); (case l10 => k_is); (case c10 => k_is); (case k10 => k_is); (case a11 => k_is); (case l11 => k_is); (case c11 => k_is); (case k11 => k_is); (case a12 => k_is); (case l12 => k_is); (case c12 => k_is); (case k12 => k_is); (case e12 => rfl); (case lc12 => k_is); (case vp12 => rfl); (case t012 => exact hT8 _ (by k_mem)); (case nk12 => kernel_rfl); (case hc12 => kernel_rfl); (case a13 => k_is); (case l13 => k_is); (case c13 => k_is); (case k13 => k_is); (case a14 => k_is); (case l14 => k_is); (case c14 => k_is); (case k14 => k_is); (case a15 => k_is); (case l15 => k_is); (case c15 => k_is); (case k15 => k_is); (case a16 => k_is); (case l16 => k_is); (case c16 => k_is); (case k16 => k_is); (case a17 => k_is); (case l17 => k_is); (case c17 => k_is); (case k17 => k_is); (case a18 => k_is); (case l18 => k_is); (case c18 => k_is); (case k18 => k_is); (case a19 => k_is); (case l19 => k_is); (case c19 => k_is); (case k19 => k_is); (case a20 => k_is); (case l20 => k_is); (case c20 => k_is); (case k20 => k_is); (case z_zip => k_is); (case z_len => k_is); (case z_max => k_is); (case z_range => k_is); (case z_list => k_is); (case z_abs => k_is); (case z_all => k_is); (case z_combinations => k_is); (case z_int => k_is); (case z_min => k_is); (case z_isinstance => k_is); (case ndT => decide)


import PyProof.Rows.All
import Wide.All
import OpenK.AllK
import Wide.FinOn
import HandS.ForMost
import HandS.IsInst
import HandS.Gcd
import HandS.Wide
import HandS.Style
import HandS.SortInts
import HandS.RevRange
import HandS.Conv
import HandS.Lambda
import HandS.Flow
import KE.GoesMore
import HandS.More
import HandS.OwnIter
import HandS.Iter
import KE.KDictZip
import PyProof.AssignAttr
import HandS.Nested
import HandS.EndTab
import KE.KNestM
import HandS.Deep
import HandS.SetFor
import HandS.Strs
import HandS.Zip
import HandS.ListItems
import HandS.Dict
import PySem.Challenge.RW_fewestlines_k28_whole_combined_pieces
set_option Elab.async false
set_option linter.all false
set_option maxRecDepth 100000
set_option maxHeartbeats 4000000
namespace DL
open PySem L2

/-! ### data, and how a value holds it -/
inductive D where
  | non | bl (b : Bool) | int (i : Int) | str (x : Str)
  | lst (xs : List D) | tup (xs : List D) | scr (ns : List Int)
  | obj (c : Nat) (vs : List D) | fn (a c : Addr) (q : Str) (vs : List V) (ds : List D) | dic (ks : List Key) (xs : List D)

/-- the program's classes: names, fields in the order in which __init__ sets them -/
def cTab : List (Str × List Str) := [("Cutting", ["pieces", "reasons"]), ("Level", ["stored", "error", "pieces"]), ("Index", ["stored", "_levels"]), ("Fitter", ["error", "count", "_strip"]), ("Strip", ["_upper", "_lower", "_greatest"]), ("Run", ["entries", "_index"]), ("FlatCutting", ["pieces", "reasons"]), ("SpanCutting", ["pieces", "reasons"]), ("LeastSlope", ["_chain", "bound"]), ("Bundle", ["count", "_first", "_least", "_greatest"]), ("Stream", ["error", "length", "_closed", "_start", "_bundle"]), ("Plan", ["pieces", "reaches", "prices"]), ("Coded", ["pieces", "corrections"]), ("Outline", ["error", "length", "pieces"]), ("Row", ["errors", "_strip"]), ("Reaches", ["_points", "_rows"]), ("Store", ["capacity", "error", "moves", "edits", "_buffer", "_runs"]), ("Starts", ["_row", "_waiting", "_passed"]), ("InvalidPaper", ["line"]), ("Cursor", ["_pairs"]), ("View", ["edits", "_values"]), ("PlainStore", ["_values"]), ("Paper", ["_lines", "number"]), ("Durable", ["store", "base", "journal", "synced", "_serial"]), ("Boxes", ["_bits", "_points", "_index"])]
def cN (c : Nat) : Str := (cTab.getD c ("", [])).1
def cF (c : Nat) : List Str := (cTab.getD c ("", [])).2
mutual
inductive Rep (K : PySem.W.Frag) (mg : Str → Option Value) (G : Hp) : V → D → Prop
  | non : Rep K mg G .non .non
  | bl (b : Bool) : Rep K mg G (.bl b) (.bl b)
  | int (i : Int) : Rep K mg G (.int i) (.int i)
  | str (x : Str) : Rep K mg G (.str x) (.str x)
  | lst {a : Addr} {vs : List V} {xs : List D} (h : G a = some (.lst vs)) (r : RepL K mg G vs xs) : Rep K mg G (.ref a) (.lst xs)
  | tup {a : Addr} {vs : List V} {xs : List D} (h : G a = some (.tup vs)) (r : RepL K mg G vs xs) : Rep K mg G (.ref a) (.tup xs)
  | scr {a : Addr} {ns : List Int} (h : SqL K G a (ns.map V.int)) : Rep K mg G (.ref a) (.scr ns)
  | obj {a C dx : Addr} {c : Nat} {vs : List V} {ds : List D} (hm : mg (cN c) = some (.ref C)) (h : G a = some (.ins C dx ((cF c).zip vs))) (r : RepL K mg G vs ds) : Rep K mg G (.ref a) (.obj c ds)
  | fn {a c : Addr} {q : Str} {vs : List V} {ds : List D} (hc : G c = some (LamX.CodeO c q)) (r : RepL K mg G vs ds) : Rep K mg G (.ref a) (.fn a c q vs ds)
  | dic {a : Addr} {ks : List Key} {vs : List V} {xs : List D} (h : G a = some (.dK (ks.zip vs))) (l : ks.length = vs.length) (r : RepL K mg G vs xs) : Rep K mg G (.ref a) (.dic ks xs)
inductive RepL (K : PySem.W.Frag) (mg : Str → Option Value) (G : Hp) : List V → List D → Prop
  | nil : RepL K mg G [] []
  | cons {v : V} {vs : List V} {d : D} {ds : List D} (h : Rep K mg G v d) (r : RepL K mg G vs ds) : RepL K mg G (v :: vs) (d :: ds)
end

section
variable {K : PySem.W.Frag} {mg : Str → Option Value} {G G' : Hp}
mutual
theorem Rep.mono (e : Same G G') : ∀ {v : V} {d : D}, Rep K mg G v d → Rep K mg G' v d
  | _, _, .non => .non
  | _, _, .bl b => .bl b
  | _, _, .int i => .int i
  | _, _, .str x => .str x
  | _, _, .lst h r => .lst (e _ _ h) (RepL.mono e r)
  | _, _, .tup h r => .tup (e _ _ h) (RepL.mono e r)
  | _, _, .scr h => .scr (e.seq h)
  | _, _, .obj hm h r => .obj hm (e _ _ h) (RepL.mono e r)
  | _, _, .fn hc r => .fn (e _ _ hc) (RepL.mono e r)
  | _, _, .dic h l r => .dic (e _ _ h) l (RepL.mono e r)
theorem RepL.mono (e : Same G G') : ∀ {v : List V} {d : List D}, RepL K mg G v d → RepL K mg G' v d
  | _, _, .nil => .nil
  | _, _, .cons h r => .cons (Rep.mono e h) (RepL.mono e r)
end
theorem RepL.length : ∀ {vs : List V} {ds : List D}, RepL K mg G vs ds → vs.length = ds.length
  | _, _, .nil => rfl
  | _, _, .cons _ r => by simp [RepL.length r]
theorem RepL.get : ∀ {vs : List V} {ds : List D} (i : Nat) {d : D}, RepL K mg G vs ds → ds[i]? = some d → ∃ v, vs[i]? = some v ∧ Rep K mg G v d
  | _, _, _, _, .nil, h => by simp at h
  | _, _, 0, _, .cons h _, e => by simp at e; subst e; exact ⟨_, rfl, h⟩
  | _, _, i + 1, _, .cons _ r, e => by
    obtain ⟨v, h1, h2⟩ := RepL.get i r (by simpa using e)
    exact ⟨v, by simpa using h1, h2⟩
theorem RepL.append : ∀ {vs ws : List V} {ds es : List D}, RepL K mg G vs ds → RepL K mg G ws es → RepL K mg G (vs ++ ws) (ds ++ es)
  | _, _, _, _, .nil, s => s
  | _, _, _, _, .cons h r, s => .cons h (r.append s)
theorem RepL.take : ∀ (n : Nat) {vs : List V} {ds : List D}, RepL K mg G vs ds → RepL K mg G (vs.take n) (ds.take n)
  | 0, _, _, _ => by simp; exact .nil
  | _ + 1, _, _, .nil => .nil
  | n + 1, _, _, .cons h r => .cons h (r.take n)
theorem RepL.drop : ∀ (n : Nat) {vs : List V} {ds : List D}, RepL K mg G vs ds → RepL K mg G (vs.drop n) (ds.drop n)
  | 0, _, _, r => r
  | _ + 1, _, _, .nil => .nil
  | n + 1, _, _, .cons _ r => r.drop n
theorem RepL.set : ∀ (i : Nat) {vs : List V} {ds : List D} {v : V} {d : D}, RepL K mg G vs ds → Rep K mg G v d → RepL K mg G (vs.set i v) (ds.set i d)
  | _, _, _, _, _, .nil, _ => .nil
  | 0, _, _, _, _, .cons _ r, h => .cons h r
  | i + 1, _, _, _, _, .cons h r, q => .cons h (r.set i q)
theorem RepL.reverse : ∀ {vs : List V} {ds : List D}, RepL K mg G vs ds → RepL K mg G vs.reverse ds.reverse
  | _, _, .nil => .nil
  | _, _, .cons h r => by
    rw [List.reverse_cons, List.reverse_cons]
    exact r.reverse.append (.cons h .nil)
theorem RepL.ints : ∀ {ns : List Int} {vs : List V}, RepL K mg G vs (ns.map D.int) → vs = ns.map V.int
  | [], _, r => by cases r; rfl
  | n :: ns, _, r => by
    cases r with
    | cons h r => cases h; rw [RepL.ints r]; rfl
theorem RepL.ofInts : ∀ {ns : List Int}, RepL K mg G (ns.map V.int) (ns.map D.int)
  | [] => .nil
  | n :: ns => .cons (.int n) RepL.ofInts
theorem RepL.bls : ∀ {ns : List Bool} {vs : List V}, RepL K mg G vs (ns.map D.bl) → vs = ns.map V.bl
  | [], _, r => by cases r; rfl
  | n :: ns, _, r => by
    cases r with
    | cons h r => cases h; rw [RepL.bls r]; rfl
end

/-! what is looked at: a datum, or a list or an object of somebody's own -/
/-- no table of code objects -/
def NT (o : HO) : Prop := ∀ ps, o ≠ .tbl ps
def SameN (H H' : Hp) : Prop := ∀ a o, H a = some o → NT o → H' a = some o
theorem same_n {H H' : Hp} (e : Same H H') : SameN H H' := fun a o q _ => e a o q
theorem SameN.trans {H H1 H2 : Hp} (a : SameN H H1) (b : SameN H1 H2) : SameN H H2 := fun x o q n => b x o (a x o q n) n
mutual
inductive RepB (K : PySem.W.Frag) (mg : Str → Option Value) (G H : Hp) : V → D → Prop
  | sh {v : V} {d : D} (h : Rep K mg G v d) : RepB K mg G H v d
  | li {p : Addr} {vs : List V} {xs : List D} (h : H p = some (.lst vs)) (r : RepL K mg G vs xs) : RepB K mg G H (.ref p) (.lst xs)
  | obj {p C dx : Addr} {c : Nat} {vs : List V} {ds : List D} (hm : mg (cN c) = some (.ref C)) (h : H p = some (.ins C dx ((cF c).zip vs))) (r : RepBL K mg G H vs ds) : RepB K mg G H (.ref p) (.obj c ds)
  | dic {p : Addr} {ks : List Key} {vs : List V} {xs : List D} (h : H p = some (.dK (ks.zip vs))) (l : ks.length = vs.length) (r : RepL K mg G vs xs) : RepB K mg G H (.ref p) (.dic ks xs)
inductive RepBL (K : PySem.W.Frag) (mg : Str → Option Value) (G H : Hp) : List V → List D → Prop
  | nil : RepBL K mg G H [] []
  | cons {v : V} {vs : List V} {d : D} {ds : List D} (h : RepB K mg G H v d) (r : RepBL K mg G H vs ds) : RepBL K mg G H (v :: vs) (d :: ds)
end
section
variable {K : PySem.W.Frag} {mg : Str → Option Value} {G G' H H' : Hp}
mutual
theorem RepB.mono (g : Same G G') (k : SameN H H') : ∀ {v : V} {d : D}, RepB K mg G H v d → RepB K mg G' H' v d
  | _, _, .sh h => .sh (h.mono g)
  | _, _, .li h r => .li (k _ _ h nofun) (r.mono g)
  | _, _, .obj hm h r => .obj hm (k _ _ h nofun) (RepBL.mono g k r)
  | _, _, .dic h l r => .dic (k _ _ h nofun) l (r.mono g)
theorem RepBL.mono (g : Same G G') (k : SameN H H') : ∀ {v : List V} {d : List D}, RepBL K mg G H v d → RepBL K mg G' H' v d
  | _, _, .nil => .nil
  | _, _, .cons h r => .cons (RepB.mono g k h) (RepBL.mono g k r)
end
theorem RepBL.length : ∀ {vs : List V} {ds : List D}, RepBL K mg G H vs ds → vs.length = ds.length
  | _, _, .nil => rfl
  | _, _, .cons _ r => by simp [RepBL.length r]
theorem RepBL.get : ∀ {vs : List V} {ds : List D} (i : Nat) {d : D}, RepBL K mg G H vs ds → ds[i]? = some d → ∃ v, vs[i]? = some v ∧ RepB K mg G H v d
  | _, _, _, _, .nil, h => by simp at h
  | _, _, 0, _, .cons h _, e => by simp at e; subst e; exact ⟨_, rfl, h⟩
  | _, _, i + 1, _, .cons _ r, e => by
    obtain ⟨v, h1, h2⟩ := RepBL.get i r (by simpa using e)
    exact ⟨v, by simpa using h1, h2⟩
theorem RepL.bo : ∀ {vs : List V} {ds : List D}, RepL K mg G vs ds → RepBL K mg G H vs ds
  | _, _, .nil => .nil
  | _, _, .cons h r => .cons (.sh h) r.bo
end

theorem nn {H H' : Hp} (e : Same H H') {a : Addr} (h : H a ≠ Option.none) : H' a ≠ Option.none := by
  cases q : H a with
  | none => exact absurd q h
  | some o => rw [e a o q]; simp
theorem same_at {H H' : Hp} (e : Same H H') {a : Addr} (h : H a ≠ Option.none) : H' a = H a := by
  cases q : H a with
  | none => exact absurd q h
  | some o => rw [e a o q]
/-- a list, an instance, a dict -/
def LID (o : HO) : Prop := (∃ vs, o = .lst vs) ∨ (∃ C dx fs, o = .ins C dx fs) ∨ ∃ kvs, o = .dK kvs
/-- what is known of tables: it outlasts all that leaves them as they are -/
structure TabI where
  tz : Addr → Prop
  t : Hp → Hp → Prop
  keep : ∀ {G H G' H' : Hp}, t G H → Same G G' → (∀ a, tz a → H' a = H a) → (∀ a, tz a → G a = Option.none → G' a = Option.none) → t G' H'
  live : ∀ {G H : Hp}, t G H → ∀ a, tz a → H a ≠ Option.none ∧ G a = Option.none
  tbl : ∀ {G H : Hp}, t G H → ∀ a, tz a → ∃ ps, H a = some (.tbl ps)
  less : ∀ {G G' H : Hp}, t G H → (∀ a o, G' a = some o → G a = some o) → (∀ a o, G a = some o → G' a = some o ∨ LID o) → t G' H
def TabI.none : TabI := ⟨fun _ => False, fun _ _ => True, fun _ _ _ _ => trivial, fun _ _ h => h.elim, fun _ _ h => h.elim, fun _ _ _ => trivial⟩
/-- the tables that a program is about -/
class TabCtx where
  ti : TabI
instance (priority := low) TabCtx.none : TabCtx := ⟨TabI.none⟩
variable [TC : TabCtx]
/-! ### how heaps grow: G what is known and stays, H all that is tracked -/
structure Ext [TC : TabCtx] (G H G' H' : Hp) : Prop where
  gg : Same G G'
  hh : SameN H H'
  gh : Same G' H'
  new : ∀ a, G' a ≠ none → G a ≠ none ∨ H a = none
  hn : ∀ a, H a ≠ none → H' a ≠ none
  tb : TC.ti.t G H → TC.ti.t G' H'
theorem Ext.hf {G H G' H' : Hp} (e : Ext G H G' H') {a : Addr} (h : H' a = none) : H a = none := by
  cases q : H a with
  | none => rfl
  | some o => exact absurd h (e.hn a (by rw [q]; simp))
theorem Ext.same {G H G' H' : Hp} (gg : Same G G') (hh : Same H H') (gh : Same G' H') (new : ∀ a, G' a ≠ none → G a ≠ none ∨ H a = none) : Ext G H G' H' :=
  ⟨gg, same_n hh, gh, new, fun _ h => nn hh h, fun t => TC.ti.keep t gg (fun a h => same_at hh (TC.ti.live t a h).1) (fun a h g => by
    cases q : G' a with
    | none => rfl
    | some u =>
      rcases new a (by rw [q]; simp) with z | z
      · exact absurd g z
      · exact absurd z (TC.ti.live t a h).1)⟩
theorem Ext.refl {G H : Hp} (h : Same G H) : Ext G H G H := Ext.same (Same.refl _) (Same.refl _) h fun _ h => .inl h
theorem Ext.trans {G H G1 H1 G2 H2 : Hp} (a : Ext G H G1 H1) (b : Ext G1 H1 G2 H2) : Ext G H G2 H2 :=
  ⟨a.gg.trans b.gg, a.hh.trans b.hh, b.gh, fun x h => by
    rcases b.new x h with h | h
    · exact a.new x h
    · exact .inr (a.hf h), fun x h => b.hn x (a.hn x h), fun t => b.tb (a.tb t)⟩
theorem same_upd {H : Hp} {p : Addr} {o : HO} (h : H p = none) : Same H (upd H p o) := fun b x e => by
  rw [upd_ne (ne_of_none e h)]
  exact e
theorem same_upd2 {G H : Hp} {p : Addr} {o : HO} (e : Same G H) : Same (upd G p o) (upd H p o) := fun b x h => by
  by_cases q : b = p
  · subst q; rw [upd_same] at h ⊢; exact h
  · rw [upd_ne q] at h ⊢; exact e _ _ h
/-- a new object, known from now on -/
theorem Ext.new1 {G H : Hp} {p : Addr} {o : HO} (gh : Same G H) (h : H p = none) : Ext G H (upd G p o) (upd H p o) :=
  Ext.same (same_upd (gh.free h)) (same_upd h) (same_upd2 gh) fun a q => by
    by_cases e : a = p
    · subst e; exact .inr h
    · rw [upd_ne e] at q; exact .inl q
/-- a new object that is kept for oneself -/
theorem Ext.own1 {G H : Hp} {p : Addr} {o : HO} (gh : Same G H) (h : H p = none) : Ext G H G (upd H p o) :=
  Ext.same (Same.refl _) (same_upd h) (fun a x q => by rw [upd_ne (ne_of_none (gh a x q) h)]; exact gh a x q) fun a q => .inl q

/-- a new object of one's own is given away -/
theorem Ext.frz1 {G H G1 H1 : Hp} {p : Addr} {o : HO} (x : Ext G H G1 H1) (hp : H p = none) (gp : G1 p = none) (h : H1 p = some o) : Ext G H (upd G1 p o) H1 :=
  ⟨x.gg.trans (same_upd gp), x.hh, fun a u q => by
    by_cases z : a = p
    · subst z; rw [upd_same] at q; cases q; exact h
    · rw [upd_ne z] at q; exact x.gh _ _ q, fun a q => by
    by_cases z : a = p
    · subst z; exact .inr hp
    · rw [upd_ne z] at q; exact x.new a q, x.hn, fun t => TC.ti.keep (x.tb t) (same_upd gp) (fun _ _ => rfl) (fun a h g => by
      rw [upd_ne (fun z => (TC.ti.live t a h).1 (by rw [z]; exact hp))]
      exact g)⟩

/-! ### slots -/
inductive Sl where
  | no | sh (d : D) | ow (xs : List D) | dk (ks : List Key) (xs : List D) | ob (c : Nat) (fs : List Sl) | bo (d : D) | ol (ss : List Sl)
/-- a slot that may be written at its places -/
def SlP (s : Sl) : Prop := s ≠ .no ∧ ∀ d, s ≠ .bo d
abbrev DEnv := List Sl

/-! a value that holds what a slot says; F: the objects that are one's own in it (or some more) -/
mutual
inductive Hd (K : PySem.W.Frag) (mg : Str → Option Value) (G H : Hp) : V → (Addr → Prop) → Sl → Prop
  | sh {v : V} {d : D} {F : Addr → Prop} (h : Rep K mg G v d) : Hd K mg G H v F (.sh d)
  | ow {p : Addr} {vs : List V} {xs : List D} {F : Addr → Prop} (f : F p) (h : H p = some (.lst vs)) (r : RepL K mg G vs xs) : Hd K mg G H (.ref p) F (.ow xs)
  | dk {p : Addr} {ks : List Key} {vs : List V} {xs : List D} {F : Addr → Prop} (f : F p) (h : H p = some (.dK (ks.zip vs))) (l : ks.length = vs.length) (r : RepL K mg G vs xs) : Hd K mg G H (.ref p) F (.dk ks xs)
  | ob {p C dx : Addr} {c : Nat} {vs : List V} {fs : List Sl} {F F' : Addr → Prop} (f : F p) (hm : mg (cN c) = some (.ref C)) (h : H p = some (.ins C dx ((cF c).zip vs))) (n : ¬ F' p) (s : ∀ a, F' a → F a) (r : HdL K mg G H vs F' fs) : Hd K mg G H (.ref p) F (.ob c fs)
  | ol {p : Addr} {vs : List V} {ss : List Sl} {F F' : Addr → Prop} (f : F p) (h : H p = some (.lst vs)) (n : ¬ F' p) (s : ∀ a, F' a → F a) (r : HdL K mg G H vs F' ss) : Hd K mg G H (.ref p) F (.ol ss)
inductive HdL (K : PySem.W.Frag) (mg : Str → Option Value) (G H : Hp) : List V → (Addr → Prop) → List Sl → Prop
  | nil {F : Addr → Prop} : HdL K mg G H [] F []
  | cons {v : V} {vs : List V} {s : Sl} {ss : List Sl} {F F1 F2 : Addr → Prop} (h : Hd K mg G H v F1 s) (r : HdL K mg G H vs F2 ss) (s1 : ∀ a, F1 a → F a) (s2 : ∀ a, F2 a → F a) (d : ∀ a, F1 a → ¬ F2 a) : HdL K mg G H (v :: vs) F (s :: ss)
end
section
variable {K : PySem.W.Frag} {mg : Str → Option Value} {G G' H H' : Hp}
mutual
theorem Hd.mono (g : Same G G') : ∀ {v : V} {F : Addr → Prop} {s : Sl}, (∀ a o, F a → H a = some o → NT o → H' a = some o) → Hd K mg G H v F s → Hd K mg G' H' v F s
  | _, _, _, _, .sh h => .sh (h.mono g)
  | _, _, _, e, .ow f h r => .ow f (e _ _ f h nofun) (r.mono g)
  | _, _, _, e, .dk f h l r => .dk f (e _ _ f h nofun) l (r.mono g)
  | _, _, _, e, .ob f hm h n s r => .ob f hm (e _ _ f h nofun) n s (HdL.mono g (fun a o fa => e a o (s a fa)) r)
  | _, _, _, e, .ol f h n s r => .ol f (e _ _ f h nofun) n s (HdL.mono g (fun a o fa => e a o (s a fa)) r)
theorem HdL.mono (g : Same G G') : ∀ {v : List V} {F : Addr → Prop} {s : List Sl}, (∀ a o, F a → H a = some o → NT o → H' a = some o) → HdL K mg G H v F s → HdL K mg G' H' v F s
  | _, _, _, _, .nil => .nil
  | _, _, _, e, .cons h r s1 s2 d => .cons (Hd.mono g (fun a o fa => e a o (s1 a fa)) h) (HdL.mono g (fun a o fa => e a o (s2 a fa)) r) s1 s2 d
end
theorem Hd.wide {v : V} {F F' : Addr → Prop} {s : Sl} (w : ∀ a, F a → F' a) (h : Hd K mg G H v F s) : Hd K mg G H v F' s := by
  cases h with
  | sh h => exact .sh h
  | ow f h r => exact .ow (w _ f) h r
  | dk f h l r => exact .dk (w _ f) h l r
  | ob f hm h n s r => exact .ob (w _ f) hm h n (fun a x => w a (s a x)) r
  | ol f h n s r => exact .ol (w _ f) h n (fun a x => w a (s a x)) r
theorem HdL.wide {vs : List V} {F F' : Addr → Prop} {ss : List Sl} (w : ∀ a, F a → F' a) (h : HdL K mg G H vs F ss) : HdL K mg G H vs F' ss := by
  cases h with
  | nil => exact .nil
  | cons h r s1 s2 d => exact .cons h r (fun a x => w a (s1 a x)) (fun a x => w a (s2 a x)) d
theorem HdL.wide2 {vs : List V} {F F' : Addr → Prop} {ss : List Sl} (w : ∀ a, F a → F' a) (h : HdL K mg G H vs F ss) : HdL K mg G H vs F' ss := h.wide w
theorem Hd.mono2 {v : V} {F F' : Addr → Prop} {s : Sl} (g : Same G G') (k : ∀ a o, F a → H a = some o → NT o → H' a = some o) (w : ∀ a, F a → F' a) (h : Hd K mg G H v F s) : Hd K mg G' H' v F' s := (h.mono g k).wide w
theorem HdL.length : ∀ {vs : List V} {F : Addr → Prop} {ss : List Sl}, HdL K mg G H vs F ss → vs.length = ss.length
  | _, _, _, .nil => rfl
  | _, _, _, .cons _ r _ _ _ => by simp [HdL.length r]
end

def SlOk (K : PySem.W.Frag) (mg : Str → Option Value) (H0 G H : Hp) (F : Addr → Prop) (o : Option (Option V)) (s : Sl) : Prop := s = .no ∨ (∃ v, o = some (some v) ∧ Hd K mg G H v F s) ∨ ∃ v d, s = .bo d ∧ o = some (some v) ∧ RepB K mg G H0 v d

def isOwn : Sl → Bool
  | .ow _ => true
  | .dk _ _ => true
  | .ob _ _ => true
  | .ol _ => true
  | _ => false
/-- what belongs to others; the value that the first slot keeps as long as it is one's own -/
structure Zs where
  z : Addr → Prop
  a : Option V
  t : TabI
structure Rel [TC : TabCtx] (K : PySem.W.Frag) (mg : Str → Option Value) (G0 H0 : Hp) (Z : Zs) (Γ : DEnv) (σ : St) (G H : Hp) : Prop where
  len : σ.length = Γ.length
  gh : Same G H
  hh : SameN H0 H
  gg : Same G0 G
  new : ∀ a, G a ≠ none → G0 a ≠ none ∨ H0 a = none
  zz : ∀ a, Z.z a → H a ≠ none
  an : ∀ v s, Z.a = some v → Γ[0]? = some s → isOwn s = true → σ[0]? = some (some v)
  tb : Z.t.t G H
  tz : ∀ a, Z.t.tz a → Z.z a
  tc : Z.t = TC.ti
  hn : ∀ a, H0 a ≠ Option.none → H a ≠ Option.none
  own : ∃ own : Nat → Addr → Prop, (∀ i a, own i a → G a = none ∧ H0 a = none ∧ H a ≠ none ∧ ¬ Z.z a) ∧ (∀ i j a, own i a → own j a → i = j) ∧ ∀ (i : Nat) s, Γ[i]? = some s → SlOk K mg H0 G H (own i) (σ[i]?) s

section
variable {K : PySem.W.Frag} {mg : Str → Option Value} {G0 H0 G H G' H' : Hp} {Z : Zs} {Γ : DEnv} {σ : St}
theorem Ext.none {a : Addr} (e : Ext G H G' H') (h1 : G a = Option.none) (h2 : H a ≠ Option.none) : G' a = Option.none := by
  cases q : G' a with
  | none => rfl
  | some u =>
    rcases e.new a (by rw [q]; simp) with z | z
    · exact absurd h1 z
    · exact absurd z h2
theorem SlOk.ext {F : Addr → Prop} {o : Option (Option V)} {s : Sl} (e : Ext G H G' H') (h : SlOk K mg H0 G H F o s) : SlOk K mg H0 G' H' F o s := by
  rcases h with h | ⟨v, h1, h2⟩ | ⟨v, d, h0, h1, h2⟩
  · exact .inl h
  · exact .inr (.inl ⟨v, h1, h2.mono e.gg fun a o _ q n => e.hh a o q n⟩)
  · exact .inr (.inr ⟨v, d, h0, h1, h2.mono e.gg (same_n (Same.refl _))⟩)
theorem Rel.hf (r : Rel K mg G0 H0 Z Γ σ G H) {a : Addr} (h : H a = Option.none) : H0 a = Option.none := by
  cases q : H0 a with
  | none => rfl
  | some o => exact absurd h (r.hn a (by rw [q]; simp))
theorem Rel.tbx (r : Rel K mg G0 H0 Z Γ σ G H) (e : TC.ti.t G H → TC.ti.t G' H') : Z.t.t G' H' := by
  rw [r.tc]
  exact e (by rw [← r.tc]; exact r.tb)
theorem Rel.tbc (r : Rel K mg G0 H0 Z Γ σ G H) : TC.ti.t G H := by rw [← r.tc]; exact r.tb
theorem Rel.ext (r : Rel K mg G0 H0 Z Γ σ G H) (e : Ext G H G' H') : Rel K mg G0 H0 Z Γ σ G' H' := by
  obtain ⟨own, o1, o2, o3⟩ := r.own
  exact ⟨r.len, e.gh, r.hh.trans e.hh, r.gg.trans e.gg, fun a q => by
    rcases e.new a q with z | z
    · exact r.new a z
    · exact .inr (r.hf z), fun a z => e.hn _ (r.zz a z), r.an, r.tbx e.tb, r.tz, r.tc, fun a h => e.hn a (r.hn a h), own, fun i a h => by
      obtain ⟨h1, h2, h3, h4⟩ := o1 i a h
      exact ⟨e.none h1 h3, h2, e.hn _ h3, h4⟩, o2, fun i s h => (o3 i s h).ext e⟩
theorem set_get {α : Type} {l : List α} {i j : Nat} {x y : α} (h : (l.set i x)[j]? = some y) : (i = j ∧ i < l.length ∧ y = x) ∨ (i ≠ j ∧ l[j]? = some y) := by
  by_cases e : i = j
  · subst e
    rw [List.getElem?_set] at h
    by_cases z : i < l.length
    · simp [z] at h; exact .inl ⟨rfl, z, h.symm⟩
    · simp [z] at h
  · rw [List.getElem?_set_ne e] at h
    exact .inr ⟨e, h⟩
/-- a slot gets something that was made anew -/
theorem Rel.setNew (r : Rel K mg G0 H0 Z Γ σ G H) (e : Ext G H G' H') (i : Nat) {v : V} {s : Sl} {F : Addr → Prop} (h : Hd K mg G' H' v F s) (hF : ∀ a, F a → G' a = none ∧ H a = none ∧ H' a ≠ none) (hi : i ≠ 0 ∨ isOwn s = false) : Rel K mg G0 H0 Z (Γ.set i s) (σ.set i (some v)) G' H' := by
  obtain ⟨own, o1, o2, o3⟩ := r.own
  have r' := r.ext e
  refine ⟨by simpa using r.len, r'.gh, r'.hh, r'.gg, r'.new, r'.zz, fun w s' e1 e2 e3 => ?_, r'.tb, r'.tz, r'.tc, r'.hn, fun j a => if j = i then F a else own j a, fun j a q => ?_, fun j k a q1 q2 => ?_, fun j s' q => ?_⟩
  · rcases set_get e2 with ⟨ei, hl, rfl⟩ | ⟨ei, q⟩
    · rcases hi with h | h
      · exact absurd ei h
      · rw [h] at e3; cases e3
    · rw [List.getElem?_set_ne ei]
      exact r.an w s' e1 q e3
  · by_cases ei : j = i
    · simp only [ei, if_true] at q
      obtain ⟨h1, h2, h3⟩ := hF a q
      exact ⟨h1, r.hf h2, h3, fun z => r.zz a z h2⟩
    · simp only [ei, if_false] at q
      obtain ⟨h1, h2, h3, h4⟩ := o1 j a q
      exact ⟨e.none h1 h3, h2, e.hn _ h3, h4⟩
  · by_cases e1 : j = i
    · by_cases e2 : k = i
      · rw [e1, e2]
      · simp only [e1, e2, if_true, if_false] at q1 q2
        exact absurd (hF a q1).2.1 (o1 k a q2).2.2.1
    · by_cases e2 : k = i
      · simp only [e1, e2, if_true, if_false] at q1 q2
        exact absurd (hF a q2).2.1 (o1 j a q1).2.2.1
      · simp only [e1, e2, if_false] at q1 q2
        exact o2 j k a q1 q2
  · rcases set_get q with ⟨ei, hl, rfl⟩ | ⟨ei, q⟩
    · subst ei
      refine .inr (.inl ⟨v, by simp [List.getElem?_set, r.len, hl], ?_⟩)
      simp only [if_true]
      exact h
    · rw [List.getElem?_set_ne ei]
      simp only [Ne.symm ei, if_false]
      exact (o3 j s' q).ext e
/-- a slot gets a datum -/
theorem Rel.set (r : Rel K mg G0 H0 Z Γ σ G H) (i : Nat) {v : V} {d : D} (h : Rep K mg G v d) : Rel K mg G0 H0 Z (Γ.set i (.sh d)) (σ.set i (some v)) G H :=
  r.setNew (Ext.refl r.gh) i (F := fun _ => False) (.sh h) (fun _ z => z.elim) (.inr rfl)
/-- slots forgotten -/
theorem Rel.drop (r : Rel K mg G0 H0 Z Γ σ G H) (i : Nat) : Rel K mg G0 H0 Z (Γ.set i .no) (σ.set i none) G H := by
  obtain ⟨own, o1, o2, o3⟩ := r.own
  refine ⟨by simpa using r.len, r.gh, r.hh, r.gg, r.new, r.zz, fun w s' e1 e2 e3 => ?_, r.tb, r.tz, r.tc, r.hn, own, o1, o2, fun j s q => ?_⟩
  · rcases set_get e2 with ⟨ei, hl, rfl⟩ | ⟨ei, q⟩
    · cases e3
    · rw [List.getElem?_set_ne ei]
      exact r.an w s' e1 q e3
  rcases set_get q with ⟨ei, hl, rfl⟩ | ⟨ei, q⟩
  · exact .inl rfl
  · rw [List.getElem?_set_ne ei]
    exact o3 j s q
def wipeE (Γ : DEnv) : List Nat → DEnv
  | [] => Γ
  | v :: vs => (wipeE Γ vs).set v .no
theorem Rel.wipe (r : Rel K mg G0 H0 Z Γ σ G H) : ∀ vs : List Nat, Rel K mg G0 H0 Z (wipeE Γ vs) (L2.wipe σ vs) G H
  | [] => r
  | v :: vs => (r.wipe vs).drop v
/-- an object of somebody else is written -/
theorem Rel.aside (r : Rel K mg G0 H0 Z Γ σ G H) {p : Addr} {o : HO} (hz : Z.z p) (ht : ¬ Z.t.tz p) (hg : G p = none) (h0 : H0 p = none) : Rel K mg G0 H0 Z Γ σ G (upd H p o) := by
  obtain ⟨own, o1, o2, o3⟩ := r.own
  have up : ∀ a, H a ≠ Option.none → upd H p o a ≠ Option.none := fun a q => by
    by_cases e : a = p
    · subst e; rw [upd_same]; simp
    · rw [upd_ne e]; exact q
  refine ⟨r.len, fun a u q => ?_, fun a u q n => ?_, r.gg, r.new, fun a z => up a (r.zz a z), r.an, Z.t.keep r.tb (Same.refl _) (fun a h => upd_ne (fun e => ht (by rw [← e]; exact h))) (fun _ _ g => g), r.tz, r.tc, fun a h => up a (r.hn a h), own, fun i a q => ?_, o2, fun j s q => ?_⟩
  · rw [upd_ne (ne_of_none q hg)]; exact r.gh _ _ q
  · rw [upd_ne (ne_of_none q h0)]; exact r.hh _ _ q n
  · obtain ⟨h1, h2, h3, h4⟩ := o1 i a q
    exact ⟨h1, h2, up a h3, h4⟩
  · rcases o3 j s q with h | ⟨v, h1, h2⟩ | h
    · exact .inl h
    · refine .inr (.inl ⟨v, h1, h2.mono (Same.refl _) fun a u fa q _ => ?_⟩)
      rw [upd_ne]
      · exact q
      · intro e; subst e; exact (o1 j a fa).2.2.2 hz
    · exact .inr (.inr h)
/-- an object that is new becomes somebody else's -/
theorem Rel.zput (r : Rel K mg G0 H0 Z Γ σ G H) {p : Addr} {o : HO} (hp : H p = none) : Rel K mg G0 H0 ⟨fun a => Z.z a ∨ a = p, Z.a, Z.t⟩ Γ σ G (upd H p o) := by
  obtain ⟨own, o1, o2, o3⟩ := r.own
  have x := Ext.own1 (o := o) r.gh hp
  have r' := r.ext x
  refine ⟨r'.len, r'.gh, r'.hh, r'.gg, r'.new, fun a z => ?_, r.an, r'.tb, fun a h => .inl (r.tz a h), r.tc, r'.hn, own, fun i a q => ?_, o2, fun j s q => (o3 j s q).ext x⟩
  · rcases z with z | z
    · exact r'.zz a z
    · subst z; rw [upd_same]; simp
  · obtain ⟨h1, h2, h3, h4⟩ := o1 i a q
    exact ⟨h1, h2, x.hn _ h3, fun z => by
      rcases z with z | z
      · exact h4 z
      · subst z; exact h3 hp⟩
/-! ### places: a slot, or a field of a field .. of it (the last field first) -/
abbrev Pth := List (Nat × Nat)
def getR : Pth → Sl → Option Sl
  | [], s => some s
  | (c, j) :: r, s => match getR r s with
    | some (.ob c' fs) => if c' = c then fs[j]? else none
    | _ => none
def setR : Pth → Sl → Sl → Option Sl
  | [], s', _ => some s'
  | (c, j) :: r, s', s => match getR r s with
    | some (.ob c' fs) => if c' = c ∧ j < fs.length then setR r (.ob c (fs.set j s')) s else none
    | _ => none
/-- a field's part, and what a change of it makes -/
theorem HdL.upd : ∀ {vs : List V} {F : Addr → Prop} {ss : List Sl} (j : Nat) {s : Sl}, HdL K mg G H vs F ss → ss[j]? = some s → ∃ v F1, vs[j]? = some v ∧ Hd K mg G H v F1 s ∧ (∀ a, F1 a → F a) ∧
    ∀ (G' H' : Hp) (F1' : Addr → Prop) (s' : Sl), Same G G' → (∀ a o, F a → ¬ F1 a → H a = some o → NT o → H' a = some o) → Hd K mg G' H' v F1' s' → (∀ a, F1' a → F1 a ∨ ¬ F a) → HdL K mg G' H' vs (fun a => (F a ∧ ¬ F1 a) ∨ F1' a) (ss.set j s')
  | _, _, _, _, _, .nil, h => by simp at h
  | _, _, _, 0, _, .cons (v := v) (vs := vs) (ss := ss) (F := F) (F1 := F1) (F2 := F2) h r s1 s2 d, e => by
    simp at e; subst e
    refine ⟨v, F1, rfl, h, s1, fun G' H' F1' s' sg k h' nf => ?_⟩
    refine .cons (F1 := F1') (F2 := fun a => F2 a ∧ ¬ F1' a) h' (HdL.wide2 (fun a x => ⟨x, fun y => ?_⟩) (HdL.mono sg (fun a o fa q n => k a o (s2 a fa) (fun y => d a y fa) q n) r)) (fun a x => .inr x) (fun a x => ?_) fun a x y => y.2 x
    · rcases nf a y with z | z
      · exact d a z x
      · exact z (s2 a x)
    · exact .inl ⟨s2 a x.1, fun y => d a y x.1⟩
  | _, _, _, j + 1, s, .cons (v := v0) (vs := vs) (ss := ss) (F := F) (F1 := Fh) (F2 := Ft) h r s1 s2 d, e => by
    obtain ⟨v, F1, e1, e2, e3, k'⟩ := HdL.upd j r (by simpa using e)
    refine ⟨v, F1, by simpa using e1, e2, fun a x => s2 a (e3 a x), fun G' H' F1' s' sg k h' nf => ?_⟩
    have t := k' G' H' F1' s' sg (fun a o fa nfa q n => k a o (s2 a fa) nfa q n) h' fun a x => by
      rcases nf a x with z | z
      · exact .inl z
      · exact .inr fun y => z (s2 a y)
    refine .cons (F1 := fun a => Fh a ∧ ¬ F1' a) (h.mono2 sg (fun a o fa q n => k a o (s1 a fa) (fun y => d a fa (e3 a y)) q n) fun a x => ⟨x, fun y => ?_⟩) t (fun a x => .inl ⟨s1 a x.1, fun y => d a x.1 (e3 a y)⟩) (fun a x => ?_) fun a x y => ?_
    · rcases nf a y with z | z
      · exact d a x (e3 a z)
      · exact z (s1 a x)
    · rcases x with x | x
      · exact .inl ⟨s2 a x.1, x.2⟩
      · exact .inr x
    · rcases y with y | y
      · exact d a x.1 y.1
      · exact x.2 y
/-- a place's part, and what a change of it makes -/
theorem Hd.upd : ∀ (rp : Pth) {v : V} {F : Addr → Prop} {s s1 : Sl}, Hd K mg G H v F s → getR rp s = some s1 → ∃ v1 F1, (rp = [] → v1 = v) ∧ Hd K mg G H v1 F1 s1 ∧ (∀ a, F1 a → F a) ∧
    ∀ (G' H' : Hp) (F1' : Addr → Prop) (s1' s' : Sl), Same G G' → (∀ a o, F a → ¬ F1 a → H a = some o → NT o → H' a = some o) → Hd K mg G' H' v1 F1' s1' → (∀ a, F1' a → F1 a ∨ ¬ F a) → setR rp s1' s = some s' →
      Hd K mg G' H' v (fun a => (F a ∧ ¬ F1 a) ∨ F1' a) s'
  | [], v, F, s, s1, h, e => by
    cases e
    refine ⟨v, F, fun _ => rfl, h, fun _ x => x, fun G' H' F1' s1' s' sg k h' nf es => ?_⟩
    cases es
    exact h'.wide fun a x => .inr x
  | (c, j) :: rp, v, F, s, s1, h, e => by
    unfold getR at e
    cases q : getR rp s with
    | none => rw [q] at e; cases e
    | some par =>
      rw [q] at e
      cases par with
      | ob c' fs =>
        replace e : (if c' = c then fs[j]? else none) = some s1 := e
        split at e
        · rename_i hc
          subst hc
          obtain ⟨vp, Fp, evp, hp, sp, kp⟩ := Hd.upd rp h q
          cases hp with
          | ob f hm ho n sF r =>
            rename_i p C dx vs F'
            obtain ⟨v1, F1, e1, h1, s1F, k1⟩ := r.upd j e
            refine ⟨v1, F1, (fun e => by cases e), h1, fun a x => sp a (sF a (s1F a x)), fun G' H' F1' s1' s' sg k h' nf es => ?_⟩
            unfold setR at es
            rw [q] at es
            have hlt : j < fs.length := (List.getElem?_eq_some_iff.mp e).1
            replace es : (if c' = c' ∧ j < fs.length then setR rp (.ob c' (fs.set j s1')) s else none) = some s' := es
            rw [if_pos ⟨rfl, hlt⟩] at es
            have t := k1 G' H' F1' s1' sg (fun a o fa nfa q => k a o (sp a (sF a fa)) nfa q) h' fun a x => by
              rcases nf a x with z | z
              · exact .inl z
              · exact .inr fun y => z (sp a (sF a y))
            have np1 : ¬ F1 p := fun y => n (s1F p y)
            have np1' : ¬ F1' p := fun y => by
              rcases nf p y with z | z
              · exact np1 z
              · exact z (sp p f)
            have hob : Hd K mg G' H' (.ref p) (fun a => (Fp a ∧ ¬ F1 a) ∨ F1' a) (.ob c' (fs.set j s1')) := by
              refine .ob (.inl ⟨f, np1⟩) hm (k p _ (sp p f) np1 ho nofun) (F' := fun a => (F' a ∧ ¬ F1 a) ∨ F1' a) (fun y => ?_) (fun a y => ?_) t
              · rcases y with y | y
                · exact n y.1
                · exact np1' y
              · rcases y with y | y
                · exact .inl ⟨sF a y.1, y.2⟩
                · exact .inr y
            refine (kp G' H' _ _ s' sg (fun a o fa nfa q => k a o fa (fun y => nfa (sF a (s1F a y))) q) hob (fun a y => ?_) es).wide fun a y => ?_
            · rcases y with y | y
              · exact .inl y.1
              · rcases nf a y with z | z
                · exact .inl (sF a (s1F a z))
                · exact .inr z
            · rcases y with y | y
              · exact .inl ⟨y.1, fun z => y.2 (sF a (s1F a z))⟩
              · rcases y with y | y
                · exact .inl ⟨sp a y.1, y.2⟩
                · exact .inr y
        · cases e
      | _ => cases e
mutual
def toD : Sl → Option D
  | .no => none
  | .sh d => some d
  | .ow xs => some (.lst xs)
  | .dk ks xs => some (.dic ks xs)
  | .bo _ => none
  | .ol _ => none
  | .ob c fs => (toDs fs).map (.obj c)
def toDs : List Sl → Option (List D)
  | [] => some []
  | s :: ss => (toD s).bind fun d => (toDs ss).map (d :: ·)
end
/-- what is one's own becomes known: the known part grows by it -/
structure Frz (K : PySem.W.Frag) (mg : Str → Option Value) (G H : Hp) (F : Addr → Prop) (G' : Hp) : Prop where
  gg : Same G G'
  gh : Same G' H
  new : ∀ a, G' a ≠ none → G a ≠ none ∨ F a
  tup : ∀ a vs, G' a = some (.tup vs) → G a = some (.tup vs)
theorem frz_one {K : PySem.W.Frag} {mg : Str → Option Value} {G H : Hp} {F : Addr → Prop} {p : Addr} {o : HO} (gh : Same G H) (f : F p) (gp : G p = none) (h : H p = some o) (nt : ∀ vs, o ≠ .tup vs) : Frz K mg G H F (upd G p o) := by
  refine ⟨fun a u q => ?_, fun a u q => ?_, fun a q => ?_, fun a vs q => ?_⟩
  · rw [upd_ne (ne_of_none q gp)]; exact q
  · by_cases e : a = p
    · subst e; rw [upd_same] at q; cases q; exact h
    · rw [upd_ne e] at q; exact gh _ _ q
  · by_cases e : a = p
    · subst e; exact .inr f
    · rw [upd_ne e] at q; exact .inl q
  · by_cases e : a = p
    · subst e; rw [upd_same] at q; cases q; exact absurd rfl (nt vs)
    · rw [upd_ne e] at q; exact q
theorem Frz.trans {K : PySem.W.Frag} {mg : Str → Option Value} {G H G1 G2 : Hp} {F F1 F2 : Addr → Prop} (a : Frz K mg G H F1 G1) (b : Frz K mg G1 H F2 G2) (s1 : ∀ a, F1 a → F a) (s2 : ∀ a, F2 a → F a) : Frz K mg G H F G2 :=
  ⟨a.gg.trans b.gg, b.gh, fun x q => by
    rcases b.new x q with z | z
    · rcases a.new x z with z | z
      · exact .inl z
      · exact .inr (s1 x z)
    · exact .inr (s2 x z), fun x vs q => a.tup x vs (b.tup x vs q)⟩
mutual
theorem Hd.frz : ∀ {G H : Hp} {v : V} {F : Addr → Prop} {s : Sl} {d : D}, Hd K mg G H v F s → toD s = some d → Same G H → (∀ a, F a → G a = none) → ∃ G', Frz K mg G H F G' ∧ Rep K mg G' v d
  | G, H, _, _, _, _, .sh h, e, gh, _ => by
    simp only [toD] at e; cases e
    exact ⟨G, ⟨Same.refl _, gh, fun _ h => .inl h, fun _ _ h => h⟩, h⟩
  | G, H, _, _, _, _, .ow f h r, e, gh, gn => by
    simp only [toD] at e; cases e
    have x := frz_one (K := K) (mg := mg) gh f (gn _ f) h (fun vs z => by cases z)
    exact ⟨_, x, .lst upd_same (r.mono x.gg)⟩
  | G, H, _, _, _, _, .dk f h l r, e, gh, gn => by
    simp only [toD] at e; cases e
    have x := frz_one (K := K) (mg := mg) gh f (gn _ f) h (fun vs z => by cases z)
    exact ⟨_, x, .dic upd_same l (r.mono x.gg)⟩
  | G, H, _, F, _, _, .ob (p := p) f hm h n s r, e, gh, gn => by
    simp only [toD, Option.map_eq_some_iff] at e
    obtain ⟨ds, e1, rfl⟩ := e
    obtain ⟨G1, x1, r1⟩ := HdL.frz r e1 gh fun a z => gn a (s a z)
    have gp : G1 p = none := by
      cases q : G1 p with
      | none => rfl
      | some u =>
        rcases x1.new p (by rw [q]; simp) with z | z
        · exact absurd (gn _ f) z
        · exact absurd z n
    have x2 := frz_one (K := K) (mg := mg) (F := F) x1.gh f gp h (fun vs z => by cases z)
    exact ⟨_, x1.trans x2 s fun _ z => z, .obj hm upd_same (r1.mono x2.gg)⟩
  | _, _, _, _, _, _, .ol _ _ _ _ _, e, _, _ => by simp only [toD] at e; cases e
theorem HdL.frz : ∀ {G H : Hp} {vs : List V} {F : Addr → Prop} {ss : List Sl} {ds : List D}, HdL K mg G H vs F ss → toDs ss = some ds → Same G H → (∀ a, F a → G a = none) → ∃ G', Frz K mg G H F G' ∧ RepL K mg G' vs ds
  | G, H, _, _, _, _, .nil, e, gh, _ => by
    simp only [toDs] at e; cases e
    exact ⟨G, ⟨Same.refl _, gh, fun _ h => .inl h, fun _ _ h => h⟩, .nil⟩
  | G, H, _, _, _, _, .cons h r s1 s2 dj, e, gh, gn => by
    simp only [toDs] at e
    cases q1 : toD _ with
    | none => rw [q1] at e; cases e
    | some d =>
      rw [q1] at e
      simp only [Option.bind_some, Option.map_eq_some_iff] at e
      obtain ⟨ds, e2, rfl⟩ := e
      obtain ⟨G1, x1, r1⟩ := Hd.frz h q1 gh fun a z => gn a (s1 a z)
      have r' := HdL.mono (H' := H) x1.gg (fun _ _ _ q _ => q) r
      obtain ⟨G2, x2, r2⟩ := HdL.frz r' e2 x1.gh fun a z => by
        cases q : G1 a with
        | none => rfl
        | some u =>
          rcases x1.new a (by rw [q]; simp) with w | w
          · exact absurd (gn a (s2 a z)) w
          · exact absurd z (dj a w)
      exact ⟨G2, x1.trans x2 s1 s2, .cons (r1.mono x2.gg) r2⟩
end
theorem getR_own : ∀ {rp : Pth} {s : Sl} {c : Nat} {fs : List Sl}, getR rp s = some (.ob c fs) → isOwn s = true
  | [], _, _, _, h => by cases h; rfl
  | (c, j) :: rp, s, _, _, h => by
    unfold getR at h
    cases q : getR rp s with
    | none => rw [q] at h; cases h
    | some par =>
      cases par with
      | ob c' fs => exact getR_own q
      | _ => rw [q] at h; cases h
theorem setR_own {rp : Pth} {s s1 s1' s' : Sl} (hg : getR rp s = some s1) (hs : setR rp s1' s = some s') (h : isOwn s1' = true → isOwn s1 = true) : isOwn s' = true → isOwn s = true := by
  cases rp with
  | nil => cases hg; cases hs; exact h
  | cons p rp =>
    obtain ⟨c, j⟩ := p
    unfold getR at hg
    cases q : getR rp s with
    | none => rw [q] at hg; cases hg
    | some par =>
      cases par with
      | ob c' fs => exact fun _ => getR_own q
      | _ => rw [q] at hg; cases hg
/-- a place of a slot: what it holds, and how it may be changed -/
structure Pack (K : PySem.W.Frag) (mg : Str → Option Value) (G0 H0 : Hp) (Z : Zs) (Γ : DEnv) (σ : St) (i : Nat) (rp : Pth) (s s1 : Sl) (v : V) (F1 : Addr → Prop) (Hb G H : Hp) : Prop where
  hd : Hd K mg G H v F1 s1
  fr : ∀ a, F1 a → G a = none ∧ H0 a = none ∧ H a ≠ none ∧ ¬ Z.z a ∧ Hb a ≠ none
  tb : TC.ti.t G H
  ntz : ∀ a, F1 a → ¬ TC.ti.tz a
  hbt : ∀ a, TC.ti.tz a → Hb a ≠ none
  upC : ∀ (G' H' : Hp) (F1' : Addr → Prop) (s1' s' : Sl), Same G G' → Same G' H' → TC.ti.t G' H' → (∀ a, ¬ F1 a → H a ≠ none → H' a ≠ none) → (∀ a, G' a ≠ none → G a ≠ none ∨ Hb a = none ∨ F1 a) → (∀ a o, ¬ F1 a → H a = some o → NT o → H' a = some o) → Hd K mg G' H' v F1' s1' →
    (∀ a, F1' a → G' a = none ∧ H' a ≠ none ∧ (F1 a ∨ Hb a = none)) → (isOwn s1' = true → isOwn s1 = true) → setR rp s1' s = some s' → Rel K mg G0 H0 Z (Γ.set i s') σ G' H'
theorem Pack.up {i : Nat} {rp : Pth} {s s1 : Sl} {v : V} {F1 : Addr → Prop} {Hb : Hp} (P : Pack K mg G0 H0 Z Γ σ i rp s s1 v F1 Hb G H) (G' H' : Hp) (F1' : Addr → Prop) (s1' s' : Sl) (sg : Same G G') (gh : Same G' H') (nw : ∀ a, G' a ≠ none → G a ≠ none ∨ Hb a = none ∨ F1 a) (keep : ∀ a o, ¬ F1 a → H a = some o → H' a = some o) (h' : Hd K mg G' H' v F1' s1')
    (nf : ∀ a, F1' a → G' a = none ∧ H' a ≠ none ∧ (F1 a ∨ Hb a = none)) (io : isOwn s1' = true → isOwn s1 = true) (es : setR rp s1' s = some s') : Rel K mg G0 H0 Z (Γ.set i s') σ G' H' := by
  have hn' : ∀ a, ¬ F1 a → H a ≠ none → H' a ≠ none := fun a nf h => by
    cases q : H a with
    | none => exact absurd q h
    | some o => rw [keep a o nf q]; simp
  refine P.upC G' H' F1' s1' s' sg gh (TC.ti.keep P.tb sg (fun a h => ?_) (fun a h g => ?_)) hn' nw (fun a o nf q _ => keep a o nf q) h' nf io es
  · cases q : H a with
    | none => exact absurd q (TC.ti.live P.tb a h).1
    | some o => exact keep a o (fun y => P.ntz a y h) q
  · cases q : G' a with
    | none => rfl
    | some u =>
      rcases nw a (by rw [q]; simp) with z | z | z
      · exact absurd g z
      · exact absurd z (P.hbt a h)
      · exact absurd h (P.ntz a z)
theorem Rel.pack (R : Rel K mg G0 H0 Z Γ σ G H) {i : Nat} {rp : Pth} {s s1 : Sl} (hi : Γ[i]? = some s) (hg : getR rp s = some s1) (hn : s1 ≠ .no) (hs : SlP s) :
    ∃ v F1, (rp = [] → σ[i]? = some (some v)) ∧ ∀ G1 H1, Ext G H G1 H1 → Pack K mg G0 H0 Z Γ σ i rp s s1 v F1 H G1 H1 := by
  obtain ⟨own, o1, o2, o3⟩ := R.own
  rcases o3 i s hi with z | ⟨v0, e0, h0⟩ | ⟨_, d0, z, _⟩
  · exact absurd z hs.1
  rotate_left
  · exact absurd z (hs.2 d0)
  obtain ⟨v1, F1, ev, h1, sF, kk⟩ := Hd.upd rp h0 hg
  refine ⟨v1, F1, fun e => by rw [ev e]; exact e0, fun G1 H1 x => ?_⟩
  have R1 := R.ext x
  have old : ∀ a, F1 a → G a = none ∧ H0 a = none ∧ H a ≠ none ∧ ¬ Z.z a := fun a y => o1 i a (sF a y)
  refine ⟨h1.mono x.gg fun a o _ q n => x.hh a o q n, fun a y => ?_, R1.tbc, fun a y h => (old a y).2.2.2 (R.tz a (by rw [R.tc]; exact h)), fun a h => R.zz a (R.tz a (by rw [R.tc]; exact h)), fun G' H' F1' s1' s' sg gh tb' hn' nw keep h' nf io es => ?_⟩
  · obtain ⟨z1, z2, z3, z4⟩ := old a y
    exact ⟨x.none z1 z3, z2, x.hn _ z3, z4, z3⟩
  · have big : Hd K mg G' H' v0 (fun a => (own i a ∧ ¬ F1 a) ∨ F1' a) s' := by
      have hx : Hd K mg G1 H1 v0 (own i) s := h0.mono x.gg fun a o _ q n => x.hh a o q n
      refine kk G' H' F1' s1' s' (x.gg.trans sg) (fun a o fa nfa q n => keep a o nfa (x.hh a o q n) n) h' (fun a y => ?_) es
      rcases (nf a y).2.2 with z | z
      · exact .inl z
      · exact .inr fun w => (o1 i a w).2.2.1 z
    have stay : ∀ j a, own j a → ¬ F1 a → G' a = none ∧ H' a ≠ none := fun j a w nf1 => by
      obtain ⟨z1, z2, z3, z4⟩ := o1 j a w
      have g1 := x.none z1 z3
      have h1' := x.hn _ z3
      refine ⟨?_, ?_⟩
      · cases q : G' a with
        | none => rfl
        | some u =>
          rcases nw a (by rw [q]; simp) with z | z | z
          · exact absurd g1 z
          · exact absurd z z3
          · exact absurd z nf1
      · exact hn' a nf1 h1'
    refine ⟨by simpa using R.len, gh, fun a o q n => ?_, R1.gg.trans sg, fun a q => ?_, fun a z => ?_, fun w s'' e1 e2 e3 => ?_, (by rw [R.tc]; exact tb'), R.tz, R.tc, fun a h => hn' a (fun y => h (old a y).2.1) (R1.hn a h), fun j a => if j = i then (own i a ∧ ¬ F1 a) ∨ F1' a else own j a, fun j a w => ?_, fun j k a w1 w2 => ?_, fun j s'' q => ?_⟩
    · refine keep a o (fun y => ?_) (R1.hh a o q n) n
      rw [(old a y).2.1] at q; cases q
    · rcases nw a q with z | z | z
      · exact R1.new a z
      · exact .inr (R.hf z)
      · exact .inr (old a z).2.1
    · exact hn' a (fun y => (old a y).2.2.2 z) (R1.zz a z)
    · rcases set_get e2 with ⟨ei, hl, rfl⟩ | ⟨ei, q⟩
      · subst ei
        exact R.an w s e1 hi (setR_own hg es io e3)
      · exact R.an w s'' e1 q e3
    · by_cases ej : j = i
      · simp only [ej, if_true] at w
        rcases w with w | w
        · obtain ⟨z1, z2, z3, z4⟩ := o1 i a w.1
          obtain ⟨y1, y2⟩ := stay i a w.1 w.2
          exact ⟨y1, z2, y2, z4⟩
        · obtain ⟨y1, y2, y3⟩ := nf a w
          rcases y3 with y3 | y3
          · exact ⟨y1, (old a y3).2.1, y2, (old a y3).2.2.2⟩
          · exact ⟨y1, R.hf y3, y2, fun z => R.zz a z y3⟩
      · simp only [ej, if_false] at w
        have nf1 : ¬ F1 a := fun y => ej (o2 j i a w (sF a y))
        obtain ⟨z1, z2, z3, z4⟩ := o1 j a w
        obtain ⟨y1, y2⟩ := stay j a w nf1
        exact ⟨y1, z2, y2, z4⟩
    · have cross : ∀ j', j' ≠ i → own j' a → ¬ ((own i a ∧ ¬ F1 a) ∨ F1' a) := fun j' ne w y => by
        rcases y with y | y
        · exact ne (o2 j' i a w y.1)
        · rcases (nf a y).2.2 with z | z
          · exact ne (o2 j' i a w (sF a z))
          · exact (o1 j' a w).2.2.1 z
      by_cases e1 : j = i
      · by_cases e2 : k = i
        · rw [e1, e2]
        · simp only [e1, e2, if_true, if_false] at w1 w2
          exact absurd w1 (cross k e2 w2)
      · by_cases e2 : k = i
        · simp only [e1, e2, if_true, if_false] at w1 w2
          exact absurd w2 (cross j e1 w1)
        · simp only [e1, e2, if_false] at w1 w2
          exact o2 j k a w1 w2
    · rcases set_get q with ⟨ej, hl, rfl⟩ | ⟨ej, q⟩
      · subst ej
        refine .inr (.inl ⟨v0, e0, ?_⟩)
        simp only [if_true]
        exact big
      · rcases o3 j s'' q with z | ⟨w, z1, z2⟩ | ⟨w, d, z0, z1, z2⟩
        · exact .inl z
        · refine .inr (.inl ⟨w, z1, ?_⟩)
          simp only [Ne.symm ej, if_false]
          refine z2.mono (x.gg.trans sg) fun a o fa q n => keep a o (fun y => ?_) (x.hh a o q n) n
          exact ej (o2 i j a (sF a y) fa)
        · exact .inr (.inr ⟨w, d, z0, z1, z2.mono (x.gg.trans sg) (same_n (Same.refl _))⟩)
theorem Rel.sh (R : Rel K mg G0 H0 Z Γ σ G H) {i : Nat} {d : D} (hi : Γ[i]? = some (.sh d)) : ∃ v, σ[i]? = some (some v) ∧ Rep K mg G v d := by
  obtain ⟨own, o1, o2, o3⟩ := R.own
  rcases o3 i _ hi with z | ⟨v, h1, h2⟩ | ⟨_, _, z, _⟩
  · cases z
  · cases h2 with
    | sh h => exact ⟨v, h1, h⟩
  · cases z
theorem Rel.bo (R : Rel K mg G0 H0 Z Γ σ G H) {i : Nat} {d : D} (hi : Γ[i]? = some (.bo d)) : ∃ v, σ[i]? = some (some v) ∧ RepB K mg G H v d := by
  obtain ⟨own, o1, o2, o3⟩ := R.own
  rcases o3 i _ hi with z | ⟨v, h1, h2⟩ | ⟨v, d', z, h1, h2⟩
  · cases z
  · cases h2
  · cases z; exact ⟨v, h1, h2.mono (Same.refl _) R.hh⟩
theorem Rel.ow (R : Rel K mg G0 H0 Z Γ σ G H) {i : Nat} {xs : List D} (hi : Γ[i]? = some (.ow xs)) : ∃ p vs, σ[i]? = some (some (.ref p)) ∧ G p = none ∧ H0 p = none ∧ H p = some (.lst vs) ∧ RepL K mg G vs xs := by
  obtain ⟨own, o1, o2, o3⟩ := R.own
  rcases o3 i _ hi with z | ⟨v, h1, h2⟩ | ⟨_, _, z, _⟩
  · cases z
  · cases h2 with
    | ow f h r => exact ⟨_, _, h1, (o1 i _ f).1, (o1 i _ f).2.1, h, r⟩
  · cases z
/-- a field of a place -/
theorem Pack.fld {i : Nat} {rp : Pth} {s s1 : Sl} {c j : Nat} {fs : List Sl} {v : V} {F : Addr → Prop} {Hb : Hp} (P : Pack K mg G0 H0 Z Γ σ i rp s (.ob c fs) v F Hb G H) (hg : getR rp s = some (.ob c fs)) (hj : fs[j]? = some s1) :
    ∃ p C dx vs v1 F1, v = .ref p ∧ mg (cN c) = some (.ref C) ∧ H p = some (.ins C dx ((cF c).zip vs)) ∧ vs[j]? = some v1 ∧ Pack K mg G0 H0 Z Γ σ i ((c, j) :: rp) s s1 v1 F1 Hb G H := by
  have hd := P.hd
  cases hd with
  | ob f hm ho n sF r =>
    rename_i p C dx vs F'
    obtain ⟨v1, F1, e1, h1, s1F, k1⟩ := r.upd j hj
    refine ⟨p, C, dx, vs, v1, F1, rfl, hm, ho, e1, h1, fun a y => P.fr a (sF a (s1F a y)), P.tb, fun a y => P.ntz a (sF a (s1F a y)), P.hbt, fun G' H' F1' s1' s' sg gh tb' hn' nw keep h' nf io es => ?_⟩
    have hlt : j < fs.length := (List.getElem?_eq_some_iff.mp hj).1
    unfold setR at es
    rw [hg] at es
    replace es : (if c = c ∧ j < fs.length then setR rp (.ob c (fs.set j s1')) s else none) = some s' := es
    rw [if_pos ⟨rfl, hlt⟩] at es
    have nf' : ∀ a, F1' a → F1 a ∨ ¬ F a := fun a x => by
      rcases (nf a x).2.2 with z | z
      · exact .inl z
      · exact .inr fun y => (P.fr a y).2.2.2.2 z
    have t := k1 G' H' F1' s1' sg (fun a o fa nfa q n => keep a o nfa q n) h' fun a x => by
      rcases nf' a x with z | z
      · exact .inl z
      · exact .inr fun y => z (sF a y)
    have np1 : ¬ F1 p := fun y => n (s1F p y)
    have np1' : ¬ F1' p := fun y => by
      rcases nf' p y with z | z
      · exact np1 z
      · exact z f
    have hob : Hd K mg G' H' (.ref p) (fun a => (F a ∧ ¬ F1 a) ∨ F1' a) (.ob c (fs.set j s1')) := by
      refine .ob (.inl ⟨f, np1⟩) hm (keep p _ np1 ho nofun) (F' := fun a => (F' a ∧ ¬ F1 a) ∨ F1' a) (fun y => ?_) (fun a y => ?_) t
      · rcases y with y | y
        · exact n y.1
        · exact np1' y
      · rcases y with y | y
        · exact .inl ⟨sF a y.1, y.2⟩
        · exact .inr y
    refine P.upC G' H' _ _ s' sg gh tb' (fun a nfa h => hn' a (fun y => nfa (sF a (s1F a y))) h) (fun a q => ?_) (fun a o nfa q n => keep a o (fun y => nfa (sF a (s1F a y))) q n) hob (fun a y => ?_) (fun _ => rfl) es
    · rcases nw a q with z | z | z
      · exact .inl z
      · exact .inr (.inl z)
      · exact .inr (.inr (sF a (s1F a z)))
    · rcases y with y | y
      · obtain ⟨z1, z2, z3, z4, z5⟩ := P.fr a y.1
        refine ⟨?_, ?_, .inl y.1⟩
        · cases q : G' a with
          | none => rfl
          | some u =>
            rcases nw a (by rw [q]; simp) with w | w | w
            · exact absurd z1 w
            · exact absurd w z5
            · exact absurd w y.2
        · exact hn' a y.2 z3
      · obtain ⟨z1, z2, z3⟩ := nf a y
        refine ⟨z1, z2, ?_⟩
        rcases z3 with z3 | z3
        · exact .inl (sF a (s1F a z3))
        · exact .inr z3
/-- a place of one's own becomes known to all -/
theorem Rel.frzP (R : Rel K mg G0 H0 Z Γ σ G H) {i : Nat} {rp : Pth} {s s1 s' : Sl} {d : D} (hi : Γ[i]? = some s) (hg : getR rp s = some s1) (hn : s1 ≠ .no) (hs : SlP s) (hd : toD s1 = some d) (es : setR rp (.sh d) s = some s') :
    ∃ G', Rel K mg G0 H0 Z (Γ.set i s') σ G' H ∧ Same G G' := by
  obtain ⟨v, F1, _, pk⟩ := R.pack hi hg hn hs
  have p := pk G H (Ext.refl R.gh)
  obtain ⟨G', x, r⟩ := p.hd.frz hd R.gh fun a z => (p.fr a z).1
  refine ⟨G', p.up G' H (fun _ => False) (.sh d) s' x.gg x.gh (fun a q => ?_) (fun _ _ _ q => q) (.sh r) (fun _ z => z.elim) (fun z => nomatch z) es, x.gg⟩
  rcases x.new a q with z | z
  · exact .inl z
  · exact .inr (.inr z)
end

/-! ### judgements over data -/
abbrev Ex := DEnv → Option D
abbrev Te := DEnv → Option Bool
abbrev Ag := DEnv → Option (List D)
inductive Res where
  | nx (Γ : DEnv) | rt (d : D) | rm (d : D) (s : Sl) | ro (s : Sl) | bk (Γ : DEnv) | ct (Γ : DEnv)
abbrev Sm := DEnv → Option Res

structure E (X : Cx) (e : Expr) (f : Ex) : Prop where
  ex : ∃ t, PE X e t ∧ ∀ G0 H0 Z Γ σ G H Q d, Rel X.K X.mg G0 H0 Z Γ σ G H → f Γ = some d → (∀ G' H' v, Ext G H G' H' → Rep X.K X.mg G' v d → Q v H') → t σ H Q
/-- a new list -/
structure EL (X : Cx) (e : Expr) (f : Ag) : Prop where
  ex : ∃ t, PE X e t ∧ ∀ G0 H0 Z Γ σ G H Q ds, Rel X.K X.mg G0 H0 Z Γ σ G H → f Γ = some ds → (∀ G' H' p vs, Ext G H G' H' → H p = none → G' p = none → H' p = some (.lst vs) → RepL X.K X.mg G' vs ds → Q (.ref p) H') → t σ H Q
/-- a list, maybe one's own, that is only looked at -/
structure EB (X : Cx) (e : Expr) (f : Ag) : Prop where
  ex : ∃ t, PE X e t ∧ ∀ G0 H0 Z Γ σ G H Q ds, Rel X.K X.mg G0 H0 Z Γ σ G H → f Γ = some ds → (∀ G' H' p vs, Ext G H G' H' → SqL X.K H' p vs → RepL X.K X.mg G' vs ds → Q (.ref p) H') → t σ H Q
structure T (X : Cx) (e : Expr) (f : Te) : Prop where
  ex : ∃ t, PT X e t ∧ ∀ G0 H0 Z Γ σ G H Q b, Rel X.K X.mg G0 H0 Z Γ σ G H → f Γ = some b → (∀ G' H', Ext G H G' H' → Q b H') → t σ H Q
structure W (X : Cx) (e : Expr) (f : Te) : Prop where
  ex : ∃ t, PW X e t ∧ ∀ G0 H0 Z Γ σ G H Q b, Rel X.K X.mg G0 H0 Z Γ σ G H → f Γ = some b → (∀ G' H', Ext G H G' H' → Q b H') → t σ H Q
structure A (X : Cx) (es : List Expr) (f : Ag) : Prop where
  ex : ∃ t, PA X es t ∧ ∀ G0 H0 Z Γ σ G H Q ds, Rel X.K X.mg G0 H0 Z Γ σ G H → f Γ = some ds → (∀ G' H' vs, Ext G H G' H' → RepL X.K X.mg G' vs ds → Q vs H') → t σ H Q
/-- what is wanted behind a statement -/
def Fin (X : Cx) (G0 H0 : Hp) (Z : Zs) (D : Ends) : Res → Prop
  | .nx Γ => ∀ σ G H, Rel X.K X.mg G0 H0 Z Γ σ G H → D.nx σ H
  | .bk Γ => ∀ σ G H, Rel X.K X.mg G0 H0 Z Γ σ G H → D.bk σ H
  | .ct Γ => ∀ σ G H, Rel X.K X.mg G0 H0 Z Γ σ G H → D.ct σ H
  | .rt d => ∀ G H v, Ext G0 H0 G H → Rep X.K X.mg G v d → D.rt v H
  | .ro s => ∀ G H v F, Ext G0 H0 G H → Hd X.K X.mg G H v F s → (∀ a, F a → G a = none ∧ H0 a = none ∧ H a ≠ none) → D.rt v H
  | .rm d s => ∀ Γ σ G H v, Rel X.K X.mg G0 H0 Z Γ σ G H → Γ[0]? = some s → Rep X.K X.mg G v d → D.rt v H
structure S (X : Cx) (st : Stmt) (f : Sm) : Prop where
  ex : ∃ t, PS X st t ∧ ∀ G0 H0 Z Γ σ G H D r, Rel X.K X.mg G0 H0 Z Γ σ G H → f Γ = some r → Fin X G0 H0 Z D r → t D σ H
structure Ss (X : Cx) (st : List Stmt) (f : Sm) : Prop where
  ex : ∃ t, PSs X st t ∧ ∀ G0 H0 Z Γ σ G H D r, Rel X.K X.mg G0 H0 Z Γ σ G H → f Γ = some r → Fin X G0 H0 Z D r → t D σ H
end DL

namespace DL
open PySem L2
variable [TC : TabCtx]

theorem obind {α β : Type} {o : Option α} {f : α → Option β} {b : β} (h : o.bind f = some b) : ∃ a, o = some a ∧ f a = some b := by
  cases o with
  | none => cases h
  | some a => exact ⟨a, rfl, h⟩

/-! ### what is looked at: a datum, or a list of one's own -/
structure B (X : Cx) (e : Expr) (f : Ex) : Prop where
  ex : ∃ t, PE X e t ∧ ∀ G0 H0 Z Γ σ G H Q d, Rel X.K X.mg G0 H0 Z Γ σ G H → f Γ = some d → (∀ G' H' v, Ext G H G' H' → RepB X.K X.mg G' H' v d → Q v H') → t σ H Q

section
variable {K : PySem.W.Frag} {mg : Str → Option Value} {G H G' H' : Hp} {v : V} {d : D}
theorem RepB.ext (r : RepB K mg G H v d) (e : Ext G H G' H') : RepB K mg G' H' v d := by
  exact r.mono e.gg e.hh
/-- a list that is looked at -/
theorem RepB.lst {xs : List D} (gh : Same G H) (r : RepB K mg G H v (.lst xs)) : ∃ p vs, v = .ref p ∧ H p = some (.lst vs) ∧ RepL K mg G vs xs := by
  cases r with
  | sh r => cases r with
    | lst h r => exact ⟨_, _, rfl, gh _ _ h, r⟩
  | li h r => exact ⟨_, _, rfl, h, r⟩
theorem RepB.tup {xs : List D} (gh : Same G H) (r : RepB K mg G H v (.tup xs)) : ∃ p vs, v = .ref p ∧ H p = some (.tup vs) ∧ RepL K mg G vs xs := by
  cases r with
  | sh r => cases r with
    | tup h r => exact ⟨_, _, rfl, gh _ _ h, r⟩
theorem RepB.scr {ns : List Int} (gh : Same G H) (r : RepB K mg G H v (.scr ns)) : ∃ p, v = .ref p ∧ SqL K H p (ns.map V.int) := by
  cases r with
  | sh r => cases r with
    | scr h => exact ⟨_, rfl, gh.seq h⟩
mutual
theorem Hd.bo : ∀ {v : V} {F : Addr → Prop} {s : Sl} {d : D}, Hd K mg G H v F s → toD s = some d → RepB K mg G H v d
  | _, _, _, _, .sh h, e => by simp only [toD] at e; cases e; exact .sh h
  | _, _, _, _, .ow f h r, e => by simp only [toD] at e; cases e; exact .li h r
  | _, _, _, _, .dk _ h l r, e => by simp only [toD] at e; cases e; exact .dic h l r
  | _, _, _, _, .ob f hm h n s r, e => by
    simp only [toD, Option.map_eq_some_iff] at e
    obtain ⟨ds, e1, rfl⟩ := e
    exact .obj hm h (HdL.bo r e1)
  | _, _, _, _, .ol _ _ _ _ _, e => by simp only [toD] at e; cases e
theorem HdL.bo : ∀ {vs : List V} {F : Addr → Prop} {ss : List Sl} {ds : List D}, HdL K mg G H vs F ss → toDs ss = some ds → RepBL K mg G H vs ds
  | _, _, _, _, .nil, e => by simp only [toDs] at e; cases e; exact .nil
  | _, _, _, _, .cons h r s1 s2 dj, e => by
    simp only [toDs] at e
    cases q1 : toD _ with
    | none => rw [q1] at e; cases e
    | some d =>
      rw [q1] at e
      simp only [Option.bind_some, Option.map_eq_some_iff] at e
      obtain ⟨ds, e2, rfl⟩ := e
      exact .cons (Hd.bo h q1) (HdL.bo r e2)
end
theorem Rep.flat (r : Rep K mg G v d) : (∀ i, d = .int i → v = .int i) ∧ (∀ b, d = .bl b → v = .bl b) ∧ (d = .non → v = .non) ∧ (∀ x, d = .str x → v = .str x) := by
  cases r <;> simp
end

/-! ### expressions -/
def gV (i : Nat) : Ex := fun Γ => match Γ[i]? with | some (.sh d) => some d | _ => none
def gB (i : Nat) : Ex := fun Γ => match Γ[i]? with | some (.sh d) => some d | some (.ow xs) => some (.lst xs) | some (.bo d) => some d | some (.ob c fs) => toD (.ob c fs) | some (.dk ks xs) => some (.dic ks xs) | _ => none
def gC (d : D) : Ex := fun _ => some d
def gI (i : Int) : Ex := fun _ => some (.int i)

section
variable {X : Cx} {e a b : Expr} {es : List Expr} {f g : Ex} {fs : Ag} {pos : Pos}

theorem e_var (i : Nat) {x : Str} (hN : X.N[i]? = some x := by rfl) (hv : Vis X.env.scope x := by first | exact Or.inl rfl | exact Or.inr (Or.inl rfl) | exact Or.inr (Or.inr rfl)) (hd : (x == ("__debug__" : Str)) = false := by decide)
    (hcd : (x == ("__classdict__" : Str)) = false := by decide) : E X (.Name x pos) (gV i) := by
  refine ⟨⟨_, pe_var hN hv hd hcd, fun G0 H0 Z Γ σ G H Q d R hf k => ?_⟩⟩
  unfold gV at hf
  cases q : Γ[i]? with
  | none => rw [q] at hf; cases hf
  | some s =>
    rw [q] at hf
    cases s with
    | sh d' =>
      cases hf
      obtain ⟨v, h1, h2⟩ := R.sh q
      exact ⟨v, h1, k G H v (Ext.refl R.gh) h2⟩
    | _ => cases hf
theorem b_var (i : Nat) {x : Str} (hN : X.N[i]? = some x := by rfl) (hv : Vis X.env.scope x := by first | exact Or.inl rfl | exact Or.inr (Or.inl rfl) | exact Or.inr (Or.inr rfl)) (hd : (x == ("__debug__" : Str)) = false := by decide)
    (hcd : (x == ("__classdict__" : Str)) = false := by decide) : B X (.Name x pos) (gB i) := by
  refine ⟨⟨_, pe_var hN hv hd hcd, fun G0 H0 Z Γ σ G H Q d R hf k => ?_⟩⟩
  unfold gB at hf
  cases q : Γ[i]? with
  | none => rw [q] at hf; cases hf
  | some s =>
    rw [q] at hf
    cases s with
    | ow xs =>
      cases hf
      obtain ⟨p, vs, h1, h2, h3, h4, h5⟩ := R.ow q
      exact ⟨_, h1, k G H _ (Ext.refl R.gh) (.li h4 h5)⟩
    | sh d' =>
      cases hf
      obtain ⟨v, h1, h2⟩ := R.sh q
      exact ⟨v, h1, k G H v (Ext.refl R.gh) (.sh h2)⟩
    | bo d' =>
      cases hf
      obtain ⟨v, h1, h2⟩ := R.bo q
      exact ⟨v, h1, k G H v (Ext.refl R.gh) h2⟩
    | ob c fs =>
      obtain ⟨own, o1, o2, o3⟩ := R.own
      rcases o3 i _ q with z | ⟨v, h1, h2⟩ | ⟨_, _, z, _⟩
      · cases z
      · exact ⟨v, h1, k G H v (Ext.refl R.gh) (h2.bo hf)⟩
      · cases z
    | dk ks xs =>
      obtain ⟨own, o1, o2, o3⟩ := R.own
      rcases o3 i _ q with z | ⟨v, h1, h2⟩ | ⟨_, _, z, _⟩
      · cases z
      · exact ⟨v, h1, k G H v (Ext.refl R.gh) (h2.bo (by cases hf; simp only [toD]))⟩
      · cases z
    | _ => cases hf
theorem E.bo (h : E X e f) : B X e f := by
  obtain ⟨t, h1, h2⟩ := h.ex
  exact ⟨⟨t, h1, fun G0 H0 Z Γ σ G H Q d R hf k => h2 G0 H0 Z Γ σ G H Q d R hf fun G' H' v e r => k G' H' v e (.sh r)⟩⟩
theorem e_int {i : Int} {j} : E X (.Constant (.int i) j pos) (gI i) := ⟨⟨_, pe_int, fun G0 H0 Z Γ σ G H Q d R hf k => by cases hf; exact k G H _ (Ext.refl R.gh) (.int i)⟩⟩
theorem e_bl {i : Bool} {j} : E X (.Constant (.bool i) j pos) (gC (.bl i)) := ⟨⟨_, pe_bl, fun G0 H0 Z Γ σ G H Q d R hf k => by cases hf; exact k G H _ (Ext.refl R.gh) (.bl i)⟩⟩
theorem e_non {j} : E X (.Constant .none j pos) (gC .non) := ⟨⟨_, pe_non, fun G0 H0 Z Γ σ G H Q d R hf k => by cases hf; exact k G H _ (Ext.refl R.gh) .non⟩⟩
theorem e_str {x : Str} {j} : E X (.Constant (.str x) j pos) (gC (.str x)) := ⟨⟨_, pe_str, fun G0 H0 Z Γ σ G H Q d R hf k => by cases hf; exact k G H _ (Ext.refl R.gh) (.str x)⟩⟩

/-! argument lists, displays -/
def aN : Ag := fun _ => some []
def aC (f : Ex) (r : Ag) : Ag := fun Γ => (f Γ).bind fun d => (r Γ).bind fun ds => some (d :: ds)
theorem a_nil : A X [] aN := ⟨⟨_, pa_nil, fun G0 H0 Z Γ σ G H Q ds R hf k => by cases hf; exact k G H _ (Ext.refl R.gh) .nil⟩⟩
theorem a_cons (he : E X e f) (hr : A X es fs) (hs : starEach (e :: es) X.env = (false, eval e X.env) :: starEach es X.env := by rfl) : A X (e :: es) (aC f fs) := by
  obtain ⟨t, h1, h2⟩ := he.ex
  obtain ⟨u, q1, q2⟩ := hr.ex
  refine ⟨⟨_, pa_cons h1 q1 hs, fun G0 H0 Z Γ σ G H Q ds R hf k => ?_⟩⟩
  obtain ⟨d, e1, hf⟩ := obind hf
  obtain ⟨es, e2, hf⟩ := obind hf
  cases hf
  refine h2 G0 H0 Z Γ σ G H _ d R e1 fun G1 H1 v x1 r1 => ?_
  refine q2 G0 H0 Z Γ σ G1 H1 _ es (R.ext x1) e2 fun G2 H2 vs x2 r2 => ?_
  exact k G2 H2 _ (x1.trans x2) (.cons (r1.mono x2.gg) r2)
/-- the number of items is known -/
def gTu (n : Nat) (fs : Ag) : Ex := fun Γ => (fs Γ).bind fun ds => some (.tup ds)
def gLst (fs : Ag) : Ag := fs
/-- displays are short: how many items is seen from the text -/
theorem A.len {X : Cx} : True := True.intro
end

/-- .. as a list of as many items as written -/
structure AN (X : Cx) (es : List Expr) (n : Nat) (f : Ag) : Prop where
  a : A X es f
  n : ∀ Γ ds, f Γ = some ds → ds.length = n
section
variable {X : Cx} {e a b : Expr} {es : List Expr} {f g : Ex} {fs : Ag} {pos : Pos} {n : Nat}
theorem n_nil : AN X [] 0 aN := ⟨a_nil, fun _ _ h => by cases h; rfl⟩
theorem n_cons (he : E X e f) (hr : AN X es n fs) (hs : starEach (e :: es) X.env = (false, eval e X.env) :: starEach es X.env := by rfl) : AN X (e :: es) (n + 1) (aC f fs) :=
  ⟨a_cons he hr.a hs, fun Γ ds h => by
    obtain ⟨d, e1, h⟩ := obind h
    obtain ⟨es, e2, h⟩ := obind h
    cases h
    simp [hr.n Γ es e2]⟩
theorem e_tup {x1} (h : AN X es n fs) (hn : n ≤ 1000 := by decide) : E X (.Tuple es x1 pos) (gTu n fs) := by
  obtain ⟨t, h1, h2⟩ := h.a.ex
  refine ⟨⟨_, pe_tup h1, fun G0 H0 Z Γ σ G H Q d R hf k => ?_⟩⟩
  obtain ⟨ds, e1, hf⟩ := obind hf
  cases hf
  refine h2 G0 H0 Z Γ σ G H _ ds R e1 fun G1 H1 vs x1 r1 => ⟨?_, fun p hp => ?_⟩
  · rw [r1.length, h.n Γ ds e1]; exact Nat.le_of_lt (small1000 hn)
  · have x2 := Ext.new1 (o := .tup vs) x1.gh hp
    exact k _ _ _ (x1.trans x2) (.tup upd_same (r1.mono x2.gg))
theorem el_lst (h : AN X es n fs) (hn : n ≤ 1000 := by decide) : EL X (.List es pos) fs := by
  obtain ⟨t, h1, h2⟩ := h.a.ex
  refine ⟨⟨_, pe_lst h1, fun G0 H0 Z Γ σ G H Q ds R hf k => ?_⟩⟩
  refine h2 G0 H0 Z Γ σ G H _ ds R hf fun G1 H1 vs x1 r1 => ⟨?_, fun p hp => ?_⟩
  · rw [r1.length, h.n Γ ds hf]; exact Nat.le_of_lt (small1000 hn)
  · exact k _ _ p vs (x1.trans (Ext.own1 x1.gh hp)) (x1.hf hp) (x1.gh.free hp) upd_same r1
/-- a new list is handed on: known from now on -/
def gL (fs : Ag) : Ex := fun Γ => (fs Γ).bind fun ds => some (.lst ds)
theorem EL.fz (h : EL X e fs) : E X e (gL fs) := by
  obtain ⟨t, h1, h2⟩ := h.ex
  refine ⟨⟨_, h1, fun G0 H0 Z Γ σ G H Q d R hf k => ?_⟩⟩
  obtain ⟨ds, e1, hf⟩ := obind hf
  cases hf
  refine h2 G0 H0 Z Γ σ G H _ ds R e1 fun G1 H1 p vs x1 hp gp h r => ?_
  have sg : Same G1 (upd G1 p (.lst vs)) := same_upd gp
  exact k (upd G1 p (.lst vs)) H1 _ (x1.frz1 hp gp h) (.lst upd_same (r.mono sg))

/-! operators -/
def OpD (X : Cx) (fn : Value → Value → Sem Value) (o : D → D → Option D) : Prop :=
  ∃ r, OpR X fn r ∧ ∀ x y d v w G H Q, Same G H → o x y = some d → Rep X.K X.mg G v x → Rep X.K X.mg G w y → (∀ G' H' u, Ext G H G' H' → Rep X.K X.mg G' u d → Q u H') → r v w H Q
def gOp (o : D → D → Option D) (f g : Ex) : Ex := fun Γ => (f Γ).bind fun x => (g Γ).bind fun y => o x y
theorem op_run {r : R2} {o : D → D → Option D} (hr : ∀ x y d v w G H Q, Same G H → o x y = some d → Rep X.K X.mg G v x → Rep X.K X.mg G w y → (∀ G' H' u, Ext G H G' H' → Rep X.K X.mg G' u d → Q u H') → r v w H Q)
    {t u : TE} (h2 : ∀ G0 H0 Z Γ σ G H Q d, Rel X.K X.mg G0 H0 Z Γ σ G H → f Γ = some d → (∀ G' H' v, Ext G H G' H' → Rep X.K X.mg G' v d → Q v H') → t σ H Q)
    (q2 : ∀ G0 H0 Z Γ σ G H Q d, Rel X.K X.mg G0 H0 Z Γ σ G H → g Γ = some d → (∀ G' H' v, Ext G H G' H' → Rep X.K X.mg G' v d → Q v H') → u σ H Q) :
    ∀ G0 H0 Z Γ σ G H Q d, Rel X.K X.mg G0 H0 Z Γ σ G H → gOp o f g Γ = some d → (∀ G' H' v, Ext G H G' H' → Rep X.K X.mg G' v d → Q v H') → tOp r t u σ H Q := fun G0 H0 Z Γ σ G H Q d R hf k => by
  obtain ⟨x, e1, hf⟩ := obind hf
  obtain ⟨y, e2, hf⟩ := obind hf
  refine h2 G0 H0 Z Γ σ G H _ x R e1 fun G1 H1 v x1 r1 => ?_
  refine q2 G0 H0 Z Γ σ G1 H1 _ y (R.ext x1) e2 fun G2 H2 w x2 r2 => ?_
  exact hr x y d v w G2 H2 Q x2.gh hf (r1.mono x2.gg) r2 fun G3 H3 u x3 r3 => k G3 H3 u ((x1.trans x2).trans x3) r3
theorem e_op {op : Operator} {o : D → D → Option D} (ho : OpD X (binaryOp op) o) (ha : E X a f) (hb : E X b g) : E X (.BinOp a op b pos) (gOp o f g) := by
  obtain ⟨r, hr, hr2⟩ := ho
  obtain ⟨t, h1, h2⟩ := ha.ex
  obtain ⟨u, q1, q2⟩ := hb.ex
  exact ⟨⟨_, pe_op hr h1 q1, op_run hr2 h2 q2⟩⟩
theorem e_cmp {op : CmpOp} {o : D → D → Option D} (ho : OpD X (compareOp op) o) (ha : E X a f) (hb : E X b g) (hm : behindInMarks op b = false := by first | exact nomark _ | rfl) : E X (.Compare a [op] [b] pos) (gOp o f g) := by
  obtain ⟨r, hr, hr2⟩ := ho
  obtain ⟨t, h1, h2⟩ := ha.ex
  obtain ⟨u, q1, q2⟩ := hb.ex
  exact ⟨⟨_, pe_cmpR hr h1 q1 hm, op_run hr2 h2 q2⟩⟩
/-- an expression that gives True or False, as a test -/
def gT (f : Ex) : Te := fun Γ => (f Γ).bind fun d => match d with | .bl b => some b | _ => none
theorem gT_some {Γ : DEnv} {b : Bool} (h : gT f Γ = some b) : f Γ = some (.bl b) := by
  obtain ⟨d, e, h⟩ := obind h
  cases d with
  | bl c => cases h; exact e
  | _ => cases h
theorem t_cmp {op : CmpOp} {o : D → D → Option D} (ho : OpD X (compareOp op) o) (ha : E X a f) (hb : E X b g) (hm : behindInMarks op b = false := by first | exact nomark _ | rfl) : T X (.Compare a [op] [b] pos) (gT (gOp o f g)) := by
  obtain ⟨r, hr, hr2⟩ := ho
  obtain ⟨t, h1, h2⟩ := ha.ex
  obtain ⟨u, q1, q2⟩ := hb.ex
  refine ⟨⟨_, pt_cmpR hr h1 q1 hm, fun G0 H0 Z Γ σ G H Q c R hf k => ?_⟩⟩
  refine op_run hr2 h2 q2 G0 H0 Z Γ σ G H _ _ R (gT_some hf) fun G' H' v x r => ?_
  cases r
  exact ⟨_, rfl, k G' H' x⟩
theorem t_val (h : E X e f) (he : ∀ whole, isTrue e X.env whole = (do let v ← whole; standAt e.pos; holding [v] (truthy v)) := by intro _; rfl) : T X e (gT f) := by
  obtain ⟨t, h1, h2⟩ := h.ex
  refine ⟨⟨_, pt_val h1 he, fun G0 H0 Z Γ σ G H Q c R hf k => ?_⟩⟩
  refine h2 G0 H0 Z Γ σ G H _ _ R (gT_some hf) fun G' H' v x r => ?_
  cases r
  exact ⟨_, rfl, k G' H' x⟩
/-- .. of any kind, by its truth -/
def dTru : D → Option Bool
  | .non => some false
  | .bl b => some b
  | .int i => some (i != 0)
  | .lst xs => some (!xs.isEmpty)
  | .tup xs => some (!xs.isEmpty)
  | .str x => if x.length < 1000000 then some ((x.length : Int) != 0) else none
  | _ => none
def gTru (f : Ex) : Te := fun Γ => (f Γ).bind dTru
theorem line_big : (1000000 : Nat) ≤ sizeLine := by decide
theorem dTru_ok {K : PySem.W.Frag} {mg : Str → Option Value} {G' H' : Hp} {v : V} {d : D} {c : Bool} (gh : Same G' H') (hf : dTru d = some c) (r : RepB K mg G' H' v d) : TruV K v H' c := by
  have emp : ∀ {vs : List V} {xs : List D}, RepL K mg G' vs xs → (!vs.isEmpty) = !xs.isEmpty := fun r => by cases r <;> rfl
  cases d with
  | non => cases hf; cases r with | sh r => cases r; rfl
  | bl b => cases hf; cases r with | sh r => cases r; rfl
  | int i => cases hf; cases r with | sh r => cases r; rfl
  | str y =>
    cases r with
    | sh r =>
      cases r
      simp only [dTru] at hf
      split at hf
      · cases hf
        rename_i z
        exact ⟨Nat.le_trans (Nat.le_of_lt z) line_big, rfl⟩
      · cases hf
  | lst xs =>
    cases hf
    obtain ⟨p, vs, rfl, h, r⟩ := r.lst gh
    exact .inl ⟨vs, SqL.of h, (emp r).symm⟩
  | tup xs =>
    cases hf
    obtain ⟨p, vs, rfl, h, r⟩ := r.tup gh
    exact .inr (.inl ⟨vs, SqT.of h, (emp r).symm⟩)
  | scr ns => cases hf
  | obj c ds => cases hf
  | fn a c q vs ds => cases hf
  | dic ks xs => cases hf
theorem t_tru (h : B X e f) (he : ∀ whole, isTrue e X.env whole = (do let v ← whole; standAt e.pos; holding [v] (truthy v)) := by intro _; rfl) : T X e (gTru f) := by
  obtain ⟨t, h1, h2⟩ := h.ex
  refine ⟨⟨_, pt_truth h1 he, fun G0 H0 Z Γ σ G H Q c R hf k => ?_⟩⟩
  obtain ⟨d, e1, hf⟩ := obind hf
  exact h2 G0 H0 Z Γ σ G H _ _ R e1 fun G' H' v x r => ⟨c, dTru_ok x.gh hf r, k G' H' x⟩
def gNot (f : Te) : Te := fun Γ => (f Γ).bind fun b => some (!b)
def gAnd (f g : Te) : Te := fun Γ => (f Γ).bind fun b => if b then g Γ else some false
def gOr (f g : Te) : Te := fun Γ => (f Γ).bind fun b => if b then some true else g Γ
variable {p q : Te} {rest : List Expr}
theorem t_not (h : T X e p) : T X (.UnaryOp .Not e pos) (gNot p) := by
  obtain ⟨t, h1, h2⟩ := h.ex
  refine ⟨⟨_, pt_not h1, fun G0 H0 Z Γ σ G H Q c R hf k => ?_⟩⟩
  obtain ⟨d, e1, hf⟩ := obind hf
  cases hf
  exact h2 G0 H0 Z Γ σ G H _ _ R e1 k
theorem W.t (h : W X e p) : T X e p := by
  obtain ⟨t, h1, h2⟩ := h.ex
  exact ⟨⟨t, h1.pt, h2⟩⟩
theorem w_and1 (h : T X a p) : W X (.BoolOp .And [a] pos) p := by
  obtain ⟨t, h1, h2⟩ := h.ex
  exact ⟨⟨_, pw_and1 h1, h2⟩⟩
theorem w_or1 (h : T X a p) : W X (.BoolOp .Or [a] pos) p := by
  obtain ⟨t, h1, h2⟩ := h.ex
  exact ⟨⟨_, pw_or1 h1, h2⟩⟩
theorem w_and (h : T X a p) (hr : W X (.BoolOp .And (b :: rest) pos) q) : W X (.BoolOp .And (a :: b :: rest) pos) (gAnd p q) := by
  obtain ⟨t, h1, h2⟩ := h.ex
  obtain ⟨u, q1, q2⟩ := hr.ex
  refine ⟨⟨_, pw_and h1 q1, fun G0 H0 Z Γ σ G H Q c R hf k => ?_⟩⟩
  obtain ⟨d, e1, hf⟩ := obind hf
  refine h2 G0 H0 Z Γ σ G H _ _ R e1 fun G' H' x => ?_
  cases d with
  | true =>
    refine iteT ?_
    exact q2 G0 H0 Z Γ σ G' H' _ _ (R.ext x) hf fun G2 H2 x2 => k G2 H2 (x.trans x2)
  | false =>
    refine iteF ?_
    cases hf
    exact k G' H' x
theorem w_or (h : T X a p) (hr : W X (.BoolOp .Or (b :: rest) pos) q) : W X (.BoolOp .Or (a :: b :: rest) pos) (gOr p q) := by
  obtain ⟨t, h1, h2⟩ := h.ex
  obtain ⟨u, q1, q2⟩ := hr.ex
  refine ⟨⟨_, pw_or h1 q1, fun G0 H0 Z Γ σ G H Q c R hf k => ?_⟩⟩
  obtain ⟨d, e1, hf⟩ := obind hf
  refine h2 G0 H0 Z Γ σ G H _ _ R e1 fun G' H' x => ?_
  cases d with
  | true =>
    refine iteT ?_
    cases hf
    exact k G' H' x
  | false =>
    refine iteF ?_
    exact q2 G0 H0 Z Γ σ G' H' _ _ (R.ext x) hf fun G2 H2 x2 => k G2 H2 (x.trans x2)
/-- tests as values -/
def gBl (p : Te) : Ex := fun Γ => (p Γ).bind fun b => some (.bl b)
/-- and, or of truth values as values -/
structure V1 (X : Cx) (e : Expr) (p : Te) : Prop where
  e : E X e (gBl p)
theorem E.v (h : E X e f) : V1 X e (gT f) := by
  obtain ⟨t, h1, h2⟩ := h.ex
  refine ⟨⟨⟨t, h1, fun G0 H0 Z Γ σ G H Q c R hf k => ?_⟩⟩⟩
  obtain ⟨d, e1, hf⟩ := obind hf
  cases hf
  exact h2 G0 H0 Z Γ σ G H _ _ R (gT_some e1) k
theorem v_one {op} (h : V1 X a p) : V1 X (.BoolOp op [a] pos) p := by
  obtain ⟨t, h1, h2⟩ := h.e.ex
  exact ⟨⟨⟨_, pe_one h1, h2⟩⟩⟩
theorem v_and (h : V1 X a p) (hr : V1 X (.BoolOp .And (b :: rest) pos) q) : V1 X (.BoolOp .And (a :: b :: rest) pos) (gAnd p q) := by
  obtain ⟨t, h1, h2⟩ := h.e.ex
  obtain ⟨u, q1, q2⟩ := hr.e.ex
  refine ⟨⟨⟨_, pe_and h1 q1, fun G0 H0 Z Γ σ G H Q c R hf k => ?_⟩⟩⟩
  obtain ⟨d0, e0, hf⟩ := obind hf
  cases hf
  obtain ⟨d, e1, hf⟩ := obind e0
  refine h2 G0 H0 Z Γ σ G H _ (.bl d) R (by show (p Γ).bind _ = _; rw [e1]; rfl) fun G' H' v x r => ?_
  cases r
  refine ⟨d, rfl, ?_⟩
  cases d with
  | true =>
    refine iteT ?_
    exact q2 G0 H0 Z Γ σ G' H' _ (.bl d0) (R.ext x) (by show (q Γ).bind _ = _; rw [show q Γ = some d0 from hf]; rfl) fun G2 H2 v x2 r => k G2 H2 v (x.trans x2) r
  | false =>
    refine iteF ?_
    cases hf
    exact k G' H' _ x (.bl _)
theorem v_or (h : V1 X a p) (hr : V1 X (.BoolOp .Or (b :: rest) pos) q) : V1 X (.BoolOp .Or (a :: b :: rest) pos) (gOr p q) := by
  obtain ⟨t, h1, h2⟩ := h.e.ex
  obtain ⟨u, q1, q2⟩ := hr.e.ex
  refine ⟨⟨⟨_, pe_or h1 q1, fun G0 H0 Z Γ σ G H Q c R hf k => ?_⟩⟩⟩
  obtain ⟨d0, e0, hf⟩ := obind hf
  cases hf
  obtain ⟨d, e1, hf⟩ := obind e0
  refine h2 G0 H0 Z Γ σ G H _ (.bl d) R (by show (p Γ).bind _ = _; rw [e1]; rfl) fun G' H' v x r => ?_
  cases r
  refine ⟨d, rfl, ?_⟩
  cases d with
  | true =>
    refine iteT ?_
    cases hf
    exact k G' H' _ x (.bl _)
  | false =>
    refine iteF ?_
    exact q2 G0 H0 Z Γ σ G' H' _ (.bl d0) (R.ext x) (by show (q Γ).bind _ = _; rw [show q Γ = some d0 from hf]; rfl) fun G2 H2 v x2 r => k G2 H2 v (x.trans x2) r
/-- not x as a value, x a truth value; or x by its truth (a list, a number) -/
theorem v_not (h : V1 X e p) : V1 X (.UnaryOp .Not e pos) (gNot p) := by
  obtain ⟨t, h1, h2⟩ := h.e.ex
  refine ⟨⟨⟨_, pe_not h1, fun G0 H0 Z Γ σ G H Q c R hf k => ?_⟩⟩⟩
  obtain ⟨d0, e0, hf⟩ := obind hf
  cases hf
  obtain ⟨d, e1, hf⟩ := obind e0
  cases hf
  refine h2 G0 H0 Z Γ σ G H _ (.bl d) R (by show (p Γ).bind _ = _; rw [e1]; rfl) fun G' H' v x r => ?_
  cases r
  exact ⟨d, rfl, k G' H' _ x (.bl _)⟩
/-- a if t else b -/
def gIf (t : Te) (f g : Ex) : Ex := fun Γ => (t Γ).bind fun b => if b then f Γ else g Γ
theorem e_if {c : Expr} (hc : T X c p) (ha : E X a f) (hb : E X b g) : E X (.IfExp c a b pos) (gIf p f g) := by
  obtain ⟨t, h1, h2⟩ := hc.ex
  obtain ⟨u, q1, q2⟩ := ha.ex
  obtain ⟨w, z1, z2⟩ := hb.ex
  refine ⟨⟨_, pe_ifExp h1 q1 z1, fun G0 H0 Z Γ σ G H Q d R hf k => ?_⟩⟩
  obtain ⟨b, e1, hf⟩ := obind hf
  refine h2 G0 H0 Z Γ σ G H _ _ R e1 fun G' H' x => ?_
  cases b with
  | true => exact iteT (q2 G0 H0 Z Γ σ G' H' _ _ (R.ext x) hf fun G2 H2 v x2 r => k G2 H2 v (x.trans x2) r)
  | false => exact iteF (z2 G0 H0 Z Γ σ G' H' _ _ (R.ext x) hf fun G2 H2 v x2 r => k G2 H2 v (x.trans x2) r)
end
end DL

namespace DL
open PySem L2
variable [TC : TabCtx]

/-! ### operators by data -/
theorem opr_or {X : Cx} {fn : Value → Value → Sem Value} {r r' : R2} (h : OpR X fn r) (h' : OpR X fn r') : OpR X fn (fun x y H Q => r x y H Q ∨ r' x y H Q) := by
  intro pins s σ H x y v u Q I rx ry q
  rcases q with q | q
  · exact h pins s σ H x y v u Q I rx ry q
  · exact h' pins s σ H x y v u Q I rx ry q
def dAdd : D → D → Option D
  | .int i, .int j => some (.int (i + j))
  | .str x, .str y => if x.length + y.length < 1000000 then some (.str (x ++ y)) else none
  | .lst xs, .lst ys => if xs.length + ys.length < 1000000 then some (.lst (xs ++ ys)) else none
  | _, _ => none
def dSub : D → D → Option D
  | .int i, .int j => some (.int (i - j))
  | _, _ => none
def mulOk (a b : Int) : Bool := !(decide (Builtin.Int.intBits a > shortFactorBits) && decide (Builtin.Int.intBits b > shortFactorBits) && Builtin.Int.intTooBig (Builtin.Int.intBits a + Builtin.Int.intBits b))
def dMul : D → D → Option D
  | .int i, .int j => if mulOk i j then some (.int (i * j)) else none
  | _, _ => none
def dDiv : D → D → Option D
  | .int i, .int j => if 0 < j ∧ j.natAbs.log2 < 9000 then some (.int (i / j)) else none
  | _, _ => none
def dMod : D → D → Option D
  | .int i, .int j => if 0 < j then some (.int (i % j)) else none
  | _, _ => none
def dPow : D → D → Option D
  | .int i, .int j => if 0 ≤ j ∧ j ≤ 1000000 ∧ i.natAbs < 2 ^ 64 then some (.int (i ^ j.toNat)) else none
  | _, _ => none
def dLt : D → D → Option D
  | .int i, .int j => some (.bl (decide (i < j)))
  | _, _ => none
def dLe : D → D → Option D
  | .int i, .int j => some (.bl (decide (i ≤ j)))
  | _, _ => none
def dGt : D → D → Option D
  | .int i, .int j => some (.bl (decide (j < i)))
  | _, _ => none
def dGe : D → D → Option D
  | .int i, .int j => some (.bl (decide (j ≤ i)))
  | _, _ => none
section
variable {X : Cx}
theorem op_mulOk : OpR X (binaryOp .Mult) (rI (fun i j => mulOk i j = true) fun i j => .int (i * j)) := opI fun _ _ _ _ _ _ _ hc q => PyProof.Rows.mul_int q (by
  unfold IntMulOk
  unfold mulOk at hc
  intro z
  rw [z] at hc
  cases hc)
/-- an operator of two ints whose answer is a scalar -/
theorem opd_i {fn : Value → Value → Sem Value} {C : Int → Int → Prop} {g : Int → Int → V} {o : D → D → Option D} (h : OpR X fn (rI C g)) (ho : ∀ x y d, o x y = some d → ∃ i j, x = .int i ∧ y = .int j ∧ C i j ∧ ∀ K mg G, Rep K mg G (g i j) d) : OpD X fn o := by
  refine ⟨_, h, fun x y d v w G H Q gh e rx ry k => ?_⟩
  obtain ⟨i, j, rfl, rfl, c, q⟩ := ho x y d e
  cases rx
  cases ry
  exact ⟨i, j, rfl, rfl, c, k G H _ (Ext.refl gh) (q _ _ _)⟩
theorem opd_i0 {fn : Value → Value → Sem Value} {g : Int → Int → V} {o : D → D → Option D} (h : OpR X fn (rI0 g)) (ho : ∀ x y d, o x y = some d → ∃ i j, x = .int i ∧ y = .int j ∧ ∀ K mg G, Rep K mg G (g i j) d) : OpD X fn o := by
  refine ⟨_, h, fun x y d v w G H Q gh e rx ry k => ?_⟩
  obtain ⟨i, j, rfl, rfl, q⟩ := ho x y d e
  cases rx
  cases ry
  exact ⟨i, j, rfl, rfl, k G H _ (Ext.refl gh) (q _ _ _)⟩
theorem od_add : OpD X (binaryOp .Add) dAdd := by
  refine ⟨_, opr_or op_add (opr_or op_add_str op_cat), fun x y d v w G H Q gh e rx ry k => ?_⟩
  unfold dAdd at e
  split at e
  · cases e; cases rx; cases ry
    exact .inl ⟨_, _, rfl, rfl, k G H _ (Ext.refl gh) (.int _)⟩
  · split at e
    · cases e; cases rx; cases ry
      rename_i z
      exact .inr (.inl ⟨_, _, rfl, rfl, Nat.le_trans (Nat.le_of_lt z) line_big, k G H _ (Ext.refl gh) (.str _)⟩)
    · cases e
  · split at e
    · cases e
      rename_i z
      cases rx with
      | lst h1 r1 =>
        cases ry with
        | lst h2 r2 =>
          refine .inr (.inr ⟨_, _, _, _, rfl, rfl, gh _ _ h1, gh _ _ h2, ?_, fun p hp => ?_⟩)
          · rw [r1.length, r2.length]; exact Nat.le_trans (Nat.le_of_lt z) line_big
          · exact k _ _ _ (Ext.new1 gh hp) (.lst upd_same ((r1.append r2).mono (same_upd (gh.free hp))))
    · cases e
  · cases e
theorem od_sub : OpD X (binaryOp .Sub) dSub := opd_i0 op_sub fun x y d e => by
  unfold dSub at e
  split at e
  · cases e; exact ⟨_, _, rfl, rfl, fun _ _ _ => .int _⟩
  · cases e
theorem od_mul : OpD X (binaryOp .Mult) dMul := opd_i op_mulOk fun x y d e => by
  unfold dMul at e
  split at e
  · split at e
    · cases e; rename_i z; exact ⟨_, _, rfl, rfl, z, fun _ _ _ => .int _⟩
    · cases e
  · cases e
theorem od_div : OpD X (binaryOp .FloorDiv) dDiv := opd_i op_fdivW fun x y d e => by
  unfold dDiv at e
  split at e
  · split at e
    · cases e; rename_i z; exact ⟨_, _, rfl, rfl, z, fun _ _ _ => .int _⟩
    · cases e
  · cases e
theorem od_mod : OpD X (binaryOp .Mod) dMod := opd_i op_mod fun x y d e => by
  unfold dMod at e
  split at e
  · split at e
    · cases e; rename_i z; exact ⟨_, _, rfl, rfl, z, fun _ _ _ => .int _⟩
    · cases e
  · cases e
theorem od_pow : OpD X (binaryOp .Pow) dPow := opd_i op_pow fun x y d e => by
  unfold dPow at e
  split at e
  · split at e
    · cases e; rename_i z; exact ⟨_, _, rfl, rfl, z, fun _ _ _ => .int _⟩
    · cases e
  · cases e
theorem od_lt : OpD X (compareOp .Lt) dLt := opd_i0 op_lt fun x y d e => by
  unfold dLt at e
  split at e
  · cases e; exact ⟨_, _, rfl, rfl, fun _ _ _ => .bl _⟩
  · cases e
theorem od_le : OpD X (compareOp .LtE) dLe := opd_i0 op_le fun x y d e => by
  unfold dLe at e
  split at e
  · cases e; exact ⟨_, _, rfl, rfl, fun _ _ _ => .bl _⟩
  · cases e
theorem od_gt : OpD X (compareOp .Gt) dGt := opd_i0 op_gt fun x y d e => by
  unfold dGt at e
  split at e
  · cases e; exact ⟨_, _, rfl, rfl, fun _ _ _ => .bl _⟩
  · cases e
theorem od_ge : OpD X (compareOp .GtE) dGe := opd_i0 op_ge fun x y d e => by
  unfold dGe at e
  split at e
  · cases e; exact ⟨_, _, rfl, rfl, fun _ _ _ => .bl _⟩
  · cases e
end

/-! equality -/
mutual
def toPy : D → PyData
  | .non => .none
  | .bl b => .bool b
  | .int i => .int i
  | .str x => .str x
  | .lst xs => .list (toPys xs)
  | .tup xs => .tuple (toPys xs)
  | .scr ns => .list (ns.map PyData.int)
  | .obj _ _ => .none
  | .fn _ _ _ _ _ => .none
  | .dic _ _ => .none
def toPys : List D → List PyData
  | [] => []
  | x :: xs => toPy x :: toPys xs
end
mutual
def pyOk : D → Bool
  | .obj _ _ => false
  | .fn _ _ _ _ _ => false
  | .dic _ _ => false
  | .lst xs => pyOks xs
  | .tup xs => pyOks xs
  | _ => true
def pyOks : List D → Bool
  | [] => true
  | x :: xs => pyOk x && pyOks xs
end
section
variable {K : PySem.W.Frag} {mg : Str → Option Value} {G H : Hp}
theorem dpInts : ∀ ns : List Int, DpAll K H (ns.map V.int) (ns.map PyData.int)
  | [] => .nil
  | n :: ns => .cons (.int n) (dpInts ns)
mutual
theorem Rep.dp (gh : Same G H) : ∀ {v : V} {d : D}, Rep K mg G v d → pyOk d = true → Dp K H v (toPy d)
  | _, _, .non, _ => by rw [toPy]; exact .non
  | _, _, .bl b, _ => by rw [toPy]; exact .bl b
  | _, _, .int i, _ => by rw [toPy]; exact .int i
  | _, _, .str x, _ => by rw [toPy]; exact .str x
  | _, _, .lst h r, e => by rw [toPy]; exact .lst (SqL.of (gh _ _ h)) (RepL.dp gh r (by simpa [pyOk] using e))
  | _, _, .tup h r, e => by rw [toPy]; exact .tup (SqT.of (gh _ _ h)) (RepL.dp gh r (by simpa [pyOk] using e))
  | _, _, .scr h, _ => by rw [toPy]; exact .lst (gh.seq h) (dpInts _)
  | _, _, .obj _ _ _, e => by simp [pyOk] at e
  | _, _, .fn _ _, e => by simp [pyOk] at e
  | _, _, .dic _ _ _, e => by simp [pyOk] at e
theorem RepL.dp (gh : Same G H) : ∀ {v : List V} {d : List D}, RepL K mg G v d → pyOks d = true → DpAll K H v (toPys d)
  | _, _, .nil, _ => by rw [toPys]; exact .nil
  | _, _, .cons h r, e => by
    rw [toPys]
    have e' := e
    simp only [pyOks, Bool.and_eq_true] at e'
    exact .cons (Rep.dp gh h e'.1) (RepL.dp gh r e'.2)
end
theorem RepB.dp (gh : Same G H) {v : V} {d : D} (r : RepB K mg G H v d) (e : pyOk d = true) : Dp K H v (toPy d) := by
  cases r with
  | sh r => exact r.dp gh e
  | li h r => rw [toPy]; exact .lst (SqL.of h) (r.dp gh (by simpa [pyOk] using e))
  | obj hm h r => simp [pyOk] at e
  | dic h l r => simp [pyOk] at e
end
/-- == of data -/
def eqd (x y : D) : Bool := PyData.eqv (toPy x) (toPy y)
def eqOk (x : D) : Bool := pyOk x && SeqAt.shaped (toPy x)
def dEq (x y : D) : Option D := if eqOk x && eqOk y then some (.bl (eqd x y)) else none
def dNe (x y : D) : Option D := if eqOk x && eqOk y then some (.bl (!eqd x y)) else none
/-- is None, is not None -/
def isNon : D → Bool
  | .non => true
  | _ => false
def dIsN : D → D → Option D
  | x, .non => some (.bl (isNon x))
  | .bl a, .bl b => some (.bl (decide (a = b)))
  | _, _ => none
def dNoN : D → D → Option D
  | x, .non => some (.bl (!isNon x))
  | .bl a, .bl b => some (.bl (!decide (a = b)))
  | _, _ => none
section
variable {X : Cx} {e a b : Expr} {es : List Expr} {f g : Ex} {fs : Ag} {pos : Pos} {n : Nat}
/-- of what is looked at -/
def OpB (X : Cx) (fn : Value → Value → Sem Value) (o : D → D → Option D) : Prop :=
  ∃ r, OpR X fn r ∧ ∀ x y d v w G H Q, Same G H → o x y = some d → RepB X.K X.mg G H v x → RepB X.K X.mg G H w y → (∀ G' H' u, Ext G H G' H' → Rep X.K X.mg G' u d → Q u H') → r v w H Q
theorem opb_run {r : R2} {o : D → D → Option D} (hr : ∀ x y d v w G H Q, Same G H → o x y = some d → RepB X.K X.mg G H v x → RepB X.K X.mg G H w y → (∀ G' H' u, Ext G H G' H' → Rep X.K X.mg G' u d → Q u H') → r v w H Q)
    {t u : TE} (h2 : ∀ G0 H0 Z Γ σ G H Q d, Rel X.K X.mg G0 H0 Z Γ σ G H → f Γ = some d → (∀ G' H' v, Ext G H G' H' → RepB X.K X.mg G' H' v d → Q v H') → t σ H Q)
    (q2 : ∀ G0 H0 Z Γ σ G H Q d, Rel X.K X.mg G0 H0 Z Γ σ G H → g Γ = some d → (∀ G' H' v, Ext G H G' H' → RepB X.K X.mg G' H' v d → Q v H') → u σ H Q) :
    ∀ G0 H0 Z Γ σ G H Q d, Rel X.K X.mg G0 H0 Z Γ σ G H → gOp o f g Γ = some d → (∀ G' H' v, Ext G H G' H' → Rep X.K X.mg G' v d → Q v H') → tOp r t u σ H Q := fun G0 H0 Z Γ σ G H Q d R hf k => by
  obtain ⟨x, e1, hf⟩ := obind hf
  obtain ⟨y, e2, hf⟩ := obind hf
  refine h2 G0 H0 Z Γ σ G H _ x R e1 fun G1 H1 v x1 r1 => ?_
  refine q2 G0 H0 Z Γ σ G1 H1 _ y (R.ext x1) e2 fun G2 H2 w x2 r2 => ?_
  exact hr x y d v w G2 H2 Q x2.gh hf (r1.ext x2) r2 fun G3 H3 u x3 r3 => k G3 H3 u ((x1.trans x2).trans x3) r3
theorem e_cmpB {op : CmpOp} {o : D → D → Option D} (ho : OpB X (compareOp op) o) (ha : B X a f) (hb : B X b g) (hm : behindInMarks op b = false := by first | exact nomark _ | rfl) : E X (.Compare a [op] [b] pos) (gOp o f g) := by
  obtain ⟨r, hr, hr2⟩ := ho
  obtain ⟨t, h1, h2⟩ := ha.ex
  obtain ⟨u, q1, q2⟩ := hb.ex
  exact ⟨⟨_, pe_cmpR hr h1 q1 hm, opb_run hr2 h2 q2⟩⟩
theorem t_cmpB {op : CmpOp} {o : D → D → Option D} (ho : OpB X (compareOp op) o) (ha : B X a f) (hb : B X b g) (hm : behindInMarks op b = false := by first | exact nomark _ | rfl) : T X (.Compare a [op] [b] pos) (gT (gOp o f g)) := by
  obtain ⟨r, hr, hr2⟩ := ho
  obtain ⟨t, h1, h2⟩ := ha.ex
  obtain ⟨u, q1, q2⟩ := hb.ex
  refine ⟨⟨_, pt_cmpR hr h1 q1 hm, fun G0 H0 Z Γ σ G H Q c R hf k => ?_⟩⟩
  refine opb_run hr2 h2 q2 G0 H0 Z Γ σ G H _ _ R (gT_some hf) fun G' H' v x r => ?_
  cases r
  exact ⟨_, rfl, k G' H' x⟩
theorem ob_eq (hu : X.A.units + 64 < cLine) : OpB X (compareOp .Eq) dEq := by
  refine ⟨_, op_eqD hu, fun x y d v w G H Q gh e rx ry k => ?_⟩
  unfold dEq at e
  split at e
  · rename_i z
    cases e
    simp only [eqOk, Bool.and_eq_true] at z
    exact ⟨_, _, rx.dp gh z.1.1, ry.dp gh z.2.1, z.1.2, z.2.2, k G H _ (Ext.refl gh) (.bl _)⟩
  · cases e
theorem ob_ne (hu : X.A.units + 64 < cLine) : OpB X (compareOp .NotEq) dNe := by
  refine ⟨_, op_neD hu, fun x y d v w G H Q gh e rx ry k => ?_⟩
  unfold dNe at e
  split at e
  · rename_i z
    cases e
    simp only [eqOk, Bool.and_eq_true] at z
    exact ⟨_, _, rx.dp gh z.1.1, ry.dp gh z.2.1, z.1.2, z.2.2, k G H _ (Ext.refl gh) (.bl _)⟩
  · cases e
theorem ob_isN : OpB X (compareOp .Is) dIsN := by
  refine ⟨_, opr_or op_isN op_isBl, fun x y d v w G H Q gh e rx ry k => ?_⟩
  have nb : ∀ {w : V}, RepB X.K X.mg G H w .non → w = .non := fun r => by
    cases r with | sh r => cases r; rfl
  have bb : ∀ {w : V} {b : Bool}, RepB X.K X.mg G H w (.bl b) → w = .bl b := fun r => by
    cases r with | sh r => cases r; rfl
  unfold dIsN at e
  split at e
  · cases e
    have e2 := nb ry
    subst e2
    refine .inl ⟨rfl, k G H _ (Ext.refl gh) ?_⟩
    have q : decide (v = V.non) = isNon x := by
      cases x with
      | non => rw [nb rx]; rfl
      | lst xs => obtain ⟨_, _, rfl, _⟩ := rx.lst gh; rfl
      | bl b => rw [bb rx]; rfl
      | obj c ds => cases rx with
        | sh rx => cases rx; rfl
        | obj _ _ _ => rfl
      | dic _ _ => cases rx with
        | sh rx => cases rx; rfl
        | dic _ _ _ => rfl
      | _ => cases rx with | sh rx => cases rx; rfl
    rw [q]
    exact .bl _
  · cases e
    rw [bb rx, bb ry]
    exact .inr ⟨_, _, rfl, rfl, k G H _ (Ext.refl gh) (.bl _)⟩
  · cases e
theorem ob_noN : OpB X (compareOp .IsNot) dNoN := by
  refine ⟨_, opr_or op_notN op_notBl, fun x y d v w G H Q gh e rx ry k => ?_⟩
  have nb : ∀ {w : V}, RepB X.K X.mg G H w .non → w = .non := fun r => by
    cases r with | sh r => cases r; rfl
  have bb : ∀ {w : V} {b : Bool}, RepB X.K X.mg G H w (.bl b) → w = .bl b := fun r => by
    cases r with | sh r => cases r; rfl
  unfold dNoN at e
  split at e
  · cases e
    have e2 := nb ry
    subst e2
    refine .inl ⟨rfl, k G H _ (Ext.refl gh) ?_⟩
    have q : (!decide (v = V.non)) = !isNon x := by
      cases x with
      | non => rw [nb rx]; rfl
      | lst xs => obtain ⟨_, _, rfl, _⟩ := rx.lst gh; rfl
      | bl b => rw [bb rx]; rfl
      | obj c ds => cases rx with
        | sh rx => cases rx; rfl
        | obj _ _ _ => rfl
      | dic _ _ => cases rx with
        | sh rx => cases rx; rfl
        | dic _ _ _ => rfl
      | _ => cases rx with | sh rx => cases rx; rfl
    rw [q]
    exact .bl _
  · cases e
    rw [bb rx, bb ry]
    exact .inr ⟨_, _, rfl, rfl, k G H _ (Ext.refl gh) (.bl _)⟩
  · cases e

/-! a comparison in a row: a < b <= c -/
structure PCh (X : Cx) (ops : List CmpOp) (es : List Expr) (t : V → TE) : Prop where
  run : ∀ (pos : Pos) (pins : List (Addr × Obj)) (s : Shared) (σ : L2.St) (H : Hp) (Q : VK) (x : V) (v : Value), Inv X pins σ H s → RelV x v → t x σ H Q →
    wpAny (model X.prog X.w) X.A (compareChain pos v ops (evalEach es X.env)) (EP X pins σ Q) X.xe s
structure PTCh (X : Cx) (ops : List CmpOp) (es : List Expr) (t : V → TT) : Prop where
  run : ∀ (pos : Pos) (pins : List (Addr × Obj)) (s : Shared) (σ : L2.St) (H : Hp) (Q : Bool → Hp → Prop) (x : V) (v : Value), Inv X pins σ H s → RelV x v → t x σ H Q →
    wpAny (model X.prog X.w) X.A (testChain pos v ops (evalEach es X.env)) (TP X pins σ Q) X.xe s
variable {op op' : CmpOp} {ops : List CmpOp} {r r' : R2} {ta tb : TE} {tc : V → TE} {tt : V → TT} {pos' : Pos}
theorem pch_last (ho : OpR X (compareOp op) r) (hb : PE X b tb) : PCh X [op] [b] (fun x σ H Q => tb σ H fun y H1 => r x y H1 Q) := by
  refine ⟨fun pos pins s σ H Q x v I rx h => ?_⟩
  exact PyProof.Rows.chain_last (thn (hb.run pins s σ H _ I h) fun u s2 ⟨y, H2, I2, r2, q2⟩ => ho pins s2 σ H2 x y v u _ I2 rx r2 q2)
theorem pch_cons (ho : OpR X (compareOp op) r) (ha : PE X a ta) (hc : PCh X (op' :: ops) (b :: es) tc) : PCh X (op :: op' :: ops) (a :: b :: es) (fun x σ H Q => ta σ H fun y H1 => r x y H1 fun z H2 => ∃ k, z = .bl k ∧ if k = true then tc y σ H2 Q else Q (.bl false) H2) := by
  refine ⟨fun pos pins s σ H Q x v I rx h => ?_⟩
  refine PyProof.Rows.chain_link (thn (ha.run pins s σ H _ I h) fun u s2 ⟨y, H2, I2, r2, q2⟩ => thn (ho pins s2 σ H2 x y v u _ I2 rx r2 q2) fun d s3 ⟨z, H3, I3, r3, k, e, q3⟩ => ?_)
  subst e
  cases r3
  refine wpAny_truthy_bool ?_
  cases k with
  | false => exact PyProof.Rows.ite_ff ⟨.bl false, H3, I3, rfl, q3⟩
  | true => exact PyProof.Rows.ite_tt (hc.run pos pins s3 σ H3 Q y u I3 r2 q3)
theorem pe_chn (ha : PE X e ta) (hc : PCh X (op :: op' :: ops) (a :: b :: es) tc) (hm : lastMarks (op :: op' :: ops) (a :: b :: es) = false := by with_unfolding_all rfl) : PE X (.Compare e (op :: op' :: ops) (a :: b :: es) pos) (fun σ H Q => ta σ H fun x H1 => tc x σ H1 Q) := by
  refine ⟨fun pins s σ H Q I h => ?_⟩
  exact PyProof.Rows.Compare_chain (thn (ha.run pins s σ H _ I h) fun v s1 ⟨x, H1, I1, r1, q1⟩ => hc.run pos pins s1 σ H1 Q x v I1 r1 q1) hm
theorem ptch_last (ho : OpR X (compareOp op) r) (hb : PE X b tb) : PTCh X [op] [b] (fun x σ H Q => tb σ H fun y H1 => r x y H1 fun z H2 => ∃ k, z = .bl k ∧ Q k H2) := by
  refine ⟨fun pos pins s σ H Q x v I rx h => ?_⟩
  refine PyProof.Rows.test_last (thn (hb.run pins s σ H _ I h) fun u s2 ⟨y, H2, I2, r2, q2⟩ => thn (ho pins s2 σ H2 x y v u _ I2 rx r2 q2) fun d s3 ⟨z, H3, I3, r3, k, e, q3⟩ => ?_)
  subst e
  cases r3
  exact wpAny_truthy_bool ⟨H3, I3, q3⟩
theorem ptch_cons (ho : OpR X (compareOp op) r) (ha : PE X a ta) (hc : PTCh X (op' :: ops) (b :: es) tt) : PTCh X (op :: op' :: ops) (a :: b :: es) (fun x σ H Q => ta σ H fun y H1 => r x y H1 fun z H2 => ∃ k, z = .bl k ∧ if k = true then tt y σ H2 Q else Q false H2) := by
  refine ⟨fun pos pins s σ H Q x v I rx h => ?_⟩
  refine PyProof.Rows.test_link (thn (ha.run pins s σ H _ I h) fun u s2 ⟨y, H2, I2, r2, q2⟩ => thn (ho pins s2 σ H2 x y v u _ I2 rx r2 q2) fun d s3 ⟨z, H3, I3, r3, k, e, q3⟩ => ?_)
  subst e
  cases r3
  refine wpAny_truthy_bool ?_
  cases k with
  | false => exact PyProof.Rows.ite_ff ⟨H3, I3, q3⟩
  | true => exact PyProof.Rows.ite_tt (hc.run pos pins s3 σ H3 Q y u I3 r2 q3)
theorem pt_chn (ha : PE X e ta) (hc : PTCh X (op :: op' :: ops) (a :: b :: es) tt) (hm : lastMarks (op :: op' :: ops) (a :: b :: es) = false := by with_unfolding_all rfl) : PT X (.Compare e (op :: op' :: ops) (a :: b :: es) pos) (fun σ H Q => ta σ H fun x H1 => tt x σ H1 Q) := by
  refine ⟨fun pins s σ H Q I h => ?_⟩
  exact PyProof.Rows.isTrue_chain (thn (ha.run pins s σ H _ I h) fun v s1 ⟨x, H1, I1, r1, q1⟩ => hc.run pos pins s1 σ H1 Q x v I1 r1 q1) hm
/-- by data -/
structure Ch (X : Cx) (ops : List CmpOp) (es : List Expr) (f : D → Te) : Prop where
  ex : ∃ t u, PCh X ops es t ∧ PTCh X ops es u ∧
    (∀ G0 H0 Z Γ σ G H Q d x v, Rel X.K X.mg G0 H0 Z Γ σ G H → Rep X.K X.mg G v x → f x Γ = some d → (∀ G' H', Ext G H G' H' → Q (.bl d) H') → t v σ H Q) ∧
    (∀ G0 H0 Z Γ σ G H Q d x v, Rel X.K X.mg G0 H0 Z Γ σ G H → Rep X.K X.mg G v x → f x Γ = some d → (∀ G' H', Ext G H G' H' → Q d H') → u v σ H Q)
def dB : Option D → Option Bool
  | some (.bl b) => some b
  | _ => none
theorem dB_some {o : Option D} {b : Bool} (h : dB o = some b) : o = some (.bl b) := by
  unfold dB at h
  split at h
  · cases h; rfl
  · cases h
def gCh1 (o : D → D → Option D) (f : Ex) : D → Te := fun x Γ => (f Γ).bind fun y => dB (o x y)
def gChn (o : D → D → Option D) (f : Ex) (r : D → Te) : D → Te := fun x Γ => (f Γ).bind fun y => (dB (o x y)).bind fun b => if b then r y Γ else some false
variable {o : D → D → Option D} {c : D → Te}
theorem c_last (ho : OpD X (compareOp op) o) (hb : E X b f) : Ch X [op] [b] (gCh1 o f) := by
  obtain ⟨r, hr, hr2⟩ := ho
  obtain ⟨t, h1, h2⟩ := hb.ex
  refine ⟨⟨_, _, pch_last hr h1, ptch_last hr h1, fun G0 H0 Z Γ σ G H Q d x v R rx hf k => ?_, fun G0 H0 Z Γ σ G H Q d x v R rx hf k => ?_⟩⟩
  · obtain ⟨y, e1, hf⟩ := obind hf
    refine h2 G0 H0 Z Γ σ G H _ y R e1 fun G1 H1 w x1 r1 => ?_
    refine hr2 x y _ v w G1 H1 _ x1.gh (dB_some hf) (rx.mono x1.gg) r1 fun G2 H2 u x2 r2 => ?_
    cases r2
    exact k G2 H2 (x1.trans x2)
  · obtain ⟨y, e1, hf⟩ := obind hf
    refine h2 G0 H0 Z Γ σ G H _ y R e1 fun G1 H1 w x1 r1 => ?_
    refine hr2 x y _ v w G1 H1 _ x1.gh (dB_some hf) (rx.mono x1.gg) r1 fun G2 H2 u x2 r2 => ?_
    cases r2
    exact ⟨_, rfl, k G2 H2 (x1.trans x2)⟩
theorem c_cons (ho : OpD X (compareOp op) o) (ha : E X a f) (hc : Ch X (op' :: ops) (b :: es) c) : Ch X (op :: op' :: ops) (a :: b :: es) (gChn o f c) := by
  obtain ⟨r, hr, hr2⟩ := ho
  obtain ⟨t, h1, h2⟩ := ha.ex
  obtain ⟨tc, tt, c1, c2, c3, c4⟩ := hc.ex
  refine ⟨⟨_, _, pch_cons hr h1 c1, ptch_cons hr h1 c2, fun G0 H0 Z Γ σ G H Q d x v R rx hf k => ?_, fun G0 H0 Z Γ σ G H Q d x v R rx hf k => ?_⟩⟩
  · obtain ⟨y, e1, hf⟩ := obind hf
    obtain ⟨z, e2, hf⟩ := obind hf
    refine h2 G0 H0 Z Γ σ G H _ y R e1 fun G1 H1 w x1 r1 => ?_
    refine hr2 x y _ v w G1 H1 _ x1.gh (dB_some e2) (rx.mono x1.gg) r1 fun G2 H2 u x2 r2 => ?_
    cases r2
    refine ⟨_, rfl, ?_⟩
    cases z with
    | true => exact iteT (c3 G0 H0 Z Γ σ G2 H2 Q d y w ((R.ext x1).ext x2) (r1.mono x2.gg) hf fun G3 H3 x3 => k G3 H3 ((x1.trans x2).trans x3))
    | false => cases hf; exact iteF (k G2 H2 (x1.trans x2))
  · obtain ⟨y, e1, hf⟩ := obind hf
    obtain ⟨z, e2, hf⟩ := obind hf
    refine h2 G0 H0 Z Γ σ G H _ y R e1 fun G1 H1 w x1 r1 => ?_
    refine hr2 x y _ v w G1 H1 _ x1.gh (dB_some e2) (rx.mono x1.gg) r1 fun G2 H2 u x2 r2 => ?_
    cases r2
    refine ⟨_, rfl, ?_⟩
    cases z with
    | true => exact iteT (c4 G0 H0 Z Γ σ G2 H2 Q d y w ((R.ext x1).ext x2) (r1.mono x2.gg) hf fun G3 H3 x3 => k G3 H3 ((x1.trans x2).trans x3))
    | false => cases hf; exact iteF (k G2 H2 (x1.trans x2))
def gCh (f : Ex) (c : D → Te) : Te := fun Γ => (f Γ).bind fun x => c x Γ
theorem v_chn (ha : E X e f) (hc : Ch X (op :: op' :: ops) (a :: b :: es) c) (hm : lastMarks (op :: op' :: ops) (a :: b :: es) = false := by with_unfolding_all rfl) : V1 X (.Compare e (op :: op' :: ops) (a :: b :: es) pos) (gCh f c) := by
  obtain ⟨t, h1, h2⟩ := ha.ex
  obtain ⟨tc, tt, c1, c2, c3, c4⟩ := hc.ex
  refine ⟨⟨⟨_, pe_chn h1 c1 hm, fun G0 H0 Z Γ σ G H Q d R hf k => ?_⟩⟩⟩
  obtain ⟨y, e1, hf⟩ := obind hf
  cases hf
  obtain ⟨x, e1, hf⟩ := obind e1
  refine h2 G0 H0 Z Γ σ G H _ x R e1 fun G1 H1 w x1 r1 => ?_
  exact c3 G0 H0 Z Γ σ G1 H1 Q _ x w (R.ext x1) r1 hf fun G2 H2 x2 => k G2 H2 _ (x1.trans x2) (.bl _)
theorem t_chn (ha : E X e f) (hc : Ch X (op :: op' :: ops) (a :: b :: es) c) (hm : lastMarks (op :: op' :: ops) (a :: b :: es) = false := by with_unfolding_all rfl) : T X (.Compare e (op :: op' :: ops) (a :: b :: es) pos) (gCh f c) := by
  obtain ⟨t, h1, h2⟩ := ha.ex
  obtain ⟨tc, tt, c1, c2, c3, c4⟩ := hc.ex
  refine ⟨⟨_, pt_chn h1 c2 hm, fun G0 H0 Z Γ σ G H Q d R hf k => ?_⟩⟩
  obtain ⟨x, e1, hf⟩ := obind hf
  refine h2 G0 H0 Z Γ σ G H _ x R e1 fun G1 H1 w x1 r1 => ?_
  exact c4 G0 H0 Z Γ σ G1 H1 Q _ x w (R.ext x1) r1 hf fun G2 H2 x2 => k G2 H2 (x1.trans x2)
end
end DL

namespace DL
open PySem L2
variable [TC : TabCtx]

section
variable {K : PySem.W.Frag} {mg : Str → Option Value} {G H : Hp}
theorem atI_map {α β : Type} {xs : List α} {i : Int} {f : α → β} : atI (xs.map f) i = (atI xs i).map f := by
  unfold atI
  rw [List.length_map]
  cases ixN xs.length i with
  | none => rfl
  | some j => simp [List.getElem?_map]
theorem RepL.at {vs : List V} {ds : List D} {i : Int} {d : D} (r : RepL K mg G vs ds) (h : atI ds i = some d) : ∃ v, atI vs i = some v ∧ Rep K mg G v d := by
  unfold atI at h ⊢
  rw [r.length]
  cases e : ixN ds.length i with
  | none => rw [e] at h; cases h
  | some j =>
    rw [e] at h
    exact r.get j h
/-- what a slice takes -/
def cutD {α : Type} (xs : List α) (lo hi : Option Int) : List α := (xs.drop (HT.sIx xs.length 0 lo)).take (HT.sIx xs.length xs.length hi - HT.sIx xs.length 0 lo)
theorem RepL.cut {vs : List V} {ds : List D} {lo hi : Option Int} (r : RepL K mg G vs ds) : RepL K mg G (cutV vs lo hi) (cutD ds lo hi) := by
  unfold cutV cutD
  rw [r.length]
  exact (r.drop _).take _
theorem cutV_ints (ns : List Int) (lo hi : Option Int) : cutV (ns.map V.int) lo hi = (cutD ns lo hi).map V.int := by
  unfold cutV cutD
  rw [List.length_map, List.map_take, List.map_drop]
end

/-! ### the classes -/
structure CK (K : PySem.W.Frag) (mg : Str → Option Value) (c : Nat) (C : Addr) : Prop where
  hm : mg (cN c) = some (.ref C)
  cl : Cls K C
  na : ∀ f ∈ cF c, NoAttr K C f
theorem zip_lookup : ∀ {ns : List Str} {vs : List V} {j : Nat} {x : Str} {v : V}, ns.Nodup → ns[j]? = some x → vs[j]? = some v → (ns.zip vs).lookup x = some v
  | [], _, _, _, _, _, h, _ => by simp at h
  | _ :: _, [], _, _, _, _, _, h => by simp at h
  | n :: ns, w :: vs, 0, x, v, nd, h1, h2 => by
    simp at h1 h2; subst h1; subst h2
    simp [List.zip, List.lookup]
  | n :: ns, w :: vs, j + 1, x, v, nd, h1, h2 => by
    have hn : x ≠ n := fun e => by
      subst e
      exact (List.nodup_cons.mp nd).1 (List.mem_of_getElem? (by simpa using h1))
    rw [List.zip_cons_cons, List.lookup_cons]
    have e : (x == n) = false := beq_eq_false_iff_ne.mpr hn
    rw [e]
    exact zip_lookup (j := j) (List.nodup_cons.mp nd).2 (by simpa using h1) (by simpa using h2)
theorem zip_lookup_none : ∀ {ns : List Str} {vs : List V} {x : Str}, x ∉ ns → (ns.zip vs).lookup x = none
  | [], _, _, _ => by simp
  | _ :: _, [], _, _ => by simp
  | n :: ns, w :: vs, x, h => by
    rw [List.zip_cons_cons, List.lookup_cons]
    have e : (x == n) = false := beq_eq_false_iff_ne.mpr fun e => h (by simp [e])
    rw [e]
    exact zip_lookup_none fun z => h (List.mem_cons_of_mem _ z)

section
variable {X : Cx} {e a b o : Expr} {es : List Expr} {f g : Ex} {fs : Ag} {pos : Pos} {n : Nat}

/-! subscripts -/
def dIx : D → D → Option D
  | .lst xs, .int i => atI xs i
  | .tup xs, .int i => atI xs i
  | .scr ns, .int i => (atI ns i).map D.int
  | .str z, .int i => if z.length < 1000000 then (atI z.cps.toList i).map fun c => .str ⟨#[c]⟩ else none
  | _, _ => none
abbrev gIx (f g : Ex) : Ex := gOp dIx f g
theorem Rep.intv {K mg G v i} (r : Rep K mg G v (.int i)) : v = .int i := by cases r; rfl
theorem Rep.strv {K mg G v i} (r : Rep K mg G v (.str i)) : v = .str i := by cases r; rfl
theorem Rep.blv {K mg G v i} (r : Rep K mg G v (.bl i)) : v = .bl i := by cases r; rfl
theorem RepB.flat {K mg G H v d} (r : RepB K mg G H v d) (h : ∀ xs, d ≠ .lst xs) (h' : ∀ c xs, d ≠ .obj c xs := by simp) (h'' : ∀ ks xs, d ≠ .dic ks xs := by simp) : Rep K mg G v d := by
  cases r with
  | sh r => exact r
  | li _ _ => exact absurd rfl (h _)
  | obj _ _ _ => exact absurd rfl (h' _ _)
  | dic _ _ _ => exact absurd rfl (h'' _ _)
theorem e_ix (ha : B X a f) (hb : E X b g) (hs : PlainIx b := by exact fun _ _ => rfl) : E X (.Subscript a b pos) (gIx f g) := by
  obtain ⟨t, h1, h2⟩ := ha.ex
  obtain ⟨u, q1, q2⟩ := hb.ex
  refine ⟨⟨_, pe_ix ix_seq h1 q1 hs, fun G0 H0 Z Γ σ G H Q d R hf k => ?_⟩⟩
  obtain ⟨x, e1, hf⟩ := obind hf
  obtain ⟨y, e2, hf⟩ := obind hf
  refine h2 G0 H0 Z Γ σ G H _ x R e1 fun G1 H1 v x1 r1 => ?_
  refine q2 G0 H0 Z Γ σ G1 H1 _ y (R.ext x1) e2 fun G2 H2 w x2 r2 => ?_
  have r1' := r1.ext x2
  have fin : ∀ v, Rep X.K X.mg G2 v d → Q v H2 := fun v r => k G2 H2 v (x1.trans x2) r
  cases x with
  | lst xs =>
    cases y with
    | int i =>
      obtain ⟨p, vs, rfl, h, r⟩ := r1'.lst x2.gh
      obtain ⟨v, h3, h4⟩ := r.at hf
      rw [r2.intv]
      exact .inl ⟨p, vs, _, v, rfl, rfl, SqL.of h, h3, fin v h4⟩
    | _ => cases hf
  | tup xs =>
    cases y with
    | int i =>
      obtain ⟨p, vs, rfl, h, r⟩ := r1'.tup x2.gh
      obtain ⟨v, h3, h4⟩ := r.at hf
      rw [r2.intv]
      exact .inr (.inl ⟨p, vs, _, v, rfl, rfl, SqT.of h, h3, fin v h4⟩)
    | _ => cases hf
  | scr ns =>
    cases y with
    | int i =>
      obtain ⟨p, rfl, h⟩ := r1'.scr x2.gh
      rw [r2.intv]
      replace hf : (atI ns i).map D.int = some d := hf
      cases e3 : atI ns i with
      | none => rw [e3] at hf; cases hf
      | some m =>
        rw [e3] at hf; cases hf
        exact .inl ⟨p, _, i, .int m, rfl, rfl, h, by rw [atI_map, e3]; rfl, fin _ (.int m)⟩
    | _ => cases hf
  | str z =>
    cases y with
    | int i =>
      replace hf : (if z.length < 1000000 then (atI z.cps.toList i).map fun c => D.str ⟨#[c]⟩ else none) = some d := hf
      split at hf
      · rename_i hz
        rw [r2.intv, (r1'.flat (by simp)).strv]
        cases e3 : atI z.cps.toList i with
        | none => rw [e3] at hf; cases hf
        | some c =>
          rw [e3] at hf; cases hf
          exact .inr (.inr ⟨z, i, c, rfl, rfl, Nat.le_trans (Nat.le_of_lt hz) line_big, e3, fin _ (.str _)⟩)
      · cases hf
    | _ => cases hf
  | _ => cases hf

/-! slices of lists -/
abbrev Op := DEnv → Option (Option Int)
structure O (X : Cx) (e : Option Expr) (f : Op) : Prop where
  ex : ∃ t, PO X e t ∧ ∀ G0 H0 Z Γ σ G H Q d, Rel X.K X.mg G0 H0 Z Γ σ G H → f Γ = some d → (∀ G' H', Ext G H G' H' → Q d H') → t σ H Q
def gNo : Op := fun _ => some none
def gSo (f : Ex) : Op := fun Γ => (f Γ).bind fun d => match d with | .int i => some (some i) | _ => none
theorem o_no : O X none gNo := ⟨⟨_, po_none, fun G0 H0 Z Γ σ G H Q d R hf k => by cases hf; exact k G H (Ext.refl R.gh)⟩⟩
theorem o_so (h : E X e f) : O X (some e) (gSo f) := by
  obtain ⟨t, h1, h2⟩ := h.ex
  refine ⟨⟨_, po_some h1, fun G0 H0 Z Γ σ G H Q d R hf k => ?_⟩⟩
  obtain ⟨x, e1, hf⟩ := obind hf
  cases x with
  | int i =>
    cases hf
    refine h2 G0 H0 Z Γ σ G H _ _ R e1 fun G1 H1 v x1 r1 => ?_
    rw [r1.intv]
    exact ⟨i, rfl, k G1 H1 x1⟩
  | _ => cases hf
def dCut : D → Option Int → Option Int → Option (List D)
  | .lst xs, lo, hi => some (cutD xs lo hi)
  | .scr ns, lo, hi => some ((cutD ns lo hi).map D.int)
  | _, _, _ => none
def gSl (f : Ex) (lo hi : Op) : Ag := fun Γ => (f Γ).bind fun x => (lo Γ).bind fun l => (hi Γ).bind fun h => dCut x l h
theorem el_sl {lo hi : Option Expr} {p2 : Pos} {fl fh : Op} (he : B X e f) (hl : O X lo fl) (hh : O X hi fh) : EL X (.Subscript e (.Slice lo hi none p2) pos) (gSl f fl fh) := by
  obtain ⟨t, h1, h2⟩ := he.ex
  obtain ⟨u, q1, q2⟩ := hl.ex
  obtain ⟨w, z1, z2⟩ := hh.ex
  refine ⟨⟨_, pe_slice sl_list h1 q1 z1, fun G0 H0 Z Γ σ G H Q ds R hf k => ?_⟩⟩
  obtain ⟨x, e1, hf⟩ := obind hf
  obtain ⟨l, e2, hf⟩ := obind hf
  obtain ⟨h, e3, hf⟩ := obind hf
  refine h2 G0 H0 Z Γ σ G H _ x R e1 fun G1 H1 v x1 r1 => ?_
  refine q2 G0 H0 Z Γ σ G1 H1 _ l (R.ext x1) e2 fun G2 H2 x2 => ?_
  refine z2 G0 H0 Z Γ σ G2 H2 _ h ((R.ext x1).ext x2) e3 fun G3 H3 x3 => ?_
  have x23 := x2.trans x3
  have r1' := r1.ext x23
  have xx := x1.trans x23
  cases x with
  | lst xs =>
    cases hf
    obtain ⟨p, vs, rfl, h', r⟩ := r1'.lst x3.gh
    refine ⟨p, vs, rfl, SqL.of h', fun q hq => ?_⟩
    exact k G3 _ q _ (xx.trans (Ext.own1 x3.gh hq)) (xx.hf hq) (x3.gh.free hq) upd_same r.cut
  | scr ns =>
    cases hf
    obtain ⟨p, rfl, h'⟩ := r1'.scr x3.gh
    refine ⟨p, _, rfl, h', fun q hq => ?_⟩
    refine k G3 _ q _ (xx.trans (Ext.own1 x3.gh hq)) (xx.hf hq) (x3.gh.free hq) upd_same ?_
    rw [cutV_ints]
    exact RepL.ofInts
  | _ => cases hf

/-! calls of built-ins -/
/-- an argument that is looked at, alone -/
def CbB (X : Cx) (v : Value) (o : D → Option D) : Prop :=
  ∃ r, CallR X v r ∧ ∀ x d v G H Q, Same G H → o x = some d → RepB X.K X.mg G H v x → (∀ G' H' u, Ext G H G' H' → Rep X.K X.mg G' u d → Q u H') → r [v] H Q
def gU (o : D → Option D) (f : Ex) : Ex := fun Γ => (f Γ).bind o
theorem e_cb {id : String} {x : Str} {p : Pos} {q : D → Option D} (hc : CbB X (.builtin id) q) (hg : Gl X x) (hm : X.mg x = none) (hv : bootBuiltins x = some (.builtin id)) (ha : B X a f) (hn : x ≠ "__name__" := by decide) (hdb : (x == ("__debug__" : Str)) = false := by decide)
    (he : starEach [a] X.env = (false, eval a X.env) :: starEach [] X.env := by rfl) (hpl : (backTo pos (starEach [] X.env)).any (·.1) = false := by rfl) : E X (.Call (.Name x p) [a] [] pos) (gU q f) := by
  obtain ⟨r, c1, c2⟩ := hc
  obtain ⟨t, h1, h2⟩ := ha.ex
  refine ⟨⟨_, pe_callB c1 hg hm hv (pa_cons h1 pa_nil he) hn hdb he hpl, fun G0 H0 Z Γ σ G H Q d R hf k => ?_⟩⟩
  obtain ⟨y, e1, hf⟩ := obind hf
  refine h2 G0 H0 Z Γ σ G H _ y R e1 fun G1 H1 v x1 r1 => ?_
  exact c2 y d v G1 H1 Q x1.gh hf r1 fun G2 H2 u x2 r2 => k G2 H2 u (x1.trans x2) r2
theorem e_cty {id : String} {x : Str} {p : Pos} {q : D → Option D} (hc : CbB X (.type id) q) (hg : Gl X x) (hm : X.mg x = none) (hv : bootBuiltins x = some (.type id)) (ha : B X a f) (hn : x ≠ "__name__" := by decide) (hdb : (x == ("__debug__" : Str)) = false := by decide)
    (he : starEach [a] X.env = (false, eval a X.env) :: starEach [] X.env := by rfl) (hpl : (backTo pos (starEach [] X.env)).any (·.1) = false := by rfl) : E X (.Call (.Name x p) [a] [] pos) (gU q f) := by
  obtain ⟨r, c1, c2⟩ := hc
  obtain ⟨t, h1, h2⟩ := ha.ex
  refine ⟨⟨_, pe_callTy c1 hg hm hv (pa_cons h1 pa_nil he) hn hdb he hpl, fun G0 H0 Z Γ σ G H Q d R hf k => ?_⟩⟩
  obtain ⟨y, e1, hf⟩ := obind hf
  refine h2 G0 H0 Z Γ σ G H _ y R e1 fun G1 H1 v x1 r1 => ?_
  exact c2 y d v G1 H1 Q x1.gh hf r1 fun G2 H2 u x2 r2 => k G2 H2 u (x1.trans x2) r2
def dLen : D → Option D
  | .lst xs => some (.int xs.length)
  | .tup xs => some (.int xs.length)
  | .scr ns => some (.int ns.length)
  | .str z => if z.length < 1000000 then some (.int z.length) else none
  | _ => none
theorem callr_or {v : Value} {r r' : List V → Hp → VK → Prop} (h : CallR X v r) (h' : CallR X v r') : CallR X v (fun xs H Q => r xs H Q ∨ r' xs H Q) := by
  intro pins s σ H xs us Q I rx q
  rcases q with q | q
  · exact h pins s σ H xs us Q I rx q
  · exact h' pins s σ H xs us Q I rx q
theorem cb_len : CbB X (.builtin "len") dLen := by
  refine ⟨_, callr_or call_len_seq call_len_str, fun x d v G H Q gh e r k => ?_⟩
  unfold dLen at e
  split at e
  · cases e
    obtain ⟨p, vs, rfl, h, r⟩ := r.lst gh
    exact .inl ⟨p, vs, rfl, .inl (SqL.of h), by rw [r.length]; exact k G H _ (Ext.refl gh) (.int _)⟩
  · cases e
    obtain ⟨p, vs, rfl, h, r⟩ := r.tup gh
    exact .inl ⟨p, vs, rfl, .inr (SqT.of h), by rw [r.length]; exact k G H _ (Ext.refl gh) (.int _)⟩
  · cases e
    obtain ⟨p, rfl, h⟩ := r.scr gh
    exact .inl ⟨p, _, rfl, .inl h, by rw [List.length_map]; exact k G H _ (Ext.refl gh) (.int _)⟩
  · split at e
    · cases e
      rename_i z hz
      rw [(r.flat (by simp)).strv]
      exact .inr ⟨z, rfl, Nat.le_trans (Nat.le_of_lt hz) line_big, k G H _ (Ext.refl gh) (.int _)⟩
    · cases e
  · cases e
def dAbs : D → Option D
  | .int i => some (.int (if i < 0 then -i else i))
  | _ => none
theorem cb_abs : CbB X (.builtin "abs") dAbs := by
  refine ⟨_, call_abs, fun x d v G H Q gh e r k => ?_⟩
  unfold dAbs at e
  split at e
  · cases e
    rw [(r.flat (by simp)).intv]
    exact ⟨_, rfl, k G H _ (Ext.refl gh) (.int _)⟩
  · cases e
def dInt : D → Option D
  | .int i => some (.int i)
  | .bl b => some (.int (if b then 1 else 0))
  | _ => none
theorem cb_int : CbB X (.type "int") dInt := by
  refine ⟨_, call_int1, fun x d v G H Q gh e r k => ?_⟩
  unfold dInt at e
  split at e
  · cases e
    rw [(r.flat (by simp)).intv]
    exact .inl ⟨_, rfl, k G H _ (Ext.refl gh) (.int _)⟩
  · cases e
    rw [(r.flat (by simp)).blv]
    exact .inr ⟨_, rfl, k G H _ (Ext.refl gh) (.int _)⟩
  · cases e
/-! lists of ints, of truth values -/
def ints? : List D → Option (List Int)
  | [] => some []
  | .int i :: r => (ints? r).map (i :: ·)
  | _ :: _ => none
def bls? : List D → Option (List Bool)
  | [] => some []
  | .bl i :: r => (bls? r).map (i :: ·)
  | _ :: _ => none
theorem ints?_map : ∀ ns : List Int, ints? (ns.map D.int) = some ns
  | [] => rfl
  | n :: ns => by simp [ints?, ints?_map ns]
theorem bls?_map : ∀ ns : List Bool, bls? (ns.map D.bl) = some ns
  | [] => rfl
  | n :: ns => by simp [bls?, bls?_map ns]
theorem ints?_some : ∀ {ds : List D} {ns : List Int}, ints? ds = some ns → ds = ns.map D.int
  | [], _, h => by cases h; rfl
  | .int i :: r, ns, h => by
    simp only [ints?, Option.map_eq_some_iff] at h
    obtain ⟨m, h1, rfl⟩ := h
    rw [ints?_some h1]; rfl
  | .non :: _, _, h => by simp [ints?] at h
  | .bl _ :: _, _, h => by simp [ints?] at h
  | .str _ :: _, _, h => by simp [ints?] at h
  | .lst _ :: _, _, h => by simp [ints?] at h
  | .tup _ :: _, _, h => by simp [ints?] at h
  | .scr _ :: _, _, h => by simp [ints?] at h
  | .obj _ _ :: _, _, h => by simp [ints?] at h
theorem bls?_some : ∀ {ds : List D} {ns : List Bool}, bls? ds = some ns → ds = ns.map D.bl
  | [], _, h => by cases h; rfl
  | .bl i :: r, ns, h => by
    simp only [bls?, Option.map_eq_some_iff] at h
    obtain ⟨m, h1, rfl⟩ := h
    rw [bls?_some h1]; rfl
  | .non :: _, _, h => by simp [bls?] at h
  | .int _ :: _, _, h => by simp [bls?] at h
  | .str _ :: _, _, h => by simp [bls?] at h
  | .lst _ :: _, _, h => by simp [bls?] at h
  | .tup _ :: _, _, h => by simp [bls?] at h
  | .scr _ :: _, _, h => by simp [bls?] at h
  | .obj _ _ :: _, _, h => by simp [bls?] at h
def dInts : D → Option (List Int)
  | .lst xs => ints? xs
  | .scr ns => some ns
  | _ => none
theorem RepB.ints {K mg G H v d ns} (gh : Same G H) (r : RepB K mg G H v d) (e : dInts d = some ns) : ∃ p, v = .ref p ∧ SqL K H p (ns.map V.int) := by
  unfold dInts at e
  split at e
  · obtain ⟨p, vs, rfl, h, r⟩ := r.lst gh
    rw [ints?_some e] at r
    rw [r.ints] at h
    exact ⟨p, rfl, SqL.of h⟩
  · cases e
    exact r.scr gh
  · cases e
def maxI : List Int → Int
  | [] => 0
  | [x] => x
  | x :: r => if maxI r > x then maxI r else x
def minI : List Int → Int
  | [] => 0
  | [x] => x
  | x :: r => if minI r < x then minI r else x
theorem maxI_spec : ∀ ns : List Int, 0 < ns.length → maxI ns ∈ ns ∧ ∀ y ∈ ns, y ≤ maxI ns
  | [], h => by simp at h
  | [x], _ => by simp [maxI]
  | x :: y :: r, _ => by
    obtain ⟨h1, h2⟩ := maxI_spec (y :: r) (by simp)
    simp only [maxI]
    by_cases h : maxI (y :: r) > x
    · rw [if_pos h]
      exact ⟨List.mem_cons_of_mem _ h1, fun z hz => by
        rcases List.mem_cons.mp hz with rfl | hz
        · omega
        · exact h2 z hz⟩
    · rw [if_neg h]
      exact ⟨by simp, fun z hz => by
        rcases List.mem_cons.mp hz with rfl | hz
        · omega
        · have := h2 z hz; omega⟩
theorem minI_spec : ∀ ns : List Int, 0 < ns.length → minI ns ∈ ns ∧ ∀ y ∈ ns, minI ns ≤ y
  | [], h => by simp at h
  | [x], _ => by simp [minI]
  | x :: y :: r, _ => by
    obtain ⟨h1, h2⟩ := minI_spec (y :: r) (by simp)
    simp only [minI]
    by_cases h : minI (y :: r) < x
    · rw [if_pos h]
      exact ⟨List.mem_cons_of_mem _ h1, fun z hz => by
        rcases List.mem_cons.mp hz with rfl | hz
        · omega
        · exact h2 z hz⟩
    · rw [if_neg h]
      exact ⟨by simp, fun z hz => by
        rcases List.mem_cons.mp hz with rfl | hz
        · omega
        · have := h2 z hz; omega⟩
def dMax (d : D) : Option D := (dInts d).bind fun ns => if ns.isEmpty then none else some (.int (maxI ns))
def dMin (d : D) : Option D := (dInts d).bind fun ns => if ns.isEmpty then none else some (.int (minI ns))
def dSum (d : D) : Option D := (dInts d).bind fun ns => some (.int ns.sum)
theorem cb_max (hc : X.calm = true) : CbB X (.builtin "max") dMax := by
  refine ⟨_, cr_max hc, fun x d v G H Q gh e r k => ?_⟩
  obtain ⟨ns, e1, e⟩ := obind e
  split at e
  · cases e
  · rename_i z
    cases e
    obtain ⟨p, rfl, h⟩ := r.ints gh e1
    have hl : 0 < ns.length := by
      cases ns with
      | nil => simp at z
      | cons => simp
    obtain ⟨m1, m2⟩ := maxI_spec ns hl
    refine ⟨p, ns, rfl, h, hl, fun m hm hle => ?_⟩
    have : m = maxI ns := Int.le_antisymm (m2 m hm) (hle _ m1)
    rw [this]
    exact k G H _ (Ext.refl gh) (.int _)
theorem cb_min (hc : X.calm = true) : CbB X (.builtin "min") dMin := by
  refine ⟨_, cr_min hc, fun x d v G H Q gh e r k => ?_⟩
  obtain ⟨ns, e1, e⟩ := obind e
  split at e
  · cases e
  · rename_i z
    cases e
    obtain ⟨p, rfl, h⟩ := r.ints gh e1
    have hl : 0 < ns.length := by
      cases ns with
      | nil => simp at z
      | cons => simp
    obtain ⟨m1, m2⟩ := minI_spec ns hl
    refine ⟨p, ns, rfl, h, hl, fun m hm hle => ?_⟩
    have : m = minI ns := Int.le_antisymm (hle _ m1) (m2 m hm)
    rw [this]
    exact k G H _ (Ext.refl gh) (.int _)
theorem cb_sum (hc : X.calm = true) : CbB X (.builtin "sum") dSum := by
  refine ⟨_, cr_sum hc, fun x d v G H Q gh e r k => ?_⟩
  obtain ⟨ns, e1, e⟩ := obind e
  cases e
  obtain ⟨p, rfl, h⟩ := r.ints gh e1
  exact ⟨p, ns, rfl, h, k G H _ (Ext.refl gh) (.int _)⟩
def dBls : D → Option (List Bool)
  | .lst xs => bls? xs
  | _ => none
theorem RepB.bls {K mg G H v d ns} (gh : Same G H) (r : RepB K mg G H v d) (e : dBls d = some ns) : ∃ p, v = .ref p ∧ SqL K H p (ns.map V.bl) := by
  unfold dBls at e
  split at e
  · obtain ⟨p, vs, rfl, h, r⟩ := r.lst gh
    rw [bls?_some e] at r
    rw [r.bls] at h
    exact ⟨p, rfl, SqL.of h⟩
  · cases e
def dAll (d : D) : Option D := (dBls d).bind fun ns => some (.bl (ns.all id))
def dAny (d : D) : Option D := (dBls d).bind fun ns => some (.bl (ns.any id))
theorem cb_all (hc : X.calm = true) : CbB X (.builtin "all") dAll := by
  refine ⟨_, cr_all hc, fun x d v G H Q gh e r k => ?_⟩
  obtain ⟨ns, e1, e⟩ := obind e
  cases e
  obtain ⟨p, rfl, h⟩ := r.bls gh e1
  exact ⟨p, ns, rfl, h, k G H _ (Ext.refl gh) (.bl _)⟩
theorem cb_any (hc : X.calm = true) : CbB X (.builtin "any") dAny := by
  refine ⟨_, cr_any hc, fun x d v G H Q gh e r k => ?_⟩
  obtain ⟨ns, e1, e⟩ := obind e
  cases e
  obtain ⟨p, rfl, h⟩ := r.bls gh e1
  exact ⟨p, ns, rfl, h, k G H _ (Ext.refl gh) (.bl _)⟩
/-! a new list of a call: list(x), sorted(x) -/
def CbL (X : Cx) (v : Value) (o : D → Option (List D)) : Prop :=
  ∃ r, CallR X v r ∧ ∀ x ds v G H Q, Same G H → o x = some ds → RepB X.K X.mg G H v x → (∀ p vs, H p = none → RepL X.K X.mg G vs ds → Q (.ref p) (upd H p (.lst vs))) → r [v] H Q
def gUL (o : D → Option (List D)) (f : Ex) : Ag := fun Γ => (f Γ).bind o
theorem el_cb {id : String} {x : Str} {p : Pos} {q : D → Option (List D)} (hc : CbL X (.builtin id) q) (hg : Gl X x) (hm : X.mg x = none) (hv : bootBuiltins x = some (.builtin id)) (ha : B X a f) (hn : x ≠ "__name__" := by decide) (hdb : (x == ("__debug__" : Str)) = false := by decide)
    (he : starEach [a] X.env = (false, eval a X.env) :: starEach [] X.env := by rfl) (hpl : (backTo pos (starEach [] X.env)).any (·.1) = false := by rfl) : EL X (.Call (.Name x p) [a] [] pos) (gUL q f) := by
  obtain ⟨r, c1, c2⟩ := hc
  obtain ⟨t, h1, h2⟩ := ha.ex
  refine ⟨⟨_, pe_callB c1 hg hm hv (pa_cons h1 pa_nil he) hn hdb he hpl, fun G0 H0 Z Γ σ G H Q d R hf k => ?_⟩⟩
  obtain ⟨y, e1, hf⟩ := obind hf
  refine h2 G0 H0 Z Γ σ G H _ y R e1 fun G1 H1 v x1 r1 => ?_
  exact c2 y d v G1 H1 Q x1.gh hf r1 fun p vs hp r2 => k G1 _ p vs (x1.trans (Ext.own1 x1.gh hp)) (x1.hf hp) (x1.gh.free hp) upd_same r2
theorem el_cty {id : String} {x : Str} {p : Pos} {q : D → Option (List D)} (hc : CbL X (.type id) q) (hg : Gl X x) (hm : X.mg x = none) (hv : bootBuiltins x = some (.type id)) (ha : B X a f) (hn : x ≠ "__name__" := by decide) (hdb : (x == ("__debug__" : Str)) = false := by decide)
    (he : starEach [a] X.env = (false, eval a X.env) :: starEach [] X.env := by rfl) (hpl : (backTo pos (starEach [] X.env)).any (·.1) = false := by rfl) : EL X (.Call (.Name x p) [a] [] pos) (gUL q f) := by
  obtain ⟨r, c1, c2⟩ := hc
  obtain ⟨t, h1, h2⟩ := ha.ex
  refine ⟨⟨_, pe_callTy c1 hg hm hv (pa_cons h1 pa_nil he) hn hdb he hpl, fun G0 H0 Z Γ σ G H Q d R hf k => ?_⟩⟩
  obtain ⟨y, e1, hf⟩ := obind hf
  refine h2 G0 H0 Z Γ σ G H _ y R e1 fun G1 H1 v x1 r1 => ?_
  exact c2 y d v G1 H1 Q x1.gh hf r1 fun p vs hp r2 => k G1 _ p vs (x1.trans (Ext.own1 x1.gh hp)) (x1.hf hp) (x1.gh.free hp) upd_same r2
def dList : D → Option (List D)
  | .lst xs => some xs
  | .tup xs => some xs
  | .scr ns => some (ns.map D.int)
  | _ => none
theorem cb_list : CbL X (.type "list") dList := by
  refine ⟨_, call_list_of, fun x d v G H Q gh e r k => ?_⟩
  unfold dList at e
  split at e
  · cases e
    obtain ⟨p, vs, rfl, h, r⟩ := r.lst gh
    exact ⟨p, vs, rfl, .inl (SqL.of h), fun l hl => k l vs hl r⟩
  · cases e
    obtain ⟨p, vs, rfl, h, r⟩ := r.tup gh
    exact ⟨p, vs, rfl, .inr (SqT.of h), fun l hl => k l vs hl r⟩
  · cases e
    obtain ⟨p, rfl, h⟩ := r.scr gh
    exact ⟨p, _, rfl, .inl h, fun l hl => k l _ hl .ofInts⟩
  · cases e
/-- the one ascending arrangement -/
def srt (ns : List Int) : List Int := ns.mergeSort (fun a b => decide (a ≤ b))
theorem srt_perm (ns : List Int) : (srt ns).Perm ns := List.mergeSort_perm ns _
theorem srt_le (ns : List Int) : (srt ns).Pairwise (· ≤ ·) := by
  have h := List.pairwise_mergeSort (le := fun a b : Int => decide (a ≤ b)) (fun a b c h1 h2 => by simp at *; omega) (fun a b => by simp; omega) ns
  exact h.imp fun h => by simpa using h
theorem srt_unique {xs ys : List Int} (h : xs.Perm ys) (hx : xs.Pairwise (· ≤ ·)) (hy : ys.Pairwise (· ≤ ·)) : xs = ys :=
  List.Perm.eq_of_pairwise (fun a b _ _ h1 h2 => Int.le_antisymm h1 h2) hx hy h
def dSorted (d : D) : Option (List D) := (dInts d).bind fun ns => some ((srt ns).map D.int)
theorem cb_sorted : CbL X (.builtin "sorted") dSorted := by
  refine ⟨_, cr_sortedI, fun x d v G H Q gh e r k => ?_⟩
  obtain ⟨ns, e1, e⟩ := obind e
  cases e
  obtain ⟨p, rfl, h⟩ := r.ints gh e1
  refine ⟨p, ns, rfl, h, fun ns' q hp ho hq => ?_⟩
  have e2 : ns' = srt ns := srt_unique (hp.trans (srt_perm ns).symm) ho (srt_le ns)
  subst e2
  exact k q _ hq .ofInts
/-! two arguments -/
def CbA (X : Cx) (v : Value) (o : List D → Option D) : Prop :=
  ∃ r, CallR X v r ∧ ∀ xs d vs G H Q, Same G H → o xs = some d → RepL X.K X.mg G vs xs → (∀ G' H' u, Ext G H G' H' → Rep X.K X.mg G' u d → Q u H') → r vs H Q
def gA (o : List D → Option D) (fs : Ag) : Ex := fun Γ => (fs Γ).bind o
theorem e_cba {id : String} {x : Str} {p : Pos} {q : List D → Option D} (hc : CbA X (.builtin id) q) (hg : Gl X x) (hm : X.mg x = none) (hv : bootBuiltins x = some (.builtin id)) (ha : A X (a :: es) fs) (hn : x ≠ "__name__" := by decide) (hdb : (x == ("__debug__" : Str)) = false := by decide)
    (he : starEach (a :: es) X.env = (false, eval a X.env) :: starEach es X.env := by rfl) (hpl : (backTo pos (starEach es X.env)).any (·.1) = false := by rfl) : E X (.Call (.Name x p) (a :: es) [] pos) (gA q fs) := by
  obtain ⟨r, c1, c2⟩ := hc
  obtain ⟨t, h1, h2⟩ := ha.ex
  refine ⟨⟨_, pe_callB c1 hg hm hv h1 hn hdb he hpl, fun G0 H0 Z Γ σ G H Q d R hf k => ?_⟩⟩
  obtain ⟨y, e1, hf⟩ := obind hf
  refine h2 G0 H0 Z Γ σ G H _ y R e1 fun G1 H1 v x1 r1 => ?_
  exact c2 y d v G1 H1 Q x1.gh hf r1 fun G2 H2 u x2 r2 => k G2 H2 u (x1.trans x2) r2
/-- a module's name for a built-in -/
theorem e_cbf {id : String} {x : Str} {p : Pos} {q : List D → Option D} (hc : CbA X (.builtin id) q) (hg : Gl X x) (hm : X.mg x = some (.builtin id)) (ha : A X (a :: es) fs) (hdb : (x == ("__debug__" : Str)) = false := by decide)
    (he : starEach (a :: es) X.env = (false, eval a X.env) :: starEach es X.env := by rfl) (hpl : (backTo pos (starEach es X.env)).any (·.1) = false := by rfl) : E X (.Call (.Name x p) (a :: es) [] pos) (gA q fs) := by
  obtain ⟨r, c1, c2⟩ := hc
  obtain ⟨t, h1, h2⟩ := ha.ex
  refine ⟨⟨_, pe_callBfun c1 hg hm h1 hdb he hpl, fun G0 H0 Z Γ σ G H Q d R hf k => ?_⟩⟩
  obtain ⟨y, e1, hf⟩ := obind hf
  refine h2 G0 H0 Z Γ σ G H _ y R e1 fun G1 H1 v x1 r1 => ?_
  exact c2 y d v G1 H1 Q x1.gh hf r1 fun G2 H2 u x2 r2 => k G2 H2 u (x1.trans x2) r2
def dGcd : List D → Option D
  | [.int a, .int b] => some (.int ((Nat.gcd a.natAbs b.natAbs : Nat) : Int))
  | _ => none
theorem cb_gcd : CbA X (.builtin "math.gcd") dGcd := by
  refine ⟨_, cr_gcd, fun x d v G H Q gh e r k => ?_⟩
  unfold dGcd at e
  split at e
  · cases e
    cases r with
    | cons h1 r => cases h1; cases r with
      | cons h2 r => cases h2; cases r; exact ⟨_, _, rfl, k G H _ (Ext.refl gh) (.int _)⟩
  · cases e
def dMax2 : List D → Option D
  | [.int a, .int b] => some (.int (if b > a then b else a))
  | _ => none
theorem cb_max2 (hc : X.calm = true) : CbA X (.builtin "max") dMax2 := by
  refine ⟨_, call_max2 hc, fun x d v G H Q gh e r k => ?_⟩
  unfold dMax2 at e
  split at e
  · cases e
    cases r with
    | cons h1 r => cases h1; cases r with
      | cons h2 r => cases h2; cases r; exact ⟨_, _, rfl, k G H _ (Ext.refl gh) (.int _)⟩
  · cases e
def dMin2 : List D → Option D
  | [.int a, .int b] => some (.int (if b < a then b else a))
  | _ => none
theorem cb_min2 (hc : X.calm = true) : CbA X (.builtin "min") dMin2 := by
  refine ⟨_, call_min2 hc, fun x d v G H Q gh e r k => ?_⟩
  unfold dMin2 at e
  split at e
  · cases e
    cases r with
    | cons h1 r => cases h1; cases r with
      | cons h2 r => cases h2; cases r; exact ⟨_, _, rfl, k G H _ (Ext.refl gh) (.int _)⟩
  · cases e
/-! isinstance(x, T) -/
def dTy : D → String
  | .non => "NoneType" | .bl _ => "bool" | .int _ => "int" | .str _ => "str" | .lst _ => "list" | .tup _ => "tuple" | .scr _ => "list" | .obj _ _ => "?" | .fn _ _ _ _ _ => "?" | .dic _ _ => "?"
def dIsi (T : String) (d : D) : Option D := match d with
  | .obj _ _ => none
  | .scr _ => none
  | .fn _ _ _ _ _ => none
  | .dic _ _ => none
  | d => (kitB (dTy d) T).map D.bl
theorem e_isi {T : String} {x y : Str} {p p2 : Pos} (hg : Gl X x) (hm : X.mg x = none) (hv : bootBuiltins x = some (.builtin "isinstance")) (hgy : Gl X y) (hmy : X.mg y = none) (hvy : bootBuiltins y = some (.type T)) (ha : B X a f)
    (hn : x ≠ "__name__" := by decide) (hdb : (x == ("__debug__" : Str)) = false := by decide) (hny : y ≠ "__name__" := by decide) (hdby : (y == ("__debug__" : Str)) = false := by decide)
    (he : starEach [a, .Name y p2] X.env = (false, eval a X.env) :: starEach [.Name y p2] X.env := by rfl) (hpl : (backTo pos (starEach [.Name y p2] X.env)).any (·.1) = false := by rfl) (he2 : starEach [.Name y p2] X.env = (false, eval (.Name y p2) X.env) :: starEach [] X.env := by rfl) :
    E X (.Call (.Name x p) [a, .Name y p2] [] pos) (gU (dIsi T) f) := by
  obtain ⟨t, h1, h2⟩ := ha.ex
  refine ⟨⟨_, pe_callB call_isi hg hm hv (pa_cons h1 (pa_cons (pe_bltn (v := .ty T) hgy hmy hvy rfl hny hdby) pa_nil he2) he) hn hdb he hpl, fun G0 H0 Z Γ σ G H Q d R hf k => ?_⟩⟩
  obtain ⟨y, e1, hf⟩ := obind hf
  refine h2 G0 H0 Z Γ σ G H _ y R e1 fun G1 H1 v x1 r1 => ?_
  have fin : ∀ {b : Bool}, d = .bl b → Q (.bl b) H1 := fun e => by subst e; exact k G1 H1 _ x1 (.bl _)
  have go : ∀ (tn : String), TyOf X.K H1 v (.type tn) → (kitB tn T).map D.bl = some d → rIsi X.K [v, .ty T] H1 Q := fun tn ty e => by
    cases q : kitB tn T with
    | none => rw [q] at e; cases e
    | some b =>
      rw [q] at e
      exact ⟨v, .ty T, .type tn, .type T, b, rfl, .ty T, .base ty, kit_ty q, fin (Option.some.inj e).symm⟩
  cases y with
  | non => have := r1.flat (by simp); cases this; exact go _ .non hf
  | bl b => have z := (r1.flat (by simp)).blv; subst z; exact go _ (.bl _) hf
  | int b => have z := (r1.flat (by simp)).intv; subst z; exact go _ (.int _) hf
  | str b => have z := (r1.flat (by simp)).strv; subst z; exact go _ (.str _) hf
  | lst xs => obtain ⟨p, vs, rfl, h, r⟩ := r1.lst x1.gh; exact go _ (.lst h) hf
  | tup xs => obtain ⟨p, vs, rfl, h, r⟩ := r1.tup x1.gh; exact go _ (.tup h) hf
  | scr ns => cases hf
  | obj c ds => cases hf
  | fn a c q vs ds => cases hf
  | dic ks xs => cases hf
/-! -x -/
def dNeg : D → Option D
  | .int i => some (.int (-i))
  | _ => none
theorem e_neg (ha : E X a f) : E X (.UnaryOp .USub a pos) (gU dNeg f) := by
  obtain ⟨t, h1, h2⟩ := ha.ex
  refine ⟨⟨_, pe_un un_neg h1, fun G0 H0 Z Γ σ G H Q d R hf k => ?_⟩⟩
  obtain ⟨y, e1, hf⟩ := obind hf
  unfold dNeg at hf
  split at hf
  · cases hf
    refine h2 G0 H0 Z Γ σ G H _ _ R e1 fun G1 H1 v x1 r1 => ?_
    rw [r1.intv]
    exact ⟨_, rfl, k G1 H1 _ x1 (.int _)⟩
  · cases hf
/-! fields -/
def dFld (c j : Nat) : D → Option D
  | .obj c' vs => if c' = c then vs[j]? else none
  | _ => none
theorem e_fld {c j : Nat} {C : Addr} {x : Str} (ck : CK X.K X.mg c C) (he : E X o f) (hj : (cF c)[j]? = some x := by rfl) (nd : (cF c).Nodup := by decide +kernel) (hb : attributeBase o x X.env (eval o X.env) = eval o X.env := by rfl) : E X (.Attribute o x pos) (gU (dFld c j) f) := by
  obtain ⟨t, h1, h2⟩ := he.ex
  refine ⟨⟨_, pe_fld h1 hb, fun G0 H0 Z Γ σ G H Q d R hf k => ?_⟩⟩
  obtain ⟨y, e1, hv⟩ := obind hf
  cases y with
  | obj c' vs =>
    replace hv : (if c' = c then vs[j]? else none) = some d := hv
    split at hv
    · rename_i cz
      subst cz
      refine h2 G0 H0 Z Γ σ G H _ _ R e1 fun G1 H1 v x1 r1 => ?_
      cases r1 with
      | obj hm h r =>
        rw [ck.hm] at hm
        cases hm
        obtain ⟨w, g1, g2⟩ := r.get j hv
        exact ⟨_, _, _, _, w, rfl, x1.gh _ _ h, ck.cl, ck.na x (List.mem_of_getElem? hj), zip_lookup nd hj g1, k G1 H1 w x1 g2⟩
    · cases hv
  | _ => cases hv

/-! ### defs -/
/-- the promise of a def that changes nothing: its value by data -/
def spD (K : PySem.W.Frag) (mg : Str → Option Value) (n : Nat) (F : List D → Option D) : Sp := fun vs H Q _ =>
  ∃ G ds d, vs.length = n ∧ Same G H ∧ TC.ti.t G H ∧ RepL K mg G vs ds ∧ F ds = some d ∧ ∀ G' H' v, Ext G H G' H' → Rep K mg G' v d → Q v H'
def gCall (F : List D → Option D) (fs : Ag) : Ex := fun Γ => (fs Γ).bind F
theorem e_call {k : Nat} {fa : Addr} {fd : FuncData} {ps : List Str} {F : List D → Option D} {x : Str} {p : Pos} (FO : FnOk X.prog X.w X.K X.mg X.base CX0 k fa fd ps (spD X.K X.mg n F)) (hr : Room k X.A) (hm : X.mg x = some (.ref fa)) (hk : PySem.W.keepIn X.K (.ref fa) = true) (hb : Binds X.K fd ps [])
    (ha : AN X (a :: es) n fs) (hg : Gl X x := by rfl) (hdb : (x == ("__debug__" : Str)) = false := by decide) (he : starEach (a :: es) X.env = (false, eval a X.env) :: starEach es X.env := by rfl) (hpl : (backTo pos (starEach es X.env)).any (·.1) = false := by rfl) :
    E X (.Call (.Name x p) (a :: es) [] pos) (gCall F fs) := by
  obtain ⟨t, h1, h2⟩ := ha.a.ex
  refine ⟨⟨_, pe_call FO hr hg hm hk hb .nil pass0 h1 hdb he hpl, fun G0 H0 Z Γ σ G H Q d R hf k => ?_⟩⟩
  obtain ⟨ds, e1, hf⟩ := obind hf
  refine h2 G0 H0 Z Γ σ G H _ _ R e1 fun G1 H1 vs x1 r1 => ?_
  refine ⟨G1, ds, d, ?_, x1.gh, (R.ext x1).tbc, ?_, hf, fun G' H' v x2 r2 => k G' H' v (x1.trans x2) r2⟩
  · rw [List.append_nil, r1.length, ha.n Γ ds e1]
  · rw [List.append_nil]; exact r1
theorem e_call0 {k : Nat} {fa : Addr} {fd : FuncData} {ps : List Str} {F : List D → Option D} {x : Str} {p : Pos} (FO : FnOk X.prog X.w X.K X.mg X.base CX0 k fa fd ps (spD X.K X.mg 0 F)) (hr : Room k X.A) (hm : X.mg x = some (.ref fa)) (hk : PySem.W.keepIn X.K (.ref fa) = true) (hb : Binds X.K fd ps [])
    (hg : Gl X x := by rfl) (hdb : (x == ("__debug__" : Str)) = false := by decide) : E X (.Call (.Name x p) [] [] pos) (gCall F aN) := by
  refine ⟨⟨_, pe_call0 FO hr hg hm hk hb .nil pass0 hdb, fun G0 H0 Z Γ σ G H Q d R hf k => ?_⟩⟩
  obtain ⟨ds, e1, hf⟩ := obind hf
  cases e1
  exact ⟨G, [], d, rfl, R.gh, R.tbc, .nil, hf, fun G' H' v x2 r2 => k G' H' v x2 r2⟩
/-- o.m(..) of an object that does not change -/
def gMeth (c : Nat) (F : List D → Option D) (f : Ex) (fs : Ag) : Ex := fun Γ => (f Γ).bind fun d => match d with
  | .obj c' vs => if c' = c then (fs Γ).bind fun ds => F (.obj c' vs :: ds) else none
  | _ => none
theorem e_meth {pl : Sem Bool} {c k : Nat} {C fa : Addr} {fd : FuncData} {ps : List Str} {F : List D → Option D} {m : Str} {apos : Pos} (ck : CK X.K X.mg c C) (hme : Meth X.K C m fa) (FO : FnOk X.prog X.w X.K X.mg X.base CX0 k fa fd ps (spD X.K X.mg (n + 1) F)) (hr : Room k X.A) (hb : Binds X.K fd ps [])
    (ho : E X o f) (ha : AN X (a :: es) n fs) (hno : m ∉ cF c := by decide +kernel)
    (hst : starEach (a :: es) X.env = (false, eval a X.env) :: starEach es X.env := by rfl) (hpl : (backTo pos (starEach es X.env)).any (·.1) = false := by rfl)
    (ht : eval (.Call (.Attribute o m apos) (a :: es) [] pos) X.env = (do
      let ov ← eval o X.env
      standAt apos.atName
      let (f, first) ← holding [ov] (getMethod ov m pl)
      callWith pos f first (backTo pos (starEach (a :: es) X.env)) (backToKw pos (keywordEach [] X.env))) := by rfl) : E X (.Call (.Attribute o m apos) (a :: es) [] pos) (gMeth c F f fs) := by
  obtain ⟨t, h1, h2⟩ := ha.a.ex
  obtain ⟨u, q1, q2⟩ := ho.ex
  refine ⟨⟨_, pe_meth q1 ck.cl hme FO hr hb .nil pass0 h1 hst hpl ht, fun G0 H0 Z Γ σ G H Q d R hf k => ?_⟩⟩
  obtain ⟨y, e1, hv⟩ := obind hf
  cases y with
  | obj c' vs' =>
    replace hv : (if c' = c then (fs Γ).bind fun ds => F (.obj c' vs' :: ds) else none) = some d := hv
    split at hv
    · rename_i cz
      subst cz
      obtain ⟨ds, e2, hv⟩ := obind hv
      refine q2 G0 H0 Z Γ σ G H _ _ R e1 fun G1 H1 v x1 r1 => ?_
      cases r1 with
      | obj hm h r =>
        have hm' := hm
        rw [ck.hm] at hm'
        cases hm'
        refine ⟨_, _, _, rfl, x1.gh _ _ h, zip_lookup_none hno, ?_⟩
        refine h2 G0 H0 Z Γ σ G1 H1 _ _ (R.ext x1) e2 fun G2 H2 vs x2 r2 => ?_
        refine ⟨G2, _, d, ?_, x2.gh, ((R.ext x1).ext x2).tbc, .cons (.obj hm (x2.gg _ _ h) (r.mono x2.gg)) (by rw [List.append_nil]; exact r2), hv, fun G' H' v x3 r3 => k G' H' v ((x1.trans x2).trans x3) r3⟩
        rw [List.append_nil, List.length_cons, r2.length, ha.n Γ ds e2]
    · cases hv
  | _ => cases hv
theorem e_meth0 {pl : Sem Bool} {c k : Nat} {C fa : Addr} {fd : FuncData} {ps : List Str} {F : List D → Option D} {m : Str} {apos : Pos} (ck : CK X.K X.mg c C) (hme : Meth X.K C m fa) (FO : FnOk X.prog X.w X.K X.mg X.base CX0 k fa fd ps (spD X.K X.mg 1 F)) (hr : Room k X.A) (hb : Binds X.K fd ps [])
    (ho : E X o f) (hno : m ∉ cF c := by decide +kernel)
    (ht : eval (.Call (.Attribute o m apos) [] [] pos) X.env = (do
      let ov ← eval o X.env
      standAt apos.atName
      let (f, first) ← holding [ov] (getMethod ov m pl)
      callWith pos f first (backTo pos (starEach [] X.env)) (backToKw pos (keywordEach [] X.env))) := by rfl) : E X (.Call (.Attribute o m apos) [] [] pos) (gMeth c F f aN) := by
  obtain ⟨u, q1, q2⟩ := ho.ex
  refine ⟨⟨_, pe_meth0 q1 ck.cl hme FO hr hb .nil pass0 ht, fun G0 H0 Z Γ σ G H Q d R hf k => ?_⟩⟩
  obtain ⟨y, e1, hv⟩ := obind hf
  cases y with
  | obj c' vs' =>
    replace hv : (if c' = c then (aN Γ).bind fun ds => F (.obj c' vs' :: ds) else none) = some d := hv
    split at hv
    · rename_i cz
      subst cz
      obtain ⟨ds, e2, hv⟩ := obind hv
      cases e2
      refine q2 G0 H0 Z Γ σ G H _ _ R e1 fun G1 H1 v x1 r1 => ?_
      cases r1 with
      | obj hm h r =>
        have hm' := hm
        rw [ck.hm] at hm'
        cases hm'
        refine ⟨_, _, _, rfl, x1.gh _ _ h, zip_lookup_none hno, ?_⟩
        exact ⟨G1, _, d, rfl, x1.gh, (R.ext x1).tbc, .cons (.obj hm h r) .nil, hv, fun G' H' v x3 r3 => k G' H' v (x1.trans x3) r3⟩
    · cases hv
  | _ => cases hv
end
end DL

namespace DL
open PySem L2
variable [TC : TabCtx]

/-! ### targets -/
theorem wipe_set {σ : L2.St} {i : Nat} {x : Option V} : ∀ (vs : List Nat), L2.wipe (σ.set i x) vs = if i ∈ vs then L2.wipe σ vs else (L2.wipe σ vs).set i x
  | [] => by simp [L2.wipe]
  | v :: vs => by
    simp only [L2.wipe]
    rw [wipe_set vs]
    by_cases h1 : i ∈ vs
    · rw [if_pos h1, if_pos (List.mem_cons_of_mem _ h1)]
    · rw [if_neg h1]
      by_cases h2 : i = v
      · subst h2
        rw [if_pos List.mem_cons_self, List.set_set]
      · rw [if_neg (by simp [h1, h2]), List.set_comm _ _ h2]
theorem wipe_in {σ : L2.St} {i : Nat} {x : Option V} {vs : List Nat} (h : i ∈ vs) : L2.wipe (σ.set i x) vs = L2.wipe σ vs := by rw [wipe_set, if_pos h]
theorem wipe_sub {σ : L2.St} {vs : List Nat} : ∀ us : List Nat, (∀ i ∈ us, i ∈ vs) → L2.wipe (L2.wipe σ us) vs = L2.wipe σ vs
  | [], _ => rfl
  | u :: us, h => by
    show L2.wipe ((L2.wipe σ us).set u none) vs = _
    rw [wipe_in (h u List.mem_cons_self)]
    exact wipe_sub us fun i hi => h i (List.mem_cons_of_mem _ hi)
abbrev Gs := D → DEnv → Option DEnv
abbrev Gss := List D → DEnv → Option DEnv
structure G (X : Cx) (tg : Expr) (ix : List Nat) (g : Gs) : Prop where
  ex : ∃ t, PG X tg t ∧ ∀ G0 H0 Z Γ σ G H Q d v Γ', Rel X.K X.mg G0 H0 Z Γ σ G H → Rep X.K X.mg G v d → g d Γ = some Γ' → (∀ σ', Rel X.K X.mg G0 H0 Z Γ' σ' G H → (∀ vs, (∀ i ∈ ix, i ∈ vs) → L2.wipe σ' vs = L2.wipe σ vs) → Q σ' H) → t v σ H Q
structure GL (X : Cx) (tgs : List Expr) (ix : List Nat) (g : Gss) : Prop where
  ex : ∃ t, PGs X tgs t ∧ ∀ G0 H0 Z Γ σ G H Q ds vs Γ', Rel X.K X.mg G0 H0 Z Γ σ G H → RepL X.K X.mg G vs ds → g ds Γ = some Γ' → (∀ σ', Rel X.K X.mg G0 H0 Z Γ' σ' G H → (∀ us, (∀ i ∈ ix, i ∈ us) → L2.wipe σ' us = L2.wipe σ us) → Q σ' H) → t vs σ H Q
def gN (i : Nat) : Gs := fun d Γ => some (Γ.set i (.sh d))
def gEnd : Gss := fun ds Γ => match ds with | [] => some Γ | _ => none
def gTo (g : Gs) (r : Gss) : Gss := fun ds Γ => match ds with | [] => none | d :: ds => (g d Γ).bind fun Γ1 => r ds Γ1
def gTg (n : Nat) (r : Gss) : Gs := fun d Γ => match d with | .tup ds => if ds.length = n then r ds Γ else none | _ => none
section
variable {X : Cx} {e a b o tg : Expr} {es : List Expr} {f : Ex} {fs : Ag} {pos pos' : Pos} {n : Nat} {ix jx : List Nat} {g : Gs} {gs : Gss}
theorem g_name (i : Nat) {x : Str} (hN : X.N.Nodup) (hi : X.N[i]? = some x := by rfl) (hx : Loc X.env.scope x := by first | exact Or.inl rfl | exact Or.inr rfl) (hf : X.fn x = true ∨ X.env.scope.names.lookup x = some .local := by first | exact .inl rfl | exact .inr rfl | assumption) : G X (.Name x pos) [i] (gN i) := by
  refine ⟨⟨_, pg_name hN hi hx hf, fun G0 H0 Z Γ σ G H Q d v Γ' R r hf k => ?_⟩⟩
  cases hf
  exact k _ (R.set i r) fun vs h => wipe_in (h i List.mem_cons_self)
theorem gl_nil : GL X [] [] gEnd := by
  refine ⟨⟨_, pgs_nil, fun G0 H0 Z Γ σ G H Q ds vs Γ' R r hf k => ?_⟩⟩
  cases r with
  | nil => cases hf; exact ⟨rfl, k σ R fun _ _ => rfl⟩
  | cons _ _ => cases hf
theorem gl_cons (h : G X e ix g) (hr : GL X es jx gs) (hs : (assignEach (e :: es) X.env).map (·.2) = assign e X.env :: (assignEach es X.env).map (·.2) := by rfl) : GL X (e :: es) (ix ++ jx) (gTo g gs) := by
  obtain ⟨t, h1, h2⟩ := h.ex
  obtain ⟨u, q1, q2⟩ := hr.ex
  refine ⟨⟨_, pgs_cons h1 q1 hs, fun G0 H0 Z Γ σ G H Q ds vs Γ' R r hf k => ?_⟩⟩
  cases r with
  | nil => cases hf
  | cons r1 r2 =>
    obtain ⟨Γ1, e1, hf⟩ := obind hf
    refine ⟨_, _, rfl, ?_⟩
    refine h2 G0 H0 Z Γ σ G H _ _ _ Γ1 R r1 e1 fun σ1 R1 w1 => ?_
    exact q2 G0 H0 Z Γ1 σ1 G H _ _ _ Γ' R1 r2 hf fun σ2 R2 w2 => k σ2 R2 fun us hu => (w2 us fun i hi => hu i (List.mem_append_right _ hi)).trans (w1 us fun i hi => hu i (List.mem_append_left _ hi))
theorem g_tup {k : Nat} (hc : X.calm = true) (h : GL X es ix gs) (hn : (assignEach es X.env).length = n := by rfl) (hst : (assignEach es X.env).findIdx? (·.1) = none := by rfl) : G X (.Tuple es k pos) ix (gTg n gs) := by
  obtain ⟨t, h1, h2⟩ := h.ex
  refine ⟨⟨_, pg_tup hc h1 hn hst, fun G0 H0 Z Γ σ G H Q d v Γ' R r hf k => ?_⟩⟩
  cases d with
  | tup ds =>
    replace hf : (if ds.length = n then gs ds Γ else none) = some Γ' := hf
    split at hf
    · rename_i hl
      cases r with
      | tup h r => exact ⟨_, _, rfl, SqT.of (R.gh _ _ h), by rw [r.length, hl], h2 G0 H0 Z Γ σ G H Q ds _ Γ' R r hf k⟩
    · cases hf
  | _ => cases hf
end

/-! ### what is walked -/
def Itm (K : PySem.W.Frag) (mg : Str → Option Value) (J : It) (G : Hp) (items : List D) : Prop :=
  ∀ i G1 H1, Same G G1 → Same G1 H1 → (items.length ≤ i → J.stop i H1) ∧ ∀ d, items[i]? = some d → J.go i H1 ∧ ∀ x H2, J.yld i H1 x H2 → ∃ G2, Ext G1 H1 G2 H2 ∧ Rep K mg G2 x d
structure I (X : Cx) (tg iter : Expr) (f : Ag) : Prop where
  ex : ∃ t, PI X tg iter t ∧ ∀ G0 H0 Z Γ σ G H R ds, Rel X.K X.mg G0 H0 Z Γ σ G H → f Γ = some ds → (∀ G' H' J, Ext G H G' H' → Itm X.K X.mg J G' ds → R J H') → t σ H R
def dItems : D → Option (List D)
  | .lst xs => some xs
  | .scr ns => some (ns.map D.int)
  | _ => none
section
variable {X : Cx} {e a b o tg iter : Expr} {es : List Expr} {f f' : Ex} {fs : Ag} {pos pos' : Pos} {n : Nat} {ix jx : List Nat} {g : Gs} {gs : Gss}
theorem itm_list {K mg} {G : Hp} {p : Addr} {vs : List V} {ds : List D} (h : SqL K G p vs) (r : RepL K mg G vs ds) (inj : ∀ {H1 : Hp} {xs : List V}, Same G H1 → SqL K H1 p xs → True) : Itm K mg (Itl K p) G ds := by
  intro i G1 H1 s1 s2
  have h1 : SqL K H1 p vs := (s1.trans s2).seq h
  refine ⟨fun hi => ⟨vs, h1, by rw [r.length]; exact hi⟩, fun d hd => ?_⟩
  obtain ⟨v, e1, e2⟩ := r.get i hd
  refine ⟨⟨vs, v, h1, e1⟩, fun x H2 y => ?_⟩
  obtain ⟨rfl, y⟩ := y
  have e3 := y vs h1
  rw [e1] at e3
  cases e3
  exact ⟨G1, Ext.refl s2, e2.mono s1⟩
theorem pi_or {w w' : TI} (h : PI X tg iter w) (h' : PI X tg iter w') : PI X tg iter (fun σ H R => w σ H R ∨ w' σ H R) := by
  refine ⟨fun pins s σ H R I q => ?_⟩
  rcases q with q | q
  · exact h.run pins s σ H R I q
  · exact h'.run pins s σ H R I q
theorem itm_tup {K mg} {G : Hp} {p : Addr} {vs : List V} {ds : List D} (h : G p = some (.tup vs)) (r : RepL K mg G vs ds) : Itm K mg (Itt K p) G ds := by
  intro i G2 H2 s1 s2
  have h1 := SqT.of (K := K) (s2 _ _ (s1 _ _ h))
  refine ⟨fun hi => ⟨_, h1, by rw [r.length]; exact hi⟩, fun d hd => ?_⟩
  obtain ⟨v, e1, e2⟩ := r.get i hd
  refine ⟨⟨_, v, h1, e1⟩, fun x H2 y => ?_⟩
  obtain ⟨rfl, y⟩ := y
  have e3 := y _ h1
  rw [e1] at e3
  cases e3
  exact ⟨G2, Ext.refl s2, e2.mono s1⟩
def dWalk : D → Option (List D)
  | .lst xs => some xs
  | .tup xs => some xs
  | .scr ns => some (ns.map D.int)
  | _ => none
def gIt (f : Ex) : Ag := fun Γ => (f Γ).bind dWalk
theorem i_list (h : E X iter f) : I X tg iter (gIt f) := by
  obtain ⟨t, h1, h2⟩ := h.ex
  refine ⟨⟨_, pi_or (pi_list h1) (pi_tup h1), fun G0 H0 Z Γ σ G H R ds Rl hf k => ?_⟩⟩
  obtain ⟨d, e1, hf⟩ := obind hf
  cases d with
  | lst xs =>
    cases hf
    refine .inl (h2 G0 H0 Z Γ σ G H _ _ Rl e1 fun G1 H1 v x1 r1 => ?_)
    cases r1 with
    | lst h r => exact ⟨_, rfl, ⟨_, SqL.of (x1.gh _ _ h)⟩, k G1 H1 _ x1 (itm_list (SqL.of h) r fun _ _ => True.intro)⟩
  | scr ns =>
    cases hf
    refine .inl (h2 G0 H0 Z Γ σ G H _ _ Rl e1 fun G1 H1 v x1 r1 => ?_)
    cases r1 with
    | scr h => exact ⟨_, rfl, ⟨_, x1.gh.seq h⟩, k G1 H1 _ x1 (itm_list h .ofInts fun _ _ => True.intro)⟩
  | tup xs =>
    cases hf
    refine .inr (h2 G0 H0 Z Γ σ G H _ _ Rl e1 fun G1 H1 v x1 r1 => ?_)
    cases r1 with
    | tup h r => exact ⟨_, rfl, ⟨_, SqT.of (x1.gh _ _ h)⟩, k G1 H1 _ x1 (itm_tup h r)⟩
  | _ => cases hf
/-! ranges -/
def rngD (lo : Int) (n : Nat) : List D := (List.range n).map fun i => .int (lo + (i : Nat))
theorem itm_range {K mg} {G : Hp} {lo : Int} {n : Nat} : Itm K mg (Itr lo n) G (rngD lo n) := by
  intro i G1 H1 s1 s2
  refine ⟨fun hi => by show n ≤ i; simpa [rngD] using hi, fun d hd => ?_⟩
  have hi : i < n := by
    have := (List.getElem?_eq_some_iff.mp hd).1
    simpa [rngD] using this
  refine ⟨hi, fun x H2 y => ?_⟩
  obtain ⟨rfl, rfl⟩ := y
  have e : d = .int (lo + (i : Nat)) := by
    simp [rngD, hi] at hd
    exact hd.symm
  subst e
  exact ⟨G1, Ext.refl s2, .int _⟩
def dRng : List D → Option (List D)
  | [.int j] => if -(2 ^ 62) ≤ j ∧ j < 2 ^ 62 then some (rngD 0 j.toNat) else none
  | [.int i, .int j] => if -(2 ^ 62) ≤ i ∧ i < 2 ^ 62 ∧ -(2 ^ 62) ≤ j ∧ j < 2 ^ 62 then some (rngD i (j - i).toNat) else none
  | _ => none
def gRng (fs : Ag) : Ag := fun Γ => (fs Γ).bind dRng
theorem i_rng1 {p : Pos} (hg : Gl X "range") (hm : X.mg "range" = none) (ha : AN X [a] 1 fs) (hs : starEach [a] X.env = [(false, eval a X.env)] := by rfl) : I X tg (.Call (.Name "range" p) [a] [] pos) (gRng fs) := by
  obtain ⟨t, h1, h2⟩ := ha.a.ex
  refine ⟨⟨_, pi_range1 hg hm h1 hs, fun G0 H0 Z Γ σ G H R ds Rl hf k => ?_⟩⟩
  obtain ⟨xs, e1, hf⟩ := obind hf
  have hl := ha.n Γ xs e1
  refine h2 G0 H0 Z Γ σ G H _ _ Rl e1 fun G1 H1 vs x1 r1 => ?_
  match xs, hl, hf, r1 with
  | [.int j], _, hf, .cons r .nil =>
    replace hf : (if -(2 ^ 62) ≤ j ∧ j < 2 ^ 62 then some (rngD 0 j.toNat) else none) = some ds := hf
    split at hf
    · rename_i z
      cases hf
      rw [r.intv]
      exact ⟨j, rfl, z.1, z.2, k G1 H1 _ x1 itm_range⟩
    · cases hf
theorem i_rng2 {p : Pos} (hg : Gl X "range") (hm : X.mg "range" = none) (ha : AN X [a, b] 2 fs) (hs : starEach [a, b] X.env = [(false, eval a X.env), (false, eval b X.env)] := by rfl) (hs2 : starEach [b] X.env = [(false, eval b X.env)] := by rfl) : I X tg (.Call (.Name "range" p) [a, b] [] pos) (gRng fs) := by
  obtain ⟨t, h1, h2⟩ := ha.a.ex
  refine ⟨⟨_, pi_range2 hg hm h1 hs hs2, fun G0 H0 Z Γ σ G H R ds Rl hf k => ?_⟩⟩
  obtain ⟨xs, e1, hf⟩ := obind hf
  have hl := ha.n Γ xs e1
  refine h2 G0 H0 Z Γ σ G H _ _ Rl e1 fun G1 H1 vs x1 r1 => ?_
  match xs, hl, hf, r1 with
  | [.int i, .int j], _, hf, .cons r (.cons q .nil) =>
    replace hf : (if -(2 ^ 62) ≤ i ∧ i < 2 ^ 62 ∧ -(2 ^ 62) ≤ j ∧ j < 2 ^ 62 then some (rngD i (j - i).toNat) else none) = some ds := hf
    split at hf
    · rename_i z
      cases hf
      rw [r.intv, q.intv]
      exact ⟨i, j, rfl, z, k G1 H1 _ x1 itm_range⟩
    · cases hf
/-! reversed(range(..)) -/
def rngR (lo : Int) (n : Nat) : List D := (List.range n).map fun i => .int (lo + (n : Int) - 1 + (i : Nat) * (-1))
def dRngR : List D → Option (List D)
  | [.int j] => if -(2 ^ 62) ≤ j ∧ j < 2 ^ 62 then some (rngR 0 j.toNat) else none
  | [.int i, .int j] => if -(2 ^ 62) ≤ i ∧ i < 2 ^ 62 ∧ -(2 ^ 62) ≤ j ∧ j < 2 ^ 62 then some (rngR i (j - i).toNat) else none
  | _ => none
theorem itm_rangeR {K mg} {G : Hp} {lo : Int} {n : Nat} : Itm K mg (Itc (lo + (n : Int) - 1) (-1) n) G (rngR lo n) := by
  intro i G1 H1 s1 s2
  refine ⟨fun hi => by show n ≤ i; simpa [rngR] using hi, fun d hd => ?_⟩
  have hi : i < n := by
    have := (List.getElem?_eq_some_iff.mp hd).1
    simpa [rngR] using this
  refine ⟨hi, fun x H2 y => ?_⟩
  obtain ⟨rfl, rfl⟩ := y
  have e : d = .int (lo + (n : Int) - 1 + (i : Nat) * (-1)) := by
    simp [rngR, hi] at hd
    rw [← hd]
    congr 1
    omega
  subst e
  exact ⟨G1, Ext.refl s2, .int _⟩
/-! zip, enumerate -/
def zipD : List D → List D → List D
  | x :: xs, y :: ys => .tup [x, y] :: zipD xs ys
  | _, _ => []
theorem zipD_get : ∀ {xs ys : List D} {i : Nat} {d : D}, (zipD xs ys)[i]? = some d → ∃ x y, xs[i]? = some x ∧ ys[i]? = some y ∧ d = .tup [x, y]
  | [], _, _, _, h => by simp [zipD] at h
  | _ :: _, [], _, _, h => by simp [zipD] at h
  | x :: xs, y :: ys, 0, d, h => by simp [zipD] at h; exact ⟨x, y, rfl, rfl, h.symm⟩
  | x :: xs, y :: ys, i + 1, d, h => by
    obtain ⟨x', y', h1, h2, h3⟩ := zipD_get (xs := xs) (ys := ys) (i := i) (d := d) (by simpa [zipD] using h)
    exact ⟨x', y', by simpa using h1, by simpa using h2, h3⟩
theorem zipD_len : ∀ {xs ys : List D}, (zipD xs ys).length = min xs.length ys.length
  | [], _ => by simp [zipD]
  | _ :: _, [] => by simp [zipD]
  | x :: xs, y :: ys => by simp [zipD, zipD_len (xs := xs) (ys := ys)]
def dZip : List D → Option (List D)
  | [x, y] => (dItems x).bind fun xs => (dItems y).bind fun ys => some (zipD xs ys)
  | _ => none
def gZip (fs : Ag) : Ag := fun Γ => (fs Γ).bind dZip
theorem Rep.items {K mg} {G : Hp} {v : V} {d : D} {xs : List D} (r : Rep K mg G v d) (h : dItems d = some xs) : ∃ p vs, v = .ref p ∧ SqL K G p vs ∧ RepL K mg G vs xs := by
  cases d with
  | lst ys => cases h; cases r with | lst h r => exact ⟨_, _, rfl, SqL.of h, r⟩
  | scr ns => cases h; cases r with | scr h => exact ⟨_, _, rfl, h, .ofInts⟩
  | _ => cases h
theorem i_zip {p tpos : Pos} {elts : List Expr} {kk : Nat} (hg : Gl X "zip") (hm : X.mg "zip" = none) (ha : AN X [a, b] 2 fs) (hs : starEach [a, b] X.env = (false, eval a X.env) :: starEach [b] X.env := by rfl) (hpl : (backTo pos (starEach [b] X.env)).any (·.1) = false := by rfl) :
    I X (.Tuple elts kk tpos) (.Call (.Name "zip" p) [a, b] [] pos) (gZip fs) := by
  obtain ⟨t, h1, h2⟩ := ha.a.ex
  refine ⟨⟨_, pi_zip hg hm h1 hs hpl, fun G0 H0 Z Γ σ G H R ds Rl hf k => ?_⟩⟩
  obtain ⟨xs, e1, hf⟩ := obind hf
  have hl := ha.n Γ xs e1
  refine h2 G0 H0 Z Γ σ G H _ _ Rl e1 fun G1 H1 vs x1 r1 => ?_
  match xs, hl, hf, r1 with
  | [x, y], _, hf, .cons r (.cons q .nil) =>
    replace hf : ((dItems x).bind fun xs => (dItems y).bind fun ys => some (zipD xs ys)) = some ds := hf
    obtain ⟨as, a1, hf⟩ := obind hf
    obtain ⟨bs, a2, hf⟩ := obind hf
    cases hf
    obtain ⟨p1, v1, rfl, s1, r1⟩ := r.items a1
    obtain ⟨p2, v2, rfl, s2, r2⟩ := q.items a2
    refine ⟨p1, p2, v1, v2, rfl, x1.gh.seq s1, x1.gh.seq s2, k G1 H1 _ x1 fun i G2 H2 t1 t2 => ?_⟩
    have q1 : SqL X.K H2 p1 v1 := (t1.trans t2).seq s1
    have q2 : SqL X.K H2 p2 v2 := (t1.trans t2).seq s2
    refine ⟨fun hi => ⟨v1, v2, q1, q2, ?_⟩, fun d hd => ?_⟩
    · rw [zipD_len] at hi
      rw [r1.length, r2.length]
      omega
    · obtain ⟨x, y, g1, g2, rfl⟩ := zipD_get hd
      obtain ⟨w1, b1, c1⟩ := r1.get i g1
      obtain ⟨w2, b2, c2⟩ := r2.get i g2
      refine ⟨⟨v1, v2, w1, w2, q1, q2, b1, b2⟩, fun u H3 yl => ?_⟩
      obtain ⟨T, z1, z2, rfl, hT, rfl, f1, f2⟩ := yl
      have z3 := f1 v1 q1
      have z4 := f2 v2 q2
      rw [b1] at z3
      rw [b2] at z4
      cases z3
      cases z4
      have x2 := Ext.new1 (o := .tup [w1, w2]) t2 hT
      exact ⟨_, x2, .tup upd_same (.cons ((c1.mono t1).mono x2.gg) (.cons ((c2.mono t1).mono x2.gg) .nil))⟩
def enumD : Nat → List D → List D
  | _, [] => []
  | i, x :: xs => .tup [.int (i : Nat), x] :: enumD (i + 1) xs
theorem enumD_get : ∀ {xs : List D} {k i : Nat} {d : D}, (enumD k xs)[i]? = some d → ∃ x, xs[i]? = some x ∧ d = .tup [.int ((k + i : Nat) : Int), x]
  | [], _, _, _, h => by simp [enumD] at h
  | x :: xs, k, 0, d, h => by simp [enumD] at h; exact ⟨x, rfl, by rw [← h]; simp⟩
  | x :: xs, k, i + 1, d, h => by
    obtain ⟨x', h1, h2⟩ := enumD_get (xs := xs) (k := k + 1) (i := i) (d := d) (by simpa [enumD] using h)
    exact ⟨x', by simpa using h1, by rw [h2]; congr 3; omega⟩
theorem enumD_len : ∀ {xs : List D} {k : Nat}, (enumD k xs).length = xs.length
  | [], _ => rfl
  | x :: xs, k => by simp [enumD, enumD_len (xs := xs) (k := k + 1)]
def dEnum : List D → Option (List D)
  | [x] => (dItems x).bind fun xs => some (enumD 0 xs)
  | _ => none
def gEnum (fs : Ag) : Ag := fun Γ => (fs Γ).bind dEnum
theorem i_enum {p tpos : Pos} {elts : List Expr} {kk : Nat} (hg : Gl X "enumerate") (hm : X.mg "enumerate" = none) (ha : AN X [a] 1 fs) (hs : starEach [a] X.env = [(false, eval a X.env)] := by rfl) :
    I X (.Tuple elts kk tpos) (.Call (.Name "enumerate" p) [a] [] pos) (gEnum fs) := by
  obtain ⟨t, h1, h2⟩ := ha.a.ex
  refine ⟨⟨_, pi_enum hg hm h1 hs, fun G0 H0 Z Γ σ G H R ds Rl hf k => ?_⟩⟩
  obtain ⟨xs, e1, hf⟩ := obind hf
  have hl := ha.n Γ xs e1
  refine h2 G0 H0 Z Γ σ G H _ _ Rl e1 fun G1 H1 vs x1 r1 => ?_
  match xs, hl, hf, r1 with
  | [x], _, hf, .cons r .nil =>
    replace hf : ((dItems x).bind fun xs => some (enumD 0 xs)) = some ds := hf
    obtain ⟨as, a1, hf⟩ := obind hf
    cases hf
    obtain ⟨p1, v1, rfl, s1, r1⟩ := r.items a1
    refine ⟨p1, v1, rfl, x1.gh.seq s1, k G1 H1 _ x1 fun i G2 H2 t1 t2 => ?_⟩
    have q1 : SqL X.K H2 p1 v1 := (t1.trans t2).seq s1
    refine ⟨fun hi => ⟨v1, q1, ?_⟩, fun d hd => ?_⟩
    · rw [enumD_len] at hi
      rw [r1.length]
      omega
    · obtain ⟨x, g1, rfl⟩ := enumD_get hd
      obtain ⟨w1, b1, c1⟩ := r1.get i g1
      refine ⟨⟨v1, w1, q1, b1⟩, fun u H3 yl => ?_⟩
      obtain ⟨T, z1, rfl, hT, rfl, f1⟩ := yl
      have z3 := f1 v1 q1
      rw [b1] at z3
      cases z3
      have x2 := Ext.new1 (o := .tup [.int (i : Nat), w1]) t2 hT
      refine ⟨_, x2, .tup upd_same (.cons ?_ (.cons ((c1.mono t1).mono x2.gg) .nil))⟩
      rw [Nat.zero_add]
      exact .int _
theorem i_rev1 {p p2 pos2 : Pos} (hg : Gl X "reversed") (hm : X.mg "reversed" = none) (hg2 : Gl X "range") (hm2 : X.mg "range" = none) (ha : E X a f) (na : starEach [a] X.env = (false, eval a X.env) :: starEach [] X.env := by rfl)
    (hs : starEach [.Call (.Name "range" p2) [a] [] pos2] X.env = (false, eval (.Call (.Name "range" p2) [a] [] pos2) X.env) :: starEach [] X.env := by rfl) : I X tg (.Call (.Name "reversed" p) [.Call (.Name "range" p2) [a] [] pos2] [] pos) (fun Γ => (aC f aN Γ).bind dRngR) := by
  obtain ⟨t, h1, h2⟩ := ha.ex
  refine ⟨⟨_, pi_revR hg hm (prg_1 hg2 hm2 h1 na) hs, fun G0 H0 Z Γ σ G H R ds Rl hf k => ?_⟩⟩
  obtain ⟨xs, e1, hf⟩ := obind hf
  obtain ⟨d, e2, e1⟩ := obind e1
  cases e1
  refine h2 G0 H0 Z Γ σ G H _ _ Rl e2 fun G1 H1 v x1 r1 => ?_
  cases d with
  | int j =>
    replace hf : (if -(2 ^ 62) ≤ j ∧ j < 2 ^ 62 then some (rngR 0 j.toNat) else none) = some ds := hf
    split at hf
    · rename_i z
      cases hf
      rw [r1.intv]
      refine ⟨j, rfl, by decide, by decide, z.1, z.2, ?_⟩
      have e : (j - 0).toNat = j.toNat := by congr 1; omega
      rw [e]
      exact k G1 H1 _ x1 itm_rangeR
    · cases hf
  | _ => cases hf

/-! ### comprehensions -/
def tEx (K : PySem.W.Frag) (mg : Str → Option Value) (f : Ex) : TE := fun σ H Q => ∃ G0 H0 Z Γ G d, Rel K mg G0 H0 Z Γ σ G H ∧ f Γ = some d ∧ ∀ G' H' v, Ext G H G' H' → Rep K mg G' v d → Q v H'
def tGx (K : PySem.W.Frag) (mg : Str → Option Value) (ix : List Nat) (g : Gs) : TG := fun v σ H Q => ∃ G0 H0 Z Γ G d Γ', Rel K mg G0 H0 Z Γ σ G H ∧ Rep K mg G v d ∧ g d Γ = some Γ' ∧ ∀ σ', Rel K mg G0 H0 Z Γ' σ' G H → (∀ vs, (∀ i ∈ ix, i ∈ vs) → L2.wipe σ' vs = L2.wipe σ vs) → Q σ' H
def tTx (K : PySem.W.Frag) (mg : Str → Option Value) (f : Te) : TT := fun σ H Q => ∃ G0 H0 Z Γ G d, Rel K mg G0 H0 Z Γ σ G H ∧ f Γ = some d ∧ ∀ G' H', Ext G H G' H' → Q d H'
theorem E.pe (h : E X e f) : PE X e (tEx X.K X.mg f) := by
  obtain ⟨t, h1, h2⟩ := h.ex
  exact ⟨fun pins s σ H Q I ⟨G0, H0, Z, Γ, G, d, R, hf, k⟩ => h1.run pins s σ H Q I (h2 G0 H0 Z Γ σ G H Q d R hf k)⟩
theorem G.pg (h : G X tg ix g) : PG X tg (tGx X.K X.mg ix g) := by
  obtain ⟨t, h1, h2⟩ := h.ex
  exact ⟨fun pins s σ H v u Q I ru ⟨G0, H0, Z, Γ, G, d, Γ', R, r, hf, k⟩ => h1.run pins s σ H v u Q I ru (h2 G0 H0 Z Γ σ G H Q d v Γ' R r hf k)⟩
/-- a comprehension's tests: none or one -/
structure Ts (X : Cx) (ifs : List Expr) (f : Te) : Prop where
  pt : PTs X ifs (tTx X.K X.mg f)
def gYes : Te := fun _ => some true
theorem ts_nil : Ts X [] gYes := ⟨⟨fun pins s σ H Q I ⟨G0, H0, Z, Γ, G, d, R, hf, k⟩ => by
  cases hf
  exact pts_nil.run pins s σ H Q I (k G H (Ext.refl R.gh))⟩⟩
theorem ts_one {p : Te} (h : T X e p) : Ts X [e] p := by
  obtain ⟨t, h1, h2⟩ := h.ex
  exact ⟨⟨fun pins s σ H Q I ⟨G0, H0, Z, Γ, G, d, R, hf, k⟩ => (pts_one h1).run pins s σ H Q I (h2 G0 H0 Z Γ σ G H Q d R hf k)⟩⟩
def compL (g : Gs) (t : Te) (e : Ex) : List D → DEnv → Option (List D)
  | [], _ => some []
  | d :: ds, Γ => (g d Γ).bind fun Γ1 => (t Γ1).bind fun b => if b then (e Γ1).bind fun y => (compL g t e ds Γ).bind fun r => some (y :: r) else compL g t e ds Γ
/-! walks: I over what is known; IB, IC over what is looked at (IB: that stands since the entry) -/
def ItmB (K : PySem.W.Frag) (mg : Str → Option Value) (J : It) (G Hb : Hp) (items : List D) : Prop :=
  ∀ i G1 H1, Same G G1 → Same G1 H1 → SameN Hb H1 → (items.length ≤ i → J.stop i H1) ∧ ∀ d, items[i]? = some d → J.go i H1 ∧ ∀ x H2, J.yld i H1 x H2 → ∃ G2, Ext G1 H1 G2 H2 ∧ Rep K mg G2 x d
structure IB (X : Cx) (tg iter : Expr) (f : Ag) : Prop where
  ex : ∃ t, PI X tg iter t ∧ ∀ G0 H0 Z Γ σ G H R ds, Rel X.K X.mg G0 H0 Z Γ σ G H → f Γ = some ds → (∀ G' H' J, Ext G H G' H' → ItmB X.K X.mg J G' H0 ds → R J H') → t σ H R
structure IC (X : Cx) (tg iter : Expr) (f : Ag) : Prop where
  ex : ∃ t, PI X tg iter t ∧ ∀ G0 H0 Z Γ σ G H R ds, Rel X.K X.mg G0 H0 Z Γ σ G H → f Γ = some ds → (∀ G' H' J, Ext G H G' H' → ItmB X.K X.mg J G' H' ds → R J H') → t σ H R
theorem I.fb {it : Ag} (h : I X tg iter it) : IB X tg iter it := by
  obtain ⟨t, h1, h2⟩ := h.ex
  exact ⟨⟨t, h1, fun G0 H0 Z Γ σ G H R ds Rl hf k => h2 G0 H0 Z Γ σ G H R ds Rl hf fun G' H' J x hJ => k G' H' J x fun i G1 H1 s1 s2 _ => hJ i G1 H1 s1 s2⟩⟩
theorem IB.c {it : Ag} (h : IB X tg iter it) : IC X tg iter it := by
  obtain ⟨t, h1, h2⟩ := h.ex
  exact ⟨⟨t, h1, fun G0 H0 Z Γ σ G H R ds Rl hf k => h2 G0 H0 Z Γ σ G H R ds Rl hf fun G' H' J x hJ => k G' H' J x fun i G1 H1 s1 s2 s3 => hJ i G1 H1 s1 s2 ((Rl.hh.trans x.hh).trans s3)⟩⟩
theorem I.c {it : Ag} (h : I X tg iter it) : IC X tg iter it := h.fb.c
theorem itmB_lst {K mg} {G H Hb : Hp} {v : V} {xs : List D} (gh : Same G H) (bh : SameN Hb H) (r : RepB K mg G Hb v (.lst xs)) : ∃ p vs, v = .ref p ∧ SqL K H p vs ∧ ItmB K mg (Itl K p) G Hb xs := by
  cases r with
  | sh r => cases r with
    | lst h r => exact ⟨_, _, rfl, SqL.of (gh _ _ h), fun i G1 H1 s1 s2 _ => itm_list (SqL.of h) r (fun _ _ => True.intro) i G1 H1 s1 s2⟩
  | li h r =>
    refine ⟨_, _, rfl, SqL.of (bh _ _ h nofun), fun i G1 H1 s1 s2 s3 => ?_⟩
    have h1 : SqL K H1 _ _ := SqL.of (s3 _ _ h nofun)
    refine ⟨fun hi => ⟨_, h1, by rw [r.length]; exact hi⟩, fun d hd => ?_⟩
    obtain ⟨v, e1, e2⟩ := r.get i hd
    refine ⟨⟨_, v, h1, e1⟩, fun x H2 y => ?_⟩
    obtain ⟨rfl, y⟩ := y
    have e3 := y _ h1
    rw [e1] at e3
    cases e3
    exact ⟨G1, Ext.refl s2, e2.mono s1⟩
theorem itmB_scr {K mg} {G H Hb : Hp} {v : V} {ns : List Int} (gh : Same G H) (r : RepB K mg G Hb v (.scr ns)) : ∃ p vs, v = .ref p ∧ SqL K H p vs ∧ ItmB K mg (Itl K p) G Hb (ns.map D.int) := by
  cases r with
  | sh r => cases r with
    | scr h => exact ⟨_, _, rfl, gh.seq h, fun i G1 H1 s1 s2 _ => itm_list h .ofInts (fun _ _ => True.intro) i G1 H1 s1 s2⟩
theorem itmB_tup {K mg} {G H Hb : Hp} {v : V} {xs : List D} (gh : Same G H) (r : RepB K mg G Hb v (.tup xs)) : ∃ p vs, v = .ref p ∧ SqT K H p vs ∧ ItmB K mg (Itt K p) G Hb xs := by
  cases r with
  | sh r => cases r with
    | tup h r => exact ⟨_, _, rfl, SqT.of (gh _ _ h), fun i G1 H1 s1 s2 _ => itm_tup h r i G1 H1 s1 s2⟩
/-- a walk of a comprehension over what is looked at -/
theorem ic_b (h : B X iter f) : IC X tg iter (gIt f) := by
  obtain ⟨t, h1, h2⟩ := h.ex
  refine ⟨⟨_, pi_or (pi_list h1) (pi_tup h1), fun G0 H0 Z Γ σ G H R ds Rl hf k => ?_⟩⟩
  obtain ⟨d, e1, hf⟩ := obind hf
  cases d with
  | lst xs =>
    cases hf
    refine .inl (h2 G0 H0 Z Γ σ G H _ _ Rl e1 fun G1 H1 v x1 r1 => ?_)
    obtain ⟨p, vs, rfl, hs, it⟩ := itmB_lst x1.gh (same_n (Same.refl _)) r1
    exact ⟨_, rfl, ⟨_, hs⟩, k G1 H1 _ x1 it⟩
  | scr ns =>
    cases hf
    refine .inl (h2 G0 H0 Z Γ σ G H _ _ Rl e1 fun G1 H1 v x1 r1 => ?_)
    obtain ⟨p, vs, rfl, hs, it⟩ := itmB_scr x1.gh r1
    exact ⟨_, rfl, ⟨_, hs⟩, k G1 H1 _ x1 it⟩
  | tup xs =>
    cases hf
    refine .inr (h2 G0 H0 Z Γ σ G H _ _ Rl e1 fun G1 H1 v x1 r1 => ?_)
    obtain ⟨p, vs, rfl, hs, it⟩ := itmB_tup x1.gh r1
    exact ⟨_, rfl, ⟨_, hs⟩, k G1 H1 _ x1 it⟩
  | _ => cases hf
/-- what has been there since the entry -/
structure B0 (X : Cx) (e : Expr) (f : Ex) : Prop where
  ex : ∃ t, PE X e t ∧ ∀ G0 H0 Z Γ σ G H Q d, Rel X.K X.mg G0 H0 Z Γ σ G H → f Γ = some d → (∀ G' H' v, Ext G H G' H' → RepB X.K X.mg G' H0 v d → Q v H') → t σ H Q
def gB0 (i : Nat) : Ex := fun Γ => match Γ[i]? with | some (.bo d) => some d | some (.sh d) => some d | _ => none
theorem b0_var (i : Nat) {x : Str} (hN : X.N[i]? = some x := by rfl) (hv : Vis X.env.scope x := by first | exact Or.inl rfl | exact Or.inr (Or.inl rfl) | exact Or.inr (Or.inr rfl)) (hd : (x == ("__debug__" : Str)) = false := by decide)
    (hcd : (x == ("__classdict__" : Str)) = false := by decide) : B0 X (.Name x pos) (gB0 i) := by
  refine ⟨⟨_, pe_var hN hv hd hcd, fun G0 H0 Z Γ σ G H Q d R hf k => ?_⟩⟩
  unfold gB0 at hf
  cases q : Γ[i]? with
  | none => rw [q] at hf; cases hf
  | some s =>
    rw [q] at hf
    cases s with
    | sh d' =>
      cases hf
      obtain ⟨v, h1, h2⟩ := R.sh q
      exact ⟨v, h1, k G H v (Ext.refl R.gh) (.sh h2)⟩
    | bo d' =>
      cases hf
      obtain ⟨own, o1, o2, o3⟩ := R.own
      rcases o3 i _ q with z | ⟨v, h1, h2⟩ | ⟨v, d1, z, h1, h2⟩
      · cases z
      · cases h2
      · cases z; exact ⟨v, h1, k G H v (Ext.refl R.gh) h2⟩
    | _ => cases hf
theorem ib_b (h : B0 X iter f) : IB X tg iter (gIt f) := by
  obtain ⟨t, h1, h2⟩ := h.ex
  refine ⟨⟨_, pi_or (pi_list h1) (pi_tup h1), fun G0 H0 Z Γ σ G H R ds Rl hf k => ?_⟩⟩
  obtain ⟨d, e1, hf⟩ := obind hf
  cases d with
  | lst xs =>
    cases hf
    refine .inl (h2 G0 H0 Z Γ σ G H _ _ Rl e1 fun G1 H1 v x1 r1 => ?_)
    obtain ⟨p, vs, rfl, hs, it⟩ := itmB_lst x1.gh (Rl.hh.trans x1.hh) r1
    exact ⟨_, rfl, ⟨_, hs⟩, k G1 H1 _ x1 it⟩
  | scr ns =>
    cases hf
    refine .inl (h2 G0 H0 Z Γ σ G H _ _ Rl e1 fun G1 H1 v x1 r1 => ?_)
    obtain ⟨p, vs, rfl, hs, it⟩ := itmB_scr x1.gh r1
    exact ⟨_, rfl, ⟨_, hs⟩, k G1 H1 _ x1 it⟩
  | tup xs =>
    cases hf
    refine .inr (h2 G0 H0 Z Γ σ G H _ _ Rl e1 fun G1 H1 v x1 r1 => ?_)
    obtain ⟨p, vs, rfl, hs, it⟩ := itmB_tup x1.gh r1
    exact ⟨_, rfl, ⟨_, hs⟩, k G1 H1 _ x1 it⟩
  | _ => cases hf
def gLc (own : List Nat) (it : Ag) (g : Gs) (t : Te) (e : Ex) : Ag := fun Γ => (it Γ).bind fun ds => if ds.length < 1000000 then compL g t e ds (wipeE Γ own) else none
theorem lc_run {K : PySem.W.Frag} {mg : Str → Option Value} {own : List (Str × Nat)} {it : Ag} {p : Te} {wi : TI} (hix : ∀ i ∈ ix, i ∈ own.map (·.2))
    (hw : ∀ G0 H0 Z Γ σ G H R ds, Rel K mg G0 H0 Z Γ σ G H → it Γ = some ds → (∀ G' H' J, Ext G H G' H' → ItmB K mg J G' H' ds → R J H') → wi σ H R)
    {G0 H0 : Hp} {Z : Zs} {Γ : DEnv} {σ : L2.St} {G H : Hp} {Q : VK} {ds : List D} (R : Rel K mg G0 H0 Z Γ σ G H) (hf : gLc (own.map (·.2)) it g p f Γ = some ds)
    (k : ∀ G' H' D vs, Ext G H G' H' → H D = none → G' D = none → H' D = some (.lst vs) → RepL K mg G' vs ds → Q (.ref D) H') :
    tLc wi (tGx K mg ix g) (tTx K mg p) (tEx K mg f) (own.map (·.2)) σ H Q := by
  obtain ⟨items, e1, hf⟩ := obind hf
  split at hf
  · rename_i hlen
    refine hw G0 H0 Z Γ σ G H _ items R e1 fun G1 H1 J x1 hJ D hD => ?_
    have R1 := R.ext x1
    -- the state within: the list so far at D
    have ntD : ¬ Z.t.tz D := fun h => R1.zz _ (R1.tz _ h) hD
    refine ⟨fun i m Hc => m = items.length - i ∧ i ≤ items.length ∧ ∃ Gc acc dacc rest, Ext G1 H1 Gc Hc ∧ Gc D = none ∧ Hc D = some (.lst acc) ∧ acc.length ≤ i ∧ RepL K mg Gc acc dacc ∧ Rel K mg G0 H0 ⟨fun a => Z.z a ∨ a = D, Z.a, Z.t⟩ (wipeE Γ (own.map (·.2))) (L2.wipe σ (own.map (·.2))) Gc Hc ∧
      compL g p f (items.drop i) (wipeE Γ (own.map (·.2))) = some rest ∧ dacc ++ rest = ds, ⟨items.length, ?_⟩, ?_⟩
    · exact ⟨by simp, Nat.zero_le _, G1, [], [], ds, Ext.own1 x1.gh hD, x1.gh.free hD, upd_same, Nat.le_refl _, .nil, (R1.wipe (own.map (·.2))).zput hD, by simpa using hf, rfl⟩
    · rintro i m Hc ⟨rfl, hi, Gc, acc, dacc, rest, xc, gD, hcD, la, ra, Rc, hr, hds⟩
      obtain ⟨st, go⟩ := hJ i Gc Hc xc.gg xc.gh xc.hh
      have nn : ∀ {H : Hp}, H D = some (.lst acc) → H D ≠ none := fun e => by rw [e]; simp
      by_cases hlt : i < items.length
      · have hd : items.drop i = items[i] :: items.drop (i + 1) := List.drop_eq_getElem_cons hlt
        obtain ⟨g1, g2⟩ := go items[i] (List.getElem?_eq_getElem hlt)
        rw [hd] at hr
        obtain ⟨Γ1, c1, hr⟩ := obind hr
        obtain ⟨b, c2, hr⟩ := obind hr
        refine .inr ⟨g1, fun H' => ∃ m', (m' = items.length - (i + 1) ∧ i + 1 ≤ items.length ∧ ∃ Gc acc dacc rest, Ext G1 H1 Gc H' ∧ Gc D = none ∧ H' D = some (.lst acc) ∧ acc.length ≤ i + 1 ∧ RepL K mg Gc acc dacc ∧ Rel K mg G0 H0 ⟨fun a => Z.z a ∨ a = D, Z.a, Z.t⟩ (wipeE Γ (own.map (·.2))) (L2.wipe σ (own.map (·.2))) Gc H' ∧
          compL g p f (items.drop (i + 1)) (wipeE Γ (own.map (·.2))) = some rest ∧ dacc ++ rest = ds), fun H' ⟨m', h⟩ => ⟨m', by have := h.1; omega, h⟩, fun x H2 y => ?_⟩
        obtain ⟨G2, x2, r2⟩ := g2 x H2 y
        have xc2 := xc.trans x2
        have R2 := Rc.ext x2
        have gD2 : G2 D = none := x2.none gD (nn hcD)
        have hD2 := x2.hh _ _ hcD nofun
        refine ⟨G0, H0, _, _, G2, items[i], Γ1, R2, r2, c1, fun σ3 R3 w3 => ⟨(w3 _ hix).trans (wipe_sub _ fun _ h => h), ?_⟩⟩
        refine ⟨G0, H0, _, Γ1, G2, b, R3, c2, fun G4 H4 x4 => ?_⟩
        have gD4 : G4 D = none := x4.none gD2 (nn hD2)
        have hD4 := x4.hh _ _ hD2 nofun
        cases b with
        | false =>
          refine iteF ⟨_, rfl, hlt, G4, acc, dacc, rest, xc2.trans x4, gD4, hD4, by omega, (ra.mono x2.gg).mono x4.gg, R2.ext x4, hr, hds⟩
        | true =>
          refine iteT ⟨G0, H0, ⟨fun a => Z.z a ∨ a = D, Z.a, Z.t⟩, Γ1, G4, ?_⟩
          replace hr : ((f Γ1).bind fun y => (compL g p f (items.drop (i + 1)) (wipeE Γ (own.map (·.2)))).bind fun r => some (y :: r)) = some rest := hr
          obtain ⟨yv, c3, hr⟩ := obind hr
          obtain ⟨rr, c4, hr⟩ := obind hr
          cases hr
          refine ⟨yv, R3.ext x4, c3, fun G5 H5 v x5 r5 => ?_⟩
          have gD5 : G5 D = none := x5.none gD4 (nn hD4)
          have hD5 : H5 D = some (.lst acc) := x5.hh _ _ hD4 nofun
          refine ⟨acc, hD5, Nat.lt_of_lt_of_le (Nat.lt_of_le_of_lt la (Nat.lt_trans hlt hlen)) line_big, _, rfl, hlt, G5, acc ++ [v], dacc ++ [yv], rr, ?_, gD5, upd_same, by simp; omega, ((((ra.mono x2.gg).mono x4.gg).mono x5.gg).append (.cons r5 .nil)), ((R2.ext x4).ext x5).aside (.inr rfl) ntD gD5 (R1.hf hD), c4, by rw [← hds]; simp⟩
          have xx := (xc2.trans x4).trans x5
          refine ⟨xx.gg, fun a o q n => ?_, fun a o q => ?_, xx.new, fun a h => ?_, fun t => TC.ti.keep (xx.tb t) (Same.refl _) (fun a h => upd_ne (fun z => (TC.ti.live t a h).1 (by rw [z]; exact hD))) (fun _ _ g => g)⟩
          · rw [upd_ne (ne_of_none q hD)]; exact xx.hh _ _ q n
          · rw [upd_ne (ne_of_none q gD5)]; exact xx.gh _ _ q
          · by_cases z : a = D
            · subst z; rw [upd_same]; simp
            · rw [upd_ne z]; exact xx.hn a h
      · have e : i = items.length := by omega
        subst e
        refine .inl ⟨st (Nat.le_refl _), ?_⟩
        rw [List.drop_length] at hr
        cases hr
        rw [List.append_nil] at hds
        subst hds
        exact k Gc Hc D acc (x1.trans xc) (x1.hf hD) gD hcD ra
  · cases hf
theorem el_lc {elt : Expr} {ifs : List Expr} {scope : Scope} {own : List (Str × Nat)} {it : Ag} {p : Te} (hc : X.calm = true) (hN : X.N.Nodup) (hi : IC X tg iter it) (ok : BlkOk X.N X.env.scope scope own) (hix : ∀ i ∈ ix, i ∈ own.map (·.2))
    (hg : ∀ (s : Shared) (H : Hp) (C : Addr) (cl : List (Str × Addr)) (fp : List Addr), G (X.blk s H scope (compEnvC scope cl C X.env) fp) tg ix g)
    (ht : ∀ (s : Shared) (H : Hp) (C : Addr) (cl : List (Str × Addr)) (fp : List Addr), Ts (X.blk s H scope (compEnvC scope cl C X.env) fp) ifs p)
    (he : ∀ (s : Shared) (H : Hp) (C : Addr) (cl : List (Str × Addr)) (fp : List Addr), E (X.blk s H scope (compEnvC scope cl C X.env) fp) elt f) (hs : ∀ x, foldedSetIterable iter X.env x = pure x := by intro _; rfl) :
    EL X (.ListComp elt [⟨tg, iter, ifs, 0⟩] scope pos) (gLc (own.map (·.2)) it g p f) := by
  obtain ⟨wi, w1, w2⟩ := hi.ex
  exact ⟨⟨_, pe_lc hc hN w1 ok (fun s H C cl fp => (hg s H C cl fp).pg) (fun s H C cl fp => (ht s H C cl fp).pt) (fun s H C cl fp => (he s H C cl fp).pe) hs, fun G0 H0 Z Γ σ G H Q ds R hf k => lc_run hix w2 R hf k⟩⟩
end
end DL

namespace DL
open PySem L2
variable [TC : TabCtx]

/-! ### statements -/
def sNil : Sm := fun Γ => some (.nx Γ)
def sSeq (f g : Sm) : Sm := fun Γ => (f Γ).bind fun r => match r with | .nx Γ' => g Γ' | r => some r
def sBrk : Sm := fun Γ => some (.bk Γ)
def sCnt : Sm := fun Γ => some (.ct Γ)
def sSet (i : Nat) (f : Ex) : Sm := fun Γ => (f Γ).bind fun d => some (.nx (Γ.set i (.sh d)))
def sSetO (i : Nat) (f : Ag) : Sm := fun Γ => (f Γ).bind fun d => some (.nx (Γ.set i (.ow d)))
def sExp (f : Ex) : Sm := fun Γ => (f Γ).bind fun _ => some (.nx Γ)
def sRet (f : Ex) : Sm := fun Γ => (f Γ).bind fun d => some (.rt d)
def sRetN : Sm := fun _ => some (.rt .non)
def sIf (c : Te) (f g : Sm) : Sm := fun Γ => (c Γ).bind fun b => if b then f Γ else g Γ
def frzE (i : Nat) (Γ : DEnv) : DEnv := match Γ[i]? with | some (.ow xs) => Γ.set i (.sh (.lst xs)) | some (.dk ks xs) => Γ.set i (.sh (.dic ks xs)) | _ => Γ
def sFrz (i : Nat) (f : Sm) : Sm := fun Γ => f (frzE i Γ)
/-- a place of a slot, read and changed -/
def gP (i : Nat) (rp : Pth) (Γ : DEnv) : Option Sl := (Γ[i]?).bind (getR rp)
def upP (i : Nat) (rp : Pth) (s' : Sl) (Γ : DEnv) : Option Res := (Γ[i]?).bind fun s => (setR rp s' s).bind fun s2 => some (.nx (Γ.set i s2))
def sApp (i : Nat) (rp : Pth) (f : Ex) : Sm := fun Γ => (f Γ).bind fun d => match gP i rp Γ with
  | some (.ow xs) => if xs.length < 1000000 then upP i rp (.ow (xs ++ [d])) Γ else none
  | _ => none
def sAug (o : D → D → Option D) (i : Nat) (f : Ex) : Sm := fun Γ => (gV i Γ).bind fun x => (f Γ).bind fun y => (o x y).bind fun d => some (.nx (Γ.set i (.sh d)))
def sUnp (g : Gs) (f : Ex) : Sm := fun Γ => (f Γ).bind fun d => (g d Γ).bind fun Γ' => some (.nx Γ')
def sPar (is : List Nat) (fs : Ag) : Sm := fun Γ => (fs Γ).bind fun ds => some (.nx ((is.zip ds).foldl (fun Γ p => Γ.set p.1 (.sh p.2)) Γ))
def sIxS (i : Nat) (rp : Pth) (k : Ex) (f : Ex) : Sm := fun Γ => (f Γ).bind fun d => (k Γ).bind fun j => match gP i rp Γ, j with
  | some (.ow xs), .int n => (ixN xs.length n).bind fun m => upP i rp (.ow (xs.set m d)) Γ
  | _, _ => none

section
variable {X : Cx} {e a b o tg : Expr} {es : List Expr} {f k : Ex} {fs : Ag} {st : Stmt} {sts : List Stmt} {F F' : Sm} {p : Te} {pos pos' : Pos} {n : Nat} {ix : List Nat} {g : Gs}
theorem ss_nil : Ss X [] sNil := ⟨⟨_, pss_nil, fun G0 H0 Z Γ σ G H D r R hf k => by cases hf; exact k σ G H R⟩⟩
theorem ss_cons (h : S X st F) (hr : Ss X sts F') : Ss X (st :: sts) (sSeq F F') := by
  obtain ⟨t, h1, h2⟩ := h.ex
  obtain ⟨u, q1, q2⟩ := hr.ex
  refine ⟨⟨_, pss_cons h1 q1, fun G0 H0 Z Γ σ G H D r R hf k => ?_⟩⟩
  obtain ⟨r1, e1, hf⟩ := obind hf
  refine h2 G0 H0 Z Γ σ G H _ r1 R e1 ?_
  cases r1 with
  | nx Γ1 => exact fun σ1 G1 H1 R1 => q2 G0 H0 Z Γ1 σ1 G1 H1 D r R1 hf k
  | rt d => cases hf; exact k
  | rm d s => cases hf; exact k
  | ro s => cases hf; exact k
  | bk Γ1 => cases hf; exact k
  | ct Γ1 => cases hf; exact k
theorem ss_one (h : S X st F) : Ss X [st] F := by
  obtain ⟨t, h1, h2⟩ := h.ex
  exact ⟨⟨_, pss_one h1, h2⟩⟩
theorem s_pass : S X (.Pass pos) sNil := ⟨⟨_, ps_pass, fun G0 H0 Z Γ σ G H D r R hf k => by cases hf; exact k σ G H R⟩⟩
theorem s_break : S X (.Break pos) sBrk := ⟨⟨_, ps_break, fun G0 H0 Z Γ σ G H D r R hf k => by cases hf; exact k σ G H R⟩⟩
theorem s_cont : S X (.Continue pos) sCnt := ⟨⟨_, ps_continue, fun G0 H0 Z Γ σ G H D r R hf k => by cases hf; exact k σ G H R⟩⟩
theorem s_set (i : Nat) {x : Str} (hN : X.N.Nodup) (he : E X e f) (hi : X.N[i]? = some x := by rfl) (hx : Loc X.env.scope x := by first | exact Or.inl rfl | exact Or.inr rfl) (hs : swapsWith e (some (.Name x pos')) pos.line X.env = pure false := by rfl)
    (hf : X.fn x = true ∨ X.env.scope.names.lookup x = some .local := by first | exact .inl rfl | exact .inr rfl | assumption) : S X (.Assign [.Name x pos'] e pos) (sSet i f) := by
  obtain ⟨t, h1, h2⟩ := he.ex
  refine ⟨⟨_, ps_set hN hi hx h1 hs hf, fun G0 H0 Z Γ σ G H D r R hf k => ?_⟩⟩
  obtain ⟨d, e1, hf⟩ := obind hf
  cases hf
  exact h2 G0 H0 Z Γ σ G H _ d R e1 fun G1 H1 v x1 r1 => k _ G1 H1 ((R.ext x1).set i r1)
theorem set_own {K : PySem.W.Frag} {mg : Str → Option Value} {G0 H0 : Hp} {Z : Zs} {Γ : DEnv} {σ : L2.St} {G H G1 H1 : Hp} {q : Addr} {vs : List V} {xs : List D} (R : Rel K mg G0 H0 Z Γ σ G H) (x1 : Ext G H G1 H1) (hq : H q = none) (gq : G1 q = none) (h : H1 q = some (.lst vs)) (r : RepL K mg G1 vs xs) (i : Nat) (h0 : i ≠ 0) :
    Rel K mg G0 H0 Z (Γ.set i (.ow xs)) (σ.set i (some (.ref q))) G1 H1 :=
  R.setNew x1 i (F := fun a => a = q) (.ow rfl h r) (fun a e => by subst e; exact ⟨gq, hq, by rw [h]; simp⟩) (.inl h0)
theorem s_setO (i : Nat) {x : Str} (hN : X.N.Nodup) (he : EL X e fs) (h0 : i ≠ 0 := by decide) (hi : X.N[i]? = some x := by rfl) (hx : Loc X.env.scope x := by first | exact Or.inl rfl | exact Or.inr rfl) (hs : swapsWith e (some (.Name x pos')) pos.line X.env = pure false := by rfl)
    (hf : X.fn x = true ∨ X.env.scope.names.lookup x = some .local := by first | exact .inl rfl | exact .inr rfl | assumption) : S X (.Assign [.Name x pos'] e pos) (sSetO i fs) := by
  obtain ⟨t, h1, h2⟩ := he.ex
  refine ⟨⟨_, ps_set hN hi hx h1 hs hf, fun G0 H0 Z Γ σ G H D r R hf k => ?_⟩⟩
  obtain ⟨d, e1, hf⟩ := obind hf
  cases hf
  exact h2 G0 H0 Z Γ σ G H _ d R e1 fun G1 H1 q vs x1 hq gq h r1 => k _ G1 H1 (set_own R x1 hq gq h r1 i h0)
theorem s_expr (he : E X e f) (hs : swapsWith e none pos.line X.env = pure false := by rfl) : S X (.Expr e pos) (sExp f) := by
  obtain ⟨t, h1, h2⟩ := he.ex
  refine ⟨⟨_, ps_expr h1 hs, fun G0 H0 Z Γ σ G H D r R hf k => ?_⟩⟩
  obtain ⟨d, e1, hf⟩ := obind hf
  cases hf
  exact h2 G0 H0 Z Γ σ G H _ d R e1 fun G1 H1 v x1 r1 => k σ G1 H1 (R.ext x1)
theorem Rel.end {K : PySem.W.Frag} {mg : Str → Option Value} {G0 H0 : Hp} {Z : Zs} {Γ : DEnv} {σ : L2.St} {G H : Hp} (R : Rel K mg G0 H0 Z Γ σ G H) : Ext G0 H0 G H := ⟨R.gg, R.hh, R.gh, R.new, R.hn, fun _ => by rw [← R.tc]; exact R.tb⟩
theorem s_ret (he : E X e f) : S X (.Return (some e) pos) (sRet f) := by
  obtain ⟨t, h1, h2⟩ := he.ex
  refine ⟨⟨_, ps_ret h1, fun G0 H0 Z Γ σ G H D r R hf k => ?_⟩⟩
  obtain ⟨d, e1, hf⟩ := obind hf
  cases hf
  exact h2 G0 H0 Z Γ σ G H _ d R e1 fun G1 H1 v x1 r1 => k G1 H1 v (R.ext x1).end r1
theorem s_retN : S X (.Return none pos) sRetN := ⟨⟨_, ps_retN, fun G0 H0 Z Γ σ G H D r R hf k => by cases hf; exact k G H _ R.end .non⟩⟩
theorem s_if {c : Expr} {sa sb : List Stmt} (hc : T X c p) (ha : Ss X sa F) (hb : Ss X sb F') : S X (.If c sa sb pos) (sIf p F F') := by
  obtain ⟨t, h1, h2⟩ := hc.ex
  obtain ⟨u, q1, q2⟩ := ha.ex
  obtain ⟨w, z1, z2⟩ := hb.ex
  refine ⟨⟨_, ps_if h1 q1 z1, fun G0 H0 Z Γ σ G H D r R hf k => ?_⟩⟩
  obtain ⟨b, e1, hf⟩ := obind hf
  refine h2 G0 H0 Z Γ σ G H _ b R e1 fun G1 H1 x1 => ?_
  cases b with
  | true => exact iteT (q2 G0 H0 Z Γ σ G1 H1 D r (R.ext x1) hf k)
  | false => exact iteF (z2 G0 H0 Z Γ σ G1 H1 D r (R.ext x1) hf k)
theorem Rel.frzE {K : PySem.W.Frag} {mg : Str → Option Value} {G0 H0 : Hp} {Z : Zs} {Γ : DEnv} {σ : L2.St} {G H : Hp} (R : Rel K mg G0 H0 Z Γ σ G H) (i : Nat) : ∃ G', Rel K mg G0 H0 Z (frzE i Γ) σ G' H := by
  unfold DL.frzE
  cases q : Γ[i]? with
  | none => exact ⟨G, R⟩
  | some s =>
    cases s with
    | ow xs => obtain ⟨G', R', _⟩ := R.frzP (rp := []) (d := .lst xs) q rfl (by simp) (by simp [SlP]) rfl rfl; exact ⟨G', R'⟩
    | dk ks xs => obtain ⟨G', R', _⟩ := R.frzP (rp := []) (d := .dic ks xs) q rfl (by simp) (by simp [SlP]) (by simp only [toD]) rfl; exact ⟨G', R'⟩
    | _ => exact ⟨G, R⟩
theorem s_frz (i : Nat) (h : S X st F) : S X st (sFrz i F) := by
  obtain ⟨t, h1, h2⟩ := h.ex
  refine ⟨⟨t, h1, fun G0 H0 Z Γ σ G H D r R hf k => ?_⟩⟩
  obtain ⟨G', R'⟩ := R.frzE i
  exact h2 G0 H0 _ _ σ G' H D r R' hf k
/-! places -/
structure PL (X : Cx) (e : Expr) (i : Nat) (rp : Pth) : Prop where
  ex : ∃ t, PE X e t ∧ ∀ G0 H0 Z Γ σ Gb Hb G H Q s s1, Rel X.K X.mg G0 H0 Z Γ σ Gb Hb → Ext Gb Hb G H → Γ[i]? = some s → getR rp s = some s1 → SlP s → s1 ≠ .no → (∀ v, (∀ G1 H1, Ext Gb Hb G1 H1 → ∃ F1, Pack X.K X.mg G0 H0 Z Γ σ i rp s s1 v F1 Hb G1 H1) → Q v H) → t σ H Q
theorem pl_var (i : Nat) {x : Str} (hN : X.N[i]? = some x := by rfl) (hv : Vis X.env.scope x := by first | exact Or.inl rfl | exact Or.inr (Or.inl rfl) | exact Or.inr (Or.inr rfl)) (hd : (x == ("__debug__" : Str)) = false := by decide)
    (hcd : (x == ("__classdict__" : Str)) = false := by decide) : PL X (.Name x pos) i [] := by
  refine ⟨⟨_, pe_var hN hv hd hcd, fun G0 H0 Z Γ σ Gb Hb G H Q s s1 R xb hi hg hn h1 k => ?_⟩⟩
  obtain ⟨v, F1, e, pk⟩ := R.pack hi hg h1 hn
  exact ⟨v, e rfl, k v fun G1 H1 x => ⟨F1, pk G1 H1 x⟩⟩
theorem Pack.obAt {K : PySem.W.Frag} {mg : Str → Option Value} {G0 H0 : Hp} {Z : Zs} {Γ : DEnv} {σ : L2.St} {G H Hb : Hp} {i c : Nat} {rp : Pth} {s : Sl} {fs : List Sl} {v : V} {F1 : Addr → Prop} (P : Pack K mg G0 H0 Z Γ σ i rp s (.ob c fs) v F1 Hb G H) : ∃ p C dx zs, v = .ref p ∧ H p = some (.ins C dx zs) := by
  have hd := P.hd
  cases hd with
  | ob f hm h n s r => exact ⟨_, _, _, _, rfl, h⟩
theorem pl_fld {i : Nat} {rp : Pth} {c j : Nat} {C : Addr} {x : Str} (ck : CK X.K X.mg c C) (h : PL X o i rp) (hj : (cF c)[j]? = some x := by rfl) (nd : (cF c).Nodup := by decide +kernel) (hb : attributeBase o x X.env (eval o X.env) = eval o X.env := by rfl) : PL X (.Attribute o x pos) i ((c, j) :: rp) := by
  obtain ⟨t, h1, h2⟩ := h.ex
  refine ⟨⟨_, pe_fld h1 hb, fun G0 H0 Z Γ σ Gb Hb G H Q s s1 R xb hi hg hn hs k => ?_⟩⟩
  unfold getR at hg
  cases q : getR rp s with
  | none => rw [q] at hg; cases hg
  | some par =>
    rw [q] at hg
    cases par with
    | ob c' fs =>
      replace hg : (if c' = c then fs[j]? else none) = some s1 := hg
      split at hg
      · rename_i hc
        subst hc
        refine h2 G0 H0 Z Γ σ Gb Hb G H _ s _ R xb hi q hn (by simp) fun v pk => ?_
        obtain ⟨F0, p0⟩ := pk G H xb
        obtain ⟨p, C', dx, vs, v1, F1, rfl, hm, ho, e1, _⟩ := p0.fld q hg
        rw [ck.hm] at hm
        cases hm
        have look := zip_lookup nd hj e1
        refine ⟨p, C, dx, _, v1, rfl, ho, ck.cl, ck.na x (List.mem_of_getElem? hj), look, k v1 fun G1 H1 x1 => ?_⟩
        obtain ⟨F2, p2⟩ := pk G1 H1 x1
        obtain ⟨p', C2, dx2, vs2, v2, F3, ep, _, ho2, e2, p3⟩ := p2.fld q hg
        cases ep
        obtain ⟨Fb, pb⟩ := pk Gb Hb (Ext.refl R.gh)
        obtain ⟨p', _, _, _, ep, hb1⟩ := pb.obAt
        cases ep
        have h3 := x1.hh _ _ hb1 nofun
        have h4 := xb.hh _ _ hb1 nofun
        rw [ho2] at h3
        rw [ho] at h4
        cases h4
        have ez : (cF c').zip vs2 = (cF c').zip vs := by injection h3 with h3; injection h3
        have look2 := zip_lookup nd hj e2
        rw [ez, look] at look2
        cases look2
        exact ⟨F3, p3⟩
      · cases hg
    | _ => cases hg
/-- .. read: a datum -/
def gPE (i : Nat) (rp : Pth) : Ex := fun Γ => match gP i rp Γ with | some (.sh d) => some d | _ => none
def gPB (i : Nat) (rp : Pth) : Ex := fun Γ => match gP i rp Γ with | some (.sh d) => some d | some (.ow xs) => some (.lst xs) | some (.ob c fs) => toD (.ob c fs) | some (.dk ks xs) => some (.dic ks xs) | _ => none
theorem gP_some {i : Nat} {rp : Pth} {Γ : DEnv} {s1 : Sl} (h : gP i rp Γ = some s1) (hn : SlP s1) : ∃ s, Γ[i]? = some s ∧ getR rp s = some s1 ∧ SlP s := by
  obtain ⟨s, e1, e2⟩ := obind h
  have key : ∀ z : Sl, (∀ c fs, z ≠ .ob c fs) → ∀ rp : Pth, getR rp z = none ∨ getR rp z = some z := fun z hz rp => by
    induction rp with
    | nil => exact .inr rfl
    | cons p rp ih =>
      left
      unfold getR
      rcases ih with q | q
      · rw [q]
      · rw [q]
        cases z with
        | ob c fs => exact absurd rfl (hz c fs)
        | _ => rfl
  refine ⟨s, e1, e2, fun z => ?_, fun d z => ?_⟩
  · subst z
    rcases key .no (by simp) rp with q | q
    · rw [q] at e2; cases e2
    · rw [q] at e2; cases e2; exact hn.1 rfl
  · subst z
    rcases key (.bo d) (by simp) rp with q | q
    · rw [q] at e2; cases e2
    · rw [q] at e2; cases e2; exact hn.2 d rfl
theorem PL.er {i : Nat} {rp : Pth} (h : PL X e i rp) : E X e (gPE i rp) := by
  obtain ⟨t, h1, h2⟩ := h.ex
  refine ⟨⟨t, h1, fun G0 H0 Z Γ σ G H Q d R hf k => ?_⟩⟩
  unfold gPE at hf
  cases q : gP i rp Γ with
  | none => rw [q] at hf; cases hf
  | some s1 =>
    rw [q] at hf
    cases s1 with
    | sh d' =>
      cases hf
      obtain ⟨s, e1, e2, e3⟩ := gP_some q (by simp [SlP])
      refine h2 G0 H0 Z Γ σ G H G H Q s _ R (Ext.refl R.gh) e1 e2 e3 (by simp) fun v pk => ?_
      obtain ⟨F1, p⟩ := pk G H (Ext.refl R.gh)
      have hd := p.hd
      cases hd with
      | sh r => exact k G H v (Ext.refl R.gh) r
    | _ => cases hf
theorem PL.br {i : Nat} {rp : Pth} (h : PL X e i rp) : B X e (gPB i rp) := by
  obtain ⟨t, h1, h2⟩ := h.ex
  refine ⟨⟨t, h1, fun G0 H0 Z Γ σ G H Q d R hf k => ?_⟩⟩
  unfold gPB at hf
  cases q : gP i rp Γ with
  | none => rw [q] at hf; cases hf
  | some s1 =>
    rw [q] at hf
    cases s1 with
    | sh d' =>
      cases hf
      obtain ⟨s, e1, e2, e3⟩ := gP_some q (by simp [SlP])
      refine h2 G0 H0 Z Γ σ G H G H Q s _ R (Ext.refl R.gh) e1 e2 e3 (by simp) fun v pk => ?_
      obtain ⟨F1, p⟩ := pk G H (Ext.refl R.gh)
      have hd := p.hd
      cases hd with
      | sh r => exact k G H v (Ext.refl R.gh) (.sh r)
    | ow xs =>
      cases hf
      obtain ⟨s, e1, e2, e3⟩ := gP_some q (by simp [SlP])
      refine h2 G0 H0 Z Γ σ G H G H Q s _ R (Ext.refl R.gh) e1 e2 e3 (by simp) fun v pk => ?_
      obtain ⟨F1, p⟩ := pk G H (Ext.refl R.gh)
      have hd := p.hd
      cases hd with
      | ow f h r => exact k G H _ (Ext.refl R.gh) (.li h r)
    | ob c fs =>
      obtain ⟨s, e1, e2, e3⟩ := gP_some q (by simp [SlP])
      refine h2 G0 H0 Z Γ σ G H G H Q s _ R (Ext.refl R.gh) e1 e2 e3 (by simp) fun v pk => ?_
      obtain ⟨F1, p⟩ := pk G H (Ext.refl R.gh)
      exact k G H _ (Ext.refl R.gh) (p.hd.bo hf)
    | dk ks xs =>
      obtain ⟨s, e1, e2, e3⟩ := gP_some q (by simp [SlP])
      refine h2 G0 H0 Z Γ σ G H G H Q s _ R (Ext.refl R.gh) e1 e2 e3 (by simp) fun v pk => ?_
      obtain ⟨F1, p⟩ := pk G H (Ext.refl R.gh)
      exact k G H _ (Ext.refl R.gh) (p.hd.bo (by cases hf; simp only [toD]))
    | _ => cases hf
/-- one's own list at a place is changed in place -/
theorem Pack.list {K : PySem.W.Frag} {mg : Str → Option Value} {G0 H0 : Hp} {Z : Zs} {Γ : DEnv} {σ : L2.St} {G H : Hp} {i : Nat} {rp : Pth} {s : Sl} {xs : List D} {v : V} {F1 : Addr → Prop} (gh : Same G H) {Hb : Hp} (P : Pack K mg G0 H0 Z Γ σ i rp s (.ow xs) v F1 Hb G H) :
    ∃ l vs, v = .ref l ∧ H l = some (.lst vs) ∧ RepL K mg G vs xs ∧ ∀ vs' ys s', RepL K mg G vs' ys → setR rp (.ow ys) s = some s' → Rel K mg G0 H0 Z (Γ.set i s') σ G (upd H l (.lst vs')) := by
  have hd := P.hd
  cases hd with
  | ow f h r =>
    rename_i l vs
    refine ⟨l, vs, rfl, h, r, fun vs' ys s' r' es => ?_⟩
    have gl := (P.fr l f).1
    refine P.up G _ (fun a => a = l) (.ow ys) s' (Same.refl _) (fun a o q => ?_) (fun a q => .inl q) (fun a o nf q => ?_) (.ow rfl upd_same r') (fun a e => ?_) (fun _ => rfl) es
    · rw [upd_ne (ne_of_none q gl)]; exact gh _ _ q
    · rw [upd_ne]
      · exact q
      · intro e; subst e; exact nf f
    · subst e
      exact ⟨gl, by rw [upd_same]; simp, .inl f⟩
theorem upP_some {i : Nat} {rp : Pth} {s' : Sl} {Γ : DEnv} {r : Res} (h : upP i rp s' Γ = some r) : ∃ s s2, Γ[i]? = some s ∧ setR rp s' s = some s2 ∧ r = .nx (Γ.set i s2) := by
  obtain ⟨s, e1, h⟩ := obind h
  obtain ⟨s2, e2, h⟩ := obind h
  cases h
  exact ⟨s, s2, e1, e2, rfl⟩
theorem s_app {i : Nat} {rp : Pth} {ap : Pos} (hp : PL X o i rp) (he : E X e f) (hst : starEach [e] X.env = (false, eval e X.env) :: starEach [] X.env := by rfl)
    (hpe : ∀ {r : V → List V → Hp → VK → Prop} {to te : TE}, MtR X "list.append" r → PE X o to → PE X e te → PE X (.Call (.Attribute o "append" ap) [e] [] pos) (tBM X.K "list" r to (tCons te tNil)) := by intro r to te hm ho hp; exact pe_bm PySem.F.plainAttrs_list PySem.F.slot_list_append PySem.F.type_list_append hm ho (pa_cons hp pa_nil))
    (hs : swapsWith (.Call (.Attribute o "append" ap) [e] [] pos) none pos'.line X.env = pure false := by rfl) : S X (.Expr (.Call (.Attribute o "append" ap) [e] [] pos) pos') (sApp i rp f) := by
  obtain ⟨t, h1, h2⟩ := he.ex
  obtain ⟨u, u1, u2⟩ := hp.ex
  refine ⟨⟨_, ps_expr (hpe mt_append u1 h1) hs, fun G0 H0 Z Γ σ G H D r R hf k => ?_⟩⟩
  obtain ⟨d, e1, hf⟩ := obind hf
  cases q : gP i rp Γ with
  | none => rw [q] at hf; cases hf
  | some s1 =>
    rw [q] at hf
    cases s1 with
    | ow xs =>
      replace hf : (if xs.length < 1000000 then upP i rp (.ow (xs ++ [d])) Γ else none) = some r := hf
      split at hf
      · rename_i hl
        obtain ⟨s, s2, a1, a2, rfl⟩ := upP_some hf
        obtain ⟨s', b1, b2, b3⟩ := gP_some q (by simp [SlP])
        rw [a1] at b1
        cases b1
        refine u2 G0 H0 Z Γ σ G H G H _ s _ R (Ext.refl R.gh) a1 b2 b3 (by simp) fun v pk => ?_
        obtain ⟨F0, p0⟩ := pk G H (Ext.refl R.gh)
        obtain ⟨l, vs, rfl, c1, c2, _⟩ := p0.list R.gh
        refine ⟨.inl ⟨rfl, _, SqL.of c1⟩, ?_⟩
        refine h2 G0 H0 Z Γ σ G H _ d R e1 fun G1 H1 v x1 r1 => ?_
        obtain ⟨F1, p1⟩ := pk G1 H1 x1
        obtain ⟨l', vs', e', d1, d2, d3⟩ := p1.list x1.gh
        cases e'
        refine ⟨l, vs', v, rfl, rfl, d1, ?_, ?_⟩
        · rw [d2.length]; exact Nat.lt_of_lt_of_le hl line_big
        · exact k σ G1 _ (d3 _ _ _ (d2.append (.cons r1 .nil)) a2)
      · cases hf
    | _ => cases hf
theorem s_aug (i : Nat) {x : Str} {op : Operator} {C : Int → Int → Int} {o : D → D → Option D} (hN : X.N.Nodup) (he : E X e f) (ho : PIp X op (ipI C)) (hoo : ∀ x y d, o x y = some d → ∃ i j, x = .int i ∧ y = .int j ∧ d = .int (C i j)) (hi : X.N[i]? = some x := by rfl) (hx : Loc X.env.scope x := by first | exact Or.inl rfl | exact Or.inr rfl)
    (hf : X.fn x = true ∨ X.env.scope.names.lookup x = some .local := by first | exact .inl rfl | exact .inr rfl | assumption) : S X (.AugAssign (.Name x pos') op e pos) (sAug o i f) := by
  obtain ⟨t, h1, h2⟩ := he.ex
  refine ⟨⟨_, ps_aug hN hi hx h1 ho hf, fun G0 H0 Z Γ σ G H D r R hf k => ?_⟩⟩
  obtain ⟨a, e0, hf⟩ := obind hf
  obtain ⟨b, e1, hf⟩ := obind hf
  obtain ⟨c, e2, hf⟩ := obind hf
  cases hf
  obtain ⟨m, n, rfl, rfl, rfl⟩ := hoo _ _ _ e2
  unfold gV at e0
  cases q : Γ[i]? with
  | none => rw [q] at e0; cases e0
  | some s =>
    rw [q] at e0
    cases s with
    | sh d =>
      cases e0
      obtain ⟨v, a1, a2⟩ := R.sh q
      rw [a2.intv] at a1
      refine ⟨_, a1, h2 G0 H0 Z Γ σ G H _ _ R e1 fun G1 H1 v x1 r1 => ?_⟩
      rw [r1.intv]
      exact ⟨m, n, rfl, rfl, k _ G1 H1 ((R.ext x1).set i (.int _))⟩
    | _ => cases e0
theorem aug_add : ∀ x y d, dAdd x y = some d → (∃ i j, x = .int i ∧ y = .int j ∧ d = .int (i + j)) ∨ ¬ ∃ i, x = .int i := fun x y d h => by
  cases x with
  | int i => cases y with
    | int j => cases h; exact .inl ⟨i, j, rfl, rfl, rfl⟩
    | _ => cases h
  | _ => exact .inr (by simp)
/-- +=, -= of whole numbers -/
def dAddI : D → D → Option D
  | .int i, .int j => some (.int (i + j))
  | _, _ => none
theorem s_augA (i : Nat) {x : Str} (hN : X.N.Nodup) (he : E X e f) (hi : X.N[i]? = some x := by rfl) (hx : Loc X.env.scope x := by first | exact Or.inl rfl | exact Or.inr rfl)
    (hf : X.fn x = true ∨ X.env.scope.names.lookup x = some .local := by first | exact .inl rfl | exact .inr rfl | assumption) : S X (.AugAssign (.Name x pos') .Add e pos) (sAug dAddI i f) :=
  s_aug i hN he ip_add (fun x y d h => by
    cases x with
    | int i => cases y with
      | int j => cases h; exact ⟨i, j, rfl, rfl, rfl⟩
      | _ => cases h
    | _ => cases h) hi hx hf
theorem s_augS (i : Nat) {x : Str} (hN : X.N.Nodup) (he : E X e f) (hi : X.N[i]? = some x := by rfl) (hx : Loc X.env.scope x := by first | exact Or.inl rfl | exact Or.inr rfl)
    (hf : X.fn x = true ∨ X.env.scope.names.lookup x = some .local := by first | exact .inl rfl | exact .inr rfl | assumption) : S X (.AugAssign (.Name x pos') .Sub e pos) (sAug dSub i f) :=
  s_aug i hN he ip_sub (fun x y d h => by
    cases x with
    | int i => cases y with
      | int j => cases h; exact ⟨i, j, rfl, rfl, rfl⟩
      | _ => cases h
    | _ => cases h) hi hx hf
/-- a, b = e -/
theorem s_unp (he : E X e f) (hg : G X tg ix g) (hs : swapsWithSole [tg] e pos.line X.env = pure false := by rfl) (hw : swappedStores [tg] e X.env = pure none := by rfl)
    (h1 : (assignEach [tg] X.env).map (·.2) = [assign tg X.env] := by rfl) : S X (.Assign [tg] e pos) (sUnp g f) := by
  obtain ⟨t, h1', h2⟩ := he.ex
  obtain ⟨u, q1, q2⟩ := hg.ex
  refine ⟨⟨_, ps_asg h1' q1 hs hw h1, fun G0 H0 Z Γ σ G H D r R hf k => ?_⟩⟩
  obtain ⟨d, e1, hf⟩ := obind hf
  obtain ⟨Γ', e2, hf⟩ := obind hf
  cases hf
  refine h2 G0 H0 Z Γ σ G H _ d R e1 fun G1 H1 v x1 r1 => ?_
  exact q2 G0 H0 Z Γ σ G1 H1 _ d v Γ' (R.ext x1) r1 e2 fun σ' R' _ => k σ' G1 H1 R'
/-- a, b = x, y -/
theorem s_par {i j : Nat} {x y : Str} {px py pt : Pos} {kt k2 pt2} (hc : X.calm = true) (hN : X.N.Nodup) (ha : AN X [a, b] 2 fs) (hi : X.N[i]? = some x := by rfl) (hj : X.N[j]? = some y := by rfl) (hij : i ≠ j := by decide)
    (hx : X.env.scope.names.lookup x = some .local := by rfl) (hy : X.env.scope.names.lookup y = some .local := by rfl)
    (hw : swappedStores [.Tuple [.Name x px, .Name y py] kt pt] (.Tuple [a, b] k2 pt2) X.env = pure (some [x, y]) := by rfl)
    (hs : swapsWithSole [.Tuple [.Name x px, .Name y py] kt pt] (.Tuple [a, b] k2 pt2) pos.line X.env = pure false := by rfl) :
    S X (.Assign [.Tuple [.Name x px, .Name y py] kt pt] (.Tuple [a, b] k2 pt2) pos) (sPar [i, j] fs) := by
  obtain ⟨t, h1, h2⟩ := ha.a.ex
  refine ⟨⟨_, ps_par hc hN hi hj hij hx hy h1 hw hs, fun G0 H0 Z Γ σ G H D r R hf k => ?_⟩⟩
  obtain ⟨ds, e1, hf⟩ := obind hf
  cases hf
  have hl := ha.n Γ ds e1
  refine h2 G0 H0 Z Γ σ G H _ ds R e1 fun G1 H1 vs x1 r1 => ?_
  match ds, hl, r1, k with
  | [d1, d2], _, .cons r (.cons q .nil), k => exact ⟨_, _, rfl, k _ G1 H1 (((R.ext x1).set i r).set j q)⟩
theorem s_par3 {i j l : Nat} {x y z : Str} {c : Expr} {px py pz pt : Pos} {kt k2 pt2} (hc : X.calm = true) (hN : X.N.Nodup) (ha : AN X [a, b, c] 3 fs) (hi : X.N[i]? = some x := by rfl) (hj : X.N[j]? = some y := by rfl) (hl : X.N[l]? = some z := by rfl) (hij : i ≠ j := by decide) (hil : i ≠ l := by decide) (hjl : j ≠ l := by decide)
    (hx : X.env.scope.names.lookup x = some .local := by rfl) (hy : X.env.scope.names.lookup y = some .local := by rfl) (hz : X.env.scope.names.lookup z = some .local := by rfl)
    (hw : swappedStores [.Tuple [.Name x px, .Name y py, .Name z pz] kt pt] (.Tuple [a, b, c] k2 pt2) X.env = pure (some [x, y, z]) := by rfl)
    (hs : swapsWithSole [.Tuple [.Name x px, .Name y py, .Name z pz] kt pt] (.Tuple [a, b, c] k2 pt2) pos.line X.env = pure false := by rfl) :
    S X (.Assign [.Tuple [.Name x px, .Name y py, .Name z pz] kt pt] (.Tuple [a, b, c] k2 pt2) pos) (sPar [i, j, l] fs) := by
  obtain ⟨t, h1, h2⟩ := ha.a.ex
  refine ⟨⟨_, ps_par3 hc hN hi hj hl hij hil hjl hx hy hz h1 hw hs, fun G0 H0 Z Γ σ G H D r R hf k => ?_⟩⟩
  obtain ⟨ds, e1, hf⟩ := obind hf
  cases hf
  have hl := ha.n Γ ds e1
  refine h2 G0 H0 Z Γ σ G H _ ds R e1 fun G1 H1 vs x1 r1 => ?_
  match ds, hl, r1, k with
  | [d1, d2, d3], _, .cons r (.cons q (.cons w .nil)), k => exact ⟨_, _, _, rfl, k _ G1 H1 ((((R.ext x1).set i r).set j q).set l w)⟩

/-! loops -/
def forL (g : Gs) (body : Sm) : List D → Sm
  | [], Γ => some (.nx Γ)
  | d :: ds, Γ => (g d Γ).bind fun Γ1 => (body Γ1).bind fun r => match r with
    | .nx Γ2 => forL g body ds Γ2
    | .ct Γ2 => forL g body ds Γ2
    | .bk Γ2 => some (.nx Γ2)
    | .rt d => some (.rt d)
    | .rm d s => some (.rm d s)
    | .ro s => some (.ro s)
def sFor (it : Ag) (g : Gs) (body : Sm) : Sm := fun Γ => (it Γ).bind fun ds => forL g body ds Γ
def whileN : Nat → Te → Sm → Sm
  | 0, _, _, _ => none
  | n + 1, c, body, Γ => (c Γ).bind fun b => if b then (body Γ).bind fun r => match r with
      | .nx Γ2 => whileN n c body Γ2
      | .ct Γ2 => whileN n c body Γ2
      | .bk Γ2 => some (.nx Γ2)
      | .rt d => some (.rt d)
      | .rm d s => some (.rm d s)
      | .ro s => some (.ro s)
    else some (.nx Γ)
open Classical in
noncomputable def sWhile (c : Te) (body : Sm) : Sm := fun Γ => if h : ∃ r n, whileN n c body Γ = some r then some h.choose else none
theorem whileN_mono {c : Te} {body : Sm} : ∀ {n m : Nat} {Γ : DEnv} {r : Res}, n ≤ m → whileN n c body Γ = some r → whileN m c body Γ = some r
  | 0, _, _, _, _, h => by cases h
  | n + 1, 0, _, _, h, _ => by omega
  | n + 1, m + 1, Γ, r, hm, h => by
    unfold whileN at h ⊢
    obtain ⟨b, e1, h⟩ := obind h
    rw [e1]
    cases b with
    | false => exact h
    | true =>
      replace h : ((body Γ).bind fun r => match r with
        | .nx Γ2 => whileN n c body Γ2
        | .ct Γ2 => whileN n c body Γ2
        | .bk Γ2 => some (.nx Γ2)
        | .rt d => some (.rt d)
        | .rm d s => some (.rm d s)
        | .ro s => some (.ro s)) = some r := h
      obtain ⟨r1, e2, h⟩ := obind h
      show ((body Γ).bind fun r => match r with
        | .nx Γ2 => whileN m c body Γ2
        | .ct Γ2 => whileN m c body Γ2
        | .bk Γ2 => some (.nx Γ2)
        | .rt d => some (.rt d)
        | .rm d s => some (.rm d s)
        | .ro s => some (.ro s)) = some r
      rw [e2]
      cases r1 with
      | nx Γ2 => exact whileN_mono (by omega) h
      | ct Γ2 => exact whileN_mono (by omega) h
      | bk Γ2 => exact h
      | rt d => exact h
      | rm d s => exact h
      | ro s => exact h
theorem sWhile_of {c : Te} {body : Sm} {Γ : DEnv} {r : Res} {n : Nat} (h : whileN n c body Γ = some r) : sWhile c body Γ = some r := by
  unfold sWhile
  have ex : ∃ r n, whileN n c body Γ = some r := ⟨r, n, h⟩
  rw [dif_pos ex]
  obtain ⟨m, hm⟩ := ex.choose_spec
  have h1 := whileN_mono (Nat.le_max_left n m) h
  have h2 := whileN_mono (Nat.le_max_right n m) hm
  rw [h1] at h2
  exact h2.symm
theorem sWhile_some {c : Te} {body : Sm} {Γ : DEnv} {r : Res} (h : sWhile c body Γ = some r) : ∃ n, whileN n c body Γ = some r := by
  unfold sWhile at h
  split at h
  · rename_i ex
    cases h
    exact ex.choose_spec
  · cases h
/-- what is known grows: the base moves on -/
theorem Rel.rebase {K : PySem.W.Frag} {mg : Str → Option Value} {G0 H0 : Hp} {Z : Zs} {Γ : DEnv} {σ : L2.St} {G H : Hp} (R : Rel K mg G0 H0 Z Γ σ G H) : Rel K mg G H0 Z Γ σ G H :=
  ⟨R.len, R.gh, R.hh, Same.refl _, fun a h => .inl h, R.zz, R.an, R.tb, R.tz, R.tc, R.hn, R.own⟩
theorem Rel.unbase {K : PySem.W.Frag} {mg : Str → Option Value} {G0 H0 : Hp} {Z : Zs} {Γ Γ' : DEnv} {σ σ' : L2.St} {G H G' H' : Hp} (R : Rel K mg G0 H0 Z Γ σ G H) (R' : Rel K mg G H0 Z Γ' σ' G' H') : Rel K mg G0 H0 Z Γ' σ' G' H' :=
  ⟨R'.len, R'.gh, R'.hh, R.gg.trans R'.gg, fun a h => by
    rcases R'.new a h with z | z
    · exact R.new a z
    · exact .inr z, R'.zz, R'.an, R'.tb, R'.tz, R'.tc, R'.hn, R'.own⟩
theorem Rel.unext {K : PySem.W.Frag} {mg : Str → Option Value} {G0 H0 : Hp} {Z : Zs} {Γ : DEnv} {σ : L2.St} {G H G' H' : Hp} (R : Rel K mg G0 H0 Z Γ σ G H) (x : Ext G H0 G' H') : Ext G0 H0 G' H' :=
  ⟨R.gg.trans x.gg, x.hh, x.gh, fun a h => by
    rcases x.new a h with z | z
    · exact R.new a z
    · exact .inr z, x.hn, fun t0 => x.tb (TC.ti.keep t0 R.gg (fun _ _ => rfl) (fun a h _ => (TC.ti.live R.tbc a h).2))⟩
theorem s_for {iter : Expr} {body : List Stmt} {it : Ag} (hp : PassesOwn (model X.prog X.w) X.A X.env X.xe) (hc : X.calm = true) (hi : IB X tg iter it) (hg : G X tg ix g) (hb : Ss X body F) (hs : ∀ x, foldedSetIterable iter X.env x = pure x := by intro _; rfl) :
    S X (.For tg iter body [] pos) (sFor it g F) := by
  obtain ⟨wi, w1, w2⟩ := hi.ex
  obtain ⟨t, t1, t2⟩ := hg.ex
  obtain ⟨u, u1, u2⟩ := hb.ex
  refine ⟨⟨_, ps_for hp hc w1 t1 u1 hs, fun G0 H0 Z Γ σ G H D r R hf k => ?_⟩⟩
  obtain ⟨ds, e1, hf⟩ := obind hf
  refine w2 G0 H0 Z Γ σ G H _ ds R e1 fun G1 H1 J x1 hJ => ?_
  have R1 := R.ext x1
  refine ⟨fun i m σ' H' => m = ds.length - i ∧ i ≤ ds.length ∧ ∃ Γ' G', Rel X.K X.mg G1 H0 Z Γ' σ' G' H' ∧ forL g F (ds.drop i) Γ' = some r, ⟨ds.length, by simp, Nat.zero_le _, Γ, G1, R1.rebase, by simpa using hf⟩, ?_⟩
  rintro i m σ' H' ⟨rfl, hi, Γ', G', R', hr⟩
  obtain ⟨st, go⟩ := hJ i G' H' R'.gg R'.gh R'.hh
  by_cases hlt : i < ds.length
  · have hd : ds.drop i = ds[i] :: ds.drop (i + 1) := List.drop_eq_getElem_cons hlt
    obtain ⟨g1, g2⟩ := go ds[i] (List.getElem?_eq_getElem hlt)
    rw [hd] at hr
    obtain ⟨Γ1, c1, hr⟩ := obind hr
    obtain ⟨r1, c2, hr⟩ := obind hr
    refine .inr ⟨g1, fun σ2 H2 => ∃ Γ2 G2, Rel X.K X.mg G1 H0 Z Γ2 σ2 G2 H2 ∧ forL g F (ds.drop (i + 1)) Γ2 = some r, fun σ2 H2 ⟨Γ2, G2, R2, h2⟩ => ⟨ds.length - (i + 1), by omega, rfl, hlt, Γ2, G2, R2, h2⟩, fun x H2 y => ?_⟩
    obtain ⟨G2, x2, r2⟩ := g2 x H2 y
    refine t2 G1 H0 Z Γ' σ' G2 H2 _ _ x Γ1 (R'.ext x2) r2 c1 fun σ3 R3 _ => ?_
    refine u2 G1 H0 Z Γ1 σ3 G2 H2 _ r1 R3 c2 ?_
    cases r1 with
    | nx Γ2 => exact fun σ4 G4 H4 R4 => ⟨Γ2, G4, R4, hr⟩
    | ct Γ2 => exact fun σ4 G4 H4 R4 => ⟨Γ2, G4, R4, hr⟩
    | bk Γ2 => cases hr; exact fun σ4 G4 H4 R4 => k σ4 G4 H4 (R1.unbase R4)
    | rt d => cases hr; exact fun G4 H4 v x4 r4 => k G4 H4 v (R1.unext x4) r4
    | rm d s => cases hr; exact fun Γ4 σ4 G4 H4 v R4 e4 r4 => k Γ4 σ4 G4 H4 v (R1.unbase R4) e4 r4
    | ro s => cases hr; exact fun G4 H4 v F4 x4 r4 f4 => k G4 H4 v F4 (R1.unext x4) r4 f4
  · have e : i = ds.length := by omega
    subst e
    refine .inl ⟨st (Nat.le_refl _), ?_⟩
    rw [List.drop_length] at hr
    cases hr
    exact k σ' G' H' (R1.unbase R')
theorem s_while {c : Expr} {body : List Stmt} (hp : PassesOwn (model X.prog X.w) X.A X.env X.xe) (hc : T X c p) (hb : Ss X body F) : S X (.While c body [] pos) (sWhile p F) := by
  obtain ⟨t, t1, t2⟩ := hc.ex
  obtain ⟨u, u1, u2⟩ := hb.ex
  refine ⟨⟨_, ps_while hp t1 u1, fun G0 H0 Z Γ σ G H D r R hf k => ?_⟩⟩
  obtain ⟨n, hn⟩ := sWhile_some hf
  refine ⟨fun m σ' H' => ∃ Γ' G', Rel X.K X.mg G0 H0 Z Γ' σ' G' H' ∧ whileN m p F Γ' = some r, ⟨n, Γ, G, R, hn⟩, fun m σ' H' ⟨Γ', G', R', h⟩ => ?_⟩
  cases m with
  | zero => cases h
  | succ m =>
    unfold whileN at h
    obtain ⟨b, e1, h⟩ := obind h
    refine t2 G0 H0 Z Γ' σ' G' H' _ b R' e1 fun G1 H1 x1 => ?_
    cases b with
    | false =>
      cases h
      exact iteF (k σ' G1 H1 (R'.ext x1))
    | true =>
      replace h : ((F Γ').bind fun r => match r with
        | .nx Γ2 => whileN m p F Γ2
        | .ct Γ2 => whileN m p F Γ2
        | .bk Γ2 => some (.nx Γ2)
        | .rt d => some (.rt d)
        | .rm d s => some (.rm d s)
        | .ro s => some (.ro s)) = some r := h
      obtain ⟨r1, e2, h⟩ := obind h
      refine iteT ⟨fun σ2 H2 => ∃ Γ2 G2, Rel X.K X.mg G0 H0 Z Γ2 σ2 G2 H2 ∧ whileN m p F Γ2 = some r, fun σ2 H2 h => ⟨m, Nat.lt_succ_self _, h⟩, ?_⟩
      refine u2 G0 H0 Z Γ' σ' G1 H1 _ r1 (R'.ext x1) e2 ?_
      cases r1 with
      | nx Γ2 => exact fun σ4 G4 H4 R4 => ⟨Γ2, G4, R4, h⟩
      | ct Γ2 => exact fun σ4 G4 H4 R4 => ⟨Γ2, G4, R4, h⟩
      | bk Γ2 => cases h; exact fun σ4 G4 H4 R4 => k σ4 G4 H4 R4
      | rt d => cases h; exact fun G4 H4 v x4 r4 => k G4 H4 v x4 r4
      | rm d s => cases h; exact fun Γ4 σ4 G4 H4 v R4 e4 r4 => k Γ4 σ4 G4 H4 v R4 e4 r4
      | ro s => cases h; exact fun G4 H4 v F4 x4 r4 f4 => k G4 H4 v F4 x4 r4 f4
/-- y = [.. for .. in ..] -/
theorem s_setLc (i : Nat) {y : Str} {py : Pos} {elt iter : Expr} {ifs : List Expr} {scope : Scope} {own : List (Str × Nat)} {it : Ag} {spos : Pos} (hc : X.calm = true) (hN : X.N.Nodup) (hi : IC X tg iter it) (ok : BlkOk X.N X.env.scope scope own) (hix : ∀ i ∈ ix, i ∈ own.map (·.2))
    (hg : ∀ (s : Shared) (H : Hp) (C : Addr) (cl : List (Str × Addr)) (fp : List Addr), G (X.blk s H scope (compEnvC scope cl C X.env) fp) tg ix g)
    (ht : ∀ (s : Shared) (H : Hp) (C : Addr) (cl : List (Str × Addr)) (fp : List Addr), Ts (X.blk s H scope (compEnvC scope cl C X.env) fp) ifs p)
    (he : ∀ (s : Shared) (H : Hp) (C : Addr) (cl : List (Str × Addr)) (fp : List Addr), E (X.blk s H scope (compEnvC scope cl C X.env) fp) elt f)
    (hy : X.N[i]? = some y := by rfl) (hyl : X.env.scope.names.lookup y = some .local := by rfl) (hsw : swapsWith (.ListComp elt [⟨tg, iter, ifs, 0⟩] scope pos) (some (.Name y py)) spos.line X.env = pure true := by exact sw_true rfl rfl rfl (by decide +kernel)) (hs : ∀ x, foldedSetIterable iter X.env x = pure x := by intro _; rfl) (h0 : i ≠ 0 := by decide) :
    S X (.Assign [.Name y py] (.ListComp elt [⟨tg, iter, ifs, 0⟩] scope pos) spos) (sSetO i (gLc (own.map (·.2)) it g p f)) := by
  obtain ⟨wi, w1, w2⟩ := hi.ex
  refine ⟨⟨_, ps_setLc (te := fun σ H Q => ∃ G0 H0 Z Γ G d, Rel X.K X.mg G0 H0 Z Γ σ G H ∧ f Γ = some d ∧ ∀ G' H' v, Ext G H G' H' → Rep X.K X.mg G' v d → Q v H') (tt := fun σ H Q => ∃ G0 H0 Z Γ G d, Rel X.K X.mg G0 H0 Z Γ σ G H ∧ p Γ = some d ∧ ∀ G' H', Ext G H G' H' → Q d H') (g := fun v σ H Q => ∃ G0 H0 Z Γ G d Γ', Rel X.K X.mg G0 H0 Z Γ σ G H ∧ Rep X.K X.mg G v d ∧ g d Γ = some Γ' ∧ ∀ σ', Rel X.K X.mg G0 H0 Z Γ' σ' G H → (∀ vs, (∀ i ∈ ix, i ∈ vs) → L2.wipe σ' vs = L2.wipe σ vs) → Q σ' H) hc hN hy hyl hsw w1 ok (fun s H C cl fp => (hg s H C cl fp).pg) (fun s H C cl fp => (ht s H C cl fp).pt) (fun s H C cl fp => (he s H C cl fp).pe) hs, fun G0 H0 Z Γ σ G H D r R hf k => ?_⟩⟩
  obtain ⟨d, e1, hf⟩ := obind hf
  cases hf
  exact lc_run hix w2 R e1 fun G1 H1 q vs x1 hq gq h r1 => k _ G1 H1 (set_own R x1 hq gq h r1 i h0)
/-- x[k] = e of a list of one's own -/
theorem s_ixS {i : Nat} {rp : Pth} {sp : Pos} (hp : PL X o i rp) (he : E X e f) (hk : E X a k)
    (hpg : ∀ {to ti : TE}, PE X o to → PE X a ti → PG X (.Subscript o a sp) (gSub to ti rSetL) := by intro to ti ho h; exact pg_sub ho h set_list)
    (hs : swapsWithSole [.Subscript o a sp] e pos.line X.env = pure false := by rfl) (hw : swappedStores [.Subscript o a sp] e X.env = pure none := by rfl)
    (h1 : (assignEach [.Subscript o a sp] X.env).map (·.2) = [assign (.Subscript o a sp) X.env] := by rfl) : S X (.Assign [.Subscript o a sp] e pos) (sIxS i rp k f) := by
  obtain ⟨t, t1, t2⟩ := he.ex
  obtain ⟨u, u1, u2⟩ := hk.ex
  obtain ⟨w, w1, w2⟩ := hp.ex
  refine ⟨⟨_, ps_asg t1 (hpg w1 u1) hs hw h1, fun G0 H0 Z Γ σ G H D r R hf kk => ?_⟩⟩
  obtain ⟨d, e1, hf⟩ := obind hf
  obtain ⟨j, e2, hf⟩ := obind hf
  refine t2 G0 H0 Z Γ σ G H _ d R e1 fun G1 H1 v x1 r1 => ?_
  have R1 := R.ext x1
  cases q : gP i rp Γ with
  | none => rw [q] at hf; cases hf
  | some s1 =>
    rw [q] at hf
    cases s1 with
    | ow xs =>
      cases j with
      | int m =>
        replace hf : ((ixN xs.length m).bind fun m => upP i rp (.ow (xs.set m d)) Γ) = some r := hf
        obtain ⟨j, e3, hf⟩ := obind hf
        obtain ⟨s, s2, a1, a2, rfl⟩ := upP_some hf
        obtain ⟨s', b1, b2, b3⟩ := gP_some q (by simp [SlP])
        rw [a1] at b1
        cases b1
        refine w2 G0 H0 Z Γ σ G1 H1 G1 H1 _ s _ R1 (Ext.refl x1.gh) a1 b2 b3 (by simp) fun v0 pk => ?_
        refine u2 G0 H0 Z Γ σ G1 H1 _ _ R1 e2 fun G2 H2 w x2 r2 => ?_
        obtain ⟨F1, p1⟩ := pk G2 H2 x2
        obtain ⟨l, vs, rfl, d1, d2, d3⟩ := p1.list x2.gh
        rw [r2.intv]
        refine ⟨l, vs, m, j, rfl, rfl, d1, by rw [d2.length]; exact e3, ?_⟩
        exact kk σ G2 _ (d3 _ _ _ (d2.set j (r1.mono x2.gg)) a2)
      | _ => cases hf
    | _ => cases hf
end

/-! ### a def by its body -/
def runB (n : Nat) (F : Sm) : List D → Option D := fun ds => (F (ds.map Sl.sh ++ List.replicate (n - ds.length) .no)).bind fun r => match r with
  | .rt d => some d
  | .nx _ => some .non
  | _ => none
theorem start_get {N : Nat} {ds : List D} {i : Nat} {s : Sl} (h : (ds.map Sl.sh ++ List.replicate (N - ds.length) .no)[i]? = some s) : s = .no ∨ ∃ d, ds[i]? = some d ∧ s = .sh d := by
  by_cases hi : i < ds.length
  · rw [List.getElem?_append_left (by simpa using hi), List.getElem?_map, List.getElem?_eq_getElem hi] at h
    cases h
    exact .inr ⟨_, List.getElem?_eq_getElem hi, rfl⟩
  · rw [List.getElem?_append_right (by simpa using hi), List.getElem?_replicate] at h
    split at h
    · cases h; exact .inl rfl
    · cases h
theorem start_rel {K : PySem.W.Frag} {mg : Str → Option Value} {G H : Hp} {N : List Str} {vs : List V} {ds : List D} (gh : Same G H) (tb : TC.ti.t G H) (r : RepL K mg G vs ds) : Rel K mg G H ⟨TC.ti.tz, none, TC.ti⟩ (ds.map Sl.sh ++ List.replicate (N.length - ds.length) .no) (L2.start N vs) G H := by
  have hl := r.length
  unfold L2.start
  refine ⟨by simp [hl], gh, same_n (Same.refl _), Same.refl _, fun a h => .inl h, fun a z => (TC.ti.live tb a z).1, fun _ _ z => (by cases z), tb, fun _ h => h, rfl, fun _ h => h, fun _ _ => False, fun _ _ z => z.elim, fun _ _ _ z => z.elim, fun i s h => ?_⟩
  rcases start_get h with z | ⟨d, e1, rfl⟩
  · exact .inl z
  · obtain ⟨v, e2, e3⟩ := r.get i e1
    refine .inr (.inl ⟨v, ?_, .sh e3⟩)
    have hi : i < vs.length := (List.getElem?_eq_some_iff.mp e2).1
    rw [List.getElem?_append_left (by simpa using hi), List.getElem?_map, e2]
    rfl
section
variable {P : Program} {w : World} {K : PySem.W.Frag} {mg : Str → Option Value} {base : Heap}
theorem def_ok {x qual : Str} {st : Stmt} {f : Addr} {fd : FuncData} {N ps : List Str} {k : Nat} {B : Sm} (F : Fun K x qual st f fd) (S : FnScope N ps (defScope st))
    (hbody : ∀ (cdv : Value) (A : Around) (outer : List PySem.Env) (s : Shared) (H : Hp) (E : XK), Room k (A.deeper (PyProof.Rows.envOfC qual (defScope st) s.heap.objs.size f cdv)) →
      Ss (cxOf CX0 P w K mg base N qual (defScope st) f cdv A outer s H E).nox (defBody st) B) : FnOk P w K mg base CX0 (k + 1) f fd ps (spD K mg ps.length (runB N.length B)) := by
  refine F.ok S (fun vs H Q E h => ?_) (fun cdv A outer s H vs Q E hr h => ?_)
  · obtain ⟨G, ds, d, hl, _⟩ := h
    exact hl
  · obtain ⟨G, ds, d, hl, gh, tb, r, hf, k'⟩ := h
    obtain ⟨t, h1, h2⟩ := (hbody cdv A outer s H E hr).ex
    refine ⟨t, h1, ?_⟩
    obtain ⟨r1, e1, hf⟩ := obind hf
    refine h2 G H _ _ _ G H _ r1 (start_rel gh tb r) e1 ?_
    cases r1 with
    | rt d' => cases hf; exact fun G' H' v x r => k' G' H' v x r
    | nx Γ => cases hf; exact fun σ' G' H' R => k' G' H' _ R.end .non
    | rm d s => cases hf
    | ro s => cases hf
    | bk Γ => cases hf
    | ct Γ => cases hf
/-- the value said in another way -/
theorem spD_imp {n : Nat} {F F' : List D → Option D} {f : Addr} {fd : FuncData} {ps : List Str} {k : Nat} (h : FnOk P w K mg base CX0 k f fd ps (spD K mg n F)) (hF : ∀ ds d, F' ds = some d → F ds = some d) : FnOk P w K mg base CX0 k f fd ps (spD K mg n F') :=
  h.imp fun vs H Q E ⟨G, ds, d, h1, h2, h3, h3', h4, h5⟩ => ⟨G, ds, d, h1, h2, h3, h3', hF ds d h4, h5⟩
end
end DL

namespace DL
open PySem L2
variable [TC : TabCtx]

/-! ### words for callers -/
structure Cal (P : Program) (w : World) (K : PySem.W.Frag) (mg : Str → Option Value) (base : Heap) (x : Str) (L : Nat) (ps : List Str) (S : List D → Option D) : Prop where
  ex : ∃ f fd, FnOk P w K mg base CX0 L f fd ps (spD K mg ps.length S) ∧ mg x = some (.ref f) ∧ PySem.W.keepIn K (.ref f) = true ∧ Binds K fd ps []
structure Met (P : Program) (w : World) (K : PySem.W.Frag) (mg : Str → Option Value) (base : Heap) (c : Nat) (m : Str) (L : Nat) (ps : List Str) (S : List D → Option D) : Prop where
  ex : ∃ C f fd, CK K mg c C ∧ Meth K C m f ∧ FnOk P w K mg base CX0 L f fd ps (spD K mg ps.length S) ∧ Binds K fd ps []
section
variable {X : Cx} {e a b o : Expr} {es : List Expr} {f g : Ex} {fs : Ag} {pos : Pos} {n : Nat}
theorem e_callC {k L : Nat} {ps : List Str} {S : List D → Option D} {x : Str} {p : Pos} (c : Cal X.prog X.w X.K X.mg X.base x L ps S) (hr : Room k X.A) (hk : L ≤ k)
    (ha : AN X (a :: es) ps.length fs) (hg : Gl X x := by rfl) (hdb : (x == ("__debug__" : Str)) = false := by decide) (he : starEach (a :: es) X.env = (false, eval a X.env) :: starEach es X.env := by rfl) (hpl : (backTo pos (starEach es X.env)).any (·.1) = false := by rfl) :
    E X (.Call (.Name x p) (a :: es) [] pos) (gCall S fs) := by
  obtain ⟨f, fd, h1, h2, h3, h4⟩ := c.ex
  exact e_call h1 (hr.mono hk) h2 h3 h4 ha hg hdb he hpl
theorem e_callC0 {k L : Nat} {S : List D → Option D} {x : Str} {p : Pos} (c : Cal X.prog X.w X.K X.mg X.base x L [] S) (hr : Room k X.A) (hk : L ≤ k)
    (hg : Gl X x := by rfl) (hdb : (x == ("__debug__" : Str)) = false := by decide) : E X (.Call (.Name x p) [] [] pos) (gCall S aN) := by
  obtain ⟨f, fd, h1, h2, h3, h4⟩ := c.ex
  exact e_call0 h1 (hr.mono hk) h2 h3 h4 hg hdb
theorem e_metC {pl : Sem Bool} {c k L : Nat} {p0 : Str} {ps : List Str} {S : List D → Option D} {m : Str} {apos : Pos} (mt : Met X.prog X.w X.K X.mg X.base c m L (p0 :: ps) S) (hr : Room k X.A) (hk : L ≤ k)
    (ho : E X o f) (ha : AN X (a :: es) ps.length fs) (hno : m ∉ cF c := by decide +kernel)
    (hst : starEach (a :: es) X.env = (false, eval a X.env) :: starEach es X.env := by rfl) (hpl : (backTo pos (starEach es X.env)).any (·.1) = false := by rfl)
    (ht : eval (.Call (.Attribute o m apos) (a :: es) [] pos) X.env = (do
      let ov ← eval o X.env
      standAt apos.atName
      let (f, first) ← holding [ov] (getMethod ov m pl)
      callWith pos f first (backTo pos (starEach (a :: es) X.env)) (backToKw pos (keywordEach [] X.env))) := by rfl) : E X (.Call (.Attribute o m apos) (a :: es) [] pos) (gMeth c S f fs) := by
  obtain ⟨C, fa, fd, h1, h2, h3, h4⟩ := mt.ex
  exact e_meth h1 h2 h3 (hr.mono hk) h4 ho ha hno hst hpl ht
theorem e_metC0 {pl : Sem Bool} {c k L : Nat} {p0 : Str} {S : List D → Option D} {m : Str} {apos : Pos} (mt : Met X.prog X.w X.K X.mg X.base c m L [p0] S) (hr : Room k X.A) (hk : L ≤ k)
    (ho : E X o f) (hno : m ∉ cF c := by decide +kernel)
    (ht : eval (.Call (.Attribute o m apos) [] [] pos) X.env = (do
      let ov ← eval o X.env
      standAt apos.atName
      let (f, first) ← holding [ov] (getMethod ov m pl)
      callWith pos f first (backTo pos (starEach [] X.env)) (backToKw pos (keywordEach [] X.env))) := by rfl) : E X (.Call (.Attribute o m apos) [] [] pos) (gMeth c S f aN) := by
  obtain ⟨C, fa, fd, h1, h2, h3, h4⟩ := mt.ex
  exact e_meth0 h1 h2 h3 (hr.mono hk) h4 ho hno ht
/-- y = [..], known to all -/
theorem s_setLcS (i : Nat) {y : Str} {py : Pos} {elt iter tg : Expr} {ifs : List Expr} {scope : Scope} {own : List (Str × Nat)} {it : Ag} {spos : Pos} {ix : List Nat} {g : Gs} {p : Te} (hc : X.calm = true) (hN : X.N.Nodup) (hi : IC X tg iter it) (ok : BlkOk X.N X.env.scope scope own) (hix : ∀ i ∈ ix, i ∈ own.map (·.2))
    (hg : ∀ (s : Shared) (H : Hp) (C : Addr) (cl : List (Str × Addr)) (fp : List Addr), G (X.blk s H scope (compEnvC scope cl C X.env) fp) tg ix g)
    (ht : ∀ (s : Shared) (H : Hp) (C : Addr) (cl : List (Str × Addr)) (fp : List Addr), Ts (X.blk s H scope (compEnvC scope cl C X.env) fp) ifs p)
    (he : ∀ (s : Shared) (H : Hp) (C : Addr) (cl : List (Str × Addr)) (fp : List Addr), E (X.blk s H scope (compEnvC scope cl C X.env) fp) elt f)
    (hy : X.N[i]? = some y := by rfl) (hyl : X.env.scope.names.lookup y = some .local := by rfl) (hsw : swapsWith (.ListComp elt [⟨tg, iter, ifs, 0⟩] scope pos) (some (.Name y py)) spos.line X.env = pure true := by exact sw_true rfl rfl rfl (by decide +kernel)) (hs : ∀ x, foldedSetIterable iter X.env x = pure x := by intro _; rfl) (h0 : i ≠ 0 := by decide) :
    S X (.Assign [.Name y py] (.ListComp elt [⟨tg, iter, ifs, 0⟩] scope pos) spos) (sSet i (gL (gLc (own.map (·.2)) it g p f))) := by
  obtain ⟨t, h1, h2⟩ := (s_setLc (f := f) (py := py) (spos := spos) (pos := pos) i hc hN hi ok hix hg ht he hy hyl hsw hs h0).ex
  refine ⟨⟨t, h1, fun G0 H0 Z Γ σ G H D r R hf k => ?_⟩⟩
  obtain ⟨d, e1, hf⟩ := obind hf
  obtain ⟨ds, e2, e1⟩ := obind e1
  cases e1
  cases hf
  refine h2 G0 H0 Z Γ σ G H D (.nx (Γ.set i (.ow ds))) R (by show (gLc _ _ _ _ _ Γ).bind _ = _; rw [e2]; rfl) fun σ1 G1 H1 R1 => ?_
  by_cases hi : i < Γ.length
  · have q : (Γ.set i (.ow ds))[i]? = some (.ow ds) := by simp [hi]
    obtain ⟨G2, R2, _⟩ := R1.frzP (rp := []) (d := .lst ds) q rfl (by simp) (by simp [SlP]) rfl rfl
    rw [List.set_set] at R2
    exact k σ1 G2 H1 R2
  · have e : ∀ s, Γ.set i s = Γ := fun s => List.set_eq_of_length_le (by omega)
    rw [e] at R1
    refine k σ1 G1 H1 ?_
    rw [e]
    exact R1
theorem v_notT (h : B X e f) : V1 X (.UnaryOp .Not e pos) (gNot (gTru f)) := by
  obtain ⟨t, h1, h2⟩ := h.ex
  refine ⟨⟨⟨_, pe_notT h1, fun G0 H0 Z Γ σ G H Q c R hf k => ?_⟩⟩⟩
  obtain ⟨d0, e0, hf⟩ := obind hf
  cases hf
  obtain ⟨d1, e1, hf⟩ := obind e0
  cases hf
  obtain ⟨d2, e2, hf⟩ := obind e1
  refine h2 G0 H0 Z Γ σ G H _ _ R e2 fun G' H' v x r => ?_
  have z := dTru_ok x.gh hf r
  exact ⟨d1, z, k G' H' _ x (.bl _)⟩
end
theorem boot_len' : bootBuiltins "len" = some (.builtin "len") := PySem.boot_len
theorem boot_abs' : bootBuiltins "abs" = some (.builtin "abs") := by decide +kernel
theorem boot_max' : bootBuiltins "max" = some (.builtin "max") := by decide +kernel
theorem boot_min' : bootBuiltins "min" = some (.builtin "min") := by decide +kernel
theorem boot_sum' : bootBuiltins "sum" = some (.builtin "sum") := by decide +kernel
theorem boot_all' : bootBuiltins "all" = some (.builtin "all") := by decide +kernel
theorem boot_any' : bootBuiltins "any" = some (.builtin "any") := by decide +kernel
theorem boot_sorted' : bootBuiltins "sorted" = some (.builtin "sorted") := by decide +kernel
theorem boot_isinstance' : bootBuiltins "isinstance" = some (.builtin "isinstance") := by decide +kernel
theorem boot_int' : bootBuiltins "int" = some (.type "int") := by decide +kernel
theorem boot_list' : bootBuiltins "list" = some (.type "list") := by decide +kernel
theorem boot_bool' : bootBuiltins "bool" = some (.type "bool") := by decide +kernel
theorem boot_tuple' : bootBuiltins "tuple" = some (.type "tuple") := by decide +kernel
theorem boot_str' : bootBuiltins "str" = some (.type "str") := by decide +kernel
end DL

namespace DL
open PySem L2
variable [TC : TabCtx]

/-! ### reckoning a meaning step by step -/
section
variable {Γ Γ1 Γ2 : DEnv} {f g k : Ex} {fs : Ag} {p q : Te} {F F' F'' : Sm} {d x y z : D} {ds : List D} {b c : Bool} {r : Option Res} {o : D → D → Option D} {u : D → Option D} {i n : Nat} {m j : Int}
theorem ev_V (h : Γ[i]? = some (.sh d)) : gV i Γ = some d := by unfold gV; rw [h]
theorem ev_B (h : Γ[i]? = some (.sh d)) : gB i Γ = some d := by unfold gB; rw [h]
theorem ev_Bo {xs : List D} (h : Γ[i]? = some (.ow xs)) : gB i Γ = some (.lst xs) := by unfold gB; rw [h]
theorem ev_I : gI m Γ = some (.int m) := rfl
theorem ev_C : gC d Γ = some d := rfl
theorem ev_op (h1 : f Γ = some x) (h2 : g Γ = some y) (h3 : o x y = some d) : gOp o f g Γ = some d := by unfold gOp; rw [h1]; show (g Γ).bind _ = _; rw [h2]; exact h3
theorem ev_U (h1 : f Γ = some x) (h2 : u x = some d) : gU u f Γ = some d := by unfold gU; rw [h1]; exact h2
theorem ev_call {S : List D → Option D} (h1 : fs Γ = some ds) (h2 : S ds = some d) : gCall S fs Γ = some d := by unfold gCall; rw [h1]; exact h2
theorem ev_A {S : List D → Option D} (h1 : fs Γ = some ds) (h2 : S ds = some d) : gA S fs Γ = some d := by unfold gA; rw [h1]; exact h2
theorem ev_cs (h1 : f Γ = some d) (h2 : fs Γ = some ds) : aC f fs Γ = some (d :: ds) := by unfold aC; rw [h1]; show (fs Γ).bind _ = _; rw [h2]; rfl
theorem ev_nl : aN Γ = some [] := rfl
theorem ev_tu (h : fs Γ = some ds) : gTu n fs Γ = some (.tup ds) := by unfold gTu; rw [h]; rfl
theorem ev_L (h : fs Γ = some ds) : gL fs Γ = some (.lst ds) := by unfold gL; rw [h]; rfl
theorem ev_UL {u : D → Option (List D)} (h1 : f Γ = some x) (h2 : u x = some ds) : gUL u f Γ = some ds := by unfold gUL; rw [h1]; exact h2
theorem ev_Sl {fl fh : Op} {l h : Option Int} (h1 : f Γ = some x) (h2 : fl Γ = some l) (h3 : fh Γ = some h) (h4 : dCut x l h = some ds) : gSl f fl fh Γ = some ds := by unfold gSl; rw [h1]; show (fl Γ).bind _ = _; rw [h2]; show (fh Γ).bind _ = _; rw [h3]; exact h4
theorem ev_No : gNo Γ = some none := rfl
theorem ev_So (h : f Γ = some (.int m)) : gSo f Γ = some (some m) := by unfold gSo; rw [h]; rfl
theorem ev_meth {c : Nat} {S : List D → Option D} {vs : List D} (h1 : f Γ = some (.obj c vs)) (h2 : fs Γ = some ds) (h3 : S (.obj c vs :: ds) = some d) : gMeth c S f fs Γ = some d := by
  unfold gMeth; rw [h1]; show (if c = c then (fs Γ).bind fun ds => S (.obj c vs :: ds) else none) = _
  rw [if_pos rfl, h2]; exact h3
theorem ev_T (h : f Γ = some (.bl b)) : gT f Γ = some b := by unfold gT; rw [h]; rfl
theorem ev_Tru (h1 : f Γ = some x) (h2 : dTru x = some b) : gTru f Γ = some b := by unfold gTru; rw [h1]; exact h2
theorem ev_not (h : p Γ = some b) : gNot p Γ = some (!b) := by unfold gNot; rw [h]; rfl
theorem ev_and (h1 : p Γ = some b) (h2 : q Γ = some c) : gAnd p q Γ = some (b && c) := by unfold gAnd; rw [h1]; cases b <;> first | exact h2 | rfl
/-- the right one is asked only if the left one is true -/
theorem ev_andT (h1 : p Γ = some b) (h2 : b = true → q Γ = some c) : gAnd p q Γ = some (b && c) := by unfold gAnd; rw [h1]; cases b <;> first | exact h2 rfl | rfl
theorem ev_andF (h1 : p Γ = some false) : gAnd p q Γ = some false := by unfold gAnd; rw [h1]; rfl
theorem ev_or (h1 : p Γ = some b) (h2 : q Γ = some c) : gOr p q Γ = some (b || c) := by unfold gOr; rw [h1]; cases b <;> first | exact h2 | rfl
theorem ev_orF (h1 : p Γ = some b) (h2 : b = false → q Γ = some c) : gOr p q Γ = some (b || c) := by unfold gOr; rw [h1]; cases b <;> first | exact h2 rfl | rfl
theorem ev_orT (h1 : p Γ = some true) : gOr p q Γ = some true := by unfold gOr; rw [h1]; rfl
theorem ev_bl (h : p Γ = some b) : gBl p Γ = some (.bl b) := by unfold gBl; rw [h]; rfl
theorem ev_if (h1 : p Γ = some b) (h2 : b = true → f Γ = some d) (h3 : b = false → g Γ = some d) : gIf p f g Γ = some d := by unfold gIf; rw [h1]; cases b <;> first | exact h2 rfl | exact h3 rfl
theorem ev_ch {ch : D → Te} (h1 : f Γ = some x) (h2 : ch x Γ = some b) : gCh f ch Γ = some b := by unfold gCh; rw [h1]; exact h2
theorem ev_ch1 (h1 : f Γ = some y) (h2 : o x y = some (.bl b)) : gCh1 o f x Γ = some b := by unfold gCh1; rw [h1]; show dB (o x y) = _; rw [h2]; rfl
theorem ev_chn {ch : D → Te} (h1 : f Γ = some y) (h2 : o x y = some (.bl b)) (h3 : ch y Γ = some c) : gChn o f ch x Γ = some (b && c) := by
  unfold gChn; rw [h1]; show (dB (o x y)).bind _ = _; rw [h2]; show (if b = true then ch y Γ else some false) = _
  cases b <;> first | exact h3 | rfl
theorem ev_chnT {ch : D → Te} (h1 : f Γ = some y) (h2 : o x y = some (.bl b)) (h3 : b = true → ch y Γ = some c) : gChn o f ch x Γ = some (b && c) := by
  unfold gChn; rw [h1]; show (dB (o x y)).bind _ = _; rw [h2]; show (if b = true then ch y Γ else some false) = _
  cases b <;> first | exact h3 rfl | rfl
/-! statements -/
theorem sv_run {N : Nat} {B : Sm} (h : B (ds.map Sl.sh ++ List.replicate (N - ds.length) .no) = some (.rt d)) : runB N B ds = some d := by unfold runB; rw [h]; rfl
theorem sv_runN {N : Nat} {B : Sm} (h : B (ds.map Sl.sh ++ List.replicate (N - ds.length) .no) = some (.nx Γ)) : runB N B ds = some .non := by unfold runB; rw [h]; rfl
theorem sv_nx (h : F Γ = some (.nx Γ1)) (k : F' Γ1 = r) : sSeq F F' Γ = r := by unfold sSeq; rw [h]; exact k
theorem sv_rt (h : F Γ = some (.rt d)) : sSeq F F' Γ = some (.rt d) := by unfold sSeq; rw [h]; rfl
theorem sv_bk (h : F Γ = some (.bk Γ1)) : sSeq F F' Γ = some (.bk Γ1) := by unfold sSeq; rw [h]; rfl
theorem sv_ct (h : F Γ = some (.ct Γ1)) : sSeq F F' Γ = some (.ct Γ1) := by unfold sSeq; rw [h]; rfl
theorem sv_set (h : f Γ = some d) : sSet i f Γ = some (.nx (Γ.set i (.sh d))) := by unfold sSet; rw [h]; rfl
theorem sv_setO (h : fs Γ = some ds) : sSetO i fs Γ = some (.nx (Γ.set i (.ow ds))) := by unfold sSetO; rw [h]; rfl
theorem sv_exp (h : f Γ = some d) : sExp f Γ = some (.nx Γ) := by unfold sExp; rw [h]; rfl
theorem sv_ret (h : f Γ = some d) : sRet f Γ = some (.rt d) := by unfold sRet; rw [h]; rfl
theorem sv_unp {gs : Gs} (h : f Γ = some d) (h2 : gs d Γ = some Γ1) : sUnp gs f Γ = some (.nx Γ1) := by unfold sUnp; rw [h]; show (gs d Γ).bind _ = _; rw [h2]; rfl
theorem sv_par {is : List Nat} (h : fs Γ = some ds) : sPar is fs Γ = some (.nx ((is.zip ds).foldl (fun Γ p => Γ.set p.1 (.sh p.2)) Γ)) := by unfold sPar; rw [h]; rfl
theorem sv_if (h : p Γ = some b) (h1 : b = true → F Γ = r) (h2 : b = false → F' Γ = r) : sIf p F F' Γ = r := by unfold sIf; rw [h]; cases b <;> first | exact h1 rfl | exact h2 rfl
theorem sv_ifT (h : p Γ = some true) (h1 : F Γ = r) : sIf p F F' Γ = r := sv_if h (fun _ => h1) (fun e => nomatch e)
theorem sv_ifF (h : p Γ = some false) (h1 : F' Γ = r) : sIf p F F' Γ = r := sv_if h (fun e => nomatch e) (fun _ => h1)
/-- an if in a row of statements: both ways go on by themselves -/
theorem sv_ifS (h : p Γ = some b) (h1 : b = true → sSeq F F'' Γ = r) (h2 : b = false → sSeq F' F'' Γ = r) : sSeq (sIf p F F') F'' Γ = r := by
  unfold sSeq sIf; rw [h]
  cases b
  · exact h2 rfl
  · exact h1 rfl
theorem sv_nil : sNil Γ = some (.nx Γ) := rfl
theorem sv_nilS : sSeq sNil F Γ = F Γ := rfl
theorem sv_seqA : sSeq (sSeq F F') F'' Γ = sSeq F (sSeq F' F'') Γ := by
  unfold sSeq
  cases F Γ with
  | none => rfl
  | some r => cases r <;> rfl
theorem sv_app {rp : Pth} {xs : List D} {s s2 : Sl} (h : f Γ = some d) (h0 : Γ[i]? = some s) (h1 : getR rp s = some (.ow xs)) (h2 : xs.length < 1000000) (h3 : setR rp (.ow (xs ++ [d])) s = some s2) : sApp i rp f Γ = some (.nx (Γ.set i s2)) := by
  unfold sApp; rw [h]
  show (match gP i rp Γ with | some (.ow xs) => if xs.length < 1000000 then upP i rp (.ow (xs ++ [d])) Γ else none | _ => none) = _
  have e : gP i rp Γ = some (.ow xs) := by unfold gP; rw [h0]; exact h1
  rw [e]; show (if xs.length < 1000000 then upP i rp (.ow (xs ++ [d])) Γ else none) = _
  rw [if_pos h2]; unfold upP; rw [h0]; show (setR rp (.ow (xs ++ [d])) s).bind _ = _; rw [h3]; rfl
theorem sv_app0 {xs : List D} (h : f Γ = some d) (h1 : Γ[i]? = some (.ow xs)) (h2 : xs.length < 1000000) : sApp i [] f Γ = some (.nx (Γ.set i (.ow (xs ++ [d])))) := sv_app h h1 rfl h2 rfl
theorem sv_aug (h1 : Γ[i]? = some (.sh x)) (h2 : f Γ = some y) (h3 : o x y = some d) : sAug o i f Γ = some (.nx (Γ.set i (.sh d))) := by
  unfold sAug; rw [ev_V h1]; show (f Γ).bind _ = _; rw [h2]; show (o x y).bind _ = _; rw [h3]; rfl
theorem sv_frz (h : F (frzE i Γ) = r) : sFrz i F Γ = r := h
theorem sv_for {it : Ag} {gs : Gs} (h : it Γ = some ds) (h2 : forL gs F ds Γ = r) : sFor it gs F Γ = r := by unfold sFor; rw [h]; exact h2
/-! .. in a row -/
theorem sq_set (h : f Γ = some d) (k : F' (Γ.set i (.sh d)) = r) : sSeq (sSet i f) F' Γ = r := sv_nx (sv_set h) k
theorem sq_setO (h : fs Γ = some ds) (k : F' (Γ.set i (.ow ds)) = r) : sSeq (sSetO i fs) F' Γ = r := sv_nx (sv_setO h) k
theorem sq_exp (h : f Γ = some d) (k : F' Γ = r) : sSeq (sExp f) F' Γ = r := sv_nx (sv_exp h) k
theorem sq_unp {gs : Gs} (h : f Γ = some d) (h2 : gs d Γ = some Γ1) (k : F' Γ1 = r) : sSeq (sUnp gs f) F' Γ = r := sv_nx (sv_unp h h2) k
theorem sq_par {is : List Nat} (h : fs Γ = some ds) (k : F' ((is.zip ds).foldl (fun Γ p => Γ.set p.1 (.sh p.2)) Γ) = r) : sSeq (sPar is fs) F' Γ = r := sv_nx (sv_par h) k
theorem sq_app {xs : List D} (h : f Γ = some d) (h1 : Γ[i]? = some (.ow xs)) (h2 : xs.length < 1000000) (k : F' (Γ.set i (.ow (xs ++ [d]))) = r) : sSeq (sApp i [] f) F' Γ = r := sv_nx (sv_app0 h h1 h2) k
theorem sq_aug (h1 : Γ[i]? = some (.sh x)) (h2 : f Γ = some y) (h3 : o x y = some d) (k : F' (Γ.set i (.sh d)) = r) : sSeq (sAug o i f) F' Γ = r := sv_nx (sv_aug h1 h2 h3) k
theorem sq_frz (h : sSeq F F' (frzE i Γ) = r) : sSeq (sFrz i F) F' Γ = r := h
theorem sq_nil (h : F Γ = r) : sSeq sNil F Γ = r := h
theorem sq_ret (h : f Γ = some d) : sSeq (sRet f) F Γ = some (.rt d) := sv_rt (sv_ret h)
/-- an if that sets one name on each way -/
theorem sq_ifV {P : D → Prop} (h : p Γ = some b) (h1 : b = true → ∃ d, P d ∧ F Γ = some (.nx (Γ.set i (.sh d)))) (h2 : b = false → ∃ d, P d ∧ F' Γ = some (.nx (Γ.set i (.sh d)))) (k : ∀ d, P d → F'' (Γ.set i (.sh d)) = r) : sSeq (sIf p F F') F'' Γ = r := by
  cases b with
  | true => obtain ⟨d, hd, e⟩ := h1 rfl; exact sv_nx (sv_ifT h e) (k d hd)
  | false => obtain ⟨d, hd, e⟩ := h2 rfl; exact sv_nx (sv_ifF h e) (k d hd)
theorem sq_ifX {Q : DEnv → Prop} (h : p Γ = some b) (h1 : b = true → ∃ Γ', Q Γ' ∧ F Γ = some (.nx Γ')) (h2 : b = false → ∃ Γ', Q Γ' ∧ F' Γ = some (.nx Γ')) (k : ∀ Γ', Q Γ' → F'' Γ' = r) : sSeq (sIf p F F') F'' Γ = r := by
  cases b with
  | true => obtain ⟨d, hd, e⟩ := h1 rfl; exact sv_nx (sv_ifT h e) (k d hd)
  | false => obtain ⟨d, hd, e⟩ := h2 rfl; exact sv_nx (sv_ifF h e) (k d hd)
/-- a test that is false, nothing is done -/
theorem sq_ifN (h : p Γ = some b) (hb : b = false) (k : F'' Γ = r) : sSeq (sIf p F sNil) F'' Γ = r := sv_nx (sv_ifF (by rw [h, hb]) rfl) k
theorem sv_ifN (h : p Γ = some b) (hb : b = false) : sIf p F sNil Γ = some (.nx Γ) := sv_ifF (by rw [h, hb]) rfl
/-! loops -/
theorem forL_nil {gs : Gs} : forL gs F [] Γ = some (.nx Γ) := rfl
theorem forL_nx {gs : Gs} (h : gs d Γ = some Γ1) (h2 : F Γ1 = some (.nx Γ2)) (k : forL gs F ds Γ2 = r) : forL gs F (d :: ds) Γ = r := by
  show (gs d Γ).bind _ = _; rw [h]; show (F Γ1).bind _ = _; rw [h2]; exact k
theorem forL_ct {gs : Gs} (h : gs d Γ = some Γ1) (h2 : F Γ1 = some (.ct Γ2)) (k : forL gs F ds Γ2 = r) : forL gs F (d :: ds) Γ = r := by
  show (gs d Γ).bind _ = _; rw [h]; show (F Γ1).bind _ = _; rw [h2]; exact k
theorem forL_rt {gs : Gs} (h : gs d Γ = some Γ1) (h2 : F Γ1 = some (.rt x)) : forL gs F (d :: ds) Γ = some (.rt x) := by
  show (gs d Γ).bind _ = _; rw [h]; show (F Γ1).bind _ = _; rw [h2]; rfl
theorem forL_bk {gs : Gs} (h : gs d Γ = some Γ1) (h2 : F Γ1 = some (.bk Γ2)) : forL gs F (d :: ds) Γ = some (.nx Γ2) := by
  show (gs d Γ).bind _ = _; rw [h]; show (F Γ1).bind _ = _; rw [h2]; rfl
/-- a loop that is not left, by its invariant -/
theorem forL_inv {gs : Gs} (Iv : List D → DEnv → Prop) (hs : ∀ d ds Γ, Iv (d :: ds) Γ → ∃ Γ1 Γ2, gs d Γ = some Γ1 ∧ (F Γ1 = some (.nx Γ2) ∨ F Γ1 = some (.ct Γ2)) ∧ Iv ds Γ2) : ∀ (ds : List D) (Γ : DEnv), Iv ds Γ → ∃ Γ', forL gs F ds Γ = some (.nx Γ') ∧ Iv [] Γ'
  | [], Γ, h => ⟨Γ, rfl, h⟩
  | d :: ds, Γ, h => by
    obtain ⟨Γ1, Γ2, h1, h2, h3⟩ := hs d ds Γ h
    obtain ⟨Γ', h4, h5⟩ := forL_inv Iv hs ds Γ2 h3
    rcases h2 with h2 | h2
    · exact ⟨Γ', forL_nx h1 h2 h4, h5⟩
    · exact ⟨Γ', forL_ct h1 h2 h4, h5⟩
theorem compL_nil {gs : Gs} : compL gs p f [] Γ = some [] := rfl
/-- a comprehension without a test: each item by itself -/
theorem compL_map {gs : Gs} {α : Type} (xs : List α) (u v : α → D) (h : ∀ a ∈ xs, ∃ Γ1, gs (u a) Γ = some Γ1 ∧ f Γ1 = some (v a)) : compL gs gYes f (xs.map u) Γ = some (xs.map v) := by
  induction xs with
  | nil => rfl
  | cons a xs ih =>
    obtain ⟨Γ1, h1, h2⟩ := h a List.mem_cons_self
    rw [List.map_cons, List.map_cons]
    show (gs (u a) Γ).bind _ = _
    rw [h1]
    show (f Γ1).bind _ = _
    rw [h2]
    show (compL gs gYes f (xs.map u) Γ).bind _ = _
    rw [ih fun b hb => h b (List.mem_cons_of_mem _ hb)]
    rfl
/-- .. with a test -/
theorem compL_filter {gs : Gs} {α : Type} (xs : List α) (u v : α → D) (t : α → Bool) (h : ∀ a ∈ xs, ∃ Γ1, gs (u a) Γ = some Γ1 ∧ p Γ1 = some (t a) ∧ (t a = true → f Γ1 = some (v a))) : compL gs p f (xs.map u) Γ = some ((xs.filter t).map v) := by
  induction xs with
  | nil => rfl
  | cons a xs ih =>
    obtain ⟨Γ1, h1, h2, h3⟩ := h a List.mem_cons_self
    have ih := ih fun b hb => h b (List.mem_cons_of_mem _ hb)
    rw [List.map_cons]
    show (gs (u a) Γ).bind _ = _
    rw [h1]
    show (p Γ1).bind _ = _
    rw [h2]
    cases e : t a with
    | true =>
      show (f Γ1).bind _ = _
      rw [h3 e]
      show (compL gs p f (xs.map u) Γ).bind _ = _
      rw [ih, List.filter_cons_of_pos e]
      rfl
    | false =>
      show compL gs p f (xs.map u) Γ = _
      rw [ih, List.filter_cons_of_neg (by rw [e]; simp)]
theorem ev_lc {own : List Nat} {it : Ag} {gs : Gs} {ds' : List D} (h : it Γ = some ds) (hl : ds.length < 1000000) (h2 : compL gs p f ds (wipeE Γ own) = some ds') : gLc own it gs p f Γ = some ds' := by
  unfold gLc; rw [h]; show (if ds.length < 1000000 then compL gs p f ds (wipeE Γ own) else none) = _
  rw [if_pos hl]; exact h2
theorem ev_it (h : f Γ = some (.lst ds)) : gIt f Γ = some ds := by unfold gIt; rw [h]; rfl
theorem ev_itT (h : f Γ = some (.tup ds)) : gIt f Γ = some ds := by unfold gIt; rw [h]; rfl
theorem ev_itS {ns : List Int} (h : f Γ = some (.scr ns)) : gIt f Γ = some (ns.map D.int) := by unfold gIt; rw [h]; rfl
theorem ev_rng1 (h : fs Γ = some [.int m]) (h1 : -(2 ^ 62) ≤ m) (h2 : m < 2 ^ 62) : gRng fs Γ = some (rngD 0 m.toNat) := by
  unfold gRng; rw [h]; show (if -(2 ^ 62) ≤ m ∧ m < 2 ^ 62 then some (rngD 0 m.toNat) else none) = _; rw [if_pos ⟨h1, h2⟩]
theorem ev_rng2 (h : fs Γ = some [.int m, .int j]) (h1 : -(2 ^ 62) ≤ m) (h2 : m < 2 ^ 62) (h3 : -(2 ^ 62) ≤ j) (h4 : j < 2 ^ 62) : gRng fs Γ = some (rngD m (j - m).toNat) := by
  unfold gRng; rw [h]; show (if -(2 ^ 62) ≤ m ∧ m < 2 ^ 62 ∧ -(2 ^ 62) ≤ j ∧ j < 2 ^ 62 then some (rngD m (j - m).toNat) else none) = _; rw [if_pos ⟨h1, h2, h3, h4⟩]
theorem d_all {bs : List Bool} : dAll (.lst (bs.map D.bl)) = some (.bl (bs.all id)) := by show (bls? (bs.map D.bl)).bind _ = _; rw [bls?_map]; rfl
theorem d_any {bs : List Bool} : dAny (.lst (bs.map D.bl)) = some (.bl (bs.any id)) := by show (bls? (bs.map D.bl)).bind _ = _; rw [bls?_map]; rfl
theorem d_sum {ns : List Int} : dSum (.lst (ns.map D.int)) = some (.int ns.sum) := by show (ints? (ns.map D.int)).bind _ = _; rw [ints?_map]; rfl
theorem d_max {ns : List Int} (h : ns ≠ []) : dMax (.lst (ns.map D.int)) = some (.int (maxI ns)) := by show (ints? (ns.map D.int)).bind _ = _; rw [ints?_map]; cases ns with | nil => exact absurd rfl h | cons => rfl
theorem d_min {ns : List Int} (h : ns ≠ []) : dMin (.lst (ns.map D.int)) = some (.int (minI ns)) := by show (ints? (ns.map D.int)).bind _ = _; rw [ints?_map]; cases ns with | nil => exact absurd rfl h | cons => rfl
theorem d_sorted {ns : List Int} : dSorted (.lst (ns.map D.int)) = some ((srt ns).map D.int) := by show (ints? (ns.map D.int)).bind _ = _; rw [ints?_map]; rfl
/-! data -/
theorem d_add : dAdd (.int m) (.int j) = some (.int (m + j)) := rfl
theorem d_sub : dSub (.int m) (.int j) = some (.int (m - j)) := rfl
theorem mulOk_l (h1 : -(2 ^ 64) < m) (h2 : m < 2 ^ 64) : mulOk m j = true := by
  have h := intBits_le_64 h1 h2
  have h' : ¬ (Builtin.Int.intBits m > shortFactorBits) := Nat.not_lt.mpr h
  unfold mulOk
  rw [decide_eq_false h']
  rfl
theorem mulOk_r (h1 : -(2 ^ 64) < j) (h2 : j < 2 ^ 64) : mulOk m j = true := by
  have h := intBits_le_64 h1 h2
  have h' : ¬ (Builtin.Int.intBits j > shortFactorBits) := Nat.not_lt.mpr h
  unfold mulOk
  rw [decide_eq_false h', Bool.and_false]
  rfl
theorem d_mul (h : mulOk m j = true) : dMul (.int m) (.int j) = some (.int (m * j)) := by show (if mulOk m j = true then some (D.int (m * j)) else none) = _; rw [if_pos h]
theorem d_div (h : 0 < j) (h2 : j.natAbs.log2 < 9000) : dDiv (.int m) (.int j) = some (.int (m / j)) := by show (if 0 < j ∧ j.natAbs.log2 < 9000 then some (D.int (m / j)) else none) = _; rw [if_pos ⟨h, h2⟩]
theorem log_of {k : Nat} (h : j.natAbs < 2 ^ k) (hk : 0 < k) (h9 : k ≤ 9000) : j.natAbs.log2 < 9000 := Nat.lt_of_lt_of_le (PySem.Flt.log2_lt_of hk h) h9
theorem d_mod (h : 0 < j) : dMod (.int m) (.int j) = some (.int (m % j)) := by show (if 0 < j then some (D.int (m % j)) else none) = _; rw [if_pos h]
theorem d_pow (h : 0 ≤ j ∧ j ≤ 1000000 ∧ m.natAbs < 2 ^ 64) : dPow (.int m) (.int j) = some (.int (m ^ j.toNat)) := by show (if 0 ≤ j ∧ j ≤ 1000000 ∧ m.natAbs < 2 ^ 64 then some (D.int (m ^ j.toNat)) else none) = _; rw [if_pos h]
theorem d_eq {bb : Bool} (h1 : eqOk x = true) (h2 : eqOk y = true) (h : eqd x y = bb) : dEq x y = some (.bl bb) := by unfold dEq; rw [h1, h2]; show some (D.bl (eqd x y)) = _; rw [h]
theorem d_ne {bb : Bool} (h1 : eqOk x = true) (h2 : eqOk y = true) (h : eqd x y = bb) : dNe x y = some (.bl (!bb)) := by unfold dNe; rw [h1, h2]; show some (D.bl (!eqd x y)) = _; rw [h]
theorem eqd_int : eqd (.int m) (.int j) = (m == j) := by unfold eqd toPy; rfl
theorem eqd_bl {a b : Bool} : eqd (.bl a) (.bl b) = (a == b) := by unfold eqd toPy; rfl
theorem eqOk_int : eqOk (.int m) = true := by unfold eqOk pyOk toPy; rfl
theorem eqOk_bl : eqOk (.bl b) = true := by unfold eqOk pyOk toPy; rfl
theorem eqOk_non : eqOk .non = true := by unfold eqOk pyOk toPy; rfl
theorem d_lenL {xs : List D} : dLen (.lst xs) = some (.int xs.length) := rfl
theorem d_lenS {ns : List Int} : dLen (.scr ns) = some (.int ns.length) := rfl
theorem d_ixL {xs : List D} {k : Nat} (h : xs[k]? = some d) : dIx (.lst xs) (.int (k : Nat)) = some d := atI_nat h
end
end DL

namespace DL
open PySem L2
variable [TC : TabCtx]

/-! ### zip of three lists -/
def Itz3 (K : PySem.W.Frag) (a b c : Addr) : It :=
  ⟨fun i H => ∃ (xs ys zs : List V) (x y z : V), SqL K H a xs ∧ SqL K H b ys ∧ SqL K H c zs ∧ xs[i]? = some x ∧ ys[i]? = some y ∧ zs[i]? = some z,
    fun i H v H' => ∃ T x y z, v = .ref T ∧ H T = none ∧ H' = upd H T (.tup [x, y, z]) ∧ (∀ xs, SqL K H a xs → xs[i]? = some x) ∧ (∀ ys, SqL K H b ys → ys[i]? = some y) ∧ ∀ zs, SqL K H c zs → zs[i]? = some z,
    fun i H => ∃ xs ys zs : List V, SqL K H a xs ∧ SqL K H b ys ∧ SqL K H c zs ∧ (xs.length ≤ i ∨ ys.length ≤ i ∨ zs.length ≤ i)⟩
/-- a list's iterator at i, as one that draws: up to the list's end, or not at all -/
theorem draws_at {prog : Program} {w : World} {A : Around} (hh : A.handled = none) (it l : Addr) (hne : l ≠ it) (items : Array Value) (i : Nat) :
    ∃ n P St, Draws prog w A it [it, l] n P St ∧ i ≤ n ∧ (items.size ≤ i → i = n) ∧ ∀ h : Heap, h.IsListIter it l i → h.IsList l items → St i h := by
  by_cases hi : i < items.size
  · exact ⟨_, _, _, Draws.list hh it l hne items, by omega, fun z => by omega, fun h a b => ⟨a, b⟩⟩
  · refine ⟨i, fun _ _ => False, fun j h => j = i ∧ h.IsListIter it l i ∧ h.IsList l items, ⟨fun _ _ st => let ⟨o, ho, _⟩ := st.2.1; ⟨o, ho⟩, fun _ _ _ st hk => ⟨st.1, st.2.1.at fun o e => hk it (by simp) o e, st.2.2.at fun o e => hk l (by simp) o e⟩, fun j s Q E hj st hQ => absurd st.1 (by omega), fun s Q E st hE => ?_⟩, Nat.le_refl _, fun _ => rfl, fun h a b => ⟨rfl, a, b⟩⟩
    exact wpAny_nextOf_list_end hh st.2.1 st.2.2 (by simp; omega) hE
theorem turn_zip3 {P : Program} {w : World} {K : PySem.W.Frag} {elts : List Expr} {kk : Nat} {tpos : Pos} {a b c z TI TO i1 i2 i3 : Addr} (D : ZipSep3 z TI TO i1 i2 i3 [i1, a] [i2, b] [i3, c]) (na : a ≠ i1) (nb : b ≠ i2) (nc : c ≠ i3) :
    Turn P w K (.Tuple elts kk tpos) (Itz3 K a b c) [z, TI, TO, i1, i2, i3] z (fun i h => IsZip h z TI TO .none ∧ IsTupOf3 h TI (.ref i1) (.ref i2) (.ref i3) ∧ (∃ x y u, IsTupOf3 h TO x y u) ∧ h.IsListIter i1 a i ∧ h.IsListIter i2 b i ∧ h.IsListIter i3 c i) where
  mem := by simp
  obj := fun i h st q hq => by
    obtain ⟨hz, hTI, ⟨x, y, u, hTO⟩, ⟨o1, e1, _, d1⟩, ⟨o2, e2, _, d2⟩, ⟨o3, e3, _, d3⟩⟩ := st
    have e' : q = z ∨ q = TI ∨ q = TO ∨ q = i1 ∨ q = i2 ∨ q = i3 := by simpa using hq
    rcases e' with q | q | q | q | q | q
    · rw [q]; exact ⟨_, hz, fun v q => nomatch q⟩
    · rw [q]; exact ⟨_, hTI, fun v q => nomatch q⟩
    · rw [q]; exact ⟨_, hTO, fun v q => nomatch q⟩
    · rw [q]; exact ⟨o1, e1, fun v q => by rw [d1] at q; cases q⟩
    · rw [q]; exact ⟨o2, e2, fun v q => by rw [d2] at q; cases q⟩
    · rw [q]; exact ⟨o3, e3, fun v q => by rw [d3] at q; cases q⟩
  keep := fun i h h' st k => by
    obtain ⟨hz, hTI, ⟨x, y, u, hTO⟩, h1, h2, h3⟩ := st
    exact ⟨k z (by simp) _ hz, k TI (by simp) _ hTI, ⟨x, y, u, k TO (by simp) _ hTO⟩, h1.at fun o q => k i1 (by simp) o q, h2.at fun o q => k i2 (by simp) o q, h3.at fun o q => k i3 (by simp) o q⟩
  item := by
    intro X hP hw hK hc i pins s σ H E I hf st hg
    subst hP hw hK
    obtain ⟨hz, hTI, ⟨x0, y0, u0, hTO⟩, h1, h2, h3⟩ := st
    obtain ⟨xs, ys, zs, x, y, u, hqx, hqy, hqz, hx, hy, hu⟩ := hg
    obtain ⟨its, rv, p, _⟩ := I.list hqx
    obtain ⟨its2, rv2, p2, _⟩ := I.list hqy
    obtain ⟨its3, rv3, p3, _⟩ := I.list hqz
    obtain ⟨w1, hw1, rw1⟩ := rv.get hx
    obtain ⟨w2, hw2, rw2⟩ := rv2.get hy
    obtain ⟨w3, hw3, rw3⟩ := rv3.get hu
    have hzl : z < s.heap.objs.size := Heap.lt_size hz
    have hh := I.ok.hd hc
    have hh1 : (Around.in1 X.A).handled = none := hh
    have lt : ∀ {xs : List Value} {i : Nat} {x : Value}, xs[i]? = some x → i < xs.toArray.size := fun e => by simpa using (List.getElem?_eq_some_iff.mp e).1
    refine wpAny_pyNext_zipD3_item D (Draws.list hh1 i1 a na its.toArray) (Draws.list hh1 i2 b nb its2.toArray) (Draws.list hh1 i3 c nc its3.toArray) hz hTI hTO ⟨h1, p.isList⟩ ⟨h2, p2.isList⟩ ⟨h3, p3.isList⟩ (lt hw1) (lt hw2) (lt hw3) fun v1 v2 v3 h' tk y1 y2 y3 z' TO' d1 d2 d3 hT hsz hk => ?_
    obtain rfl : v1 = w1 := by have : its[i]? = some v1 := by simpa using y1
                               rw [hw1] at this; cases this; rfl
    obtain rfl : v2 = w2 := by have : its2[i]? = some v2 := by simpa using y2
                               rw [hw2] at this; cases this; rfl
    obtain rfl : v3 = w3 := by have : its3[i]? = some v3 := by simpa using y3
                               rw [hw3] at this; cases this; rfl
    refine ⟨_, rfl, wpAny_letOwnedTupleGo_zip (s := { s with heap := h', toks := tk }) z' fun h'' z'' sb => ?_⟩
    have hT2 : h''.get? s.heap.objs.size = some { cls := .type "tuple", data := .seq #[v1, v2, v3] } := (sb.2 _ (Nat.ne_of_gt hzl)).trans hT
    have new : ObjOk X.prog X.w (upd H s.heap.objs.size (.tup [x, y, u])) h'' s.heap.objs.size (.tup [x, y, u]) :=
      ⟨by show 3 ≤ sizeLine; decide, [v1, v2, v3], .cons rw1 (.cons rw2 (.cons rw3 .nil)), ⟨_, hT2, rfl, _, rfl⟩⟩
    have I1 : Inv X pins σ (upd H s.heap.objs.size (.tup [x, y, u])) { s with heap := h'', toks := tk } :=
      I.turnedNew (t' := tk) (ch := [z, TI, TO, i1, i2, i3]) (fun c o hb q => (sb.2 c (fun q' => hb (by simp [q']))).trans (hk c o (fun q' => hb (by simp [q'])) (fun q' => hb (by simp [q'])) (fun q' => hb (by simp [q'])) (fun q' => hb (by simp [q'])) (fun q' => hb (by simp [q'])) q)) hf (Nat.le_refl _) new
    refine ⟨.ref s.heap.objs.size, _, I1, rfl, ⟨_, x, y, u, rfl, I.hok.fresh (Nat.le_refl _), rfl, fun l hl => by rw [I.list_inj hl hqx]; exact hx, fun l hl => by rw [I.list_inj hl hqy]; exact hy, fun l hl => by rw [I.list_inj hl hqz]; exact hu⟩, ⟨z'', ?_, ⟨v1, v2, v3, ?_⟩, ?_, ?_, ?_⟩, fun c hcm => ?_⟩
    · exact (sb.2 _ D.TIz).trans (hk _ _ D.TIz D.TITO D.TIi1 D.TIi2 D.TIi3 hTI)
    · exact (sb.2 _ D.TOz).trans TO'
    · exact d1.1.at fun o q => (sb.2 _ D.zi1.symm).trans q
    · exact d2.1.at fun o q => (sb.2 _ D.zi2.symm).trans q
    · exact d3.1.at fun o q => (sb.2 _ D.zi3.symm).trans q
    · have hlt : c < s.heap.objs.size := by
        have e' : c = z ∨ c = TI ∨ c = TO ∨ c = i1 ∨ c = i2 ∨ c = i3 := by simpa using hcm
        rcases e' with q | q | q | q | q | q
        · rw [q]; exact hzl
        · rw [q]; exact Heap.lt_size hTI
        · rw [q]; exact Heap.lt_size hTO
        · rw [q]; obtain ⟨_, e1, _⟩ := h1; exact Heap.lt_size e1
        · rw [q]; obtain ⟨_, e2, _⟩ := h2; exact Heap.lt_size e2
        · rw [q]; obtain ⟨_, e3, _⟩ := h3; exact Heap.lt_size e3
      rw [upd_ne (Nat.ne_of_lt hlt)]
      exact (hf c hcm).1
  done := by
    intro X hP hw hK hc i pins s σ H E I hf st hg
    subst hP hw hK
    obtain ⟨hz, hTI, ⟨x0, y0, u0, hTO⟩, h1, h2, h3⟩ := st
    obtain ⟨xs, ys, zs, hqx, hqy, hqz, hend⟩ := hg
    obtain ⟨its, rv, p, _⟩ := I.list hqx
    obtain ⟨its2, rv2, p2, _⟩ := I.list hqy
    obtain ⟨its3, rv3, p3, _⟩ := I.list hqz
    have e1 := rv.length
    have e2 := rv2.length
    have e3 := rv3.length
    have hh : (Around.in1 X.A).handled = none := I.ok.hd hc
    obtain ⟨n1, P1, S1, D1, g1, f1, c1⟩ := draws_at (prog := X.prog) (w := X.w) hh i1 a na its.toArray i
    obtain ⟨n2, P2, S2, D2, g2, f2, c2⟩ := draws_at (prog := X.prog) (w := X.w) hh i2 b nb its2.toArray i
    obtain ⟨n3, P3, S3, D3, g3, f3, c3⟩ := draws_at (prog := X.prog) (w := X.w) hh i3 c nc its3.toArray i
    refine wpAny_pyNext_zipD3_end D D1 D2 D3 hz hTI hTO (c1 _ h1 p.isList) (c2 _ h2 p2.isList) (c3 _ h3 p3.isList) g1 g2 g3 (hend.imp (fun q => f1 (by simp; omega)) (Or.imp (fun q => f2 (by simp; omega)) fun q => f3 (by simp; omega))) fun h' tk hk => ⟨rfl, I.turnedL (t' := tk) (ch := [z, TI, TO, i1, i2, i3]) (fun c o hb q =>
      hk c o (fun q' => hb (by simp [q'])) (fun q' => hb (by simp [q'])) (fun q' => hb (by simp [q'])) (fun q' => hb (by simp [q'])) (fun q' => hb (by simp [q'])) q) hf⟩
  self := fun A i s Q E st h => wpAny_pyIter_zip st.1 h

theorem apart3 {n a b c : Nat} (ha : a < n) (hb : b < n) (hc : c < n) : ZipSep3 (n + 5) (n + 3) (n + 4) n (n + 1) (n + 2) [n, a] [n + 1, b] [n + 2, c] := by
  have f (x y : Nat) (h : x < y ∨ y < x) : (x : Addr) ≠ y := by
    intro e
    have e : (x : Nat) = y := e
    omega
  have m (x y z : Nat) (h : (x < y ∨ y < x) ∧ (x < z ∨ z < x)) : (x : Addr) ∉ ([y, z] : List Addr) := by
    intro e
    simp only [List.mem_cons, List.not_mem_nil, or_false] at e
    rcases e with e | e
    · exact f _ _ h.1 e
    · exact f _ _ h.2 e
  constructor
  all_goals first | (exact List.mem_cons_self ..) | (refine f _ _ ?_; omega) | (refine m _ _ _ ?_; omega)
def iZip3 (K : PySem.W.Frag) (ta : TA) : TI := fun σ H R => ta σ H fun vs H1 => ∃ a b c xs ys zs, vs = [.ref a, .ref b, .ref c] ∧ SqL K H1 a xs ∧ SqL K H1 b ys ∧ SqL K H1 c zs ∧ R (Itz3 K a b c) H1
theorem pi_zip3 {X : Cx} {e e2 e3 : Expr} {ta : TA} {p pos tpos : Pos} {elts : List Expr} {kk : Nat} (hg : Gl X "zip") (hm : X.mg "zip" = none) (ha : PA X [e, e2, e3] ta)
    (hs : starEach [e, e2, e3] X.env = (false, eval e X.env) :: starEach [e2, e3] X.env := by rfl) (hpl : (backTo pos (starEach [e2, e3] X.env)).any (·.1) = false := by rfl) :
    PI X (.Tuple elts kk tpos) (.Call (.Name "zip" p) [e, e2, e3] [] pos) (iZip3 X.K ta) := by
  refine ⟨fun pins s σ H R I h => ?_⟩
  refine PyProof.Rows.Call_ (ld_blt I hg hm PyProof.Rows.boot_zip (PyProof.Rows.callWith_type1 (thn (ha.run pos pins s σ H _ I h) fun us s1 ⟨vs, H1, I1, r1, q1⟩ => ?_) hs hpl))
  obtain ⟨a, b, c, xs, ys, zs, ex, hqx, hqy, hqz, q⟩ := q1
  subst ex
  cases r1 with
  | cons r rr =>
    cases rr with
    | cons r' rr =>
      cases rr with
      | cons r'' rr =>
        cases rr
        cases r
        cases r'
        cases r''
        obtain ⟨its, rv, p1, _⟩ := I1.list hqx
        obtain ⟨its2, rv2, p2, _⟩ := I1.list hqy
        obtain ⟨its3, rv3, p3, _⟩ := I1.list hqz
        have la : a < s1.heap.objs.size := p1.lt
        have lb : b < s1.heap.objs.size := p2.lt
        have lc : c < s1.heap.objs.size := p3.lt
        refine zip_begins3 (begins_list a its.toArray) (begins_list b its2.toArray) (begins_list c its3.toArray) p1.isList p2.isList p3.isList fun h' hz hTI hTO h1 h2 h3 hsz hk => wpAny_pyIter_zip hz ?_
        have I2 : Inv X pins σ H1 { s1 with heap := h' } := I1.kept (t' := s1.toks) hk
        refine ⟨s1.heap.objs.size + 5, [s1.heap.objs.size + 5, s1.heap.objs.size + 3, s1.heap.objs.size + 4, s1.heap.objs.size, s1.heap.objs.size + 1, s1.heap.objs.size + 2], _, _, H1, rfl, I2, turn_zip3 (apart3 la lb lc) (Nat.ne_of_lt la) (by show b ≠ _; exact Nat.ne_of_lt (Nat.lt_succ_of_lt lb)) (by show c ≠ _; exact Nat.ne_of_lt (Nat.lt_succ_of_lt (Nat.lt_succ_of_lt lc))), ⟨hz, hTI, ⟨_, _, _, hTO⟩, ⟨_, h1, rfl, rfl⟩, ⟨_, h2, rfl, rfl⟩, ⟨_, h3, rfl, rfl⟩⟩, fun d hd => ?_, q⟩
        have hle : s1.heap.objs.size ≤ d := by
          have e' : d = s1.heap.objs.size + 5 ∨ d = s1.heap.objs.size + 3 ∨ d = s1.heap.objs.size + 4 ∨ d = s1.heap.objs.size ∨ d = s1.heap.objs.size + 1 ∨ d = s1.heap.objs.size + 2 := by simpa using hd
          rcases e' with z | z | z | z | z | z <;> rw [z] <;> first | exact Nat.le_add_right _ _ | exact Nat.le_refl _
        exact I1.fpOk hle (I1.hok.fresh hle)

def zipD3 : List D → List D → List D → List D
  | x :: xs, y :: ys, z :: zs => .tup [x, y, z] :: zipD3 xs ys zs
  | _, _, _ => []
theorem zipD3_get : ∀ {xs ys zs : List D} {i : Nat} {d : D}, (zipD3 xs ys zs)[i]? = some d → ∃ x y z, xs[i]? = some x ∧ ys[i]? = some y ∧ zs[i]? = some z ∧ d = .tup [x, y, z]
  | [], _, _, _, _, h => by simp [zipD3] at h
  | _ :: _, [], _, _, _, h => by simp [zipD3] at h
  | _ :: _, _ :: _, [], _, _, h => by simp [zipD3] at h
  | x :: xs, y :: ys, z :: zs, 0, d, h => by simp [zipD3] at h; exact ⟨x, y, z, rfl, rfl, rfl, h.symm⟩
  | x :: xs, y :: ys, z :: zs, i + 1, d, h => by
    obtain ⟨x', y', z', h1, h2, h3, h4⟩ := zipD3_get (xs := xs) (ys := ys) (zs := zs) (i := i) (d := d) (by simpa [zipD3] using h)
    exact ⟨x', y', z', by simpa using h1, by simpa using h2, by simpa using h3, h4⟩
theorem zipD3_len : ∀ {xs ys zs : List D}, (zipD3 xs ys zs).length = min (min xs.length ys.length) zs.length
  | [], _, _ => by simp [zipD3]
  | _ :: _, [], _ => by simp [zipD3]
  | _ :: _, _ :: _, [] => by simp [zipD3]
  | x :: xs, y :: ys, z :: zs => by simp [zipD3, zipD3_len (xs := xs) (ys := ys) (zs := zs)]
def dZip3 : List D → Option (List D)
  | [x, y, z] => (dItems x).bind fun xs => (dItems y).bind fun ys => (dItems z).bind fun zs => some (zipD3 xs ys zs)
  | _ => none
def gZip3 (fs : Ag) : Ag := fun Γ => (fs Γ).bind dZip3
theorem i_zip3 {X : Cx} {a b c : Expr} {fs : Ag} {pos p tpos : Pos} {elts : List Expr} {kk : Nat} (hg : Gl X "zip") (hm : X.mg "zip" = none) (ha : AN X [a, b, c] 3 fs) (hs : starEach [a, b, c] X.env = (false, eval a X.env) :: starEach [b, c] X.env := by rfl) (hpl : (backTo pos (starEach [b, c] X.env)).any (·.1) = false := by rfl) :
    I X (.Tuple elts kk tpos) (.Call (.Name "zip" p) [a, b, c] [] pos) (gZip3 fs) := by
  obtain ⟨t, h1, h2⟩ := ha.a.ex
  refine ⟨⟨_, pi_zip3 hg hm h1 hs hpl, fun G0 H0 Z Γ σ G H R ds Rl hf k => ?_⟩⟩
  obtain ⟨xs, e1, hf⟩ := obind hf
  have hl := ha.n Γ xs e1
  refine h2 G0 H0 Z Γ σ G H _ _ Rl e1 fun G1 H1 vs x1 r1 => ?_
  match xs, hl, hf, r1 with
  | [x, y, z], _, hf, .cons r (.cons q (.cons o .nil)) =>
    replace hf : ((dItems x).bind fun xs => (dItems y).bind fun ys => (dItems z).bind fun zs => some (zipD3 xs ys zs)) = some ds := hf
    obtain ⟨as, a1, hf⟩ := obind hf
    obtain ⟨bs, a2, hf⟩ := obind hf
    obtain ⟨cs, a3, hf⟩ := obind hf
    cases hf
    obtain ⟨p1, v1, rfl, s1, r1⟩ := r.items a1
    obtain ⟨p2, v2, rfl, s2, r2⟩ := q.items a2
    obtain ⟨p3, v3, rfl, s3, r3⟩ := o.items a3
    refine ⟨p1, p2, p3, v1, v2, v3, rfl, x1.gh.seq s1, x1.gh.seq s2, x1.gh.seq s3, k G1 H1 _ x1 fun i G2 H2 t1 t2 => ?_⟩
    have q1 : SqL X.K H2 p1 v1 := (t1.trans t2).seq s1
    have q2 : SqL X.K H2 p2 v2 := (t1.trans t2).seq s2
    have q3 : SqL X.K H2 p3 v3 := (t1.trans t2).seq s3
    refine ⟨fun hi => ?_, fun d hd => ?_⟩
    · rw [zipD3_len] at hi
      refine ⟨v1, v2, v3, q1, q2, q3, ?_⟩
      rw [r1.length, r2.length, r3.length]
      omega
    · obtain ⟨x, y, z, g1, g2, g3, rfl⟩ := zipD3_get hd
      obtain ⟨w1, b1, c1⟩ := r1.get i g1
      obtain ⟨w2, b2, c2⟩ := r2.get i g2
      obtain ⟨w3, b3, c3⟩ := r3.get i g3
      refine ⟨⟨v1, v2, v3, w1, w2, w3, q1, q2, q3, b1, b2, b3⟩, fun u H3 yl => ?_⟩
      obtain ⟨T, z1, z2, z3, rfl, hT, rfl, f1, f2, f3⟩ := yl
      have y1 := f1 v1 q1
      have y2 := f2 v2 q2
      have y3 := f3 v3 q3
      rw [b1] at y1
      rw [b2] at y2
      rw [b3] at y3
      cases y1
      cases y2
      cases y3
      have x2 := Ext.new1 (o := .tup [w1, w2, w3]) t2 hT
      exact ⟨_, x2, .tup upd_same (.cons ((c1.mono t1).mono x2.gg) (.cons ((c2.mono t1).mono x2.gg) (.cons ((c3.mono t1).mono x2.gg) .nil)))⟩
end DL

namespace DL
open PySem L2
variable [TC : TabCtx]

/-! ### fields of an object of one's own -/
section
variable {K : PySem.W.Frag} {mg : Str → Option Value} {G H : Hp}
theorem HdL.setv : ∀ {vs : List V} {F : Addr → Prop} {ss : List Sl} (j : Nat) {v : V} {s : Sl} {F1 : Addr → Prop}, HdL K mg G H vs F ss → Hd K mg G H v F1 s → (∀ a, F1 a → ¬ F a) → HdL K mg G H (vs.set j v) (fun a => F a ∨ F1 a) (ss.set j s)
  | _, _, _, _, _, _, _, .nil, _, _ => .nil
  | _, _, _, 0, _, _, _, .cons (F := F) (F1 := Fh) (F2 := Ft) h r s1 s2 d, hv, dj => .cons hv r (fun _ x => .inr x) (fun a x => .inl (s2 a x)) fun a x y => dj a x (s2 a y)
  | _, _, _, j + 1, _, _, _, .cons (F := F) (F1 := Fh) (F2 := Ft) h r s1 s2 d, hv, dj =>
    .cons h (HdL.setv j r hv fun a x y => dj a x (s2 a y)) (fun a x => .inl (s1 a x)) (fun a x => x.elim (fun x => .inl (s2 a x)) .inr) fun a x y => y.elim (d a x) fun y => dj a y (s1 a x)
theorem HdL.snoc : ∀ {vs : List V} {F : Addr → Prop} {ss : List Sl} {v : V} {s : Sl} {F1 : Addr → Prop}, HdL K mg G H vs F ss → Hd K mg G H v F1 s → (∀ a, F1 a → ¬ F a) → HdL K mg G H (vs ++ [v]) (fun a => F a ∨ F1 a) (ss ++ [s])
  | _, F, _, v, s, F1, .nil, hv, dj => .cons (F1 := F1) (F2 := fun _ => False) hv .nil (fun _ x => .inr x) (fun _ x => x.elim) fun _ _ y => y
  | _, _, _, _, _, _, .cons (F := F) (F1 := Fh) (F2 := Ft) h r s1 s2 d, hv, dj =>
    .cons h (HdL.snoc r hv fun a x y => dj a x (s2 a y)) (fun a x => .inl (s1 a x)) (fun a x => x.elim (fun x => .inl (s2 a x)) .inr) fun a x y => y.elim (d a x) fun y => dj a y (s1 a x)
theorem putF_set : ∀ {ns : List Str} {vs : List V} {j : Nat} {f : Str} {v : V}, ns.Nodup → ns[j]? = some f → j < vs.length → putF f v (ns.zip vs) = ns.zip (vs.set j v)
  | [], _, _, _, _, _, h, _ => by simp at h
  | _ :: _, [], _, _, _, _, _, h => by simp at h
  | n :: ns, w :: vs, 0, f, v, nd, h, _ => by
    simp at h; subst h
    show (if n = n then (n, v) :: ns.zip vs else _) = _
    rw [if_pos rfl]; rfl
  | n :: ns, w :: vs, j + 1, f, v, nd, h, hl => by
    have hn : ¬ n = f := fun e => by
      subst e
      exact (List.nodup_cons.mp nd).1 (List.mem_of_getElem? (by simpa using h))
    show (if n = f then (n, v) :: ns.zip vs else (n, w) :: putF f v (ns.zip vs)) = _
    rw [if_neg hn, putF_set (List.nodup_cons.mp nd).2 (by simpa using h) (by simpa using hl)]
    rfl
theorem putF_snoc : ∀ {ns : List Str} {vs : List V} {f : Str} {v : V}, ns.Nodup → ns[vs.length]? = some f → putF f v (ns.zip vs) = ns.zip (vs ++ [v])
  | [], vs, _, _, _, h => by simp at h
  | n :: ns, [], f, v, nd, h => by
    simp at h; subst h; simp [putF]
  | n :: ns, w :: vs, f, v, nd, h => by
    have hn : ¬ n = f := fun e => by
      subst e
      exact (List.nodup_cons.mp nd).1 (List.mem_of_getElem? (by simpa using h))
    show (if n = f then (n, v) :: ns.zip vs else (n, w) :: putF f v (ns.zip vs)) = _
    rw [if_neg hn, putF_snoc (List.nodup_cons.mp nd).2 (by simpa using h)]
    rfl
end

/-! ### new things -/
abbrev Sx := DEnv → Option Sl
structure EN (X : Cx) (e : Expr) (f : Sx) : Prop where
  ex : ∃ t, PE X e t ∧ ∀ G0 H0 Z Γ σ G H Q s, Rel X.K X.mg G0 H0 Z Γ σ G H → f Γ = some s → (∀ G' H' v F, Ext G H G' H' → Hd X.K X.mg G' H' v F s → (∀ a, F a → G' a = none ∧ H a = none ∧ H' a ≠ none) → Q v H') → t σ H Q
def nSh (f : Ex) : Sx := fun Γ => (f Γ).bind fun d => some (.sh d)
def nOw (f : Ag) : Sx := fun Γ => (f Γ).bind fun d => some (.ow d)
def nD (f : Sx) : Ex := fun Γ => (f Γ).bind toD
section
variable {X : Cx} {e a b o tg : Expr} {es : List Expr} {f k : Ex} {fs : Ag} {st : Stmt} {sts : List Stmt} {F F' : Sm} {p : Te} {pos pos' : Pos} {n : Nat} {ix : List Nat} {g : Gs} {sx : Sx}
theorem E.nw (h : E X e f) : EN X e (nSh f) := by
  obtain ⟨t, h1, h2⟩ := h.ex
  refine ⟨⟨t, h1, fun G0 H0 Z Γ σ G H Q s R hf k => ?_⟩⟩
  obtain ⟨d, e1, hf⟩ := obind hf
  cases hf
  exact h2 G0 H0 Z Γ σ G H Q d R e1 fun G' H' v x r => k G' H' v (fun _ => False) x (.sh r) fun _ z => z.elim
theorem EL.nw (h : EL X e fs) : EN X e (nOw fs) := by
  obtain ⟨t, h1, h2⟩ := h.ex
  refine ⟨⟨t, h1, fun G0 H0 Z Γ σ G H Q s R hf k => ?_⟩⟩
  obtain ⟨d, e1, hf⟩ := obind hf
  cases hf
  exact h2 G0 H0 Z Γ σ G H Q d R e1 fun G' H' q vs x hq gq h r => k G' H' _ (fun a => a = q) x (.ow rfl h r) fun a e => by subst e; exact ⟨gq, hq, by rw [h]; simp⟩
theorem EN.fz (h : EN X e sx) : E X e (nD sx) := by
  obtain ⟨t, h1, h2⟩ := h.ex
  refine ⟨⟨t, h1, fun G0 H0 Z Γ σ G H Q d R hf k => ?_⟩⟩
  obtain ⟨s, e1, hf⟩ := obind hf
  refine h2 G0 H0 Z Γ σ G H Q s R e1 fun G' H' v F x hd hF => ?_
  obtain ⟨G2, y, r⟩ := hd.frz hf x.gh fun a z => (hF a z).1
  refine k G2 H' v ⟨x.gg.trans y.gg, x.hh, y.gh, fun a q => ?_, x.hn, fun t => TC.ti.keep (x.tb t) y.gg (fun _ _ => rfl) (fun a h g => by
    cases q : G2 a with
    | none => rfl
    | some u =>
      rcases y.new a (by rw [q]; simp) with z | z
      · exact absurd g z
      · exact absurd (hF a z).2.1 (TC.ti.live t a h).1)⟩ r
  rcases y.new a q with z | z
  · exact x.new a z
  · exact .inr (hF a z).2.1
def sSetN (i : Nat) (f : Sx) : Sm := fun Γ => (f Γ).bind fun s => some (.nx (Γ.set i s))
theorem s_setN (i : Nat) {x : Str} (hN : X.N.Nodup) (he : EN X e sx) (h0 : i ≠ 0 := by decide) (hi : X.N[i]? = some x := by rfl) (hx : Loc X.env.scope x := by first | exact Or.inl rfl | exact Or.inr rfl) (hs : swapsWith e (some (.Name x pos')) pos.line X.env = pure false := by rfl)
    (hf : X.fn x = true ∨ X.env.scope.names.lookup x = some .local := by first | exact .inl rfl | exact .inr rfl | assumption) : S X (.Assign [.Name x pos'] e pos) (sSetN i sx) := by
  obtain ⟨t, h1, h2⟩ := he.ex
  refine ⟨⟨_, ps_set hN hi hx h1 hs hf, fun G0 H0 Z Γ σ G H D r R hf k => ?_⟩⟩
  obtain ⟨d, e1, hf⟩ := obind hf
  cases hf
  exact h2 G0 H0 Z Γ σ G H _ d R e1 fun G1 H1 v F x1 hd hF => k _ G1 H1 (R.setNew x1 i hd hF (.inl h0))

/-! P.f = e -/
def sFld (i : Nat) (rp : Pth) (c j : Nat) (f : Sx) : Sm := fun Γ => (f Γ).bind fun sn => match gP i rp Γ with
  | some (.ob c' fs) => if c' = c then (if j < fs.length then upP i rp (.ob c (fs.set j sn)) Γ else if j = fs.length then upP i rp (.ob c (fs ++ [sn])) Γ else none) else none
  | _ => none
theorem cF_short (c : Nat) : (cF c).length < 1000 := by
  have h : ∀ x ∈ cTab, x.2.length < 1000 := by decide +kernel
  unfold cF
  rw [List.getD_eq_getElem?_getD]
  cases q : cTab[c]? with
  | none => simp
  | some x => exact h x (List.mem_of_getElem? q)
theorem zip_short {c : Nat} {vs : List V} : ((cF c).zip vs).length < 1000 := by
  have := cF_short c
  rw [List.length_zip]
  omega
theorem s_fld {i : Nat} {rp : Pth} {c j : Nat} {C : Addr} {x : Str} (ck : CK X.K X.mg c C) (hp : PL X o i rp) (he : EN X e sx) (hj : (cF c)[j]? = some x := by rfl) (nd : (cF c).Nodup := by decide +kernel) (hs : swapsWith e (some (.Attribute o x pos')) pos.line X.env = pure false := by rfl) :
    S X (.Assign [.Attribute o x pos'] e pos) (sFld i rp c j sx) := by
  obtain ⟨t, t1, t2⟩ := he.ex
  obtain ⟨u, u1, u2⟩ := hp.ex
  refine ⟨⟨_, ps_fld u1 t1 hs, fun G0 H0 Z Γ σ G H D r R hf k => ?_⟩⟩
  obtain ⟨sn, e1, hf⟩ := obind hf
  cases q : gP i rp Γ with
  | none => rw [q] at hf; cases hf
  | some par =>
    rw [q] at hf
    cases par with
    | ob c' fs =>
      replace hf : (if c' = c then (if j < fs.length then upP i rp (.ob c (fs.set j sn)) Γ else if j = fs.length then upP i rp (.ob c (fs ++ [sn])) Γ else none) else none) = some r := hf
      split at hf
      · rename_i hc
        subst hc
        obtain ⟨s, b1, b2, b3⟩ := gP_some q (by simp [SlP])
        refine t2 G0 H0 Z Γ σ G H _ sn R e1 fun G1 H1 v F x1 hd hF => ?_
        refine u2 G0 H0 Z Γ σ G H G1 H1 _ s _ R x1 b1 b2 b3 (by simp) fun v0 pk => ?_
        obtain ⟨F1, P⟩ := pk G1 H1 x1
        have hdP := P.hd
        cases hdP with
        | ob f hm ho n sF rr =>
          rename_i p C' dx vs F'
          rw [ck.hm] at hm
          cases hm
          refine ⟨p, C, dx, _, rfl, ho, ck.cl, ck.na x (List.mem_of_getElem? hj), zip_short, ?_⟩
          have gp := (P.fr p f).1
          have hlen := rr.length
          have dj : ∀ a, F a → ¬ F1 a := fun a y z => (P.fr a z).2.2.2.2 (hF a y).2.1
          have njF : ¬ F p := fun y => dj p y f
          -- the object as it is then
          have fin : ∀ (vs' : List V) (fs' : List Sl) (s2 : Sl), putF x v ((cF c').zip vs) = (cF c').zip vs' → (∀ {Hx : Hp}, HdL X.K X.mg G1 Hx vs F' fs → Hd X.K X.mg G1 Hx v F sn → HdL X.K X.mg G1 Hx vs' (fun a => F' a ∨ F a) fs') → setR rp (.ob c' fs') s = some s2 →
              Rel X.K X.mg G0 H0 Z (Γ.set i s2) σ G1 (upd H1 p (.ins C dx (putF x v ((cF c').zip vs)))) := fun vs' fs' s2 ez mk es => by
            rw [ez]
            have keep : ∀ (Y : Addr → Prop), ¬ Y p → ∀ a o, Y a → H1 a = some o → upd H1 p (.ins C dx ((cF c').zip vs')) a = some o := fun Y hy a o ya q => by
              rw [upd_ne]
              · exact q
              · intro e; subst e; exact hy ya
            refine P.up G1 _ (fun a => F1 a ∨ F a) (.ob c' fs') s2 (Same.refl _) (fun a o q => ?_) (fun a q => .inl q) (fun a o nf q => ?_) ?_ (fun a y => ?_) (fun _ => rfl) es
            · rw [upd_ne (ne_of_none q gp)]; exact x1.gh _ _ q
            · rw [upd_ne]
              · exact q
              · intro e; subst e; exact nf f
            · refine .ob (.inl f) ck.hm upd_same (F' := fun a => F' a ∨ F a) (fun y => y.elim n njF) (fun a y => y.elim (fun y => .inl (sF a y)) .inr) ?_
              exact mk (rr.mono (Same.refl _) (fun a o y q _ => keep F' n a o y q)) (hd.mono (Same.refl _) (fun a o y q _ => keep F njF a o y q))
            · have up : H1 a ≠ none → upd H1 p (.ins C dx ((cF c').zip vs')) a ≠ none := fun q => by
                by_cases e : a = p
                · subst e; rw [upd_same]; simp
                · rw [upd_ne e]; exact q
              rcases y with y | y
              · exact ⟨(P.fr a y).1, up (P.fr a y).2.2.1, .inl y⟩
              · exact ⟨(hF a y).1, up (hF a y).2.2, .inr (hF a y).2.1⟩
          have djL : ∀ a, F a → ¬ F' a := fun a y z => dj a y (sF a z)
          split at hf
          · rename_i hjl
            obtain ⟨s', s2, a1, a2, rfl⟩ := upP_some hf
            rw [b1] at a1
            cases a1
            exact k σ G1 _ (fin (vs.set j v) _ s2 (putF_set nd hj (by rw [hlen]; exact hjl)) (fun r h => r.setv j h djL) a2)
          · split at hf
            · rename_i hjl
              obtain ⟨s', s2, a1, a2, rfl⟩ := upP_some hf
              rw [b1] at a1
              cases a1
              exact k σ G1 _ (fin (vs ++ [v]) _ s2 (putF_snoc nd (by rw [hlen, ← hjl]; exact hj)) (fun r h => r.snoc h djL) a2)
            · cases hf
      · cases hf
    | _ => cases hf

/-! ### defs that change their first argument -/
def spM (K : PySem.W.Frag) (mg : Str → Option Value) (n : Nat) (F : Sl → List D → Option (D × Sl)) : Sp := fun vs H Q _ =>
  ∃ v0 args G s ds d s' Fp, vs = v0 :: args ∧ args.length = n ∧ Same G H ∧ TC.ti.t G H ∧ Hd K mg G H v0 Fp s ∧ (∀ a, Fp a → G a = none ∧ H a ≠ none ∧ ¬ TC.ti.tz a) ∧ RepL K mg G args ds ∧ F s ds = some (d, s') ∧
    ∀ G' H' v Fp', Same G G' → Same G' H' → TC.ti.t G' H' → (∀ a, ¬ Fp a → H a ≠ none → H' a ≠ none) → (∀ a, G' a ≠ none → G a ≠ none ∨ H a = none ∨ Fp a) → (∀ a o, ¬ Fp a → H a = some o → NT o → H' a = some o) → Rep K mg G' v d → Hd K mg G' H' v0 Fp' s' → (∀ a, Fp' a → G' a = none ∧ H' a ≠ none ∧ (Fp a ∨ H a = none)) → Q v H'
def runM (n : Nat) (B : Sm) : Sl → List D → Option (D × Sl) := fun s ds => (B (s :: ds.map Sl.sh ++ List.replicate (n - (ds.length + 1)) .no)).bind fun r => match r with
  | .rm d s' => if isOwn s' then some (d, s') else none
  | .nx Γ => (Γ[0]?).bind fun s' => if isOwn s' then some (.non, s') else none
  | _ => none
def sRetM (f : Ex) : Sm := fun Γ => (f Γ).bind fun d => (Γ[0]?).bind fun s => if isOwn s then some (.rm d s) else none
theorem s_retM (he : E X e f) : S X (.Return (some e) pos) (sRetM f) := by
  obtain ⟨t, h1, h2⟩ := he.ex
  refine ⟨⟨_, ps_ret h1, fun G0 H0 Z Γ σ G H D r R hf k => ?_⟩⟩
  obtain ⟨d, e1, hf⟩ := obind hf
  obtain ⟨s, e2, hf⟩ := obind hf
  split at hf
  · cases hf
    exact h2 G0 H0 Z Γ σ G H _ d R e1 fun G1 H1 v x1 r1 => k Γ σ G1 H1 v (R.ext x1) e2 r1
  · cases hf
def sRetMN : Sm := fun Γ => (Γ[0]?).bind fun s => if isOwn s then some (.rm .non s) else none
theorem s_retMN : S X (.Return none pos) sRetMN := ⟨⟨_, ps_retN, fun G0 H0 Z Γ σ G H D r R hf k => by
  obtain ⟨s, e2, hf⟩ := obind hf
  split at hf
  · cases hf
    exact k Γ σ G H _ R e2 .non
  · cases hf⟩⟩
end
section
variable {P : Program} {w : World} {K : PySem.W.Frag} {mg : Str → Option Value} {base : Heap}
/-- the slots at the entry -/
theorem startM_rel {G H : Hp} {N : List Str} {v0 : V} {vs : List V} {s : Sl} {ds : List D} {Fp : Addr → Prop} (gh : Same G H) (tb : TC.ti.t G H) (hd : Hd K mg G H v0 Fp s) (fr : ∀ a, Fp a → G a = none ∧ H a ≠ none ∧ ¬ TC.ti.tz a) (r : RepL K mg G vs ds) (dec : ∀ a, Decidable (Fp a)) :
    Rel K mg G (fun a => if Fp a then none else H a) ⟨TC.ti.tz, some v0, TC.ti⟩ (s :: ds.map Sl.sh ++ List.replicate (N.length - (ds.length + 1)) .no) (L2.start N (v0 :: vs)) G H := by
  have hl := r.length
  unfold L2.start
  refine ⟨by simp [hl], gh, fun a o q _ => ?_, Same.refl _, fun a h => .inl h, fun a z => (TC.ti.live tb a z).1, fun v s' e1 _ _ => by cases e1; simp, tb, fun _ h => h, rfl, fun a h => by
    by_cases x : Fp a
    · simp [x] at h
    · simpa [x] using h, fun i a => i = 0 ∧ Fp a, fun i a z => ⟨(fr a z.2).1, by simp [z.2], (fr a z.2).2.1, (fr a z.2).2.2⟩, fun i j a z1 z2 => z1.1.trans z2.1.symm, fun i s' h => ?_⟩
  · split at q
    · cases q
    · exact q
  · cases i with
    | zero =>
      simp at h
      subst h
      exact .inr (.inl ⟨v0, by simp, hd.wide fun a x => ⟨rfl, x⟩⟩)
    | succ i =>
      have e : N.length - (ds.length + 1) = (N.length - 1) - ds.length := by omega
      rw [List.cons_append, List.getElem?_cons_succ, e] at h
      rcases start_get h with z | ⟨d, e1, rfl⟩
      · exact .inl z
      · obtain ⟨v, e2, e3⟩ := r.get i e1
        refine .inr (.inl ⟨v, ?_, .sh e3⟩)
        have hi : i < vs.length := (List.getElem?_eq_some_iff.mp e2).1
        rw [List.map_cons, List.cons_append, List.getElem?_cons_succ, List.getElem?_append_left (by simpa using hi), List.getElem?_map, e2]
        rfl
open Classical in
theorem def_okM {x qual : Str} {st : Stmt} {f : Addr} {fd : FuncData} {N ps : List Str} {k : Nat} {B : Sm} (F : Fun K x qual st f fd) (S : FnScope N ps (defScope st)) {n : Nat} (hps : ps.length = n + 1)
    (hbody : ∀ (cdv : Value) (A : Around) (outer : List PySem.Env) (s : Shared) (H : Hp) (E : XK), Room k (A.deeper (PyProof.Rows.envOfC qual (defScope st) s.heap.objs.size f cdv)) →
      Ss (cxOf CX0 P w K mg base N qual (defScope st) f cdv A outer s H E).nox (defBody st) B) : FnOk P w K mg base CX0 (k + 1) f fd ps (spM K mg n (runM N.length B)) := by
  refine F.ok S (fun vs H Q E h => ?_) (fun cdv A outer s H vs Q E hr h => ?_)
  · obtain ⟨v0, args, G, s, ds, d, s', Fp, rfl, hl, _⟩ := h
    simp [hl, hps]
  · obtain ⟨v0, args, G, sl, ds, d, s', Fp, rfl, hl, gh, tb, hd, fr, r, hf, kk⟩ := h
    obtain ⟨t, h1, h2⟩ := (hbody cdv A outer s H E hr).ex
    refine ⟨t, h1, ?_⟩
    obtain ⟨r1, e1, hf⟩ := obind hf
    have R := startM_rel (N := N) gh tb hd fr r fun a => inferInstance
    have fin : ∀ (Γ : DEnv) (σ : L2.St) (G' H' : Hp) (v : V), Rel K mg G (fun a => if Fp a then none else H a) ⟨TC.ti.tz, some v0, TC.ti⟩ Γ σ G' H' → Γ[0]? = some s' → isOwn s' = true → Rep K mg G' v d → Q v H' := fun Γ σ G' H' v R' e0 ns rv => by
      have es := R'.an v0 s' rfl e0 ns
      obtain ⟨own, o1, o2, o3⟩ := R'.own
      rcases o3 0 s' e0 with z | ⟨v', z1, z2⟩ | ⟨_, _, z, _⟩
      · rw [z] at ns; cases ns
      rotate_left
      · rw [z] at ns; cases ns
      · rw [es] at z1
        cases z1
        refine kk G' H' v (own 0) R'.gg R'.gh R'.tbc (fun a nf h => R'.hn a (by simpa [nf] using h)) (fun a q => ?_) (fun a o nf q n => R'.hh a o (by simp [nf, q]) n) rv z2 fun a y => ?_
        · rcases R'.new a q with z | z
          · exact .inl z
          · by_cases fa : Fp a
            · exact .inr (.inr fa)
            · simp [fa] at z
              exact .inr (.inl z)
        · obtain ⟨w1, w2, w3, w4⟩ := o1 0 a y
          refine ⟨w1, w3, ?_⟩
          by_cases fa : Fp a
          · exact .inl fa
          · simp [fa] at w2
            exact .inr w2
    refine h2 G _ _ _ _ G H _ r1 R e1 ?_
    cases r1 with
    | rm d' s2 =>
      replace hf : (if isOwn s2 then some (d', s2) else none) = some (d, s') := hf
      split at hf
      · rename_i ns
        cases hf
        exact fun Γ σ G' H' v R' e0 rv => fin Γ σ G' H' v R' e0 ns rv
      · cases hf
    | nx Γ =>
      obtain ⟨s2, e2, hf⟩ := obind hf
      split at hf
      · rename_i ns
        cases hf
        exact fun σ' G' H' R' => fin Γ σ' G' H' _ R' e2 ns .non
      · cases hf
    | rt d => cases hf
    | ro s => cases hf
    | bk Γ => cases hf
    | ct Γ => cases hf
end

/-! ### objects that are made -/
structure Mak (P : Program) (w : World) (K : PySem.W.Frag) (mg : Str → Option Value) (base : Heap) (c L : Nat) (ps : List Str) (S : Sl → List D → Option (D × Sl)) : Prop where
  ex : ∃ C f fd p0 ps', ps = p0 :: ps' ∧ mg (cN c) = some (.ref C) ∧ Mk K C f ∧ FnOk P w K mg base CX0 L f fd ps (spM K mg ps'.length S) ∧ Binds K fd ps []
def gMk (c : Nat) (S : Sl → List D → Option (D × Sl)) (fs : Ag) : Sx := fun Γ => (fs Γ).bind fun ds => (S (.ob c []) ds).bind fun r => match r.1 with
  | .non => some r.2
  | _ => none
section
variable {X : Cx} {a : Expr} {es : List Expr} {fs : Ag} {pos p : Pos}
theorem make_ok {c : Nat} {C : Addr} {n : Nat} {S : Sl → List D → Option (D × Sl)} {t : TA} (hm : X.mg (cN c) = some (.ref C)) (hn : ∀ Γ ds, fs Γ = some ds → ds.length = n)
    (h2 : ∀ (G0 H0 : Hp) (Z : Zs) (Γ : DEnv) (σ : L2.St) (G H : Hp) (Q : List V → Hp → Prop) (ds : List D), Rel X.K X.mg G0 H0 Z Γ σ G H → fs Γ = some ds → (∀ G' H' vs, Ext G H G' H' → RepL X.K X.mg G' vs ds → Q vs H') → t σ H Q) :
    ∀ (G0 H0 : Hp) (Z : Zs) (Γ : DEnv) (σ : L2.St) (G H : Hp) (Q : VK) (s : Sl), Rel X.K X.mg G0 H0 Z Γ σ G H → gMk c S fs Γ = some s → (∀ G' H' v F, Ext G H G' H' → Hd X.K X.mg G' H' v F s → (∀ a, F a → G' a = none ∧ H a = none ∧ H' a ≠ none) → Q v H') → tMake C (spM X.K X.mg n S) [] E0 t σ H Q := by
  intro G0 H0 Z Γ σ G H Q s R hf k
  obtain ⟨ds, e1, hf⟩ := obind hf
  obtain ⟨⟨d, s'⟩, e2, hf⟩ := obind hf
  have hd : d = .non ∧ s' = s := by
    cases d with
    | non => cases hf; exact ⟨rfl, rfl⟩
    | _ => cases hf
  obtain ⟨rfl, rfl⟩ := hd
  refine h2 G0 H0 Z Γ σ G H _ ds R e1 fun G1 H1 vs x1 r1 => ?_
  intro x dx nx ndx ne
  have gx : G1 x = none := x1.gh.free nx
  have Hx : H x = none := x1.hf nx
  have T1 := (R.ext x1).tbc
  have keep : ∀ b o, H1 b = some o → upd (upd H1 dx (.own x)) x (.ins C dx []) b = some o := fun b o q => by
    rw [upd_ne (ne_of_none q nx), upd_ne (ne_of_none q ndx)]; exact q
  refine ⟨.ref x, vs, G1, .ob c [], ds, .non, s', fun b => b = x, by rw [List.append_nil], ?_, fun b o q => keep b o (x1.gh _ _ q), TC.ti.keep T1 (Same.refl _) (fun a h => same_at (fun b o q => keep b o q) (TC.ti.live T1 a h).1) (fun _ _ g => g), ?_, fun b e => by subst e; exact ⟨gx, by rw [upd_same]; simp, fun z => (TC.ti.live T1 _ z).1 nx⟩, r1, e2, ?_⟩
  · rw [r1.length, hn Γ ds e1]
  · exact .ob (F' := fun _ => False) (dx := dx) (vs := []) rfl hm (by rw [upd_same, List.zip_nil_right]) (fun z => z) (fun _ z => z.elim) .nil
  · intro G' H' v Fp' gg gh tb' hn' nw kp rv hv fr
    cases rv
    have keep' : ∀ b o, H b = some o → NT o → upd (upd H1 dx (.own x)) x (.ins C dx []) b = some o := fun b o q n => keep b o (x1.hh b o q n)
    have kn : ∀ b, H1 b ≠ none → upd (upd H1 dx (.own x)) x (.ins C dx []) b ≠ none := fun b h => nn (fun b o q => keep b o q) h
    refine ⟨rfl, k G' H' (.ref x) Fp' ⟨x1.gg.trans gg, fun b o q n => ?_, gh, fun b q => ?_, fun b h => hn' b (fun e => by subst e; exact h Hx) (kn b (x1.hn b h)), fun _ => tb'⟩ hv fun b y => ?_⟩
    · exact kp b o (fun e => by subst e; rw [Hx] at q; cases q) (keep' b o q n) n
    · rcases nw b q with z | z | z
      · exact x1.new b z
      · refine .inr ?_
        cases e : H b with
        | none => rfl
        | some o => exact absurd z (kn b (x1.hn b (by rw [e]; simp)))
      · subst z; exact .inr Hx
    · obtain ⟨w1, w2, w3⟩ := fr b y
      refine ⟨w1, ?_, w2⟩
      rcases w3 with z | z
      · subst z; exact Hx
      · cases e : H b with
        | none => rfl
        | some o => exact absurd z (kn b (x1.hn b (by rw [e]; simp)))
theorem e_mkC {c k L : Nat} {p0 : Str} {ps : List Str} {S : Sl → List D → Option (D × Sl)} (m : Mak X.prog X.w X.K X.mg X.base c L (p0 :: ps) S) (hr : Room k X.A) (hk : L + 1 ≤ k)
    (ha : AN X (a :: es) ps.length fs) (hg : Gl X (cN c) := by rfl) (hdb : (cN c == ("__debug__" : Str)) = false := by decide) (he : starEach (a :: es) X.env = (false, eval a X.env) :: starEach es X.env := by rfl) (hpl : (backTo pos (starEach es X.env)).any (·.1) = false := by rfl) :
    EN X (.Call (.Name (cN c) p) (a :: es) [] pos) (gMk c S fs) := by
  obtain ⟨C, f, fd, q0, ps', ep, h1, h2, h3, h4⟩ := m.ex
  cases ep
  obtain ⟨t, t1, t2⟩ := ha.a.ex
  exact ⟨⟨_, pe_make h2 h3 (hr.mono hk) hg h1 h4 .nil pass0 t1 hdb he hpl, make_ok h1 ha.n t2⟩⟩
theorem e_mkC0 {c k L : Nat} {p0 : Str} {S : Sl → List D → Option (D × Sl)} (m : Mak X.prog X.w X.K X.mg X.base c L [p0] S) (hr : Room k X.A) (hk : L + 1 ≤ k)
    (hg : Gl X (cN c) := by rfl) (hdb : (cN c == ("__debug__" : Str)) = false := by decide) : EN X (.Call (.Name (cN c) p) [] [] pos) (gMk c S aN) := by
  obtain ⟨C, f, fd, q0, ps', ep, h1, h2, h3, h4⟩ := m.ex
  cases ep
  exact ⟨⟨_, pe_make0 h2 h3 (hr.mono hk) hg h1 h4 .nil pass0 hdb, make_ok (fs := aN) (n := 0) h1 (fun _ _ h => by cases h; rfl) fun G0 H0 Z Γ σ G H Q ds R e kk => by cases e; exact kk G H [] (.refl R.gh) .nil⟩⟩
end

/-! ### defs that give a thing of the caller's own -/
def sRetO (i : Nat) (rp : Pth) : Sm := fun Γ => match gP i rp Γ with
  | some s => if isOwn s then some (.ro s) else none
  | none => none
section
variable {X : Cx} {a e : Expr} {es : List Expr} {fs : Ag} {pos p : Pos} {sx : Sx}
theorem isOwn_no : isOwn .no = false := rfl
theorem s_retO {i : Nat} {rp : Pth} (hp : PL X e i rp) : S X (.Return (some e) pos) (sRetO i rp) := by
  obtain ⟨t, h1, h2⟩ := hp.ex
  refine ⟨⟨_, ps_ret h1, fun G0 H0 Z Γ σ G H D r R hf k => ?_⟩⟩
  unfold sRetO at hf
  cases q : gP i rp Γ with
  | none => rw [q] at hf; cases hf
  | some s1 =>
    rw [q] at hf
    replace hf : (if isOwn s1 then some (Res.ro s1) else none) = some r := hf
    split at hf
    · rename_i ho
      cases hf
      have hn : SlP s1 := ⟨(fun z => by subst z; rw [isOwn_no] at ho; cases ho), (fun d z => by subst z; cases ho)⟩
      obtain ⟨s, b1, b2, b3⟩ := gP_some q hn
      refine h2 G0 H0 Z Γ σ G H G H _ s s1 R (Ext.refl R.gh) b1 b2 b3 hn.1 fun v pk => ?_
      obtain ⟨F1, P⟩ := pk G H (Ext.refl R.gh)
      exact k G H v F1 R.end P.hd fun a y => ⟨(P.fr a y).1, (P.fr a y).2.1, (P.fr a y).2.2.1⟩
    · cases hf
def sRetEN (sx : Sx) : Sm := fun Γ => (sx Γ).bind fun s => some (.ro s)
theorem s_retEN (he : EN X e sx) : S X (.Return (some e) pos) (sRetEN sx) := by
  obtain ⟨t, h1, h2⟩ := he.ex
  refine ⟨⟨_, ps_ret h1, fun G0 H0 Z Γ σ G H D r R hf k => ?_⟩⟩
  obtain ⟨s, e1, hf⟩ := obind hf
  cases hf
  exact h2 G0 H0 Z Γ σ G H _ s R e1 fun G1 H1 v F x1 hd hF => k G1 H1 v F (R.ext x1).end hd fun a y => ⟨(hF a y).1, R.hf (hF a y).2.1, (hF a y).2.2⟩
/-- the promise: something new -/
def spN (K : PySem.W.Frag) (mg : Str → Option Value) (n : Nat) (F : List D → Option Sl) : Sp := fun vs H Q _ =>
  ∃ G ds s, vs.length = n ∧ Same G H ∧ TC.ti.t G H ∧ RepL K mg G vs ds ∧ F ds = some s ∧ ∀ G' H' v F', Ext G H G' H' → Hd K mg G' H' v F' s → (∀ a, F' a → G' a = none ∧ H a = none ∧ H' a ≠ none) → Q v H'
def runN (n : Nat) (B : Sm) : List D → Option Sl := fun ds => (B (ds.map Sl.sh ++ List.replicate (n - ds.length) .no)).bind fun r => match r with
  | .rt d => some (.sh d)
  | .ro s => some s
  | .nx _ => some (.sh .non)
  | _ => none
structure CalN (P : Program) (w : World) (K : PySem.W.Frag) (mg : Str → Option Value) (base : Heap) (x : Str) (L : Nat) (ps : List Str) (S : List D → Option Sl) : Prop where
  ex : ∃ f fd, FnOk P w K mg base CX0 L f fd ps (spN K mg ps.length S) ∧ mg x = some (.ref f) ∧ PySem.W.keepIn K (.ref f) = true ∧ Binds K fd ps []
def gCallN (S : List D → Option Sl) (fs : Ag) : Sx := fun Γ => (fs Γ).bind S
theorem e_callN {k L : Nat} {ps : List Str} {S : List D → Option Sl} {x : Str} {p : Pos} (c : CalN X.prog X.w X.K X.mg X.base x L ps S) (hr : Room k X.A) (hk : L ≤ k)
    (ha : AN X (a :: es) ps.length fs) (hg : Gl X x := by rfl) (hdb : (x == ("__debug__" : Str)) = false := by decide) (he : starEach (a :: es) X.env = (false, eval a X.env) :: starEach es X.env := by rfl) (hpl : (backTo pos (starEach es X.env)).any (·.1) = false := by rfl) :
    EN X (.Call (.Name x p) (a :: es) [] pos) (gCallN S fs) := by
  obtain ⟨f, fd, f1, f2, f3, f4⟩ := c.ex
  obtain ⟨t, h1, h2⟩ := ha.a.ex
  refine ⟨⟨_, pe_call f1 (hr.mono hk) hg f2 f3 f4 .nil pass0 h1 hdb he hpl, fun G0 H0 Z Γ σ G H Q s R hf k => ?_⟩⟩
  obtain ⟨ds, e1, hf⟩ := obind hf
  refine h2 G0 H0 Z Γ σ G H _ _ R e1 fun G1 H1 vs x1 r1 => ?_
  refine ⟨G1, ds, s, ?_, x1.gh, (R.ext x1).tbc, ?_, hf, fun G' H' v F x2 r2 f2 => k G' H' v F (x1.trans x2) r2 fun b y => ?_⟩
  · rw [List.append_nil, r1.length, ha.n Γ ds e1]
  · rw [List.append_nil]; exact r1
  · obtain ⟨w1, w2, w3⟩ := f2 b y
    exact ⟨w1, x1.hf w2, w3⟩
end
section
variable {P : Program} {w : World} {K : PySem.W.Frag} {mg : Str → Option Value} {base : Heap}
theorem def_okN {x qual : Str} {st : Stmt} {f : Addr} {fd : FuncData} {N ps : List Str} {k : Nat} {B : Sm} (F : Fun K x qual st f fd) (S : FnScope N ps (defScope st))
    (hbody : ∀ (cdv : Value) (A : Around) (outer : List PySem.Env) (s : Shared) (H : Hp) (E : XK), Room k (A.deeper (PyProof.Rows.envOfC qual (defScope st) s.heap.objs.size f cdv)) →
      Ss (cxOf CX0 P w K mg base N qual (defScope st) f cdv A outer s H E).nox (defBody st) B) : FnOk P w K mg base CX0 (k + 1) f fd ps (spN K mg ps.length (runN N.length B)) := by
  refine F.ok S (fun vs H Q E h => ?_) (fun cdv A outer s H vs Q E hr h => ?_)
  · obtain ⟨G, ds, d, hl, _⟩ := h
    exact hl
  · obtain ⟨G, ds, sl, hl, gh, tb, r, hf, k'⟩ := h
    obtain ⟨t, h1, h2⟩ := (hbody cdv A outer s H E hr).ex
    refine ⟨t, h1, ?_⟩
    obtain ⟨r1, e1, hf⟩ := obind hf
    refine h2 G H _ _ _ G H _ r1 (start_rel gh tb r) e1 ?_
    cases r1 with
    | rt d' => cases hf; exact fun G' H' v x r => k' G' H' v (fun _ => False) x (.sh r) fun _ z => z.elim
    | ro s' => cases hf; exact fun G' H' v F' x h f => k' G' H' v F' x h f
    | nx Γ => cases hf; exact fun σ' G' H' R => k' G' H' _ (fun _ => False) R.end (.sh .non) fun _ z => z.elim
    | rm d s => cases hf
    | bk Γ => cases hf
    | ct Γ => cases hf
end
end DL

namespace DL
open PySem PySem.Spec PyProof.Rows L2
variable [TC : TabCtx]

/-! ### del xs[a:] of a list -/
theorem keep_take {α : Type} (p : Nat → Bool) (a : Nat) : ∀ (xs : List α) (m : Nat), (∀ k, m ≤ k → k < m + xs.length → p k = decide (a ≤ k)) → (xs.zipIdx m).filterMap (fun t : α × Nat => if p t.2 = true then none else some t.1) = xs.take (a - m)
  | [], m, _ => by simp
  | x :: xs, m, h => by
    rw [List.zipIdx_cons, List.filterMap_cons]
    have h0 := h m (Nat.le_refl _) (by simp)
    have ih := keep_take p a xs (m + 1) fun k h1 h2 => h k (by omega) (by simp at h2 ⊢; omega)
    by_cases e : a ≤ m
    · have e1 : p m = true := by rw [h0]; exact decide_eq_true e
      rw [e1]
      have z : a - m = 0 := by omega
      have z1 : a - (m + 1) = 0 := by omega
      rw [z1] at ih
      simp [z, ih]
    · have e1 : p m = false := by rw [h0]; exact decide_eq_false e
      rw [e1]
      have z : a - m = (a - (m + 1)) + 1 := by omega
      rw [z, List.take_succ_cons]
      simp [ih]
section
variable {prog : Program} {w : World} {A : Around} {E : Value → Shared → Prop} {s : Shared}
theorem bounds_from {a n : Nat} (h : a ≤ n) : sliceBounds (some (a : Int)) none none n = ((a : Int), (n : Int), 1) := by
  simp only [sliceBounds, Option.getD_none]
  have h1 : ¬ ((a : Int) < 0) := by omega
  simp only [h1, if_false, show (1 : Int) > 0 by decide, if_true]
  congr 1
  omega
theorem delItem_from {l sl : Addr} {items : Array Value} {n : Nat} {vl : Value} {a : Nat} {Q : Unit → Shared → Prop}
    (e : s.heap.get? l = some { cls := .type "list", data := .seq items n }) (hs : s.heap.IsSliceOf sl vl .none .none) (pl : IsPart vl (some (a : Int))) (ha : a ≤ items.size)
    (hsz : items.size ≤ sizeLine) (h : ∀ f : Array Value → Array Value, f items = items.extract 0 a → Q () { s with heap := s.heap.update l (Obj.mapSeq f) }) :
    wpAny (model prog w) A (delItem (.ref l) (.ref sl)) Q E s := by
  have hl : s.heap.IsList l items := PySem.IsL.isList e
  obtain ⟨os, hos, hcs, hds⟩ := id hs
  have hTs : s.TypeIs (.ref sl) "slice" := ⟨os, hos, hcs⟩
  have hstep : ¬ ((rawPart none == rawInt 0) = true) := Bool.false_ne_true
  refine wpAny_delItem_slot hl.typeIs (by decide) PySem.F.slot_list_delitem (wpAny_call_entry PySem.F.slot_list_delitem hl.typeIs PySem.F.entry_list_delitem ?_ (PySem.F.args_list_delitem_2 _ _))
  show wpAny _ _ (Builtin.List.listSubscript? (.ref sl) >>= _) _ _ s
  refine wpAny_bind ?_
  unfold Builtin.List.listSubscript?
  refine wpAny_bind (wpAny_specialOf hTs slice_no_index ?_)
  simp only [Option.isNone_none, if_true]
  refine wpAny_pure ?_
  show wpAny _ _ (typeOf (.ref sl) >>= _) _ _ s
  refine wpAny_bind (wpAny_typeOf hTs ?_)
  first
    | rw [if_neg (by decide)]
    | refine PySem.W.KFB.if_not (by decide) ?_
  rw [listSliceParts_eq]
  refine wpAny_bind (wpAny_bind (wpAny_field hos hds (x := .none) rfl (wpAny_bind (wpAny_listPart .none ?_))))
  rw [if_neg hstep]
  refine wpAny_bind (wpAny_field hos hds (x := vl) rfl (wpAny_bind (wpAny_listPart pl ?_)))
  refine wpAny_bind (wpAny_field hos hds (x := .none) rfl (wpAny_bind (wpAny_listPart .none (wpAny_pure ?_))))
  refine wpAny_bind ?_
  unfold Builtin.List.listItems
  refine wpAny_bind (wpAny_seqItems e rfl (wpAny_pure ?_))
  refine wpAny_bind (wpAny_of_eq ((sliceIndices_raw (some (a : Int)) none none items.size (by simp)).trans (congrArg (pure : Int × Int × Int → Sem (Int × Int × Int)) (bounds_from ha))) ?_)
  refine wpAny_bind (wpAny_rule ?_)
  have hf : (items.toList.zipIdx.filterMap fun (x, k) => if (if (1 : Int) > 0 then (decide ((a : Int) ≤ (k : Int)) && decide ((k : Int) < (items.size : Int)) && (((k : Int) - (a : Int)) % 1 == 0)) else (decide ((items.size : Int) < (k : Int)) && decide ((k : Int) ≤ (a : Int)) && (((a : Int) - (k : Int)) % (-1) == 0))) = true then none else some x).toArray = items.extract 0 a := by
    have := keep_take (α := Value) (fun k => if (1 : Int) > 0 then (decide ((a : Int) ≤ (k : Int)) && decide ((k : Int) < (items.size : Int)) && (((k : Int) - (a : Int)) % 1 == 0)) else (decide ((items.size : Int) < (k : Int)) && decide ((k : Int) ≤ (a : Int)) && (((a : Int) - (k : Int)) % (-1) == 0))) a items.toList 0 fun k h1 h2 => by
      have h3 : (k : Int) < items.size := by simp at h2; omega
      simp [h3, Int.emod_one]
    rw [Nat.sub_zero] at this
    refine (congrArg List.toArray this).trans ?_
    apply Array.toList_inj.mp
    simp
  refine wpAny_bind (wpAny_updateSeq (hz := hsz) (_hz' := ?_) e rfl ?_)
  rotate_left
  · show (List.toArray _).size ≤ _
    have h2 := congrArg Array.size hf
    rw [Array.size_extract] at h2
    refine Nat.le_trans (Nat.le_of_eq h2) ?_
    omega
  refine wpAny_bind (wpAny_letGo ?_)
  first
    | exact wpAny_pure ⟨.none, rfl, h _ hf⟩
    | exact wpAny_pure (h _ hf)
    | exact ⟨.none, rfl, h _ hf⟩
end
section
variable {X : Cx}
theorem del_from {pins : List (Addr × Obj)} {s : Shared} {σ : L2.St} {H : Hp} {l sl : Addr} {xs : List V} {a : Nat} {vl : Value} {Q : Unit → Shared → Prop} (I : Inv X pins σ H s) (hH : H l = some (.lst xs))
    (hs : s.heap.IsSliceOf sl vl .none .none) (pl : RelV (.int a) vl) (ha : a ≤ xs.length) (h : ∀ s', Inv X pins σ (upd H l (.lst (xs.take a))) s' → Q () s') :
    wpAny (model X.prog X.w) X.A (delItem (.ref l) (.ref sl)) Q X.xe s := by
  obtain ⟨ta, rfl⟩ := pl
  obtain ⟨z, its, n, r, hl, e⟩ := I.lstM hH
  refine delItem_from (a := a) e hs (.int _ _) (by rw [List.size_toArray]; omega) (by rw [List.size_toArray]; omega) fun f hf => h _ ?_
  refine I.lset (its' := its.take a) (t' := s.toks) hH e ?_ (r.take a) ?_
  · rw [hf]
    apply Array.toList_inj.mp
    simp
  · rw [List.length_take]; omega
def tDelF (to ti : TE) : TS := fun D σ H => to σ H fun x H1 => ti σ H1 fun y H2 => ∃ (l : Addr) (xs : List V) (k : Nat), x = .ref l ∧ y = .int k ∧ H2 l = some (.lst xs) ∧ k ≤ xs.length ∧ D.nx σ (upd H2 l (.lst (xs.take k)))
theorem ps_delF {o i : Expr} {to ti : TE} {tpos sp pos : Pos} (ho : PE X o to) (hi : PE X i ti) : PS X (.Delete [.Subscript o (.Slice (some i) none none sp) tpos] pos) (tDelF to ti) := by
  refine ⟨fun pins s σ H D I h => ?_⟩
  refine wpAny_Delete (wpAny_deleteEach_cons (wpAny_delete_Subscript (thn (ho.run pins s σ H _ I h) fun u s1 ⟨x, H1, I1, rx, q1⟩ => ?_)))
  refine wpAny_Slice (thn (hi.run pins s1 σ H1 _ I1 q1) fun vl s2 ⟨l, H2, I2, pl, q2⟩ => ?_)
  rw [evalPart_none]
  refine wpAny_pure (wpAny_pure ?_)
  have I4 : Inv X pins σ H2 { s2 with heap := s2.heap.push { cls := .type "slice", data := .fields #[vl, .none, .none] } } := I2.kept (t' := s2.toks) fun b ob q => Heap.get?_push_of_some _ q
  obtain ⟨l', xs, k, rfl, rfl, hH, hk, q3⟩ := q2
  cases rx
  exact del_from I4 hH (Heap.IsSliceOf.new ..) pl hk fun s3 I3 => wpAny_deleteEach_nil ⟨σ, _, I3, q3⟩
end
end DL

namespace DL
open PySem L2
variable [TC : TabCtx]

/-! ### arguments that are only looked at -/
inductive RepM (K : PySem.W.Frag) (mg : Str → Option Value) (G H : Hp) : List Bool → List V → List D → Prop
  | nil : RepM K mg G H [] [] []
  | sh {ms : List Bool} {v : V} {vs : List V} {d : D} {ds : List D} (h : Rep K mg G v d) (r : RepM K mg G H ms vs ds) : RepM K mg G H (false :: ms) (v :: vs) (d :: ds)
  | bo {ms : List Bool} {v : V} {vs : List V} {d : D} {ds : List D} (h : RepB K mg G H v d) (r : RepM K mg G H ms vs ds) : RepM K mg G H (true :: ms) (v :: vs) (d :: ds)
def mkS : Bool → D → Sl
  | true, d => .bo d
  | false, d => .sh d
def slM : List Bool → List D → List Sl
  | m :: ms, d :: ds => mkS m d :: slM ms ds
  | _, _ => []
section
variable {K : PySem.W.Frag} {mg : Str → Option Value} {G H G' H' : Hp}
theorem RepM.ext (e : Ext G H G' H') : ∀ {ms : List Bool} {vs : List V} {ds : List D}, RepM K mg G H ms vs ds → RepM K mg G' H' ms vs ds
  | _, _, _, .nil => .nil
  | _, _, _, .sh h r => .sh (h.mono e.gg) (r.ext e)
  | _, _, _, .bo h r => .bo (h.ext e) (r.ext e)
theorem RepM.len : ∀ {ms : List Bool} {vs : List V} {ds : List D}, RepM K mg G H ms vs ds → vs.length = ms.length ∧ ds.length = ms.length
  | _, _, _, .nil => ⟨rfl, rfl⟩
  | _, _, _, .sh _ r => by have := r.len; simp [this.1, this.2]
  | _, _, _, .bo _ r => by have := r.len; simp [this.1, this.2]
theorem RepM.get : ∀ {ms : List Bool} {vs : List V} {ds : List D} (i : Nat) {s : Sl}, RepM K mg G H ms vs ds → (slM ms ds)[i]? = some s → ∃ v d, vs[i]? = some v ∧ ((s = .sh d ∧ Rep K mg G v d) ∨ (s = .bo d ∧ RepB K mg G H v d))
  | _, _, _, _, _, .nil, e => by simp [slM] at e
  | _, _, _, 0, _, .sh h _, e => by simp [slM, mkS] at e; subst e; exact ⟨_, _, rfl, .inl ⟨rfl, h⟩⟩
  | _, _, _, 0, _, .bo h _, e => by simp [slM, mkS] at e; subst e; exact ⟨_, _, rfl, .inr ⟨rfl, h⟩⟩
  | _, _, _, i + 1, _, .sh _ r, e => by
    obtain ⟨v, d, h1, h2⟩ := r.get i (by simpa [slM] using e)
    exact ⟨v, d, by simpa using h1, h2⟩
  | _, _, _, i + 1, _, .bo _ r, e => by
    obtain ⟨v, d, h1, h2⟩ := r.get i (by simpa [slM] using e)
    exact ⟨v, d, by simpa using h1, h2⟩
theorem slM_len : ∀ {ms : List Bool} {ds : List D}, ds.length = ms.length → (slM ms ds).length = ms.length
  | [], [], _ => rfl
  | _ :: _, _ :: _, h => by simp [slM, slM_len (Nat.succ.inj h)]
  | [], _ :: _, h => by simp at h
  | _ :: _, [], h => by simp at h
end
def runK (ms : List Bool) (n : Nat) (F : Sm) : List D → Option D := fun ds => (F (slM ms ds ++ List.replicate (n - ms.length) .no)).bind fun r => match r with
  | .rt d => some d
  | .nx _ => some .non
  | _ => none
def spK (K : PySem.W.Frag) (mg : Str → Option Value) (ms : List Bool) (F : List D → Option D) : Sp := fun vs H Q _ =>
  ∃ G ds d, Same G H ∧ TC.ti.t G H ∧ RepM K mg G H ms vs ds ∧ F ds = some d ∧ ∀ G' H' v, Ext G H G' H' → Rep K mg G' v d → Q v H'
theorem startK_rel {K : PySem.W.Frag} {mg : Str → Option Value} {G H : Hp} {N : List Str} {ms : List Bool} {vs : List V} {ds : List D} (gh : Same G H) (tb : TC.ti.t G H) (r : RepM K mg G H ms vs ds) : Rel K mg G H ⟨TC.ti.tz, none, TC.ti⟩ (slM ms ds ++ List.replicate (N.length - ms.length) .no) (L2.start N vs) G H := by
  obtain ⟨hv, hd⟩ := r.len
  have hl := slM_len hd
  unfold L2.start
  refine ⟨by simp [hl, hv], gh, same_n (Same.refl _), Same.refl _, fun a h => .inl h, fun a z => (TC.ti.live tb a z).1, fun _ _ z => (by cases z), tb, fun _ h => h, rfl, fun _ h => h, fun _ _ => False, fun _ _ z => z.elim, fun _ _ _ z => z.elim, fun i s h => ?_⟩
  by_cases hi : i < ms.length
  · rw [List.getElem?_append_left (by omega)] at h
    obtain ⟨v, d, e1, e2⟩ := r.get i h
    have st : (vs.map some ++ List.replicate (N.length - vs.length) none)[i]? = some (some v) := by
      rw [List.getElem?_append_left (by simp; omega), List.getElem?_map, e1]
      rfl
    rcases e2 with ⟨rfl, e2⟩ | ⟨rfl, e2⟩
    · exact .inr (.inl ⟨v, st, .sh e2⟩)
    · exact .inr (.inr ⟨v, d, rfl, st, e2⟩)
  · rw [List.getElem?_append_right (by omega), List.getElem?_replicate] at h
    split at h
    · cases h; exact .inl rfl
    · cases h
section
variable {P : Program} {w : World} {K : PySem.W.Frag} {mg : Str → Option Value} {base : Heap}
theorem def_okK {x qual : Str} {st : Stmt} {f : Addr} {fd : FuncData} {N ps : List Str} {k : Nat} {B : Sm} {ms : List Bool} (F : Fun K x qual st f fd) (S : FnScope N ps (defScope st)) (hms : ms.length = ps.length)
    (hbody : ∀ (cdv : Value) (A : Around) (outer : List PySem.Env) (s : Shared) (H : Hp) (E : XK), Room k (A.deeper (PyProof.Rows.envOfC qual (defScope st) s.heap.objs.size f cdv)) →
      Ss (cxOf CX0 P w K mg base N qual (defScope st) f cdv A outer s H E).nox (defBody st) B) : FnOk P w K mg base CX0 (k + 1) f fd ps (spK K mg ms (runK ms N.length B)) := by
  refine F.ok S (fun vs H Q E h => ?_) (fun cdv A outer s H vs Q E hr h => ?_)
  · obtain ⟨G, ds, d, gh, _, r, _⟩ := h
    rw [r.len.1, hms]
  · obtain ⟨G, ds, d, gh, tb, r, hf, k'⟩ := h
    obtain ⟨t, h1, h2⟩ := (hbody cdv A outer s H E hr).ex
    refine ⟨t, h1, ?_⟩
    obtain ⟨r1, e1, hf⟩ := obind hf
    refine h2 G H _ _ _ G H _ r1 (startK_rel gh tb r) e1 ?_
    cases r1 with
    | rt d' => cases hf; exact fun G' H' v x r => k' G' H' v x r
    | nx Γ => cases hf; exact fun σ' G' H' R => k' G' H' _ R.end .non
    | rm d s => cases hf
    | ro s => cases hf
    | bk Γ => cases hf
    | ct Γ => cases hf
end
structure CalK (P : Program) (w : World) (K : PySem.W.Frag) (mg : Str → Option Value) (base : Heap) (x : Str) (L : Nat) (ps : List Str) (ms : List Bool) (S : List D → Option D) : Prop where
  ex : ∃ f fd, FnOk P w K mg base CX0 L f fd ps (spK K mg ms S) ∧ mg x = some (.ref f) ∧ PySem.W.keepIn K (.ref f) = true ∧ Binds K fd ps []
structure MetK (P : Program) (w : World) (K : PySem.W.Frag) (mg : Str → Option Value) (base : Heap) (c : Nat) (m : Str) (L : Nat) (ps : List Str) (ms : List Bool) (S : List D → Option D) : Prop where
  ex : ∃ C f fd, CK K mg c C ∧ Meth K C m f ∧ FnOk P w K mg base CX0 L f fd ps (spK K mg ms S) ∧ Binds K fd ps []
structure AM (X : Cx) (es : List Expr) (ms : List Bool) (f : Ag) : Prop where
  ex : ∃ t, PA X es t ∧ ∀ G0 H0 Z Γ σ G H Q ds, Rel X.K X.mg G0 H0 Z Γ σ G H → f Γ = some ds → (∀ G' H' vs, Ext G H G' H' → RepM X.K X.mg G' H' ms vs ds → Q vs H') → t σ H Q
section
variable {X : Cx} {e a b o : Expr} {es : List Expr} {f g : Ex} {fs : Ag} {pos : Pos} {ms : List Bool}
theorem m_nil : AM X [] [] aN := ⟨⟨_, pa_nil, fun G0 H0 Z Γ σ G H Q ds R hf k => by cases hf; exact k G H _ (Ext.refl R.gh) .nil⟩⟩
theorem m_sh (he : E X e f) (hr : AM X es ms fs) (hs : starEach (e :: es) X.env = (false, eval e X.env) :: starEach es X.env := by rfl) : AM X (e :: es) (false :: ms) (aC f fs) := by
  obtain ⟨t, h1, h2⟩ := he.ex
  obtain ⟨u, q1, q2⟩ := hr.ex
  refine ⟨⟨_, pa_cons h1 q1 hs, fun G0 H0 Z Γ σ G H Q ds R hf k => ?_⟩⟩
  obtain ⟨d, e1, hf⟩ := obind hf
  obtain ⟨ds', e2, hf⟩ := obind hf
  cases hf
  refine h2 G0 H0 Z Γ σ G H _ d R e1 fun G1 H1 v x1 r1 => ?_
  refine q2 G0 H0 Z Γ σ G1 H1 _ ds' (R.ext x1) e2 fun G2 H2 vs x2 r2 => ?_
  exact k G2 H2 _ (x1.trans x2) (.sh (r1.mono x2.gg) r2)
theorem m_bo (he : B X e f) (hr : AM X es ms fs) (hs : starEach (e :: es) X.env = (false, eval e X.env) :: starEach es X.env := by rfl) : AM X (e :: es) (true :: ms) (aC f fs) := by
  obtain ⟨t, h1, h2⟩ := he.ex
  obtain ⟨u, q1, q2⟩ := hr.ex
  refine ⟨⟨_, pa_cons h1 q1 hs, fun G0 H0 Z Γ σ G H Q ds R hf k => ?_⟩⟩
  obtain ⟨d, e1, hf⟩ := obind hf
  obtain ⟨ds', e2, hf⟩ := obind hf
  cases hf
  refine h2 G0 H0 Z Γ σ G H _ d R e1 fun G1 H1 v x1 r1 => ?_
  refine q2 G0 H0 Z Γ σ G1 H1 _ ds' (R.ext x1) e2 fun G2 H2 vs x2 r2 => ?_
  exact k G2 H2 _ (x1.trans x2) (.bo (r1.ext x2) r2)
theorem e_callK {k L : Nat} {ps : List Str} {S : List D → Option D} {x : Str} {p : Pos} (c : CalK X.prog X.w X.K X.mg X.base x L ps ms S) (hr : Room k X.A) (hk : L ≤ k)
    (ha : AM X (a :: es) ms fs) (hg : Gl X x := by rfl) (hdb : (x == ("__debug__" : Str)) = false := by decide) (he : starEach (a :: es) X.env = (false, eval a X.env) :: starEach es X.env := by rfl) (hpl : (backTo pos (starEach es X.env)).any (·.1) = false := by rfl) :
    E X (.Call (.Name x p) (a :: es) [] pos) (gCall S fs) := by
  obtain ⟨f, fd, f1, f2, f3, f4⟩ := c.ex
  obtain ⟨t, h1, h2⟩ := ha.ex
  refine ⟨⟨_, pe_call f1 (hr.mono hk) hg f2 f3 f4 .nil pass0 h1 hdb he hpl, fun G0 H0 Z Γ σ G H Q d R hf k => ?_⟩⟩
  obtain ⟨ds, e1, hf⟩ := obind hf
  refine h2 G0 H0 Z Γ σ G H _ _ R e1 fun G1 H1 vs x1 r1 => ?_
  refine ⟨G1, ds, d, x1.gh, (R.ext x1).tbc, ?_, hf, fun G' H' v x2 r2 => k G' H' v (x1.trans x2) r2⟩
  rw [List.append_nil]; exact r1
/-- the object that a value is, where it is only looked at -/
theorem RepB.objAt {K : PySem.W.Frag} {mg : Str → Option Value} {G H : Hp} {v : V} {c : Nat} {ds : List D} (gh : Same G H) (r : RepB K mg G H v (.obj c ds)) : ∃ p C dx vs, v = .ref p ∧ mg (cN c) = some (.ref C) ∧ H p = some (.ins C dx ((cF c).zip vs)) ∧ RepBL K mg G H vs ds := by
  cases r with
  | sh r => cases r with
    | obj hm h r => exact ⟨_, _, _, _, rfl, hm, gh _ _ h, r.bo⟩
  | obj hm h r => exact ⟨_, _, _, _, rfl, hm, h, r⟩
theorem e_metK {pl : Sem Bool} {c k L : Nat} {ps : List Str} {S : List D → Option D} {m : Str} {apos : Pos} (mt : MetK X.prog X.w X.K X.mg X.base c m L ps (true :: ms) S) (hr : Room k X.A) (hk : L ≤ k)
    (ho : B X o f) (ha : AM X (a :: es) ms fs) (hno : m ∉ cF c := by decide +kernel)
    (hst : starEach (a :: es) X.env = (false, eval a X.env) :: starEach es X.env := by rfl) (hpl : (backTo pos (starEach es X.env)).any (·.1) = false := by rfl)
    (ht : eval (.Call (.Attribute o m apos) (a :: es) [] pos) X.env = (do
      let ov ← eval o X.env
      standAt apos.atName
      let (f, first) ← holding [ov] (getMethod ov m pl)
      callWith pos f first (backTo pos (starEach (a :: es) X.env)) (backToKw pos (keywordEach [] X.env))) := by rfl) : E X (.Call (.Attribute o m apos) (a :: es) [] pos) (gMeth c S f fs) := by
  obtain ⟨C, fa, fd, ck, hme, FO, hb⟩ := mt.ex
  obtain ⟨t, h1, h2⟩ := ha.ex
  obtain ⟨u, q1, q2⟩ := ho.ex
  refine ⟨⟨_, pe_meth q1 ck.cl hme FO (hr.mono hk) hb .nil pass0 h1 hst hpl ht, fun G0 H0 Z Γ σ G H Q d R hf k => ?_⟩⟩
  obtain ⟨y, e1, hv⟩ := obind hf
  cases y with
  | obj c' vs' =>
    replace hv : (if c' = c then (fs Γ).bind fun ds => S (.obj c' vs' :: ds) else none) = some d := hv
    split at hv
    · rename_i cz
      subst cz
      obtain ⟨ds, e2, hv⟩ := obind hv
      refine q2 G0 H0 Z Γ σ G H _ _ R e1 fun G1 H1 v x1 r1 => ?_
      obtain ⟨p, C', dx, ws, rfl, hm', hp, _⟩ := r1.objAt x1.gh
      rw [ck.hm] at hm'
      cases hm'
      refine ⟨_, _, _, rfl, hp, zip_lookup_none hno, ?_⟩
      refine h2 G0 H0 Z Γ σ G1 H1 _ _ (R.ext x1) e2 fun G2 H2 vs x2 r2 => ?_
      exact ⟨G2, _, d, x2.gh, ((R.ext x1).ext x2).tbc, .bo (r1.ext x2) (by rw [List.append_nil]; exact r2), hv, fun G' H' v x3 r3 => k G' H' v ((x1.trans x2).trans x3) r3⟩
    · cases hv
  | _ => cases hv
theorem e_metK0 {pl : Sem Bool} {c k L : Nat} {ps : List Str} {S : List D → Option D} {m : Str} {apos : Pos} (mt : MetK X.prog X.w X.K X.mg X.base c m L ps [true] S) (hr : Room k X.A) (hk : L ≤ k)
    (ho : B X o f) (hno : m ∉ cF c := by decide +kernel)
    (ht : eval (.Call (.Attribute o m apos) [] [] pos) X.env = (do
      let ov ← eval o X.env
      standAt apos.atName
      let (f, first) ← holding [ov] (getMethod ov m pl)
      callWith pos f first (backTo pos (starEach [] X.env)) (backToKw pos (keywordEach [] X.env))) := by rfl) : E X (.Call (.Attribute o m apos) [] [] pos) (gMeth c S f aN) := by
  obtain ⟨C, fa, fd, ck, hme, FO, hb⟩ := mt.ex
  obtain ⟨u, q1, q2⟩ := ho.ex
  refine ⟨⟨_, pe_meth0 q1 ck.cl hme FO (hr.mono hk) hb .nil pass0 ht, fun G0 H0 Z Γ σ G H Q d R hf k => ?_⟩⟩
  obtain ⟨y, e1, hv⟩ := obind hf
  cases y with
  | obj c' vs' =>
    replace hv : (if c' = c then (aN Γ).bind fun ds => S (.obj c' vs' :: ds) else none) = some d := hv
    split at hv
    · rename_i cz
      subst cz
      obtain ⟨ds, e2, hv⟩ := obind hv
      cases e2
      refine q2 G0 H0 Z Γ σ G H _ _ R e1 fun G1 H1 v x1 r1 => ?_
      obtain ⟨p, C', dx, ws, rfl, hm', hp, _⟩ := r1.objAt x1.gh
      rw [ck.hm] at hm'
      cases hm'
      refine ⟨_, _, _, rfl, hp, zip_lookup_none hno, ?_⟩
      exact ⟨G1, _, d, x1.gh, (R.ext x1).tbc, .bo r1 .nil, hv, fun G' H' v x3 r3 => k G' H' v (x1.trans x3) r3⟩
    · cases hv
  | _ => cases hv
/-- o.f of what is only looked at -/
theorem b_fld {c j : Nat} {C : Addr} {x : Str} (ck : CK X.K X.mg c C) (he : B X o f) (hj : (cF c)[j]? = some x := by rfl) (nd : (cF c).Nodup := by decide +kernel) (hb : attributeBase o x X.env (eval o X.env) = eval o X.env := by rfl) : B X (.Attribute o x pos) (gU (dFld c j) f) := by
  obtain ⟨t, h1, h2⟩ := he.ex
  refine ⟨⟨_, pe_fld h1 hb, fun G0 H0 Z Γ σ G H Q d R hf k => ?_⟩⟩
  obtain ⟨y, e1, hv⟩ := obind hf
  cases y with
  | obj c' vs =>
    replace hv : (if c' = c then vs[j]? else none) = some d := hv
    split at hv
    · rename_i cz
      subst cz
      refine h2 G0 H0 Z Γ σ G H _ _ R e1 fun G1 H1 v x1 r1 => ?_
      obtain ⟨p, C', dx, ws, rfl, hm', hp, rl⟩ := r1.objAt x1.gh
      rw [ck.hm] at hm'
      cases hm'
      obtain ⟨w, g1, g2⟩ := rl.get j hv
      exact ⟨_, _, _, _, w, rfl, hp, ck.cl, ck.na x (List.mem_of_getElem? hj), zip_lookup nd hj g1, k G1 H1 w x1 g2⟩
    · cases hv
  | _ => cases hv
/-- neither a list nor an object: nothing can be changed in it -/
def isIm : D → Bool
  | .lst _ => false
  | .obj _ _ => false
  | .dic _ _ => false
  | _ => true
def gIm (f : Ex) : Ex := fun Γ => (f Γ).bind fun d => if isIm d then some d else none
theorem B.im (h : B X e f) : E X e (gIm f) := by
  obtain ⟨t, h1, h2⟩ := h.ex
  refine ⟨⟨t, h1, fun G0 H0 Z Γ σ G H Q d R hf k => ?_⟩⟩
  obtain ⟨y, e1, hv⟩ := obind hf
  split at hv
  · rename_i hi
    cases hv
    refine h2 G0 H0 Z Γ σ G H Q _ R e1 fun G1 H1 v x1 r1 => k G1 H1 v x1 ?_
    refine r1.flat (fun xs z => ?_) (fun c xs z => ?_) fun ks xs z => ?_
    · subst z; cases hi
    · subst z; cases hi
    · subst z; cases hi
  · cases hv
end

/-! ### calls that change a place of one's own -/
/-- an expression that changes slots' places (not the slots) and gives a datum -/
abbrev Mx := DEnv → Option (D × DEnv)
structure EM (X : Cx) (e : Expr) (f : Mx) : Prop where
  ex : ∃ t, PE X e t ∧ ∀ G0 H0 Z Γ σ G H Q d Γ', Rel X.K X.mg G0 H0 Z Γ σ G H → f Γ = some (d, Γ') → (∀ G' H' v, Rel X.K X.mg G0 H0 Z Γ' σ G' H' → Rep X.K X.mg G' v d → Q v H') → t σ H Q
structure CalM (P : Program) (w : World) (K : PySem.W.Frag) (mg : Str → Option Value) (base : Heap) (x : Str) (L : Nat) (ps : List Str) (S : Sl → List D → Option (D × Sl)) : Prop where
  ex : ∃ f fd n, ps.length = n + 1 ∧ FnOk P w K mg base CX0 L f fd ps (spM K mg n S) ∧ mg x = some (.ref f) ∧ PySem.W.keepIn K (.ref f) = true ∧ Binds K fd ps []
structure MetM (P : Program) (w : World) (K : PySem.W.Frag) (mg : Str → Option Value) (base : Heap) (c : Nat) (m : Str) (L : Nat) (ps : List Str) (S : Sl → List D → Option (D × Sl)) : Prop where
  ex : ∃ C f fd n, ps.length = n + 1 ∧ CK K mg c C ∧ Meth K C m f ∧ FnOk P w K mg base CX0 L f fd ps (spM K mg n S) ∧ Binds K fd ps []
/-- place i rp is changed by S -/
def gCM (i : Nat) (rp : Pth) (S : Sl → List D → Option (D × Sl)) (fs : Ag) : Mx := fun Γ => match gP i rp Γ with
  | some s1 => if isOwn s1 then (fs Γ).bind fun ds => (S s1 ds).bind fun r => (Γ[i]?).bind fun s => (setR rp r.2 s).bind fun s2 => some (r.1, Γ.set i s2) else none
  | none => none
theorem gCM_some {i : Nat} {rp : Pth} {S : Sl → List D → Option (D × Sl)} {fs : Ag} {Γ Γ' : DEnv} {d : D} (h : gCM i rp S fs Γ = some (d, Γ')) :
    ∃ s s1 ds s1' s2, Γ[i]? = some s ∧ getR rp s = some s1 ∧ SlP s ∧ SlP s1 ∧ isOwn s1 = true ∧ fs Γ = some ds ∧ S s1 ds = some (d, s1') ∧ setR rp s1' s = some s2 ∧ Γ' = Γ.set i s2 := by
  unfold gCM at h
  cases q : gP i rp Γ with
  | none => rw [q] at h; cases h
  | some s1 =>
    rw [q] at h
    replace h : (if isOwn s1 then (fs Γ).bind fun ds => (S s1 ds).bind fun r => (Γ[i]?).bind fun s => (setR rp r.2 s).bind fun s2 => some (r.1, Γ.set i s2) else none) = some (d, Γ') := h
    split at h
    · rename_i ho
      obtain ⟨ds, e1, h⟩ := obind h
      obtain ⟨⟨d', s1'⟩, e2, h⟩ := obind h
      obtain ⟨s, e3, h⟩ := obind h
      obtain ⟨s2, e4, h⟩ := obind h
      cases h
      have hP : SlP s1 := ⟨(fun z => by subst z; cases ho), (fun d z => by subst z; cases ho)⟩
      obtain ⟨s', b1, b2, b3⟩ := gP_some q hP
      rw [e3] at b1
      cases b1
      exact ⟨s, s1, ds, s1', s2, e3, b2, b3, hP, ho, e1, e2, e4, rfl⟩
    · cases h
section
variable {X : Cx} {e a b o : Expr} {es : List Expr} {f g : Ex} {fs : Ag} {pos : Pos} {n i : Nat} {rp : Pth} {S : Sl → List D → Option (D × Sl)} {mx : Mx}
/-- the callee's promise at a place -/
theorem change_ok {G0 H0 G H Hb : Hp} {Z : Zs} {Γ : DEnv} {σ : L2.St} {n : Nat} {Q : VK} {E : XK} {s s1 s1' s2 : Sl} {v : V} {F1 : Addr → Prop} {vs : List V} {ds : List D} {d : D} (P : Pack X.K X.mg G0 H0 Z Γ σ i rp s s1 v F1 Hb G H) (gh : Same G H) (hb : ∀ a, Hb a ≠ none → H a ≠ none) (r : RepL X.K X.mg G vs ds) (hn : ds.length = n) (ho : isOwn s1 = true)
    (hS : S s1 ds = some (d, s1')) (es : setR rp s1' s = some s2) (k : ∀ G' H' u, Rel X.K X.mg G0 H0 Z (Γ.set i s2) σ G' H' → Rep X.K X.mg G' u d → Q u H') : spM X.K X.mg n S (v :: vs) H Q E := by
  refine ⟨v, vs, G, s1, ds, d, s1', F1, rfl, by rw [r.length, hn], gh, P.tb, P.hd, fun a y => ⟨(P.fr a y).1, (P.fr a y).2.2.1, P.ntz a y⟩, r, hS, fun G' H' u Fp' gg gh' tb' hn' nw keep rv hd' fr => k G' H' u ?_ rv⟩
  have free : ∀ a, H a = none → Hb a = none := fun a z => by
    cases q : Hb a with
    | none => rfl
    | some o => exact absurd z (hb a (by rw [q]; simp))
  refine P.upC G' H' Fp' s1' s2 gg gh' tb' hn' (fun a q => ?_) keep hd' (fun a y => ?_) (fun _ => ho) es
  · rcases nw a q with z | z | z
    · exact .inl z
    · exact .inr (.inl (free a z))
    · exact .inr (.inr z)
  · obtain ⟨w1, w2, w3⟩ := fr a y
    exact ⟨w1, w2, w3.elim .inl fun z => .inr (free a z)⟩
theorem em_call {k L : Nat} {ps : List Str} {x : Str} {p : Pos} (c : CalM X.prog X.w X.K X.mg X.base x L ps S) (hr : Room k X.A) (hk : L ≤ k) (hp : PL X o i rp)
    (ha : AN X es n fs) (hn : ps.length = n + 1 := by rfl) (hg : Gl X x := by rfl) (hdb : (x == ("__debug__" : Str)) = false := by decide) (he : starEach (o :: es) X.env = (false, eval o X.env) :: starEach es X.env := by rfl) (hpl : (backTo pos (starEach es X.env)).any (·.1) = false := by rfl) :
    EM X (.Call (.Name x p) (o :: es) [] pos) (gCM i rp S fs) := by
  obtain ⟨f, fd, n', f0, f1, f2, f3, f4⟩ := c.ex
  have : n' = n := by omega
  subst this
  obtain ⟨t, t1, t2⟩ := ha.a.ex
  obtain ⟨u, u1, u2⟩ := hp.ex
  refine ⟨⟨_, pe_call f1 (hr.mono hk) hg f2 f3 f4 .nil pass0 (pa_cons u1 t1 he) hdb he hpl, fun G0 H0 Z Γ σ G H Q d Γ' R hf k => ?_⟩⟩
  obtain ⟨s, s1, ds, s1', s2, b1, b2, b3, b4, ho, e1, hS, es', rfl⟩ := gCM_some hf
  refine u2 G0 H0 Z Γ σ G H G H _ s s1 R (Ext.refl R.gh) b1 b2 b3 b4.1 fun v pk => ?_
  refine t2 G0 H0 Z Γ σ G H _ ds R e1 fun G1 H1 vs x1 r1 => ?_
  obtain ⟨F1, P⟩ := pk G1 H1 x1
  rw [List.append_nil]
  exact change_ok (E := E0) P x1.gh x1.hn r1 (ha.n Γ ds e1) ho hS es' k
theorem em_met {pl : Sem Bool} {c k L : Nat} {ps : List Str} {m : Str} {apos : Pos} (mt : MetM X.prog X.w X.K X.mg X.base c m L ps S) (hr : Room k X.A) (hk : L ≤ k) (hp : PL X o i rp)
    (ha : AN X (a :: es) n fs) (hn : ps.length = n + 1 := by rfl) (hno : m ∉ cF c := by decide +kernel)
    (hst : starEach (a :: es) X.env = (false, eval a X.env) :: starEach es X.env := by rfl) (hpl : (backTo pos (starEach es X.env)).any (·.1) = false := by rfl)
    (ht : eval (.Call (.Attribute o m apos) (a :: es) [] pos) X.env = (do
      let ov ← eval o X.env
      standAt apos.atName
      let (f, first) ← holding [ov] (getMethod ov m pl)
      callWith pos f first (backTo pos (starEach (a :: es) X.env)) (backToKw pos (keywordEach [] X.env))) := by rfl) :
    EM X (.Call (.Attribute o m apos) (a :: es) [] pos) (fun Γ => match gP i rp Γ with | some (.ob c' _) => if c' = c then gCM i rp S fs Γ else none | _ => none) := by
  obtain ⟨C, fa, fd, n', f0, ck, hme, FO, hb⟩ := mt.ex
  have : n' = n := by omega
  subst this
  obtain ⟨t, t1, t2⟩ := ha.a.ex
  obtain ⟨u, u1, u2⟩ := hp.ex
  refine ⟨⟨_, pe_meth u1 ck.cl hme FO (hr.mono hk) hb .nil pass0 t1 hst hpl ht, fun G0 H0 Z Γ σ G H Q d Γ' R hf k => ?_⟩⟩
  cases q : gP i rp Γ with
  | none => rw [q] at hf; cases hf
  | some s0 =>
    rw [q] at hf
    cases s0 with
    | ob c' fls =>
      replace hf : (if c' = c then gCM i rp S fs Γ else none) = some (d, Γ') := hf
      split at hf
      · rename_i cz
        subst cz
        obtain ⟨s, s1, ds, s1', s2, b1, b2, b3, b4, ho, e1, hS, es', rfl⟩ := gCM_some hf
        have e0 : s1 = .ob c' fls := by
          unfold gP at q
          rw [b1] at q
          exact Option.some.inj (b2.symm.trans q)
        subst e0
        refine u2 G0 H0 Z Γ σ G H G H _ s _ R (Ext.refl R.gh) b1 b2 b3 b4.1 fun v pk => ?_
        obtain ⟨F0, P0⟩ := pk G H (Ext.refl R.gh)
        have hd := P0.hd
        cases hd with
        | ob ff hm hh nn sF rr =>
          rw [ck.hm] at hm
          cases hm
          refine ⟨_, _, _, rfl, hh, zip_lookup_none hno, ?_⟩
          refine t2 G0 H0 Z Γ σ G H _ ds R e1 fun G1 H1 vs x1 r1 => ?_
          obtain ⟨F1, P⟩ := pk G1 H1 x1
          rw [List.append_nil]
          exact change_ok (E := E0) P x1.gh x1.hn r1 (ha.n Γ ds e1) ho hS es' k
      · cases hf
    | _ => cases hf
theorem em_met0 {pl : Sem Bool} {c k L : Nat} {ps : List Str} {m : Str} {apos : Pos} (mt : MetM X.prog X.w X.K X.mg X.base c m L ps S) (hr : Room k X.A) (hk : L ≤ k) (hp : PL X o i rp)
    (hn : ps.length = 1 := by rfl) (hno : m ∉ cF c := by decide +kernel)
    (ht : eval (.Call (.Attribute o m apos) [] [] pos) X.env = (do
      let ov ← eval o X.env
      standAt apos.atName
      let (f, first) ← holding [ov] (getMethod ov m pl)
      callWith pos f first (backTo pos (starEach [] X.env)) (backToKw pos (keywordEach [] X.env))) := by rfl) :
    EM X (.Call (.Attribute o m apos) [] [] pos) (fun Γ => match gP i rp Γ with | some (.ob c' _) => if c' = c then gCM i rp S aN Γ else none | _ => none) := by
  obtain ⟨C, fa, fd, n', f0, ck, hme, FO, hb⟩ := mt.ex
  have : n' = 0 := by omega
  subst this
  obtain ⟨u, u1, u2⟩ := hp.ex
  refine ⟨⟨_, pe_meth0 u1 ck.cl hme FO (hr.mono hk) hb .nil pass0 ht, fun G0 H0 Z Γ σ G H Q d Γ' R hf k => ?_⟩⟩
  cases q : gP i rp Γ with
  | none => rw [q] at hf; cases hf
  | some s0 =>
    rw [q] at hf
    cases s0 with
    | ob c' fls =>
      replace hf : (if c' = c then gCM i rp S aN Γ else none) = some (d, Γ') := hf
      split at hf
      · rename_i cz
        subst cz
        obtain ⟨s, s1, ds, s1', s2, b1, b2, b3, b4, ho, e1, hS, es', rfl⟩ := gCM_some hf
        have e0 : s1 = .ob c' fls := by
          unfold gP at q
          rw [b1] at q
          exact Option.some.inj (b2.symm.trans q)
        subst e0
        cases e1
        refine u2 G0 H0 Z Γ σ G H G H _ s _ R (Ext.refl R.gh) b1 b2 b3 b4.1 fun v pk => ?_
        obtain ⟨F0, P0⟩ := pk G H (Ext.refl R.gh)
        have hd := P0.hd
        cases hd with
        | ob ff hm hh nn sF rr =>
          rw [ck.hm] at hm
          cases hm
          refine ⟨_, _, _, rfl, hh, zip_lookup_none hno, ?_⟩
          obtain ⟨F1, P⟩ := pk G H (Ext.refl R.gh)
          exact change_ok (E := E0) (vs := []) (ds := []) P R.gh (fun _ h => h) .nil rfl ho hS es' k
      · cases hf
    | _ => cases hf
def gMM (i : Nat) (rp : Pth) (c : Nat) (S : Sl → List D → Option (D × Sl)) (fs : Ag) : Mx := fun Γ => match gP i rp Γ with | some (.ob c' _) => if c' = c then gCM i rp S fs Γ else none | _ => none
/-! statements of these -/
def sExpM (f : Mx) : Sm := fun Γ => (f Γ).bind fun r => some (.nx r.2)
theorem s_exprM (he : EM X e mx) (hs : swapsWith e none pos.line X.env = pure false := by rfl) : DL.S X (.Expr e pos) (sExpM mx) := by
  obtain ⟨t, h1, h2⟩ := he.ex
  refine ⟨⟨_, ps_expr h1 hs, fun G0 H0 Z Γ σ G H D r R hf k => ?_⟩⟩
  obtain ⟨⟨d, Γ'⟩, e1, hf⟩ := obind hf
  cases hf
  exact h2 G0 H0 Z Γ σ G H _ d Γ' R e1 fun G1 H1 v R1 r1 => k σ G1 H1 R1
def sSetM (j : Nat) (f : Mx) : Sm := fun Γ => (f Γ).bind fun r => some (.nx (r.2.set j (.sh r.1)))
theorem s_setM (j : Nat) {x : Str} {pos' : Pos} (hN : X.N.Nodup) (he : EM X e mx) (hi : X.N[j]? = some x := by rfl) (hx : Loc X.env.scope x := by first | exact Or.inl rfl | exact Or.inr rfl) (hs : swapsWith e (some (.Name x pos')) pos.line X.env = pure false := by rfl)
    (hf : X.fn x = true ∨ X.env.scope.names.lookup x = some .local := by first | exact .inl rfl | exact .inr rfl | assumption) : DL.S X (.Assign [.Name x pos'] e pos) (sSetM j mx) := by
  obtain ⟨t, h1, h2⟩ := he.ex
  refine ⟨⟨_, ps_set hN hi hx h1 hs hf, fun G0 H0 Z Γ σ G H D r R hf k => ?_⟩⟩
  obtain ⟨⟨d, Γ'⟩, e1, hf⟩ := obind hf
  cases hf
  exact h2 G0 H0 Z Γ σ G H _ d Γ' R e1 fun G1 H1 v R1 r1 => k _ G1 H1 (R1.set j r1)
def sRetCM (f : Mx) : Sm := fun Γ => (f Γ).bind fun r => (r.2[0]?).bind fun s => if isOwn s then some (.rm r.1 s) else none
theorem s_retCM (he : EM X e mx) : DL.S X (.Return (some e) pos) (sRetCM mx) := by
  obtain ⟨t, h1, h2⟩ := he.ex
  refine ⟨⟨_, ps_ret h1, fun G0 H0 Z Γ σ G H D r R hf k => ?_⟩⟩
  obtain ⟨⟨d, Γ'⟩, e1, hf⟩ := obind hf
  obtain ⟨s, e2, hf⟩ := obind hf
  split at hf
  · cases hf
    exact h2 G0 H0 Z Γ σ G H _ d Γ' R e1 fun G1 H1 v R1 r1 => k Γ' σ G1 H1 v R1 e2 r1
  · cases hf
/-- del P[k:] -/
def sDelF (i : Nat) (rp : Pth) (f : Ex) : Sm := fun Γ => match gP i rp Γ with
  | some (.ow xs) => (f Γ).bind fun d => match d with
    | .int k => if 0 ≤ k ∧ k.toNat ≤ xs.length then upP i rp (.ow (xs.take k.toNat)) Γ else none
    | _ => none
  | _ => none
theorem s_delF {sp tpos : Pos} (hp : PL X o i rp) (he : E X e f) : DL.S X (.Delete [.Subscript o (.Slice (some e) none none sp) tpos] pos) (sDelF i rp f) := by
  obtain ⟨t, t1, t2⟩ := he.ex
  obtain ⟨u, u1, u2⟩ := hp.ex
  refine ⟨⟨_, ps_delF u1 t1, fun G0 H0 Z Γ σ G H D r R hf k => ?_⟩⟩
  unfold sDelF at hf
  cases q : gP i rp Γ with
  | none => rw [q] at hf; cases hf
  | some par =>
    rw [q] at hf
    cases par with
    | ow xs =>
      obtain ⟨d, e1, hf⟩ := obind hf
      cases d with
      | int j =>
        replace hf : (if 0 ≤ j ∧ j.toNat ≤ xs.length then upP i rp (.ow (xs.take j.toNat)) Γ else none) = some r := hf
        split at hf
        · rename_i hj
          obtain ⟨s, s2, a1, a2, rfl⟩ := upP_some hf
          obtain ⟨s', b1, b2, b3⟩ := gP_some q (by simp [SlP])
          rw [a1] at b1
          cases b1
          refine u2 G0 H0 Z Γ σ G H G H _ s _ R (Ext.refl R.gh) a1 b2 b3 (by simp) fun v pk => ?_
          refine t2 G0 H0 Z Γ σ G H _ _ R e1 fun G1 H1 w x1 r1 => ?_
          obtain ⟨F1, p1⟩ := pk G1 H1 x1
          obtain ⟨l, vs, rfl, d1, d2, d3⟩ := p1.list x1.gh
          rw [r1.intv]
          refine ⟨l, vs, j.toNat, rfl, by rw [Int.toNat_of_nonneg hj.1], d1, by rw [d2.length]; exact hj.2, ?_⟩
          exact k σ G1 _ (d3 _ _ _ (d2.take _) a2)
        · cases hf
      | _ => cases hf
    | _ => cases hf
end
end DL

namespace DL
open PySem L2
variable [TC : TabCtx]

section
variable {X : Cx} {e a b o : Expr} {es : List Expr} {f g k : Ex} {fs : Ag} {pos pos' : Pos} {n i : Nat} {rp : Pth}
/-- a + b of lists that are looked at: a new list -/
def gCat (f g : Ex) : Ag := fun Γ => (f Γ).bind fun x => (g Γ).bind fun y => match x, y with
  | .lst xs, .lst ys => if xs.length + ys.length < 1000000 then some (xs ++ ys) else none
  | _, _ => none
theorem el_cat (ha : B X a f) (hb : B X b g) : EL X (.BinOp a .Add b pos) (gCat f g) := by
  obtain ⟨t, h1, h2⟩ := ha.ex
  obtain ⟨u, q1, q2⟩ := hb.ex
  refine ⟨⟨_, pe_op op_cat h1 q1, fun G0 H0 Z Γ σ G H Q ds R hf k => ?_⟩⟩
  obtain ⟨x, e1, hf⟩ := obind hf
  obtain ⟨y, e2, hf⟩ := obind hf
  cases x with
  | lst xs =>
    cases y with
    | lst ys =>
      replace hf : (if xs.length + ys.length < 1000000 then some (xs ++ ys) else none) = some ds := hf
      split at hf
      · rename_i hz
        cases hf
        refine h2 G0 H0 Z Γ σ G H _ _ R e1 fun G1 H1 v x1 r1 => ?_
        refine q2 G0 H0 Z Γ σ G1 H1 _ _ (R.ext x1) e2 fun G2 H2 w x2 r2 => ?_
        obtain ⟨p, vs, rfl, hp, rp⟩ := (r1.ext x2).lst x2.gh
        obtain ⟨q, ws, rfl, hq, rq⟩ := r2.lst x2.gh
        refine ⟨p, q, vs, ws, rfl, rfl, hp, hq, by rw [rp.length, rq.length]; exact Nat.le_trans (Nat.le_of_lt hz) line_big, fun l hl => ?_⟩
        exact k G2 _ l _ ((x1.trans x2).trans (Ext.own1 x2.gh hl)) ((x1.trans x2).hf hl) (x2.gh.free hl) upd_same (rp.append rq)
      · cases hf
    | _ => cases hf
  | _ => cases hf

/-! P.f += e -/
theorem Pack.setSh {K : PySem.W.Frag} {mg : Str → Option Value} {G0 H0 G H Hb : Hp} {Z : Zs} {Γ : DEnv} {σ : L2.St} {s s2 : Sl} {c j : Nat} {x : Str} {fs : List Sl} {v0 v : V} {F1 : Addr → Prop} {d : D} (P : Pack K mg G0 H0 Z Γ σ i rp s (.ob c fs) v0 F1 Hb G H) (gh : Same G H)
    (hj : (cF c)[j]? = some x) (nd : (cF c).Nodup) (r : Rep K mg G v d) (hl : j < fs.length) (es : setR rp (.ob c (fs.set j (.sh d))) s = some s2) :
    ∃ p C dx vs, v0 = .ref p ∧ mg (cN c) = some (.ref C) ∧ H p = some (.ins C dx ((cF c).zip vs)) ∧ Rel K mg G0 H0 Z (Γ.set i s2) σ G (upd H p (.ins C dx (putF x v ((cF c).zip vs)))) := by
  have hd := P.hd
  cases hd with
  | ob f hm ho n sF rr =>
    rename_i p C dx vs F'
    have gp := (P.fr p f).1
    have hlen := rr.length
    refine ⟨p, C, dx, vs, rfl, hm, ho, ?_⟩
    rw [putF_set nd hj (by rw [hlen]; exact hl)]
    have keep : ∀ (Y : Addr → Prop), ¬ Y p → ∀ a o, Y a → H a = some o → upd H p (.ins C dx ((cF c).zip (vs.set j v))) a = some o := fun Y hy a o ya q => by
      rw [upd_ne]
      · exact q
      · intro e; subst e; exact hy ya
    refine P.up G _ F1 (.ob c (fs.set j (.sh d))) s2 (Same.refl _) (fun a o q => ?_) (fun a q => .inl q) (fun a o nf q => ?_) ?_ (fun a y => ?_) (fun _ => rfl) es
    · rw [upd_ne (ne_of_none q gp)]; exact gh _ _ q
    · rw [upd_ne]
      · exact q
      · intro e; subst e; exact nf f
    · have hs := (rr.mono (H' := upd H p (.ins C dx ((cF c).zip (vs.set j v)))) (Same.refl _) (fun a o y q _ => keep F' n a o y q)).setv j (F1 := fun _ => False) (Hd.sh r) (fun _ z => z.elim)
      exact .ob f hm upd_same (F' := fun a => F' a ∨ False) (fun y => y.elim n id) (fun a y => y.elim (sF a) False.elim) hs
    · refine ⟨(P.fr a y).1, ?_, .inl y⟩
      by_cases e : a = p
      · subst e; rw [upd_same]; simp
      · rw [upd_ne e]; exact (P.fr a y).2.2.1
def sAugF (i : Nat) (rp : Pth) (c j : Nat) (f : Ex) : Sm := fun Γ => match gP i rp Γ with
  | some (.ob c' fs) => if c' = c then (match fs[j]? with
    | some (.sh (.int a)) => (f Γ).bind fun d => match d with
      | .int b => upP i rp (.ob c (fs.set j (.sh (.int (a + b))))) Γ
      | _ => none
    | _ => none) else none
  | _ => none
theorem s_augF {c j : Nat} {C : Addr} {x : Str} {tpos : Pos} (ck : CK X.K X.mg c C) (hp : PL X o i rp) (he : E X e f) (hj : (cF c)[j]? = some x := by rfl) (nd : (cF c).Nodup := by decide +kernel) :
    S X (.AugAssign (.Attribute o x tpos) .Add e pos) (sAugF i rp c j f) := by
  obtain ⟨t, t1, t2⟩ := he.ex
  obtain ⟨u, u1, u2⟩ := hp.ex
  refine ⟨⟨_, ps_fldaug u1 t1 in_add, fun G0 H0 Z Γ σ G H D r R hf k => ?_⟩⟩
  unfold sAugF at hf
  cases q : gP i rp Γ with
  | none => rw [q] at hf; cases hf
  | some par =>
    rw [q] at hf
    cases par with
    | ob c' fls =>
      replace hf : (if c' = c then (match fls[j]? with
        | some (.sh (.int a)) => (f Γ).bind fun d => match d with
          | .int b => upP i rp (.ob c (fls.set j (.sh (.int (a + b))))) Γ
          | _ => none
        | _ => none) else none) = some r := hf
      split at hf
      · rename_i hc
        subst hc
        split at hf
        · rename_i a0 hfa
          obtain ⟨d, e1, hf⟩ := obind hf
          cases d with
          | int b0 =>
            replace hf : upP i rp (.ob c' (fls.set j (.sh (.int (a0 + b0))))) Γ = some r := hf
            obtain ⟨s, s2, a1, a2, rfl⟩ := upP_some hf
            obtain ⟨s', b1, b2, b3⟩ := gP_some q (by simp [SlP])
            rw [a1] at b1
            cases b1
            refine u2 G0 H0 Z Γ σ G H G H _ s _ R (Ext.refl R.gh) a1 b2 b3 (by simp) fun v0 pk => ?_
            obtain ⟨F0, P0⟩ := pk G H (Ext.refl R.gh)
            obtain ⟨p, C1, dx, vs, v1, F2, rfl, hm, ho, e2, P1⟩ := P0.fld b2 hfa
            rw [ck.hm] at hm
            cases hm
            have hv1 := P1.hd
            cases hv1 with
            | sh rv =>
              rw [rv.intv] at e2
              refine ⟨p, _, dx, _, .int a0, rfl, ho, ck.cl, ck.na x (List.mem_of_getElem? hj), zip_lookup nd hj e2, ?_⟩
              refine t2 G0 H0 Z Γ σ G H _ _ R e1 fun G1 H1 w x1 r1 => ?_
              rw [r1.intv]
              refine ⟨a0, b0, rfl, rfl, ?_⟩
              obtain ⟨F3, P3⟩ := pk G1 H1 x1
              obtain ⟨p', C2, dx2, vs2, ep, hm2, ho2, RR⟩ := P3.setSh x1.gh hj nd (v := .int (a0 + b0)) (.int _) ((List.getElem?_eq_some_iff.mp hfa).1) a2
              cases ep
              rw [ck.hm] at hm2
              cases hm2
              exact ⟨dx2, _, ho2, zip_short, k σ G1 _ RR⟩
          | _ => cases hf
        · cases hf
      · cases hf
    | _ => cases hf

/-! del P[k] -/
def sDelI (i : Nat) (rp : Pth) (f : Ex) : Sm := fun Γ => match gP i rp Γ with
  | some (.ow xs) => (f Γ).bind fun d => match d with
    | .int k => if -(2 ^ 63) ≤ k ∧ k < 2 ^ 63 then (seqIndex? k xs.length).bind fun m => upP i rp (.ow (xs.eraseIdx m)) Γ else none
    | _ => none
  | _ => none
theorem RepL.eraseIdx {K : PySem.W.Frag} {mg : Str → Option Value} {G : Hp} : ∀ (i : Nat) {vs : List V} {ds : List D}, RepL K mg G vs ds → RepL K mg G (vs.eraseIdx i) (ds.eraseIdx i)
  | _, _, _, .nil => .nil
  | 0, _, _, .cons _ r => r
  | i + 1, _, _, .cons h r => .cons h (r.eraseIdx i)
theorem s_delI {tpos : Pos} (hp : PL X o i rp) (he : E X e f) : S X (.Delete [.Subscript o e tpos] pos) (sDelI i rp f) := by
  obtain ⟨t, t1, t2⟩ := he.ex
  obtain ⟨u, u1, u2⟩ := hp.ex
  refine ⟨⟨_, ps_delL u1 t1, fun G0 H0 Z Γ σ G H D r R hf k => ?_⟩⟩
  unfold sDelI at hf
  cases q : gP i rp Γ with
  | none => rw [q] at hf; cases hf
  | some par =>
    rw [q] at hf
    cases par with
    | ow xs =>
      obtain ⟨d, e1, hf⟩ := obind hf
      cases d with
      | int j =>
        replace hf : (if -(2 ^ 63) ≤ j ∧ j < 2 ^ 63 then (seqIndex? j xs.length).bind fun m => upP i rp (.ow (xs.eraseIdx m)) Γ else none) = some r := hf
        split at hf
        · rename_i hj
          obtain ⟨m, e3, hf⟩ := obind hf
          obtain ⟨s, s2, a1, a2, rfl⟩ := upP_some hf
          obtain ⟨s', b1, b2, b3⟩ := gP_some q (by simp [SlP])
          rw [a1] at b1
          cases b1
          refine u2 G0 H0 Z Γ σ G H G H _ s _ R (Ext.refl R.gh) a1 b2 b3 (by simp) fun v pk => ?_
          refine t2 G0 H0 Z Γ σ G H _ _ R e1 fun G1 H1 w x1 r1 => ?_
          obtain ⟨F1, p1⟩ := pk G1 H1 x1
          obtain ⟨l, vs, rfl, d1, d2, d3⟩ := p1.list x1.gh
          rw [r1.intv]
          refine ⟨l, vs, j, m, rfl, rfl, d1, hj.1, hj.2, by rw [d2.length]; exact e3, ?_⟩
          exact k σ G1 _ (d3 _ _ _ (RepL.eraseIdx m d2) a2)
        · cases hf
      | _ => cases hf
    | _ => cases hf

/-! P.insert(k, e), P.extend(e) -/
def sIns (i : Nat) (rp : Pth) (k f : Ex) : Sm := fun Γ => (k Γ).bind fun j => (f Γ).bind fun d => match gP i rp Γ, j with
  | some (.ow xs), .int j => if xs.length < 1000000 ∧ 0 ≤ j ∧ j < 2 ^ 63 then upP i rp (.ow (xs.take j.toNat ++ [d] ++ xs.drop j.toNat)) Γ else none
  | _, _ => none
theorem s_ins {ap : Pos} (hp : PL X o i rp) (hk : E X a k) (he : E X e f) (hst : starEach [a, e] X.env = (false, eval a X.env) :: starEach [e] X.env := by rfl) (hst2 : starEach [e] X.env = (false, eval e X.env) :: starEach [] X.env := by rfl)
    (hpe : ∀ {r : V → List V → Hp → VK → Prop} {to : TE} {ta : TA}, MtR X "list.insert" r → PE X o to → PA X [a, e] ta → PE X (.Call (.Attribute o "insert" ap) [a, e] [] pos) (tBM X.K "list" r to ta) := by intro r to ta hm ho hp; exact pe_bm PySem.F.plainAttrs_list PySem.F.slot_list_insert PySem.F.type_list_insert hm ho hp)
    (hs : swapsWith (.Call (.Attribute o "insert" ap) [a, e] [] pos) none pos'.line X.env = pure false := by rfl) : S X (.Expr (.Call (.Attribute o "insert" ap) [a, e] [] pos) pos') (sIns i rp k f) := by
  obtain ⟨t, h1, h2⟩ := he.ex
  obtain ⟨w, w1, w2⟩ := hk.ex
  obtain ⟨u, u1, u2⟩ := hp.ex
  refine ⟨⟨_, ps_expr (hpe mt_insert u1 (pa_cons w1 (pa_cons h1 pa_nil hst2) hst)) hs, fun G0 H0 Z Γ σ G H D r R hf kk => ?_⟩⟩
  obtain ⟨j, e1, hf⟩ := obind hf
  obtain ⟨d, e2, hf⟩ := obind hf
  cases q : gP i rp Γ with
  | none => rw [q] at hf; cases hf
  | some s1 =>
    rw [q] at hf
    cases s1 with
    | ow xs =>
      cases j with
      | int j =>
        replace hf : (if xs.length < 1000000 ∧ 0 ≤ j ∧ j < 2 ^ 63 then upP i rp (.ow (xs.take j.toNat ++ [d] ++ xs.drop j.toNat)) Γ else none) = some r := hf
        split at hf
        · rename_i hl
          obtain ⟨s, s2, a1, a2, rfl⟩ := upP_some hf
          obtain ⟨s', b1, b2, b3⟩ := gP_some q (by simp [SlP])
          rw [a1] at b1
          cases b1
          refine u2 G0 H0 Z Γ σ G H G H _ s _ R (Ext.refl R.gh) a1 b2 b3 (by simp) fun v pk => ?_
          obtain ⟨F0, p0⟩ := pk G H (Ext.refl R.gh)
          obtain ⟨l0, vs0, rfl, c1, c2, _⟩ := p0.list R.gh
          refine ⟨.inl ⟨rfl, _, SqL.of c1⟩, ?_⟩
          refine w2 G0 H0 Z Γ σ G H _ _ R e1 fun G1 H1 z x1 r1 => ?_
          refine h2 G0 H0 Z Γ σ G1 H1 _ _ (R.ext x1) e2 fun G2 H2 y x2 r2 => ?_
          obtain ⟨F1, p1⟩ := pk G2 H2 (x1.trans x2)
          obtain ⟨l, vs, el, d1, d2, d3⟩ := p1.list x2.gh
          cases el
          rw [r1.intv]
          refine ⟨_, vs, j, y, rfl, rfl, d1, by rw [d2.length]; exact Nat.lt_of_lt_of_le hl.1 line_big, hl.2.1, hl.2.2, ?_⟩
          exact kk σ G2 _ (d3 _ _ _ (((d2.take _).append (.cons r2 .nil)).append (d2.drop _)) a2)
        · cases hf
      | _ => cases hf
    | _ => cases hf
def sExt (i : Nat) (rp : Pth) (f : Ag) : Sm := fun Γ => (f Γ).bind fun ds => match gP i rp Γ with
  | some (.ow xs) => if xs.length + ds.length < 1000000 then upP i rp (.ow (xs ++ ds)) Γ else none
  | _ => none
theorem s_ext {ap : Pos} (hp : PL X o i rp) (he : EL X e fs) (hst : starEach [e] X.env = (false, eval e X.env) :: starEach [] X.env := by rfl)
    (hpe : ∀ {r : V → List V → Hp → VK → Prop} {to te : TE}, MtR X "list.extend" r → PE X o to → PE X e te → PE X (.Call (.Attribute o "extend" ap) [e] [] pos) (tBM X.K "list" r to (tCons te tNil)) := by intro r to te hm ho hp; exact pe_bm PySem.F.plainAttrs_list PySem.F.slot_list_extend PySem.F.type_list_extend hm ho (pa_cons hp pa_nil))
    (hs : swapsWith (.Call (.Attribute o "extend" ap) [e] [] pos) none pos'.line X.env = pure false := by rfl) : S X (.Expr (.Call (.Attribute o "extend" ap) [e] [] pos) pos') (sExt i rp fs) := by
  obtain ⟨t, h1, h2⟩ := he.ex
  obtain ⟨u, u1, u2⟩ := hp.ex
  refine ⟨⟨_, ps_expr (hpe mt_extend u1 h1) hs, fun G0 H0 Z Γ σ G H D r R hf k => ?_⟩⟩
  obtain ⟨ds, e1, hf⟩ := obind hf
  cases q : gP i rp Γ with
  | none => rw [q] at hf; cases hf
  | some s1 =>
    rw [q] at hf
    cases s1 with
    | ow xs =>
      replace hf : (if xs.length + ds.length < 1000000 then upP i rp (.ow (xs ++ ds)) Γ else none) = some r := hf
      split at hf
      · rename_i hl
        obtain ⟨s, s2, a1, a2, rfl⟩ := upP_some hf
        obtain ⟨s', b1, b2, b3⟩ := gP_some q (by simp [SlP])
        rw [a1] at b1
        cases b1
        refine u2 G0 H0 Z Γ σ G H G H _ s _ R (Ext.refl R.gh) a1 b2 b3 (by simp) fun v pk => ?_
        obtain ⟨F0, p0⟩ := pk G H (Ext.refl R.gh)
        obtain ⟨l0, vs0, rfl, c1, c2, _⟩ := p0.list R.gh
        refine ⟨.inl ⟨rfl, _, SqL.of c1⟩, ?_⟩
        refine h2 G0 H0 Z Γ σ G H _ _ R e1 fun G1 H1 q vs x1 hq gq hv rv => ?_
        obtain ⟨F1, p1⟩ := pk G1 H1 x1
        obtain ⟨l, ws, el, d1, d2, d3⟩ := p1.list x1.gh
        cases el
        refine ⟨_, q, ws, vs, rfl, rfl, d1, hv, by rw [d2.length, rv.length]; exact Nat.le_trans (Nat.le_of_lt hl) line_big, ?_⟩
        exact k σ G1 _ (d3 _ _ _ (d2.append rv) a2)
      · cases hf
    | _ => cases hf
end
end DL

namespace DL
open PySem L2
variable [TC : TabCtx]
/-- isinstance(x, C), C a class of the program -/
structure CI (K : PySem.W.Frag) (mg : Str → Option Value) (c : Nat) (C : Addr) : Prop where
  hm : mg (cN c) = some (.ref C)
  cl : Cls K C
  ha : PySem.W.findIn K (.ref C) "__class__" = some (some (.builtin "object.__class__"))
  hn : PySem.W.specialIn K (.builtin "object.__class__") "__get__" = some (some (.builtin "getset_descriptor.__get__"))
  ht : PySem.W.takesIn K (.builtin "object.__class__") = some true
  hr : PySem.W.mroIn K C (.type "object") = some true
def dIsiC (c : Nat) : D → Option D
  | .obj c' _ => if c' = c then some (.bl true) else none
  | _ => none
section
variable {X : Cx} {a : Expr} {f : Ex} {pos : Pos}
theorem e_isiC {c : Nat} {C : Addr} {x : Str} {p p2 : Pos} (ci : CI X.K X.mg c C) (hg : Gl X x) (hm : X.mg x = none) (hv : bootBuiltins x = some (.builtin "isinstance")) (ha : B X a f)
    (hgy : Gl X (cN c) := by rfl) (hn : x ≠ "__name__" := by decide) (hdb : (x == ("__debug__" : Str)) = false := by decide) (hdby : (cN c == ("__debug__" : Str)) = false := by decide)
    (he : starEach [a, .Name (cN c) p2] X.env = (false, eval a X.env) :: starEach [.Name (cN c) p2] X.env := by rfl) (hpl : (backTo pos (starEach [.Name (cN c) p2] X.env)).any (·.1) = false := by rfl) (he2 : starEach [.Name (cN c) p2] X.env = (false, eval (.Name (cN c) p2) X.env) :: starEach [] X.env := by rfl) :
    E X (.Call (.Name x p) [a, .Name (cN c) p2] [] pos) (gU (dIsiC c) f) := by
  obtain ⟨t, h1, h2⟩ := ha.ex
  refine ⟨⟨_, pe_callB call_isi hg hm hv (pa_cons h1 (pa_cons (pe_glob (v := .ref C) hgy ci.hm rfl hdby) pa_nil he2) he) hn hdb he hpl, fun G0 H0 Z Γ σ G H Q d R hf k => ?_⟩⟩
  obtain ⟨y, e1, hv'⟩ := obind hf
  clear hf
  refine h2 G0 H0 Z Γ σ G H _ y R e1 fun G1 H1 v x1 r1 => ?_
  cases y with
  | obj c' ds =>
    replace hv' : (if c' = c then some (D.bl true) else none) = some d := hv'
    split at hv'
    · rename_i cz
      subst cz
      cases hv'
      obtain ⟨q, C', dx, vs, rfl, hm', hp, _⟩ := r1.objAt x1.gh
      rw [ci.hm] at hm'
      cases hm'
      refine ⟨_, _, .ref C, .ref C, true, rfl, .own C, .base (.ins hp ci.cl ci.ha ci.hn ci.ht ci.hr), ?_, k G1 H1 _ x1 (.bl true)⟩
      unfold PySem.W.kitOne
      rw [if_pos (beq_self_eq_true _)]
    · cases hv'
  | _ => cases hv'
end
end DL

namespace DL
open PySem L2
variable [TC : TabCtx]

/-! ### objects that are made of things that are only looked at -/
open Classical in
noncomputable abbrev maskH (Fp : Addr → Prop) (H : Hp) : Hp := fun a => if Fp a then none else H a
def spMK (K : PySem.W.Frag) (mg : Str → Option Value) (ms : List Bool) (F : Sl → List D → Option (D × Sl)) : Sp := fun vs H Q _ =>
  ∃ v0 args G s ds d s' Fp, vs = v0 :: args ∧ Same G H ∧ TC.ti.t G H ∧ Hd K mg G H v0 Fp s ∧ (∀ a, Fp a → G a = none ∧ H a ≠ none ∧ ¬ TC.ti.tz a) ∧ RepM K mg G (maskH Fp H) ms args ds ∧ F s ds = some (d, s') ∧
    ∀ G' H' v Fp', Same G G' → Same G' H' → TC.ti.t G' H' → (∀ a, ¬ Fp a → H a ≠ none → H' a ≠ none) → (∀ a, G' a ≠ none → G a ≠ none ∨ H a = none ∨ Fp a) → (∀ a o, ¬ Fp a → H a = some o → NT o → H' a = some o) → Rep K mg G' v d → Hd K mg G' H' v0 Fp' s' → (∀ a, Fp' a → G' a = none ∧ H' a ≠ none ∧ (Fp a ∨ H a = none)) → Q v H'
def runMK (ms : List Bool) (n : Nat) (B : Sm) : Sl → List D → Option (D × Sl) := fun s ds => (B (s :: slM ms ds ++ List.replicate (n - (ms.length + 1)) .no)).bind fun r => match r with
  | .rm d s' => if isOwn s' then some (d, s') else none
  | .nx Γ => (Γ[0]?).bind fun s' => if isOwn s' then some (.non, s') else none
  | _ => none
section
variable {P : Program} {w : World} {K : PySem.W.Frag} {mg : Str → Option Value} {base : Heap}
theorem startMK_rel {G H : Hp} {N : List Str} {v0 : V} {vs : List V} {s : Sl} {ds : List D} {ms : List Bool} {Fp : Addr → Prop} (gh : Same G H) (tb : TC.ti.t G H) (hd : Hd K mg G H v0 Fp s) (fr : ∀ a, Fp a → G a = none ∧ H a ≠ none ∧ ¬ TC.ti.tz a) (r : RepM K mg G (maskH Fp H) ms vs ds) :
    Rel K mg G (maskH Fp H) ⟨TC.ti.tz, some v0, TC.ti⟩ (s :: slM ms ds ++ List.replicate (N.length - (ms.length + 1)) .no) (L2.start N (v0 :: vs)) G H := by
  obtain ⟨hv, hdl⟩ := r.len
  have hl := slM_len hdl
  unfold L2.start
  refine ⟨by simp [hl, hv], gh, fun a o q _ => ?_, Same.refl _, fun a h => .inl h, fun a z => (TC.ti.live tb a z).1, fun v s' e1 _ _ => by cases e1; simp, tb, fun _ h => h, rfl, fun a h => by
    by_cases x : Fp a
    · simp [maskH, x] at h
    · simpa [maskH, x] using h, fun i a => i = 0 ∧ Fp a, fun i a z => ⟨(fr a z.2).1, by simp [maskH, z.2], (fr a z.2).2.1, (fr a z.2).2.2⟩, fun i j a z1 z2 => z1.1.trans z2.1.symm, fun i s' h => ?_⟩
  · unfold maskH at q
    split at q
    · cases q
    · exact q
  · cases i with
    | zero =>
      simp at h
      subst h
      exact .inr (.inl ⟨v0, by simp, hd.wide fun a x => ⟨rfl, x⟩⟩)
    | succ i =>
      have e : N.length - (ms.length + 1) = (N.length - 1) - ms.length := by omega
      rw [List.cons_append, List.getElem?_cons_succ, e] at h
      by_cases hi : i < ms.length
      · rw [List.getElem?_append_left (by omega)] at h
        obtain ⟨v, d, e1, e2⟩ := r.get i h
        have st : ((v0 :: vs).map some ++ List.replicate (N.length - (v0 :: vs).length) none)[i + 1]? = some (some v) := by
          rw [List.map_cons, List.cons_append, List.getElem?_cons_succ, List.getElem?_append_left (by simp; omega), List.getElem?_map, e1]
          rfl
        rcases e2 with ⟨rfl, e2⟩ | ⟨rfl, e2⟩
        · exact .inr (.inl ⟨v, st, .sh e2⟩)
        · exact .inr (.inr ⟨v, d, rfl, st, e2⟩)
      · rw [List.getElem?_append_right (by omega), List.getElem?_replicate] at h
        split at h
        · cases h; exact .inl rfl
        · cases h
open Classical in
theorem def_okMK {x qual : Str} {st : Stmt} {f : Addr} {fd : FuncData} {N ps : List Str} {k : Nat} {B : Sm} {ms : List Bool} (F : Fun K x qual st f fd) (S : FnScope N ps (defScope st)) (hps : ps.length = ms.length + 1)
    (hbody : ∀ (cdv : Value) (A : Around) (outer : List PySem.Env) (s : Shared) (H : Hp) (E : XK), Room k (A.deeper (PyProof.Rows.envOfC qual (defScope st) s.heap.objs.size f cdv)) →
      Ss (cxOf CX0 P w K mg base N qual (defScope st) f cdv A outer s H E).nox (defBody st) B) : FnOk P w K mg base CX0 (k + 1) f fd ps (spMK K mg ms (runMK ms N.length B)) := by
  refine F.ok S (fun vs H Q E h => ?_) (fun cdv A outer s H vs Q E hr h => ?_)
  · obtain ⟨v0, args, G, s, ds, d, s', Fp, rfl, _, _, _, _, r, _⟩ := h
    simp [r.len.1, hps]
  · obtain ⟨v0, args, G, sl, ds, d, s', Fp, rfl, gh, tb, hd, fr, r, hf, kk⟩ := h
    obtain ⟨t, h1, h2⟩ := (hbody cdv A outer s H E hr).ex
    refine ⟨t, h1, ?_⟩
    obtain ⟨r1, e1, hf⟩ := obind hf
    have R := startMK_rel (N := N) gh tb hd fr r
    have fin : ∀ (Γ : DEnv) (σ : L2.St) (G' H' : Hp) (v : V), Rel K mg G (maskH Fp H) ⟨TC.ti.tz, some v0, TC.ti⟩ Γ σ G' H' → Γ[0]? = some s' → isOwn s' = true → Rep K mg G' v d → Q v H' := fun Γ σ G' H' v R' e0 ns rv => by
      have es := R'.an v0 s' rfl e0 ns
      obtain ⟨own, o1, o2, o3⟩ := R'.own
      rcases o3 0 s' e0 with z | ⟨v', z1, z2⟩ | ⟨_, _, z, _⟩
      · rw [z] at ns; cases ns
      rotate_left
      · rw [z] at ns; cases ns
      · rw [es] at z1
        cases z1
        refine kk G' H' v (own 0) R'.gg R'.gh R'.tbc (fun a nf h => R'.hn a (by simpa [nf] using h)) (fun a q => ?_) (fun a o nf q n => R'.hh a o (by simp [nf, q]) n) rv z2 fun a y => ?_
        · rcases R'.new a q with z | z
          · exact .inl z
          · by_cases fa : Fp a
            · exact .inr (.inr fa)
            · simp [fa] at z
              exact .inr (.inl z)
        · obtain ⟨w1, w2, w3, w4⟩ := o1 0 a y
          refine ⟨w1, w3, ?_⟩
          by_cases fa : Fp a
          · exact .inl fa
          · simp [fa] at w2
            exact .inr w2
    refine h2 G _ _ _ _ G H _ r1 R e1 ?_
    cases r1 with
    | rm d' s2 =>
      replace hf : (if isOwn s2 then some (d', s2) else none) = some (d, s') := hf
      split at hf
      · rename_i ns
        cases hf
        exact fun Γ σ G' H' v R' e0 rv => fin Γ σ G' H' v R' e0 ns rv
      · cases hf
    | nx Γ =>
      obtain ⟨s2, e2, hf⟩ := obind hf
      split at hf
      · rename_i ns
        cases hf
        exact fun σ' G' H' R' => fin Γ σ' G' H' _ R' e2 ns .non
      · cases hf
    | rt d => cases hf
    | ro s => cases hf
    | bk Γ => cases hf
    | ct Γ => cases hf
end
structure MakK (P : Program) (w : World) (K : PySem.W.Frag) (mg : Str → Option Value) (base : Heap) (c L : Nat) (ps : List Str) (ms : List Bool) (S : Sl → List D → Option (D × Sl)) : Prop where
  ex : ∃ C f fd p0 ps', ps = p0 :: ps' ∧ mg (cN c) = some (.ref C) ∧ Mk K C f ∧ FnOk P w K mg base CX0 L f fd ps (spMK K mg ms S) ∧ Binds K fd ps []
section
variable {X : Cx} {a : Expr} {es : List Expr} {fs : Ag} {pos p : Pos}
theorem make_okK {c : Nat} {C : Addr} {ms : List Bool} {S : Sl → List D → Option (D × Sl)} {t : TA} (hm : X.mg (cN c) = some (.ref C))
    (h2 : ∀ (G0 H0 : Hp) (Z : Zs) (Γ : DEnv) (σ : L2.St) (G H : Hp) (Q : List V → Hp → Prop) (ds : List D), Rel X.K X.mg G0 H0 Z Γ σ G H → fs Γ = some ds → (∀ G' H' vs, Ext G H G' H' → RepM X.K X.mg G' H' ms vs ds → Q vs H') → t σ H Q) :
    ∀ (G0 H0 : Hp) (Z : Zs) (Γ : DEnv) (σ : L2.St) (G H : Hp) (Q : VK) (s : Sl), Rel X.K X.mg G0 H0 Z Γ σ G H → gMk c S fs Γ = some s → (∀ G' H' v F, Ext G H G' H' → Hd X.K X.mg G' H' v F s → (∀ a, F a → G' a = none ∧ H a = none ∧ H' a ≠ none) → Q v H') → tMake C (spMK X.K X.mg ms S) [] E0 t σ H Q := by
  intro G0 H0 Z Γ σ G H Q s R hf k
  obtain ⟨ds, e1, hf⟩ := obind hf
  obtain ⟨⟨d, s'⟩, e2, hf⟩ := obind hf
  have hd : d = .non ∧ s' = s := by
    cases d with
    | non => cases hf; exact ⟨rfl, rfl⟩
    | _ => cases hf
  obtain ⟨rfl, rfl⟩ := hd
  refine h2 G0 H0 Z Γ σ G H _ ds R e1 fun G1 H1 vs x1 r1 => ?_
  intro x dx nx ndx ne
  have gx : G1 x = none := x1.gh.free nx
  have Hx : H x = none := x1.hf nx
  have T1 := (R.ext x1).tbc
  have keep : ∀ b o, H1 b = some o → upd (upd H1 dx (.own x)) x (.ins C dx []) b = some o := fun b o q => by
    rw [upd_ne (ne_of_none q nx), upd_ne (ne_of_none q ndx)]; exact q
  refine ⟨.ref x, vs, G1, .ob c [], ds, .non, s', fun b => b = x, by rw [List.append_nil], fun b o q => keep b o (x1.gh _ _ q), TC.ti.keep T1 (Same.refl _) (fun a h => same_at (fun b o q => keep b o q) (TC.ti.live T1 a h).1) (fun _ _ g => g), ?_, fun b e => by subst e; exact ⟨gx, by rw [upd_same]; simp, fun z => (TC.ti.live T1 _ z).1 nx⟩, r1.ext (Ext.same (Same.refl _) (fun b o q => ?_) (fun b o q => ?_) fun b q => .inl q), e2, ?_⟩
  · exact .ob (F' := fun _ => False) (dx := dx) (vs := []) rfl hm (by rw [upd_same, List.zip_nil_right]) (fun z => z) (fun _ z => z.elim) .nil
  · unfold maskH
    rw [if_neg (fun e => by subst e; rw [nx] at q; cases q)]
    exact keep b o q
  · unfold maskH
    rw [if_neg (fun e => by subst e; rw [gx] at q; cases q)]
    exact keep b o (x1.gh _ _ q)
  · intro G' H' v Fp' gg gh tb' hn' nw kp rv hv fr
    cases rv
    have keep' : ∀ b o, H b = some o → NT o → upd (upd H1 dx (.own x)) x (.ins C dx []) b = some o := fun b o q n => keep b o (x1.hh b o q n)
    have kn : ∀ b, H1 b ≠ none → upd (upd H1 dx (.own x)) x (.ins C dx []) b ≠ none := fun b h => nn (fun b o q => keep b o q) h
    refine ⟨rfl, k G' H' (.ref x) Fp' ⟨x1.gg.trans gg, fun b o q n => ?_, gh, fun b q => ?_, fun b h => hn' b (fun e => by subst e; exact h Hx) (kn b (x1.hn b h)), fun _ => tb'⟩ hv fun b y => ?_⟩
    · exact kp b o (fun e => by subst e; rw [Hx] at q; cases q) (keep' b o q n) n
    · rcases nw b q with z | z | z
      · exact x1.new b z
      · refine .inr ?_
        cases e : H b with
        | none => rfl
        | some o => exact absurd z (kn b (x1.hn b (by rw [e]; simp)))
      · subst z; exact .inr Hx
    · obtain ⟨w1, w2, w3⟩ := fr b y
      refine ⟨w1, ?_, w2⟩
      rcases w3 with z | z
      · subst z; exact Hx
      · cases e : H b with
        | none => rfl
        | some o => exact absurd z (kn b (x1.hn b (by rw [e]; simp)))
theorem e_mkCK {c k L : Nat} {ps : List Str} {ms : List Bool} {S : Sl → List D → Option (D × Sl)} (m : MakK X.prog X.w X.K X.mg X.base c L ps ms S) (hr : Room k X.A) (hk : L + 1 ≤ k)
    (ha : AM X (a :: es) ms fs) (hg : Gl X (cN c) := by rfl) (hdb : (cN c == ("__debug__" : Str)) = false := by decide) (he : starEach (a :: es) X.env = (false, eval a X.env) :: starEach es X.env := by rfl) (hpl : (backTo pos (starEach es X.env)).any (·.1) = false := by rfl) :
    EN X (.Call (.Name (cN c) p) (a :: es) [] pos) (gMk c S fs) := by
  obtain ⟨C, f, fd, q0, ps', rfl, h1, h2, h3, h4⟩ := m.ex
  obtain ⟨t, t1, t2⟩ := ha.ex
  exact ⟨⟨_, pe_make h2 h3 (hr.mono hk) hg h1 h4 .nil pass0 t1 hdb he hpl, make_okK h1 t2⟩⟩
end
end DL

namespace DL
open PySem PySem.Spec PyProof.Rows L2
variable [TC : TabCtx]

/-! ### list(enumerate(xs)) -/
def EnumAt (h : Heap) (e it : Addr) (i : Nat) : Prop := (∃ old, IsEnum h e it ((i : Nat) : Int) old) ∨ ∃ old T f oT, IsEnumHeld h e it ((i : Nat) : Int) old T f ∧ h.get? T = some oT ∧ T ≠ e ∧ T ≠ it
/-- the pairs that are made so far, in the list at q -/
structure Built (K : PySem.W.Frag) (H0 : Hp) (a q : Addr) (xs : List V) (i : Nat) (Ts : List Addr) (H : Hp) : Prop where
  len : Ts.length = i
  lst : H q = some (.lst (Ts.map V.ref))
  keep : ∀ b o, H0 b = some o → H b = some o
  new : ∀ b, H b ≠ none → H0 b ≠ none ∨ b = q ∨ b ∈ Ts
  tup : ∀ j T, Ts[j]? = some T → H0 T = none ∧ T ≠ q ∧ ∃ x, xs[j]? = some x ∧ H T = some (.tup [.int (j : Nat), x])
  q0 : H0 q = none
  src : SqL K H0 a xs
section
variable {X : Cx} {pins : List (Addr × Obj)} {σ : L2.St} {A1 : Around} {H0 : Hp} {a q e it : Addr} {xs : List V} {Rs : Result → Shared → Prop}
theorem enum_loop (hh : A1.in1.handled = none) (hne : e ≠ it) (hdone : ∀ Ts H s, Inv X pins σ H s → Built X.K H0 a q xs xs.length Ts H → Rs (.ok (.ret .none)) s) :
    ∀ (m i : Nat) (Ts : List Addr) (H : Hp) (s : Shared), i + m = xs.length → Inv X pins σ H s → Built X.K H0 a q xs i Ts H → EnumAt s.heap e it i → s.heap.IsListIter it a i → (∀ b ∈ [e, it], FpOk X pins H b) →
      codeAny (model X.prog X.w) A1 (.builtin "list.extend.loop" ⟨[.ref q, .ref e, .none], []⟩) Rs s := by
  intro m
  induction m with
  | zero =>
    intro i Ts H s hi I B st hit hf
    obtain ⟨its, rv, pl, hz⟩ := I.list ((show Same H0 H from B.keep).seq B.src)
    have hl := rv.length
    have hx : its.toArray[i]? = none := by rw [Array.getElem?_eq_none (by simp; omega)]
    obtain ⟨f0, f1, f2, f3, f4, f5⟩ := hf it (by simp)
    refine codeAny_builtin PySem.F.entry_extend_loop ?_
    rw [Around.under_plainId PySem.F.plain_extend_loop _]
    show wpAny _ A1.in1 (pyNext (.ref e) >>= _) _ _ s
    have fin : ∀ h' : Heap, Heap.ExtBut it s.heap h' → Rs (.ok (.ret .none)) { s with heap := h' } := fun h' eb => by
      have I1 := I.turned (t' := s.toks) (fun b o hb k => eb b o hb k) f0 f1 f3 f4 f5
      have e2 : i = xs.length := by omega
      rw [e2] at B
      exact hdone Ts H _ I1 B
    rcases st with ⟨old, he⟩ | ⟨old, T, f, oT, he, hT, r1, r2⟩
    · exact wpAny_bind (wpAny_pyNext_enum_end hh he hit pl.isList hx fun h' eb => wpAny_pure (fin h' eb))
    · exact wpAny_bind (wpAny_pyNext_enum_end_held hh he hit pl.isList hx fun h' eb => wpAny_pure (fin h' eb))
  | succ m ih =>
    intro i Ts H s hi I B st hit hf
    obtain ⟨its, rv, pl, hz⟩ := I.list ((show Same H0 H from B.keep).seq B.src)
    have hl := rv.length
    obtain ⟨x, hx⟩ : ∃ x, xs[i]? = some x := ⟨_, List.getElem?_eq_getElem (by omega)⟩
    obtain ⟨u, hu, ru⟩ := rv.get hx
    have hil : it < s.heap.objs.size := by obtain ⟨_, k, _⟩ := hit; exact Heap.lt_size k
    refine codeAny_builtin PySem.F.entry_extend_loop ?_
    rw [Around.under_plainId PySem.F.plain_extend_loop _]
    show wpAny _ A1.in1 (pyNext (.ref e) >>= _) _ _ s
    have go : ∀ h' : Heap, EnumAt h' e it (i + 1) → h'.IsListIter it a (i + 1) → h'.get? s.heap.objs.size = some { cls := .type "tuple", data := .seq #[.int i s.toks, u] } → e < s.heap.objs.size →
        (∀ b o, b ≠ e → b ≠ it → s.heap.get? b = some o → h'.get? b = some o) →
        wpAny (model X.prog X.w) A1.in1 (updateSeq q (·.push (.ref s.heap.objs.size)) >>= fun _ => again (.builtin "list.extend.loop" ⟨[.ref q, .ref e, .none], []⟩)) (fun fin s' => match fin with | .done f => Rs (.ok f) s' | .again c' => c'.quiet = true ∧ codeAny (model X.prog X.w) A1 c' Rs s') (fun e s' => Rs (.error e) s') { s with heap := h', toks := s.toks + 1 } := fun h' st' hit' hT hel hk => by
      have fr : H s.heap.objs.size = none := I.hok.fresh (Nat.le_refl _)
      have new : ObjOk X.prog X.w (upd H s.heap.objs.size (.tup [.int (i : Nat), x])) h' s.heap.objs.size (.tup [.int (i : Nat), x]) :=
        ⟨by show 2 ≤ sizeLine; decide, [.int i s.toks, u], .cons ⟨_, rfl⟩ (.cons ru .nil), ⟨_, hT, rfl, _, rfl⟩⟩
      have I1 : Inv X pins σ (upd H s.heap.objs.size (.tup [.int (i : Nat), x])) { s with heap := h', toks := s.toks + 1 } :=
        I.turnedNew (ch := [e, it]) (fun b ob hb k => hk b ob (fun z => hb (by simp [z])) (fun z => hb (by simp [z])) k) hf (Nat.le_refl _) new
      have qne : q ≠ s.heap.objs.size := ne_of_none B.lst fr
      have hq1 : upd H s.heap.objs.size (.tup [.int (i : Nat), x]) q = some (.lst (Ts.map V.ref)) := by rw [upd_ne qne]; exact B.lst
      obtain ⟨z, its2, k2, r2, hl2, e2⟩ := I1.lstM hq1
      have l2 : its2.length = i := by rw [← hl2, List.length_map, B.len]
      refine wpAny_bind (wpAny_updateSeq e2 rfl (wpAny_pure ⟨plainId_quiet PySem.F.plain_extend_loop _, ?_⟩) (by show (its2.toArray).size ≤ sizeLine; rw [List.size_toArray]; omega) (by show (its2.toArray.push _).size ≤ sizeLine + 1; rw [Array.size_push, List.size_toArray]; omega))
      have I2 := I1.lset (f := (·.push (Value.ref s.heap.objs.size))) (its' := its2 ++ [.ref s.heap.objs.size]) (ys := Ts.map V.ref ++ [V.ref s.heap.objs.size]) (t' := s.toks + 1) hq1 e2 (by simp) (r2.append (.cons (show L2.RelV (V.ref s.heap.objs.size) (Value.ref s.heap.objs.size) from rfl) .nil)) (by rw [List.length_append, List.length_singleton, List.length_map, B.len]; omega)
      refine ih (i + 1) (Ts ++ [s.heap.objs.size]) _ _ (by omega) I2 ?_ ?_ ?_ ?_
      · refine ⟨by simp [B.len], by rw [upd_same, List.map_append]; rfl, fun b o k => ?_, fun b k => ?_, fun j T k => ?_, B.q0, B.src⟩
        · rw [upd_ne (ne_of_none k B.q0), upd_ne (ne_of_none (B.keep b o k) fr)]
          exact B.keep b o k
        · by_cases c1 : b = q
          · exact .inr (.inl c1)
          · rw [upd_ne c1] at k
            by_cases c2 : b = s.heap.objs.size
            · exact .inr (.inr (by simp [c2]))
            · rw [upd_ne c2] at k
              rcases B.new b k with z | z | z
              · exact .inl z
              · exact .inr (.inl z)
              · exact .inr (.inr (by simp [z]))
        · by_cases c : j < Ts.length
          · rw [List.getElem?_append_left c] at k
            obtain ⟨t1, t2, y, t3, t4⟩ := B.tup j T k
            refine ⟨t1, t2, y, t3, ?_⟩
            rw [upd_ne t2, upd_ne (ne_of_none t4 fr)]
            exact t4
          · rw [List.getElem?_append_right (by omega)] at k
            have e3 : j - Ts.length = 0 := by
              have := (List.getElem?_eq_some_iff.mp k).1
              simp at this
              omega
            rw [e3] at k
            have e4 : T = s.heap.objs.size := by simpa using k.symm
            have e5 : j = i := by rw [← B.len]; omega
            subst e4
            subst e5
            refine ⟨?_, Ne.symm qne, x, hx, by rw [upd_ne (Ne.symm qne), upd_same]⟩
            cases w : H0 s.heap.objs.size with
            | none => rfl
            | some o => rw [B.keep _ _ w] at fr; cases fr
      · have keepq : ∀ b o, b ≠ q → h'.get? b = some o → (h'.update q (Obj.mapSeq (·.push (Value.ref s.heap.objs.size)))).get? b = some o := fun b o hb k => (Heap.get?_update_other h' _ (Ne.symm hb)).trans k
        have eq : e ≠ q := fun z => by have := (hf e (by simp)).1; rw [z, B.lst] at this; cases this
        rcases st' with ⟨old, he⟩ | ⟨old, T, f, oT, he, hTT, r1, r2⟩
        · exact .inl ⟨old, keepq _ _ eq he⟩
        · by_cases c : T = q
          · exact .inr ⟨old, T, f, _, keepq _ _ eq he, by rw [c]; exact PySem.IsL.update e2 _, r1, r2⟩
          · exact .inr ⟨old, T, f, oT, keepq _ _ eq he, keepq _ _ c hTT, r1, r2⟩
      · have iq : it ≠ q := fun z => by have := (hf it (by simp)).1; rw [z, B.lst] at this; cases this
        exact hit'.at fun o k => (Heap.get?_update_other h' _ (Ne.symm iq)).trans k
      · intro b hb
        obtain ⟨f0, f1, f2, f3, f4, f5⟩ := hf b hb
        have hbl : b < s.heap.objs.size := by
          have e' : b = e ∨ b = it := by simpa using hb
          rcases e' with z | z
          · rw [z]; exact hel
          · rw [z]; exact hil
        refine ⟨?_, f1, f2, f3, f4, f5⟩
        rw [upd_ne (fun z => by rw [z, B.lst] at f0; cases f0), upd_ne (Nat.ne_of_lt hbl)]
        exact f0
    have nit : s.heap.objs.size ≠ it := Nat.ne_of_gt hil
    have ec : ((i + 1 : Nat) : Int) = (i : Int) + 1 := by omega
    have hu' : its.toArray[i]? = some u := by simpa using hu
    rcases st with ⟨old, he⟩ | ⟨old, T, f, oT, he, hT, r1, r2⟩
    · have hel := Heap.lt_size he
      exact wpAny_bind (wpAny_pyNext_enum_item he hit pl.isList hu' hne fun h' ho hit' hT hsz hk => go h' (.inr ⟨_, s.heap.objs.size, false, _, by rw [ec]; exact ho, hT, Nat.ne_of_gt hel, nit⟩) hit' hT hel hk)
    · have hel := Heap.lt_size he
      exact wpAny_bind (wpAny_pyNext_enum_item_held he hT r1 r2 hit pl.isList hu' hne fun h' ho hit' hT' hsz hk => go h' (.inr ⟨old, T, true, oT, by rw [ec]; exact ho, hk _ _ r1 r2 hT, r1, r2⟩) hit' hT' hel hk)
theorem hint_enum {prog : Program} {w : World} {A : Around} {E : Value → Shared → Prop} {s : Shared} {r : Addr} {Q : Bool → Shared → Prop} (hT : s.TypeIs (.ref r) "enumerate") (h : Q true s) :
    wpAny (model prog w) A (Builtin.List.listLengthHint (.ref r)) Q E s := by
  have hl : typeLookup (.type "enumerate") "__len__" = pure none := by rw [typeLookup_type, builtinLookup_eq_fast]; kernel_rfl
  have hn0 : typeLookup (.type "enumerate") "__length_hint__" = pure none := by rw [typeLookup_type, builtinLookup_eq_fast]; kernel_rfl
  unfold Builtin.List.listLengthHint
  refine wpAny_bind (wpAny_specialOf hT hl ?_)
  show wpAny _ A (specialOf (Value.ref r) (Str.ofString "__length_hint__") >>= _) _ _ _
  refine wpAny_bind (wpAny_specialOf hT hn0 ?_)
  exact wpAny_pure h
/-- what list(enumerate(xs)) gives -/
def tLE (ta : TA) (K : PySem.W.Frag) : TE := fun σ H Q => ta σ H fun vs H1 => ∃ a xs, vs = [.ref a] ∧ SqL K H1 a xs ∧ ∀ q Ts H', Built K H1 a q xs xs.length Ts H' → Q (.ref q) H'
theorem pe_listEnum {o : Expr} {ta : TA} {p p2 pos pos2 : Pos} (hcm : X.calm = true) (hg : Gl X "list") (hm : X.mg "list" = none) (hge : Gl X "enumerate") (hme : X.mg "enumerate" = none) (ha : PA X [o] ta)
    (hs : starEach [o] X.env = [(false, eval o X.env)] := by rfl) (na : starEach [.Call (.Name "enumerate" p2) [o] [] pos2] X.env = (false, eval (.Call (.Name "enumerate" p2) [o] [] pos2) X.env) :: starEach [] X.env := by rfl) :
    PE X (.Call (.Name "list" p) [.Call (.Name "enumerate" p2) [o] [] pos2] [] pos) (tLE ta X.K) := by
  refine ⟨fun pins s σ H Q I h => ?_⟩
  refine Call_ (ld_blt I hg hm boot_list (PyProof.Rows.callWith_type1 (args_cons (Call_ (ld_blt I hge hme boot_enumerate (PyProof.Rows.callWith_type1 (thn (ha.run pos2 pins s σ H _ I h) fun us s1 ⟨vs, H1, I1, r1, q1⟩ => ?_) hs rfl))) na) na))
  obtain ⟨a, xs, ex, hq, q⟩ := q1
  subst ex
  cases r1 with
  | cons r rr =>
    cases rr
    cases r
    obtain ⟨its, rv, p', hz⟩ := I1.list hq
    refine call_enumerate_list p'.isList fun h' he hit hsz hk => args_nil ?_
    have I2 : Inv X pins σ H1 { s1 with heap := h' } := I1.kept (t' := s1.toks) hk
    have hfp : ∀ b ∈ [s1.heap.objs.size + 1, s1.heap.objs.size], FpOk X pins H1 b := fun b hb => by
      have e' : b = s1.heap.objs.size + 1 ∨ b = s1.heap.objs.size := by simpa using hb
      have hle : s1.heap.objs.size ≤ b := by
        rcases e' with z | z
        · rw [z]; exact Nat.le_add_right _ _
        · rw [z]; exact Nat.le_refl _
      exact I1.fpOk hle (I1.hok.fresh hle)
    -- list(..)
    refine callType_codes (Q₁ := fun obj s₁ => obj = .ref h'.objs.size ∧ s₁ = { s1 with heap := h'.push { cls := .type "list", data := .seq #[] } }) PySem.F.called_list (PySem.F.typeCall_list_1 _) PySem.F.entry_list_init
      (code_list_new _ ⟨rfl, rfl⟩) fun obj s₁ h₁ => ?_
    obtain ⟨rfl, rfl⟩ := h₁
    have hS : (h'.push { cls := .type "list", data := .seq #[] }).get? h'.objs.size = some { cls := .type "list", data := .seq #[] } := Heap.get?_push_size _ rfl
    refine ⟨⟨_, hS, rfl⟩, PySem.F.args_list_init_2 _ _, ?_⟩
    have fr : H1 h'.objs.size = none := I2.hok.fresh (Nat.le_refl _)
    have J1 : Inv X pins σ (upd H1 h'.objs.size (.lst [])) { s1 with heap := h'.push { cls := .type "list", data := .seq #[] } } := I2.lnew (its := []) (t' := s1.toks) .nil (Nat.zero_le _)
    show wpAny _ _ (do let old ← Builtin.List.listItems (.ref h'.objs.size); Builtin.List.listUpdate (.ref h'.objs.size) (fun _ => #[]); letGo old.toList.reverse; Builtin.List.listExtendWith (.ref h'.objs.size) (.ref (s1.heap.objs.size + 1)) .none) _ _ _
    refine wpAny_bind ?_
    unfold Builtin.List.listItems
    refine wpAny_bind (wpAny_seqItems hS rfl (wpAny_pure ?_))
    show wpAny _ _ (updateSeq h'.objs.size (fun _ => #[]) >>= fun _ => letGo (#[] : Array Value).toList.reverse >>= fun _ => Builtin.List.listExtendWith (.ref h'.objs.size) (.ref (s1.heap.objs.size + 1)) .none) _ _ _
    refine wpAny_bind (wpAny_updateSeq hS rfl ?_)
    have J2 := J1.lset (f := fun _ => #[]) (its := []) (its' := []) (ys := []) (t' := s1.toks) upd_same hS rfl .nil (Nat.zero_le _)
    rw [upd_upd] at J2
    refine wpAny_bind (wpAny_letGo ?_)
    have qe : h'.objs.size ≠ s1.heap.objs.size + 1 := by rw [hsz]; omega
    have qi : h'.objs.size ≠ s1.heap.objs.size := by rw [hsz]; omega
    have stay : ∀ b o, h'.get? b = some o → ((h'.push { cls := .type "list", data := .seq #[] }).update h'.objs.size (Obj.mapSeq fun _ => #[])).get? b = some o := fun b o k =>
      (Heap.get?_update_other _ _ (Nat.ne_of_gt (Heap.lt_size k))).trans (Heap.get?_push_of_some _ k)
    have he2 := stay _ _ he
    unfold Builtin.List.listExtendWith
    refine wpAny_bind (wpAny_typeOf (T := "enumerate") ⟨_, he2, rfl⟩ ?_)
    have h1 : Builtin.List.listSameRef (.ref h'.objs.size) (.ref (s1.heap.objs.size + 1)) = false := by simp [Builtin.List.listSameRef, qe]
    have h2 : (Value.type "enumerate" == Value.type "list") = false := by decide
    have h3 : (Value.type "enumerate" == Value.type "tuple") = false := by decide
    simp only [h1, h2, h3, Bool.or_false, Bool.false_eq_true, if_false]
    refine wpAny_bind (wpAny_pyIter_enum he2 ?_)
    refine wpAny_bind (wpAny_holding (hint_enum ⟨_, he2, rfl⟩ ?_))
    have B0 : Built X.K H1 a h'.objs.size xs 0 [] (upd H1 h'.objs.size (.lst [])) := ⟨rfl, upd_same, fun b o k => by rw [upd_ne (ne_of_none k fr)]; exact k, fun b k => by
      by_cases c : b = h'.objs.size
      · exact .inr (.inl c)
      · rw [upd_ne c] at k; exact .inl k, fun j T k => by simp at k, fr, hq⟩
    have fin := fun (Rs : Result → Shared → Prop) (J : Inv X pins σ (upd H1 h'.objs.size (.lst [])) { s1 with heap := ((h'.push { cls := .type "list", data := .seq #[] }).update h'.objs.size (Obj.mapSeq fun _ => #[])) }) (hd : ∀ Ts H s, Inv X pins σ H s → Built X.K H1 a h'.objs.size xs xs.length Ts H → Rs (.ok (.ret .none)) s) =>
      enum_loop (A1 := X.A.in1) (Rs := Rs) (I1.ok.hd hcm) (show s1.heap.objs.size + 1 ≠ s1.heap.objs.size by omega) hd xs.length 0 [] _ _ (by omega) J B0 (.inl ⟨_, he2⟩) (hit.at fun o k => stay _ o k) (fun b hb => by
        obtain ⟨f0, f1, f2, f3, f4, f5⟩ := hfp b hb
        refine ⟨?_, f1, f2, f3, f4, f5⟩
        have e' : b = s1.heap.objs.size + 1 ∨ b = s1.heap.objs.size := by simpa using hb
        have hbn : b ≠ h'.objs.size := by
          rw [hsz]
          rcases e' with z | z
          · rw [z]; exact Nat.ne_of_lt (Nat.lt_succ_self _)
          · rw [z]; exact Nat.ne_of_lt (Nat.lt_succ_of_lt (Nat.lt_succ_self _))
        rw [upd_ne hbn]
        exact f0)
    refine wpAny_ite_split (fun _ => ?_) (fun _ => wpAny_pure ⟨plainId_quiet PySem.F.plain_extend_loop _, fin _ J2 fun Ts H' s' I' B' => ⟨rfl, .ref h'.objs.size, H', I', rfl, q _ Ts H' B'⟩⟩)
    refine wpAny_bind (wpAny_rule ?_)
    refine wpAny_bind ?_
    show wpAny _ _ (updateSeq h'.objs.size (·.push .none) >>= fun _ => updateSeq h'.objs.size (·.pop)) _ _ _
    obtain ⟨z, its3, k3, r3, hl3, e3⟩ := J2.lstM upd_same
    cases r3
    refine wpAny_bind (wpAny_updateSeq e3 rfl ?_)
    have J3 := J2.lset (f := (·.push Value.none)) (its' := [Value.none]) (ys := [.non]) (t' := s1.toks) upd_same e3 (by simp) (.cons rfl .nil) (by rw [List.length_singleton, sizeLine_eq]; decide)
    obtain ⟨z4, its4, k4, r4, hl4, e4⟩ := J3.lstM upd_same
    obtain ⟨u4, rfl, ru4⟩ := r4.one
    refine wpAny_updateSeq e4 rfl ?_ (by show 1 ≤ sizeLine; rw [sizeLine_eq]; decide) (by show 0 ≤ sizeLine + 1; exact Nat.zero_le _)
    have J4 := J3.lset (f := (·.pop)) (its := [u4]) (its' := []) (ys := []) (t' := s1.toks) upd_same e4 (by rfl) .nil (Nat.zero_le _)
    rw [upd_upd, upd_upd] at J4
    refine wpAny_pure ⟨plainId_quiet PySem.F.plain_extend_loop _, ?_⟩
    have stay2 : ∀ (h2 : Heap) (f : Array Value → Array Value) b o, b ≠ h'.objs.size → h2.get? b = some o → (h2.update h'.objs.size (Obj.mapSeq f)).get? b = some o := fun h2 f b o hb k => (Heap.get?_update_other _ _ (Ne.symm hb)).trans k
    exact enum_loop (A1 := X.A.in1) (I1.ok.hd hcm) (show s1.heap.objs.size + 1 ≠ s1.heap.objs.size by omega) (fun Ts H' s' I' B' => ⟨rfl, .ref h'.objs.size, H', I', rfl, q _ Ts H' B'⟩) xs.length 0 [] _ _ (by omega) J4 B0
      (.inl ⟨_, stay2 _ _ _ _ (Ne.symm qe) (stay2 _ _ _ _ (Ne.symm qe) he2)⟩) (hit.at fun o k => stay2 _ _ _ o (Ne.symm qi) (stay2 _ _ _ o (Ne.symm qi) (stay _ o k))) (fun b hb => by
        obtain ⟨f0, f1, f2, f3, f4, f5⟩ := hfp b hb
        refine ⟨?_, f1, f2, f3, f4, f5⟩
        have e' : b = s1.heap.objs.size + 1 ∨ b = s1.heap.objs.size := by simpa using hb
        have hbn : b ≠ h'.objs.size := by
          rw [hsz]
          rcases e' with z | z
          · rw [z]; exact Nat.ne_of_lt (Nat.lt_succ_self _)
          · rw [z]; exact Nat.ne_of_lt (Nat.lt_succ_of_lt (Nat.lt_succ_self _))
        rw [upd_ne hbn]
        exact f0)
/-- list(enumerate(xs)), a new list -/
theorem el_enum {o : Expr} {fs : Ag} {p p2 pos pos2 : Pos} (hcm : X.calm = true) (hg : Gl X "list") (hm : X.mg "list" = none) (hge : Gl X "enumerate") (hme : X.mg "enumerate" = none) (ha : AN X [o] 1 fs)
    (hs : starEach [o] X.env = [(false, eval o X.env)] := by rfl) (na : starEach [.Call (.Name "enumerate" p2) [o] [] pos2] X.env = (false, eval (.Call (.Name "enumerate" p2) [o] [] pos2) X.env) :: starEach [] X.env := by rfl) :
    EL X (.Call (.Name "list" p) [.Call (.Name "enumerate" p2) [o] [] pos2] [] pos) (gEnum fs) := by
  obtain ⟨t, h1, h2⟩ := ha.a.ex
  refine ⟨⟨_, pe_listEnum hcm hg hm hge hme h1 hs na, fun G0 H0 Z Γ σ G H Q ds R hf k => ?_⟩⟩
  obtain ⟨xs, e1, hf⟩ := obind hf
  have hl := ha.n Γ xs e1
  refine h2 G0 H0 Z Γ σ G H _ _ R e1 fun G1 H1 vs x1 r1 => ?_
  match xs, hl, hf, r1 with
  | [x], _, hf, .cons r .nil =>
    replace hf : ((dItems x).bind fun xs => some (enumD 0 xs)) = some ds := hf
    obtain ⟨as, a1, hf⟩ := obind hf
    cases hf
    obtain ⟨p1, vs1, rfl, s1, r1⟩ := r.items a1
    refine ⟨p1, vs1, rfl, x1.gh.seq s1, fun q Ts H' B => ?_⟩
    have lv := r1.length
    -- what is known now: the pairs too
    have hmem : ∀ T, T ∈ Ts → ∃ j, Ts[j]? = some T := fun T hT => List.mem_iff_getElem?.mp hT
    classical
    let G2 : Hp := fun b => if b ∈ Ts then H' b else G1 b
    have gT : ∀ T, T ∈ Ts → H1 T = none ∧ T ≠ q ∧ H' T ≠ none := fun T hT => by
      obtain ⟨j, hj⟩ := hmem T hT
      obtain ⟨t1, t2, y, t3, t4⟩ := B.tup j T hj
      exact ⟨t1, t2, by rw [t4]; simp⟩
    have qT : q ∉ Ts := fun z => (gT q z).2.1 rfl
    have sg : Same G1 G2 := fun b u z => by
      show (if b ∈ Ts then H' b else G1 b) = some u
      rw [if_neg (fun w => by have := (gT b w).1; rw [x1.gh b u z] at this; cases this)]
      exact z
    have e : Ext G1 H1 G2 H' := Ext.same sg B.keep (fun b u z => by
      have z : (if b ∈ Ts then H' b else G1 b) = some u := z
      split at z
      · exact z
      · exact B.keep _ _ (x1.gh b u z)) fun b z => by
      have z : (if b ∈ Ts then H' b else G1 b) ≠ none := z
      split at z
      · rename_i w; exact .inr (gT b w).1
      · exact .inl z
    have q2 : G2 q = none := by
      show (if q ∈ Ts then H' q else G1 q) = none
      rw [if_neg qT]
      exact x1.gh.free B.q0
    refine k G2 H' q _ (x1.trans e) (x1.hf B.q0) q2 B.lst ?_
    -- the items
    have items : ∀ (Us : List Addr) (vs2 : List V) (ds2 : List D) (j : Nat), Us.length = vs2.length → RepL X.K X.mg G1 vs2 ds2 → (∀ i T, Us[i]? = some T → ∃ x, vs2[i]? = some x ∧ G2 T = some (.tup [.int ((j + i : Nat) : Int), x])) → RepL X.K X.mg G2 (Us.map V.ref) (enumD j ds2) := by
      intro Us
      induction Us with
      | nil =>
        intro vs2 ds2 j hl hr _
        cases vs2 with
        | nil => cases hr; exact .nil
        | cons => simp at hl
      | cons U Us ih =>
        intro vs2 ds2 j hl hr hg
        cases hr with
        | nil => simp at hl
        | cons h r =>
          obtain ⟨y, y1, y2⟩ := hg 0 U rfl
          cases y1
          refine .cons (.tup y2 (.cons (.int _) (.cons (h.mono sg) .nil))) (ih _ _ (j + 1) (by simpa using hl) r fun i T hT => ?_)
          obtain ⟨w, w1, w2⟩ := hg (i + 1) T (by simpa using hT)
          refine ⟨w, by simpa using w1, ?_⟩
          have e5 : j + 1 + i = j + (i + 1) := by omega
          rw [e5]
          exact w2
    refine items Ts vs1 as 0 B.len r1 fun i T hT => ?_
    obtain ⟨t1, t2, y, t3, t4⟩ := B.tup i T hT
    refine ⟨y, t3, ?_⟩
    show (if T ∈ Ts then H' T else G1 T) = _
    rw [if_pos (List.mem_of_getElem? hT), t4]
    simp
end
end DL

namespace DL
open PySem L2
variable [TC : TabCtx]

def dShl : D → D → Option D
  | .int i, .int j => if 0 ≤ j ∧ j ≤ 1000000 ∧ i.natAbs < 2 ^ 64 then some (.int (i * 2 ^ j.toNat)) else none
  | _, _ => none
section
variable {X : Cx} {e a b o : Expr} {f g k : Ex} {fs : Ag} {pos pos' : Pos} {n i : Nat} {rp : Pth}
theorem od_shl : OpD X (binaryOp .LShift) dShl := opd_i op_shl fun x y d e => by
  unfold dShl at e
  split at e
  · split at e
    · cases e; rename_i z; exact ⟨_, _, rfl, rfl, z, fun _ _ _ => .int _⟩
    · cases e
  · cases e
/-- a global name that is an int -/
def GlI (mg : Str → Option Value) (x : Str) (n : Int) : Prop := ∃ t, mg x = some (.int n t)
theorem e_gint {x : Str} {n : Int} (hm : GlI X.mg x n) (hg : Gl X x := by rfl) (hd : (x == ("__debug__" : Str)) = false := by decide) : E X (.Name x pos) (gI n) := by
  obtain ⟨t, hm⟩ := hm
  exact ⟨⟨_, pe_glob hg hm (v := .int n) ⟨t, rfl⟩ hd, fun G0 H0 Z Γ σ G H Q d R hf k => by cases hf; exact k G H _ (Ext.refl R.gh) (.int n)⟩⟩
/-- xs[::-1] -/
def gRevL (f : Ex) : Ag := fun Γ => (f Γ).bind fun x => match x with
  | .lst xs => some xs.reverse
  | _ => none
theorem el_revL {kk : Nat} {p1 p2 p3 : Pos} (he : B X e f) : EL X (.Subscript e (.Slice none none (some (.UnaryOp .USub (.Constant (.int 1) kk p1) p2)) p3) pos) (gRevL f) := by
  obtain ⟨t, h1, h2⟩ := he.ex
  refine ⟨⟨_, pe_revL h1, fun G0 H0 Z Γ σ G H Q ds R hf k => ?_⟩⟩
  obtain ⟨x, e1, hf⟩ := obind hf
  cases x with
  | lst xs =>
    cases hf
    refine h2 G0 H0 Z Γ σ G H _ _ R e1 fun G1 H1 v x1 r1 => ?_
    obtain ⟨p, vs, rfl, hp, rp⟩ := r1.lst x1.gh
    refine ⟨p, vs, rfl, SqL.of hp, fun q hq => ?_⟩
    exact k G1 _ q _ (x1.trans (Ext.own1 x1.gh hq)) (x1.hf hq) (x1.gh.free hq) upd_same rp.reverse
  | _ => cases hf
/-- P.pop() -/
def sPop (i : Nat) (rp : Pth) : Sm := fun Γ => match gP i rp Γ with
  | some (.ow xs) => if xs = [] then none else upP i rp (.ow xs.dropLast) Γ
  | _ => none
theorem RepL.dropLast {K : PySem.W.Frag} {mg : Str → Option Value} {G : Hp} {vs : List V} {ds : List D} (r : RepL K mg G vs ds) : RepL K mg G vs.dropLast ds.dropLast := by
  rw [List.dropLast_eq_take, List.dropLast_eq_take, r.length]
  exact r.take _
theorem s_pop {ap : Pos} (hp : PL X o i rp)
    (hpe : ∀ {r : V → List V → Hp → VK → Prop} {to : TE}, MtR X "list.pop" r → PE X o to → PE X (.Call (.Attribute o "pop" ap) [] [] pos) (tBM0 X.K "list" r to) := by intro r to hm ho; exact pe_bm0 PySem.F.plainAttrs_list PySem.F.slot_list_pop PySem.F.type_list_pop hm ho)
    (hs : swapsWith (.Call (.Attribute o "pop" ap) [] [] pos) none pos'.line X.env = pure false := by rfl) : S X (.Expr (.Call (.Attribute o "pop" ap) [] [] pos) pos') (sPop i rp) := by
  obtain ⟨u, u1, u2⟩ := hp.ex
  refine ⟨⟨_, ps_expr (hpe mt_pop u1) hs, fun G0 H0 Z Γ σ G H D r R hf k => ?_⟩⟩
  unfold sPop at hf
  cases q : gP i rp Γ with
  | none => rw [q] at hf; cases hf
  | some s1 =>
    rw [q] at hf
    cases s1 with
    | ow xs =>
      replace hf : (if xs = [] then none else upP i rp (.ow xs.dropLast) Γ) = some r := hf
      split at hf
      · cases hf
      · rename_i hl
        obtain ⟨s, s2, a1, a2, rfl⟩ := upP_some hf
        obtain ⟨s', b1, b2, b3⟩ := gP_some q (by simp [SlP])
        rw [a1] at b1
        cases b1
        refine u2 G0 H0 Z Γ σ G H G H _ s _ R (Ext.refl R.gh) a1 b2 b3 (by simp) fun v pk => ?_
        obtain ⟨F0, p0⟩ := pk G H (Ext.refl R.gh)
        obtain ⟨l, ws, rfl, d1, d2, d3⟩ := p0.list R.gh
        refine ⟨.inl ⟨rfl, _, SqL.of d1⟩, ?_⟩
        have hlen := d2.length
        have hpos : 0 < xs.length := List.length_pos_iff.mpr hl
        refine ⟨_, ws, ws[ws.length - 1]'(by omega), rfl, rfl, d1, List.getElem?_eq_getElem _, ?_⟩
        exact k σ G _ (d3 _ _ _ d2.dropLast a2)
    | _ => cases hf
end
end DL

namespace DL
open PySem L2
variable [TC : TabCtx]
/-! ### P.f, a, b = e -/
/-- an attribute as a target -/
def gAttr (K : PySem.W.Frag) (ta : TE) (f : Str) : TG := fun v σ H Q => ta σ H fun x H1 => ∃ a C dx fs, x = .ref a ∧ H1 a = some (.ins C dx fs) ∧ Cls K C ∧ NoAttr K C f ∧ fs.length < 1000 ∧ Q σ (L2.upd H1 a (.ins C dx (putF f v fs)))
theorem pg_attr {X : Cx} {o : Expr} {ta : TE} {f : Str} {pos : Pos} (ha : PE X o ta) : PG X (.Attribute o f pos) (gAttr X.K ta f) := by
  refine ⟨fun pins s σ H v u Q I r h => ?_⟩
  rw [PySem.assign_Attribute]
  refine wpAny_bind (wpAny_holding (thn (ha.run pins s σ H _ I h) fun ov s1 ⟨x, H1, I1, rx, a, C, dx, fs, ex, ea, c, n, l, q⟩ => ?_))
  subst ex
  obtain rfl : ov = Value.ref a := rx
  refine wpAny_bind (wpAny_standAt (wpAny_bind (wpAny_holding (setattr_ok I1 ea c n l r fun s3 I3 => ?_))))
  exact wpAny_release ⟨σ, _, I3, q⟩
def sUnpF (i : Nat) (rp : Pth) (c j n : Nat) (gs : Gss) (f : Ex) : Sm := fun Γ => (f Γ).bind fun d => match d with
  | .tup (d0 :: ds) => if ds.length + 1 = n then (DL.sFld i rp c j (fun _ => some (.sh d0)) Γ).bind fun r => match r with
      | .nx Γ1 => (gs ds Γ1).bind fun Γ' => some (.nx Γ')
      | _ => none
    else none
  | _ => none
section
variable {X : Cx} {e o : Expr} {es : List Expr} {f : Ex} {pos pos' pt : Pos} {n k : Nat} {ix : List Nat} {gs : Gss}
theorem s_unpF {i : Nat} {rp : Pth} {c j : Nat} {C : Addr} {x : Str} (ck : CK X.K X.mg c C) (hp : PL X o i rp) (he : E X e f) (hl : GL X es ix gs) (hc : X.calm = true) (hj : (cF c)[j]? = some x := by rfl) (nd : (cF c).Nodup := by decide +kernel)
    (hn : (assignEach (.Attribute o x pos' :: es) X.env).length = n := by rfl) (hst : (assignEach (.Attribute o x pos' :: es) X.env).findIdx? (·.1) = none := by rfl)
    (hcs : (assignEach (.Attribute o x pos' :: es) X.env).map (·.2) = assign (.Attribute o x pos') X.env :: (assignEach es X.env).map (·.2) := by rfl)
    (hs : swapsWithSole [.Tuple (.Attribute o x pos' :: es) k pt] e pos.line X.env = pure false := by rfl) (hw : swappedStores [.Tuple (.Attribute o x pos' :: es) k pt] e X.env = pure none := by rfl)
    (h1 : (assignEach [.Tuple (.Attribute o x pos' :: es) k pt] X.env).map (·.2) = [assign (.Tuple (.Attribute o x pos' :: es) k pt) X.env] := by rfl) :
    S X (.Assign [.Tuple (.Attribute o x pos' :: es) k pt] e pos) (sUnpF i rp c j n gs f) := by
  obtain ⟨t, t1, t2⟩ := he.ex
  obtain ⟨u, u1, u2⟩ := hp.ex
  obtain ⟨w, w1, w2⟩ := hl.ex
  refine ⟨⟨_, ps_asg t1 (pg_tup hc (pgs_cons (pg_attr u1) w1 hcs) hn hst) hs hw h1, fun G0 H0 Z Γ σ G H D r R hf kk => ?_⟩⟩
  obtain ⟨d, e1, hf⟩ := obind hf
  refine t2 G0 H0 Z Γ σ G H _ d R e1 fun G1 H1 v x1 hd => ?_
  cases d with
  | tup dd =>
    cases dd with
    | nil => cases hf
    | cons d0 ds =>
      replace hf : (if ds.length + 1 = n then (DL.sFld i rp c j (fun _ => some (.sh d0)) Γ).bind fun r => match r with
        | .nx Γ1 => (gs ds Γ1).bind fun Γ' => some (.nx Γ')
        | _ => none else none) = some r := hf
      split at hf
      · rename_i hlen
        obtain ⟨r1, e2, hf⟩ := obind hf
        cases hd with
        | tup hT rr =>
          have hvl := rr.length
          cases rr with
          | cons r0 rr =>
            rename_i pa v0 vs
            refine ⟨_, _, rfl, SqT.of (x1.gh _ _ hT), by rw [hvl]; simpa using hlen, _, _, rfl, ?_⟩
            have go : ∀ Γ1 H', Rel X.K X.mg G0 H0 Z Γ1 σ G1 H' → r1 = .nx Γ1 → w vs σ H' D.nx := fun Γ1 H' R1 e3 => by
              subst e3
              obtain ⟨Γ', e4, hf⟩ := obind hf
              cases hf
              exact w2 G0 H0 Z Γ1 σ G1 H' _ ds vs Γ' R1 rr e4 fun σ' R' _ => kk σ' G1 H' R'
            clear hf
            replace e2 : (match gP i rp Γ with
              | some (.ob c' fs) => if c' = c then (if j < fs.length then upP i rp (.ob c (fs.set j (.sh d0))) Γ else if j = fs.length then upP i rp (.ob c (fs ++ [.sh d0])) Γ else none) else none
              | _ => none) = some r1 := e2
            cases q : gP i rp Γ with
            | none => rw [q] at e2; cases e2
            | some par =>
              rw [q] at e2
              cases par with
              | ob c' fs =>
                replace e2 : (if c' = c then (if j < fs.length then upP i rp (.ob c (fs.set j (.sh d0))) Γ else if j = fs.length then upP i rp (.ob c (fs ++ [.sh d0])) Γ else none) else none) = some r1 := e2
                split at e2
                · rename_i hcc
                  subst hcc
                  obtain ⟨s, b1, b2, b3⟩ := gP_some q (by simp [SlP])
                  refine u2 G0 H0 Z Γ σ G H G1 H1 _ s _ R x1 b1 b2 b3 (by simp) fun vq pk => ?_
                  obtain ⟨F1, P⟩ := pk G1 H1 x1
                  have hdP := P.hd
                  cases hdP with
                  | ob f hm ho nn sF rs =>
                    rename_i p C' dx vf F'
                    rw [ck.hm] at hm
                    cases hm
                    refine ⟨p, C, dx, _, rfl, ho, ck.cl, ck.na x (List.mem_of_getElem? hj), zip_short, ?_⟩
                    have gp := (P.fr p f).1
                    have hlen2 := rs.length
                    have fin : ∀ (vs' : List V) (fs' : List Sl) (s2 : Sl), putF x v0 ((cF c').zip vf) = (cF c').zip vs' → (∀ {Hx : Hp}, HdL X.K X.mg G1 Hx vf F' fs → Hd X.K X.mg G1 Hx v0 (fun _ => False) (.sh d0) → HdL X.K X.mg G1 Hx vs' (fun a => F' a ∨ False) fs') → setR rp (.ob c' fs') s = some s2 →
                        Rel X.K X.mg G0 H0 Z (Γ.set i s2) σ G1 (upd H1 p (.ins C dx (putF x v0 ((cF c').zip vf)))) := fun vs' fs' s2 ez mk es => by
                      rw [ez]
                      have keep : ∀ (Y : Addr → Prop), ¬ Y p → ∀ a o, Y a → H1 a = some o → upd H1 p (.ins C dx ((cF c').zip vs')) a = some o := fun Y hy a o ya q => by
                        rw [upd_ne]
                        · exact q
                        · intro e; subst e; exact hy ya
                      refine P.up G1 _ (fun a => F1 a ∨ False) (.ob c' fs') s2 (Same.refl _) (fun a o q => ?_) (fun a q => .inl q) (fun a o nf q => ?_) ?_ (fun a y => ?_) (fun _ => rfl) es
                      · rw [upd_ne (ne_of_none q gp)]; exact x1.gh _ _ q
                      · rw [upd_ne]
                        · exact q
                        · intro e; subst e; exact nf f
                      · refine .ob (.inl f) ck.hm upd_same (F' := fun a => F' a ∨ False) (fun y => y.elim nn (fun y => y.elim)) (fun a y => y.elim (fun y => .inl (sF a y)) .inr) ?_
                        exact mk (rs.mono (Same.refl _) (fun a o y q _ => keep F' nn a o y q)) (.sh r0)
                      · have up : H1 a ≠ none → upd H1 p (.ins C dx ((cF c').zip vs')) a ≠ none := fun q => by
                          by_cases e : a = p
                          · subst e; rw [upd_same]; simp
                          · rw [upd_ne e]; exact q
                        rcases y with y | y
                        · exact ⟨(P.fr a y).1, up (P.fr a y).2.2.1, .inl y⟩
                        · exact y.elim
                    have djL : ∀ a, (fun _ : Addr => False) a → ¬ F' a := fun a y _ => y.elim
                    split at e2
                    · rename_i hjl
                      obtain ⟨s', s2, a1, a2, rfl⟩ := upP_some e2
                      rw [b1] at a1
                      cases a1
                      exact go _ _ (fin (vf.set j v0) _ s2 (putF_set nd hj (by rw [hlen2]; exact hjl)) (fun r h => r.setv j h djL) a2) rfl
                    · split at e2
                      · rename_i hjl
                        obtain ⟨s', s2, a1, a2, rfl⟩ := upP_some e2
                        rw [b1] at a1
                        cases a1
                        exact go _ _ (fin (vf ++ [v0]) _ s2 (putF_snoc nd (by rw [hlen2, ← hjl]; exact hj)) (fun r h => r.snoc h djL) a2) rfl
                      · cases e2
                · cases e2
              | _ => cases e2
      · cases hf
  | _ => cases hf
end
end DL

namespace DL
open PySem L2 LamX PySem.Spec PyProof.Rows
/-! ### a lambda with parameters -/
/-- parameters, no other name of its own: captured ones and globals -/
structure LamS1 (sc scope : Scope) (prs : List Str) : Prop where
  kind : scope.kind = .function
  co : scope.isCoroutine = false
  gen : scope.isGenerator = false
  own : ∀ y ∈ scope.names, (y.2 = .local → y.1 ∈ prs) ∧ y.2 ≠ .cell
  par : ∀ p ∈ prs, scope.names.lookup p = some .local
  nd : prs.Nodup
  free : ∀ y ∈ scope.names, y.2 = .free → sc.names.lookup y.1 = some .cell ∨ sc.names.lookup y.1 = some .free
def lamS1B (sc scope : Scope) (prs : List Str) : Bool :=
  decide (scope.kind = .function) && !scope.isCoroutine && !scope.isGenerator && (prs.all fun p => decide (scope.names.lookup p = some .local)) && decide prs.Nodup && scope.names.all fun y => (!decide (y.2 = .local) || decide (y.1 ∈ prs)) && !decide (y.2 = .cell) && (!decide (y.2 = .free) || decide (sc.names.lookup y.1 = some .cell) || decide (sc.names.lookup y.1 = some .free))
theorem lamS1_by {sc scope : Scope} {prs : List Str} (h : lamS1B sc scope prs = true) : LamS1 sc scope prs := by
  unfold lamS1B at h
  simp only [Bool.and_eq_true, Bool.or_eq_true, Bool.not_eq_true', decide_eq_true_eq, decide_eq_false_iff_not, List.all_eq_true] at h
  obtain ⟨⟨⟨⟨⟨h1, h2⟩, h3⟩, h5⟩, h6⟩, h4⟩ := h
  refine ⟨h1, h2, h3, fun y hy => ⟨fun e => ?_, (h4 y hy).1.2⟩, h5, h6, fun y hy e => ?_⟩
  · rcases (h4 y hy).1.1 with z | z
    · exact absurd e z
    · exact z
  · rcases (h4 y hy).2 with (z | z) | z
    · exact absurd e z
    · exact .inl z
    · exact .inr z
theorem LamS1.has {X : Cx} {scope : Scope} {prs : List Str} (L : LamS1 X.env.scope scope prs) (ok : X.Ok) : ∀ y ∈ scope.names, y.2 = .free → ∃ c, X.env.cells.lookup y.1 = some c := fun y hy e => by
  rcases L.free y hy e with k | k
  · exact ok.has _ (.inl k)
  · exact ok.has _ (.inr k)
/-- the context of the lambda's body: the maker's slots and the parameters' -/
def lamCx1 (X : Cx) (A : Around) (outer : List Env) (s : Shared) (H : Hp) (E : XK) (scope : Scope) (prs : List Str) (f c' : Addr) : Cx :=
  { lamCx X A outer s H E scope f c' with N := X.N ++ prs }
section
variable {X : Cx} {pins : List (Addr × Obj)} {σ : L2.St} {H HZ : Hp} {s s1 : Shared}
theorem lam_start1 {A : Around} {outer : List Env} {E : XK} {scope : Scope} {prs : List Str} {vs : List V} {us : List Value} {f c' : Addr} {h₁ : Heap} {tk : Nat} (I : Inv X pins σ H s) (L : LamS1 X.env.scope scope prs) (hp : ∀ p ∈ prs, p ∉ X.N) (rv : Vals vs us) (hl : vs.length = prs.length) (e0 : Env0 X.prog X.w X.K X.mg X.base A outer s1 HZ) (hd : A.handled = none)
    (un : Un (frs X.stack) [] H HZ s.heap s1.heap) (hns : h₁.Ns s1.heap.objs.size fun y => (prs.zip us).reverse.lookup y) (kp : ∀ b o, s1.heap.get? b = some o → h₁.get? b = some o) :
    Inv (lamCx1 X A outer s1 HZ E scope prs f c') [] (σ ++ vs.map some) HZ { s1 with heap := h₁, toks := tk } := by
  have hfree := L.has I.ok
  have cm : ∀ {y c}, (cloFrom X.env.cells scope.names []).lookup y = some c → X.env.cells.lookup y = some c := fun {y c} e => by
    rcases cloFrom_mem (PySem.mem_of_lookup e) with hm | ⟨h1, h2⟩
    · cases hm
    · obtain ⟨c1, hc⟩ := hfree _ h1 rfl
      have hc : X.env.cells.lookup y = some c1 := hc
      have e2 : c = c1 := by
        rw [h2, hc] <;> rfl
      rw [e2]
      exact hc
  have look : ∀ {y}, scope.names.lookup y = some .free → ∃ c, (cloFrom X.env.cells scope.names []).lookup y = some c := fun {y} hl => by
    have hy : (y, NameKind.free) ∈ scope.names := PySem.mem_of_lookup hl
    exact mem_lookup (cloFrom_has (cells := X.env.cells) (acc := []) hy)
  have cellK : ∀ {c : Addr} {v : Option Value}, H c = none → s.heap.IsCell c v → h₁.IsCell c v := fun {c v} n ⟨o, ho, hd⟩ => by
    obtain ⟨sl, q⟩ := un.any ho n (by simp)
    exact ⟨_, kp _ _ q, hd⟩
  have noA : ∀ b : Addr, b ∉ (lamCx1 X A outer s1 HZ E scope prs f c').ex := fun b z => absurd (show b ∈ ([] : List Addr) from z) (by simp)
  refine ⟨⟨e0.mod, L.kind, rfl, rfl, Nat.le_refl _, fun y z c e1 e2 => I.ok.inj y z c (cm e1) (cm e2), fun y hy => ?_, fun y c z _ => ?_, fun _ => hd, Around.frames_deeper e0.frames, .inr ⟨rfl, rfl⟩, fun b z => absurd z (noA b), e0.bs, e0.bsz, fun b _ _ => noA b,
      fun b z => absurd z (noA b), e0.funs, e0.frf⟩,
    rfl, e0.bare, Un.kept kp, ⟨_, hns, fun i y v' e1 e2 e3 => ?_⟩, fun y c e => ?_, e0.hok.fresh (Nat.le_refl _), fun y c e => ?_, fun q hq => absurd (show q ∈ ([] : List (Addr × Obj)) ++ [] from hq) (by simp), e0.hok.kept kp, ?_⟩
  · have hy : scope.names.lookup y = some .cell ∨ scope.names.lookup y = some .free := hy
    rcases hy with hy | hy
    · exact absurd rfl (L.own _ (PySem.mem_of_lookup hy)).2
    · exact look hy
  · have z : false = true := z
    cases z
  · have e1 : (X.N ++ prs)[i]? = some y := e1
    have e3 : Vis scope y := e3
    by_cases hi : i < X.N.length
    · rw [List.getElem?_append_left hi] at e1
      rw [List.getElem?_append_left (by rw [I.len]; exact hi)] at e2
      have yp : y ∉ prs := fun z => hp y z (List.mem_of_getElem? e1)
      rcases e3 with k | k | k
      · exact absurd ((L.own _ (PySem.mem_of_lookup k)).1 rfl) yp
      · exact absurd rfl (L.own _ (PySem.mem_of_lookup k)).2
      · obtain ⟨m, hn, hl⟩ := I.loc
        have hvis : Vis X.env.scope y := (L.free _ (PySem.mem_of_lookup k) rfl).elim (fun k => .inr (.inl k)) (fun k => .inr (.inr k))
        obtain ⟨w', r, q⟩ := hl i y v' e1 e2 hvis
        obtain ⟨c2, h2⟩ := look k
        refine ⟨w', r, .inr ⟨.inr k, c2, h2, ?_⟩⟩
        have c1 := cm h2
        rcases q with ⟨k', _⟩ | ⟨_, c3, e', z⟩
        · have k' : X.env.scope.names.lookup y = some .local := k'
          rcases L.free _ (PySem.mem_of_lookup k) rfl with k2 | k2 <;> rw [show X.env.scope.names.lookup y = _ from k2] at k' <;> cases k'
        · rw [c1] at e'
          cases e'
          exact cellK (I.freeC y _ c1) z
    · have hi : X.N.length ≤ i := Nat.le_of_not_lt hi
      rw [List.getElem?_append_right hi] at e1
      rw [List.getElem?_append_right (by rw [I.len]; exact hi), I.len, List.getElem?_map] at e2
      cases q : vs[i - X.N.length]? with
      | none => rw [q] at e2; cases e2
      | some w =>
        rw [q] at e2
        have ev : w = v' := by simpa using e2
        subst ev
        obtain ⟨u, hu, ru⟩ := rv.get q
        exact ⟨u, ru, .inl ⟨L.par y (List.mem_of_getElem? e1), NdefX.zip_look L.nd e1 hu⟩⟩
  · obtain ⟨w', z⟩ := I.cell y c (cm e)
    exact ⟨w', cellK (I.freeC y c (cm e)) z⟩
  · obtain ⟨v, o, ho, hd⟩ := I.cell y c (cm e)
    exact un.free c o ho (I.freeC y c (cm e)) (by simp)
  · show (σ ++ vs.map some).length = (X.N ++ prs).length
    rw [List.length_append, List.length_append, I.len, List.length_map, hl]
/-- x(e, ..), in the def that got the lambda -/
theorem pe_act1 {CXg : CXT} {Eg : XK} {Ng : List Str} {qg : Str} {sg : Scope} {g f c' : Addr} {cdg pm ctv : Value} {params : Arguments} {body : Expr} {scope : Scope} {prs : List Str} {k i : Nat} {a : Str} {e : Expr} {es : List Expr} {ta : TA} {pn : List (Addr × Obj)} {xe : Value → Shared → Prop} {W : WX} {E : XK} {tb : TE} {p1 p2 : Pos}
    (I : Inv X pins σ H s) (L : LamS1 X.env.scope scope prs) (hp : ∀ p ∈ prs, p ∉ X.N) (hf : s.heap.get? f = some (PySem.W.kla_obj "<lambda>" (X.env.qual ++ "<lambda>") params body scope (cloFrom X.env.cells scope.names []) pm c' ctv)) (hfn : H f = none) (hfr : f ∉ frs X.stack)
    (hbind : ∀ us : List Value, us.length = prs.length → bindArgs (PySem.W.kla_fn "<lambda>" (X.env.qual ++ "<lambda>") params body scope (cloFrom X.env.cells scope.names []) pm (.ref c') ctv) ⟨us, []⟩ = pure (prs.zip us))
    (tk : Takes ((cxOf CXg X.prog X.w X.K X.mg X.base Ng qg sg g cdg X.A X.stack s H Eg).tr pn xe) W) (hW : ∀ cls d σ' H', E cls d H' → W cls d σ' H') (hr : Room (k + 1) (X.A.deeper (envOfC qg sg s.heap.objs.size g cdg)))
    (hbody : ∀ (A : Around) (outer : List Env) (s : Shared) (H : Hp), Room k (A.deeper (lamEnv X scope s.heap.objs.size f c')) → PE (lamCx1 X A outer s H E scope prs f c') body tb)
    (hN : Ng[i]? = some a) (hv : Vis sg a) (ha : PA ((cxOf CXg X.prog X.w X.K X.mg X.base Ng qg sg g cdg X.A X.stack s H Eg).tr pn xe) (e :: es) ta)
    (he : starEach (e :: es) ((cxOf CXg X.prog X.w X.K X.mg X.base Ng qg sg g cdg X.A X.stack s H Eg).tr pn xe).env = (false, eval e ((cxOf CXg X.prog X.w X.K X.mg X.base Ng qg sg g cdg X.A X.stack s H Eg).tr pn xe).env) :: starEach es ((cxOf CXg X.prog X.w X.K X.mg X.base Ng qg sg g cdg X.A X.stack s H Eg).tr pn xe).env)
    (hpl : (backTo p2 (starEach es ((cxOf CXg X.prog X.w X.K X.mg X.base Ng qg sg g cdg X.A X.stack s H Eg).tr pn xe).env)).any (·.1) = false)
    (hd : (a == ("__debug__" : Str)) = false := by decide) (hcd : (a == ("__classdict__" : Str)) = false := by decide) :
    PE ((cxOf CXg X.prog X.w X.K X.mg X.base Ng qg sg g cdg X.A X.stack s H Eg).tr pn xe) (.Call (.Name a p1) (e :: es) [] p2)
      (fun σZ HZ Q => σZ[i]? = some (some (.ref f)) ∧ ta σZ HZ fun ws H2 => ws.length = prs.length ∧ H2 c' = some (CodeO c' (X.env.qual ++ "<lambda>")) ∧ tb (σ ++ ws.map some) H2 Q) := by
  refine ⟨fun pinsZ sZ σZ HZ Q IZ h => ?_⟩
  obtain ⟨hs, ht⟩ := h
  refine wpAny_Call_Name_kw (thn ((pe_var (pos := p1) (i := i) hN hv hd hcd).run pinsZ sZ σZ HZ (fun v H1 => v = .ref f ∧ H1 = HZ) IZ ⟨.ref f, hs, rfl, rfl⟩) fun u s0 ⟨v0, H1, I1, r1, q1⟩ => ?_)
  obtain ⟨ev, eH⟩ := q1
  subst ev
  rw [eH] at I1
  obtain rfl : u = Value.ref f := r1
  have of0 : s0.heap.get? f = some (PySem.W.kla_obj "<lambda>" (X.env.qual ++ "<lambda>") params body scope (cloFrom X.env.cells scope.names []) pm c' ctv) := I1.base.keep f _ hf hfn hfr (fun z => nomatch (show f ∈ ([] : List Addr) from z))
  refine PySem.W.callWith_F ⟨_, _, _, _, of0⟩ (thn (ha.run p2 pinsZ s0 σZ HZ _ I1 ht) fun us s1 ⟨ws, H2, I2, r2, hlen, hc, hq⟩ => ?_) he hpl
  have of1 : s1.heap.get? f = some (PySem.W.kla_obj "<lambda>" (X.env.qual ++ "<lambda>") params body scope (cloFrom X.env.cells scope.names []) pm c' ctv) := I2.base.keep f _ hf hfn hfr (fun z => nomatch (show f ∈ ([] : List Addr) from z))
  refine ⟨⟨_, _, _, _, of1⟩, ?_⟩
  have un : Un (frs X.stack) [] H H2 s.heap s1.heap := I2.base
  obtain ⟨⟨oc, vs, t, hoc, hdc, hvc⟩, _, _⟩ := I2.hok c' _ hc
  have hul : us.length = prs.length := by rw [← hlen]; exact r2.length.symm
  have rc : codeAny (model X.prog X.w) (X.A.deeper (envOfC qg sg s.heap.objs.size g cdg)) (.call (.ref f) ⟨us, []⟩) (CR (L2.CX X.prog X.w) (envOfC qg sg s.heap.objs.size g cdg :: X.stack) X.prog X.w H2 s1 Q E) s1 := by
    refine PySem.W.kla_callFunE hr.depth of1 rfl L.co L.gen rfl ⟨c', oc, vs, t, rfl, hoc, hdc, hvc⟩ ?_
    rw [hbind us hul]
    refine wpAny_pure (wpAny_newFunctionEnv (fun y hy => (L.own y hy).2) (fun y hy => L.par _ (List.of_mem_zip hy).1) (fun h₁ hns hsb => ⟨I2.nolimit.fresh _ hsb, ?_⟩) L.kind)
    show codeAny _ _ (.expr body (lamEnv X scope s1.heap.objs.size f c')) _ _
    have kp : ∀ b o, s1.heap.get? b = some o → h₁.get? b = some o := fun b o e => hsb.extBut b o (Nat.ne_of_lt (Heap.lt_size e)) (Heap.get?_push_of_some _ e)
    have J : Inv (lamCx1 X (X.A.deeper (envOfC qg sg s.heap.objs.size g cdg)) (envOfC qg sg s.heap.objs.size g cdg :: X.stack) s1 H2 E scope prs f c') [] (σ ++ ws.map some) H2 { s1 with heap := h₁, toks := s1.toks + (prs.zip us).length } :=
      lam_start1 I L hp r2 hlen I2.env0 hr.hd un hns kp
    refine PySem.W.kla_codeExpr (wpAny_mono ((hbody _ _ s1 H2 (hr.deeper _)).run [] _ _ H2 Q J hq) (fun v s' hq => ?_) fun e s' hq => hq)
    obtain ⟨w', H', J', rv, q⟩ := hq
    exact ⟨w', H', J'.os, J'.bare, J'.base, J'.hok, rv, q⟩
  have hx : Passes (L2.CX X.prog X.w) ((cxOf CXg X.prog X.w X.K X.mg X.base Ng qg sg g cdg X.A X.stack s H Eg).tr pn xe) E := passes_call tk hW
  refine wpAny_call (codeAny_mono rc fun r s' hq => ?_)
  cases r with
  | error e => exact hx pinsZ σZ H2 s1 e s' I2 hq
  | ok fl =>
    cases fl with
    | ret u => exact I2.after hq
    | next => exact False.elim hq
    | brk => exact False.elim hq
    | cont => exact False.elim hq
end
end DL

namespace DL
open PySem L2 LamX PySem.Spec PyProof.Rows
/-! ### x(lambda ps: b, e2), x(e2, lambda ps: b) -/
/-- the def that calls what it got: the parameter a in the slot fi; mk: how it starts; TT: what it makes of the lambda's reading and of its other argument -/
def GivesTo1 (X : Cx) (Ng : List Str) (x : Str) (sg : Scope) (g : Addr) (cdg : Value) (bg : List Stmt) (a : Str) (fi : Nat) (q : Str) (n : Nat) (mk : V → V → List V) (TT : (XK → List V → Hp → VK → Prop) → Addr → Addr → V → Hp → VK → Prop) : Prop :=
  ∀ (f c' : Addr) (s : Shared) (H : Hp) (Q : VK) (w : V) (tl : XK → List V → Hp → VK → Prop),
    (∀ (W : WX) (pn : List (Addr × Obj)) (xe : Value → Shared → Prop) (E : XK) (e : Expr) (es : List Expr) (ta : TA) (p1 p2 : Pos), Takes ((cxOf C8.CX0 X.prog X.w X.K X.mg X.base Ng x sg g cdg X.A X.stack s H C8.E0).tr pn xe) W → (∀ cls d σ' H', E cls d H' → W cls d σ' H') →
      PA ((cxOf C8.CX0 X.prog X.w X.K X.mg X.base Ng x sg g cdg X.A X.stack s H C8.E0).tr pn xe) (e :: es) ta →
      starEach (e :: es) ((cxOf C8.CX0 X.prog X.w X.K X.mg X.base Ng x sg g cdg X.A X.stack s H C8.E0).tr pn xe).env = (false, eval e ((cxOf C8.CX0 X.prog X.w X.K X.mg X.base Ng x sg g cdg X.A X.stack s H C8.E0).tr pn xe).env) :: starEach es ((cxOf C8.CX0 X.prog X.w X.K X.mg X.base Ng x sg g cdg X.A X.stack s H C8.E0).tr pn xe).env →
      (backTo p2 (starEach es ((cxOf C8.CX0 X.prog X.w X.K X.mg X.base Ng x sg g cdg X.A X.stack s H C8.E0).tr pn xe).env)).any (·.1) = false →
      PE ((cxOf C8.CX0 X.prog X.w X.K X.mg X.base Ng x sg g cdg X.A X.stack s H C8.E0).tr pn xe) (.Call (.Name a p1) (e :: es) [] p2) (fun σZ HZ Q => σZ[fi]? = some (some (.ref f)) ∧ ta σZ HZ fun ws H2 => ws.length = n ∧ H2 c' = some (CodeO c' q) ∧ tl E ws H2 Q)) →
    H c' = some (CodeO c' q) → TT tl f c' w H Q →
    ∃ t, PSs (cxOf C8.CX0 X.prog X.w X.K X.mg X.base Ng x sg g cdg X.A X.stack s H C8.E0).nox bg t ∧ t { nx := fun _ H' => Q .non H', rt := Q } (L2.start Ng (mk (.ref f) w)) H
/-- the heap after a lambda is made: as it was, its code object told by the table; or the table has grown by a new code object -/
def Grown (H : Hp) (P : Addr) (q : Str) (ps : Array Value) (H1 : Hp) (c' : Addr) : Prop :=
  (H1 = H ∧ ∃ pos, codeAmong pos ps.toList = some (.ref c')) ∨ (H c' = none ∧ ∃ pos : Pos, H1 = L2.upd (L2.upd H P (.tbl (ps ++ #[rawInt pos.line, rawInt pos.col, .ref c']))) c' (CodeO c' q))
/-- the table at P: what it tells is known -/
structure TabAt (H : Hp) (P : Addr) (q : Str) (ps : Array Value) : Prop where
  at_ : H P = some (.tbl ps)
  tri : TriplesOk ps.toList
  known : ∀ (pos : Pos) (cv : Value), codeAmong pos ps.toList = some cv → ∃ c, cv = .ref c ∧ H c = some (CodeO c q)
def tLam1 (P : Addr) (q : Str) (TT : (XK → List V → Hp → VK → Prop) → Addr → Addr → V → Hp → VK → Prop) (t : XK → TE) (t2 : TA) : TE := fun σ H Q => ∃ ps, TabAt H P q ps ∧ ∀ H1 c' f, Grown H P q ps H1 c' → H1 c' = some (CodeO c' q) →
  t2 σ H1 fun ws H2 => ∃ w, ws = [w] ∧ H2 c' = some (CodeO c' q) ∧ TT (fun E vs H' Q' => t E (σ ++ vs.map some) H' Q') f c' w H2 Q
def tLam2 (P : Addr) (q : Str) (TT : (XK → List V → Hp → VK → Prop) → Addr → Addr → V → Hp → VK → Prop) (t : XK → TE) (t2 : TE) : TE := fun σ H Q => t2 σ H fun w H0 => ∃ ps, TabAt H0 P q ps ∧ ∀ H1 c' f, Grown H0 P q ps H1 c' → H1 c' = some (CodeO c' q) →
  TT (fun E vs H' Q' => t E (σ ++ vs.map some) H' Q') f c' w H1 Q
section
variable {X : Cx} {pins : List (Addr × Obj)} {σ : L2.St} {H : Hp} {s : Shared}
/-- the lambda is made: its code object is new, or told by the table -/
theorem lam_make3 {c P : Addr} {ps : Array Value} {params : Arguments} {body : Expr} {scope : Scope} {pos : Pos} {E : Value → Shared → Prop} {Q : Value → Shared → Prop} (I : Inv X pins σ H s) (TB : TabB X.base X.mg c P) (hcode : X.env.code = .ref c)
    (hT : TabAt H P (X.env.qual ++ "<lambda>") ps) (hdef : defaultsOf params X.env = ([], [])) (hfree : ∀ y ∈ scope.names, y.2 = .free → ∃ c, X.env.cells.lookup y.1 = some c)
    (h : ∀ (f c' : Addr) (pm ctv : Value) (H1 : Hp) (s' : Shared), Inv X pins σ H1 s' → Grown H P (X.env.qual ++ "<lambda>") ps H1 c' →
      s'.heap.get? f = some (PySem.W.kla_obj "<lambda>" (X.env.qual ++ "<lambda>") params body scope (cloFrom X.env.cells scope.names []) pm c' ctv) → H1 f = none → f ∉ frs X.stack → H1 c' = some (CodeO c' (X.env.qual ++ "<lambda>")) → Q (.ref f) s') :
    wpAny (model X.prog X.w) X.A (eval (.Lambda params body scope pos) X.env) Q E s := by
  obtain ⟨hP, ht, ha⟩ := hT
  refine PySem.W.kla_eval hdef ?_
  have bP : s.heap.BuiltinsAt X.mg P := TB.bm.keeps I.bk
  have hP' : s.heap.get? P = some { cls := .none, data := .fields ps } := I.hok P _ hP
  have nofr : ∀ f, s.heap.objs.size ≤ f → f ∉ frs X.stack := fun f hf z => by
    rcases List.mem_cons.mp (I.stkSub _ z) with e | e
    · have h1 := I.lt
      rw [← e] at h1
      exact Nat.lt_irrefl _ (Nat.lt_of_lt_of_le h1 hf)
    · exact I.nofs hf e
  cases hc : codeAmong pos ps.toList with
  | none =>
    refine PySem.W.kla_makeFunction (mg := X.mg) (c := c) (P := P) (ps := ps) (closure_ok hfree) I.ok.glob (I.mod.glob.keeps I.bk) hcode (TB.code.keeps I.bk) hP' ht hc TB.gP bP fun c' ctv h' tk hx hge hlt hrec htb => ?_
    obtain ⟨c2, oc, vs, t, e2, hoc, hd, hv⟩ := hrec
    cases e2
    have hsz : s.heap.objs.size ≤ h'.objs.size := Nat.le_trans hge (Nat.le_of_lt hlt)
    have nC : H c' = none := I.hok.fresh hge
    have I1 := inv_table (t' := tk) (more := #[rawInt pos.line, rawInt pos.col, .ref c']) (h' := h'.push (PySem.W.kla_obj "<lambda>" (X.env.qual ++ "<lambda>") params body scope (cloFrom X.env.cells scope.names []) ((X.mg "__name__").getD .none) c' ctv)) I hP
      (fun b o hb e => Heap.get?_push_of_some _ (hx b o hb e)) (Heap.get?_push_of_some _ htb) hge ⟨oc, vs, t, Heap.get?_push_of_some _ hoc, hd, hv⟩
    refine h h'.objs.size c' ((X.mg "__name__").getD .none) ctv _ _ I1 (.inr ⟨nC, pos, rfl⟩) (Heap.get?_push_size _ rfl) ?_ (nofr _ hsz) upd_same
    have n1 : h'.objs.size ≠ c' := Nat.ne_of_gt hlt
    have n2 : h'.objs.size ≠ P := Nat.ne_of_gt (Nat.lt_of_lt_of_le (Heap.lt_size hP') hsz)
    rw [upd_ne n1, upd_ne n2]
    exact I.hok.fresh hsz
  | some cv =>
    obtain ⟨c', e, hco⟩ := ha pos cv hc
    subst e
    refine PySem.W.kla_makeFunctionHit (mg := X.mg) (c := c) (P := P) (ps := ps) (closure_ok hfree) I.ok.glob (I.mod.glob.keeps I.bk) hcode (TB.code.keeps I.bk) hP' ht hc bP fun ctv h' tk hx hsz => ?_
    have I1 : Inv X pins σ H { s with heap := h'.push (PySem.W.kla_obj "<lambda>" (X.env.qual ++ "<lambda>") params body scope (cloFrom X.env.cells scope.names []) ((X.mg "__name__").getD .none) c' ctv), toks := tk } := I.kept fun b o e => Heap.get?_push_of_some _ (hx b o e)
    exact h h'.objs.size c' ((X.mg "__name__").getD .none) ctv H _ I1 (.inl ⟨rfl, pos, hc⟩) (Heap.get?_push_size _ rfl) (I.hok.fresh hsz) (nofr _ hsz) hco
end
section
variable {X : Cx}
theorem frs_sub {e : Env} {es : List Env} {a : Addr} (h : a ∈ frs es) : a ∈ frs (e :: es) := by
  unfold frs at h ⊢
  rw [List.filterMap_cons]
  split
  · exact h
  · exact List.mem_cons_of_mem _ h
theorem pe_lamcall1 {TT : (XK → List V → Hp → VK → Prop) → Addr → Addr → V → Hp → VK → Prop} {x a : Str} {ps : List Str} {g c P : Addr} {k fi : Nat} {pg : Arguments} {bg : List Stmt} {sg : Scope} {dV kV doc pm cdv ct oc : Value} {an od : Option Addr} {osl : Array (Option Value)} {Ng : List Str}
    {params : Arguments} {body e2 : Expr} {scope : Scope} {prs : List Str} {t : XK → TE} {t2 : TA} {p lpos pos : Pos} (hg : Gl X x) (hm : X.mg x = some (.ref g)) (hk : PySem.W.keepIn X.K (.ref g) = true)
    (lk : X.K.lookup g = some ⟨oc, od, .func (PySem.W.fnOf x x pg bg sg dV kV doc pm an cdv ct), osl⟩) (hcg : PySem.W.codeIn X.K cdv x = true) (hb : L2.Binds X.K (PySem.W.fnOf x x pg bg sg dV kV doc pm an cdv ct) ps []) (hps : ps.length = 2) (Sg : FnScope Ng ps sg) (hNg : Ng[fi]? = some a) (hva : Vis sg a)
    (hG : GivesTo1 X Ng x sg g cdv bg a fi (X.env.qual ++ "<lambda>") prs.length (fun f w => [f, w]) TT)
    (TB : TabB X.base X.mg c P) (hcode : X.env.code = .ref c) (hr : Room (k + 2) X.A) (L : LamS1 X.env.scope scope prs) (hpr : ∀ p ∈ prs, p ∉ X.N) (hdef : defaultsOf params X.env = ([], []))
    (hbind : ∀ (q : Str) (cl : List (Str × Addr)) (pm cv ctv : Value) (us : List Value), us.length = prs.length → bindArgs (PySem.W.kla_fn "<lambda>" q params body scope cl pm cv ctv) ⟨us, []⟩ = pure (prs.zip us))
    (hbody : ∀ (A : Around) (outer : List Env) (s : Shared) (H : Hp) (E : XK) (f c' : Addr), Room k (A.deeper (lamEnv X scope s.heap.objs.size f c')) → PE (lamCx1 X A outer s H E scope prs f c') body (t E))
    (h2 : PA X [e2] t2) (hpl : (backTo pos (starEach [e2] X.env)).any (·.1) = false := by rfl)
    (hdb : (x == ("__debug__" : Str)) = false := by decide) (hd : (a == ("__debug__" : Str)) = false := by decide) (hcd : (a == ("__classdict__" : Str)) = false := by decide) :
    PE X (.Call (.Name x p) [.Lambda params body scope lpos, e2] [] pos) (tLam1 P (X.env.qual ++ "<lambda>") TT t t2) := by
  refine ⟨fun pins s σ H Q I h => ?_⟩
  obtain ⟨ts, hT, h⟩ := h
  refine wpAny_Call_Name_kw (ld_glob I hg hm ?_ hdb)
  refine PySem.W.callWith_K (h₀ := X.base) I.ok.mod.kin hk ?_ (by rfl) hpl
  show wpAny _ _ (spliced ((false, eval (.Lambda params body scope lpos) X.env) :: backTo pos (starEach [e2] X.env))) _ _ s
  refine Calls.spliced_cons (lam_make3 I TB hcode hT hdef (L.has I.ok) fun f c' pm' ctv H1 s' I1 gr hf hfn hfr hco => ?_)
  have hfl : f ≠ X.env.locals := fun z => by
    obtain ⟨m, ⟨o, es, ep, ho, hdd, _⟩, _⟩ := I1.loc
    rw [← z, hf] at ho
    cases ho
    cases hdd
  have hfs : f ∉ X.fs := fun z => hfr (by
    rcases I1.ok.stk with e | ⟨e, _⟩
    · rw [e]; exact z
    · rw [e]
      exact frs_sub z)
  have I2 : Inv X ((f, PySem.W.kla_obj "<lambda>" (X.env.qual ++ "<lambda>") params body scope (cloFrom X.env.cells scope.names []) pm' c' ctv) :: pins) σ H1 s' := I1.pins_of fun p hp => by
    rcases List.mem_cons.mp hp with e | e
    · rw [e]
      exact ⟨hf, hfn, hfl, hfs, fun v z => by cases z⟩
    · exact I1.pin p (List.mem_append_right _ e)
  refine thn (h2.run pos _ s' σ H1 _ I2 (h H1 c' f gr hco)) fun us s2 ⟨vs, H2, I3, r, w, ew, hco2, hTT⟩ => ?_
  subst ew
  obtain ⟨hf2, hfn2, _⟩ := I3.pin (f, _) (List.mem_append_right _ List.mem_cons_self)
  have I4 : Inv X pins σ H2 s2 := I3.pins_of fun p hp => I3.pin p (List.mem_append_right _ (List.mem_cons_of_mem _ hp))
  cases r with
  | cons r0 rr =>
    cases rr with
    | nil =>
      rename_i u _
      refine ⟨I4.kIn, ?_⟩
      have rc : codeAny (model X.prog X.w) X.A (.call (.ref g) ⟨[.ref f, u], []⟩) (CR C8.CX0 X.stack X.prog X.w H2 s2 Q C8.E0) s2 := by
        refine run_ofS (N := Ng) (ps := ps) (us := [.ref f, u]) (vs := [.ref f, w]) lk hcg Sg hr I4.env0 (hb s2 [.ref f, u] I4.kIn hps.symm) (.cons rfl (.cons r0 .nil)) hps.symm fun hr' => ?_
        obtain ⟨t', ht', hq'⟩ := hG f c' s2 H2 Q w (fun E vs H' Q' => t E (σ ++ vs.map some) H' Q') (fun W pn xe E e es ta p1 p2 tk hW hpa he hpl2 => pe_act1 (i := fi) I4 L hpr hf2 hfn2 hfr (fun us hl => hbind _ _ _ _ _ us hl) tk hW hr' (fun A outer s H hr2 => hbody A outer s H E f c' hr2) hNg hva hpa he hpl2 hd hcd) hco2 hTT
        exact ⟨t', ht'.nox, hq'⟩
      refine wpAny_call (codeAny_mono rc fun r s3 hq => ?_)
      cases r with
      | error e => exact (show False from hq).elim
      | ok fl =>
        cases fl with
        | ret u => exact I4.after hq
        | next => exact False.elim hq
        | brk => exact False.elim hq
        | cont => exact False.elim hq
theorem pe_lamcall2 {TT : (XK → List V → Hp → VK → Prop) → Addr → Addr → V → Hp → VK → Prop} {x a : Str} {ps : List Str} {g c P : Addr} {k fi : Nat} {pg : Arguments} {bg : List Stmt} {sg : Scope} {dV kV doc pm cdv ct oc : Value} {an od : Option Addr} {osl : Array (Option Value)} {Ng : List Str}
    {params : Arguments} {body e2 : Expr} {scope : Scope} {prs : List Str} {t : XK → TE} {t2 : TE} {p lpos pos : Pos} (hg : Gl X x) (hm : X.mg x = some (.ref g)) (hk : PySem.W.keepIn X.K (.ref g) = true)
    (lk : X.K.lookup g = some ⟨oc, od, .func (PySem.W.fnOf x x pg bg sg dV kV doc pm an cdv ct), osl⟩) (hcg : PySem.W.codeIn X.K cdv x = true) (hb : L2.Binds X.K (PySem.W.fnOf x x pg bg sg dV kV doc pm an cdv ct) ps []) (hps : ps.length = 2) (Sg : FnScope Ng ps sg) (hNg : Ng[fi]? = some a) (hva : Vis sg a)
    (hG : GivesTo1 X Ng x sg g cdv bg a fi (X.env.qual ++ "<lambda>") prs.length (fun f w => [w, f]) TT)
    (TB : TabB X.base X.mg c P) (hcode : X.env.code = .ref c) (hr : Room (k + 2) X.A) (L : LamS1 X.env.scope scope prs) (hpr : ∀ p ∈ prs, p ∉ X.N) (hdef : defaultsOf params X.env = ([], []))
    (hbind : ∀ (q : Str) (cl : List (Str × Addr)) (pm cv ctv : Value) (us : List Value), us.length = prs.length → bindArgs (PySem.W.kla_fn "<lambda>" q params body scope cl pm cv ctv) ⟨us, []⟩ = pure (prs.zip us))
    (hbody : ∀ (A : Around) (outer : List Env) (s : Shared) (H : Hp) (E : XK) (f c' : Addr), Room k (A.deeper (lamEnv X scope s.heap.objs.size f c')) → PE (lamCx1 X A outer s H E scope prs f c') body (t E))
    (h2 : PE X e2 t2) (he2 : starEach [e2, .Lambda params body scope lpos] X.env = (false, eval e2 X.env) :: starEach [.Lambda params body scope lpos] X.env := by rfl)
    (hdb : (x == ("__debug__" : Str)) = false := by decide) (hd : (a == ("__debug__" : Str)) = false := by decide) (hcd : (a == ("__classdict__" : Str)) = false := by decide) :
    PE X (.Call (.Name x p) [e2, .Lambda params body scope lpos] [] pos) (tLam2 P (X.env.qual ++ "<lambda>") TT t t2) := by
  refine ⟨fun pins s σ H Q I h => ?_⟩
  refine wpAny_Call_Name_kw (ld_glob I hg hm ?_ hdb)
  refine PySem.W.callWith_K (h₀ := X.base) I.ok.mod.kin hk ?_ he2 (by rfl)
  rw [he2]
  show wpAny _ _ (spliced ((false, eval e2 X.env) :: backTo pos (starEach [.Lambda params body scope lpos] X.env))) _ _ s
  refine Calls.spliced_cons (thn (h2.run pins s σ H _ I h) fun u s0 ⟨w, H0, I0, r0, ts, hT, h⟩ => ?_)
  show wpAny _ _ (spliced ((false, eval (.Lambda params body scope lpos) X.env) :: backTo pos (starEach [] X.env))) _ _ s0
  refine Calls.spliced_cons (lam_make3 I0 TB hcode hT hdef (L.has I0.ok) fun f c' pm' ctv H1 s' I1 gr hf hfn hfr hco => ?_)
  refine Calls.spliced_nil ⟨I1.kIn, ?_⟩
  have rc : codeAny (model X.prog X.w) X.A (.call (.ref g) ⟨[u, .ref f], []⟩) (CR C8.CX0 X.stack X.prog X.w H1 s' Q C8.E0) s' := by
    refine run_ofS (N := Ng) (ps := ps) (us := [u, .ref f]) (vs := [w, .ref f]) lk hcg Sg hr I1.env0 (hb s' [u, .ref f] I1.kIn hps.symm) (.cons r0 (.cons rfl .nil)) hps.symm fun hr' => ?_
    obtain ⟨t', ht', hq'⟩ := hG f c' s' H1 Q w (fun E vs H' Q' => t E (σ ++ vs.map some) H' Q') (fun W pn xe E e es ta p1 p2 tk hW hpa he hpl2 => pe_act1 (i := fi) I1 L hpr hf hfn hfr (fun us hl => hbind _ _ _ _ _ us hl) tk hW hr' (fun A outer s H hr2 => hbody A outer s H E f c' hr2) hNg hva hpa he hpl2 hd hcd) hco (h H1 c' f gr hco)
    exact ⟨t', ht'.nox, hq'⟩
  refine wpAny_call (codeAny_mono rc fun r s3 hq => ?_)
  cases r with
  | error e => exact (show False from hq).elim
  | ok fl =>
    cases fl with
    | ret u => exact I1.after hq
    | next => exact False.elim hq
    | brk => exact False.elim hq
    | cont => exact False.elim hq
end
end DL

namespace DL
open PySem L2 LamX PySem.Spec PyProof.Rows
variable [TC : TabCtx]
/-! ### functions as data -/
open Classical in
noncomputable def gFn (d0 : D) (F : List D → Option D) (fi : Nat) (fs : Ag) : Ex := fun Γ => if Γ[fi]? = some (.sh d0) then (fs Γ).bind F else none
theorem ev_fn {d0 : D} {F : List D → Option D} {fi : Nat} {fs : Ag} {Γ : DEnv} {es : List D} {d : D} (h1 : Γ[fi]? = some (.sh d0)) (h2 : fs Γ = some es) (h3 : F es = some d) : gFn d0 F fi fs Γ = some d := by
  unfold gFn
  rw [if_pos h1, h2]
  exact h3
/-- a call of what was got: a, in the slot fi, with n arguments -/
structure Acts (X : Cx) (a : Str) (fi n : Nat) (d0 : D) (F : List D → Option D) : Prop where
  run : ∀ {e : Expr} {es : List Expr} {fs : Ag} {p1 p2 : Pos}, AN X (e :: es) n fs → starEach (e :: es) X.env = (false, eval e X.env) :: starEach es X.env → (backTo p2 (starEach es X.env)).any (·.1) = false → E X (.Call (.Name a p1) (e :: es) [] p2) (gFn d0 F fi fs)
theorem e_act {X : Cx} {a : Str} {fi n : Nat} {d0 : D} {F : List D → Option D} {e : Expr} {es : List Expr} {fs : Ag} {p1 p2 : Pos} (ac : Acts X a fi n d0 F) (h : AN X (e :: es) n fs) (he : starEach (e :: es) X.env = (false, eval e X.env) :: starEach es X.env := by rfl) (hpl : (backTo p2 (starEach es X.env)).any (·.1) = false := by rfl) :
    E X (.Call (.Name a p1) (e :: es) [] p2) (gFn d0 F fi fs) := ac.run h he hpl
/-- what the making of a lambda asks of the tables -/
structure TabHas (P : Addr) (q : Str) : Prop where
  get : ∀ G H, TC.ti.t G H → ∃ ps : Array Value, H P = some (.tbl ps) ∧ TriplesOk ps.toList ∧ ∀ (pos : Pos) (cv : Value), codeAmong pos ps.toList = some cv → ∃ c, cv = .ref c ∧ G c = some (CodeO c q)
  gn : ∀ G H, TC.ti.t G H → G P = none
  grow : ∀ (G H : Hp) (ps : Array Value) (c' : Addr) (pos : Pos), Same G H → TC.ti.t G H → H P = some (.tbl ps) → H c' = none → TC.ti.t (upd G c' (CodeO c' q)) (upd (upd H P (.tbl (ps ++ #[rawInt pos.line, rawInt pos.col, .ref c']))) c' (CodeO c' q))
/-- the heap after a lambda is made -/
theorem TabHas.ext {P : Addr} {q : Str} (T : TabHas P q) {G H H1 : Hp} {ps : Array Value} {c' : Addr} (gh : Same G H) (t : TC.ti.t G H) (hP : H P = some (.tbl ps)) (kn : ∀ (pos : Pos) (cv : Value), codeAmong pos ps.toList = some cv → ∃ c, cv = .ref c ∧ G c = some (CodeO c q)) (g : Grown H P q ps H1 c') : ∃ G1, Ext G H G1 H1 ∧ G1 c' = some (CodeO c' q) := by
  rcases g with ⟨rfl, pos, hc⟩ | ⟨hn, pos, rfl⟩
  · obtain ⟨c, e, hg⟩ := kn pos _ hc
    cases e
    exact ⟨G, Ext.refl gh, hg⟩
  · have gn : G c' = none := gh.free hn
    have gP := T.gn G H t
    have nPc : P ≠ c' := ne_of_none hP hn
    refine ⟨upd G c' (CodeO c' q), ⟨same_upd gn, fun a o e n => ?_, fun a o e => ?_, fun a e => ?_, fun a e => ?_, fun t => T.grow G H ps c' pos gh t hP hn⟩, upd_same⟩
    · rw [upd_ne (ne_of_none e hn), upd_ne (fun z => n ps (Option.some.inj (e.symm.trans (by rw [z]; exact hP))))]
      exact e
    · by_cases z : a = c'
      · subst z; rw [upd_same] at e ⊢; exact e
      · rw [upd_ne z] at e
        rw [upd_ne z, upd_ne (ne_of_none e gP)]
        exact gh _ _ e
    · by_cases z : a = c'
      · subst z; exact .inr hn
      · rw [upd_ne z] at e; exact .inl e
    · by_cases z : a = c'
      · subst z; rw [upd_same]; simp
      · rw [upd_ne z]
        by_cases z2 : a = P
        · subst z2; rw [upd_same]; simp
        · rw [upd_ne z2]; exact e
/-! the slots that a lambda catches -/
def caps : List Nat → DEnv → Option (List D)
  | [], _ => some []
  | i :: is, Γ => (gV i Γ).bind fun d => (caps is Γ).bind fun ds => some (d :: ds)
def capE (n : Nat) : List Nat → List D → DEnv
  | i :: is, d :: ds => (capE n is ds).set i (.sh d)
  | _, _ => List.replicate n .no
theorem capE_len (n : Nat) : ∀ (is : List Nat) (ds : List D), (capE n is ds).length = n
  | [], _ => by simp [capE]
  | _ :: _, [] => by simp [capE]
  | i :: is, d :: ds => by simp [capE, capE_len n is ds]
theorem caps_len : ∀ {is : List Nat} {Γ : DEnv} {ds : List D}, caps is Γ = some ds → ds.length = is.length
  | [], _, _, h => by cases h; rfl
  | i :: is, Γ, _, h => by
    obtain ⟨d, e1, h⟩ := obind h
    obtain ⟨ds, e2, h⟩ := obind h
    cases h
    simp [caps_len e2]
/-- what the caught slots hold -/
structure Caught (is : List Nat) (σ : L2.St) (vs : List V) : Prop where
  len : vs.length = is.length
  at_ : ∀ (k i : Nat) (v : V), is[k]? = some i → vs[k]? = some v → σ[i]? = some (some v)
theorem Rel.caught {K : PySem.W.Frag} {mg : Str → Option Value} {G0 H0 : Hp} {Z : Zs} {Γ : DEnv} {σ : L2.St} {G H : Hp} (R : Rel K mg G0 H0 Z Γ σ G H) : ∀ {is : List Nat} {ds : List D}, caps is Γ = some ds → ∃ vs, Caught is σ vs ∧ RepL K mg G vs ds
  | [], _, h => by cases h; exact ⟨[], ⟨rfl, fun k i v z => by simp at z⟩, .nil⟩
  | i :: is, _, h => by
    obtain ⟨d, e1, h⟩ := obind h
    obtain ⟨ds, e2, h⟩ := obind h
    cases h
    obtain ⟨vs, c, r⟩ := R.caught e2
    have q : Γ[i]? = some (.sh d) := by
      unfold gV at e1
      split at e1
      · cases e1; assumption
      · cases e1
    obtain ⟨v, h1, h2⟩ := R.sh q
    refine ⟨v :: vs, ⟨by simp [c.len], fun k j w a b => ?_⟩, .cons h2 r⟩
    cases k with
    | zero => simp at a b; subst a; subst b; exact h1
    | succ k => exact c.at_ k j w (by simpa using a) (by simpa using b)
theorem capE_get {n : Nat} : ∀ {is : List Nat} {ds : List D} {j : Nat} {s : Sl}, (capE n is ds)[j]? = some s → s = .no ∨ ∃ (k : Nat) (d : D), is[k]? = some j ∧ ds[k]? = some d ∧ s = .sh d
  | [], _, j, s, h => by
    simp only [capE, List.getElem?_replicate] at h
    split at h
    · cases h; exact .inl rfl
    · cases h
  | _ :: _, [], j, s, h => by
    simp only [capE, List.getElem?_replicate] at h
    split at h
    · cases h; exact .inl rfl
    · cases h
  | i :: is, d :: ds, j, s, h => by
    rw [capE] at h
    rcases set_get h with ⟨e, _, rfl⟩ | ⟨_, q⟩
    · exact .inr ⟨0, d, by simp [e], by simp, rfl⟩
    · rcases capE_get q with z | ⟨k, d', h1, h2, h3⟩
      · exact .inl z
      · exact .inr ⟨k + 1, d', by simpa using h1, by simpa using h2, h3⟩
/-- the slots of a lambda's body: what was caught, and the arguments -/
theorem body_rel {K : PySem.W.Frag} {mg : Str → Option Value} {G H : Hp} {is : List Nat} {σ : L2.St} {vs ws : List V} {ds es : List D} (gh : Same G H) (tb : TC.ti.t G H) (c : Caught is σ vs) (r : RepL K mg G vs ds) (r2 : RepL K mg G ws es) :
    Rel K mg G H ⟨TC.ti.tz, none, TC.ti⟩ (capE σ.length is ds ++ es.map Sl.sh) (σ ++ ws.map some) G H := by
  refine ⟨by simp [capE_len, r2.length], gh, same_n (Same.refl _), Same.refl _, fun a h => .inl h, fun a z => (TC.ti.live tb a z).1, fun _ _ z => (by cases z), tb, fun _ h => h, rfl, fun _ h => h, fun _ _ => False, fun _ _ z => z.elim, fun _ _ _ z => z.elim, fun i s h => ?_⟩
  by_cases hi : i < σ.length
  · rw [List.getElem?_append_left (by rw [capE_len]; exact hi)] at h
    rw [List.getElem?_append_left hi]
    rcases capE_get h with z | ⟨k, d, h1, h2, rfl⟩
    · exact .inl z
    · obtain ⟨v, h3, h4⟩ := r.get k h2
      exact .inr (.inl ⟨v, c.at_ k i v h1 h3, .sh h4⟩)
  · have hi : σ.length ≤ i := Nat.le_of_not_lt hi
    rw [List.getElem?_append_right (by rw [capE_len]; exact hi), capE_len, List.getElem?_map] at h
    rw [List.getElem?_append_right hi, List.getElem?_map]
    cases q : es[i - σ.length]? with
    | none => rw [q] at h; cases h
    | some d =>
      rw [q] at h
      cases h
      obtain ⟨v, h3, h4⟩ := r2.get _ q
      exact .inr (.inl ⟨v, by rw [h3]; rfl, .sh h4⟩)
open Classical in
noncomputable def allF (g : D → Option D) : Option D := if h : ∃ r, ∀ a c q vs ds, g (.fn a c q vs ds) = some r then some h.choose else none
theorem allF_of {g : D → Option D} {r : D} (h : ∀ a c q vs ds, g (.fn a c q vs ds) = some r) : allF g = some r := by
  have ex : ∃ r, ∀ a c q vs ds, g (.fn a c q vs ds) = some r := ⟨r, h⟩
  unfold allF
  rw [dif_pos ex]
  have h1 := ex.choose_spec 0 0 Str.empty [] []
  rw [h 0 0 Str.empty [] []] at h1
  exact h1.symm
theorem allF_some {g : D → Option D} {r : D} (h : allF g = some r) : ∀ a c q vs ds, g (.fn a c q vs ds) = some r := by
  unfold allF at h
  split at h
  · rename_i ex
    cases h
    exact ex.choose_spec
  · cases h
/-- x(lambda ..: b, e2); S: the meaning of x, F what the lambda means -/
noncomputable def gLam1 (S : D → (List D → Option D) → List D → Option D) (is : List Nat) (fb : Ex) (f2 : Ex) : Ex := fun Γ => (caps is Γ).bind fun ds => (f2 Γ).bind fun w => allF fun d0 => S d0 (fun es => fb (capE Γ.length is ds ++ es.map Sl.sh)) [d0, w]
/-- x(e2, lambda ..: b) -/
noncomputable def gLam2 (S : D → (List D → Option D) → List D → Option D) (is : List Nat) (fb : Ex) (f2 : Ex) : Ex := fun Γ => (caps is Γ).bind fun ds => (f2 Γ).bind fun w => allF fun d0 => S d0 (fun es => fb (capE Γ.length is ds ++ es.map Sl.sh)) [w, d0]
theorem ev_lam1 {S : D → (List D → Option D) → List D → Option D} {is : List Nat} {fb f2 : Ex} {Γ : DEnv} {ds : List D} {w r : D} (h1 : caps is Γ = some ds) (h2 : f2 Γ = some w) (h3 : ∀ d0, S d0 (fun es => fb (capE Γ.length is ds ++ es.map Sl.sh)) [d0, w] = some r) : gLam1 S is fb f2 Γ = some r := by
  unfold gLam1
  rw [h1, Option.bind_some, h2, Option.bind_some]
  exact allF_of fun _ _ _ _ _ => h3 _
theorem ev_lam2 {S : D → (List D → Option D) → List D → Option D} {is : List Nat} {fb f2 : Ex} {Γ : DEnv} {ds : List D} {w r : D} (h1 : caps is Γ = some ds) (h2 : f2 Γ = some w) (h3 : ∀ d0, S d0 (fun es => fb (capE Γ.length is ds ++ es.map Sl.sh)) [w, d0] = some r) : gLam2 S is fb f2 Γ = some r := by
  unfold gLam2
  rw [h1, Option.bind_some, h2, Option.bind_some]
  exact allF_of fun _ _ _ _ _ => h3 _
/-- a def that gets a function: the parameter a, in the slot fi, called with n arguments -/
structure CalF (P : Program) (w : World) (K : PySem.W.Frag) (mg : Str → Option Value) (base : Heap) (x : Str) (L : Nat) (Ng ps : List Str) (a : Str) (fi n : Nat) (st : Stmt) (B : D → (List D → Option D) → Sm) : Prop where
  ex : ∃ g fd, Fun K x x st g fd ∧ mg x = some (.ref g) ∧ PySem.W.keepIn K (.ref g) = true ∧ Binds K fd ps [] ∧ FnScope Ng ps (defScope st) ∧ Ng[fi]? = some a ∧ Vis (defScope st) a ∧ ps.length = 2 ∧
    ∀ (cdv : Value) (A : Around) (outer : List PySem.Env) (s : Shared) (H : Hp) (E : XK) (d0 : D) (F : List D → Option D), Room L (A.deeper (envOfC x (defScope st) s.heap.objs.size g cdv)) →
      Acts (cxOf CX0 P w K mg base Ng x (defScope st) g cdv A outer s H E).nox a fi n d0 F → Ss (cxOf CX0 P w K mg base Ng x (defScope st) g cdv A outer s H E).nox (defBody st) (B d0 F)
/-- what such a def makes of the lambda's reading -/
def TTd (K : PySem.W.Frag) (mg : Str → Option Value) (q : Str) (mkD : D → D → List D) (N : Nat) (B : D → (List D → Option D) → Sm) : (XK → List V → Hp → VK → Prop) → Addr → Addr → V → Hp → VK → Prop := fun tl f c' w H Q =>
  ∃ (G : Hp) (vs : List V) (ds : List D) (dw r : D) (F : List D → Option D), Same G H ∧ TC.ti.t G H ∧ G c' = some (CodeO c' q) ∧ RepL K mg G vs ds ∧ Rep K mg G w dw ∧
    (∀ (G' H' : Hp) (ws : List V) (es : List D) (r' : D) (Q' : VK), Same G' H' → TC.ti.t G' H' → RepL K mg G' vs ds → RepL K mg G' ws es → F es = some r' → (∀ G'' H'' v, Ext G' H' G'' H'' → Rep K mg G'' v r' → Q' v H'') → tl C8.E0 ws H' Q') ∧
    runB N (B (.fn f c' q vs ds) F) (mkD (.fn f c' q vs ds) dw) = some r ∧ ∀ G' H' v, Ext G H G' H' → Rep K mg G' v r → Q v H'
theorem gives_of {X : Cx} {Ng : List Str} {x a q : Str} {st : Stmt} {g : Addr} {cdg : Value} {fi n : Nat} {mk : V → V → List V} {mkD : D → D → List D} {B : D → (List D → Option D) → Sm} {k : Nat}
    (hmk : ∀ {K : PySem.W.Frag} {mg : Str → Option Value} {G : Hp} {f w : V} {d e : D}, Rep K mg G f d → Rep K mg G w e → RepL K mg G (mk f w) (mkD d e))
    (hr : ∀ s : Shared, Room k (X.A.deeper (envOfC x (defScope st) s.heap.objs.size g cdg)))
    (h : ∀ (cdv : Value) (A : Around) (outer : List PySem.Env) (s : Shared) (H : Hp) (E : XK) (d0 : D) (F : List D → Option D), Room k (A.deeper (envOfC x (defScope st) s.heap.objs.size g cdv)) →
      Acts (cxOf CX0 X.prog X.w X.K X.mg X.base Ng x (defScope st) g cdv A outer s H E).nox a fi n d0 F → Ss (cxOf CX0 X.prog X.w X.K X.mg X.base Ng x (defScope st) g cdv A outer s H E).nox (defBody st) (B d0 F)) :
    GivesTo1 X Ng x (defScope st) g cdg (defBody st) a fi q n mk (TTd X.K X.mg q mkD Ng.length B) := by
  intro f c' s H Q w tl act hc hT
  obtain ⟨G, vs, ds, dw, r, F, gh, tb, gc, rl, rw', hl, hB, k'⟩ := hT
  have rf : Rep X.K X.mg G (.ref f) (.fn f c' q vs ds) := .fn gc rl
  have ac : Acts (cxOf CX0 X.prog X.w X.K X.mg X.base Ng x (defScope st) g cdg X.A X.stack s H C8.E0).nox a fi n (.fn f c' q vs ds) F := by
    refine ⟨fun {e es fs p1 p2} ha he hpl => ?_⟩
    obtain ⟨ta, h1, h2⟩ := ha.a.ex
    have pe := act (fun _ _ _ _ => False) [] (fun _ _ => False) C8.E0 e es ta p1 p2 takes0 (fun _ _ _ _ z => z) h1 he hpl
    refine ⟨⟨_, pe, fun G0 H0 Z Γ σ G1 H1 Q1 d R hf k1 => ?_⟩⟩
    unfold gFn at hf
    split at hf
    · rename_i hd0
      obtain ⟨es', e1, hf⟩ := obind hf
      obtain ⟨v0, e2, r2⟩ := R.sh hd0
      cases r2 with
      | fn hc2 rl2 =>
        refine ⟨e2, h2 G0 H0 Z Γ σ G1 H1 _ es' R e1 fun G2 H2 ws x2 r3 => ⟨by rw [r3.length, ha.n Γ es' e1], x2.gh _ _ (x2.gg _ _ hc2), ?_⟩⟩
        exact hl G2 H2 ws es' d _ x2.gh ((R.ext x2).tbc) (rl2.mono x2.gg) r3 hf fun G3 H3 v x3 r4 => k1 G3 H3 v (x2.trans x3) r4
    · cases hf
  obtain ⟨t, h1, h2⟩ := (h cdg X.A X.stack s H C8.E0 (.fn f c' q vs ds) F (hr s) ac).ex
  refine ⟨t, h1, ?_⟩
  obtain ⟨r1, e1, hf⟩ := obind hB
  refine h2 G H _ _ _ G H _ r1 (start_rel gh tb (hmk rf rw')) e1 ?_
  cases r1 with
  | rt d' => cases hf; exact fun G' H' v x r => k' G' H' v x r
  | nx Γ => cases hf; exact fun σ' G' H' R => k' G' H' _ R.end .non
  | rm d s => cases hf
  | ro s => cases hf
  | bk Γ => cases hf
  | ct Γ => cases hf
/-- the name of a lambda in the def x -/
@[irreducible] def lamQ (x : Str) : Str := x ++ ".<locals>." ++ "<lambda>"
theorem lamq_of {CX : CXT} {P : Program} {w : World} {K : PySem.W.Frag} {mg : Str → Option Value} {base : Heap} {N : List Str} {x : Str} {sc : Scope} {f : Addr} {cd : Value} {A : Around} {outer : List Env} {s : Shared} {H : Hp} {E : XK} : (cxOf CX P w K mg base N x sc f cd A outer s H E).nox.env.qual ++ "<lambda>" = lamQ x := by
  unfold lamQ
  rfl
theorem e_lam1 {X : Cx} {x a : Str} {ps : List Str} {P c : Addr} {L k fi : Nat} {Ng : List Str} {st : Stmt} {B : D → (List D → Option D) → Sm} {params : Arguments} {body e2 : Expr} {scope : Scope} {prs : List Str} {fb f2 : Ex} {p lpos pos : Pos} (is : List Nat)
    (cf : CalF X.prog X.w X.K X.mg X.base x L Ng ps a fi prs.length st B) (TB : TabB X.base X.mg c P) (hcode : X.env.code = .ref c) {q : Str} (hq : X.env.qual ++ "<lambda>" = q) (T : TabHas P q) (hr : Room (k + 2) X.A) (hk : L ≤ k) (L1 : LamS1 X.env.scope scope prs)
    (hbody : ∀ (A : Around) (outer : List Env) (s : Shared) (H : Hp) (E' : XK) (f c' : Addr), Room k (A.deeper (lamEnv X scope s.heap.objs.size f c')) → E (lamCx1 X A outer s H E' scope prs f c') body fb)
    (h2 : E X e2 f2) (hpr : ∀ p ∈ prs, p ∉ X.N := by decide) (hdef : defaultsOf params X.env = ([], []) := by rfl)
    (hbind : ∀ (q : Str) (cl : List (Str × Addr)) (pm cv ctv : Value) (us : List Value), us.length = prs.length → bindArgs (PySem.W.kla_fn "<lambda>" q params body scope cl pm cv ctv) ⟨us, []⟩ = pure (prs.zip us))
    (hg : Gl X x := by rfl) (hs2 : starEach [e2] X.env = (false, eval e2 X.env) :: starEach [] X.env := by rfl) (hpl : (backTo pos (starEach [e2] X.env)).any (·.1) = false := by rfl)
    (hdb : (x == ("__debug__" : Str)) = false := by decide) (hd : (a == ("__debug__" : Str)) = false := by decide) (hcd : (a == ("__classdict__" : Str)) = false := by decide) :
    E X (.Call (.Name x p) [.Lambda params body scope lpos, e2] [] pos) (gLam1 (fun d0 F => runB Ng.length (B d0 F)) is fb f2) := by
  subst hq
  obtain ⟨g, fd, F, hm, hkp, hb, Sg, hNg, hva, hps, hB⟩ := cf.ex
  obtain ⟨⟨oc, od, kV, doc, pm, an, cdv, ct, osl, rfl, lk, hcd'⟩, _⟩ := F
  obtain ⟨t, t1, t2⟩ := h2.ex
  have hr2 : Room (k + 1 + 1) X.A := hr
  have pe := pe_lamcall1 (p := p) (lpos := lpos) (t := fun _ => tEx X.K X.mg fb) (t2 := tCons t tNil) hg hm hkp lk hcd' hb hps Sg hNg hva (gives_of (q := X.env.qual ++ "<lambda>") (mk := fun f w => [f, w]) (mkD := fun d e => [d, e]) (fun a b => .cons a (.cons b .nil)) (fun s => (hr2.deeper _).mono (Nat.le_succ_of_le hk)) hB) TB hcode hr L1 hpr hdef hbind (fun A outer s H E' f c' hr' => (hbody A outer s H E' f c' hr').pe) (pa_cons t1 pa_nil hs2) hpl hdb hd hcd
  refine ⟨⟨_, pe, fun G0 H0 Z Γ σ G H Q r R hf kk => ?_⟩⟩
  obtain ⟨ds, e1, hf⟩ := obind hf
  obtain ⟨w, e2, hf⟩ := obind hf
  have hall := allF_some hf
  obtain ⟨ts, hP, tri, kn⟩ := T.get G H R.tbc
  obtain ⟨vs, ca, rl⟩ := R.caught e1
  refine ⟨ts, ⟨hP, tri, fun pos cv hc => ?_⟩, fun H1 c' f gr _ => ?_⟩
  · obtain ⟨c0, a1, a2⟩ := kn pos cv hc
    exact ⟨c0, a1, R.gh _ _ a2⟩
  · obtain ⟨G1, x1, gc⟩ := T.ext R.gh R.tbc hP kn gr
    refine t2 G0 H0 Z Γ σ G1 H1 _ w (R.ext x1) e2 fun G2 H2 v x2 r2 => ?_
    refine ⟨v, rfl, x2.gh _ _ (x2.gg _ _ gc), G2, vs, ds, w, r, _, x2.gh, ((R.ext x1).ext x2).tbc, x2.gg _ _ gc, (rl.mono x1.gg).mono x2.gg, r2, fun G' H' ws es r' Q' gh tb rl' re hF k => ?_, hall _ _ _ _ _, fun G' H' v x3 r3 => kk G' H' v ((x1.trans x2).trans x3) r3⟩
    refine ⟨G', H', _, _, G', r', body_rel gh tb ca rl' re, ?_, k⟩
    rw [R.len]
    exact hF
theorem e_lam2 {X : Cx} {x a : Str} {ps : List Str} {P c : Addr} {L k fi : Nat} {Ng : List Str} {st : Stmt} {B : D → (List D → Option D) → Sm} {params : Arguments} {body e2 : Expr} {scope : Scope} {prs : List Str} {fb f2 : Ex} {p lpos pos : Pos} (is : List Nat)
    (cf : CalF X.prog X.w X.K X.mg X.base x L Ng ps a fi prs.length st B) (TB : TabB X.base X.mg c P) (hcode : X.env.code = .ref c) {q : Str} (hq : X.env.qual ++ "<lambda>" = q) (T : TabHas P q) (hr : Room (k + 2) X.A) (hk : L ≤ k) (L1 : LamS1 X.env.scope scope prs)
    (hbody : ∀ (A : Around) (outer : List Env) (s : Shared) (H : Hp) (E' : XK) (f c' : Addr), Room k (A.deeper (lamEnv X scope s.heap.objs.size f c')) → E (lamCx1 X A outer s H E' scope prs f c') body fb)
    (h2 : E X e2 f2) (hpr : ∀ p ∈ prs, p ∉ X.N := by decide) (hdef : defaultsOf params X.env = ([], []) := by rfl)
    (hbind : ∀ (q : Str) (cl : List (Str × Addr)) (pm cv ctv : Value) (us : List Value), us.length = prs.length → bindArgs (PySem.W.kla_fn "<lambda>" q params body scope cl pm cv ctv) ⟨us, []⟩ = pure (prs.zip us))
    (hg : Gl X x := by rfl) (hs2 : starEach [e2, .Lambda params body scope lpos] X.env = (false, eval e2 X.env) :: starEach [.Lambda params body scope lpos] X.env := by rfl)
    (hdb : (x == ("__debug__" : Str)) = false := by decide) (hd : (a == ("__debug__" : Str)) = false := by decide) (hcd : (a == ("__classdict__" : Str)) = false := by decide) :
    E X (.Call (.Name x p) [e2, .Lambda params body scope lpos] [] pos) (gLam2 (fun d0 F => runB Ng.length (B d0 F)) is fb f2) := by
  subst hq
  obtain ⟨g, fd, F, hm, hkp, hb, Sg, hNg, hva, hps, hB⟩ := cf.ex
  obtain ⟨⟨oc, od, kV, doc, pm, an, cdv, ct, osl, rfl, lk, hcd'⟩, _⟩ := F
  obtain ⟨t, t1, t2⟩ := h2.ex
  have hr2 : Room (k + 1 + 1) X.A := hr
  have pe := pe_lamcall2 (p := p) (lpos := lpos) (pos := pos) (t := fun _ => tEx X.K X.mg fb) hg hm hkp lk hcd' hb hps Sg hNg hva (gives_of (q := X.env.qual ++ "<lambda>") (mk := fun f w => [w, f]) (mkD := fun d e => [e, d]) (fun a b => .cons b (.cons a .nil)) (fun s => (hr2.deeper _).mono (Nat.le_succ_of_le hk)) hB) TB hcode hr L1 hpr hdef hbind (fun A outer s H E' f c' hr' => (hbody A outer s H E' f c' hr').pe) t1 hs2 hdb hd hcd
  refine ⟨⟨_, pe, fun G0 H0 Z Γ σ G H Q r R hf kk => ?_⟩⟩
  obtain ⟨ds, e1, hf⟩ := obind hf
  obtain ⟨w, e2, hf⟩ := obind hf
  have hall := allF_some hf
  refine t2 G0 H0 Z Γ σ G H _ w R e2 fun Ga Ha v x0 r2 => ?_
  have R0 := R.ext x0
  obtain ⟨ts, hP, tri, kn⟩ := T.get Ga Ha R0.tbc
  obtain ⟨vs, ca, rl⟩ := R0.caught e1
  refine ⟨ts, ⟨hP, tri, fun pos cv hc => ?_⟩, fun H1 c' f gr _ => ?_⟩
  · obtain ⟨c0, a1, a2⟩ := kn pos cv hc
    exact ⟨c0, a1, R0.gh _ _ a2⟩
  · obtain ⟨G1, x1, gc⟩ := T.ext R0.gh R0.tbc hP kn gr
    refine ⟨G1, vs, ds, w, r, _, x1.gh, (R0.ext x1).tbc, gc, rl.mono x1.gg, r2.mono x1.gg, fun G' H' ws es r' Q' gh tb rl' re hF k => ?_, hall _ _ _ _ _, fun G' H' v x3 r3 => kk G' H' v ((x0.trans x1).trans x3) r3⟩
    refine ⟨G', H', _, _, G', r', body_rel gh tb ca rl' re, ?_, k⟩
    rw [R.len]
    exact hF
end DL

namespace DL
open PySem L2 LamX PySem.Spec PyProof.Rows
/-! ### the tables of a program's lambdas -/
def tabI (T : List (Addr × Str)) : TabI where
  tz := fun a => ∃ p ∈ T, p.1 = a
  t := fun G H => ∀ p ∈ T, G p.1 = none ∧ ∃ ps : Array Value, H p.1 = some (.tbl ps) ∧ TriplesOk ps.toList ∧ ∀ (pos : Pos) (cv : Value), codeAmong pos ps.toList = some cv → ∃ c, cv = .ref c ∧ G c = some (CodeO c p.2)
  keep := fun {G H G' H'} t g k n p hp => by
    obtain ⟨h0, ps, h1, h2, h3⟩ := t p hp
    refine ⟨n _ ⟨p, hp, rfl⟩ h0, ps, by rw [k _ ⟨p, hp, rfl⟩]; exact h1, h2, fun pos cv hc => ?_⟩
    obtain ⟨c, e1, e2⟩ := h3 pos cv hc
    exact ⟨c, e1, g _ _ e2⟩
  live := fun {G H} t a ⟨p, hp, e⟩ => by
    obtain ⟨h0, ps, h1, _⟩ := t p hp
    subst e
    exact ⟨by rw [h1]; simp, h0⟩
  tbl := fun {G H} t a ⟨p, hp, e⟩ => by
    obtain ⟨h0, ps, h1, _⟩ := t p hp
    subst e
    exact ⟨ps, h1⟩
  less := fun {G G' H} t s k p hp => by
    obtain ⟨h0, ps, h1, h2, h3⟩ := t p hp
    refine ⟨?_, ps, h1, h2, fun pos cv hc => ?_⟩
    · cases q : G' p.1 with
      | none => rfl
      | some o => rw [s _ _ q] at h0; cases h0
    · obtain ⟨c, e1, e2⟩ := h3 pos cv hc
      refine ⟨c, e1, ?_⟩
      rcases k _ _ e2 with z | z
      · exact z
      · rcases z with ⟨vs, z⟩ | ⟨C, dx, fs, z⟩ | ⟨kvs, z⟩ <;> cases z
abbrev tabCx (T : List (Addr × Str)) : TabCtx := ⟨tabI T⟩
theorem tabHas {T : List (Addr × Str)} {P : Addr} {q : Str} (hm : (P, q) ∈ T) (nd : (T.map (·.1)).Nodup) : @TabHas (tabCx T) P q := by
  have uniq : ∀ p ∈ T, p.1 = P → p.2 = q := fun p hp e => by
    have key : ∀ (T : List (Addr × Str)), (T.map (·.1)).Nodup → ∀ p1 ∈ T, ∀ p2 ∈ T, p1.1 = p2.1 → p1 = p2 := fun T => by
      induction T with
      | nil => intro _ p1 h; cases h
      | cons x T ih =>
        intro nd p1 h1 p2 h2 e
        rw [List.map_cons, List.nodup_cons] at nd
        rcases List.mem_cons.mp h1 with a | a <;> rcases List.mem_cons.mp h2 with b | b
        · rw [a, b]
        · subst a; exact absurd (List.mem_map.mpr ⟨p2, b, e.symm⟩) nd.1
        · subst b; exact absurd (List.mem_map.mpr ⟨p1, a, e⟩) nd.1
        · exact ih nd.2 p1 a p2 b e
    rw [key T nd p hp (P, q) hm e]
  refine @TabHas.mk (tabCx T) P q (fun G H t => ?_) (fun G H t => (t _ hm).1) fun G H ps c' pos gh t hP hn p hp => ?_
  · obtain ⟨_, ps, h⟩ := t _ hm
    exact ⟨ps, h⟩
  · obtain ⟨g0, ps1, h1, h2, h3⟩ := t p hp
    have gn : G c' = none := gh.free hn
    have nc : p.1 ≠ c' := ne_of_none h1 hn
    by_cases e : p.1 = P
    · rw [e] at h1 g0 nc ⊢
      rw [hP] at h1
      cases h1
      have eL : (ps ++ #[rawInt pos.line, rawInt pos.col, .ref c']).toList = ps.toList ++ [rawInt pos.line, rawInt pos.col, .ref c'] := by simp
      refine ⟨by rw [upd_ne nc]; exact g0, _, by rw [upd_ne nc, upd_same], by rw [eL]; exact PySem.TriplesOk_snoc _ _ _ _ h2, fun p' cv hc => ?_⟩
      rw [eL] at hc
      rcases among_app _ h2 hc with z | z
      · obtain ⟨c0, e1, e2⟩ := h3 p' cv z
        exact ⟨c0, e1, by rw [upd_ne (ne_of_none e2 gn)]; exact e2⟩
      · exact ⟨c', z, by rw [upd_same, uniq p hp e]⟩
    · refine ⟨by rw [upd_ne nc]; exact g0, ps1, by rw [upd_ne nc, upd_ne e]; exact h1, h2, fun p' cv hc => ?_⟩
      obtain ⟨c0, e1, e2⟩ := h3 p' cv hc
      exact ⟨c0, e1, by rw [upd_ne (ne_of_none e2 gn)]; exact e2⟩
/-! ### a def whose code object is known -/
section
variable {P : Program} {w : World} {K : PySem.W.Frag} {mg : Str → Option Value} {base : Heap}
theorem Fun.okC {x qual : Str} {st : Stmt} {f c : Addr} {fd : FuncData} {N ps : List Str} {k : Nat} {sp : Sp} (F : Fun K x qual st f fd) (hcode : fd.code = .ref c) (S : FnScope N ps (defScope st)) (len : ∀ vs H Q E, sp vs H Q E → vs.length = ps.length)
    (hbody : ∀ (A : Around) (outer : List Env) (s : Shared) (H : Hp) (vs : List V) (Q : VK) (E : XK), Room k (A.deeper (envOfC qual (defScope st) s.heap.objs.size f (.ref c))) → sp vs H Q E →
      ∃ t, PSs (cxOf CX0 P w K mg base N qual (defScope st) f (.ref c) A outer s H E).nox (defBody st) t ∧ t { nx := fun _ H' => Q .non H', rt := Q } (start N vs) H) : FnOk P w K mg base CX0 (k + 1) f fd ps sp := by
  obtain ⟨⟨oc, od, kV, doc, pm, an, cdv, ct, osl, rfl, lk, hcd⟩, _⟩ := F
  have e : cdv = .ref c := hcode
  subst e
  refine fn_of lk hcd S len fun A outer s H vs Q E hr hsp => ?_
  obtain ⟨t, h, q⟩ := hbody A outer s H vs Q E hr hsp
  exact ⟨t, h.nox, q⟩
variable [TC : TabCtx]
theorem def_okC {x qual : Str} {st : Stmt} {f c : Addr} {fd : FuncData} {N ps : List Str} {k : Nat} {B : Sm} (F : Fun K x qual st f fd) (hcode : fd.code = .ref c) (S : FnScope N ps (defScope st))
    (hbody : ∀ (A : Around) (outer : List PySem.Env) (s : Shared) (H : Hp) (E : XK), Room k (A.deeper (PyProof.Rows.envOfC qual (defScope st) s.heap.objs.size f (.ref c))) →
      Ss (cxOf CX0 P w K mg base N qual (defScope st) f (.ref c) A outer s H E).nox (defBody st) B) : FnOk P w K mg base CX0 (k + 1) f fd ps (spD K mg ps.length (runB N.length B)) := by
  refine Fun.okC F hcode S (fun vs H Q E h => ?_) (fun A outer s H vs Q E hr h => ?_)
  · obtain ⟨G, ds, d, hl, _⟩ := h
    exact hl
  · obtain ⟨G, ds, d, hl, gh, tb, r, hf, k'⟩ := h
    obtain ⟨t, h1, h2⟩ := (hbody A outer s H E hr).ex
    refine ⟨t, h1, ?_⟩
    obtain ⟨r1, e1, hf⟩ := obind hf
    refine h2 G H _ _ _ G H _ r1 (start_rel gh tb r) e1 ?_
    cases r1 with
    | rt d' => cases hf; exact fun G' H' v x r => k' G' H' v x r
    | nx Γ => cases hf; exact fun σ' G' H' R => k' G' H' _ R.end .non
    | rm d s => cases hf
    | ro s => cases hf
    | bk Γ => cases hf
    | ct Γ => cases hf
theorem def_okNC {x qual : Str} {st : Stmt} {f c : Addr} {fd : FuncData} {N ps : List Str} {k : Nat} {B : Sm} (F : Fun K x qual st f fd) (hcode : fd.code = .ref c) (S : FnScope N ps (defScope st))
    (hbody : ∀ (A : Around) (outer : List PySem.Env) (s : Shared) (H : Hp) (E : XK), Room k (A.deeper (PyProof.Rows.envOfC qual (defScope st) s.heap.objs.size f (.ref c))) →
      Ss (cxOf CX0 P w K mg base N qual (defScope st) f (.ref c) A outer s H E).nox (defBody st) B) : FnOk P w K mg base CX0 (k + 1) f fd ps (spN K mg ps.length (runN N.length B)) := by
  refine Fun.okC F hcode S (fun vs H Q E h => ?_) (fun A outer s H vs Q E hr h => ?_)
  · obtain ⟨G, ds, d, hl, _⟩ := h
    exact hl
  · obtain ⟨G, ds, sl, hl, gh, tb, r, hf, k'⟩ := h
    obtain ⟨t, h1, h2⟩ := (hbody A outer s H E hr).ex
    refine ⟨t, h1, ?_⟩
    obtain ⟨r1, e1, hf⟩ := obind hf
    refine h2 G H _ _ _ G H _ r1 (start_rel gh tb r) e1 ?_
    cases r1 with
    | rt d' => cases hf; exact fun G' H' v x r => k' G' H' v (fun _ => False) x (.sh r) fun _ z => z.elim
    | ro s' => cases hf; exact fun G' H' v F' x h f => k' G' H' v F' x h f
    | nx Γ => cases hf; exact fun σ' G' H' R => k' G' H' _ (fun _ => False) R.end (.sh .non) fun _ z => z.elim
    | rm d s => cases hf
    | bk Γ => cases hf
    | ct Γ => cases hf
end
/-! ### the law's own start, with tables -/
def spLawT (K : PySem.W.Frag) (T : List (Addr × Str)) : Sp := fun vs H Q _ => ∃ (a : Addr) (ns : List Int), vs = [.ref a] ∧ SqL K H a (ns.map V.int) ∧ ns.length ≤ 63 ∧ (∀ p ∈ T, H p.1 = some (.tbl #[])) ∧ ∀ H', Q (.bl true) H'
theorem law_startT {P : Program} {w : World} {K : PySem.W.Frag} {mg : Str → Option Value} {base : Heap} {k : Nat} {fa : Addr} {fd : FuncData} {x : Str} {S : List D → Option D} (T : List (Addr × Str))
    (h : @FnOk P w K mg base CX0 k fa fd [x] (@spD (tabCx T) K mg 1 S)) (hS : ∀ ns : List Int, ns.length ≤ 63 → S [.scr ns] = some (.bl true)) : FnOk P w K mg base CX0 k fa fd [x] (spLawT K T) := by
  refine h.imp fun vs H Q E ⟨a, ns, e, hs, hl, hT, kk⟩ => ?_
  subst e
  let G : Hp := fun b => if b ∈ T.map (·.1) then none else H b
  have gh : Same G H := fun b o e => by
    have e : (if b ∈ T.map (·.1) then none else H b) = some o := e
    split at e
    · cases e
    · exact e
  have gt : ∀ p ∈ T, G p.1 = none := fun p hp => if_pos (List.mem_map.mpr ⟨p, hp, rfl⟩)
  have go : ∀ b o, H b = some o → (∀ ps, o ≠ .tbl ps) → G b = some o := fun b o e n => by
    refine (if_neg fun z => ?_).trans e
    obtain ⟨p, hp, ep⟩ := List.mem_map.mp z
    have := hT p hp
    rw [ep, e] at this
    cases this
    exact n _ rfl
  have hs' : SqL K G a (ns.map V.int) := by
    rcases hs with (q | ⟨o, q⟩) | q
    · exact .inl (.inl (go _ _ q nofun))
    · exact .inl (.inr ⟨o, go _ _ q nofun⟩)
    · exact .inr q
  refine ⟨G, [.scr ns], .bl true, rfl, gh, fun p hp => ⟨gt p hp, #[], hT p hp, True.intro, fun pos cv hc => ?_⟩, .cons (.scr hs') .nil, hS ns hl, fun G' H' v x r => by cases r; exact kk H'⟩
  have z : codeAmong pos [] = some cv := hc
  simp [codeAmong] at z
end DL

namespace DL
open PySem L2
variable [TC : TabCtx]
/-! ### an object that is new is written, and forgotten -/
theorem Ext.put {G H G1 H1 : Hp} {p : Addr} {o : HO} (x : Ext G H G1 H1) (hp : H p = Option.none) (gp : G1 p = Option.none) : Ext G H G1 (upd H1 p o) :=
  ⟨x.gg, fun a u q n => by rw [upd_ne (ne_of_none q hp)]; exact x.hh a u q n, fun a u q => by rw [upd_ne (ne_of_none q gp)]; exact x.gh a u q, x.new, fun a h => by
    by_cases z : a = p
    · subst z; rw [upd_same]; simp
    · rw [upd_ne z]; exact x.hn a h, fun t => TC.ti.keep (x.tb t) (Same.refl _) (fun a h => upd_ne (fun z => (TC.ti.live t a h).1 (by rw [z]; exact hp))) (fun _ _ g => g)⟩
section
variable {K : PySem.W.Frag} {mg : Str → Option Value} {G H : Hp}
theorem HdL.get : ∀ {vs : List V} {F : Addr → Prop} {ss : List Sl} (i : Nat) {s : Sl}, HdL K mg G H vs F ss → ss[i]? = some s → ∃ v F1, vs[i]? = some v ∧ Hd K mg G H v F1 s ∧ ∀ a, F1 a → F a
  | _, _, _, _, _, .nil, h => by simp at h
  | _, _, _, 0, _, .cons h r s1 s2 d, e => by simp at e; subst e; exact ⟨_, _, rfl, h, s1⟩
  | _, _, _, i + 1, _, .cons h r s1 s2 d, e => by
    obtain ⟨v, F1, e1, e2, e3⟩ := HdL.get i r (by simpa using e)
    exact ⟨v, F1, by simpa using e1, e2, fun a x => s2 a (e3 a x)⟩
theorem HdL.snocU : ∀ {vs : List V} {F F1 : Addr → Prop} {ss : List Sl} {v : V} {s : Sl}, HdL K mg G H vs F ss → Hd K mg G H v F1 s → (∀ a, F1 a → ¬ F a) → HdL K mg G H (vs ++ [v]) (fun a => F a ∨ F1 a) (ss ++ [s])
  | _, _, _, _, _, _, .nil, q, _ => .cons q (HdL.nil (F := fun _ => False)) (fun _ x => .inr x) (fun _ x => x.elim) (fun _ _ x => x)
  | _, _, _, _, _, _, .cons h r s1 s2 d, q, dj => by
    refine .cons h (HdL.snocU r q fun a x y => dj a x (s2 a y)) (fun a x => .inl (s1 a x)) (fun a x => ?_) fun a x y => ?_
    · rcases x with x | x
      · exact .inl (s2 a x)
      · exact .inr x
    · rcases y with y | y
      · exact d a x y
      · exact dj a y (s1 a x)
end
section
variable {X : Cx} {e o : Expr} {f : Ex} {sx : Sx} {pos pos' : Pos}
def sAppX (sx : Sx) (f : Ex) : Sm := fun Γ => (sx Γ).bind fun s => match s with
  | .ow xs => (f Γ).bind fun _ => if xs.length < 1000000 then some (.nx Γ) else none
  | _ => none
/-- o.append(e), o being new -/
theorem s_appX {ap : Pos} (ho : EN X o sx) (he : E X e f) (hst : starEach [e] X.env = (false, eval e X.env) :: starEach [] X.env := by rfl)
    (hpe : ∀ {r : V → List V → Hp → VK → Prop} {to te : TE}, MtR X "list.append" r → PE X o to → PE X e te → PE X (.Call (.Attribute o "append" ap) [e] [] pos) (tBM X.K "list" r to (tCons te tNil)) := by intro r to te hm ho hp; exact pe_bm PySem.F.plainAttrs_list PySem.F.slot_list_append PySem.F.type_list_append hm ho (pa_cons hp pa_nil))
    (hs : swapsWith (.Call (.Attribute o "append" ap) [e] [] pos) none pos'.line X.env = pure false := by rfl) : S X (.Expr (.Call (.Attribute o "append" ap) [e] [] pos) pos') (sAppX sx f) := by
  obtain ⟨t, h1, h2⟩ := he.ex
  obtain ⟨u, u1, u2⟩ := ho.ex
  refine ⟨⟨_, ps_expr (hpe mt_append u1 h1) hs, fun G0 H0 Z Γ σ G H D r R hf k => ?_⟩⟩
  obtain ⟨s, e1, hf⟩ := obind hf
  cases s with
  | ow xs =>
    obtain ⟨d, e2, hf⟩ := obind hf
    split at hf
    · rename_i hl
      cases hf
      refine u2 G0 H0 Z Γ σ G H _ _ R e1 fun G1 H1 v F x1 r1 fr => ?_
      cases r1 with
      | ow fp hp rl =>
        rename_i p vs
        obtain ⟨g1, g2, g3⟩ := fr p fp
        refine ⟨.inl ⟨rfl, _, SqL.of hp⟩, ?_⟩
        refine h2 G0 H0 Z Γ σ G1 H1 _ d (R.ext x1) e2 fun G2 H2 w x2 r2 => ?_
        refine ⟨p, vs, w, rfl, rfl, x2.hh _ _ hp nofun, ?_, ?_⟩
        · rw [rl.length]; exact Nat.lt_of_lt_of_le hl line_big
        · exact k σ G2 _ (R.ext ((x1.trans x2).put g2 (x2.none g1 g3)))
    · cases hf
  | _ => cases hf
def sAppXi (sx : Sx) (i : Int) (f : Ex) : Sm := fun Γ => (sx Γ).bind fun s => match s with
  | .ol ss => (atI ss i).bind fun s => match s with
    | .ow xs => (f Γ).bind fun _ => if xs.length < 1000000 then some (.nx Γ) else none
    | _ => none
  | _ => none
theorem atI_nth {α β : Type} {xs : List α} {ys : List β} (hl : xs.length = ys.length) {i : Int} {y : β} (h : atI ys i = some y) : ∃ n : Nat, ys[n]? = some y ∧ atI xs i = xs[n]? := by
  unfold atI at h ⊢
  rw [← hl] at h
  obtain ⟨n, e, h⟩ := obind h
  exact ⟨n, h, by rw [e]; rfl⟩
/-- o[i].append(e), o being new -/
theorem s_appXi {ap sp : Pos} {i : Int} {b : Expr} (ho : EN X o sx) (hb : E X b (gI i)) (he : E X e f) (hs2 : PlainIx b := by exact fun _ _ => rfl) (hst : starEach [e] X.env = (false, eval e X.env) :: starEach [] X.env := by rfl)
    (hpe : ∀ {r : V → List V → Hp → VK → Prop} {to te : TE}, MtR X "list.append" r → PE X (.Subscript o b sp) to → PE X e te → PE X (.Call (.Attribute (.Subscript o b sp) "append" ap) [e] [] pos) (tBM X.K "list" r to (tCons te tNil)) := by intro r to te hm ho hp; exact pe_bm PySem.F.plainAttrs_list PySem.F.slot_list_append PySem.F.type_list_append hm ho (pa_cons hp pa_nil))
    (hs : swapsWith (.Call (.Attribute (.Subscript o b sp) "append" ap) [e] [] pos) none pos'.line X.env = pure false := by rfl) : S X (.Expr (.Call (.Attribute (.Subscript o b sp) "append" ap) [e] [] pos) pos') (sAppXi sx i f) := by
  obtain ⟨t, h1, h2⟩ := he.ex
  obtain ⟨u, u1, u2⟩ := ho.ex
  obtain ⟨y, y1, y2⟩ := hb.ex
  refine ⟨⟨_, ps_expr (hpe mt_append (pe_ix ix_seq u1 y1 hs2) h1) hs, fun G0 H0 Z Γ σ G H D r R hf k => ?_⟩⟩
  obtain ⟨s, e1, hf⟩ := obind hf
  cases s with
  | ol ss =>
    obtain ⟨s1, e3, hf⟩ := obind hf
    cases s1 with
    | ow xs =>
      obtain ⟨d, e2, hf⟩ := obind hf
      split at hf
      · rename_i hl
        cases hf
        refine u2 G0 H0 Z Γ σ G H _ _ R e1 fun G1 H1 v F x1 r1 fr => ?_
        cases r1 with
        | ol fp hp n sF rl =>
          rename_i p vs F'
          refine y2 G0 H0 Z Γ σ G1 H1 _ _ (R.ext x1) rfl fun G2 H2 w x2 r2 => ?_
          have ew : w = .int i := by cases r2; rfl
          subst ew
          obtain ⟨n, n1, n2⟩ := atI_nth rl.length e3
          obtain ⟨v1, F1, w1, w2, w3⟩ := rl.get n n1
          have hp2 := x2.hh _ _ hp nofun
          refine .inl ⟨p, vs, i, v1, rfl, rfl, SqL.of hp2, n2.trans w1, ?_⟩
          have w2' := w2.mono x2.gg (fun a o _ q n => x2.hh a o q n)
          cases w2' with
          | ow fq hq rq =>
            rename_i q ws
            obtain ⟨g1, g2, g3⟩ := fr q (sF q (w3 q fq))
            have g1' := x2.none g1 g3
            refine ⟨.inl ⟨rfl, _, SqL.of hq⟩, ?_⟩
            refine h2 G0 H0 Z Γ σ G2 H2 _ d ((R.ext x1).ext x2) e2 fun G3 H3 w x3 r3 => ?_
            refine ⟨q, ws, w, rfl, rfl, x3.hh _ _ hq nofun, ?_, ?_⟩
            · rw [rq.length]; exact Nat.lt_of_lt_of_le hl line_big
            · exact k σ G3 _ (R.ext (((x1.trans x2).trans x3).put g2 (x3.none g1' (by rw [hq]; simp))))
      · cases hf
    | _ => cases hf
  | _ => cases hf
end
/-! ### methods that give a new thing; their arguments looked at or data -/
def spKN (K : PySem.W.Frag) (mg : Str → Option Value) (ms : List Bool) (F : List D → Option Sl) : Sp := fun vs H Q _ =>
  ∃ G ds s, Same G H ∧ TC.ti.t G H ∧ RepM K mg G H ms vs ds ∧ F ds = some s ∧ ∀ G' H' v F', Ext G H G' H' → Hd K mg G' H' v F' s → (∀ a, F' a → G' a = none ∧ H a = none ∧ H' a ≠ none) → Q v H'
def runKN (ms : List Bool) (n : Nat) (F : Sm) : List D → Option Sl := fun ds => (F (slM ms ds ++ List.replicate (n - ms.length) .no)).bind fun r => match r with
  | .rt d => some (.sh d)
  | .ro s => some s
  | .nx _ => some (.sh .non)
  | _ => none
section
variable {P : Program} {w : World} {K : PySem.W.Frag} {mg : Str → Option Value} {base : Heap}
theorem def_okKN {x qual : Str} {st : Stmt} {f : Addr} {fd : FuncData} {N ps : List Str} {k : Nat} {B : Sm} {ms : List Bool} (F : Fun K x qual st f fd) (S : FnScope N ps (defScope st)) (hms : ms.length = ps.length)
    (hbody : ∀ (cdv : Value) (A : Around) (outer : List PySem.Env) (s : Shared) (H : Hp) (E : XK), Room k (A.deeper (PyProof.Rows.envOfC qual (defScope st) s.heap.objs.size f cdv)) →
      Ss (cxOf CX0 P w K mg base N qual (defScope st) f cdv A outer s H E).nox (defBody st) B) : FnOk P w K mg base CX0 (k + 1) f fd ps (spKN K mg ms (runKN ms N.length B)) := by
  refine F.ok S (fun vs H Q E h => ?_) (fun cdv A outer s H vs Q E hr h => ?_)
  · obtain ⟨G, ds, d, gh, _, r, _⟩ := h
    rw [r.len.1, hms]
  · obtain ⟨G, ds, sl, gh, tb, r, hf, k'⟩ := h
    obtain ⟨t, h1, h2⟩ := (hbody cdv A outer s H E hr).ex
    refine ⟨t, h1, ?_⟩
    obtain ⟨r1, e1, hf⟩ := obind hf
    refine h2 G H _ _ _ G H _ r1 (startK_rel gh tb r) e1 ?_
    cases r1 with
    | rt d' => cases hf; exact fun G' H' v x r => k' G' H' v (fun _ => False) x (.sh r) fun _ z => z.elim
    | ro s' => cases hf; exact fun G' H' v F' x h f => k' G' H' v F' x h f
    | nx Γ => cases hf; exact fun σ' G' H' R => k' G' H' _ (fun _ => False) R.end (.sh .non) fun _ z => z.elim
    | rm d s => cases hf
    | bk Γ => cases hf
    | ct Γ => cases hf
end
structure MetKN (P : Program) (w : World) (K : PySem.W.Frag) (mg : Str → Option Value) (base : Heap) (c : Nat) (m : Str) (L : Nat) (ps : List Str) (ms : List Bool) (S : List D → Option Sl) : Prop where
  ex : ∃ C f fd, CK K mg c C ∧ Meth K C m f ∧ FnOk P w K mg base CX0 L f fd ps (spKN K mg ms S) ∧ Binds K fd ps []
def gMethN (c : Nat) (F : List D → Option Sl) (f : Ex) (fs : Ag) : Sx := fun Γ => (f Γ).bind fun d => match d with
  | .obj c' vs => if c' = c then (fs Γ).bind fun ds => F (.obj c' vs :: ds) else none
  | _ => none
section
variable {X : Cx} {e a b o : Expr} {es : List Expr} {f g : Ex} {fs : Ag} {pos : Pos} {ms : List Bool}
theorem e_metKN {pl : Sem Bool} {c k L : Nat} {ps : List Str} {S : List D → Option Sl} {m : Str} {apos : Pos} (mt : MetKN X.prog X.w X.K X.mg X.base c m L ps (true :: ms) S) (hr : Room k X.A) (hk : L ≤ k)
    (ho : B X o f) (ha : AM X (a :: es) ms fs) (hno : m ∉ cF c := by decide +kernel)
    (hst : starEach (a :: es) X.env = (false, eval a X.env) :: starEach es X.env := by rfl) (hpl : (backTo pos (starEach es X.env)).any (·.1) = false := by rfl)
    (ht : eval (.Call (.Attribute o m apos) (a :: es) [] pos) X.env = (do
      let ov ← eval o X.env
      standAt apos.atName
      let (f, first) ← holding [ov] (getMethod ov m pl)
      callWith pos f first (backTo pos (starEach (a :: es) X.env)) (backToKw pos (keywordEach [] X.env))) := by rfl) : EN X (.Call (.Attribute o m apos) (a :: es) [] pos) (gMethN c S f fs) := by
  obtain ⟨C, fa, fd, ck, hme, FO, hb⟩ := mt.ex
  obtain ⟨t, h1, h2⟩ := ha.ex
  obtain ⟨u, q1, q2⟩ := ho.ex
  refine ⟨⟨_, pe_meth q1 ck.cl hme FO (hr.mono hk) hb .nil pass0 h1 hst hpl ht, fun G0 H0 Z Γ σ G H Q d R hf k => ?_⟩⟩
  obtain ⟨y, e1, hv⟩ := obind hf
  cases y with
  | obj c' vs' =>
    replace hv : (if c' = c then (fs Γ).bind fun ds => S (.obj c' vs' :: ds) else none) = some d := hv
    split at hv
    · rename_i cz
      subst cz
      obtain ⟨ds, e2, hv⟩ := obind hv
      refine q2 G0 H0 Z Γ σ G H _ _ R e1 fun G1 H1 v x1 r1 => ?_
      obtain ⟨p, C', dx, ws, rfl, hm', hp, _⟩ := r1.objAt x1.gh
      rw [ck.hm] at hm'
      cases hm'
      refine ⟨_, _, _, rfl, hp, zip_lookup_none hno, ?_⟩
      refine h2 G0 H0 Z Γ σ G1 H1 _ _ (R.ext x1) e2 fun G2 H2 vs x2 r2 => ?_
      refine ⟨G2, _, d, x2.gh, ((R.ext x1).ext x2).tbc, .bo (r1.ext x2) (by rw [List.append_nil]; exact r2), hv, fun G' H' v F' x3 r3 f3 => k G' H' v F' ((x1.trans x2).trans x3) r3 fun b y => ?_⟩
      obtain ⟨w1, w2, w3⟩ := f3 b y
      exact ⟨w1, (x1.trans x2).hf w2, w3⟩
    · cases hv
  | _ => cases hv
theorem e_metKN0 {pl : Sem Bool} {c k L : Nat} {ps : List Str} {S : List D → Option Sl} {m : Str} {apos : Pos} (mt : MetKN X.prog X.w X.K X.mg X.base c m L ps [true] S) (hr : Room k X.A) (hk : L ≤ k)
    (ho : B X o f) (hno : m ∉ cF c := by decide +kernel)
    (ht : eval (.Call (.Attribute o m apos) [] [] pos) X.env = (do
      let ov ← eval o X.env
      standAt apos.atName
      let (f, first) ← holding [ov] (getMethod ov m pl)
      callWith pos f first (backTo pos (starEach [] X.env)) (backToKw pos (keywordEach [] X.env))) := by rfl) : EN X (.Call (.Attribute o m apos) [] [] pos) (gMethN c S f aN) := by
  obtain ⟨C, fa, fd, ck, hme, FO, hb⟩ := mt.ex
  obtain ⟨u, q1, q2⟩ := ho.ex
  refine ⟨⟨_, pe_meth0 q1 ck.cl hme FO (hr.mono hk) hb .nil pass0 ht, fun G0 H0 Z Γ σ G H Q d R hf k => ?_⟩⟩
  obtain ⟨y, e1, hv⟩ := obind hf
  cases y with
  | obj c' vs' =>
    replace hv : (if c' = c then (aN Γ).bind fun ds => S (.obj c' vs' :: ds) else none) = some d := hv
    split at hv
    · rename_i cz
      subst cz
      obtain ⟨ds, e2, hv⟩ := obind hv
      cases e2
      refine q2 G0 H0 Z Γ σ G H _ _ R e1 fun G1 H1 v x1 r1 => ?_
      obtain ⟨p, C', dx, ws, rfl, hm', hp, _⟩ := r1.objAt x1.gh
      rw [ck.hm] at hm'
      cases hm'
      refine ⟨_, _, _, rfl, hp, zip_lookup_none hno, ?_⟩
      refine ⟨G1, _, d, x1.gh, (R.ext x1).tbc, .bo r1 .nil, hv, fun G' H' v F' x3 r3 f3 => k G' H' v F' (x1.trans x3) r3 fun b y => ?_⟩
      obtain ⟨w1, w2, w3⟩ := f3 b y
      exact ⟨w1, x1.hf w2, w3⟩
    · cases hv
  | _ => cases hv
end
/-! ### a list of new things -/
def tNx (K : PySem.W.Frag) (mg : Str → Option Value) (f : Sx) : TE := fun σ H Q => ∃ G0 H0 Z Γ G s, Rel K mg G0 H0 Z Γ σ G H ∧ f Γ = some s ∧ ∀ G' H' v F, Ext G H G' H' → Hd K mg G' H' v F s → (∀ a, F a → G' a = none ∧ H a = none ∧ H' a ≠ none) → Q v H'
theorem EN.pe {X : Cx} {e : Expr} {f : Sx} (h : EN X e f) : PE X e (tNx X.K X.mg f) := by
  obtain ⟨t, h1, h2⟩ := h.ex
  exact ⟨fun pins s σ H Q I ⟨G0, H0, Z, Γ, G, d, R, hf, k⟩ => h1.run pins s σ H Q I (h2 G0 H0 Z Γ σ G H Q d R hf k)⟩
def compLN (g : Gs) (t : Te) (e : Sx) : List D → DEnv → Option (List Sl)
  | [], _ => some []
  | d :: ds, Γ => (g d Γ).bind fun Γ1 => (t Γ1).bind fun b => if b then (e Γ1).bind fun y => (compLN g t e ds Γ).bind fun r => some (y :: r) else compLN g t e ds Γ
def gLcN (own : List Nat) (it : Ag) (g : Gs) (t : Te) (e : Sx) : Sx := fun Γ => (it Γ).bind fun ds => if ds.length < 1000000 then (compLN g t e ds (wipeE Γ own)).bind fun ss => some (.ol ss) else none
theorem lc_runN {K : PySem.W.Frag} {mg : Str → Option Value} {own : List (Str × Nat)} {it : Ag} {p : Te} {wi : TI} {ix : List Nat} {g : Gs} {f : Sx} (hix : ∀ i ∈ ix, i ∈ own.map (·.2))
    (hw : ∀ G0 H0 Z Γ σ G H R ds, Rel K mg G0 H0 Z Γ σ G H → it Γ = some ds → (∀ G' H' J, Ext G H G' H' → ItmB K mg J G' H' ds → R J H') → wi σ H R)
    {G0 H0 : Hp} {Z : Zs} {Γ : DEnv} {σ : L2.St} {G H : Hp} {Q : VK} {sl : Sl} (R : Rel K mg G0 H0 Z Γ σ G H) (hf : gLcN (own.map (·.2)) it g p f Γ = some sl)
    (k : ∀ G' H' v F, Ext G H G' H' → Hd K mg G' H' v F sl → (∀ a, F a → G' a = none ∧ H a = none ∧ H' a ≠ none) → Q v H') :
    tLc wi (tGx K mg ix g) (tTx K mg p) (tNx K mg f) (own.map (·.2)) σ H Q := by
  obtain ⟨items, e1, hf⟩ := obind hf
  split at hf
  · rename_i hlen
    obtain ⟨ds, hf2, es⟩ := obind hf
    cases es
    refine hw G0 H0 Z Γ σ G H _ items R e1 fun G1 H1 J x1 hJ D hD => ?_
    have R1 := R.ext x1
    have ntD : ¬ Z.t.tz D := fun h => R1.zz _ (R1.tz _ h) hD
    refine ⟨fun i m Hc => m = items.length - i ∧ i ≤ items.length ∧ ∃ Gc acc dacc rest Fa, Ext G1 H1 Gc Hc ∧ Gc D = none ∧ Hc D = some (.lst acc) ∧ acc.length ≤ i ∧ HdL K mg Gc Hc acc Fa dacc ∧ (∀ a, Fa a → Gc a = none ∧ H1 a = none ∧ Hc a ≠ none ∧ a ≠ D) ∧ Rel K mg G0 H0 ⟨fun a => Z.z a ∨ a = D, Z.a, Z.t⟩ (wipeE Γ (own.map (·.2))) (L2.wipe σ (own.map (·.2))) Gc Hc ∧
      compLN g p f (items.drop i) (wipeE Γ (own.map (·.2))) = some rest ∧ dacc ++ rest = ds, ⟨items.length, ?_⟩, ?_⟩
    · exact ⟨by simp, Nat.zero_le _, G1, [], [], ds, fun _ => False, Ext.own1 x1.gh hD, x1.gh.free hD, upd_same, Nat.le_refl _, .nil, fun _ z => z.elim, (R1.wipe (own.map (·.2))).zput hD, by simpa using hf2, rfl⟩
    · rintro i m Hc ⟨rfl, hi, Gc, acc, dacc, rest, Fa, xc, gD, hcD, la, ra, fa, Rc, hr, hds⟩
      obtain ⟨st, go⟩ := hJ i Gc Hc xc.gg xc.gh xc.hh
      have nn : ∀ {H : Hp}, H D = some (.lst acc) → H D ≠ none := fun e => by rw [e]; simp
      by_cases hlt : i < items.length
      · have hd : items.drop i = items[i] :: items.drop (i + 1) := List.drop_eq_getElem_cons hlt
        obtain ⟨g1, g2⟩ := go items[i] (List.getElem?_eq_getElem hlt)
        rw [hd] at hr
        obtain ⟨Γ1, c1, hr⟩ := obind hr
        obtain ⟨b, c2, hr⟩ := obind hr
        refine .inr ⟨g1, fun H' => ∃ m', (m' = items.length - (i + 1) ∧ i + 1 ≤ items.length ∧ ∃ Gc acc dacc rest Fa, Ext G1 H1 Gc H' ∧ Gc D = none ∧ H' D = some (.lst acc) ∧ acc.length ≤ i + 1 ∧ HdL K mg Gc H' acc Fa dacc ∧ (∀ a, Fa a → Gc a = none ∧ H1 a = none ∧ H' a ≠ none ∧ a ≠ D) ∧ Rel K mg G0 H0 ⟨fun a => Z.z a ∨ a = D, Z.a, Z.t⟩ (wipeE Γ (own.map (·.2))) (L2.wipe σ (own.map (·.2))) Gc H' ∧
          compLN g p f (items.drop (i + 1)) (wipeE Γ (own.map (·.2))) = some rest ∧ dacc ++ rest = ds), fun H' ⟨m', h⟩ => ⟨m', by have := h.1; omega, h⟩, fun x H2 y => ?_⟩
        obtain ⟨G2, x2, r2⟩ := g2 x H2 y
        have xc2 := xc.trans x2
        have R2 := Rc.ext x2
        have gD2 : G2 D = none := x2.none gD (nn hcD)
        have hD2 := x2.hh _ _ hcD nofun
        have step : ∀ {Ga Ha Gb Hb : Hp}, Ext Ga Ha Gb Hb → (∀ a, Fa a → Ga a = none ∧ H1 a = none ∧ Ha a ≠ none ∧ a ≠ D) → HdL K mg Ga Ha acc Fa dacc → (∀ a, Fa a → Gb a = none ∧ H1 a = none ∧ Hb a ≠ none ∧ a ≠ D) ∧ HdL K mg Gb Hb acc Fa dacc := fun x fa ra =>
          ⟨fun a y => by
            obtain ⟨z1, z2, z3, z4⟩ := fa a y
            exact ⟨x.none z1 z3, z2, x.hn _ z3, z4⟩, ra.mono x.gg fun a o _ q n => x.hh a o q n⟩
        obtain ⟨fa2, ra2⟩ := step x2 fa ra
        refine ⟨G0, H0, _, _, G2, items[i], Γ1, R2, r2, c1, fun σ3 R3 w3 => ⟨(w3 _ hix).trans (wipe_sub _ fun _ h => h), ?_⟩⟩
        refine ⟨G0, H0, _, Γ1, G2, b, R3, c2, fun G4 H4 x4 => ?_⟩
        have gD4 : G4 D = none := x4.none gD2 (nn hD2)
        have hD4 := x4.hh _ _ hD2 nofun
        obtain ⟨fa4, ra4⟩ := step x4 fa2 ra2
        cases b with
        | false =>
          refine iteF ⟨_, rfl, hlt, G4, acc, dacc, rest, Fa, xc2.trans x4, gD4, hD4, by omega, ra4, fa4, R2.ext x4, hr, hds⟩
        | true =>
          refine iteT ⟨G0, H0, ⟨fun a => Z.z a ∨ a = D, Z.a, Z.t⟩, Γ1, G4, ?_⟩
          replace hr : ((f Γ1).bind fun y => (compLN g p f (items.drop (i + 1)) (wipeE Γ (own.map (·.2)))).bind fun r => some (y :: r)) = some rest := hr
          obtain ⟨yv, c3, hr⟩ := obind hr
          obtain ⟨rr, c4, hr⟩ := obind hr
          cases hr
          refine ⟨yv, R3.ext x4, c3, fun G5 H5 v Fv x5 r5 f5 => ?_⟩
          have gD5 : G5 D = none := x5.none gD4 (nn hD4)
          have hD5 : H5 D = some (.lst acc) := x5.hh _ _ hD4 nofun
          obtain ⟨fa5, ra5⟩ := step x5 fa4 ra4
          have nD : ∀ a, Fv a → a ≠ D := fun a y z => by
            subst z
            have := (f5 a y).2.1
            rw [hD4] at this
            cases this
          have dj : ∀ a, Fv a → ¬ Fa a := fun a y z => (fa4 a z).2.2.1 (f5 a y).2.1
          have up : ∀ a, H5 a ≠ none → upd H5 D (.lst (acc ++ [v])) a ≠ none := fun a h => by
            by_cases z : a = D
            · subst z; rw [upd_same]; simp
            · rw [upd_ne z]; exact h
          have xx := (xc2.trans x4).trans x5
          refine ⟨acc, hD5, Nat.lt_of_lt_of_le (Nat.lt_of_le_of_lt la (Nat.lt_trans hlt hlen)) line_big, _, rfl, hlt, G5, acc ++ [v], dacc ++ [yv], rr, fun a => Fa a ∨ Fv a, ?_, gD5, upd_same, by simp; omega, ?_, ?_, ((R2.ext x4).ext x5).aside (.inr rfl) ntD gD5 (R1.hf hD), c4, by rw [← hds]; simp⟩
          · exact xx.put hD gD5
          · refine (ra5.snocU r5 dj).mono (Same.refl _) fun a o h q _ => ?_
            rw [upd_ne]
            · exact q
            · rcases h with h | h
              · exact (fa5 a h).2.2.2
              · exact nD a h
          · intro a h
            rcases h with h | h
            · obtain ⟨z1, z2, z3, z4⟩ := fa5 a h
              exact ⟨z1, z2, up a z3, z4⟩
            · obtain ⟨z1, z2, z3⟩ := f5 a h
              exact ⟨z1, (xc2.trans x4).hf z2, up a z3, nD a h⟩
      · have e : i = items.length := by omega
        subst e
        refine .inl ⟨st (Nat.le_refl _), ?_⟩
        rw [List.drop_length] at hr
        cases hr
        rw [List.append_nil] at hds
        subst hds
        refine k Gc Hc (.ref D) (fun a => a = D ∨ Fa a) (x1.trans xc) (.ol (F' := Fa) (.inl rfl) hcD (fun y => (fa D y).2.2.2 rfl) (fun a y => .inr y) ra) fun a y => ?_
        rcases y with y | y
        · subst y; exact ⟨gD, x1.hf hD, nn hcD⟩
        · obtain ⟨z1, z2, z3, z4⟩ := fa a y
          exact ⟨z1, x1.hf z2, z3⟩
  · cases hf
theorem en_lc {X : Cx} {elt tg iter : Expr} {ifs : List Expr} {scope : Scope} {own : List (Str × Nat)} {it : Ag} {p : Te} {ix : List Nat} {g : Gs} {f : Sx} {pos : Pos} (hc : X.calm = true) (hN : X.N.Nodup) (hi : IC X tg iter it) (ok : BlkOk X.N X.env.scope scope own) (hix : ∀ i ∈ ix, i ∈ own.map (·.2))
    (hg : ∀ (s : Shared) (H : Hp) (C : Addr) (cl : List (Str × Addr)) (fp : List Addr), G (X.blk s H scope (compEnvC scope cl C X.env) fp) tg ix g)
    (ht : ∀ (s : Shared) (H : Hp) (C : Addr) (cl : List (Str × Addr)) (fp : List Addr), Ts (X.blk s H scope (compEnvC scope cl C X.env) fp) ifs p)
    (he : ∀ (s : Shared) (H : Hp) (C : Addr) (cl : List (Str × Addr)) (fp : List Addr), EN (X.blk s H scope (compEnvC scope cl C X.env) fp) elt f)
    (hs : ∀ x, foldedSetIterable iter X.env x = pure x := by intro _; rfl) : EN X (.ListComp elt [⟨tg, iter, ifs, 0⟩] scope pos) (gLcN (own.map (·.2)) it g p f) := by
  obtain ⟨wi, w1, w2⟩ := hi.ex
  exact ⟨⟨_, pe_lc hc hN w1 ok (fun s H C cl fp => (hg s H C cl fp).pg) (fun s H C cl fp => (ht s H C cl fp).pt) (fun s H C cl fp => (he s H C cl fp).pe) hs, fun G0 H0 Z Γ σ G H Q ds R hf k => lc_runN hix w2 R hf k⟩⟩
end DL

namespace DL
open PySem L2
variable [TC : TabCtx]
/-! ### walks over lists that are looked at -/
theorem SameN.sq {K : PySem.W.Frag} {H H' : Hp} (e : SameN H H') {p : Addr} {xs : List V} (h : SqL K H p xs) : SqL K H' p xs := by
  rcases h with (q | ⟨o, q⟩) | q
  · exact .inl (.inl (e _ _ q nofun))
  · exact .inl (.inr ⟨o, e _ _ q nofun⟩)
  · exact .inr q
theorem RepB.items {K mg} {G H : Hp} {v : V} {d : D} {xs : List D} (gh : Same G H) (r : RepB K mg G H v d) (h : dItems d = some xs) : ∃ p vs, v = .ref p ∧ SqL K H p vs ∧ RepL K mg G vs xs := by
  cases r with
  | sh r =>
    obtain ⟨p, vs, e, s, r⟩ := r.items h
    exact ⟨p, vs, e, gh.seq s, r⟩
  | li h' r => cases h; exact ⟨_, _, rfl, SqL.of h', r⟩
  | obj _ _ _ => cases h
  | dic _ _ _ => cases h
theorem RepM.one {K mg} {G H : Hp} {b : Bool} {vs : List V} {ds : List D} (r : RepM K mg G H [b] vs ds) : ∃ x v, ds = [x] ∧ vs = [v] ∧ RepB K mg G H v x := by
  cases r with
  | sh h r => cases r; exact ⟨_, _, rfl, rfl, .sh h⟩
  | bo h r => cases r; exact ⟨_, _, rfl, rfl, h⟩
theorem RepM.two {K mg} {G H : Hp} {b c : Bool} {vs : List V} {ds : List D} (r : RepM K mg G H [b, c] vs ds) : ∃ x y v w, ds = [x, y] ∧ vs = [v, w] ∧ RepB K mg G H v x ∧ RepB K mg G H w y := by
  cases r with
  | sh h r => obtain ⟨y, w, rfl, rfl, q⟩ := r.one; exact ⟨_, _, _, _, rfl, rfl, .sh h, q⟩
  | bo h r => obtain ⟨y, w, rfl, rfl, q⟩ := r.one; exact ⟨_, _, _, _, rfl, rfl, h, q⟩
section
variable {X : Cx} {a b iter tg e : Expr} {es : List Expr} {f : Ex} {fs : Ag} {pos : Pos}
theorem ic_zipM {ma mb : Bool} {p tpos : Pos} {elts : List Expr} {kk : Nat} (hg : Gl X "zip") (hm : X.mg "zip" = none) (ha : AM X [a, b] [ma, mb] fs) (hs : starEach [a, b] X.env = (false, eval a X.env) :: starEach [b] X.env := by rfl) (hpl : (backTo pos (starEach [b] X.env)).any (·.1) = false := by rfl) :
    IC X (.Tuple elts kk tpos) (.Call (.Name "zip" p) [a, b] [] pos) (gZip fs) := by
  obtain ⟨t, h1, h2⟩ := ha.ex
  refine ⟨⟨_, pi_zip hg hm h1 hs hpl, fun G0 H0 Z Γ σ G H R ds Rl hf k => ?_⟩⟩
  obtain ⟨xs, e1, hf⟩ := obind hf
  refine h2 G0 H0 Z Γ σ G H _ _ Rl e1 fun G1 H1 vs x1 r0 => ?_
  obtain ⟨x, y, u1, u2, rfl, rfl, r, q⟩ := r0.two
  · 
    replace hf : ((dItems x).bind fun xs => (dItems y).bind fun ys => some (zipD xs ys)) = some ds := hf
    obtain ⟨as, a1, hf⟩ := obind hf
    obtain ⟨bs, a2, hf⟩ := obind hf
    cases hf
    obtain ⟨p1, v1, rfl, s1, r1⟩ := r.items x1.gh a1
    obtain ⟨p2, v2, rfl, s2, r2⟩ := q.items x1.gh a2
    refine ⟨p1, p2, v1, v2, rfl, s1, s2, k G1 H1 _ x1 fun i G2 H2 t1 t2 t3 => ?_⟩
    have q1 : SqL X.K H2 p1 v1 := t3.sq s1
    have q2 : SqL X.K H2 p2 v2 := t3.sq s2
    refine ⟨fun hi => ⟨v1, v2, q1, q2, ?_⟩, fun d hd => ?_⟩
    · rw [zipD_len] at hi
      rw [r1.length, r2.length]
      omega
    · obtain ⟨x, y, g1, g2, rfl⟩ := zipD_get hd
      obtain ⟨w1, b1, c1⟩ := r1.get i g1
      obtain ⟨w2, b2, c2⟩ := r2.get i g2
      refine ⟨⟨v1, v2, w1, w2, q1, q2, b1, b2⟩, fun u H3 yl => ?_⟩
      obtain ⟨T, z1, z2, rfl, hT, rfl, f1, f2⟩ := yl
      have z3 := f1 v1 q1
      have z4 := f2 v2 q2
      rw [b1] at z3
      rw [b2] at z4
      cases z3
      cases z4
      have x2 := Ext.new1 (o := .tup [w1, w2]) t2 hT
      exact ⟨_, x2, .tup upd_same (.cons ((c1.mono t1).mono x2.gg) (.cons ((c2.mono t1).mono x2.gg) .nil))⟩
theorem el_enumM {o : Expr} {ma : Bool} {fs : Ag} {p p2 pos pos2 : Pos} (hcm : X.calm = true) (hg : Gl X "list") (hm : X.mg "list" = none) (hge : Gl X "enumerate") (hme : X.mg "enumerate" = none) (ha : AM X [o] [ma] fs)
    (hs : starEach [o] X.env = [(false, eval o X.env)] := by rfl) (na : starEach [.Call (.Name "enumerate" p2) [o] [] pos2] X.env = (false, eval (.Call (.Name "enumerate" p2) [o] [] pos2) X.env) :: starEach [] X.env := by rfl) :
    EL X (.Call (.Name "list" p) [.Call (.Name "enumerate" p2) [o] [] pos2] [] pos) (gEnum fs) := by
  obtain ⟨t, h1, h2⟩ := ha.ex
  refine ⟨⟨_, pe_listEnum hcm hg hm hge hme h1 hs na, fun G0 H0 Z Γ σ G H Q ds R hf k => ?_⟩⟩
  obtain ⟨xs, e1, hf⟩ := obind hf
  refine h2 G0 H0 Z Γ σ G H _ _ R e1 fun G1 H1 vs x1 r0 => ?_
  obtain ⟨x, v0, rfl, rfl, r⟩ := r0.one
  · 
    replace hf : ((dItems x).bind fun xs => some (enumD 0 xs)) = some ds := hf
    obtain ⟨as, a1, hf⟩ := obind hf
    cases hf
    obtain ⟨p1, vs1, rfl, s1, r1⟩ := r.items x1.gh a1
    refine ⟨p1, vs1, rfl, s1, fun q Ts H' B => ?_⟩
    have lv := r1.length
    -- what is known now: the pairs too
    have hmem : ∀ T, T ∈ Ts → ∃ j, Ts[j]? = some T := fun T hT => List.mem_iff_getElem?.mp hT
    classical
    let G2 : Hp := fun b => if b ∈ Ts then H' b else G1 b
    have gT : ∀ T, T ∈ Ts → H1 T = none ∧ T ≠ q ∧ H' T ≠ none := fun T hT => by
      obtain ⟨j, hj⟩ := hmem T hT
      obtain ⟨t1, t2, y, t3, t4⟩ := B.tup j T hj
      exact ⟨t1, t2, by rw [t4]; simp⟩
    have qT : q ∉ Ts := fun z => (gT q z).2.1 rfl
    have sg : Same G1 G2 := fun b u z => by
      show (if b ∈ Ts then H' b else G1 b) = some u
      rw [if_neg (fun w => by have := (gT b w).1; rw [x1.gh b u z] at this; cases this)]
      exact z
    have e : Ext G1 H1 G2 H' := Ext.same sg B.keep (fun b u z => by
      have z : (if b ∈ Ts then H' b else G1 b) = some u := z
      split at z
      · exact z
      · exact B.keep _ _ (x1.gh b u z)) fun b z => by
      have z : (if b ∈ Ts then H' b else G1 b) ≠ none := z
      split at z
      · rename_i w; exact .inr (gT b w).1
      · exact .inl z
    have q2 : G2 q = none := by
      show (if q ∈ Ts then H' q else G1 q) = none
      rw [if_neg qT]
      exact x1.gh.free B.q0
    refine k G2 H' q _ (x1.trans e) (x1.hf B.q0) q2 B.lst ?_
    -- the items
    have items : ∀ (Us : List Addr) (vs2 : List V) (ds2 : List D) (j : Nat), Us.length = vs2.length → RepL X.K X.mg G1 vs2 ds2 → (∀ i T, Us[i]? = some T → ∃ x, vs2[i]? = some x ∧ G2 T = some (.tup [.int ((j + i : Nat) : Int), x])) → RepL X.K X.mg G2 (Us.map V.ref) (enumD j ds2) := by
      intro Us
      induction Us with
      | nil =>
        intro vs2 ds2 j hl hr _
        cases vs2 with
        | nil => cases hr; exact .nil
        | cons => simp at hl
      | cons U Us ih =>
        intro vs2 ds2 j hl hr hg
        cases hr with
        | nil => simp at hl
        | cons h r =>
          obtain ⟨y, y1, y2⟩ := hg 0 U rfl
          cases y1
          refine .cons (.tup y2 (.cons (.int _) (.cons (h.mono sg) .nil))) (ih _ _ (j + 1) (by simpa using hl) r fun i T hT => ?_)
          obtain ⟨w, w1, w2⟩ := hg (i + 1) T (by simpa using hT)
          refine ⟨w, by simpa using w1, ?_⟩
          have e5 : j + 1 + i = j + (i + 1) := by omega
          rw [e5]
          exact w2
    refine items Ts vs1 as 0 B.len r1 fun i T hT => ?_
    obtain ⟨t1, t2, y, t3, t4⟩ := B.tup i T hT
    refine ⟨y, t3, ?_⟩
    show (if T ∈ Ts then H' T else G1 T) = _
    rw [if_pos (List.mem_of_getElem? hT), t4]
    simp
end
section
variable {X : Cx} {e a b o : Expr} {es : List Expr} {f g : Ex} {fs : Ag} {pos : Pos} {ms : List Bool}
theorem e_metDN {pl : Sem Bool} {c k L : Nat} {ps : List Str} {S : List D → Option Sl} {m : Str} {apos : Pos} (mt : MetKN X.prog X.w X.K X.mg X.base c m L ps (false :: ms) S) (hr : Room k X.A) (hk : L ≤ k)
    (ho : E X o f) (ha : AM X (a :: es) ms fs) (hno : m ∉ cF c := by decide +kernel)
    (hst : starEach (a :: es) X.env = (false, eval a X.env) :: starEach es X.env := by rfl) (hpl : (backTo pos (starEach es X.env)).any (·.1) = false := by rfl)
    (ht : eval (.Call (.Attribute o m apos) (a :: es) [] pos) X.env = (do
      let ov ← eval o X.env
      standAt apos.atName
      let (f, first) ← holding [ov] (getMethod ov m pl)
      callWith pos f first (backTo pos (starEach (a :: es) X.env)) (backToKw pos (keywordEach [] X.env))) := by rfl) : EN X (.Call (.Attribute o m apos) (a :: es) [] pos) (gMethN c S f fs) := by
  obtain ⟨C, fa, fd, ck, hme, FO, hb⟩ := mt.ex
  obtain ⟨t, h1, h2⟩ := ha.ex
  obtain ⟨u, q1, q2⟩ := ho.ex
  refine ⟨⟨_, pe_meth q1 ck.cl hme FO (hr.mono hk) hb .nil pass0 h1 hst hpl ht, fun G0 H0 Z Γ σ G H Q d R hf k => ?_⟩⟩
  obtain ⟨y, e1, hv⟩ := obind hf
  cases y with
  | obj c' vs' =>
    replace hv : (if c' = c then (fs Γ).bind fun ds => S (.obj c' vs' :: ds) else none) = some d := hv
    split at hv
    · rename_i cz
      subst cz
      obtain ⟨ds, e2, hv⟩ := obind hv
      refine q2 G0 H0 Z Γ σ G H _ _ R e1 fun G1 H1 v x1 r1 => ?_
      have r1' := r1
      cases r1 with
      | obj hm' hp0 _ =>
      rename_i p C' dx ws
      have hp := x1.gh _ _ hp0
      rw [ck.hm] at hm'
      cases hm'
      refine ⟨_, _, _, rfl, hp, zip_lookup_none hno, ?_⟩
      refine h2 G0 H0 Z Γ σ G1 H1 _ _ (R.ext x1) e2 fun G2 H2 vs x2 r2 => ?_
      refine ⟨G2, _, d, x2.gh, ((R.ext x1).ext x2).tbc, .sh (r1'.mono x2.gg) (by rw [List.append_nil]; exact r2), hv, fun G' H' v F' x3 r3 f3 => k G' H' v F' ((x1.trans x2).trans x3) r3 fun b y => ?_⟩
      obtain ⟨w1, w2, w3⟩ := f3 b y
      exact ⟨w1, (x1.trans x2).hf w2, w3⟩
    · cases hv
  | _ => cases hv
theorem e_metDN0 {pl : Sem Bool} {c k L : Nat} {ps : List Str} {S : List D → Option Sl} {m : Str} {apos : Pos} (mt : MetKN X.prog X.w X.K X.mg X.base c m L ps [false] S) (hr : Room k X.A) (hk : L ≤ k)
    (ho : E X o f) (hno : m ∉ cF c := by decide +kernel)
    (ht : eval (.Call (.Attribute o m apos) [] [] pos) X.env = (do
      let ov ← eval o X.env
      standAt apos.atName
      let (f, first) ← holding [ov] (getMethod ov m pl)
      callWith pos f first (backTo pos (starEach [] X.env)) (backToKw pos (keywordEach [] X.env))) := by rfl) : EN X (.Call (.Attribute o m apos) [] [] pos) (gMethN c S f aN) := by
  obtain ⟨C, fa, fd, ck, hme, FO, hb⟩ := mt.ex
  obtain ⟨u, q1, q2⟩ := ho.ex
  refine ⟨⟨_, pe_meth0 q1 ck.cl hme FO (hr.mono hk) hb .nil pass0 ht, fun G0 H0 Z Γ σ G H Q d R hf k => ?_⟩⟩
  obtain ⟨y, e1, hv⟩ := obind hf
  cases y with
  | obj c' vs' =>
    replace hv : (if c' = c then (aN Γ).bind fun ds => S (.obj c' vs' :: ds) else none) = some d := hv
    split at hv
    · rename_i cz
      subst cz
      obtain ⟨ds, e2, hv⟩ := obind hv
      cases e2
      refine q2 G0 H0 Z Γ σ G H _ _ R e1 fun G1 H1 v x1 r1 => ?_
      have r1' := r1
      cases r1 with
      | obj hm' hp0 _ =>
      rename_i p C' dx ws
      have hp := x1.gh _ _ hp0
      rw [ck.hm] at hm'
      cases hm'
      refine ⟨_, _, _, rfl, hp, zip_lookup_none hno, ?_⟩
      refine ⟨G1, _, d, x1.gh, (R.ext x1).tbc, .sh r1' .nil, hv, fun G' H' v F' x3 r3 f3 => k G' H' v F' (x1.trans x3) r3 fun b y => ?_⟩
      obtain ⟨w1, w2, w3⟩ := f3 b y
      exact ⟨w1, x1.hf w2, w3⟩
    · cases hv
  | _ => cases hv
end
end DL

namespace DL
open PySem L2
variable [TC : TabCtx]
/-! ### a comprehension of two walks -/
def tIx (K : PySem.W.Frag) (mg : Str → Option Value) (it : Ag) : TI := fun σ H R => ∃ G0 H0 Z Γ G ds, Rel K mg G0 H0 Z Γ σ G H ∧ it Γ = some ds ∧ ∀ G' H' J, Ext G H G' H' → Itm K mg J G' ds → R J H'
theorem I.pi {X : Cx} {tg iter : Expr} {it : Ag} (h : I X tg iter it) : PI X tg iter (tIx X.K X.mg it) := by
  obtain ⟨t, h1, h2⟩ := h.ex
  exact ⟨fun pins s σ H R I ⟨G0, H0, Z, Γ, G, ds, Rl, hf, k⟩ => h1.run pins s σ H R I (h2 G0 H0 Z Γ σ G H R ds Rl hf k)⟩
def compL2 (g : Gs) (t : Te) (it1 : Ag) (g1 : Gs) (t1 : Te) (e : Ex) (vs1 : List Nat) : List D → DEnv → Option (List D)
  | [], _ => some []
  | d :: ds, Γ => (g d Γ).bind fun Γ1 => (t Γ1).bind fun b => if b then (it1 Γ1).bind fun ds1 => (compL g1 t1 e ds1 (wipeE Γ1 vs1)).bind fun r1 => (compL2 g t it1 g1 t1 e vs1 ds Γ).bind fun r => some (r1 ++ r) else compL2 g t it1 g1 t1 e vs1 ds Γ
def gLc2 (own vs1 : List Nat) (it : Ag) (g : Gs) (t : Te) (it1 : Ag) (g1 : Gs) (t1 : Te) (e : Ex) : Ag := fun Γ => (it Γ).bind fun ds => (compL2 g t it1 g1 t1 e vs1 ds (wipeE Γ own)).bind fun r => if r.length < 1000000 then some r else none
theorem lc_run2 {K : PySem.W.Frag} {mg : Str → Option Value} {own : List (Str × Nat)} {vs1 ix ix1 : List Nat} {it it1 : Ag} {p p1 : Te} {g g1 : Gs} {f : Ex} {wi : TI} (hix : ∀ i ∈ ix, i ∈ own.map (·.2)) (hv : ∀ i ∈ vs1, i ∈ own.map (·.2)) (hix1 : ∀ i ∈ ix1, i ∈ vs1)
    (hw : ∀ G0 H0 Z Γ σ G H R ds, Rel K mg G0 H0 Z Γ σ G H → it Γ = some ds → (∀ G' H' J, Ext G H G' H' → ItmB K mg J G' H' ds → R J H') → wi σ H R)
    {G0 H0 : Hp} {Z : Zs} {Γ : DEnv} {σ : L2.St} {G H : Hp} {Q : VK} {ds : List D} (R : Rel K mg G0 H0 Z Γ σ G H) (hf : gLc2 (own.map (·.2)) vs1 it g p it1 g1 p1 f Γ = some ds)
    (k : ∀ G' H' D vs, Ext G H G' H' → H D = none → G' D = none → H' D = some (.lst vs) → RepL K mg G' vs ds → Q (.ref D) H') :
    tLc2 wi (tGx K mg ix g) (tTx K mg p) (tIx K mg it1) (tGx K mg ix1 g1) (tTx K mg p1) (tEx K mg f) (own.map (·.2)) vs1 σ H Q := by
  obtain ⟨items, e1, hf⟩ := obind hf
  obtain ⟨r0, hf2, hf⟩ := obind hf
  split at hf
  · rename_i hlen
    cases hf
    refine hw G0 H0 Z Γ σ G H _ items R e1 fun G1 H1 J x1 hJ D hD => ?_
    have R1 := R.ext x1
    have ntD : ¬ Z.t.tz D := fun h => R1.zz _ (R1.tz _ h) hD
    -- the state within: the list so far at D
    let St : Hp → List DL.D → Prop := fun Hc rest => ∃ Gc acc dacc, Ext G1 H1 Gc Hc ∧ Gc D = none ∧ Hc D = some (.lst acc) ∧ RepL K mg Gc acc dacc ∧ Rel K mg G0 H0 ⟨fun a => Z.z a ∨ a = D, Z.a, Z.t⟩ (wipeE Γ (own.map (·.2))) (L2.wipe σ (own.map (·.2))) Gc Hc ∧ dacc ++ rest = ds
    refine ⟨fun i m Hc => m = items.length - i ∧ i ≤ items.length ∧ ∃ rest, St Hc rest ∧ compL2 g p it1 g1 p1 f vs1 (items.drop i) (wipeE Γ (own.map (·.2))) = some rest, ⟨items.length, ?_⟩, ?_⟩
    · exact ⟨by simp, Nat.zero_le _, ds, ⟨G1, [], [], Ext.own1 x1.gh hD, x1.gh.free hD, upd_same, .nil, (R1.wipe (own.map (·.2))).zput hD, rfl⟩, by simpa using hf2⟩
    · rintro i m Hc ⟨rfl, hi, rest, ⟨Gc, acc, dacc, xc, gD, hcD, ra, Rc, hds⟩, hr⟩
      obtain ⟨st, go⟩ := hJ i Gc Hc xc.gg xc.gh xc.hh
      have nn : ∀ {H : Hp} {acc : List V}, H D = some (.lst acc) → H D ≠ none := fun e => by rw [e]; simp
      by_cases hlt : i < items.length
      · have hd : items.drop i = items[i] :: items.drop (i + 1) := List.drop_eq_getElem_cons hlt
        obtain ⟨g1', g2⟩ := go items[i] (List.getElem?_eq_getElem hlt)
        rw [hd] at hr
        obtain ⟨Γ1, c1, hr⟩ := obind hr
        obtain ⟨b, c2, hr⟩ := obind hr
        refine .inr ⟨g1', fun H' => ∃ m', (m' = items.length - (i + 1) ∧ i + 1 ≤ items.length ∧ ∃ rest, St H' rest ∧ compL2 g p it1 g1 p1 f vs1 (items.drop (i + 1)) (wipeE Γ (own.map (·.2))) = some rest), fun H' ⟨m', h⟩ => ⟨m', by have := h.1; omega, h⟩, fun x H2 y => ?_⟩
        obtain ⟨G2, x2, r2⟩ := g2 x H2 y
        have xc2 := xc.trans x2
        have R2 := Rc.ext x2
        have gD2 : G2 D = none := x2.none gD (nn hcD)
        have hD2 := x2.hh _ _ hcD nofun
        refine ⟨G0, H0, _, _, G2, items[i], Γ1, R2, r2, c1, fun σ3 R3 w3 => ⟨(w3 _ hix).trans (wipe_sub _ fun _ h => h), ?_⟩⟩
        refine ⟨G0, H0, _, Γ1, G2, b, R3, c2, fun G4 H4 x4 => ?_⟩
        have gD4 : G4 D = none := x4.none gD2 (nn hD2)
        have hD4 := x4.hh _ _ hD2 nofun
        cases b with
        | false =>
          exact iteF ⟨_, rfl, hlt, rest, ⟨G4, acc, dacc, xc2.trans x4, gD4, hD4, (ra.mono x2.gg).mono x4.gg, R2.ext x4, hds⟩, hr⟩
        | true =>
          replace hr : ((it1 Γ1).bind fun ds1 => (compL g1 p1 f ds1 (wipeE Γ1 vs1)).bind fun r1 => (compL2 g p it1 g1 p1 f vs1 (items.drop (i + 1)) (wipeE Γ (own.map (·.2)))).bind fun r => some (r1 ++ r)) = some rest := hr
          obtain ⟨ds1, d1, hr⟩ := obind hr
          obtain ⟨r1, d2, hr⟩ := obind hr
          obtain ⟨rr, d3, hr⟩ := obind hr
          cases hr
          refine iteT ⟨G0, H0, ⟨fun a => Z.z a ∨ a = D, Z.a, Z.t⟩, Γ1, G4, ds1, R3.ext x4, d1, fun G5 H5 J1 x5 hJ1 => ?_⟩
          have gD5 : G5 D = none := x5.none gD4 (nn hD4)
          have hD5 := x5.hh _ _ hD4 nofun
          have xc5 := (xc2.trans x4).trans x5
          have Ra5 := (R2.ext x4).ext x5
          have Rb5 := ((R3.ext x4).ext x5).wipe vs1
          have ra5 := ((ra.mono x2.gg).mono x4.gg).mono x5.gg
          refine ⟨fun j k Hc => k = ds1.length - j ∧ j ≤ ds1.length ∧ ∃ Gc acc dacc rest1, Same G5 Gc ∧ Ext G1 H1 Gc Hc ∧ Gc D = none ∧ Hc D = some (.lst acc) ∧ RepL K mg Gc acc dacc ∧
            Rel K mg G0 H0 ⟨fun a => Z.z a ∨ a = D, Z.a, Z.t⟩ (wipeE Γ (own.map (·.2))) (L2.wipe σ (own.map (·.2))) Gc Hc ∧ Rel K mg G0 H0 ⟨fun a => Z.z a ∨ a = D, Z.a, Z.t⟩ (wipeE Γ1 vs1) (L2.wipe σ3 vs1) Gc Hc ∧
            compL g1 p1 f (ds1.drop j) (wipeE Γ1 vs1) = some rest1 ∧ dacc ++ (rest1 ++ rr) = ds, ⟨ds1.length, ?_⟩, ?_⟩
          · exact ⟨by simp, Nat.zero_le _, G5, acc, dacc, r1, Same.refl _, xc5, gD5, hD5, ra5, Ra5, Rb5, by simpa using d2, hds⟩
          · rintro j k1 Hj ⟨rfl, hj, Gj, accj, daccj, restj, sG, xj, gDj, hDj, raj, Raj, Rbj, hrj, hdj⟩
            obtain ⟨st1, go1⟩ := hJ1 j Gj Hj sG xj.gh
            by_cases hlt1 : j < ds1.length
            · have hd1 : ds1.drop j = ds1[j] :: ds1.drop (j + 1) := List.drop_eq_getElem_cons hlt1
              obtain ⟨q1, q2⟩ := go1 ds1[j] (List.getElem?_eq_getElem hlt1)
              rw [hd1] at hrj
              obtain ⟨Γ2, y1, hrj⟩ := obind hrj
              obtain ⟨b1, y2, hrj⟩ := obind hrj
              refine .inr ⟨q1, fun H' => ∃ k', (k' = ds1.length - (j + 1) ∧ j + 1 ≤ ds1.length ∧ ∃ Gc acc dacc rest1, Same G5 Gc ∧ Ext G1 H1 Gc H' ∧ Gc D = none ∧ H' D = some (.lst acc) ∧ RepL K mg Gc acc dacc ∧
                Rel K mg G0 H0 ⟨fun a => Z.z a ∨ a = D, Z.a, Z.t⟩ (wipeE Γ (own.map (·.2))) (L2.wipe σ (own.map (·.2))) Gc H' ∧ Rel K mg G0 H0 ⟨fun a => Z.z a ∨ a = D, Z.a, Z.t⟩ (wipeE Γ1 vs1) (L2.wipe σ3 vs1) Gc H' ∧
                compL g1 p1 f (ds1.drop (j + 1)) (wipeE Γ1 vs1) = some rest1 ∧ dacc ++ (rest1 ++ rr) = ds), fun H' ⟨k', h⟩ => ⟨k', by have := h.1; omega, h⟩, fun x H6 y6 => ?_⟩
              obtain ⟨G6, x6, r6⟩ := q2 x H6 y6
              have gD6 : G6 D = none := x6.none gDj (nn hDj)
              have hD6 := x6.hh _ _ hDj nofun
              have Ra6 := Raj.ext x6
              have Rb6 := Rbj.ext x6
              refine ⟨G0, H0, _, _, G6, ds1[j], Γ2, Rb6, r6, y1, fun σ4 R4 w4 => ⟨(w4 _ hix1).trans (wipe_sub _ fun _ h => h), ?_⟩⟩
              refine ⟨G0, H0, _, Γ2, G6, b1, R4, y2, fun G7 H7 x7 => ?_⟩
              have gD7 : G7 D = none := x7.none gD6 (nn hD6)
              have hD7 := x7.hh _ _ hD6 nofun
              have x67 := (xj.trans x6).trans x7
              cases b1 with
              | false =>
                exact iteF ⟨_, rfl, hlt1, G7, accj, daccj, restj, (sG.trans x6.gg).trans x7.gg, x67, gD7, hD7, (raj.mono x6.gg).mono x7.gg, Ra6.ext x7, Rb6.ext x7, hrj, hdj⟩
              | true =>
                refine iteT ⟨G0, H0, ⟨fun a => Z.z a ∨ a = D, Z.a, Z.t⟩, Γ2, G7, ?_⟩
                replace hrj : ((f Γ2).bind fun y => (compL g1 p1 f (ds1.drop (j + 1)) (wipeE Γ1 vs1)).bind fun r => some (y :: r)) = some restj := hrj
                obtain ⟨yv, c3, hrj⟩ := obind hrj
                obtain ⟨rj, c4, hrj⟩ := obind hrj
                cases hrj
                refine ⟨yv, R4.ext x7, c3, fun G8 H8 v x8 r8 => ?_⟩
                have gD8 : G8 D = none := x8.none gD7 (nn hD7)
                have hD8 := x8.hh _ _ hD7 nofun
                have la : accj.length < sizeLine := by
                  rw [raj.length]
                  refine Nat.lt_of_lt_of_le ?_ line_big
                  have := congrArg List.length hdj
                  simp at this
                  omega
                refine ⟨accj, hD8, la, _, rfl, hlt1, G8, accj ++ [v], daccj ++ [yv], rj, ((sG.trans x6.gg).trans x7.gg).trans x8.gg, (x67.trans x8).put hD gD8, gD8, upd_same, (((raj.mono x6.gg).mono x7.gg).mono x8.gg).append (.cons r8 .nil), ((Ra6.ext x7).ext x8).aside (.inr rfl) ntD gD8 (R1.hf hD), ((Rb6.ext x7).ext x8).aside (.inr rfl) ntD gD8 (R1.hf hD), c4, by rw [← hdj]; simp⟩
            · have e : j = ds1.length := by omega
              subst e
              refine .inl ⟨st1 (Nat.le_refl _), ?_⟩
              rw [List.drop_length] at hrj
              cases hrj
              exact ⟨_, rfl, hlt, rr, ⟨Gj, accj, daccj, xj, gDj, hDj, raj, Raj, by simpa using hdj⟩, d3⟩
      · have e : i = items.length := by omega
        subst e
        refine .inl ⟨st (Nat.le_refl _), ?_⟩
        rw [List.drop_length] at hr
        cases hr
        rw [List.append_nil] at hds
        subst hds
        exact k Gc Hc D acc (x1.trans xc) (x1.hf hD) gD hcD ra
  · cases hf
theorem el_lc2 {X : Cx} {elt tg iter tg1 iter1 : Expr} {ifs ifs1 : List Expr} {scope : Scope} {own : List (Str × Nat)} {vs1 ix ix1 : List Nat} {it it1 : Ag} {p p1 : Te} {g g1 : Gs} {f : Ex} {pos : Pos} (hc : X.calm = true) (hN : X.N.Nodup) (hi : IC X tg iter it) (ok : BlkOk X.N X.env.scope scope own) (hv : ∀ i ∈ vs1, i ∈ own.map (·.2)) (hix : ∀ i ∈ ix, i ∈ own.map (·.2)) (hix1 : ∀ i ∈ ix1, i ∈ vs1)
    (hg : ∀ (s : Shared) (H : Hp) (C : Addr) (cl : List (Str × Addr)) (fp : List Addr), G (X.blk s H scope (compEnvC scope cl C X.env) fp) tg ix g)
    (ht : ∀ (s : Shared) (H : Hp) (C : Addr) (cl : List (Str × Addr)) (fp : List Addr), Ts (X.blk s H scope (compEnvC scope cl C X.env) fp) ifs p)
    (hi1 : ∀ (s : Shared) (H : Hp) (C : Addr) (cl : List (Str × Addr)) (fp : List Addr), I (X.blk s H scope (compEnvC scope cl C X.env) fp) tg1 iter1 it1)
    (hg1 : ∀ (s : Shared) (H : Hp) (C : Addr) (cl : List (Str × Addr)) (fp : List Addr), G (X.blk s H scope (compEnvC scope cl C X.env) fp) tg1 ix1 g1)
    (ht1 : ∀ (s : Shared) (H : Hp) (C : Addr) (cl : List (Str × Addr)) (fp : List Addr), Ts (X.blk s H scope (compEnvC scope cl C X.env) fp) ifs1 p1)
    (he : ∀ (s : Shared) (H : Hp) (C : Addr) (cl : List (Str × Addr)) (fp : List Addr), E (X.blk s H scope (compEnvC scope cl C X.env) fp) elt f)
    (hs : ∀ x, foldedSetIterable iter X.env x = pure x := by intro _; rfl) (hs1 : ∀ env x, foldedSetIterable iter1 env x = pure x := by intro _ _; rfl) : EL X (.ListComp elt [⟨tg, iter, ifs, 0⟩, ⟨tg1, iter1, ifs1, 0⟩] scope pos) (gLc2 (own.map (·.2)) vs1 it g p it1 g1 p1 f) := by
  obtain ⟨wi, w1, w2⟩ := hi.ex
  exact ⟨⟨_, pe_lc2 hc hN w1 ok hv (fun s H C cl fp => (hg s H C cl fp).pg) (fun s H C cl fp => (ht s H C cl fp).pt) (fun s H C cl fp => (hi1 s H C cl fp).pi) (fun s H C cl fp => (hg1 s H C cl fp).pg) (fun s H C cl fp => (ht1 s H C cl fp).pt) (fun s H C cl fp => (he s H C cl fp).pe) hs hs1, fun G0 H0 Z Γ σ G H Q ds R hf k => lc_run2 hix hv hix1 w2 R hf k⟩⟩
end DL

/-! DL23: x in l, x not in l, for data without objects -/
namespace DL
open PySem L2
variable [TC : TabCtx]
theorem _root_.L2.Room.u65 {k : Nat} {A : Around} (r : Room k A) : A.units + 65 < cLine := by have := r.un; omega
section
variable {X : Cx}
/-- x in l, l a list -/
def dIn (x y : D) : Option D := match y with
  | .lst ds => if eqOk x && eqOk (.lst ds) then some (.bl (ds.any fun z => eqd z x)) else none
  | _ => none
def dNIn (x y : D) : Option D := match y with
  | .lst ds => if eqOk x && eqOk (.lst ds) then some (.bl (!ds.any fun z => eqd z x)) else none
  | _ => none
theorem any_toPys (x : D) : ∀ ds : List D, ((toPys ds).any fun z => PyData.eqv z (toPy x)) = ds.any fun z => eqd z x
  | [] => by rw [toPys]; rfl
  | d :: ds => by
    rw [toPys, List.any_cons, List.any_cons, any_toPys x ds]
    rfl
theorem ob_in (hu : X.A.units + 65 < cLine) : OpB X (compareOp .In) dIn := by
  refine ⟨_, op_inD hu, fun x y d v w G H Q gh e rx ry k => ?_⟩
  unfold dIn at e
  split at e
  · rename_i ds
    split at e
    · rename_i z
      cases e
      simp only [eqOk, Bool.and_eq_true] at z
      have ry' := ry.dp gh z.2.1
      have s2 := z.2.2
      rw [toPy] at ry' s2
      refine ⟨_, _, rx.dp gh z.1.1, ry', z.1.2, s2, ?_⟩
      rw [any_toPys]
      exact k G H _ (Ext.refl gh) (.bl _)
    · cases e
  · cases e
theorem ob_nin (hu : X.A.units + 65 < cLine) : OpB X (compareOp .NotIn) dNIn := by
  refine ⟨_, op_notInD hu, fun x y d v w G H Q gh e rx ry k => ?_⟩
  unfold dNIn at e
  split at e
  · rename_i ds
    split at e
    · rename_i z
      cases e
      simp only [eqOk, Bool.and_eq_true] at z
      have ry' := ry.dp gh z.2.1
      have s2 := z.2.2
      rw [toPy] at ry' s2
      refine ⟨_, _, rx.dp gh z.1.1, ry', z.1.2, s2, ?_⟩
      rw [any_toPys]
      exact k G H _ (Ext.refl gh) (.bl _)
    · cases e
  · cases e
end
end DL

/-! DL25: dicts of one's own and dicts as data; a place's list or dict becomes known -/
namespace DL
open PySem L2
variable [TC : TabCtx]
theorem _root_.L2.Room.u1 {k : Nat} {A : Around} (r : Room k A) : A.units + 1 < cLine := by have := r.un; omega
/-! ### dicts: keys and data side by side -/
def dKey : D → Option Key
  | .int i => some (.inl i)
  | .str s => some (.inr s)
  | _ => none
def keyD0 : Key → D
  | .inl i => .int i
  | .inr s => .str s
def valX {α : Type} (ks : List Key) (xs : List α) (k : Key) : Option α := ((ks.zip xs).find? fun kv => decide (kv.1 = k)).map (·.2)
def hasK (ks : List Key) (k : Key) : Bool := ks.any fun k' => decide (k' = k)
def putKs (ks : List Key) (k : Key) : List Key := if hasK ks k = true then ks else ks ++ [k]
def putXs {α : Type} (ks : List Key) (xs : List α) (k : Key) (d : α) : List α := if hasK ks k = true then (ks.zip xs).map (fun kv => if kv.1 = k then d else kv.2) else xs ++ [d]
section
variable {K : PySem.W.Frag} {mg : Str → Option Value} {G G' H H' : Hp}
theorem kV_rep (k : Key) : Rep K mg G (kV k) (keyD0 k) := by
  cases k with
  | inl i => exact .int i
  | inr s => exact .str s
theorem dKey_rep {v : V} {d : D} {k : Key} (h : dKey d = some k) (r : Rep K mg G v d) : v = kV k := by
  cases d with
  | int i => cases h; cases r; rfl
  | str s => cases h; cases r; rfl
  | _ => cases h
theorem valV_zip {vs : List V} (k : Key) (ks : List Key) : valV (ks.zip vs) k = valX ks vs k := rfl
theorem valX_rep {k : Key} {d : D} : ∀ {ks : List Key} {vs : List V} {xs : List D}, RepL K mg G vs xs → valX ks xs k = some d → ∃ v, valX ks vs k = some v ∧ Rep K mg G v d
  | [], vs, xs, r, h => by simp [valX] at h
  | k' :: ks, _, _, .nil, h => by simp [valX] at h
  | k' :: ks, _, _, .cons (v := v0) (d := d0) h0 r, h => by
    unfold valX at h ⊢
    rw [List.zip_cons_cons, List.find?_cons] at h ⊢
    by_cases e : k' = k
    · rw [decide_eq_true e] at h ⊢
      cases h
      exact ⟨_, rfl, h0⟩
    · rw [decide_eq_false e] at h ⊢
      exact valX_rep r h
theorem valX_none {k : Key} : ∀ {ks : List Key} {vs : List V} {xs : List D}, RepL K mg G vs xs → valX ks xs k = none → valX ks vs k = none
  | [], vs, xs, r, h => by simp [valX]
  | k' :: ks, _, _, .nil, h => by simp [valX]
  | k' :: ks, _, _, .cons (v := v0) (d := d0) h0 r, h => by
    unfold valX at h ⊢
    rw [List.zip_cons_cons, List.find?_cons] at h ⊢
    by_cases e : k' = k
    · rw [decide_eq_true e] at h
      cases h
    · rw [decide_eq_false e] at h ⊢
      exact valX_none r h
theorem valX_some {α : Type} {k : Key} : ∀ {ks : List Key} {xs : List α}, ks.length = xs.length → ((valX ks xs k).isSome = hasK ks k)
  | [], [], _ => rfl
  | [], _ :: _, h => by simp at h
  | _ :: _, [], h => by simp at h
  | k' :: ks, x :: xs, h => by
    have ih := valX_some (k := k) (ks := ks) (xs := xs) (by simpa using h)
    unfold valX hasK at ih ⊢
    rw [List.zip_cons_cons, List.find?_cons, List.any_cons]
    by_cases e : k' = k
    · rw [decide_eq_true e]
      rfl
    · rw [decide_eq_false e, Bool.false_or]
      exact ih
theorem any_zip {α : Type} (k : Key) : ∀ {ks : List Key} {vs : List α}, ks.length = vs.length → ((ks.zip vs).any fun kv => decide (kv.1 = k)) = hasK ks k
  | [], [], _ => rfl
  | [], _ :: _, h => by simp at h
  | _ :: _, [], h => by simp at h
  | k' :: ks, v :: vs, h => by
    have ih := any_zip k (ks := ks) (vs := vs) (by simpa using h)
    unfold hasK at ih ⊢
    rw [List.zip_cons_cons, List.any_cons, List.any_cons, ih]
theorem zip_rep {α : Type} (k : Key) (d : α) : ∀ {ks : List Key} {vs : List α}, ks.length = vs.length → (ks.zip vs).map (fun kv => if kv.1 = k then (kv.1, d) else kv) = ks.zip ((ks.zip vs).map fun kv => if kv.1 = k then d else kv.2)
  | [], [], _ => rfl
  | [], _ :: _, h => by simp at h
  | _ :: _, [], h => by simp at h
  | k' :: ks, v :: vs, h => by
    rw [List.zip_cons_cons, List.map_cons, List.map_cons, List.zip_cons_cons, zip_rep k d (by simpa using h)]
    by_cases e : k' = k
    · simp [e]
    · simp [e]
theorem putK_zip {vs : List V} {ks : List Key} (k : Key) (v : V) (h : ks.length = vs.length) : putK (ks.zip vs) k v = (putKs ks k).zip (putXs ks vs k v) := by
  unfold putK putKs putXs
  rw [any_zip k h]
  by_cases e : hasK ks k = true
  · rw [if_pos e, if_pos e, if_pos e, zip_rep k v h]
  · rw [if_neg e, if_neg e, if_neg e, List.zip_append h]
    rfl
theorem putKs_len {α : Type} {ks : List Key} {xs : List α} (k : Key) (d : α) (h : ks.length = xs.length) : (putKs ks k).length = (putXs ks xs k d).length := by
  unfold putKs putXs
  by_cases e : hasK ks k = true
  · rw [if_pos e, if_pos e, List.length_map, List.length_zip]; omega
  · rw [if_neg e, if_neg e, List.length_append, List.length_append, h]; rfl
theorem repX_rep {k : Key} {v : V} {d : D} (hv : Rep K mg G v d) : ∀ {ks : List Key} {vs : List V} {xs : List D}, RepL K mg G vs xs → RepL K mg G ((ks.zip vs).map fun kv => if kv.1 = k then v else kv.2) ((ks.zip xs).map fun kv => if kv.1 = k then d else kv.2)
  | [], _, _, _ => by simp; exact .nil
  | _ :: _, _, _, .nil => by simp; exact .nil
  | k' :: ks, _, _, .cons h0 r => by
    rw [List.zip_cons_cons, List.zip_cons_cons, List.map_cons, List.map_cons]
    refine .cons ?_ (repX_rep hv r)
    by_cases e : k' = k
    · simp only [e, if_true]; exact hv
    · simp only [e, if_false]; exact h0
theorem putXs_rep {k : Key} {v : V} {d : D} {ks : List Key} {vs : List V} {xs : List D} (hv : Rep K mg G v d) (r : RepL K mg G vs xs) : RepL K mg G (putXs ks vs k v) (putXs ks xs k d) := by
  unfold putXs
  by_cases e : hasK ks k = true
  · rw [if_pos e, if_pos e]; exact repX_rep hv r
  · rw [if_neg e, if_neg e]; exact r.append (.cons hv .nil)
/-- a dict that is looked at -/
theorem RepB.dict {ks : List Key} {xs : List D} {v : V} (gh : Same G H) (r : RepB K mg G H v (.dic ks xs)) : ∃ p vs, v = .ref p ∧ H p = some (.dK (ks.zip vs)) ∧ ks.length = vs.length ∧ RepL K mg G vs xs := by
  cases r with
  | sh r => cases r with
    | dic h l r => exact ⟨_, _, rfl, gh _ _ h, l, r⟩
  | dic h l r => exact ⟨_, _, rfl, h, l, r⟩
end
/-! ### {} -/
def nDict : Sx := fun _ => some (.dk [] [])
section
variable {X : Cx} {e a b o : Expr} {f g : Ex} {pos pos' : Pos} {st : Stmt} {F : Sm} {i : Nat} {rp : Pth}
theorem en_dnew : EN X (.Dict [] [] pos) nDict := ⟨⟨_, pe_dnewK, fun G0 H0 Z Γ σ G H Q s R hf k => by
  cases hf
  intro p hp
  exact k G _ _ (fun a => a = p) (Ext.own1 R.gh hp) (.dk (ks := []) (vs := []) rfl upd_same rfl .nil) fun a e => by subst e; exact ⟨R.gh.free hp, hp, by rw [upd_same]; simp⟩⟩⟩
/-! ### d[k], k in d -/
def dDget : D → D → Option D
  | .dic ks xs, j => (dKey j).bind fun k => valX ks xs k
  | _, _ => none
theorem e_dgt (hu : X.A.units + 1 < cLine) (ho : B X o f) (hi : E X e g) (hs : NoSl e := by intro _ _; rfl) : E X (.Subscript o e pos) (gOp dDget f g) := by
  obtain ⟨t, h1, h2⟩ := ho.ex
  obtain ⟨u, q1, q2⟩ := hi.ex
  refine ⟨⟨_, pe_dget hu h1 q1 hs, fun G0 H0 Z Γ σ G H Q d R hf k => ?_⟩⟩
  obtain ⟨x, e1, hf⟩ := obind hf
  obtain ⟨y, e2, hf⟩ := obind hf
  refine h2 G0 H0 Z Γ σ G H _ x R e1 fun G1 H1 v x1 r1 => ?_
  refine q2 G0 H0 Z Γ σ G1 H1 _ y (R.ext x1) e2 fun G2 H2 w x2 r2 => ?_
  cases x with
  | dic ks xs =>
    obtain ⟨ky, e3, hf⟩ := obind hf
    obtain ⟨p, vs, rfl, hp, hl, rl⟩ := (r1.ext x2).dict x2.gh
    obtain ⟨v, ev, rv⟩ := valX_rep rl hf
    refine ⟨p, v, rfl, ?_, k G2 H2 v (x1.trans x2) rv⟩
    rw [dKey_rep e3 r2, ← ev]
    exact DGet.k hp
  | _ => cases hf
def dDin : D → D → Option D
  | j, .dic ks _ => (dKey j).map fun k => .bl (hasK ks k)
  | _, _ => none
def dDnin : D → D → Option D
  | j, .dic ks _ => (dKey j).map fun k => .bl (!hasK ks k)
  | _, _ => none
theorem din_run {t u : TE} (h2 : ∀ G0 H0 Z Γ σ G H Q d, Rel X.K X.mg G0 H0 Z Γ σ G H → g Γ = some d → (∀ G' H' v, Ext G H G' H' → Rep X.K X.mg G' v d → Q v H') → t σ H Q)
    (q2 : ∀ G0 H0 Z Γ σ G H Q d, Rel X.K X.mg G0 H0 Z Γ σ G H → f Γ = some d → (∀ G' H' v, Ext G H G' H' → RepB X.K X.mg G' H' v d → Q v H') → u σ H Q)
    {G0 H0 Z Γ σ G H} {Q : V → Hp → Prop} {x y : D} {ks : List Key} {xs : List D} {ky : Key} (R : Rel X.K X.mg G0 H0 Z Γ σ G H) (e1 : g Γ = some x) (e2 : f Γ = some (.dic ks xs)) (e3 : dKey x = some ky) (k : ∀ G' H', Ext G H G' H' → ∀ b, b = hasK ks ky → Q (.bl b) H') : tDIn t u σ H Q ∧ tDNotIn t u σ H (fun v H' => ∀ c, v = .bl c → Q (.bl (!c)) H') := by
  constructor
  · refine h2 G0 H0 Z Γ σ G H _ x R e1 fun G1 H1 w x1 r1 => ?_
    refine q2 G0 H0 Z Γ σ G1 H1 _ _ (R.ext x1) e2 fun G2 H2 v x2 r2 => ?_
    obtain ⟨p, vs, rfl, hp, hl, rl⟩ := r2.dict x2.gh
    refine ⟨p, valV (ks.zip vs) ky, rfl, ?_, k G2 H2 (x1.trans x2) _ (by rw [valV_zip, valX_some hl])⟩
    rw [dKey_rep e3 r1]
    exact DGet.k hp
  · refine h2 G0 H0 Z Γ σ G H _ x R e1 fun G1 H1 w x1 r1 => ?_
    refine q2 G0 H0 Z Γ σ G1 H1 _ _ (R.ext x1) e2 fun G2 H2 v x2 r2 => ?_
    obtain ⟨p, vs, rfl, hp, hl, rl⟩ := r2.dict x2.gh
    refine ⟨p, valV (ks.zip vs) ky, rfl, ?_, fun c e => ?_⟩
    · rw [dKey_rep e3 r1]
      exact DGet.k hp
    · cases e
      rw [Bool.not_not]
      exact k G2 H2 (x1.trans x2) _ (by rw [valV_zip, valX_some hl])
theorem e_din (hu : X.A.units + 1 < cLine) (hi : E X e g) (ho : B X o f) (hm : behindInMarks .In o = false := by rfl) : E X (.Compare e [.In] [o] pos) (gOp dDin g f) := by
  obtain ⟨t, h1, h2⟩ := hi.ex
  obtain ⟨u, q1, q2⟩ := ho.ex
  refine ⟨⟨_, pe_cmp (pc_din hu h1 q1) hm, fun G0 H0 Z Γ σ G H Q d R hf k => ?_⟩⟩
  obtain ⟨x, e1, hf⟩ := obind hf
  obtain ⟨y, e2, hf⟩ := obind hf
  cases y with
  | dic ks xs =>
    obtain ⟨ky, e3, e4⟩ := Option.map_eq_some_iff.mp hf
    subst e4
    exact (din_run h2 q2 (y := .non) R e1 e2 e3 fun G' H' x b hb => k G' H' _ x (by rw [hb]; exact .bl _)).1
  | _ => cases hf
theorem t_din (hu : X.A.units + 1 < cLine) (hi : E X e g) (ho : B X o f) (hm : behindInMarks .In o = false := by rfl) : T X (.Compare e [.In] [o] pos) (gT (gOp dDin g f)) := by
  obtain ⟨t, h1, h2⟩ := hi.ex
  obtain ⟨u, q1, q2⟩ := ho.ex
  refine ⟨⟨_, pt_cmp (pc_din hu h1 q1) hm, fun G0 H0 Z Γ σ G H Q c R hf k => ?_⟩⟩
  obtain ⟨x, e1, hf⟩ := obind (gT_some hf)
  obtain ⟨y, e2, hf⟩ := obind hf
  cases y with
  | dic ks xs =>
    obtain ⟨ky, e3, e4⟩ := Option.map_eq_some_iff.mp hf
    cases e4
    exact (din_run h2 q2 (y := .non) R e1 e2 e3 fun G' H' x b hb => ⟨b, rfl, by rw [hb]; exact k G' H' x⟩).1
  | _ => cases hf
theorem e_dnin (hu : X.A.units + 1 < cLine) (hi : E X e g) (ho : B X o f) (hm : behindInMarks .NotIn o = false := by rfl) : E X (.Compare e [.NotIn] [o] pos) (gOp dDnin g f) := by
  obtain ⟨t, h1, h2⟩ := hi.ex
  obtain ⟨u, q1, q2⟩ := ho.ex
  refine ⟨⟨_, pe_cmp (pc_dnotin hu h1 q1) hm, fun G0 H0 Z Γ σ G H Q d R hf k => ?_⟩⟩
  obtain ⟨x, e1, hf⟩ := obind hf
  obtain ⟨y, e2, hf⟩ := obind hf
  cases y with
  | dic ks xs =>
    obtain ⟨ky, e3, e4⟩ := Option.map_eq_some_iff.mp hf
    subst e4
    refine h2 G0 H0 Z Γ σ G H _ x R e1 fun G1 H1 w x1 r1 => ?_
    refine q2 G0 H0 Z Γ σ G1 H1 _ _ (R.ext x1) e2 fun G2 H2 v x2 r2 => ?_
    obtain ⟨p, vs, rfl, hp, hl, rl⟩ := r2.dict x2.gh
    refine ⟨p, valV (ks.zip vs) ky, rfl, ?_, k G2 H2 _ (x1.trans x2) (by rw [valV_zip, valX_some hl]; exact .bl _)⟩
    rw [dKey_rep e3 r1]
    exact DGet.k hp
  | _ => cases hf
theorem t_dnin (hu : X.A.units + 1 < cLine) (hi : E X e g) (ho : B X o f) (hm : behindInMarks .NotIn o = false := by rfl) : T X (.Compare e [.NotIn] [o] pos) (gT (gOp dDnin g f)) := by
  obtain ⟨t, h1, h2⟩ := hi.ex
  obtain ⟨u, q1, q2⟩ := ho.ex
  refine ⟨⟨_, pt_cmp (pc_dnotin hu h1 q1) hm, fun G0 H0 Z Γ σ G H Q c R hf k => ?_⟩⟩
  obtain ⟨x, e1, hf⟩ := obind (gT_some hf)
  obtain ⟨y, e2, hf⟩ := obind hf
  cases y with
  | dic ks xs =>
    obtain ⟨ky, e3, e4⟩ := Option.map_eq_some_iff.mp hf
    cases e4
    refine h2 G0 H0 Z Γ σ G H _ x R e1 fun G1 H1 w x1 r1 => ?_
    refine q2 G0 H0 Z Γ σ G1 H1 _ _ (R.ext x1) e2 fun G2 H2 v x2 r2 => ?_
    obtain ⟨p, vs, rfl, hp, hl, rl⟩ := r2.dict x2.gh
    refine ⟨p, valV (ks.zip vs) ky, rfl, ?_, _, rfl, by rw [valV_zip, valX_some hl]; exact k G2 H2 (x1.trans x2)⟩
    rw [dKey_rep e3 r1]
    exact DGet.k hp
  | _ => cases hf
/-! ### list(d), sorted(d) -/
def dListK : D → Option (List D)
  | .dic ks _ => some (ks.map keyD0)
  | _ => none
theorem cb_listK (hc : X.calm = true) : CbL X (.type "list") dListK := by
  refine ⟨_, call_listD hc, fun x d v G H Q gh e r k => ?_⟩
  cases x with
  | dic ks xs =>
    cases e
    obtain ⟨p, vs, rfl, h, hl, rl⟩ := r.dict gh
    refine ⟨p, _, rfl, .inl h, fun q hq => ?_⟩
    have key : ∀ {ks : List Key} {vs : List V}, ks.length = vs.length → ((ks.zip vs).map fun kv => kV kv.1) = ks.map kV := fun {ks} => by
      induction ks with
      | nil => intro vs _; rfl
      | cons k' ks ih =>
        intro vs hl
        cases vs with
        | nil => simp at hl
        | cons v vs => rw [List.zip_cons_cons, List.map_cons, List.map_cons, ih (by simpa using hl)]
    rw [key hl]
    refine k q _ hq ?_
    clear h hl rl r k key
    induction ks with
    | nil => exact .nil
    | cons k' ks ih => exact .cons (kV_rep k') ih
  | _ => cases e
def intKs : List Key → Option (List Int)
  | [] => some []
  | .inl i :: ks => (intKs ks).map (i :: ·)
  | .inr _ :: _ => none
theorem intKs_map : ∀ {ks : List Key} {ns : List Int}, intKs ks = some ns → ks = ns.map Sum.inl
  | [], _, h => by cases h; rfl
  | .inl i :: ks, ns, h => by
    unfold intKs at h
    obtain ⟨ms, h1, h2⟩ := Option.map_eq_some_iff.mp h
    subst h2
    rw [List.map_cons, ← intKs_map h1]
  | .inr _ :: _, _, h => by cases h
theorem intKs_inl : ∀ ns : List Int, intKs (ns.map Sum.inl) = some ns
  | [] => rfl
  | n :: ns => by rw [List.map_cons, intKs, intKs_inl ns]; rfl
def dSortedK : D → Option (List D)
  | .dic ks _ => (intKs ks).bind fun ns => some ((srt ns).map D.int)
  | _ => none
end
end DL
namespace L2
open PySem PySem.Spec PyProof.Rows
section
variable {X : Cx}
/-- sorted(d) of a dict, all keys ints, any number of them -/
theorem call_sortedDA (calm : X.calm = true) : CallR X (.builtin "sorted") (fun args H Q => ∃ (d : Addr) (kvs : List (Key × V)) (ns : List Int), args = [.ref d] ∧ Rd H d (.dK kvs) ∧ kvs.map (·.1) = ns.map Sum.inl ∧
    ∀ (out : List Int) (q : Addr), out.Perm ns → out.Pairwise (· ≤ ·) → H q = none → Q (.ref q) (upd H q (.lst (out.map V.int)))) := by
  intro pins st sl H args vals Q inv rel hyp
  obtain ⟨d, kvs, ns, rfl, std, keys, fin⟩ := hyp
  obtain ⟨w, rfl, rw0⟩ := vals1 rel
  cases rw0
  obtain ⟨small, noMod, prs, both, isD⟩ := dk_rd inv.hok std
  obtain ⟨epoch, found⟩ := isD.dictAt
  have keys2 : prs.map (·.1) = ns.map Sum.inl := both.keys ▸ keys
  have many : prs.length = ns.length := by simpa using congrArg List.length keys2
  have few : prs.length ≤ sizeLine := both.length ▸ small
  refine Calls.call_function_entry PyProof.Rows.kind_sorted PyProof.Rows.plain_sorted PyProof.Rows.entry_sorted (PyProof.Rows.args_sorted1 _) ?_
  unfold Builtin.«sorted»
  refine wpAny_bind (m := checkCount "sorted" 1 1 _) (wpAny_pure (wpAny_bind (PySem.W.kdu_collect (A := X.A.in1) (PySem.W.kdl_dict (knd := mixKind X.prog X.w) (kvs := prs) (ep := epoch) noMod) (inv.ok.hd calm) found few fun heap2 tok2 got stays told => ?_)))
  have num : got.toList.length = ns.length := by rw [Array.length_toList, told.1, many]
  -- what was collected are the keys, all of them whole numbers
  have whole : IntsAre got.toList ns := ints_each num fun place u at0 => by
    obtain ⟨key, y, there, isKey⟩ := told.2 place u (by rw [← Array.getElem?_toList]; exact at0)
    have same : (ns.map Sum.inl)[place]? = some key := by rw [← keys2, List.getElem?_map, there]; rfl
    obtain ⟨n, hn, rfl⟩ := Option.map_eq_some_iff.mp ((List.getElem?_map ..).symm.trans same)
    rcases keyIs_shape (show keyIs (Sum.inl n) u = true from isKey) with ⟨m, tk, e, eu⟩ | ⟨x, tk, e, eu⟩
    · cases e; exact ⟨n, tk, hn, eu⟩
    · cases e
  have inv2 : Inv X pins sl H { st with heap := heap2, toks := tok2 } := inv.kept stays
  have line : got.toList.length ≤ sizeLine := by rw [num, ← many]; exact few
  refine wpAny_bind (wpAny_newList ?_ line)
  have laid : (heap2.push (seqObj "list" got.toList.toArray 0)).get? heap2.objs.size = some (seqObj "list" got.toList.toArray 0) := Heap.get?_push_size _ rfl
  show wpAny _ _ _ _ _ { st with heap := heap2.push (seqObj "list" got.toList.toArray 0), toks := tok2 }
  refine wpAny_bind (wpAny_holding (wpAny_call_entry PyProof.Rows.slot_list_sort ⟨_, laid, rfl⟩ PyProof.Rows.entry_list_sort (SrtO.list_sort_ord (s := { st with heap := heap2.push (seqObj "list" got.toList.toArray 0), toks := tok2 }) SrtO.swo_int laid line (fun two => SrtO.ints_sortable whole two) fun out up stable => ⟨_, rfl, ?_⟩) (PyProof.Rows.args_list_sort _)))
  obtain ⟨isI, perm, rising⟩ := SrtO.ints_out whole up stable
  obtain ⟨ep2, end2⟩ := PyProof.Rows.sortedHeap_at (vs := got.toList) (out := out.toArray) laid
  have line2 : ((out.map SrtO.iv).map V.int).length ≤ sizeLine := by rw [List.length_map, perm.length_eq, ← num]; exact line
  have ok : ObjOk X.prog X.w (upd H heap2.objs.size (.lst ((out.map SrtO.iv).map V.int))) _ heap2.objs.size (.lst ((out.map SrtO.iv).map V.int)) := ⟨line2, out, ep2, vals_of_ints isI, end2⟩
  refine wpAny_pure ⟨_, rfl, .ref heap2.objs.size, _, inv2.laid (t' := tok2) (fun b u there => ?_) (Nat.le_refl _) ok, rfl, fin _ _ perm rising (inv2.hok.fresh (Nat.le_refl _))⟩
  have below : b < heap2.objs.size := Heap.lt_size there
  rw [PyProof.Rows.sortedHeap_old (Nat.ne_of_lt below) (size_push' .. ▸ Nat.lt_succ_of_lt below)]
  exact Heap.get?_push_of_some _ there
end
end L2
namespace DL
open PySem L2
variable [TC : TabCtx]
section
variable {X : Cx} {e a b o : Expr} {f g : Ex} {pos pos' : Pos} {st : Stmt} {F : Sm} {i : Nat} {rp : Pth}
theorem cb_sortedK (hc : X.calm = true) : CbL X (.builtin "sorted") dSortedK := by
  refine ⟨_, call_sortedDA hc, fun x d v G H Q gh e r k => ?_⟩
  cases x with
  | dic ks xs =>
    obtain ⟨ns, e1, e2⟩ := obind e
    cases e2
    obtain ⟨p, vs, rfl, h, hl, rl⟩ := r.dict gh
    have e3 := intKs_map e1
    refine ⟨p, _, ns, rfl, .inl h, ?_, fun ys q hp ho hq => ?_⟩
    · rw [← e3, List.map_fst_zip (by omega)]
    · rw [srt_unique (hp.trans (srt_perm ns).symm) ho (srt_le ns)]
      exact k q _ hq .ofInts
  | _ => cases e
/-! ### d.get(k), d.get(k, x) -/
def dDget1 : D → D → Option D
  | .dic ks xs, j => (dKey j).map fun k => (valX ks xs k).getD .non
  | _, _ => none
theorem e_dget1 {apos cpos : Pos} (hu : X.A.units + 1 < cLine) (ho : B X o f) (hi : E X e g) (m : M1 X o "get" apos e cpos := by exact ⟨rfl, rfl, rfl, rfl⟩) : E X (.Call (.Attribute o "get" apos) [e] [] cpos) (gOp dDget1 f g) := by
  obtain ⟨t, h1, h2⟩ := ho.ex
  obtain ⟨u, q1, q2⟩ := hi.ex
  refine ⟨⟨_, pe_dget1 hu h1 q1 m, fun G0 H0 Z Γ σ G H Q d R hf k => ?_⟩⟩
  obtain ⟨x, e1, hf⟩ := obind hf
  obtain ⟨y, e2, hf⟩ := obind hf
  refine h2 G0 H0 Z Γ σ G H _ x R e1 fun G1 H1 v x1 r1 => ?_
  cases x with
  | dic ks xs =>
    obtain ⟨ky, e3, e4⟩ := Option.map_eq_some_iff.mp hf
    subst e4
    obtain ⟨p, vs, rfl, hp, hl, rl⟩ := r1.dict x1.gh
    refine ⟨p, rfl, .inl ⟨_, .inl hp⟩, ?_⟩
    refine q2 G0 H0 Z Γ σ G1 H1 _ y (R.ext x1) e2 fun G2 H2 w x2 r2 => ?_
    obtain ⟨p', vs', ep, hp, hl, rl⟩ := (r1.ext x2).dict x2.gh
    cases ep
    refine ⟨valV (ks.zip vs') ky, ?_, ?_⟩
    · rw [dKey_rep e3 r2]
      exact DGet.k hp
    · rw [valV_zip]
      cases q : valX ks xs ky with
      | none => rw [valX_none rl q]; rw [q] at k; exact k G2 H2 _ (x1.trans x2) .non
      | some d =>
        obtain ⟨v, ev, rv⟩ := valX_rep rl q
        rw [ev]
        rw [q] at k
        exact k G2 H2 _ (x1.trans x2) rv
  | _ => cases hf
/-! ### d[k] = v -/
def sDPut' (i : Nat) (rp : Pth) (k f : Ex) : Sm := fun Γ => (f Γ).bind fun d => (k Γ).bind fun j => match gP i rp Γ with
  | some (.dk ks xs) => (dKey j).bind fun ky => if ks.length < 1000000 then upP i rp (.dk (putKs ks ky) (putXs ks xs ky d)) Γ else none
  | _ => none
theorem Pack.dict {K : PySem.W.Frag} {mg : Str → Option Value} {G0 H0 : Hp} {Z : Zs} {Γ : DEnv} {σ : L2.St} {G H : Hp} {i : Nat} {rp : Pth} {s : Sl} {ks : List Key} {xs : List D} {v : V} {F1 : Addr → Prop} (gh : Same G H) {Hb : Hp} (P : Pack K mg G0 H0 Z Γ σ i rp s (.dk ks xs) v F1 Hb G H) :
    ∃ l vs, v = .ref l ∧ H l = some (.dK (ks.zip vs)) ∧ ks.length = vs.length ∧ RepL K mg G vs xs ∧ ∀ ks' vs' ys s', ks'.length = vs'.length → RepL K mg G vs' ys → setR rp (.dk ks' ys) s = some s' → Rel K mg G0 H0 Z (Γ.set i s') σ G (upd H l (.dK (ks'.zip vs'))) := by
  have hd := P.hd
  cases hd with
  | dk f h hl r =>
    rename_i l vs
    refine ⟨l, vs, rfl, h, hl, r, fun ks' vs' ys s' hl' r' es => ?_⟩
    have gl := (P.fr l f).1
    refine P.up G _ (fun a => a = l) (.dk ks' ys) s' (Same.refl _) (fun a o q => ?_) (fun a q => .inl q) (fun a o nf q => ?_) (.dk rfl upd_same hl' r') (fun a e => ?_) (fun _ => rfl) es
    · rw [upd_ne (ne_of_none q gl)]; exact gh _ _ q
    · rw [upd_ne]
      · exact q
      · intro e; subst e; exact nf f
    · subst e
      exact ⟨gl, by rw [upd_same]; simp, .inl f⟩
theorem s_dput {sp : Pos} {value : Expr} (hu : X.A.units + 1 < cLine) (hp : PL X o i rp) (he : E X value f) (hk : E X e g)
    (hs : swapsWith value (some (.Subscript o e sp)) pos.line X.env = pure false := by rfl) : S X (.Assign [.Subscript o e sp] value pos) (sDPut' i rp g f) := by
  obtain ⟨t, t1, t2⟩ := he.ex
  obtain ⟨u, u1, u2⟩ := hk.ex
  obtain ⟨w, w1, w2⟩ := hp.ex
  refine ⟨⟨_, ps_dput hu w1 u1 t1 hs, fun G0 H0 Z Γ σ G H D r R hf kk => ?_⟩⟩
  obtain ⟨d, e1, hf⟩ := obind hf
  obtain ⟨j, e2, hf⟩ := obind hf
  refine t2 G0 H0 Z Γ σ G H _ d R e1 fun G1 H1 v x1 r1 => ?_
  have R1 := R.ext x1
  cases q : gP i rp Γ with
  | none => rw [q] at hf; cases hf
  | some s1 =>
    rw [q] at hf
    cases s1 with
    | dk ks xs =>
      obtain ⟨ky, e3, hf⟩ := obind hf
      split at hf
      · rename_i hlen
        obtain ⟨s, s2, a1, a2, rfl⟩ := upP_some hf
        obtain ⟨s', b1, b2, b3⟩ := gP_some q (by simp [SlP])
        rw [a1] at b1
        cases b1
        refine w2 G0 H0 Z Γ σ G1 H1 G1 H1 _ s _ R1 (Ext.refl x1.gh) a1 b2 b3 (by simp) fun v0 pk => ?_
        refine u2 G0 H0 Z Γ σ G1 H1 _ _ R1 e2 fun G2 H2 w x2 r2 => ?_
        obtain ⟨F1, p1⟩ := pk G2 H2 x2
        obtain ⟨l, vs, rfl, d1, dl, d2, d3⟩ := p1.dict x2.gh
        refine ⟨l, _, rfl, ?_, kk σ G2 _ (d3 (putKs ks ky) (putXs ks vs ky v) _ _ (putKs_len _ _ dl) (putXs_rep (r1.mono x2.gg) d2) a2)⟩
        rw [dKey_rep e3 r2, ← putK_zip ky v dl]
        refine DPut.k d1 ?_
        rw [List.length_zip, ← dl, Nat.min_self]
        exact Nat.lt_of_lt_of_le hlen line_big
      · cases hf
    | _ => cases hf
/-! ### what stands at a place becomes known -/
def frzPE (i : Nat) (rp : Pth) (Γ : DEnv) : DEnv := match Γ[i]? with
  | none => Γ
  | some s => match getR rp s with
    | some (.ow xs) => (match setR rp (.sh (.lst xs)) s with | some s' => Γ.set i s' | none => Γ)
    | some (.dk ks xs) => (match setR rp (.sh (.dic ks xs)) s with | some s' => Γ.set i s' | none => Γ)
    | _ => Γ
def sFrzP (i : Nat) (rp : Pth) (f : Sm) : Sm := fun Γ => f (frzPE i rp Γ)
theorem Rel.frzPE {K : PySem.W.Frag} {mg : Str → Option Value} {G0 H0 : Hp} {Z : Zs} {Γ : DEnv} {σ : L2.St} {G H : Hp} (R : Rel K mg G0 H0 Z Γ σ G H) (i : Nat) (rp : Pth) : ∃ G', Rel K mg G0 H0 Z (frzPE i rp Γ) σ G' H := by
  unfold DL.frzPE
  split
  · exact ⟨G, R⟩
  · rename_i s hs
    split
    · rename_i xs q
      split
      · rename_i s' es
        obtain ⟨s0, b1, b2, b3⟩ := gP_some (i := i) (rp := rp) (Γ := Γ) (s1 := .ow xs) (by unfold gP; rw [hs]; exact q) (by simp [SlP])
        rw [hs] at b1
        cases b1
        obtain ⟨G', R', _⟩ := R.frzP (rp := rp) (d := .lst xs) hs q (by simp) b3 (by simp only [toD]) es
        exact ⟨G', R'⟩
      · exact ⟨G, R⟩
    · rename_i ks xs q
      split
      · rename_i s' es
        obtain ⟨s0, b1, b2, b3⟩ := gP_some (i := i) (rp := rp) (Γ := Γ) (s1 := .dk ks xs) (by unfold gP; rw [hs]; exact q) (by simp [SlP])
        rw [hs] at b1
        cases b1
        obtain ⟨G', R', _⟩ := R.frzP (rp := rp) (d := .dic ks xs) hs q (by simp) b3 (by simp only [toD]) es
        exact ⟨G', R'⟩
      · exact ⟨G, R⟩
    · exact ⟨G, R⟩
theorem s_frzP (i : Nat) (rp : Pth) (h : S X st F) : S X st (sFrzP i rp F) := by
  obtain ⟨t, h1, h2⟩ := h.ex
  refine ⟨⟨t, h1, fun G0 H0 Z Γ σ G H D r R hf k => ?_⟩⟩
  obtain ⟨G', R'⟩ := R.frzPE i rp
  exact h2 G0 H0 _ _ σ G' H D r R' hf k
end
end DL

/-! DL27: sorted(set(xs)) of whole numbers, dict(pairs), list(d.items()), d.get(k, x) -/
namespace DL27
open PySem PySem.Spec PyProof.Rows L2
theorem call_set_listI {P : Program} {w : World} {A : Around} {E : Value → Shared → Prop} {s : Shared} {l : Addr} {items : Array Value} (ns : List Int) {Q : Value → Shared → Prop} (hh : A.handled = none) (hl : s.heap.IsList l items) (hi : PyProof.Rows.IntsAre items.toList ns) (hn : ns.length + 1 < scanBound)
    (k : ∀ (h' : Heap) (tk c : Nat), L2.SetR w h' s.heap.objs.size (fun j => decide (j ∈ ns)) c → c ≤ ns.length → (∀ (b : Addr) (o : Obj), s.heap.get? b = some o → h'.get? b = some o) → Q (Value.ref s.heap.objs.size) { heap := h', gens := s.gens, drawn := s.drawn, toks := tk, os := s.os }) :
    wpAny (model P w) A (call (Value.type "set") [Value.ref l]) Q E s := by
  refine wpAny_call (codeAny_of_tree (wpAny_pure (a := Fin.again (Code.builtin "type.__call__" { pos := [Value.type "set", Value.ref l], kw := [] })) ⟨Code.quiet_builtin _ (by decide +kernel), codeAny_builtin F.entry_type_call ?_⟩))
  rw [Around.under_plain (weight_type_call_type ..) rfl]
  unfold Builtin.«type.__call__»
  refine wpAny_ite_false (by decide) ?_
  refine wpAny_ite_false (by rw [F.called_set.canCreate]; rfl) ?_
  refine wpAny_bind (wpAny_of_eq (F.typeCall_set_1 _) ?_)
  obtain ⟨c0, tl0, hm⟩ := F.called_set.mro
  refine wpAny_bind (wpAny_of_eq hm ?_)
  refine wpAny_ite_false (by rfl) ?_
  refine wpAny_bind (wpAny_of_eq F.called_set.made ?_)
  refine wpAny_bind (wpAny_pure ?_)
  refine wpAny_bind (wpAny_holding (wpAny_call (codeAny_mono (code_set_led1 _ (Q₁ := fun obj s1 => obj = .ref s.heap.objs.size ∧ s1 = { s with heap := s.heap.push { cls := Value.type "set", data := Data.set #[] 0 (SetTable.fresh 0 0 !w.params.followText "set-order") } }) (E := fun _ _ => False) ⟨rfl, rfl⟩) ?_)))
  rintro (e | f) s1 hw
  · exact hw.elim
  cases f with
  | next => exact hw.elim
  | brk => exact hw.elim
  | cont => exact hw.elim
  | ret v =>
  obtain ⟨rfl, rfl⟩ := hw
  have ty : ∀ tk, Shared.TypeIs { heap := s.heap.push { cls := Value.type "set", data := Data.set #[] 0 (SetTable.fresh 0 0 !w.params.followText "set-order") }, gens := s.gens, drawn := s.drawn, toks := tk, os := s.os } (Value.ref s.heap.objs.size) "set" := fun tk => ⟨_, Heap.get?_push_size _ rfl, rfl⟩
  refine wpAny_bind (wpAny_isInstance (ty _) F.called_set.sub ?_)
  refine wpAny_ite_false (by rfl) ?_
  refine wpAny_bind (wpAny_holding ?_)
  unfold callSpecial?
  refine wpAny_bind (wpAny_specialOf (ty _) F.called_set.init.lookup ?_)
  refine wpAny_holding ?_
  refine wpAny_bind (wpAny_of_eq (F.called_set.init.bind _) ?_)
  refine wpAny_bind (wpAny_call (codeAny_call_builtin F.called_set.init.plain F.entry_set_init (check_set_init_1 (ty _) ?_)))
  unfold Builtin.«set.__init__»
  refine wpAny_bind (m := noKeywords "set" _) ?_
  unfold noKeywords
  refine wpAny_pure ?_
  show wpAny _ _ (bind (typeNameOfCut 200 (Value.ref s.heap.objs.size)) _) _ _ _
  refine wpAny_bind ?_
  unfold typeNameOfCut
  refine wpAny_bind ?_
  unfold shownTypeOf
  refine wpAny_bind (wpAny_typeOf (ty _) ?_)
  refine wpAny_ite_false (by decide) ?_
  refine wpAny_pure ?_
  unfold typeNameCut
  refine wpAny_of_eq (show typeName (Value.type "set") = pure "set" from rfl) ?_
  refine wpAny_bind (m := checkCount "set" 0 1 _) (wpAny_pure ?_)
  refine wpAny_bind (wpAny_pure ?_)
  unfold setUsed
  refine wpAny_bind (wpAny_bind ?_)
  unfold setState
  refine wpAny_bind (wpAny_load' (Heap.get?_push_size _ rfl) ?_)
  refine wpAny_ite_false (by rfl) ?_
  refine wpAny_pure (wpAny_pure ?_)
  refine wpAny_ite_false (by rfl) ?_
  unfold Builtin.Frozenset.updateFrom
  refine wpAny_bind (wpAny_bind ?_)
  unfold Builtin.Frozenset.isAnySet
  have hl1 := hl.push { cls := Value.type "set", data := Data.set #[] 0 (SetTable.fresh 0 0 !w.params.followText "set-order") }
  have tl : Shared.TypeIs { heap := s.heap.push { cls := Value.type "set", data := Data.set #[] 0 (SetTable.fresh 0 0 !w.params.followText "set-order") }, gens := s.gens, drawn := s.drawn, toks := s.toks, os := s.os } (Value.ref l) "list" := by
    obtain ⟨o, h1, h2⟩ := hl1
    exact ⟨o, h1, by first | exact h2.1 | exact h2.cls | exact h2.1.1⟩
  show wpAny _ _ (bind (isInstance (Value.ref l) (Value.type "set")) _) _ _ _
  refine wpAny_bind (wpAny_isInstance tl F.sub_list_set ?_)
  show wpAny _ _ (isInstance (Value.ref l) (Value.type "frozenset")) _ _ _
  refine wpAny_isInstance tl F.sub_list_frozenset ?_
  refine wpAny_ite_false (by decide) ?_
  refine wpAny_bind (wpAny_typeOf tl ?_)
  refine wpAny_ite_false (by decide) ?_
  refine wpAny_bind (wpAny_pyIter_list hl1 ?_)
  refine wpAny_bind (wpAny_runValue ?_)
  have lt : l < s.heap.objs.size := by
    obtain ⟨o, h1, _⟩ := hl
    exact Heap.lt_size h1
  have sz : (s.heap.push { cls := Value.type "set", data := Data.set #[] 0 (SetTable.fresh 0 0 !w.params.followText "set-order") }).objs.size = s.heap.objs.size + 1 := by rw [Heap.size_push]
  have nel : l ≠ (s.heap.push { cls := Value.type "set", data := Data.set #[] 0 (SetTable.fresh 0 0 !w.params.followText "set-order") }).objs.size := by rw [sz]; exact Nat.ne_of_lt (Nat.lt_succ_of_lt lt)
  have nes : s.heap.objs.size ≠ (s.heap.push { cls := Value.type "set", data := Data.set #[] 0 (SetTable.fresh 0 0 !w.params.followText "set-order") }).objs.size := by rw [sz]; exact Nat.ne_of_lt (Nat.lt_succ_self _)
  have nsl : s.heap.objs.size ≠ l := Nat.ne_of_gt lt
  have len : items.size = ns.length := by rw [← hi.length, Array.length_toList]
  refine set_update_ints (Walks.toS (Walks.list (A := A.in1.in1.in1) (prog := P) (w := w) (show A.in1.in1.in1.handled = none from hh) (s.heap.push { cls := Value.type "set", data := Data.set #[] 0 (SetTable.fresh 0 0 !w.params.followText "set-order") }).objs.size l nel items)) s.heap.objs.size (fun z => by
    rcases List.mem_cons.mp z with z | z
    · exact nes z
    · exact nsl (List.mem_singleton.mp z)) ns len hn (fun i v hv => ?_) items.size 0 _ rfl (Nat.zero_le _) ⟨⟨_, Heap.get?_push_size _ rfl, rfl, rfl⟩, hl1.push _⟩ ⟨0, Nat.le_refl _, setR_new_at ?_⟩ ?_
  · have hv2 : items.toList[i]? = some v := by rw [Array.getElem?_toList]; exact hv
    obtain ⟨t, rfl⟩ := hi.int_at i v hv2
    have hlt : i < ns.length := by
      have := (List.getElem?_eq_some_iff.mp hv2).1
      rw [hi.length] at this
      exact this
    exact ⟨_, t, by rw [List.getD_eq_getElem?_getD, List.getElem?_eq_getElem hlt]; rfl, rfl⟩
  · exact Heap.get?_push_of_some _ (Heap.get?_push_size _ rfl)
  · intro s' c mv hc hS
    obtain ⟨h1, g1, d1, t1, o1⟩ := s'
    obtain ⟨mh, mg, md, mo, mt⟩ := mv
    cases mg
    cases md
    cases mo
    refine wpAny_pure ?_
    refine wpAny_pure ?_
    refine wpAny_pure ?_
    refine wpAny_ite_false (by rfl) ?_
    refine wpAny_pure ?_
    refine k h1 t1 c hS (len ▸ hc) fun b o hb => ?_
    have lb := Heap.lt_size hb
    refine mh b o (fun z => ?_) (Heap.get?_push_of_some _ (Heap.get?_push_of_some _ hb))
    rcases List.mem_cons.mp z with z | z
    · exact absurd z (Nat.ne_of_lt lb)
    · have z := List.mem_singleton.mp z
      rw [sz] at z
      exact absurd z (Nat.ne_of_lt (Nat.lt_succ_of_lt lb))

def dedup : List Int → List Int
  | [] => []
  | n :: ns => if n ∈ ns then dedup ns else n :: dedup ns
theorem dedup_mem {k : Int} : ∀ {ns : List Int}, k ∈ dedup ns ↔ k ∈ ns
  | [] => Iff.rfl
  | n :: ns => by
    unfold dedup
    split
    · rename_i h
      rw [dedup_mem, List.mem_cons]
      exact ⟨.inr, fun z => z.elim (fun e => e ▸ h) id⟩
    · rw [List.mem_cons, List.mem_cons, dedup_mem]
theorem dedup_nodup : ∀ ns : List Int, (dedup ns).Nodup
  | [] => List.nodup_nil
  | n :: ns => by
    unfold dedup
    split
    · exact dedup_nodup ns
    · rename_i h
      exact List.nodup_cons.mpr ⟨fun z => h (dedup_mem.mp z), dedup_nodup ns⟩
theorem nodup_len : ∀ {xs ys : List Int}, xs.Nodup → ys.Nodup → (∀ k, k ∈ xs ↔ k ∈ ys) → xs.length = ys.length := fun {xs ys} hx hy h =>
  Nat.le_antisymm (hx.length_le_of_subset fun k hk => (h k).mp hk) (hy.length_le_of_subset fun k hk => (h k).mpr hk)
theorem setR_len {w : World} {h : Heap} {a : Addr} {ns : List Int} {c : Nat} (H : L2.SetR w h a (fun j => decide (j ∈ ns)) c) : c = (dedup ns).length := by
  obtain ⟨o, es, ep, t, h1, h2, h3, h4, h5, h6, h7, h8, rfl, _⟩ := H
  have e : es.size = (es.toList.map keyOf).length := by rw [List.length_map, Array.length_toList]
  rw [e]
  refine nodup_len h5 (dedup_nodup ns) fun k => ?_
  rw [dedup_mem, ← h6 k, decide_eq_true_eq]
theorem cr_setLI {X : Cx} (calm : X.calm = true) : CallR X (.type "set") (fun xs H Q => ∃ (l : Addr) (ns : List Int), xs = [V.ref l] ∧ SqL X.K H l (ns.map V.int) ∧ ns.length + 1 < scanBound ∧ ∀ p, H p = none → Q (.ref p) (upd H p (SetO X.w p (fun j => decide (j ∈ ns)) (dedup ns).length))) := by
  intro pins s σ H xs us Q inv rel hyp
  obtain ⟨l, ns, rfl, hl, hn, fin⟩ := hyp
  obtain ⟨w, rfl, rw0⟩ := vals1 rel
  cases rw0
  obtain ⟨its, v, pl, _⟩ := inv.list hl
  refine call_set_listI (items := its.toArray) ns (inv.ok.hd calm) pl.isList (RZ.intsAre_vals v) hn fun h' tk c hS hc keep => ?_
  have hc := setR_len hS
  subst hc
  have ok : ObjOk X.prog X.w (upd H s.heap.objs.size (SetO X.w s.heap.objs.size (fun j => decide (j ∈ ns)) (dedup ns).length)) h' s.heap.objs.size (SetO X.w s.heap.objs.size (fun j => decide (j ∈ ns)) (dedup ns).length) := by
    unfold SetO
    unfold ObjOk
    refine ⟨hS, ?_, fun h1 h2 H1 keep2 => ?_⟩
    · obtain ⟨o, es, ep, t, h1, _⟩ := hS
      exact ⟨o, h1⟩
    · obtain ⟨o, es, ep, t, g1, g2⟩ := H1
      exact ⟨o, es, ep, t, keep2 o g1, g2⟩
  exact ⟨.ref s.heap.objs.size, _, inv.laid keep (Nat.le_refl _) ok, rfl, fin _ (inv.hok.fresh (Nat.le_refl _))⟩
end DL27
namespace DL
open PySem L2 DL27
variable [TC : TabCtx]
section
variable {X : Cx} {e a b o : Expr} {f g h : Ex} {pos pos' : Pos} {st : Stmt} {F : Sm} {i : Nat} {rp : Pth}
/-! ### sorted(set(xs)) -/
def dSortedSet (d : D) : Option (List D) := (dInts d).bind fun ns => if ns.length < 4000 ∧ (dedup ns).length < 64 then some ((srt (dedup ns)).map D.int) else none
theorem el_sortedSet {p p2 q2 : Pos} (hc : X.calm = true) (hg : Gl X "sorted") (hm : X.mg "sorted" = none) (hg2 : Gl X "set") (hm2 : X.mg "set" = none) (ha : B X a f)
    (he : starEach [.Call (.Name "set" p2) [a] [] q2] X.env = (false, eval (.Call (.Name "set" p2) [a] [] q2) X.env) :: starEach [] X.env := by rfl) (he2 : starEach [a] X.env = (false, eval a X.env) :: starEach [] X.env := by rfl) (hpl : (backTo pos (starEach [] X.env)).any (·.1) = false := by rfl) (hpl2 : (backTo q2 (starEach [] X.env)).any (·.1) = false := by rfl) :
    EL X (.Call (.Name "sorted" p) [.Call (.Name "set" p2) [a] [] q2] [] pos) (gUL dSortedSet f) := by
  obtain ⟨t, h1, h2⟩ := ha.ex
  refine ⟨⟨_, pe_callB (id := "sorted") (cr_sortedSet hc) hg hm (by rfl) (pa_cons (pe_callTy (T := "set") (cr_setLI hc) hg2 hm2 (by rfl) (pa_cons h1 pa_nil he2) (by decide) (by decide) he2 hpl2) pa_nil he) (by decide) (by decide) he hpl, fun G0 H0 Z Γ σ G H Q d R hf k => ?_⟩⟩
  obtain ⟨y, e1, hf⟩ := obind hf
  obtain ⟨ns, e2, hf⟩ := obind hf
  split at hf
  case isFalse => cases hf
  rename_i hn
  cases hf
  refine h2 G0 H0 Z Γ σ G H _ y R e1 fun G1 H1 v x1 r1 => ?_
  obtain ⟨l, rfl, hl⟩ := r1.ints x1.gh e2
  refine ⟨l, ns, rfl, hl, by show ns.length + 1 < 4096; omega, fun p hp => ?_⟩
  refine ⟨p, _, _, rfl, upd_same, hn.2, fun ns' q hs hmem hlen hq => ?_⟩
  have e3 : ns' = srt (dedup ns) := by
    refine srt_unique (List.Perm.trans ?_ (srt_perm _).symm) (hs.imp fun h => Int.le_of_lt h) (srt_le _)
    refine (List.perm_ext_iff_of_nodup (hs.imp fun h => Int.ne_of_lt h) (dedup_nodup ns)).mpr fun k => ?_
    rw [hmem k, dedup_mem, decide_eq_true_eq]
  subst e3
  have x2 := x1.trans (Ext.own1 (o := SetO X.w p (fun j => decide (j ∈ ns)) (dedup ns).length) x1.gh hp)
  exact k G1 _ q _ (x2.trans (Ext.own1 x2.gh hq)) (x2.hf hq) (x2.gh.free hq) upd_same .ofInts
/-! ### d.get(k, x) -/
def dDget2 : D → D → D → Option D
  | .dic ks xs, j, z => (dKey j).map fun k => (valX ks xs k).getD z
  | _, _, _ => none
def gOp3 (o : D → D → D → Option D) (f g h : Ex) : Ex := fun Γ => (f Γ).bind fun x => (g Γ).bind fun y => (h Γ).bind fun z => o x y z
theorem e_dget2 {e2 : Expr} {apos cpos : Pos} (hu : X.A.units + 1 < cLine) (ho : B X o f) (hi : E X e g) (hj : E X e2 h) (m : M2 X o "get" apos e e2 cpos := by exact ⟨rfl, rfl, rfl, rfl⟩) : E X (.Call (.Attribute o "get" apos) [e, e2] [] cpos) (gOp3 dDget2 f g h) := by
  obtain ⟨t, h1, h2⟩ := ho.ex
  obtain ⟨u, q1, q2⟩ := hi.ex
  obtain ⟨w, w1, w2⟩ := hj.ex
  refine ⟨⟨_, pe_dget2 hu h1 q1 w1 m, fun G0 H0 Z Γ σ G H Q d R hf k => ?_⟩⟩
  obtain ⟨x, e1, hf⟩ := obind hf
  obtain ⟨y, e3, hf⟩ := obind hf
  obtain ⟨z, e4, hf⟩ := obind hf
  refine h2 G0 H0 Z Γ σ G H _ x R e1 fun G1 H1 v x1 r1 => ?_
  cases x with
  | dic ks xs =>
    obtain ⟨ky, e5, e6⟩ := Option.map_eq_some_iff.mp hf
    subst e6
    obtain ⟨p, vs, rfl, hp, hl, rl⟩ := r1.dict x1.gh
    refine ⟨p, rfl, .inl ⟨_, .inl hp⟩, ?_⟩
    refine q2 G0 H0 Z Γ σ G1 H1 _ y (R.ext x1) e3 fun G2 H2 vy x2 r2 => ?_
    have x12 := x1.trans x2
    refine w2 G0 H0 Z Γ σ G2 H2 _ z (R.ext x12) e4 fun G3 H3 vz x3 r3 => ?_
    obtain ⟨p', vs', ep, hp, hl, rl⟩ := ((r1.ext x2).ext x3).dict x3.gh
    cases ep
    refine ⟨valV (ks.zip vs') ky, ?_, ?_⟩
    · rw [dKey_rep e5 r2]
      exact DGet.k hp
    · rw [valV_zip]
      cases q : valX ks xs ky with
      | none => rw [valX_none rl q]; rw [q] at k; exact k G3 H3 _ (x12.trans x3) r3
      | some d =>
        obtain ⟨v, ev, rv⟩ := valX_rep rl q
        rw [ev]
        rw [q] at k
        exact k G3 H3 _ (x12.trans x3) rv
  | _ => cases hf
/-! ### dict(pairs) -/
def pairD : D → Option (Key × D)
  | .tup [j, x] => (dKey j).map fun k => (k, x)
  | _ => none
def pairsD : List D → Option (List (Key × D))
  | [] => some []
  | d :: ds => (pairD d).bind fun q => (pairsD ds).bind fun qs => some (q :: qs)
def mergeD (qs : List (Key × D)) (acc : List Key × List D) : List Key × List D := qs.foldl (fun acc q => (putKs acc.1 q.1, putXs acc.1 acc.2 q.1 q.2)) acc
theorem pair_rep {K : PySem.W.Frag} {mg : Str → Option Value} {G H : Hp} (gh : Same G H) {v : V} {d : D} {q : Key × D} (r : Rep K mg G v d) (h : pairD d = some q) : ∃ p w, v = .ref p ∧ SqT K H p [kV q.1, w] ∧ Rep K mg G w q.2 := by
  cases d with
  | tup xs =>
    match xs, h with
    | [j, x], h =>
      obtain ⟨k, e1, e2⟩ := Option.map_eq_some_iff.mp h
      subst e2
      cases r with
      | tup hg rl =>
        cases rl with
        | cons r1 rl =>
          cases rl with
          | cons r2 rl =>
            cases rl
            rw [dKey_rep e1 r1] at hg
            exact ⟨_, _, rfl, SqT.of (gh _ _ hg), r2⟩
  | _ => cases h
theorem pairs_rep {K : PySem.W.Frag} {mg : Str → Option Value} {G H : Hp} (gh : Same G H) : ∀ {vs : List V} {ds : List D} {qs : List (Key × D)}, RepL K mg G vs ds → pairsD ds = some qs → ∃ (ps : List Addr) (kvs : List (Key × V)), vs = ps.map V.ref ∧ Paired (fun p kv => SqT K H p [kV kv.1, kv.2]) ps kvs ∧ kvs.map (·.1) = qs.map (·.1) ∧ RepL K mg G (kvs.map (·.2)) (qs.map (·.2))
  | _, _, _, .nil, h => by
    cases h
    exact ⟨[], [], rfl, .nil, rfl, .nil⟩
  | _, _, _, .cons r rl, h => by
    obtain ⟨q, e1, h⟩ := obind h
    obtain ⟨qs, e2, h⟩ := obind h
    cases h
    obtain ⟨p, w, rfl, s1, r1⟩ := pair_rep gh r e1
    obtain ⟨ps, kvs, rfl, s2, e3, r2⟩ := pairs_rep gh rl e2
    exact ⟨p :: ps, (q.1, w) :: kvs, rfl, .cons s1 s2, by rw [List.map_cons, List.map_cons, e3], .cons r1 r2⟩
theorem merge_rep {K : PySem.W.Frag} {mg : Str → Option Value} {G : Hp} : ∀ {kvs : List (Key × V)} {qs : List (Key × D)} {ks : List Key} {vs : List V} {xs : List D}, kvs.map (·.1) = qs.map (·.1) → RepL K mg G (kvs.map (·.2)) (qs.map (·.2)) → ks.length = vs.length → RepL K mg G vs xs →
    ∃ vs', mergeK (ks.zip vs) kvs = (mergeD qs (ks, xs)).1.zip vs' ∧ (mergeD qs (ks, xs)).1.length = vs'.length ∧ RepL K mg G vs' (mergeD qs (ks, xs)).2
  | [], [], ks, vs, xs, _, _, hl, r => ⟨vs, rfl, hl, r⟩
  | [], _ :: _, _, _, _, h, _, _, _ => by cases h
  | _ :: _, [], _, _, _, h, _, _, _ => by cases h
  | kv :: kvs, q :: qs, ks, vs, xs, h, rk, hl, r => by
    rw [List.map_cons, List.map_cons] at h rk
    injection h with h1 h2
    cases rk with
    | cons r1 r2 =>
      have e1 : putK (ks.zip vs) kv.1 kv.2 = (putKs ks kv.1).zip (putXs ks vs kv.1 kv.2) := putK_zip _ _ hl
      obtain ⟨vs', a1, a2, a3⟩ := merge_rep (ks := putKs ks q.1) (vs := putXs ks vs q.1 kv.2) (xs := putXs ks xs q.1 q.2) h2 r2 (putKs_len _ _ hl) (putXs_rep r1 r)
      refine ⟨vs', ?_, a2, a3⟩
      show mergeK (putK (ks.zip vs) kv.1 kv.2) kvs = _
      rw [e1, h1]
      exact a1
def dDictP : D → Option Sl
  | .lst ds => (pairsD ds).bind fun qs => some (.dk (mergeD qs ([], [])).1 (mergeD qs ([], [])).2)
  | _ => none
def gDictP (f : Ex) : Sx := fun Γ => (f Γ).bind dDictP
theorem en_dictP {p : Pos} (hc : X.calm = true) (hg : Gl X "dict") (hm : X.mg "dict" = none) (ha : B X a f) (he : starEach [a] X.env = (false, eval a X.env) :: starEach [] X.env := by rfl) (hpl : (backTo pos (starEach [] X.env)).any (·.1) = false := by rfl) : EN X (.Call (.Name "dict" p) [a] [] pos) (gDictP f) := by
  obtain ⟨t, h1, h2⟩ := ha.ex
  refine ⟨⟨_, pe_callTy (T := "dict") (call_dictP hc) hg hm (by rfl) (pa_cons h1 pa_nil he) (by decide) (by decide) he hpl, fun G0 H0 Z Γ σ G H Q s R hf k => ?_⟩⟩
  obtain ⟨y, e1, hf⟩ := obind hf
  refine h2 G0 H0 Z Γ σ G H _ y R e1 fun G1 H1 v x1 r1 => ?_
  cases y with
  | lst ds =>
    obtain ⟨qs, e2, hf⟩ := obind hf
    cases hf
    obtain ⟨l, vs, rfl, hl, rl⟩ := r1.lst x1.gh
    obtain ⟨ps, kvs, rfl, pp, e3, r2⟩ := pairs_rep x1.gh rl e2
    refine ⟨l, ps, kvs, rfl, SqL.of hl, pp, fun q hq => ?_⟩
    obtain ⟨vs', a1, a2, a3⟩ := merge_rep (ks := []) (vs := []) (xs := []) e3 r2 rfl .nil
    rw [show mergeK [] kvs = (mergeD qs ([], [])).1.zip vs' from a1]
    exact k G1 _ _ (fun a => a = q) (x1.trans (Ext.own1 x1.gh hq)) (.dk rfl upd_same a2 a3) fun a e => by subst e; exact ⟨x1.gh.free hq, x1.hf hq, by rw [upd_same]; simp⟩
  | _ => cases hf
/-! ### list(d.items()) -/
def dItemsL : D → Option (List D)
  | .dic ks xs => some ((ks.zip xs).map fun q => .tup [keyD0 q.1, q.2])
  | _ => none
theorem items_rep {K : PySem.W.Frag} {mg : Str → Option Value} {G G' H' : Hp} (gg : Same G G') : ∀ {ts : List Addr} {ks : List Key} {vs : List V} {xs : List D}, (∀ t ∈ ts, G' t = H' t) → ks.length = vs.length → RepL K mg G vs xs → Paired (fun (t : Addr) (q : Key × V) => H' t = some (.tup [kV q.1, q.2])) ts (ks.zip vs) → RepL K mg G' (ts.map V.ref) ((ks.zip xs).map fun q => .tup [keyD0 q.1, q.2])
  | ts, [], [], _, _, _, .nil, p => by cases p; exact .nil
  | ts, [], _ :: _, _, _, h, _, _ => by cases h
  | ts, _ :: _, [], _, _, h, _, _ => by cases h
  | _, k :: ks, v :: vs, _, hg, h, .cons (d := d) (ds := ds) r rl, p => by
    rw [List.zip_cons_cons] at p
    cases p with
    | cons q p =>
      rw [List.zip_cons_cons, List.map_cons, List.map_cons]
      refine .cons (.tup ((hg _ List.mem_cons_self).trans q) (.cons (kV_rep k) (.cons (r.mono gg) .nil))) ?_
      exact items_rep gg (fun t ht => hg t (List.mem_cons_of_mem _ ht)) (by simpa using h) rl p
theorem el_items {p : Pos} {apos cpos : Pos} (hc : X.calm = true) (hg : Gl X "list") (hm : X.mg "list" = none) (ha : B X a f) (hbase : attributeBase a "items" X.env (eval a X.env) = eval a X.env := by rfl) (hline : (apos.endLine == cpos.line) = true := by rfl) : EL X (.Call (.Name "list" p) [.Call (.Attribute a "items" apos) [] [] cpos] [] pos) (gUL dItemsL f) := by
  obtain ⟨t, h1, h2⟩ := ha.ex
  refine ⟨⟨_, LiI.pe_listItems hc h1 hg hm (by rfl) hbase hline, fun G0 H0 Z Γ σ G H Q d R hf k => ?_⟩⟩
  obtain ⟨y, e1, hf⟩ := obind hf
  refine h2 G0 H0 Z Γ σ G H _ y R e1 fun G1 H1 v x1 r1 => ?_
  cases y with
  | dic ks xs =>
    cases hf
    obtain ⟨l, vs, rfl, hl, hlen, rl⟩ := r1.dict x1.gh
    refine ⟨l, _, rfl, hl, fun H' q ts keep hq hts hnq hq' pp => ?_⟩
    have gg : Same G1 (fun a => if a ∈ ts then H' a else G1 a) := fun a o g => by
      show (if a ∈ ts then H' a else G1 a) = some o
      split
      · rename_i z
        have := x1.gh a o g
        rw [hts a z] at this
        cases this
      · exact g
    have ex : Ext G1 H1 (fun a => if a ∈ ts then H' a else G1 a) H' := Ext.same gg keep (fun a o g => by
      have g : (if a ∈ ts then H' a else G1 a) = some o := g
      split at g
      · exact g
      · exact keep _ _ (x1.gh _ _ g)) fun a g => by
      have g : (if a ∈ ts then H' a else G1 a) ≠ none := g
      split at g
      · rename_i z
        exact .inr (hts a z)
      · exact .inl g
    refine k _ H' q _ (x1.trans ex) (x1.hf hq) ?_ hq' (items_rep gg (fun t ht => by show (if t ∈ ts then H' t else G1 t) = _; rw [if_pos ht]) hlen rl pp)
    show (if q ∈ ts then H' q else G1 q) = none
    rw [if_neg hnq]
    exact x1.gh.free hq
  | _ => cases hf
end
end DL

/-! DL29: range with a step -/
namespace DL
open PySem L2
variable [TC : TabCtx]
section
variable {X : Cx} {a b c tg : Expr} {fs : Ag} {pos : Pos}
def rngC (lo c : Int) (n : Nat) : List D := (List.range n).map fun i => .int (lo + (i : Nat) * c)
def dRng3 : List D → Option (List D)
  | [.int i, .int j, .int c] => if c ≠ 0 ∧ c.natAbs < 1073741824 ∧ Builtin.Range.small i j c = true ∧ 0 ≤ Builtin.Range.rangeSize i j c then some (rngC i c (Builtin.Range.rangeSize i j c).toNat) else none
  | _ => none
def gRng3 (fs : Ag) : Ag := fun Γ => (fs Γ).bind dRng3
theorem itm_rangeC {K mg} {G : Hp} {lo c : Int} {n : Nat} : Itm K mg (Itc lo c n) G (rngC lo c n) := by
  intro i G1 H1 s1 s2
  refine ⟨fun hi => by show n ≤ i; simpa [rngC] using hi, fun d hd => ?_⟩
  have hi : i < n := by
    have := (List.getElem?_eq_some_iff.mp hd).1
    simpa [rngC] using this
  refine ⟨hi, fun x H2 y => ?_⟩
  obtain ⟨rfl, rfl⟩ := y
  refine ⟨G1, Ext.refl s2, ?_⟩
  simp [rngC, hi] at hd
  subst hd
  exact .int _
theorem i_rng3 {p : Pos} (hg : Gl X "range") (hm : X.mg "range" = none) (ha : AN X [a, b, c] 3 fs) (hs : starEach [a, b, c] X.env = (false, eval a X.env) :: starEach [b, c] X.env := by rfl) (hpl : (backTo pos (starEach [b, c] X.env)).any (·.1) = false := by rfl) : I X tg (.Call (.Name "range" p) [a, b, c] [] pos) (gRng3 fs) := by
  obtain ⟨t, h1, h2⟩ := ha.a.ex
  refine ⟨⟨_, pi_range3 hg hm h1 hs hpl, fun G0 H0 Z Γ σ G H R ds Rl hf k => ?_⟩⟩
  obtain ⟨xs, e1, hf⟩ := obind hf
  have hl := ha.n Γ xs e1
  refine h2 G0 H0 Z Γ σ G H _ _ Rl e1 fun G1 H1 vs x1 r1 => ?_
  match xs, hl, hf, r1 with
  | [.int i, .int j, .int c], _, hf, .cons r (.cons q (.cons s .nil)) =>
    replace hf : (if c ≠ 0 ∧ c.natAbs < 1073741824 ∧ Builtin.Range.small i j c = true ∧ 0 ≤ Builtin.Range.rangeSize i j c then some (rngC i c (Builtin.Range.rangeSize i j c).toNat) else none) = some ds := hf
    split at hf
    · rename_i z
      cases hf
      rw [r.intv, q.intv, s.intv]
      exact ⟨i, j, c, _, rfl, ⟨z.1, z.2.1, z.2.2.1, by rw [Int.toNat_of_nonneg z.2.2.2]⟩, k G1 H1 _ x1 itm_rangeC⟩
    · cases hf
end
end DL

namespace K28
open PySem L2 DL
def topS (i : Nat) : Stmt := PySem.Challenge.pw_fewestlines_k28_whole_combined_pieces.main.body.getD i (.Pass ⟨0, 0, 0, 0⟩)
section
variable {P : Program} {w : World} {K : PySem.W.Frag} {mg : Str → Option Value} {base : Heap} [TC : TabCtx]
/-! _wall -/
abbrev s__wall : Stmt := topS 1
abbrev N__wall : List Str := ["k"]
theorem sc__wall : FnScope N__wall ["k"] (defScope s__wall) := ⟨rfl, rfl, rfl, by decide +kernel, rfl, by decide +kernel, by decide +kernel⟩
noncomputable def B__wall : Sm :=
  (sWhile (gTru (gC (.bl true)))
  sNil)
noncomputable def S__wall : List D → Option D := runB 1 B__wall
theorem ok__wall {f : Addr} {fd : FuncData} (F : Fun K "_wall" "_wall" s__wall f fd) : FnOk P w K mg base CX0 1 f fd ["k"] (spD K mg 1 S__wall) :=
  def_ok F sc__wall fun cdv A outer s H E hr =>
  (ss_one (s_while PassesOwn.never (t_tru e_bl.bo)
  (ss_one s_pass)))
/-! reduced -/
abbrev s_reduced : Stmt := topS 3
abbrev N_reduced : List Str := ["line", "p", "q", "d", "divisor"]
theorem sc_reduced : FnScope N_reduced ["line"] (defScope s_reduced) := ⟨rfl, rfl, rfl, by decide +kernel, rfl, by decide +kernel, by decide +kernel⟩
noncomputable def B_reduced : Sm :=
  (sSeq (sUnp (gTg 3 (gTo (gN 1) (gTo (gN 2) (gTo (gN 3) gEnd)))) (gV 0))
  (sSeq (sSet 4 (gA dGcd (aC (gA dGcd (aC (gV 1) (aC (gV 2) aN))) (aC (gV 3) aN))))
  (sRet (gTu 3 (aC (gOp dDiv (gV 1) (gV 4)) (aC (gOp dDiv (gV 2) (gV 4)) (aC (gOp dDiv (gV 3) (gV 4)) aN)))))))
noncomputable def S_reduced : List D → Option D := runB 5 B_reduced
theorem ok_reduced {f : Addr} {fd : FuncData} (F : Fun K "reduced" "reduced" s_reduced f fd) (m_gcd : mg "gcd" = some (.builtin "math.gcd")) : FnOk P w K mg base CX0 1 f fd ["line"] (spD K mg 1 S_reduced) :=
  def_ok F sc_reduced fun cdv A outer s H E hr =>
  (ss_cons (s_unp (e_var 0) (g_tup rfl (gl_cons (g_name 1 sc_reduced.nd) (gl_cons (g_name 2 sc_reduced.nd) (gl_cons (g_name 3 sc_reduced.nd) gl_nil)))))
  (ss_cons (s_set 4 sc_reduced.nd (e_cbf cb_gcd (by rfl) m_gcd (n_cons (e_cbf cb_gcd (by rfl) m_gcd (n_cons (e_var 1) (n_cons (e_var 2) n_nil)).a) (n_cons (e_var 3) n_nil)).a))
  (ss_one (s_ret (e_tup (n_cons (e_op od_div (e_var 1) (e_var 4)) (n_cons (e_op od_div (e_var 2) (e_var 4)) (n_cons (e_op od_div (e_var 3) (e_var 4)) n_nil))))))))
/-! floor_at -/
abbrev s_floor_at : Stmt := topS 4
abbrev N_floor_at : List Str := ["line", "place", "p", "q", "d"]
theorem sc_floor_at : FnScope N_floor_at ["line", "place"] (defScope s_floor_at) := ⟨rfl, rfl, rfl, by decide +kernel, rfl, by decide +kernel, by decide +kernel⟩
noncomputable def B_floor_at : Sm :=
  (sSeq (sUnp (gTg 3 (gTo (gN 2) (gTo (gN 3) (gTo (gN 4) gEnd)))) (gV 0))
  (sRet (gOp dDiv (gOp dAdd (gOp dMul (gV 2) (gV 1)) (gV 3)) (gV 4))))
noncomputable def S_floor_at : List D → Option D := runB 5 B_floor_at
theorem ok_floor_at {f : Addr} {fd : FuncData} (F : Fun K "floor_at" "floor_at" s_floor_at f fd) : FnOk P w K mg base CX0 1 f fd ["line", "place"] (spD K mg 2 S_floor_at) :=
  def_ok F sc_floor_at fun cdv A outer s H E hr =>
  (ss_cons (s_unp (e_var 0) (g_tup rfl (gl_cons (g_name 2 sc_floor_at.nd) (gl_cons (g_name 3 sc_floor_at.nd) (gl_cons (g_name 4 sc_floor_at.nd) gl_nil)))))
  (ss_one (s_ret (e_op od_div (e_op od_add (e_op od_mul (e_var 2) (e_var 1)) (e_var 3)) (e_var 4)))))
/-! points_of -/
abbrev s_points_of : Stmt := topS 6
abbrev N_points_of : List Str := ["values"]
theorem sc_points_of : FnScope N_points_of ["values"] (defScope s_points_of) := ⟨rfl, rfl, rfl, by decide +kernel, rfl, by decide +kernel, by decide +kernel⟩
noncomputable def B_points_of : Sm :=
  (sRet (gL (gEnum (aC (gV 0) aN))))
noncomputable def S_points_of : List D → Option D := runB 1 B_points_of
theorem ok_points_of {f : Addr} {fd : FuncData} (F : Fun K "points_of" "points_of" s_points_of f fd) (m_list : mg "list" = none) (m_enumerate : mg "enumerate" = none) : FnOk P w K mg base CX0 1 f fd ["values"] (spD K mg 1 S_points_of) :=
  def_ok F sc_points_of fun cdv A outer s H E hr =>
  (ss_one (s_ret (el_enum (by rfl) (by rfl) m_list (by rfl) m_enumerate (n_cons (e_var 0) n_nil)).fz))
/-! piece_at -/
abbrev s_piece_at : Stmt := topS 7
abbrev N_piece_at : List Str := ["pieces", "index", "first", "last", "middle"]
theorem sc_piece_at : FnScope N_piece_at ["pieces", "index"] (defScope s_piece_at) := ⟨rfl, rfl, rfl, by decide +kernel, rfl, by decide +kernel, by decide +kernel⟩
noncomputable def B_piece_at : Sm :=
  (sSeq (sPar [2, 3] (aC (gI 0) (aC (gOp dSub (gU dLen (gB 0)) (gI 1)) aN)))
  (sSeq (sWhile (gT (gOp dLt (gV 2) (gV 3)))
  (sSeq (sSet 4 (gOp dDiv (gOp dAdd (gOp dAdd (gV 2) (gV 3)) (gI 1)) (gI 2)))
  (sIf (gT (gOp dLe (gIx (gIx (gB 0) (gV 4)) (gI 0)) (gV 1)))
  (sSet 2 (gV 4))
  (sSet 3 (gOp dSub (gV 4) (gI 1))))))
  (sRet (gV 2))))
noncomputable def S_piece_at : List D → Option D := runB 5 B_piece_at
theorem ok_piece_at {f : Addr} {fd : FuncData} (F : Fun K "piece_at" "piece_at" s_piece_at f fd) (m_len : mg "len" = none) : FnOk P w K mg base CX0 1 f fd ["pieces", "index"] (spD K mg 2 S_piece_at) :=
  def_ok F sc_piece_at fun cdv A outer s H E hr =>
  (ss_cons (s_par rfl sc_piece_at.nd (n_cons e_int (n_cons (e_op od_sub (e_cb cb_len (by rfl) m_len boot_len' (b_var 0)) e_int) n_nil)))
  (ss_cons (s_while PassesOwn.never (t_cmp od_lt (e_var 2) (e_var 3))
  (ss_cons (s_set 4 sc_piece_at.nd (e_op od_div (e_op od_add (e_op od_add (e_var 2) (e_var 3)) e_int) e_int))
  (ss_one (s_if (t_cmp od_le (e_ix (e_ix (b_var 0) (e_var 4)).bo e_int) (e_var 1))
  (ss_one (s_set 2 sc_piece_at.nd (e_var 4)))
  (ss_one (s_set 3 sc_piece_at.nd (e_op od_sub (e_var 4) e_int)))))))
  (ss_one (s_ret (e_var 2)))))
/-! parts -/
abbrev s_parts : Stmt := topS 8
abbrev N_parts : List Str := ["pieces", "a", "b", "found", "at", "start", "line", "end"]
theorem sc_parts : FnScope N_parts ["pieces", "a", "b"] (defScope s_parts) := ⟨rfl, rfl, rfl, by decide +kernel, rfl, by decide +kernel, by decide +kernel⟩
noncomputable def B_parts : Sm :=
  (sSeq (sSetO 3 aN)
  (sSeq (sIf (gT (gOp dGe (gV 1) (gV 2)))
  (sFrz 3 (sRet (gV 3)))
  sNil)
  (sSeq (sSet 4 (gCall S_piece_at (aC (gV 0) (aC (gV 1) aN))))
  (sSeq (sWhile (gAnd (gT (gOp dLt (gV 4) (gU dLen (gB 0)))) (gT (gOp dLt (gIx (gIx (gB 0) (gV 4)) (gI 0)) (gV 2))))
  (sSeq (sUnp (gTg 2 (gTo (gN 5) (gTo (gN 6) gEnd))) (gIx (gB 0) (gV 4)))
  (sSeq (sSet 7 (gV 2))
  (sSeq (sIf (gT (gOp dLt (gOp dAdd (gV 4) (gI 1)) (gU dLen (gB 0))))
  (sSet 7 (gA dMin2 (aC (gV 2) (aC (gIx (gIx (gB 0) (gOp dAdd (gV 4) (gI 1))) (gI 0)) aN))))
  sNil)
  (sSeq (sApp 3 [] (gTu 3 (aC (gA dMax2 (aC (gV 1) (aC (gV 5) aN))) (aC (gV 7) (aC (gV 6) aN)))))
  (sAug dAddI 4 (gI 1)))))))
  (sFrz 3 (sRet (gV 3)))))))
noncomputable def S_parts : List D → Option D := runB 8 B_parts
theorem ok_parts {f : Addr} {fd : FuncData} (F : Fun K "parts" "parts" s_parts f fd) (c_piece_at : Cal P w K mg base "piece_at" 1 ["pieces", "index"] S_piece_at) (m_len : mg "len" = none) (m_min : mg "min" = none) (m_max : mg "max" = none) : FnOk P w K mg base CX0 2 f fd ["pieces", "a", "b"] (spD K mg 3 S_parts) :=
  def_ok F sc_parts fun cdv A outer s H E hr =>
  (ss_cons (s_setO 3 sc_parts.nd (el_lst n_nil))
  (ss_cons (s_if (t_cmp od_ge (e_var 1) (e_var 2))
  (ss_one (s_frz 3 (s_ret (e_var 3))))
  ss_nil)
  (ss_cons (s_set 4 sc_parts.nd (e_callC c_piece_at hr (by decide) (n_cons (e_var 0) (n_cons (e_var 1) n_nil))))
  (ss_cons (s_while PassesOwn.never (w_and (t_cmp od_lt (e_var 4) (e_cb cb_len (by rfl) m_len boot_len' (b_var 0))) (w_and1 (t_cmp od_lt (e_ix (e_ix (b_var 0) (e_var 4)).bo e_int) (e_var 2)))).t
  (ss_cons (s_unp (e_ix (b_var 0) (e_var 4)) (g_tup rfl (gl_cons (g_name 5 sc_parts.nd) (gl_cons (g_name 6 sc_parts.nd) gl_nil))))
  (ss_cons (s_set 7 sc_parts.nd (e_var 2))
  (ss_cons (s_if (t_cmp od_lt (e_op od_add (e_var 4) e_int) (e_cb cb_len (by rfl) m_len boot_len' (b_var 0)))
  (ss_one (s_set 7 sc_parts.nd (e_cba (cb_min2 rfl) (by rfl) m_min boot_min' (n_cons (e_var 2) (n_cons (e_ix (e_ix (b_var 0) (e_op od_add (e_var 4) e_int)).bo e_int) n_nil)).a)))
  ss_nil)
  (ss_cons (s_app (pl_var 3) (e_tup (n_cons (e_cba (cb_max2 rfl) (by rfl) m_max boot_max' (n_cons (e_var 1) (n_cons (e_var 5) n_nil)).a) (n_cons (e_var 7) (n_cons (e_var 6) n_nil)))))
  (ss_one (s_augA 4 sc_parts.nd e_int)))))))
  (ss_one (s_frz 3 (s_ret (e_var 3))))))))
/-! line_sum -/
abbrev s_line_sum : Stmt := topS 12
abbrev N_line_sum : List Str := ["one", "other", "p", "q", "d", "r", "s", "c"]
theorem sc_line_sum : FnScope N_line_sum ["one", "other"] (defScope s_line_sum) := ⟨rfl, rfl, rfl, by decide +kernel, rfl, by decide +kernel, by decide +kernel⟩
noncomputable def B_line_sum : Sm :=
  (sSeq (sUnp (gTg 3 (gTo (gN 2) (gTo (gN 3) (gTo (gN 4) gEnd)))) (gV 0))
  (sSeq (sUnp (gTg 3 (gTo (gN 5) (gTo (gN 6) (gTo (gN 7) gEnd)))) (gV 1))
  (sRet (gCall S_reduced (aC (gTu 3 (aC (gOp dAdd (gOp dMul (gV 2) (gV 7)) (gOp dMul (gV 5) (gV 4))) (aC (gOp dAdd (gOp dMul (gV 3) (gV 7)) (gOp dMul (gV 6) (gV 4))) (aC (gOp dMul (gV 4) (gV 7)) aN)))) aN)))))
noncomputable def S_line_sum : List D → Option D := runB 8 B_line_sum
theorem ok_line_sum {f : Addr} {fd : FuncData} (F : Fun K "line_sum" "line_sum" s_line_sum f fd) (c_reduced : Cal P w K mg base "reduced" 1 ["line"] S_reduced) : FnOk P w K mg base CX0 2 f fd ["one", "other"] (spD K mg 2 S_line_sum) :=
  def_ok F sc_line_sum fun cdv A outer s H E hr =>
  (ss_cons (s_unp (e_var 0) (g_tup rfl (gl_cons (g_name 2 sc_line_sum.nd) (gl_cons (g_name 3 sc_line_sum.nd) (gl_cons (g_name 4 sc_line_sum.nd) gl_nil)))))
  (ss_cons (s_unp (e_var 1) (g_tup rfl (gl_cons (g_name 5 sc_line_sum.nd) (gl_cons (g_name 6 sc_line_sum.nd) (gl_cons (g_name 7 sc_line_sum.nd) gl_nil)))))
  (ss_one (s_ret (e_callC c_reduced hr (by decide) (n_cons (e_tup (n_cons (e_op od_add (e_op od_mul (e_var 2) (e_var 7)) (e_op od_mul (e_var 5) (e_var 4))) (n_cons (e_op od_add (e_op od_mul (e_var 3) (e_var 7)) (e_op od_mul (e_var 6) (e_var 4))) (n_cons (e_op od_mul (e_var 4) (e_var 7)) n_nil)))) n_nil))))))
/-! line_over -/
abbrev s_line_over : Stmt := topS 11
abbrev N_line_over : List Str := ["pieces", "index"]
theorem sc_line_over : FnScope N_line_over ["pieces", "index"] (defScope s_line_over) := ⟨rfl, rfl, rfl, by decide +kernel, rfl, by decide +kernel, by decide +kernel⟩
noncomputable def B_line_over : Sm :=
  (sRet (gIx (gIx (gB 0) (gCall S_piece_at (aC (gV 0) (aC (gV 1) aN)))) (gI 1)))
noncomputable def S_line_over : List D → Option D := runB 2 B_line_over
theorem ok_line_over {f : Addr} {fd : FuncData} (F : Fun K "line_over" "line_over" s_line_over f fd) (c_piece_at : Cal P w K mg base "piece_at" 1 ["pieces", "index"] S_piece_at) : FnOk P w K mg base CX0 2 f fd ["pieces", "index"] (spD K mg 2 S_line_over) :=
  def_ok F sc_line_over fun cdv A outer s H E hr =>
  (ss_one (s_ret (e_ix (e_ix (b_var 0) (e_callC c_piece_at hr (by decide) (n_cons (e_var 0) (n_cons (e_var 1) n_nil)))).bo e_int)))
/-! added -/
abbrev s_added : Stmt := topS 10
abbrev N_added : List Str := ["one", "other", "starts", "start", "_"]
theorem sc_added : FnScope N_added ["one", "other"] (defScope s_added) := ⟨rfl, rfl, rfl, by decide +kernel, rfl, by decide +kernel, by decide +kernel⟩
noncomputable def B_added : Sm :=
  (sSeq (sSet 2 (gL (gUL dSortedSet (gL (gLc [3, 4] (gIt (gOp dAdd (gV 0) (gV 1))) (gTg 2 (gTo (gN 3) (gTo (gN 4) gEnd))) gYes (gV 3))))))
  (sRet (gL (gLc [3] (gIt (gV 2)) (gN 3) gYes (gTu 2 (aC (gV 3) (aC (gCall S_line_sum (aC (gCall S_line_over (aC (gV 0) (aC (gV 3) aN))) (aC (gCall S_line_over (aC (gV 1) (aC (gV 3) aN))) aN))) aN)))))))
noncomputable def S_added : List D → Option D := runB 5 B_added
theorem ok_added {f : Addr} {fd : FuncData} (F : Fun K "added" "added" s_added f fd) (m_sorted : mg "sorted" = none) (m_set : mg "set" = none) (c_line_over : Cal P w K mg base "line_over" 2 ["pieces", "index"] S_line_over) (c_line_sum : Cal P w K mg base "line_sum" 2 ["one", "other"] S_line_sum) : FnOk P w K mg base CX0 3 f fd ["one", "other"] (spD K mg 2 S_added) :=
  def_ok F sc_added fun cdv A outer s H E hr =>
  (ss_cons (s_set 2 sc_added.nd (el_sortedSet rfl (by rfl) m_sorted (by rfl) m_set (el_lc (own := [("start", 3), ("_", 4)]) rfl sc_added.nd (i_list (e_op od_add (e_var 0) (e_var 1))).c (blkOk_by (own := [("start", 3), ("_", 4)]) (N := N_added) (sc := defScope s_added) (by decide +kernel)) (by decide) (fun _ _ _ _ _ => (g_tup rfl (gl_cons (g_name 3 sc_added.nd) (gl_cons (g_name 4 sc_added.nd) gl_nil)))) (fun _ _ _ _ _ => ts_nil) (fun _ _ _ _ _ => (e_var 3))).fz.bo).fz)
  (ss_one (s_ret (el_lc (own := [("start", 3)]) rfl sc_added.nd (i_list (e_var 2)).c (blkOk_by (own := [("start", 3)]) (N := N_added) (sc := defScope s_added) (by decide +kernel)) (by decide) (fun _ _ _ _ _ => (g_name 3 sc_added.nd)) (fun _ _ _ _ _ => ts_nil) (fun _ _ _ _ _ => (e_tup (n_cons (e_var 3) (n_cons (e_callC c_line_sum hr (by decide) (n_cons (e_callC c_line_over hr (by decide) (n_cons (e_var 0) (n_cons (e_var 3) n_nil))) (n_cons (e_callC c_line_over hr (by decide) (n_cons (e_var 1) (n_cons (e_var 3) n_nil))) n_nil))) n_nil))))).fz)))
/-! scaled -/
abbrev s_scaled : Stmt := topS 13
abbrev N_scaled : List Str := ["pieces", "factor", "start", "p", "q", "d"]
theorem sc_scaled : FnScope N_scaled ["pieces", "factor"] (defScope s_scaled) := ⟨rfl, rfl, rfl, by decide +kernel, rfl, by decide +kernel, by decide +kernel⟩
noncomputable def B_scaled : Sm :=
  (sRet (gL (gLc [2, 3, 4, 5] (gIt (gV 0)) (gTg 2 (gTo (gN 2) (gTo (gTg 3 (gTo (gN 3) (gTo (gN 4) (gTo (gN 5) gEnd)))) gEnd))) gYes (gTu 2 (aC (gV 2) (aC (gCall S_reduced (aC (gTu 3 (aC (gOp dMul (gV 3) (gV 1)) (aC (gOp dMul (gV 4) (gV 1)) (aC (gV 5) aN)))) aN)) aN))))))
noncomputable def S_scaled : List D → Option D := runB 6 B_scaled
theorem ok_scaled {f : Addr} {fd : FuncData} (F : Fun K "scaled" "scaled" s_scaled f fd) (c_reduced : Cal P w K mg base "reduced" 1 ["line"] S_reduced) : FnOk P w K mg base CX0 2 f fd ["pieces", "factor"] (spD K mg 2 S_scaled) :=
  def_ok F sc_scaled fun cdv A outer s H E hr =>
  (ss_one (s_ret (el_lc (own := [("start", 2), ("p", 3), ("q", 4), ("d", 5)]) rfl sc_scaled.nd (i_list (e_var 0)).c (blkOk_by (own := [("start", 2), ("p", 3), ("q", 4), ("d", 5)]) (N := N_scaled) (sc := defScope s_scaled) (by decide +kernel)) (by decide) (fun _ _ _ _ _ => (g_tup rfl (gl_cons (g_name 2 sc_scaled.nd) (gl_cons (g_tup rfl (gl_cons (g_name 3 sc_scaled.nd) (gl_cons (g_name 4 sc_scaled.nd) (gl_cons (g_name 5 sc_scaled.nd) gl_nil)))) gl_nil)))) (fun _ _ _ _ _ => ts_nil) (fun _ _ _ _ _ => (e_tup (n_cons (e_var 2) (n_cons (e_callC c_reduced hr (by decide) (n_cons (e_tup (n_cons (e_op od_mul (e_var 3) (e_var 1)) (n_cons (e_op od_mul (e_var 4) (e_var 1)) (n_cons (e_var 5) n_nil)))) n_nil)) n_nil))))).fz))
/-! moved -/
abbrev s_moved : Stmt := topS 16
abbrev N_moved : List Str := ["line", "offset", "p", "q", "d"]
theorem sc_moved : FnScope N_moved ["line", "offset"] (defScope s_moved) := ⟨rfl, rfl, rfl, by decide +kernel, rfl, by decide +kernel, by decide +kernel⟩
noncomputable def B_moved : Sm :=
  (sSeq (sUnp (gTg 3 (gTo (gN 2) (gTo (gN 3) (gTo (gN 4) gEnd)))) (gV 0))
  (sRet (gCall S_reduced (aC (gTu 3 (aC (gV 2) (aC (gOp dSub (gV 3) (gOp dMul (gV 2) (gV 1))) (aC (gV 4) aN)))) aN))))
noncomputable def S_moved : List D → Option D := runB 5 B_moved
theorem ok_moved {f : Addr} {fd : FuncData} (F : Fun K "moved" "moved" s_moved f fd) (c_reduced : Cal P w K mg base "reduced" 1 ["line"] S_reduced) : FnOk P w K mg base CX0 2 f fd ["line", "offset"] (spD K mg 2 S_moved) :=
  def_ok F sc_moved fun cdv A outer s H E hr =>
  (ss_cons (s_unp (e_var 0) (g_tup rfl (gl_cons (g_name 2 sc_moved.nd) (gl_cons (g_name 3 sc_moved.nd) (gl_cons (g_name 4 sc_moved.nd) gl_nil)))))
  (ss_one (s_ret (e_callC c_reduced hr (by decide) (n_cons (e_tup (n_cons (e_var 2) (n_cons (e_op od_sub (e_var 3) (e_op od_mul (e_var 2) (e_var 1))) (n_cons (e_var 4) n_nil)))) n_nil)))))
/-! part_of -/
abbrev s_part_of : Stmt := topS 14
abbrev N_part_of : List Str := ["pieces", "a", "b", "first", "_", "line"]
theorem sc_part_of : FnScope N_part_of ["pieces", "a", "b"] (defScope s_part_of) := ⟨rfl, rfl, rfl, by decide +kernel, rfl, by decide +kernel, by decide +kernel⟩
noncomputable def B_part_of : Sm :=
  (sRet (gL (gLc [3, 4, 5] (gIt (gCall S_parts (aC (gV 0) (aC (gV 1) (aC (gV 2) aN))))) (gTg 3 (gTo (gN 3) (gTo (gN 4) (gTo (gN 5) gEnd)))) gYes (gTu 2 (aC (gOp dSub (gV 3) (gV 1)) (aC (gCall S_moved (aC (gV 5) (aC (gU dNeg (gV 1)) aN))) aN))))))
noncomputable def S_part_of : List D → Option D := runB 6 B_part_of
theorem ok_part_of {f : Addr} {fd : FuncData} (F : Fun K "part_of" "part_of" s_part_of f fd) (c_parts : Cal P w K mg base "parts" 2 ["pieces", "a", "b"] S_parts) (c_moved : Cal P w K mg base "moved" 2 ["line", "offset"] S_moved) : FnOk P w K mg base CX0 3 f fd ["pieces", "a", "b"] (spD K mg 3 S_part_of) :=
  def_ok F sc_part_of fun cdv A outer s H E hr =>
  (ss_one (s_ret (el_lc (own := [("first", 3), ("_", 4), ("line", 5)]) rfl sc_part_of.nd (i_list (e_callC c_parts hr (by decide) (n_cons (e_var 0) (n_cons (e_var 1) (n_cons (e_var 2) n_nil))))).c (blkOk_by (own := [("first", 3), ("_", 4), ("line", 5)]) (N := N_part_of) (sc := defScope s_part_of) (by decide +kernel)) (by decide) (fun _ _ _ _ _ => (g_tup rfl (gl_cons (g_name 3 sc_part_of.nd) (gl_cons (g_name 4 sc_part_of.nd) (gl_cons (g_name 5 sc_part_of.nd) gl_nil))))) (fun _ _ _ _ _ => ts_nil) (fun _ _ _ _ _ => (e_tup (n_cons (e_op od_sub (e_var 3) (e_var 1)) (n_cons (e_callC c_moved hr (by decide) (n_cons (e_var 5) (n_cons (e_neg (e_var 1)) n_nil))) n_nil))))).fz))
/-! repeated -/
abbrev s_repeated : Stmt := topS 15
abbrev N_repeated : List Str := ["pieces", "length", "times", "found", "offset", "start", "line"]
theorem sc_repeated : FnScope N_repeated ["pieces", "length", "times"] (defScope s_repeated) := ⟨rfl, rfl, rfl, by decide +kernel, rfl, by decide +kernel, by decide +kernel⟩
noncomputable def B_repeated : Sm :=
  (sSeq (sSetO 3 aN)
  (sSeq (sFor (gRng3 (aC (gI 0) (aC (gOp dMul (gV 2) (gV 1)) (aC (gV 1) aN)))) (gN 4)
  (sExt 3 [] (gLc [5, 6] (gIt (gV 0)) (gTg 2 (gTo (gN 5) (gTo (gN 6) gEnd))) gYes (gTu 2 (aC (gOp dAdd (gV 5) (gV 4)) (aC (gCall S_moved (aC (gV 6) (aC (gV 4) aN))) aN))))))
  (sFrz 3 (sRet (gV 3)))))
noncomputable def S_repeated : List D → Option D := runB 7 B_repeated
theorem ok_repeated {f : Addr} {fd : FuncData} (F : Fun K "repeated" "repeated" s_repeated f fd) (m_range : mg "range" = none) (c_moved : Cal P w K mg base "moved" 2 ["line", "offset"] S_moved) : FnOk P w K mg base CX0 3 f fd ["pieces", "length", "times"] (spD K mg 3 S_repeated) :=
  def_ok F sc_repeated fun cdv A outer s H E hr =>
  (ss_cons (s_setO 3 sc_repeated.nd (el_lst n_nil))
  (ss_cons (s_for PassesOwn.never rfl (i_rng3 (by rfl) m_range (n_cons e_int (n_cons (e_op od_mul (e_var 2) (e_var 1)) (n_cons (e_var 1) n_nil)))).fb (g_name 4 sc_repeated.nd)
  (ss_one (s_ext (pl_var 3) (el_lc (own := [("start", 5), ("line", 6)]) rfl sc_repeated.nd (i_list (e_var 0)).c (blkOk_by (own := [("start", 5), ("line", 6)]) (N := N_repeated) (sc := defScope s_repeated) (by decide +kernel)) (by decide) (fun _ _ _ _ _ => (g_tup rfl (gl_cons (g_name 5 sc_repeated.nd) (gl_cons (g_name 6 sc_repeated.nd) gl_nil)))) (fun _ _ _ _ _ => ts_nil) (fun _ _ _ _ _ => (e_tup (n_cons (e_op od_add (e_var 5) (e_var 4)) (n_cons (e_callC c_moved hr (by decide) (n_cons (e_var 6) (n_cons (e_var 4) n_nil))) n_nil))))))))
  (ss_one (s_frz 3 (s_ret (e_var 3))))))
/-! kept -/
abbrev s_kept : Stmt := topS 18
abbrev N_kept : List Str := ["chain", "vertex", "side", "place", "height", "_", "count", "back", "low", "near", "high"]
theorem sc_kept : FnScope N_kept ["chain", "vertex", "side"] (defScope s_kept) := ⟨rfl, rfl, rfl, by decide +kernel, rfl, by decide +kernel, by decide +kernel⟩
noncomputable def B_kept : Sm :=
  (sSeq (sUnp (gTg 3 (gTo (gN 3) (gTo (gN 4) (gTo (gN 5) gEnd)))) (gV 1))
  (sSeq (sSet 6 (gU dLen (gB 0)))
  (sSeq (sWhile (gT (gOp dGt (gV 6) (gI 1)))
  (sSeq (sUnp (gTg 3 (gTo (gN 7) (gTo (gN 8) (gTo (gN 5) gEnd)))) (gIx (gB 0) (gOp dSub (gV 6) (gI 2))))
  (sSeq (sUnp (gTg 3 (gTo (gN 9) (gTo (gN 10) (gTo (gN 5) gEnd)))) (gIx (gB 0) (gOp dSub (gV 6) (gI 1))))
  (sSeq (sIf (gT (gOp dGt (gOp dMul (gV 2) (gOp dSub (gOp dMul (gOp dSub (gV 10) (gV 8)) (gOp dSub (gV 3) (gV 7))) (gOp dMul (gOp dSub (gV 4) (gV 8)) (gOp dSub (gV 9) (gV 7))))) (gI 0)))
  sBrk
  sNil)
  (sAug dSub 6 (gI 1))))))
  (sRet (gV 6)))))
noncomputable def S_kept : List D → Option D := runK [true, false, false] 11 B_kept
theorem ok_kept {f : Addr} {fd : FuncData} (F : Fun K "kept" "kept" s_kept f fd) (m_len : mg "len" = none) : FnOk P w K mg base CX0 1 f fd ["chain", "vertex", "side"] (spK K mg [true, false, false] S_kept) :=
  def_okK F sc_kept rfl fun cdv A outer s H E hr =>
  (ss_cons (s_unp (e_var 1) (g_tup rfl (gl_cons (g_name 3 sc_kept.nd) (gl_cons (g_name 4 sc_kept.nd) (gl_cons (g_name 5 sc_kept.nd) gl_nil)))))
  (ss_cons (s_set 6 sc_kept.nd (e_cb cb_len (by rfl) m_len boot_len' (b_var 0)))
  (ss_cons (s_while PassesOwn.never (t_cmp od_gt (e_var 6) e_int)
  (ss_cons (s_unp (e_ix (b_var 0) (e_op od_sub (e_var 6) e_int)) (g_tup rfl (gl_cons (g_name 7 sc_kept.nd) (gl_cons (g_name 8 sc_kept.nd) (gl_cons (g_name 5 sc_kept.nd) gl_nil)))))
  (ss_cons (s_unp (e_ix (b_var 0) (e_op od_sub (e_var 6) e_int)) (g_tup rfl (gl_cons (g_name 9 sc_kept.nd) (gl_cons (g_name 10 sc_kept.nd) (gl_cons (g_name 5 sc_kept.nd) gl_nil)))))
  (ss_cons (s_if (t_cmp od_gt (e_op od_mul (e_var 2) (e_op od_sub (e_op od_mul (e_op od_sub (e_var 10) (e_var 8)) (e_op od_sub (e_var 3) (e_var 7))) (e_op od_mul (e_op od_sub (e_var 4) (e_var 8)) (e_op od_sub (e_var 9) (e_var 7))))) e_int)
  (ss_one s_break)
  ss_nil)
  (ss_one (s_augS 6 sc_kept.nd e_int))))))
  (ss_one (s_ret (e_var 6))))))
/-! farthest -/
abbrev s_farthest : Stmt := topS 19
abbrev N_farthest : List Str := ["chain", "rise", "run", "first", "last", "middle", "place", "height", "_", "farther", "other"]
theorem sc_farthest : FnScope N_farthest ["chain", "rise", "run"] (defScope s_farthest) := ⟨rfl, rfl, rfl, by decide +kernel, rfl, by decide +kernel, by decide +kernel⟩
noncomputable def B_farthest : Sm :=
  (sSeq (sPar [3, 4] (aC (gI 0) (aC (gOp dSub (gU dLen (gB 0)) (gI 1)) aN)))
  (sSeq (sWhile (gT (gOp dLt (gV 3) (gV 4)))
  (sSeq (sSet 5 (gOp dDiv (gOp dAdd (gV 3) (gV 4)) (gI 2)))
  (sSeq (sUnp (gTg 3 (gTo (gN 6) (gTo (gN 7) (gTo (gN 8) gEnd)))) (gIx (gB 0) (gV 5)))
  (sSeq (sUnp (gTg 3 (gTo (gN 9) (gTo (gN 10) (gTo (gN 8) gEnd)))) (gIx (gB 0) (gOp dAdd (gV 5) (gI 1))))
  (sIf (gT (gOp dGt (gOp dMul (gV 1) (gOp dSub (gV 9) (gV 6))) (gOp dMul (gV 2) (gOp dSub (gV 10) (gV 7)))))
  (sSet 3 (gOp dAdd (gV 5) (gI 1)))
  (sSet 4 (gV 5)))))))
  (sRet (gIx (gB 0) (gV 3)))))
noncomputable def S_farthest : List D → Option D := runK [true, false, false] 11 B_farthest
theorem ok_farthest {f : Addr} {fd : FuncData} (F : Fun K "farthest" "farthest" s_farthest f fd) (m_len : mg "len" = none) : FnOk P w K mg base CX0 1 f fd ["chain", "rise", "run"] (spK K mg [true, false, false] S_farthest) :=
  def_okK F sc_farthest rfl fun cdv A outer s H E hr =>
  (ss_cons (s_par rfl sc_farthest.nd (n_cons e_int (n_cons (e_op od_sub (e_cb cb_len (by rfl) m_len boot_len' (b_var 0)) e_int) n_nil)))
  (ss_cons (s_while PassesOwn.never (t_cmp od_lt (e_var 3) (e_var 4))
  (ss_cons (s_set 5 sc_farthest.nd (e_op od_div (e_op od_add (e_var 3) (e_var 4)) e_int))
  (ss_cons (s_unp (e_ix (b_var 0) (e_var 5)) (g_tup rfl (gl_cons (g_name 6 sc_farthest.nd) (gl_cons (g_name 7 sc_farthest.nd) (gl_cons (g_name 8 sc_farthest.nd) gl_nil)))))
  (ss_cons (s_unp (e_ix (b_var 0) (e_op od_add (e_var 5) e_int)) (g_tup rfl (gl_cons (g_name 9 sc_farthest.nd) (gl_cons (g_name 10 sc_farthest.nd) (gl_cons (g_name 8 sc_farthest.nd) gl_nil)))))
  (ss_one (s_if (t_cmp od_gt (e_op od_mul (e_var 1) (e_op od_sub (e_var 9) (e_var 6))) (e_op od_mul (e_var 2) (e_op od_sub (e_var 10) (e_var 7))))
  (ss_one (s_set 3 sc_farthest.nd (e_op od_add (e_var 5) e_int)))
  (ss_one (s_set 4 sc_farthest.nd (e_var 5)))))))))
  (ss_one (s_ret (e_ix (b_var 0) (e_var 3))))))
/-! exceeds -/
abbrev s_exceeds : Stmt := topS 21
abbrev N_exceeds : List Str := ["deviation", "error"]
theorem sc_exceeds : FnScope N_exceeds ["deviation", "error"] (defScope s_exceeds) := ⟨rfl, rfl, rfl, by decide +kernel, rfl, by decide +kernel, by decide +kernel⟩
noncomputable def B_exceeds : Sm :=
  (sRet (gOp dGt (gIx (gB 0) (gI 0)) (gOp dMul (gOp dMul (gI 2) (gV 1)) (gIx (gB 0) (gI 1)))))
noncomputable def S_exceeds : List D → Option D := runB 2 B_exceeds
theorem ok_exceeds {f : Addr} {fd : FuncData} (F : Fun K "exceeds" "exceeds" s_exceeds f fd) : FnOk P w K mg base CX0 1 f fd ["deviation", "error"] (spD K mg 2 S_exceeds) :=
  def_ok F sc_exceeds fun cdv A outer s H E hr =>
  (ss_one (s_ret (e_cmp od_gt (e_ix (b_var 0) e_int) (e_op od_mul (e_op od_mul e_int (e_var 1)) (e_ix (b_var 0) e_int)))))
/-! middle_line -/
abbrev s_middle_line : Stmt := topS 22
abbrev N_middle_line : List Str := ["deviation", "run", "place", "height", "_", "between", "level", "rise", "above"]
theorem sc_middle_line : FnScope N_middle_line ["deviation"] (defScope s_middle_line) := ⟨rfl, rfl, rfl, by decide +kernel, rfl, by decide +kernel, by decide +kernel⟩
noncomputable def B_middle_line : Sm :=
  (sSeq (sSet 1 (gIx (gB 0) (gI 1)))
  (sSeq (sUnp (gTg 3 (gTo (gN 2) (gTo (gN 3) (gTo (gN 4) gEnd)))) (gIx (gB 0) (gI 2)))
  (sSeq (sUnp (gTg 3 (gTo (gN 5) (gTo (gN 6) (gTo (gN 4) gEnd)))) (gIx (gB 0) (gI 3)))
  (sSeq (sSet 7 (gOp dSub (gIx (gIx (gB 0) (gI 4)) (gI 1)) (gV 3)))
  (sSeq (sSet 8 (gOp dAdd (gOp dMul (gV 1) (gOp dSub (gV 3) (gV 6))) (gOp dMul (gV 7) (gOp dSub (gV 5) (gV 2)))))
  (sRet (gCall S_reduced (aC (gTu 3 (aC (gOp dMul (gI 2) (gV 7)) (aC (gOp dSub (gOp dMul (gI 2) (gOp dSub (gOp dMul (gV 1) (gV 3)) (gOp dMul (gV 7) (gV 2)))) (gV 8)) (aC (gOp dMul (gI 2) (gV 1)) aN)))) aN))))))))
noncomputable def S_middle_line : List D → Option D := runB 9 B_middle_line
theorem ok_middle_line {f : Addr} {fd : FuncData} (F : Fun K "middle_line" "middle_line" s_middle_line f fd) (c_reduced : Cal P w K mg base "reduced" 1 ["line"] S_reduced) : FnOk P w K mg base CX0 2 f fd ["deviation"] (spD K mg 1 S_middle_line) :=
  def_ok F sc_middle_line fun cdv A outer s H E hr =>
  (ss_cons (s_set 1 sc_middle_line.nd (e_ix (b_var 0) e_int))
  (ss_cons (s_unp (e_ix (b_var 0) e_int) (g_tup rfl (gl_cons (g_name 2 sc_middle_line.nd) (gl_cons (g_name 3 sc_middle_line.nd) (gl_cons (g_name 4 sc_middle_line.nd) gl_nil)))))
  (ss_cons (s_unp (e_ix (b_var 0) e_int) (g_tup rfl (gl_cons (g_name 5 sc_middle_line.nd) (gl_cons (g_name 6 sc_middle_line.nd) (gl_cons (g_name 4 sc_middle_line.nd) gl_nil)))))
  (ss_cons (s_set 7 sc_middle_line.nd (e_op od_sub (e_ix (e_ix (b_var 0) e_int).bo e_int) (e_var 3)))
  (ss_cons (s_set 8 sc_middle_line.nd (e_op od_add (e_op od_mul (e_var 1) (e_op od_sub (e_var 3) (e_var 6))) (e_op od_mul (e_var 7) (e_op od_sub (e_var 5) (e_var 2)))))
  (ss_one (s_ret (e_callC c_reduced hr (by decide) (n_cons (e_tup (n_cons (e_op od_mul e_int (e_var 7)) (n_cons (e_op od_sub (e_op od_mul e_int (e_op od_sub (e_op od_mul (e_var 1) (e_var 3)) (e_op od_mul (e_var 7) (e_var 2)))) (e_var 8)) (n_cons (e_op od_mul e_int (e_var 1)) n_nil)))) n_nil)))))))))
/-! indexes_of -/
abbrev s_indexes_of : Stmt := topS 23
abbrev N_indexes_of : List Str := ["deviation"]
theorem sc_indexes_of : FnScope N_indexes_of ["deviation"] (defScope s_indexes_of) := ⟨rfl, rfl, rfl, by decide +kernel, rfl, by decide +kernel, by decide +kernel⟩
noncomputable def B_indexes_of : Sm :=
  (sRet (gTu 3 (aC (gIx (gIx (gB 0) (gI 2)) (gI 2)) (aC (gIx (gIx (gB 0) (gI 3)) (gI 2)) (aC (gIx (gIx (gB 0) (gI 4)) (gI 2)) aN)))))
noncomputable def S_indexes_of : List D → Option D := runB 1 B_indexes_of
theorem ok_indexes_of {f : Addr} {fd : FuncData} (F : Fun K "indexes_of" "indexes_of" s_indexes_of f fd) : FnOk P w K mg base CX0 1 f fd ["deviation"] (spD K mg 1 S_indexes_of) :=
  def_ok F sc_indexes_of fun cdv A outer s H E hr =>
  (ss_one (s_ret (e_tup (n_cons (e_ix (e_ix (b_var 0) e_int).bo e_int) (n_cons (e_ix (e_ix (b_var 0) e_int).bo e_int) (n_cons (e_ix (e_ix (b_var 0) e_int).bo e_int) n_nil))))))
/-! deviation_under -/
abbrev s_deviation_under : Stmt := topS 25
abbrev N_deviation_under : List Str := ["first", "vertex", "other", "side", "run", "rise", "middle", "over"]
theorem sc_deviation_under : FnScope N_deviation_under ["first", "vertex", "other", "side"] (defScope s_deviation_under) := ⟨rfl, rfl, rfl, by decide +kernel, rfl, by decide +kernel, by decide +kernel⟩
noncomputable def B_deviation_under : Sm :=
  (sSeq (sSet 4 (gOp dSub (gIx (gB 1) (gI 0)) (gIx (gB 0) (gI 0))))
  (sSeq (sSet 5 (gOp dSub (gIx (gB 1) (gI 1)) (gIx (gB 0) (gI 1))))
  (sSeq (sSet 6 (gCall S_farthest (aC (gB 2) (aC (gOp dMul (gV 3) (gV 5)) (aC (gOp dMul (gV 3) (gV 4)) aN)))))
  (sSeq (sIf (gT (gOp dLt (gIx (gB 6) (gI 0)) (gIx (gB 0) (gI 0))))
  (sRet (gC .non))
  sNil)
  (sSeq (sSet 7 (gOp dMul (gV 3) (gOp dAdd (gOp dMul (gV 4) (gOp dSub (gIx (gB 0) (gI 1)) (gIx (gB 6) (gI 1)))) (gOp dMul (gV 5) (gOp dSub (gIx (gB 6) (gI 0)) (gIx (gB 0) (gI 0)))))))
  (sRet (gTu 5 (aC (gV 7) (aC (gV 4) (aC (gV 0) (aC (gV 6) (aC (gV 1) aN))))))))))))
noncomputable def S_deviation_under : List D → Option D := runK [false, false, true, false] 8 B_deviation_under
theorem ok_deviation_under {f : Addr} {fd : FuncData} (F : Fun K "deviation_under" "deviation_under" s_deviation_under f fd) (c_farthest : CalK P w K mg base "farthest" 1 ["chain", "rise", "run"] [true, false, false] S_farthest) : FnOk P w K mg base CX0 2 f fd ["first", "vertex", "other", "side"] (spK K mg [false, false, true, false] S_deviation_under) :=
  def_okK F sc_deviation_under rfl fun cdv A outer s H E hr =>
  (ss_cons (s_set 4 sc_deviation_under.nd (e_op od_sub (e_ix (b_var 1) e_int) (e_ix (b_var 0) e_int)))
  (ss_cons (s_set 5 sc_deviation_under.nd (e_op od_sub (e_ix (b_var 1) e_int) (e_ix (b_var 0) e_int)))
  (ss_cons (s_set 6 sc_deviation_under.nd (e_callK c_farthest hr (by decide) (m_bo (b_var 2) (m_sh (e_op od_mul (e_var 3) (e_var 5)) (m_sh (e_op od_mul (e_var 3) (e_var 4)) m_nil)))))
  (ss_cons (s_if (t_cmp od_lt (e_ix (b_var 6) e_int) (e_ix (b_var 0) e_int))
  (ss_one (s_ret e_non))
  ss_nil)
  (ss_cons (s_set 7 sc_deviation_under.nd (e_op od_mul (e_var 3) (e_op od_add (e_op od_mul (e_var 4) (e_op od_sub (e_ix (b_var 0) e_int) (e_ix (b_var 6) e_int))) (e_op od_mul (e_var 5) (e_op od_sub (e_ix (b_var 6) e_int) (e_ix (b_var 0) e_int))))))
  (ss_one (s_ret (e_tup (n_cons (e_var 7) (n_cons (e_var 4) (n_cons (e_var 0) (n_cons (e_var 6) (n_cons (e_var 1) n_nil)))))))))))))
/-! Strip.__init__ -/
abbrev s_Strip___init__ : Stmt := inClass (topS 24) 0
abbrev N_Strip___init__ : List Str := ["self"]
theorem sc_Strip___init__ : FnScope N_Strip___init__ ["self"] (defScope s_Strip___init__) := ⟨rfl, rfl, rfl, by decide +kernel, rfl, by decide +kernel, by decide +kernel⟩
noncomputable def B_Strip___init__ : Sm :=
  (sSeq (sFld 0 [] 4 0 (nOw aN))
  (sSeq (sFld 0 [] 4 1 (nOw aN))
  (sFld 0 [] 4 2 (nSh (gC .non)))))
noncomputable def S_Strip___init__ : Sl → List D → Option (D × Sl) := runM 1 B_Strip___init__
theorem ok_Strip___init__ {f : Addr} {fd : FuncData} {C4 : Addr} (F : Fun K "__init__" "Strip.__init__" s_Strip___init__ f fd) (ck4 : CK K mg 4 C4) : FnOk P w K mg base CX0 1 f fd ["self"] (spM K mg 0 S_Strip___init__) :=
  def_okM F sc_Strip___init__ rfl fun cdv A outer s H E hr =>
  (ss_cons (s_fld (c := 4) (j := 0) ck4 (pl_var 0) (el_lst n_nil).nw)
  (ss_cons (s_fld (c := 4) (j := 1) ck4 (pl_var 0) (el_lst n_nil).nw)
  (ss_one (s_fld (c := 4) (j := 2) ck4 (pl_var 0) e_non.nw))))
/-! Strip.step_with -/
abbrev s_Strip_step_with : Stmt := inClass (topS 24) 1
abbrev N_Strip_step_with : List Str := ["self", "vertex", "above", "below", "found"]
theorem sc_Strip_step_with : FnScope N_Strip_step_with ["self", "vertex"] (defScope s_Strip_step_with) := ⟨rfl, rfl, rfl, by decide +kernel, rfl, by decide +kernel, by decide +kernel⟩
noncomputable def B_Strip_step_with : Sm :=
  (sSeq (sIf (gNot (gTru (gU (dFld 4 0) (gB 0))))
  (sRet (gTu 3 (aC (gTu 5 (aC (gI 0) (aC (gI 1) (aC (gV 1) (aC (gV 1) (aC (gV 1) aN)))))) (aC (gI 0) (aC (gI 0) aN)))))
  sNil)
  (sSeq (sSet 2 (gCall S_kept (aC (gU (dFld 4 0) (gB 0)) (aC (gV 1) (aC (gI 1) aN)))))
  (sSeq (sSet 3 (gCall S_kept (aC (gU (dFld 4 1) (gB 0)) (aC (gV 1) (aC (gU dNeg (gI 1)) aN)))))
  (sSeq (sSet 4 (gCall S_deviation_under (aC (gIx (gU (dFld 4 0) (gB 0)) (gOp dSub (gV 2) (gI 1))) (aC (gV 1) (aC (gU (dFld 4 1) (gB 0)) (aC (gI 1) aN))))))
  (sSeq (sIf (gT (gOp dIsN (gB 4) (gC .non)))
  (sSet 4 (gCall S_deviation_under (aC (gIx (gU (dFld 4 1) (gB 0)) (gOp dSub (gV 3) (gI 1))) (aC (gV 1) (aC (gU (dFld 4 0) (gB 0)) (aC (gU dNeg (gI 1)) aN))))))
  sNil)
  (sSeq (sIf (gT (gOp dIsN (gB 4) (gC .non)))
  (sSet 4 (gIm (gU (dFld 4 2) (gB 0))))
  sNil)
  (sRet (gTu 3 (aC (gV 4) (aC (gV 2) (aC (gV 3) aN)))))))))))
noncomputable def S_Strip_step_with : List D → Option D := runK [true, false] 5 B_Strip_step_with
theorem ok_Strip_step_with {f : Addr} {fd : FuncData} {C4 : Addr} (F : Fun K "step_with" "Strip.step_with" s_Strip_step_with f fd) (ck4 : CK K mg 4 C4) (c_kept : CalK P w K mg base "kept" 1 ["chain", "vertex", "side"] [true, false, false] S_kept) (c_deviation_under : CalK P w K mg base "deviation_under" 2 ["first", "vertex", "other", "side"] [false, false, true, false] S_deviation_under) : FnOk P w K mg base CX0 3 f fd ["self", "vertex"] (spK K mg [true, false] S_Strip_step_with) :=
  def_okK F sc_Strip_step_with rfl fun cdv A outer s H E hr =>
  (ss_cons (s_if (t_not (t_tru (b_fld (c := 4) (j := 0) ck4 (b_var 0))))
  (ss_one (s_ret (e_tup (n_cons (e_tup (n_cons e_int (n_cons e_int (n_cons (e_var 1) (n_cons (e_var 1) (n_cons (e_var 1) n_nil)))))) (n_cons e_int (n_cons e_int n_nil))))))
  ss_nil)
  (ss_cons (s_set 2 sc_Strip_step_with.nd (e_callK c_kept hr (by decide) (m_bo (b_fld (c := 4) (j := 0) ck4 (b_var 0)) (m_sh (e_var 1) (m_sh e_int m_nil)))))
  (ss_cons (s_set 3 sc_Strip_step_with.nd (e_callK c_kept hr (by decide) (m_bo (b_fld (c := 4) (j := 1) ck4 (b_var 0)) (m_sh (e_var 1) (m_sh (e_neg e_int) m_nil)))))
  (ss_cons (s_set 4 sc_Strip_step_with.nd (e_callK c_deviation_under hr (by decide) (m_sh (e_ix (b_fld (c := 4) (j := 0) ck4 (b_var 0)) (e_op od_sub (e_var 2) e_int)) (m_sh (e_var 1) (m_bo (b_fld (c := 4) (j := 1) ck4 (b_var 0)) (m_sh e_int m_nil))))))
  (ss_cons (s_if (t_cmpB ob_isN (b_var 4) e_non.bo)
  (ss_one (s_set 4 sc_Strip_step_with.nd (e_callK c_deviation_under hr (by decide) (m_sh (e_ix (b_fld (c := 4) (j := 1) ck4 (b_var 0)) (e_op od_sub (e_var 3) e_int)) (m_sh (e_var 1) (m_bo (b_fld (c := 4) (j := 0) ck4 (b_var 0)) (m_sh (e_neg e_int) m_nil)))))))
  ss_nil)
  (ss_cons (s_if (t_cmpB ob_isN (b_var 4) e_non.bo)
  (ss_one (s_set 4 sc_Strip_step_with.nd (b_fld (c := 4) (j := 2) ck4 (b_var 0)).im))
  ss_nil)
  (ss_one (s_ret (e_tup (n_cons (e_var 4) (n_cons (e_var 2) (n_cons (e_var 3) n_nil))))))))))))
/-! Strip.take -/
abbrev s_Strip_take : Stmt := inClass (topS 24) 2
abbrev N_Strip_take : List Str := ["self", "vertex", "step", "above", "below"]
theorem sc_Strip_take : FnScope N_Strip_take ["self", "vertex", "step"] (defScope s_Strip_take) := ⟨rfl, rfl, rfl, by decide +kernel, rfl, by decide +kernel, by decide +kernel⟩
noncomputable def B_Strip_take : Sm :=
  (sSeq (sUnpF 0 [] 4 2 3 (gTo (gN 3) (gTo (gN 4) gEnd)) (gV 2))
  (sSeq (sDelF 0 [(4, 0)] (gV 3))
  (sSeq (sApp 0 [(4, 0)] (gV 1))
  (sSeq (sDelF 0 [(4, 1)] (gV 4))
  (sApp 0 [(4, 1)] (gV 1))))))
noncomputable def S_Strip_take : Sl → List D → Option (D × Sl) := runM 5 B_Strip_take
theorem ok_Strip_take {f : Addr} {fd : FuncData} {C4 : Addr} (F : Fun K "take" "Strip.take" s_Strip_take f fd) (ck4 : CK K mg 4 C4) : FnOk P w K mg base CX0 1 f fd ["self", "vertex", "step"] (spM K mg 2 S_Strip_take) :=
  def_okM F sc_Strip_take rfl fun cdv A outer s H E hr =>
  (ss_cons (s_unpF (c := 4) (j := 2) ck4 (pl_var 0) (e_var 2) (gl_cons (g_name 3 sc_Strip_take.nd) (gl_cons (g_name 4 sc_Strip_take.nd) gl_nil)) rfl)
  (ss_cons (s_delF (pl_fld (c := 4) (j := 0) ck4 (pl_var 0)) (e_var 3))
  (ss_cons (s_app (pl_fld (c := 4) (j := 0) ck4 (pl_var 0)) (e_var 1))
  (ss_cons (s_delF (pl_fld (c := 4) (j := 1) ck4 (pl_var 0)) (e_var 4))
  (ss_one (s_app (pl_fld (c := 4) (j := 1) ck4 (pl_var 0)) (e_var 1)))))))
/-! Strip.line -/
abbrev s_Strip_line : Stmt := inClass (topS 24) 3
abbrev N_Strip_line : List Str := ["self"]
theorem sc_Strip_line : FnScope N_Strip_line ["self"] (defScope s_Strip_line) := ⟨rfl, rfl, rfl, by decide +kernel, rfl, by decide +kernel, by decide +kernel⟩
noncomputable def B_Strip_line : Sm :=
  (sSeq (sIf (gNot (gTru (gU (dFld 4 0) (gB 0))))
  (sRet (gTu 3 (aC (gI 0) (aC (gI 0) (aC (gI 1) aN)))))
  sNil)
  (sRet (gCall S_middle_line (aC (gIm (gU (dFld 4 2) (gB 0))) aN))))
noncomputable def S_Strip_line : List D → Option D := runK [true] 1 B_Strip_line
theorem ok_Strip_line {f : Addr} {fd : FuncData} {C4 : Addr} (F : Fun K "line" "Strip.line" s_Strip_line f fd) (ck4 : CK K mg 4 C4) (c_middle_line : Cal P w K mg base "middle_line" 2 ["deviation"] S_middle_line) : FnOk P w K mg base CX0 3 f fd ["self"] (spK K mg [true] S_Strip_line) :=
  def_okK F sc_Strip_line rfl fun cdv A outer s H E hr =>
  (ss_cons (s_if (t_not (t_tru (b_fld (c := 4) (j := 0) ck4 (b_var 0))))
  (ss_one (s_ret (e_tup (n_cons e_int (n_cons e_int (n_cons e_int n_nil))))))
  ss_nil)
  (ss_one (s_ret (e_callC c_middle_line hr (by decide) (n_cons (b_fld (c := 4) (j := 2) ck4 (b_var 0)).im n_nil)))))
/-! longest_piece -/
abbrev s_longest_piece : Stmt := topS 26
abbrev N_longest_piece : List Str := ["points", "start", "error", "strip", "index", "place", "height", "vertex", "step"]
theorem sc_longest_piece : FnScope N_longest_piece ["points", "start", "error"] (defScope s_longest_piece) := ⟨rfl, rfl, rfl, by decide +kernel, rfl, by decide +kernel, by decide +kernel⟩
noncomputable def B_longest_piece : Sm :=
  (sSeq (sSetN 3 (gMk 4 S_Strip___init__ aN))
  (sSeq (sFor (gRng (aC (gV 1) (aC (gU dLen (gB 0)) aN))) (gN 4)
  (sSeq (sUnp (gTg 2 (gTo (gN 5) (gTo (gN 6) gEnd))) (gIx (gB 0) (gV 4)))
  (sSeq (sSet 7 (gTu 3 (aC (gV 5) (aC (gV 6) (aC (gV 4) aN)))))
  (sSeq (sSet 8 (gMeth 4 S_Strip_step_with (gB 3) (aC (gV 7) aN)))
  (sSeq (sIf (gTru (gCall S_exceeds (aC (gIx (gB 8) (gI 0)) (aC (gV 2) aN))))
  (sRet (gTu 3 (aC (gV 4) (aC (gMeth 4 S_Strip_line (gB 3) aN) (aC (gCall S_indexes_of (aC (gIx (gB 8) (gI 0)) aN)) aN)))))
  sNil)
  (sExpM (gMM 3 [] 4 S_Strip_take (aC (gV 7) (aC (gV 8) aN)))))))))
  (sRet (gTu 3 (aC (gU dLen (gB 0)) (aC (gMeth 4 S_Strip_line (gB 3) aN) (aC (gC .non) aN)))))))
noncomputable def S_longest_piece : List D → Option D := runB 9 B_longest_piece
theorem ok_longest_piece {f : Addr} {fd : FuncData} (F : Fun K "longest_piece" "longest_piece" s_longest_piece f fd) (k_Strip : Mak P w K mg base 4 1 ["self"] S_Strip___init__) (m_len : mg "len" = none) (m_range : mg "range" = none) (c_Strip_step_with : MetK P w K mg base 4 "step_with" 3 ["self", "vertex"] [true, false] S_Strip_step_with) (c_exceeds : Cal P w K mg base "exceeds" 1 ["deviation", "error"] S_exceeds) (c_indexes_of : Cal P w K mg base "indexes_of" 1 ["deviation"] S_indexes_of) (c_Strip_line : MetK P w K mg base 4 "line" 3 ["self"] [true] S_Strip_line) (c_Strip_take : MetM P w K mg base 4 "take" 1 ["self", "vertex", "step"] S_Strip_take) : FnOk P w K mg base CX0 4 f fd ["points", "start", "error"] (spD K mg 3 S_longest_piece) :=
  def_ok F sc_longest_piece fun cdv A outer s H E hr =>
  (ss_cons (s_setN 3 sc_longest_piece.nd (e_mkC0 (c := 4) k_Strip hr (by decide)))
  (ss_cons (s_for PassesOwn.never rfl (i_rng2 (by rfl) m_range (n_cons (e_var 1) (n_cons (e_cb cb_len (by rfl) m_len boot_len' (b_var 0)) n_nil))).fb (g_name 4 sc_longest_piece.nd)
  (ss_cons (s_unp (e_ix (b_var 0) (e_var 4)) (g_tup rfl (gl_cons (g_name 5 sc_longest_piece.nd) (gl_cons (g_name 6 sc_longest_piece.nd) gl_nil))))
  (ss_cons (s_set 7 sc_longest_piece.nd (e_tup (n_cons (e_var 5) (n_cons (e_var 6) (n_cons (e_var 4) n_nil)))))
  (ss_cons (s_set 8 sc_longest_piece.nd (e_metK c_Strip_step_with hr (by decide) (b_var 3) (m_sh (e_var 7) m_nil)))
  (ss_cons (s_if (t_tru (e_callC c_exceeds hr (by decide) (n_cons (e_ix (b_var 8) e_int) (n_cons (e_var 2) n_nil))).bo)
  (ss_one (s_ret (e_tup (n_cons (e_var 4) (n_cons (e_metK0 c_Strip_line hr (by decide) (b_var 3)) (n_cons (e_callC c_indexes_of hr (by decide) (n_cons (e_ix (b_var 8) e_int) n_nil)) n_nil))))))
  ss_nil)
  (ss_one (s_exprM (em_met c_Strip_take hr (by decide) (pl_var 3) (n_cons (e_var 7) (n_cons (e_var 8) n_nil))))))))))
  (ss_one (s_ret (e_tup (n_cons (e_cb cb_len (by rfl) m_len boot_len' (b_var 0)) (n_cons (e_metK0 c_Strip_line hr (by decide) (b_var 3)) (n_cons e_non n_nil))))))))
/-! taken_in_turn -/
abbrev s_taken_in_turn : Stmt := topS 30
abbrev N_taken_in_turn : List Str := ["longest", "length", "pieces", "reasons", "start", "end", "shape", "why"]
theorem sc_taken_in_turn : FnScope N_taken_in_turn ["longest", "length"] (defScope s_taken_in_turn) := ⟨rfl, rfl, rfl, by decide +kernel, rfl, by decide +kernel, by decide +kernel⟩
noncomputable def B_taken_in_turn : D → (List D → Option D) → Sm := fun d0 F =>
  (sSeq (sSetO 2 aN)
  (sSeq (sSetO 3 aN)
  (sSeq (sSet 4 (gI 0))
  (sSeq (sWhile (gT (gOp dLt (gV 4) (gV 1)))
  (sSeq (sUnp (gTg 3 (gTo (gN 5) (gTo (gN 6) (gTo (gN 7) gEnd)))) (gFn d0 F 0 (aC (gV 4) aN)))
  (sSeq (sApp 2 [] (gTu 2 (aC (gV 4) (aC (gV 6) aN))))
  (sSeq (sIf (gT (gOp dNoN (gB 7) (gC .non)))
  (sApp 3 [] (gV 7))
  sNil)
  (sSet 4 (gV 5))))))
  (sFrz 3 (sFrz 2 (sRet (gTu 2 (aC (gV 2) (aC (gV 3) aN))))))))))
noncomputable def S_taken_in_turn : D → (List D → Option D) → List D → Option D := fun d0 F => runB 8 (B_taken_in_turn d0 F)
theorem ok_taken_in_turn {f : Addr} : ∀ (cdv : Value) (A : Around) (outer : List PySem.Env) (s : Shared) (H : Hp) (E : XK) (d0 : D) (F : List D → Option D), Room 0 (A.deeper (PyProof.Rows.envOfC "taken_in_turn" (defScope s_taken_in_turn) s.heap.objs.size f cdv)) → Acts (cxOf CX0 P w K mg base N_taken_in_turn "taken_in_turn" (defScope s_taken_in_turn) f cdv A outer s H E).nox "longest" 0 1 d0 F → Ss (cxOf CX0 P w K mg base N_taken_in_turn "taken_in_turn" (defScope s_taken_in_turn) f cdv A outer s H E).nox (defBody s_taken_in_turn) (B_taken_in_turn d0 F) := fun cdv A outer s H E d0 F hr ac =>
  (ss_cons (s_setO 2 sc_taken_in_turn.nd (el_lst n_nil))
  (ss_cons (s_setO 3 sc_taken_in_turn.nd (el_lst n_nil))
  (ss_cons (s_set 4 sc_taken_in_turn.nd e_int)
  (ss_cons (s_while PassesOwn.never (t_cmp od_lt (e_var 4) (e_var 1))
  (ss_cons (s_unp (e_act ac (n_cons (e_var 4) n_nil)) (g_tup rfl (gl_cons (g_name 5 sc_taken_in_turn.nd) (gl_cons (g_name 6 sc_taken_in_turn.nd) (gl_cons (g_name 7 sc_taken_in_turn.nd) gl_nil)))))
  (ss_cons (s_app (pl_var 2) (e_tup (n_cons (e_var 4) (n_cons (e_var 6) n_nil))))
  (ss_cons (s_if (t_cmpB ob_noN (b_var 7) e_non.bo)
  (ss_one (s_app (pl_var 3) (e_var 7)))
  ss_nil)
  (ss_one (s_set 4 sc_taken_in_turn.nd (e_var 5)))))))
  (ss_one (s_frz 3 (s_frz 2 (s_ret (e_tup (n_cons (e_var 2) (n_cons (e_var 3) n_nil)))))))))))
/-! Cutting.__init__ -/
abbrev s_Cutting___init__ : Stmt := inClass (topS 28) 0
abbrev N_Cutting___init__ : List Str := ["self", "pieces", "reasons"]
theorem sc_Cutting___init__ : FnScope N_Cutting___init__ ["self", "pieces", "reasons"] (defScope s_Cutting___init__) := ⟨rfl, rfl, rfl, by decide +kernel, rfl, by decide +kernel, by decide +kernel⟩
noncomputable def B_Cutting___init__ : Sm :=
  (sSeq (sFld 0 [] 0 0 (nSh (gL (gUL dList (gB 1)))))
  (sFld 0 [] 0 1 (nSh (gL (gUL dList (gB 2))))))
noncomputable def S_Cutting___init__ : Sl → List D → Option (D × Sl) := runM 3 B_Cutting___init__
theorem ok_Cutting___init__ {f : Addr} {fd : FuncData} {C0 : Addr} (F : Fun K "__init__" "Cutting.__init__" s_Cutting___init__ f fd) (m_list : mg "list" = none) (ck0 : CK K mg 0 C0) : FnOk P w K mg base CX0 1 f fd ["self", "pieces", "reasons"] (spM K mg 2 S_Cutting___init__) :=
  def_okM F sc_Cutting___init__ rfl fun cdv A outer s H E hr =>
  (ss_cons (s_fld (c := 0) (j := 0) ck0 (pl_var 0) (el_cty cb_list (by rfl) m_list boot_list' (b_var 1)).fz.nw)
  (ss_one (s_fld (c := 0) (j := 1) ck0 (pl_var 0) (el_cty cb_list (by rfl) m_list boot_list' (b_var 2)).fz.nw)))
/-! cut -/
abbrev s_cut : Stmt := topS 29
abbrev N_cut : List Str := ["points", "error", "pieces", "reasons"]
theorem sc_cut : FnScope N_cut ["points", "error"] (defScope s_cut) := ⟨rfl, rfl, rfl, by decide +kernel, rfl, by decide +kernel, by decide +kernel⟩
noncomputable def B_cut : Sm :=
  (sSeq (sUnp (gTg 2 (gTo (gN 2) (gTo (gN 3) gEnd))) (gLam1 S_taken_in_turn [0, 1] (gCall S_longest_piece (aC (gV 0) (aC (gV 4) (aC (gV 1) aN)))) (gU dLen (gB 0))))
  (sRet (nD (gMk 0 S_Cutting___init__ (aC (gV 2) (aC (gV 3) aN))))))
noncomputable def S_cut : List D → Option D := runB 4 B_cut
theorem ok_cut {f : Addr} {fd : FuncData} {cL PL : Addr} (F : Fun K "cut" "cut" s_cut f fd) (hcode : fd.code = .ref cL) (TB : LamX.TabB base mg cL PL) (TH : TabHas PL (lamQ "cut")) (m_len : mg "len" = none) (c_longest_piece : Cal P w K mg base "longest_piece" 4 ["points", "start", "error"] S_longest_piece) (c_taken_in_turn : CalF P w K mg base "taken_in_turn" 0 N_taken_in_turn ["longest", "length"] "longest" 0 1 s_taken_in_turn B_taken_in_turn) (k_Cutting : Mak P w K mg base 0 1 ["self", "pieces", "reasons"] S_Cutting___init__) : FnOk P w K mg base CX0 7 f fd ["points", "error"] (spD K mg 2 S_cut) :=
  def_okC F hcode sc_cut fun A outer s H E hr =>
  (ss_cons (s_unp (e_lam1 (prs := ["start"]) [0, 1] c_taken_in_turn TB rfl lamq_of TH hr (by decide) (show LamS1 (defScope s_cut) _ _ from lamS1_by (by decide +kernel)) (fun A outer s H E' f c' hr => (e_callC c_longest_piece hr (by decide) (n_cons (e_var 0) (n_cons (e_var 4) (n_cons (e_var 1) n_nil))))) (e_cb cb_len (by rfl) m_len boot_len' (b_var 0)) (hpr := show ∀ p ∈ (["start"] : List Str), p ∉ N_cut from by decide +kernel) (hbind := fun _ _ _ _ _ us hl => match us, hl with | [_], _ => rfl)) (g_tup rfl (gl_cons (g_name 2 sc_cut.nd) (gl_cons (g_name 3 sc_cut.nd) gl_nil))))
  (ss_one (s_ret (e_mkC (c := 0) k_Cutting hr (by decide) (n_cons (e_var 2) (n_cons (e_var 3) n_nil))).fz)))
/-! floors_over -/
abbrev s_floors_over : Stmt := topS 33
abbrev N_floors_over : List Str := ["pieces", "length", "floors", "first", "end", "line", "index"]
theorem sc_floors_over : FnScope N_floors_over ["pieces", "length"] (defScope s_floors_over) := ⟨rfl, rfl, rfl, by decide +kernel, rfl, by decide +kernel, by decide +kernel⟩
noncomputable def B_floors_over : Sm :=
  (sSeq (sSetO 2 aN)
  (sSeq (sFor (gIt (gCall S_parts (aC (gV 0) (aC (gI 0) (aC (gV 1) aN))))) (gTg 3 (gTo (gN 3) (gTo (gN 4) (gTo (gN 5) gEnd))))
  (sExt 2 [] (gLc [6] (gRng (aC (gV 3) (aC (gV 4) aN))) (gN 6) gYes (gCall S_floor_at (aC (gV 5) (aC (gV 6) aN))))))
  (sFrz 2 (sRet (gV 2)))))
noncomputable def S_floors_over : List D → Option D := runB 7 B_floors_over
theorem ok_floors_over {f : Addr} {fd : FuncData} (F : Fun K "floors_over" "floors_over" s_floors_over f fd) (c_parts : Cal P w K mg base "parts" 2 ["pieces", "a", "b"] S_parts) (m_range : mg "range" = none) (c_floor_at : Cal P w K mg base "floor_at" 1 ["line", "place"] S_floor_at) : FnOk P w K mg base CX0 3 f fd ["pieces", "length"] (spD K mg 2 S_floors_over) :=
  def_ok F sc_floors_over fun cdv A outer s H E hr =>
  (ss_cons (s_setO 2 sc_floors_over.nd (el_lst n_nil))
  (ss_cons (s_for PassesOwn.never rfl (i_list (e_callC c_parts hr (by decide) (n_cons (e_var 0) (n_cons e_int (n_cons (e_var 1) n_nil))))).fb (g_tup rfl (gl_cons (g_name 3 sc_floors_over.nd) (gl_cons (g_name 4 sc_floors_over.nd) (gl_cons (g_name 5 sc_floors_over.nd) gl_nil))))
  (ss_one (s_ext (pl_var 2) (el_lc (own := [("index", 6)]) rfl sc_floors_over.nd (i_rng2 (by rfl) m_range (n_cons (e_var 3) (n_cons (e_var 4) n_nil))).c (blkOk_by (own := [("index", 6)]) (N := N_floors_over) (sc := defScope s_floors_over) (by decide +kernel)) (by decide) (fun _ _ _ _ _ => (g_name 6 sc_floors_over.nd)) (fun _ _ _ _ _ => ts_nil) (fun _ _ _ _ _ => (e_callC c_floor_at hr (by decide) (n_cons (e_var 5) (n_cons (e_var 6) n_nil))))))))
  (ss_one (s_frz 2 (s_ret (e_var 2))))))
/-! _law_cell -/
abbrev s__law_cell : Stmt := topS 35
abbrev N__law_cell : List Str := ["script", "k"]
theorem sc__law_cell : FnScope N__law_cell ["script", "k"] (defScope s__law_cell) := ⟨rfl, rfl, rfl, by decide +kernel, rfl, by decide +kernel, by decide +kernel⟩
noncomputable def B__law_cell : Sm :=
  (sSeq (sIf (gT (gOp dLt (gV 1) (gU dLen (gB 0))))
  (sRet (gIx (gB 0) (gV 1)))
  sNil)
  (sRet (gI 0)))
noncomputable def S__law_cell : List D → Option D := runB 2 B__law_cell
theorem ok__law_cell {f : Addr} {fd : FuncData} (F : Fun K "_law_cell" "_law_cell" s__law_cell f fd) (m_len : mg "len" = none) : FnOk P w K mg base CX0 1 f fd ["script", "k"] (spD K mg 2 S__law_cell) :=
  def_ok F sc__law_cell fun cdv A outer s H E hr =>
  (ss_cons (s_if (t_cmp od_lt (e_var 1) (e_cb cb_len (by rfl) m_len boot_len' (b_var 0)))
  (ss_one (s_ret (e_ix (b_var 0) (e_var 1))))
  ss_nil)
  (ss_one (s_ret e_int)))
/-! _law_digits -/
abbrev s__law_digits : Stmt := topS 36
abbrev N__law_digits : List Str := ["cell", "many", "count", "digits", "rest", "k", "mixed"]
theorem sc__law_digits : FnScope N__law_digits ["cell", "many", "count"] (defScope s__law_digits) := ⟨rfl, rfl, rfl, by decide +kernel, rfl, by decide +kernel, by decide +kernel⟩
noncomputable def B__law_digits : Sm :=
  (sSeq (sSetO 3 aN)
  (sSeq (sSet 4 (gV 0))
  (sSeq (sFor (gRng (aC (gV 2) aN)) (gN 5)
  (sIf (gT (gOp dGe (gV 0) (gOp dPow (gI 10) (gI 18))))
  (sSeq (sApp 3 [] (gOp dMod (gU dInt (gB 4)) (gV 1)))
  (sSet 4 (gOp dDiv (gV 4) (gV 1))))
  (sSeq (sSet 6 (gOp dMod (gU dInt (gOp dAdd (gOp dAdd (gOp dMul (gV 0) (gI 48271)) (gOp dMul (gV 5) (gI 69621))) (gI 1013))) (gI 2147483647)))
  (sSeq (sSet 6 (gOp dMod (gU dInt (gOp dAdd (gOp dAdd (gOp dMul (gV 6) (gV 6)) (gOp dMul (gI 7) (gV 6))) (gV 5))) (gI 2147483629)))
  (sApp 3 [] (gOp dMod (gU dInt (gOp dDiv (gV 6) (gI 31))) (gV 1)))))))
  (sFrz 3 (sRet (gV 3))))))
noncomputable def S__law_digits : List D → Option D := runB 7 B__law_digits
theorem ok__law_digits {f : Addr} {fd : FuncData} (F : Fun K "_law_digits" "_law_digits" s__law_digits f fd) (m_range : mg "range" = none) (m_int : mg "int" = none) : FnOk P w K mg base CX0 1 f fd ["cell", "many", "count"] (spD K mg 3 S__law_digits) :=
  def_ok F sc__law_digits fun cdv A outer s H E hr =>
  (ss_cons (s_setO 3 sc__law_digits.nd (el_lst n_nil))
  (ss_cons (s_set 4 sc__law_digits.nd (e_var 0))
  (ss_cons (s_for PassesOwn.never rfl (i_rng1 (by rfl) m_range (n_cons (e_var 2) n_nil)).fb (g_name 5 sc__law_digits.nd)
  (ss_one (s_if (t_cmp od_ge (e_var 0) (e_op od_pow e_int e_int))
  (ss_cons (s_app (pl_var 3) (e_op od_mod (e_cty cb_int (by rfl) m_int boot_int' (b_var 4)) (e_var 1)))
  (ss_one (s_set 4 sc__law_digits.nd (e_op od_div (e_var 4) (e_var 1)))))
  (ss_cons (s_set 6 sc__law_digits.nd (e_op od_mod (e_cty cb_int (by rfl) m_int boot_int' (e_op od_add (e_op od_add (e_op od_mul (e_var 0) e_int) (e_op od_mul (e_var 5) e_int)) e_int).bo) e_int))
  (ss_cons (s_set 6 sc__law_digits.nd (e_op od_mod (e_cty cb_int (by rfl) m_int boot_int' (e_op od_add (e_op od_add (e_op od_mul (e_var 6) (e_var 6)) (e_op od_mul e_int (e_var 6))) (e_var 5)).bo) e_int))
  (ss_one (s_app (pl_var 3) (e_op od_mod (e_cty cb_int (by rfl) m_int boot_int' (e_op od_div (e_var 6) e_int).bo) (e_var 1)))))))))
  (ss_one (s_frz 3 (s_ret (e_var 3)))))))
/-! _law_values -/
abbrev s__law_values : Stmt := topS 37
abbrev N__law_values : List Str := ["script", "place", "most", "cell", "size", "style", "digits", "values", "last", "k"]
theorem sc__law_values : FnScope N__law_values ["script", "place", "most"] (defScope s__law_values) := ⟨rfl, rfl, rfl, by decide +kernel, rfl, by decide +kernel, by decide +kernel⟩
noncomputable def B__law_values : Sm :=
  (sSeq (sSet 3 (gCall S__law_cell (aC (gV 0) (aC (gV 1) aN))))
  (sSeq (sSet 4 (gOp dMod (gU dInt (gB 3)) (gOp dAdd (gV 2) (gI 1))))
  (sSeq (sSet 5 (gOp dMod (gU dInt (gOp dDiv (gV 3) (gOp dAdd (gV 2) (gI 1)))) (gI 3)))
  (sSeq (sSet 6 (gCall S__law_digits (aC (gCall S__law_cell (aC (gV 0) (aC (gOp dAdd (gV 1) (gI 1)) aN))) (aC (gIx (gL (aC (gI 19) (aC (gOp dPow (gI 10) (gI 9)) (aC (gI 13) aN)))) (gV 5)) (aC (gV 4) aN)))))
  (sSeq (sSetO 7 aN)
  (sSeq (sSet 8 (gI 0))
  (sSeq (sFor (gRng (aC (gV 4) aN)) (gN 9)
  (sSeq (sIf (gT (gOp dEq (gB 5) (gI 2)))
  (sSet 8 (gI 0))
  sNil)
  (sSeq (sSet 8 (gOp dSub (gOp dAdd (gV 8) (gU dInt (gIx (gB 6) (gV 9)))) (gIx (gL (aC (gI 9) (aC (gOp dMul (gI 5) (gOp dPow (gI 10) (gI 8))) (aC (gI 6) aN)))) (gV 5))))
  (sApp 7 [] (gV 8)))))
  (sFrz 7 (sRet (gV 7))))))))))
noncomputable def S__law_values : List D → Option D := runB 10 B__law_values
theorem ok__law_values {f : Addr} {fd : FuncData} (F : Fun K "_law_values" "_law_values" s__law_values f fd) (c__law_cell : Cal P w K mg base "_law_cell" 1 ["script", "k"] S__law_cell) (m_int : mg "int" = none) (c__law_digits : Cal P w K mg base "_law_digits" 1 ["cell", "many", "count"] S__law_digits) (m_range : mg "range" = none) : FnOk P w K mg base CX0 2 f fd ["script", "place", "most"] (spD K mg 3 S__law_values) :=
  def_ok F sc__law_values fun cdv A outer s H E hr =>
  (ss_cons (s_set 3 sc__law_values.nd (e_callC c__law_cell hr (by decide) (n_cons (e_var 0) (n_cons (e_var 1) n_nil))))
  (ss_cons (s_set 4 sc__law_values.nd (e_op od_mod (e_cty cb_int (by rfl) m_int boot_int' (b_var 3)) (e_op od_add (e_var 2) e_int)))
  (ss_cons (s_set 5 sc__law_values.nd (e_op od_mod (e_cty cb_int (by rfl) m_int boot_int' (e_op od_div (e_var 3) (e_op od_add (e_var 2) e_int)).bo) e_int))
  (ss_cons (s_set 6 sc__law_values.nd (e_callC c__law_digits hr (by decide) (n_cons (e_callC c__law_cell hr (by decide) (n_cons (e_var 0) (n_cons (e_op od_add (e_var 1) e_int) n_nil))) (n_cons (e_ix (el_lst (n_cons e_int (n_cons (e_op od_pow e_int e_int) (n_cons e_int n_nil)))).fz.bo (e_var 5)) (n_cons (e_var 4) n_nil)))))
  (ss_cons (s_setO 7 sc__law_values.nd (el_lst n_nil))
  (ss_cons (s_set 8 sc__law_values.nd e_int)
  (ss_cons (s_for PassesOwn.never rfl (i_rng1 (by rfl) m_range (n_cons (e_var 4) n_nil)).fb (g_name 9 sc__law_values.nd)
  (ss_cons (s_if (t_cmpB (ob_eq hr.units) (b_var 5) e_int.bo)
  (ss_one (s_set 8 sc__law_values.nd e_int))
  ss_nil)
  (ss_cons (s_set 8 sc__law_values.nd (e_op od_sub (e_op od_add (e_var 8) (e_cty cb_int (by rfl) m_int boot_int' (e_ix (b_var 6) (e_var 9)).bo)) (e_ix (el_lst (n_cons e_int (n_cons (e_op od_mul e_int (e_op od_pow e_int e_int)) (n_cons e_int n_nil)))).fz.bo (e_var 5))))
  (ss_one (s_app (pl_var 7) (e_var 8))))))
  (ss_one (s_frz 7 (s_ret (e_var 7)))))))))))
/-! _law_error_of -/
abbrev s__law_error_of : Stmt := topS 38
abbrev N__law_error_of : List Str := ["script", "place", "values", "cell"]
theorem sc__law_error_of : FnScope N__law_error_of ["script", "place", "values"] (defScope s__law_error_of) := ⟨rfl, rfl, rfl, by decide +kernel, rfl, by decide +kernel, by decide +kernel⟩
noncomputable def B__law_error_of : Sm :=
  (sSeq (sSet 3 (gCall S__law_cell (aC (gV 0) (aC (gV 1) aN))))
  (sSeq (sIf (gAnd (gT (gOp dEq (gOp dMod (gU dInt (gB 3)) (gI 3)) (gI 2))) (gT (gOp dGt (gU dLen (gB 2)) (gI 1))))
  (sRet (gOp dMod (gU dInt (gOp dDiv (gV 3) (gI 3))) (gOp dAdd (gOp dDiv (gOp dSub (gU dMax (gB 2)) (gU dMin (gB 2))) (gI 2)) (gI 2))))
  sNil)
  (sRet (gOp dMod (gU dInt (gOp dDiv (gV 3) (gI 3))) (gI 10)))))
noncomputable def S__law_error_of : List D → Option D := runB 4 B__law_error_of
theorem ok__law_error_of {f : Addr} {fd : FuncData} (F : Fun K "_law_error_of" "_law_error_of" s__law_error_of f fd) (c__law_cell : Cal P w K mg base "_law_cell" 1 ["script", "k"] S__law_cell) (m_len : mg "len" = none) (m_int : mg "int" = none) (m_max : mg "max" = none) (m_min : mg "min" = none) : FnOk P w K mg base CX0 2 f fd ["script", "place", "values"] (spD K mg 3 S__law_error_of) :=
  def_ok F sc__law_error_of fun cdv A outer s H E hr =>
  (ss_cons (s_set 3 sc__law_error_of.nd (e_callC c__law_cell hr (by decide) (n_cons (e_var 0) (n_cons (e_var 1) n_nil))))
  (ss_cons (s_if (w_and (t_cmpB (ob_eq hr.units) (e_op od_mod (e_cty cb_int (by rfl) m_int boot_int' (b_var 3)) e_int).bo e_int.bo) (w_and1 (t_cmp od_gt (e_cb cb_len (by rfl) m_len boot_len' (b_var 2)) e_int))).t
  (ss_one (s_ret (e_op od_mod (e_cty cb_int (by rfl) m_int boot_int' (e_op od_div (e_var 3) e_int).bo) (e_op od_add (e_op od_div (e_op od_sub (e_cb (cb_max rfl) (by rfl) m_max boot_max' (b_var 2)) (e_cb (cb_min rfl) (by rfl) m_min boot_min' (b_var 2))) e_int) e_int))))
  ss_nil)
  (ss_one (s_ret (e_op od_mod (e_cty cb_int (by rfl) m_int boot_int' (e_op od_div (e_var 3) e_int).bo) e_int)))))
/-! _law_line_at -/
abbrev s__law_line_at : Stmt := topS 39
abbrev N__law_line_at : List Str := ["pieces", "at", "line", "piece"]
theorem sc__law_line_at : FnScope N__law_line_at ["pieces", "at"] (defScope s__law_line_at) := ⟨rfl, rfl, rfl, by decide +kernel, rfl, by decide +kernel, by decide +kernel⟩
noncomputable def B__law_line_at : Sm :=
  (sSeq (sSet 2 (gC .non))
  (sSeq (sFor (gIt (gV 0)) (gN 3)
  (sIf (gT (gOp dLe (gIx (gB 3) (gI 0)) (gV 1)))
  (sSet 2 (gIx (gB 3) (gI 1)))
  sNil))
  (sRet (gV 2))))
noncomputable def S__law_line_at : List D → Option D := runB 4 B__law_line_at
theorem ok__law_line_at {f : Addr} {fd : FuncData} (F : Fun K "_law_line_at" "_law_line_at" s__law_line_at f fd) : FnOk P w K mg base CX0 1 f fd ["pieces", "at"] (spD K mg 2 S__law_line_at) :=
  def_ok F sc__law_line_at fun cdv A outer s H E hr =>
  (ss_cons (s_set 2 sc__law_line_at.nd e_non)
  (ss_cons (s_for PassesOwn.never rfl (i_list (e_var 0)).fb (g_name 3 sc__law_line_at.nd)
  (ss_one (s_if (t_cmp od_le (e_ix (b_var 3) e_int) (e_var 1))
  (ss_one (s_set 2 sc__law_line_at.nd (e_ix (b_var 3) e_int)))
  ss_nil)))
  (ss_one (s_ret (e_var 2)))))
/-! _law_is_height -/
abbrev s__law_is_height : Stmt := topS 40
abbrev N__law_is_height : List Str := ["line", "at", "numerator", "divisor"]
theorem sc__law_is_height : FnScope N__law_is_height ["line", "at", "numerator", "divisor"] (defScope s__law_is_height) := ⟨rfl, rfl, rfl, by decide +kernel, rfl, by decide +kernel, by decide +kernel⟩
noncomputable def B__law_is_height : Sm :=
  (sRet (gBl (gAnd (gT (gOp dNoN (gB 0) (gC .non))) (gT (gOp dEq (gOp dMul (gOp dAdd (gOp dMul (gIx (gB 0) (gI 0)) (gV 1)) (gIx (gB 0) (gI 1))) (gV 3)) (gOp dMul (gV 2) (gIx (gB 0) (gI 2))))))))
noncomputable def S__law_is_height : List D → Option D := runB 4 B__law_is_height
theorem ok__law_is_height {f : Addr} {fd : FuncData} (F : Fun K "_law_is_height" "_law_is_height" s__law_is_height f fd) : FnOk P w K mg base CX0 1 f fd ["line", "at", "numerator", "divisor"] (spD K mg 4 S__law_is_height) :=
  def_ok F sc__law_is_height fun cdv A outer s H E hr =>
  (ss_one (s_ret (v_and (e_cmpB ob_noN (b_var 0) e_non.bo).v (v_one (e_cmpB (ob_eq hr.units) (e_op od_mul (e_op od_add (e_op od_mul (e_ix (b_var 0) e_int) (e_var 1)) (e_ix (b_var 0) e_int)) (e_var 3)).bo (e_op od_mul (e_var 2) (e_ix (b_var 0) e_int)).bo).v)).e))
/-! _law_are_reduced -/
abbrev s__law_are_reduced : Stmt := topS 41
abbrev N__law_are_reduced : List Str := ["pieces", "piece", "p", "q", "d", "left", "right", "k", "other", "rest"]
theorem sc__law_are_reduced : FnScope N__law_are_reduced ["pieces"] (defScope s__law_are_reduced) := ⟨rfl, rfl, rfl, by decide +kernel, rfl, by decide +kernel, by decide +kernel⟩
noncomputable def B__law_are_reduced : Sm :=
  (sSeq (sFor (gIt (gV 0)) (gN 1)
  (sSeq (sUnp (gTg 3 (gTo (gN 2) (gTo (gN 3) (gTo (gN 4) gEnd)))) (gIx (gB 1) (gI 1)))
  (sSeq (sSet 5 (gU dAbs (gB 2)))
  (sSeq (sSet 6 (gU dAbs (gB 3)))
  (sSeq (sFor (gRng (aC (gI 400) aN)) (gN 7)
  (sIf (gT (gOp dGt (gV 6) (gI 0)))
  (sSeq (sSet 9 (gOp dMod (gU dInt (gB 5)) (gV 6)))
  (sSeq (sSet 5 (gV 6))
  (sSet 6 (gV 9))))
  sNil))
  (sSeq (sSet 8 (gV 4))
  (sSeq (sFor (gRng (aC (gI 400) aN)) (gN 7)
  (sIf (gT (gOp dGt (gV 8) (gI 0)))
  (sSeq (sSet 9 (gOp dMod (gU dInt (gB 5)) (gV 8)))
  (sSeq (sSet 5 (gV 8))
  (sSet 8 (gV 9))))
  sNil))
  (sIf (gOr (gT (gOp dNe (gB 5) (gI 1))) (gT (gOp dLt (gV 4) (gI 1))))
  (sRet (gC (.bl false)))
  sNil))))))))
  (sRet (gC (.bl true))))
noncomputable def S__law_are_reduced : List D → Option D := runB 10 B__law_are_reduced
theorem ok__law_are_reduced {f : Addr} {fd : FuncData} (F : Fun K "_law_are_reduced" "_law_are_reduced" s__law_are_reduced f fd) (m_abs : mg "abs" = none) (m_range : mg "range" = none) (m_int : mg "int" = none) : FnOk P w K mg base CX0 1 f fd ["pieces"] (spD K mg 1 S__law_are_reduced) :=
  def_ok F sc__law_are_reduced fun cdv A outer s H E hr =>
  (ss_cons (s_for PassesOwn.never rfl (i_list (e_var 0)).fb (g_name 1 sc__law_are_reduced.nd)
  (ss_cons (s_unp (e_ix (b_var 1) e_int) (g_tup rfl (gl_cons (g_name 2 sc__law_are_reduced.nd) (gl_cons (g_name 3 sc__law_are_reduced.nd) (gl_cons (g_name 4 sc__law_are_reduced.nd) gl_nil)))))
  (ss_cons (s_set 5 sc__law_are_reduced.nd (e_cb cb_abs (by rfl) m_abs boot_abs' (b_var 2)))
  (ss_cons (s_set 6 sc__law_are_reduced.nd (e_cb cb_abs (by rfl) m_abs boot_abs' (b_var 3)))
  (ss_cons (s_for PassesOwn.never rfl (i_rng1 (by rfl) m_range (n_cons e_int n_nil)).fb (g_name 7 sc__law_are_reduced.nd)
  (ss_one (s_if (t_cmp od_gt (e_var 6) e_int)
  (ss_cons (s_set 9 sc__law_are_reduced.nd (e_op od_mod (e_cty cb_int (by rfl) m_int boot_int' (b_var 5)) (e_var 6)))
  (ss_cons (s_set 5 sc__law_are_reduced.nd (e_var 6))
  (ss_one (s_set 6 sc__law_are_reduced.nd (e_var 9)))))
  ss_nil)))
  (ss_cons (s_set 8 sc__law_are_reduced.nd (e_var 4))
  (ss_cons (s_for PassesOwn.never rfl (i_rng1 (by rfl) m_range (n_cons e_int n_nil)).fb (g_name 7 sc__law_are_reduced.nd)
  (ss_one (s_if (t_cmp od_gt (e_var 8) e_int)
  (ss_cons (s_set 9 sc__law_are_reduced.nd (e_op od_mod (e_cty cb_int (by rfl) m_int boot_int' (b_var 5)) (e_var 8)))
  (ss_cons (s_set 5 sc__law_are_reduced.nd (e_var 8))
  (ss_one (s_set 8 sc__law_are_reduced.nd (e_var 9)))))
  ss_nil)))
  (ss_one (s_if (w_or (t_cmpB (ob_ne hr.units) (b_var 5) e_int.bo) (w_or1 (t_cmp od_lt (e_var 4) e_int))).t
  (ss_one (s_ret e_bl))
  ss_nil)))))))))
  (ss_one (s_ret e_bl)))
/-! _law_second -/
abbrev s__law_second : Stmt := topS 42
abbrev N__law_second : List Str := ["script", "place", "size", "digits", "values", "last", "k"]
theorem sc__law_second : FnScope N__law_second ["script", "place", "size"] (defScope s__law_second) := ⟨rfl, rfl, rfl, by decide +kernel, rfl, by decide +kernel, by decide +kernel⟩
noncomputable def B__law_second : Sm :=
  (sSeq (sSet 3 (gCall S__law_digits (aC (gCall S__law_cell (aC (gV 0) (aC (gV 1) aN))) (aC (gIx (gL (aC (gI 19) (aC (gOp dPow (gI 10) (gI 9)) aN))) (gOp dMod (gU dInt (gCall S__law_cell (aC (gV 0) (aC (gOp dAdd (gV 1) (gI 1)) aN)))) (gI 2))) (aC (gV 2) aN)))))
  (sSeq (sSetO 4 aN)
  (sSeq (sSet 5 (gI 0))
  (sSeq (sFor (gRng (aC (gV 2) aN)) (gN 6)
  (sSeq (sSet 5 (gOp dSub (gOp dAdd (gV 5) (gU dInt (gIx (gB 3) (gV 6)))) (gIx (gL (aC (gI 9) (aC (gOp dMul (gI 5) (gOp dPow (gI 10) (gI 8))) aN))) (gOp dMod (gU dInt (gCall S__law_cell (aC (gV 0) (aC (gOp dAdd (gV 1) (gI 1)) aN)))) (gI 2)))))
  (sApp 4 [] (gV 5))))
  (sFrz 4 (sRet (gV 4)))))))
noncomputable def S__law_second : List D → Option D := runB 7 B__law_second
theorem ok__law_second {f : Addr} {fd : FuncData} (F : Fun K "_law_second" "_law_second" s__law_second f fd) (c__law_cell : Cal P w K mg base "_law_cell" 1 ["script", "k"] S__law_cell) (m_int : mg "int" = none) (c__law_digits : Cal P w K mg base "_law_digits" 1 ["cell", "many", "count"] S__law_digits) (m_range : mg "range" = none) : FnOk P w K mg base CX0 2 f fd ["script", "place", "size"] (spD K mg 3 S__law_second) :=
  def_ok F sc__law_second fun cdv A outer s H E hr =>
  (ss_cons (s_set 3 sc__law_second.nd (e_callC c__law_digits hr (by decide) (n_cons (e_callC c__law_cell hr (by decide) (n_cons (e_var 0) (n_cons (e_var 1) n_nil))) (n_cons (e_ix (el_lst (n_cons e_int (n_cons (e_op od_pow e_int e_int) n_nil))).fz.bo (e_op od_mod (e_cty cb_int (by rfl) m_int boot_int' (e_callC c__law_cell hr (by decide) (n_cons (e_var 0) (n_cons (e_op od_add (e_var 1) e_int) n_nil))).bo) e_int)) (n_cons (e_var 2) n_nil)))))
  (ss_cons (s_setO 4 sc__law_second.nd (el_lst n_nil))
  (ss_cons (s_set 5 sc__law_second.nd e_int)
  (ss_cons (s_for PassesOwn.never rfl (i_rng1 (by rfl) m_range (n_cons (e_var 2) n_nil)).fb (g_name 6 sc__law_second.nd)
  (ss_cons (s_set 5 sc__law_second.nd (e_op od_sub (e_op od_add (e_var 5) (e_cty cb_int (by rfl) m_int boot_int' (e_ix (b_var 3) (e_var 6)).bo)) (e_ix (el_lst (n_cons e_int (n_cons (e_op od_mul e_int (e_op od_pow e_int e_int)) n_nil))).fz.bo (e_op od_mod (e_cty cb_int (by rfl) m_int boot_int' (e_callC c__law_cell hr (by decide) (n_cons (e_var 0) (n_cons (e_op od_add (e_var 1) e_int) n_nil))).bo) e_int))))
  (ss_one (s_app (pl_var 4) (e_var 5)))))
  (ss_one (s_frz 4 (s_ret (e_var 4))))))))
/-! Coded.__init__ -/
abbrev s_Coded___init__ : Stmt := inClass (topS 32) 0
abbrev N_Coded___init__ : List Str := ["self", "values", "error", "floors", "value", "floor"]
theorem sc_Coded___init__ : FnScope N_Coded___init__ ["self", "values", "error"] (defScope s_Coded___init__) := ⟨rfl, rfl, rfl, by decide +kernel, rfl, by decide +kernel, by decide +kernel⟩
noncomputable def B_Coded___init__ : Sm :=
  (sSeq (sFld 0 [] 12 0 (nSh (gU (dFld 0 0) (gCall S_cut (aC (gCall S_points_of (aC (gV 1) aN)) (aC (gV 2) aN))))))
  (sSeq (sSet 3 (gCall S_floors_over (aC (gPE 0 [(12, 0)]) (aC (gU dLen (gB 1)) aN))))
  (sFld 0 [] 12 1 (nSh (gL (gLc [4, 5] (gZip (aC (gV 1) (aC (gV 3) aN))) (gTg 2 (gTo (gN 4) (gTo (gN 5) gEnd))) gYes (gOp dSub (gV 4) (gV 5))))))))
noncomputable def S_Coded___init__ : Sl → List D → Option (D × Sl) := runM 6 B_Coded___init__
theorem ok_Coded___init__ {f : Addr} {fd : FuncData} {C0 : Addr} {C12 : Addr} (F : Fun K "__init__" "Coded.__init__" s_Coded___init__ f fd) (c_points_of : Cal P w K mg base "points_of" 1 ["values"] S_points_of) (c_cut : Cal P w K mg base "cut" 7 ["points", "error"] S_cut) (ck0 : CK K mg 0 C0) (ck12 : CK K mg 12 C12) (m_len : mg "len" = none) (c_floors_over : Cal P w K mg base "floors_over" 3 ["pieces", "length"] S_floors_over) (m_zip : mg "zip" = none) : FnOk P w K mg base CX0 8 f fd ["self", "values", "error"] (spM K mg 2 S_Coded___init__) :=
  def_okM F sc_Coded___init__ rfl fun cdv A outer s H E hr =>
  (ss_cons (s_fld (c := 12) (j := 0) ck12 (pl_var 0) (e_fld (c := 0) (j := 0) ck0 (e_callC c_cut hr (by decide) (n_cons (e_callC c_points_of hr (by decide) (n_cons (e_var 1) n_nil)) (n_cons (e_var 2) n_nil)))).nw)
  (ss_cons (s_set 3 sc_Coded___init__.nd (e_callC c_floors_over hr (by decide) (n_cons ((pl_fld (c := 12) (j := 0) ck12 (pl_var 0))).er (n_cons (e_cb cb_len (by rfl) m_len boot_len' (b_var 1)) n_nil))))
  (ss_one (s_fld (c := 12) (j := 1) ck12 (pl_var 0) (el_lc (own := [("value", 4), ("floor", 5)]) rfl sc_Coded___init__.nd (i_zip (by rfl) m_zip (n_cons (e_var 1) (n_cons (e_var 3) n_nil))).c (blkOk_by (own := [("value", 4), ("floor", 5)]) (N := N_Coded___init__) (sc := defScope s_Coded___init__) (by decide +kernel)) (by decide) (fun _ _ _ _ _ => (g_tup rfl (gl_cons (g_name 4 sc_Coded___init__.nd) (gl_cons (g_name 5 sc_Coded___init__.nd) gl_nil)))) (fun _ _ _ _ _ => ts_nil) (fun _ _ _ _ _ => (e_op od_sub (e_var 4) (e_var 5)))).fz.nw))))
/-! law -/
abbrev s_law : Stmt := topS 43
abbrev N_law : List Str := ["script", "values", "others", "e", "f", "one", "other", "kept_v", "both", "starts", "factor", "more", "at", "a", "b", "cut_v", "inner", "times", "row", "due", "k", "p", "q", "d", "r", "s", "t", "line", "piece"]
theorem sc_law : FnScope N_law ["script"] (defScope s_law) := ⟨rfl, rfl, rfl, by decide +kernel, rfl, by decide +kernel, by decide +kernel⟩
noncomputable def B_law : Sm :=
  (sSeq (sSet 1 (gOp dAdd (gCall S__law_values (aC (gV 0) (aC (gI 0) (aC (gI 11) aN)))) (gL (aC (gOp dMod (gU dInt (gCall S__law_cell (aC (gV 0) (aC (gI 2) aN)))) (gI 9)) aN))))
  (sSeq (sSet 2 (gCall S__law_second (aC (gV 0) (aC (gI 3) (aC (gU dLen (gB 1)) aN)))))
  (sSeq (sSet 3 (gCall S__law_error_of (aC (gV 0) (aC (gI 5) (aC (gV 1) aN)))))
  (sSeq (sSet 4 (gCall S__law_error_of (aC (gV 0) (aC (gI 6) (aC (gV 2) aN)))))
  (sSeq (sSet 5 (gU (dFld 12 0) (nD (gMk 12 S_Coded___init__ (aC (gL (gUL dList (gB 1))) (aC (gV 3) aN))))))
  (sSeq (sSet 6 (gU (dFld 12 0) (nD (gMk 12 S_Coded___init__ (aC (gL (gUL dList (gB 2))) (aC (gV 4) aN))))))
  (sSeq (sSet 7 (gL (aC (gL (gUL dList (gB 5))) (aC (gL (gUL dList (gB 6))) aN))))
  (sSeq (sSet 8 (gCall S_added (aC (gV 5) (aC (gV 6) aN))))
  (sSeq (sSet 9 (gL (gUL dSorted (gOp dAdd (gL (gLc [28] (gIt (gV 5)) (gN 28) gYes (gIx (gB 28) (gI 0)))) (gL (gLc [28] (gIt (gV 6)) (gN 28) (gT (gOp dNIn (gIx (gB 28) (gI 0)) (gL (gLc [20] (gIt (gV 5)) (gN 20) gYes (gIx (gB 20) (gI 0)))))) (gIx (gB 28) (gI 0))))))))
  (sSeq (sIf (gOr (gT (gOp dNe (gL (gLc [28] (gIt (gV 8)) (gN 28) gYes (gIx (gB 28) (gI 0)))) (gB 9))) (gNot (gTru (gCall S__law_are_reduced (aC (gV 8) aN)))))
  (sRet (gC (.bl false)))
  sNil)
  (sSeq (sSet 10 (gOp dSub (gOp dMod (gU dInt (gCall S__law_cell (aC (gV 0) (aC (gI 7) aN)))) (gI 11)) (gI 5)))
  (sSeq (sSet 11 (gCall S_scaled (aC (gV 5) (aC (gV 10) aN))))
  (sSeq (sIf (gOr (gT (gOp dNe (gL (gLc [28] (gIt (gV 11)) (gN 28) gYes (gIx (gB 28) (gI 0)))) (gL (gLc [28] (gIt (gV 5)) (gN 28) gYes (gIx (gB 28) (gI 0)))))) (gNot (gTru (gCall S__law_are_reduced (aC (gV 11) aN)))))
  (sRet (gC (.bl false)))
  sNil)
  (sSeq (sFor (gRng (aC (gU dLen (gB 1)) aN)) (gN 12)
  (sSeq (sUnp (gTg 3 (gTo (gN 21) (gTo (gN 22) (gTo (gN 23) gEnd)))) (gCall S__law_line_at (aC (gV 5) (aC (gV 12) aN))))
  (sSeq (sUnp (gTg 3 (gTo (gN 24) (gTo (gN 25) (gTo (gN 26) gEnd)))) (gCall S__law_line_at (aC (gV 6) (aC (gV 12) aN))))
  (sSeq (sIf (gNot (gTru (gCall S__law_is_height (aC (gCall S__law_line_at (aC (gV 8) (aC (gV 12) aN))) (aC (gV 12) (aC (gOp dAdd (gOp dMul (gOp dAdd (gOp dMul (gV 21) (gV 12)) (gV 22)) (gV 26)) (gOp dMul (gOp dAdd (gOp dMul (gV 24) (gV 12)) (gV 25)) (gV 23))) (aC (gOp dMul (gV 23) (gV 26)) aN)))))))
  (sRet (gC (.bl false)))
  sNil)
  (sSeq (sIf (gNot (gTru (gCall S__law_is_height (aC (gCall S__law_line_at (aC (gV 11) (aC (gV 12) aN))) (aC (gV 12) (aC (gOp dMul (gV 10) (gOp dAdd (gOp dMul (gV 21) (gV 12)) (gV 22))) (aC (gV 23) aN)))))))
  (sRet (gC (.bl false)))
  sNil)
  (sSeq (sSet 27 (gCall S__law_line_at (aC (gV 8) (aC (gV 12) aN))))
  (sIf (gT (gOp dGt (gU dAbs (gOp dSub (gOp dAdd (gOp dMul (gIx (gB 27) (gI 0)) (gV 12)) (gIx (gB 27) (gI 1))) (gOp dMul (gOp dAdd (gIx (gB 1) (gV 12)) (gIx (gB 2) (gV 12))) (gIx (gB 27) (gI 2))))) (gOp dMul (gOp dAdd (gV 3) (gV 4)) (gIx (gB 27) (gI 2)))))
  (sRet (gC (.bl false)))
  sNil)))))))
  (sSeq (sSet 13 (gOp dMod (gU dInt (gCall S__law_cell (aC (gV 0) (aC (gI 8) aN)))) (gOp dAdd (gU dLen (gB 1)) (gI 1))))
  (sSeq (sSet 14 (gOp dMod (gU dInt (gCall S__law_cell (aC (gV 0) (aC (gI 9) aN)))) (gOp dAdd (gU dLen (gB 1)) (gI 1))))
  (sSeq (sSet 15 (gCall S_part_of (aC (gV 5) (aC (gV 13) (aC (gV 14) aN)))))
  (sSeq (sIf (gAnd (gT (gOp dGe (gV 13) (gV 14))) (gT (gOp dNe (gB 15) (gL aN))))
  (sRet (gC (.bl false)))
  sNil)
  (sSeq (sIf (gAnd (gT (gOp dLt (gV 13) (gV 14))) (gOr (gT (gOp dNe (gL (gSl (gL (gLc [28] (gIt (gV 15)) (gN 28) gYes (gIx (gB 28) (gI 0)))) gNo (gSo (gI 1)))) (gL (aC (gI 0) aN)))) (gNot (gTru (gCall S__law_are_reduced (aC (gV 15) aN))))))
  (sRet (gC (.bl false)))
  sNil)
  (sSeq (sSet 16 (gL (gLc [28] (gIt (gV 5)) (gN 28) (gCh (gV 13) (gChn dLt (gIx (gB 28) (gI 0)) (gCh1 dLt (gV 14)))) (gOp dSub (gIx (gB 28) (gI 0)) (gV 13)))))
  (sSeq (sIf (gAnd (gT (gOp dLt (gV 13) (gV 14))) (gT (gOp dNe (gL (gSl (gL (gLc [28] (gIt (gV 15)) (gN 28) gYes (gIx (gB 28) (gI 0)))) (gSo (gI 1)) gNo)) (gB 16))))
  (sRet (gC (.bl false)))
  sNil)
  (sSeq (sFor (gRng (aC (gV 13) (aC (gV 14) aN))) (gN 12)
  (sSeq (sUnp (gTg 3 (gTo (gN 21) (gTo (gN 22) (gTo (gN 23) gEnd)))) (gCall S__law_line_at (aC (gV 5) (aC (gV 12) aN))))
  (sIf (gNot (gTru (gCall S__law_is_height (aC (gCall S__law_line_at (aC (gV 15) (aC (gOp dSub (gV 12) (gV 13)) aN))) (aC (gOp dSub (gV 12) (gV 13)) (aC (gOp dAdd (gOp dMul (gV 21) (gV 12)) (gV 22)) (aC (gV 23) aN)))))))
  (sRet (gC (.bl false)))
  sNil)))
  (sSeq (sSet 17 (gOp dMod (gU dInt (gCall S__law_cell (aC (gV 0) (aC (gI 10) aN)))) (gI 4)))
  (sSeq (sIf (gT (gOp dEq (gOp dMod (gU dInt (gOp dDiv (gCall S__law_cell (aC (gV 0) (aC (gI 10) aN))) (gI 4))) (gI 16)) (gI 15)))
  (sSet 17 (gI 25))
  sNil)
  (sSeq (sSet 18 (gCall S_repeated (aC (gV 5) (aC (gU dLen (gB 1)) (aC (gV 17) aN)))))
  (sSeq (sSetO 19 aN)
  (sSeq (sFor (gRng (aC (gV 17) aN)) (gN 20)
  (sExt 19 [] (gLc [28] (gIt (gV 5)) (gN 28) gYes (gOp dAdd (gIx (gB 28) (gI 0)) (gOp dMul (gV 20) (gU dLen (gB 1)))))))
  (sSeq (sIf (gT (gOp dNe (gL (gLc [28] (gIt (gV 18)) (gN 28) gYes (gIx (gB 28) (gI 0)))) (gB 19)))
  (sRet (gC (.bl false)))
  sNil)
  (sSeq (sFor (gRng (aC (gOp dMul (gV 17) (gU dLen (gB 1))) aN)) (gN 12)
  (sSeq (sUnp (gTg 3 (gTo (gN 21) (gTo (gN 22) (gTo (gN 23) gEnd)))) (gCall S__law_line_at (aC (gV 5) (aC (gOp dMod (gU dInt (gB 12)) (gU dLen (gB 1))) aN))))
  (sIf (gNot (gTru (gCall S__law_is_height (aC (gCall S__law_line_at (aC (gV 18) (aC (gV 12) aN))) (aC (gV 12) (aC (gOp dAdd (gOp dMul (gV 21) (gOp dMod (gU dInt (gB 12)) (gU dLen (gB 1)))) (gV 22)) (aC (gV 23) aN)))))))
  (sRet (gC (.bl false)))
  sNil)))
  (sRet (gBl (gAnd (gT (gCall S__law_are_reduced (aC (gV 18) aN))) (gT (gOp dEq (gB 7) (gL (aC (gV 5) (aC (gV 6) aN)))))))))))))))))))))))))))))))))))))
noncomputable def S_law : List D → Option D := runB 29 B_law
theorem ok_law {f : Addr} {fd : FuncData} {C12 : Addr} (F : Fun K "law" "law" s_law f fd) (c__law_values : Cal P w K mg base "_law_values" 2 ["script", "place", "most"] S__law_values) (c__law_cell : Cal P w K mg base "_law_cell" 1 ["script", "k"] S__law_cell) (m_int : mg "int" = none) (m_len : mg "len" = none) (c__law_second : Cal P w K mg base "_law_second" 2 ["script", "place", "size"] S__law_second) (c__law_error_of : Cal P w K mg base "_law_error_of" 2 ["script", "place", "values"] S__law_error_of) (m_list : mg "list" = none) (k_Coded : Mak P w K mg base 12 8 ["self", "values", "error"] S_Coded___init__) (ck12 : CK K mg 12 C12) (c_added : Cal P w K mg base "added" 3 ["one", "other"] S_added) (m_sorted : mg "sorted" = none) (c__law_are_reduced : Cal P w K mg base "_law_are_reduced" 1 ["pieces"] S__law_are_reduced) (c_scaled : Cal P w K mg base "scaled" 2 ["pieces", "factor"] S_scaled) (m_range : mg "range" = none) (c__law_line_at : Cal P w K mg base "_law_line_at" 1 ["pieces", "at"] S__law_line_at) (c__law_is_height : Cal P w K mg base "_law_is_height" 1 ["line", "at", "numerator", "divisor"] S__law_is_height) (m_abs : mg "abs" = none) (c_part_of : Cal P w K mg base "part_of" 3 ["pieces", "a", "b"] S_part_of) (c_repeated : Cal P w K mg base "repeated" 3 ["pieces", "length", "times"] S_repeated) : FnOk P w K mg base CX0 10 f fd ["script"] (spD K mg 1 S_law) :=
  def_ok F sc_law fun cdv A outer s H E hr =>
  (ss_cons (s_set 1 sc_law.nd (e_op od_add (e_callC c__law_values hr (by decide) (n_cons (e_var 0) (n_cons e_int (n_cons e_int n_nil)))) (el_lst (n_cons (e_op od_mod (e_cty cb_int (by rfl) m_int boot_int' (e_callC c__law_cell hr (by decide) (n_cons (e_var 0) (n_cons e_int n_nil))).bo) e_int) n_nil)).fz))
  (ss_cons (s_set 2 sc_law.nd (e_callC c__law_second hr (by decide) (n_cons (e_var 0) (n_cons e_int (n_cons (e_cb cb_len (by rfl) m_len boot_len' (b_var 1)) n_nil)))))
  (ss_cons (s_set 3 sc_law.nd (e_callC c__law_error_of hr (by decide) (n_cons (e_var 0) (n_cons e_int (n_cons (e_var 1) n_nil)))))
  (ss_cons (s_set 4 sc_law.nd (e_callC c__law_error_of hr (by decide) (n_cons (e_var 0) (n_cons e_int (n_cons (e_var 2) n_nil)))))
  (ss_cons (s_set 5 sc_law.nd (e_fld (c := 12) (j := 0) ck12 (e_mkC (c := 12) k_Coded hr (by decide) (n_cons (el_cty cb_list (by rfl) m_list boot_list' (b_var 1)).fz (n_cons (e_var 3) n_nil))).fz))
  (ss_cons (s_set 6 sc_law.nd (e_fld (c := 12) (j := 0) ck12 (e_mkC (c := 12) k_Coded hr (by decide) (n_cons (el_cty cb_list (by rfl) m_list boot_list' (b_var 2)).fz (n_cons (e_var 4) n_nil))).fz))
  (ss_cons (s_set 7 sc_law.nd (el_lst (n_cons (el_cty cb_list (by rfl) m_list boot_list' (b_var 5)).fz (n_cons (el_cty cb_list (by rfl) m_list boot_list' (b_var 6)).fz n_nil))).fz)
  (ss_cons (s_set 8 sc_law.nd (e_callC c_added hr (by decide) (n_cons (e_var 5) (n_cons (e_var 6) n_nil))))
  (ss_cons (s_set 9 sc_law.nd (el_cb cb_sorted (by rfl) m_sorted boot_sorted' (e_op od_add (el_lc (own := [("piece", 28)]) rfl sc_law.nd (i_list (e_var 5)).c (blkOk_by (own := [("piece", 28)]) (N := N_law) (sc := defScope s_law) (by decide +kernel)) (by decide) (fun _ _ _ _ _ => (g_name 28 sc_law.nd)) (fun _ _ _ _ _ => ts_nil) (fun _ _ _ _ _ => (e_ix (b_var 28) e_int))).fz (el_lc (own := [("piece", 28)]) rfl sc_law.nd (i_list (e_var 6)).c (blkOk_by (own := [("piece", 28)]) (N := N_law) (sc := defScope s_law) (by decide +kernel)) (by decide) (fun _ _ _ _ _ => (g_name 28 sc_law.nd)) (fun _ _ _ _ _ => (ts_one (t_cmpB (ob_nin hr.u65) (e_ix (b_var 28) e_int).bo (el_lc (own := [("k", 20)]) rfl sc_law.nd (i_list (e_var 5)).c (blkOk_by (own := [("k", 20)]) (by kernel_rfl)) (by decide) (fun _ _ _ _ _ => (g_name 20 sc_law.nd)) (fun _ _ _ _ _ => ts_nil) (fun _ _ _ _ _ => (e_ix (b_var 20) e_int))).fz.bo))) (fun _ _ _ _ _ => (e_ix (b_var 28) e_int))).fz).bo).fz)
  (ss_cons (s_if (w_or (t_cmpB (ob_ne hr.units) (el_lc (own := [("piece", 28)]) rfl sc_law.nd (i_list (e_var 8)).c (blkOk_by (own := [("piece", 28)]) (N := N_law) (sc := defScope s_law) (by decide +kernel)) (by decide) (fun _ _ _ _ _ => (g_name 28 sc_law.nd)) (fun _ _ _ _ _ => ts_nil) (fun _ _ _ _ _ => (e_ix (b_var 28) e_int))).fz.bo (b_var 9)) (w_or1 (t_not (t_tru (e_callC c__law_are_reduced hr (by decide) (n_cons (e_var 8) n_nil)).bo)))).t
  (ss_one (s_ret e_bl))
  ss_nil)
  (ss_cons (s_set 10 sc_law.nd (e_op od_sub (e_op od_mod (e_cty cb_int (by rfl) m_int boot_int' (e_callC c__law_cell hr (by decide) (n_cons (e_var 0) (n_cons e_int n_nil))).bo) e_int) e_int))
  (ss_cons (s_set 11 sc_law.nd (e_callC c_scaled hr (by decide) (n_cons (e_var 5) (n_cons (e_var 10) n_nil))))
  (ss_cons (s_if (w_or (t_cmpB (ob_ne hr.units) (el_lc (own := [("piece", 28)]) rfl sc_law.nd (i_list (e_var 11)).c (blkOk_by (own := [("piece", 28)]) (N := N_law) (sc := defScope s_law) (by decide +kernel)) (by decide) (fun _ _ _ _ _ => (g_name 28 sc_law.nd)) (fun _ _ _ _ _ => ts_nil) (fun _ _ _ _ _ => (e_ix (b_var 28) e_int))).fz.bo (el_lc (own := [("piece", 28)]) rfl sc_law.nd (i_list (e_var 5)).c (blkOk_by (own := [("piece", 28)]) (N := N_law) (sc := defScope s_law) (by decide +kernel)) (by decide) (fun _ _ _ _ _ => (g_name 28 sc_law.nd)) (fun _ _ _ _ _ => ts_nil) (fun _ _ _ _ _ => (e_ix (b_var 28) e_int))).fz.bo) (w_or1 (t_not (t_tru (e_callC c__law_are_reduced hr (by decide) (n_cons (e_var 11) n_nil)).bo)))).t
  (ss_one (s_ret e_bl))
  ss_nil)
  (ss_cons (s_for PassesOwn.never rfl (i_rng1 (by rfl) m_range (n_cons (e_cb cb_len (by rfl) m_len boot_len' (b_var 1)) n_nil)).fb (g_name 12 sc_law.nd)
  (ss_cons (s_unp (e_callC c__law_line_at hr (by decide) (n_cons (e_var 5) (n_cons (e_var 12) n_nil))) (g_tup rfl (gl_cons (g_name 21 sc_law.nd) (gl_cons (g_name 22 sc_law.nd) (gl_cons (g_name 23 sc_law.nd) gl_nil)))))
  (ss_cons (s_unp (e_callC c__law_line_at hr (by decide) (n_cons (e_var 6) (n_cons (e_var 12) n_nil))) (g_tup rfl (gl_cons (g_name 24 sc_law.nd) (gl_cons (g_name 25 sc_law.nd) (gl_cons (g_name 26 sc_law.nd) gl_nil)))))
  (ss_cons (s_if (t_not (t_tru (e_callC c__law_is_height hr (by decide) (n_cons (e_callC c__law_line_at hr (by decide) (n_cons (e_var 8) (n_cons (e_var 12) n_nil))) (n_cons (e_var 12) (n_cons (e_op od_add (e_op od_mul (e_op od_add (e_op od_mul (e_var 21) (e_var 12)) (e_var 22)) (e_var 26)) (e_op od_mul (e_op od_add (e_op od_mul (e_var 24) (e_var 12)) (e_var 25)) (e_var 23))) (n_cons (e_op od_mul (e_var 23) (e_var 26)) n_nil))))).bo))
  (ss_one (s_ret e_bl))
  ss_nil)
  (ss_cons (s_if (t_not (t_tru (e_callC c__law_is_height hr (by decide) (n_cons (e_callC c__law_line_at hr (by decide) (n_cons (e_var 11) (n_cons (e_var 12) n_nil))) (n_cons (e_var 12) (n_cons (e_op od_mul (e_var 10) (e_op od_add (e_op od_mul (e_var 21) (e_var 12)) (e_var 22))) (n_cons (e_var 23) n_nil))))).bo))
  (ss_one (s_ret e_bl))
  ss_nil)
  (ss_cons (s_set 27 sc_law.nd (e_callC c__law_line_at hr (by decide) (n_cons (e_var 8) (n_cons (e_var 12) n_nil))))
  (ss_one (s_if (t_cmp od_gt (e_cb cb_abs (by rfl) m_abs boot_abs' (e_op od_sub (e_op od_add (e_op od_mul (e_ix (b_var 27) e_int) (e_var 12)) (e_ix (b_var 27) e_int)) (e_op od_mul (e_op od_add (e_ix (b_var 1) (e_var 12)) (e_ix (b_var 2) (e_var 12))) (e_ix (b_var 27) e_int))).bo) (e_op od_mul (e_op od_add (e_var 3) (e_var 4)) (e_ix (b_var 27) e_int)))
  (ss_one (s_ret e_bl))
  ss_nil))))))))
  (ss_cons (s_set 13 sc_law.nd (e_op od_mod (e_cty cb_int (by rfl) m_int boot_int' (e_callC c__law_cell hr (by decide) (n_cons (e_var 0) (n_cons e_int n_nil))).bo) (e_op od_add (e_cb cb_len (by rfl) m_len boot_len' (b_var 1)) e_int)))
  (ss_cons (s_set 14 sc_law.nd (e_op od_mod (e_cty cb_int (by rfl) m_int boot_int' (e_callC c__law_cell hr (by decide) (n_cons (e_var 0) (n_cons e_int n_nil))).bo) (e_op od_add (e_cb cb_len (by rfl) m_len boot_len' (b_var 1)) e_int)))
  (ss_cons (s_set 15 sc_law.nd (e_callC c_part_of hr (by decide) (n_cons (e_var 5) (n_cons (e_var 13) (n_cons (e_var 14) n_nil)))))
  (ss_cons (s_if (w_and (t_cmp od_ge (e_var 13) (e_var 14)) (w_and1 (t_cmpB (ob_ne hr.units) (b_var 15) (el_lst n_nil).fz.bo))).t
  (ss_one (s_ret e_bl))
  ss_nil)
  (ss_cons (s_if (w_and (t_cmp od_lt (e_var 13) (e_var 14)) (w_and1 (w_or (t_cmpB (ob_ne hr.units) (el_sl (el_lc (own := [("piece", 28)]) rfl sc_law.nd (i_list (e_var 15)).c (blkOk_by (own := [("piece", 28)]) (N := N_law) (sc := defScope s_law) (by decide +kernel)) (by decide) (fun _ _ _ _ _ => (g_name 28 sc_law.nd)) (fun _ _ _ _ _ => ts_nil) (fun _ _ _ _ _ => (e_ix (b_var 28) e_int))).fz.bo o_no (o_so e_int)).fz.bo (el_lst (n_cons e_int n_nil)).fz.bo) (w_or1 (t_not (t_tru (e_callC c__law_are_reduced hr (by decide) (n_cons (e_var 15) n_nil)).bo)))).t)).t
  (ss_one (s_ret e_bl))
  ss_nil)
  (ss_cons (s_setLcS 16 (own := [("piece", 28)]) rfl sc_law.nd (i_list (e_var 5)).c (blkOk_by (own := [("piece", 28)]) (N := N_law) (sc := defScope s_law) (by decide +kernel)) (by decide) (fun _ _ _ _ _ => (g_name 28 sc_law.nd)) (fun _ _ _ _ _ => (ts_one (t_chn (e_var 13) (c_cons od_lt (e_ix (b_var 28) e_int) (c_last od_lt (e_var 14)))))) (fun _ _ _ _ _ => (e_op od_sub (e_ix (b_var 28) e_int) (e_var 13))))
  (ss_cons (s_if (w_and (t_cmp od_lt (e_var 13) (e_var 14)) (w_and1 (t_cmpB (ob_ne hr.units) (el_sl (el_lc (own := [("piece", 28)]) rfl sc_law.nd (i_list (e_var 15)).c (blkOk_by (own := [("piece", 28)]) (N := N_law) (sc := defScope s_law) (by decide +kernel)) (by decide) (fun _ _ _ _ _ => (g_name 28 sc_law.nd)) (fun _ _ _ _ _ => ts_nil) (fun _ _ _ _ _ => (e_ix (b_var 28) e_int))).fz.bo (o_so e_int) o_no).fz.bo (b_var 16)))).t
  (ss_one (s_ret e_bl))
  ss_nil)
  (ss_cons (s_for PassesOwn.never rfl (i_rng2 (by rfl) m_range (n_cons (e_var 13) (n_cons (e_var 14) n_nil))).fb (g_name 12 sc_law.nd)
  (ss_cons (s_unp (e_callC c__law_line_at hr (by decide) (n_cons (e_var 5) (n_cons (e_var 12) n_nil))) (g_tup rfl (gl_cons (g_name 21 sc_law.nd) (gl_cons (g_name 22 sc_law.nd) (gl_cons (g_name 23 sc_law.nd) gl_nil)))))
  (ss_one (s_if (t_not (t_tru (e_callC c__law_is_height hr (by decide) (n_cons (e_callC c__law_line_at hr (by decide) (n_cons (e_var 15) (n_cons (e_op od_sub (e_var 12) (e_var 13)) n_nil))) (n_cons (e_op od_sub (e_var 12) (e_var 13)) (n_cons (e_op od_add (e_op od_mul (e_var 21) (e_var 12)) (e_var 22)) (n_cons (e_var 23) n_nil))))).bo))
  (ss_one (s_ret e_bl))
  ss_nil))))
  (ss_cons (s_set 17 sc_law.nd (e_op od_mod (e_cty cb_int (by rfl) m_int boot_int' (e_callC c__law_cell hr (by decide) (n_cons (e_var 0) (n_cons e_int n_nil))).bo) e_int))
  (ss_cons (s_if (t_cmpB (ob_eq hr.units) (e_op od_mod (e_cty cb_int (by rfl) m_int boot_int' (e_op od_div (e_callC c__law_cell hr (by decide) (n_cons (e_var 0) (n_cons e_int n_nil))) e_int).bo) e_int).bo e_int.bo)
  (ss_one (s_set 17 sc_law.nd e_int))
  ss_nil)
  (ss_cons (s_set 18 sc_law.nd (e_callC c_repeated hr (by decide) (n_cons (e_var 5) (n_cons (e_cb cb_len (by rfl) m_len boot_len' (b_var 1)) (n_cons (e_var 17) n_nil)))))
  (ss_cons (s_setO 19 sc_law.nd (el_lst n_nil))
  (ss_cons (s_for PassesOwn.never rfl (i_rng1 (by rfl) m_range (n_cons (e_var 17) n_nil)).fb (g_name 20 sc_law.nd)
  (ss_one (s_ext (pl_var 19) (el_lc (own := [("piece", 28)]) rfl sc_law.nd (i_list (e_var 5)).c (blkOk_by (own := [("piece", 28)]) (N := N_law) (sc := defScope s_law) (by decide +kernel)) (by decide) (fun _ _ _ _ _ => (g_name 28 sc_law.nd)) (fun _ _ _ _ _ => ts_nil) (fun _ _ _ _ _ => (e_op od_add (e_ix (b_var 28) e_int) (e_op od_mul (e_var 20) (e_cb cb_len (by rfl) m_len boot_len' (b_var 1)))))))))
  (ss_cons (s_if (t_cmpB (ob_ne hr.units) (el_lc (own := [("piece", 28)]) rfl sc_law.nd (i_list (e_var 18)).c (blkOk_by (own := [("piece", 28)]) (N := N_law) (sc := defScope s_law) (by decide +kernel)) (by decide) (fun _ _ _ _ _ => (g_name 28 sc_law.nd)) (fun _ _ _ _ _ => ts_nil) (fun _ _ _ _ _ => (e_ix (b_var 28) e_int))).fz.bo (b_var 19))
  (ss_one (s_ret e_bl))
  ss_nil)
  (ss_cons (s_for PassesOwn.never rfl (i_rng1 (by rfl) m_range (n_cons (e_op od_mul (e_var 17) (e_cb cb_len (by rfl) m_len boot_len' (b_var 1))) n_nil)).fb (g_name 12 sc_law.nd)
  (ss_cons (s_unp (e_callC c__law_line_at hr (by decide) (n_cons (e_var 5) (n_cons (e_op od_mod (e_cty cb_int (by rfl) m_int boot_int' (b_var 12)) (e_cb cb_len (by rfl) m_len boot_len' (b_var 1))) n_nil))) (g_tup rfl (gl_cons (g_name 21 sc_law.nd) (gl_cons (g_name 22 sc_law.nd) (gl_cons (g_name 23 sc_law.nd) gl_nil)))))
  (ss_one (s_if (t_not (t_tru (e_callC c__law_is_height hr (by decide) (n_cons (e_callC c__law_line_at hr (by decide) (n_cons (e_var 18) (n_cons (e_var 12) n_nil))) (n_cons (e_var 12) (n_cons (e_op od_add (e_op od_mul (e_var 21) (e_op od_mod (e_cty cb_int (by rfl) m_int boot_int' (b_var 12)) (e_cb cb_len (by rfl) m_len boot_len' (b_var 1)))) (e_var 22)) (n_cons (e_var 23) n_nil))))).bo))
  (ss_one (s_ret e_bl))
  ss_nil))))
  (ss_one (s_ret (v_and (e_callC c__law_are_reduced hr (by decide) (n_cons (e_var 18) n_nil)).v (v_one (e_cmpB (ob_eq hr.units) (b_var 7) (el_lst (n_cons (e_var 5) (n_cons (e_var 6) n_nil))).fz.bo).v)).e)))))))))))))))))))))))))))))))
/-! Coded.value_at -/
abbrev s_Coded_value_at : Stmt := inClass (topS 32) 1
abbrev N_Coded_value_at : List Str := ["self", "index"]
theorem sc_Coded_value_at : FnScope N_Coded_value_at ["self", "index"] (defScope s_Coded_value_at) := ⟨rfl, rfl, rfl, by decide +kernel, rfl, by decide +kernel, by decide +kernel⟩
noncomputable def B_Coded_value_at : Sm :=
  (sExp (gCall S__wall (aC (gI 0) aN)))
noncomputable def S_Coded_value_at : List D → Option D := runB 2 B_Coded_value_at
theorem ok_Coded_value_at {f : Addr} {fd : FuncData} (F : Fun K "value_at" "Coded.value_at" s_Coded_value_at f fd) (c__wall : Cal P w K mg base "_wall" 1 ["k"] S__wall) : FnOk P w K mg base CX0 2 f fd ["self", "index"] (spD K mg 2 S_Coded_value_at) :=
  def_ok F sc_Coded_value_at fun cdv A outer s H E hr =>
  (ss_one (s_expr (e_callC c__wall hr (by decide) (n_cons e_int n_nil))))
/-! Coded.decoded -/
abbrev s_Coded_decoded : Stmt := inClass (topS 32) 2
abbrev N_Coded_decoded : List Str := ["self"]
theorem sc_Coded_decoded : FnScope N_Coded_decoded ["self"] (defScope s_Coded_decoded) := ⟨rfl, rfl, rfl, by decide +kernel, rfl, by decide +kernel, by decide +kernel⟩
noncomputable def B_Coded_decoded : Sm :=
  (sExp (gCall S__wall (aC (gI 1) aN)))
noncomputable def S_Coded_decoded : List D → Option D := runB 1 B_Coded_decoded
theorem ok_Coded_decoded {f : Addr} {fd : FuncData} (F : Fun K "decoded" "Coded.decoded" s_Coded_decoded f fd) (c__wall : Cal P w K mg base "_wall" 1 ["k"] S__wall) : FnOk P w K mg base CX0 2 f fd ["self"] (spD K mg 1 S_Coded_decoded) :=
  def_ok F sc_Coded_decoded fun cdv A outer s H E hr =>
  (ss_one (s_expr (e_callC c__wall hr (by decide) (n_cons e_int n_nil))))
end
end K28

namespace K28
open PySem L2 DL
local macro_rules | `(tactic| walk_at "ev call") => `(tactic| ((with_reducible (show _ = _)); with_reducible assumption))
local macro_rules | `(tactic| walk_at "ev mul") => `(tactic| first | (with_reducible assumption) | exact mulOk_l (by omega) (by omega) | exact mulOk_r (by omega) (by omega) | decide +kernel)
local macro_rules | `(tactic| walk_at "ev pos") => `(tactic| first | (with_reducible assumption) | decide | omega)
local macro_rules | `(tactic| walk_at "ev log") => `(tactic| first | (with_reducible assumption) | exact log_of (k := 100) (by omega) (by decide) (by decide) | decide +kernel)
local macro_rules | `(tactic| walk_at "ev") => `(tactic| (repeat' first
  | (with_reducible exact ev_I) | (with_reducible exact ev_C) | (with_reducible exact ev_nl) | (with_reducible exact ev_No)
  | ((with_reducible apply ev_V); exact rfl) | ((with_reducible apply ev_B); exact rfl) | ((with_reducible apply ev_Bo); exact rfl)
  | (with_reducible apply ev_cs) | (with_reducible apply ev_tu) | (with_reducible apply ev_L)
  | (with_reducible apply ev_op) | (with_reducible apply ev_U) | (with_reducible apply ev_call) | (with_reducible apply ev_A)
  | (with_reducible apply ev_UL) | (with_reducible apply ev_Sl) | (with_reducible apply ev_So) | (with_reducible apply ev_meth)
  | (with_reducible apply ev_T) | (with_reducible apply ev_Tru) | (with_reducible apply ev_not) | (with_reducible apply ev_bl)
  | (with_reducible apply ev_ch) | (with_reducible apply ev_ch1) | (with_reducible apply ev_chn)
  | (with_reducible apply ev_and) | (with_reducible apply ev_or)
  | (with_reducible exact d_add) | (with_reducible exact d_sub)
  | ((with_reducible refine d_mul ?_); walk_at "ev mul") | ((with_reducible refine d_mod ?_); walk_at "ev pos") | ((with_reducible refine d_div ?_ ?_) <;> first | walk_at "ev pos" | walk_at "ev log")
  | ((with_reducible (show dLt (.int _) (.int _) = _)); exact rfl) | ((with_reducible (show dLe (.int _) (.int _) = _)); exact rfl) | ((with_reducible (show dGt (.int _) (.int _) = _)); exact rfl) | ((with_reducible (show dGe (.int _) (.int _) = _)); exact rfl)
  | ((with_reducible (show dInt (.int _) = _)); exact rfl) | ((with_reducible (show dAbs (.int _) = _)); exact rfl) | ((with_reducible (show dNeg (.int _) = _)); exact rfl)
  | ((with_reducible (show dTru (.bl _) = _)); exact rfl) | ((with_reducible refine d_pow ?_); decide)
  | ((with_reducible (show dIsi _ (.bl _) = _)); exact rfl) | ((with_reducible (show dIsi _ (.tup _) = _)); exact rfl) | ((with_reducible (show dIsi _ (.int _) = _)); exact rfl) | ((with_reducible (show dIsi _ .non = _)); exact rfl)
  | ((with_reducible (show dIsN _ _ = _)); exact rfl) | ((with_reducible (show dNoN _ _ = _)); exact rfl)
  | ((with_reducible (show dLen (.lst _) = _)); exact rfl) | ((with_reducible (show dLen (.scr _) = _)); exact rfl) | ((with_reducible (show dLen (.tup _) = _)); exact rfl)
  | (with_reducible refine d_eq eqOk_int eqOk_int eqd_int) | (with_reducible refine d_eq eqOk_bl eqOk_bl eqd_bl) | (with_reducible refine d_ne eqOk_int eqOk_int eqd_int)
  | (with_reducible refine d_ne eqOk_bl eqOk_bl eqd_bl) | ((with_reducible (show dIx (.tup _) (.int _) = _)); exact rfl)
  | walk_at "ev call"))
local macro_rules | `(tactic| walk_at "ev norm") => `(tactic| simp only [List.map_cons, List.map_nil, List.length_cons, List.length_nil, Nat.reduceAdd, Nat.reduceSub, List.reduceReplicate, List.cons_append, List.nil_append, List.set_cons_zero, List.set_cons_succ, List.zip_cons_cons, List.zip_nil_left, List.zip_nil_right, List.foldl_cons, List.foldl_nil])
local macro_rules | `(tactic| walk_at "ev st") => `(tactic| first
  | ((with_reducible apply sq_set); walk_at "ev"; all_goals (try walk_at "ev norm"))
  | ((with_reducible apply sq_unp); (walk_at "ev"); (all_goals try exact rfl); all_goals (try walk_at "ev norm"))
  | ((with_reducible apply sq_par); walk_at "ev"; all_goals (try walk_at "ev norm"))
  | ((with_reducible apply sq_setO); walk_at "ev"; all_goals (try walk_at "ev norm"))
  | ((with_reducible apply sq_ret); walk_at "ev")
  | ((with_reducible apply sv_ret); walk_at "ev")
  | ((with_reducible apply sv_set); walk_at "ev")
  | (with_reducible apply sq_nil))
def absI (a : Int) : Int := if a < 0 then -a else a
theorem absI_le {a b : Int} : absI a ≤ b ↔ -b ≤ a ∧ a ≤ b := by unfold absI; split <;> omega
def encP (a : Int × Int) : D := .tup [.int a.1, .int a.2]
def encL (l : Int × Int × Int) : D := .tup [.int l.1, .int l.2.1, .int l.2.2]
theorem all_map_bl {α : Type} (xs : List α) (t : α → Bool) : dAll (.lst (xs.map fun a => D.bl (t a))) = some (.bl (xs.all t)) := by
  have e : xs.map (fun a => D.bl (t a)) = (xs.map t).map D.bl := by rw [List.map_map]; rfl
  rw [e, d_all]
  simp [List.all_map]
def cell (ns : List Int) (k : Nat) : Int := ns.getD k 0
theorem cell_eq (ns : List Int) (k : Int) (h0 : 0 ≤ k) : S__law_cell [.scr ns, .int k] = some (.int (cell ns k.toNat)) := by
  obtain ⟨k, rfl⟩ := Int.eq_ofNat_of_zero_le h0
  refine sv_run ?_
  unfold B__law_cell
  walk_at "ev norm"
  refine sv_ifS (b := decide ((k : Int) < (ns.length : Int))) ?_ ?_ ?_
  · walk_at "ev"
  · intro h
    have h : k < ns.length := by simpa using h
    refine sv_rt (sv_ret (ev_op (ev_B rfl) (ev_V rfl) ?_))
    show (atI ns (k : Int)).map D.int = _
    rw [atI_nat (List.getElem?_eq_getElem h)]
    simp [cell, h]
  · intro h
    have h : ns.length ≤ k := by simpa using h
    rw [sv_nilS]
    refine sv_ret ?_
    simp [cell, List.getElem?_eq_none h, gI]
local macro_rules | `(tactic| walk_at "ev call") => `(tactic| with_reducible exact cell_eq _ _ (by decide))
theorem forL_rng {gs : Gs} {F : Sm} (n : Nat) (lo : Int) (Iv : Nat → DEnv → Prop) (hs : ∀ (k : Nat) Γ, k < n → Iv k Γ → ∃ Γ1 Γ2, gs (.int (lo + (k : Nat))) Γ = some Γ1 ∧ (F Γ1 = some (.nx Γ2) ∨ F Γ1 = some (.ct Γ2)) ∧ Iv (k + 1) Γ2) (Γ : DEnv) (h0 : Iv 0 Γ) : ∃ Γ', forL gs F (rngD lo n) Γ = some (.nx Γ') ∧ Iv n Γ' := by
  have key : ∀ m k Γ, k + m = n → Iv k Γ → ∃ Γ', forL gs F ((List.range' k m).map fun i => D.int (lo + (i : Nat))) Γ = some (.nx Γ') ∧ Iv n Γ' := by
    intro m
    induction m with
    | zero =>
      intro k Γ e h
      obtain rfl : k = n := by omega
      exact ⟨Γ, rfl, h⟩
    | succ m ih =>
      intro k Γ e h
      obtain ⟨Γ1, Γ2, h1, h2, h3⟩ := hs k Γ (by omega) h
      obtain ⟨Γ', h4, h5⟩ := ih (k + 1) Γ2 (by omega) h3
      refine ⟨Γ', ?_, h5⟩
      rw [List.range'_succ, List.map_cons]
      rcases h2 with h2 | h2
      · exact forL_nx h1 h2 h4
      · exact forL_ct h1 h2 h4
  have := key n 0 Γ (by omega) h0
  rwa [← List.range_eq_range'] at this
def mix1 (c : Int) (k : Nat) : Int := (c * 48271 + k * 69621 + 1013) % 2147483647
def mix2 (c : Int) (k : Nat) : Int := (mix1 c k * mix1 c k + 7 * mix1 c k + k) % 2147483629
/-- the law's digits -/
theorem digits_eq (c many n : Int) (h0 : 0 < many) (h1 : many ≤ 10 ^ 15) (n0 : 0 ≤ n) (n1 : n ≤ 100000) : ∃ ds : List Int, S__law_digits [.int c, .int many, .int n] = some (.lst (ds.map D.int)) ∧ (ds.length : Int) = n ∧ ∀ d ∈ ds, 0 ≤ d ∧ d < many := by
  obtain ⟨n, rfl⟩ := Int.eq_ofNat_of_zero_le n0
  have hloop := forL_rng (gs := gN 5) (F := (sIf (gT (gOp dGe (gV 0) (gOp dPow (gI 10) (gI 18))))
  (sSeq (sApp 3 [] (gOp dMod (gU dInt (gB 4)) (gV 1)))
  (sSet 4 (gOp dDiv (gV 4) (gV 1))))
  (sSeq (sSet 6 (gOp dMod (gU dInt (gOp dAdd (gOp dAdd (gOp dMul (gV 0) (gI 48271)) (gOp dMul (gV 5) (gI 69621))) (gI 1013))) (gI 2147483647)))
  (sSeq (sSet 6 (gOp dMod (gU dInt (gOp dAdd (gOp dAdd (gOp dMul (gV 6) (gV 6)) (gOp dMul (gI 7) (gV 6))) (gV 5))) (gI 2147483629)))
  (sApp 3 [] (gOp dMod (gU dInt (gOp dDiv (gV 6) (gI 31))) (gV 1))))))) n 0
    (fun k Γ => ∃ (ds : List Int) (rest : Int) (s5 s6 : Sl), Γ = [.sh (.int c), .sh (.int many), .sh (.int n), .ow (ds.map D.int), .sh (.int rest), s5, s6] ∧ ds.length = k ∧ ∀ d ∈ ds, 0 ≤ d ∧ d < many) ?_
    [.sh (.int c), .sh (.int many), .sh (.int n), .ow [], .sh (.int c), .no, .no] ⟨[], c, .no, .no, rfl, rfl, by simp⟩
  · obtain ⟨Γ', hf, ds, rest, s5, s6, rfl, hl, hb⟩ := hloop
    refine ⟨ds, ?_, by omega, hb⟩
    refine sv_run ?_
    unfold B__law_digits
    walk_at "ev norm"
    walk_at "ev st"
    walk_at "ev st"
    refine sv_nx (sv_for (ev_rng1 (ev_cs (ev_V rfl) ev_nl) (by omega) (by omega)) hf) ?_
    refine sv_frz ?_
    exact sv_ret (ev_V rfl)
  · rintro k Γ hk ⟨ds, rest, s5, s6, rfl, hl, hb⟩
    have e : (0 + (k : Int)) = k := by omega
    rw [e]
    have push : ∀ x : Int, (∀ d ∈ ds ++ [x % many], 0 ≤ d ∧ d < many) := fun x d hd => by
      rcases List.mem_append.mp hd with z | z
      · exact hb d z
      · rw [List.mem_singleton] at z
        subst z
        exact ⟨Int.emod_nonneg _ (by omega), Int.emod_lt_of_pos _ h0⟩
    have len : (ds.map D.int).length < 1000000 := by rw [List.length_map]; omega
    refine ⟨[.sh (.int c), .sh (.int many), .sh (.int n), .ow (ds.map D.int), .sh (.int rest), .sh (.int k), s6], ?_⟩
    by_cases hc : c ≥ 10 ^ 18
    · refine ⟨_, rfl, .inl (sv_ifT ?_ (sv_nx (sv_app0 (xs := ds.map D.int) (d := .int (rest % many)) ?_ rfl len) (sv_set (d := .int (rest / many)) ?_))), ds ++ [rest % many], rest / many, .sh (.int k), s6, ?_, by simp [hl], push _⟩
      · refine ev_T (ev_op (ev_V rfl) (ev_op ev_I ev_I (d_pow (by decide))) ?_)
        show some (D.bl (decide _)) = _
        rw [decide_eq_true]
        exact hc
      · walk_at "ev"
      · exact ev_op (ev_V rfl) (ev_V rfl) (d_div h0 (log_of (k := 100) (by omega) (by decide) (by decide)))
      · simp
    · have b1 : -(2 ^ 64) < mix1 c k ∧ mix1 c k < 2 ^ 64 := by
        unfold mix1
        omega
      refine ⟨_, rfl, .inl (sv_ifF ?_ (sv_nx (sv_set (d := .int (mix1 c k)) ?_) (sv_nx (sv_set (d := .int (mix2 c k)) ?_) (sv_app0 (xs := ds.map D.int) (d := .int (mix2 c k / 31 % many)) ?_ rfl len)))), ds ++ [mix2 c k / 31 % many], rest, .sh (.int k), .sh (.int (mix2 c k)), ?_, by simp [hl], push _⟩
      · refine ev_T (ev_op (ev_V rfl) (ev_op ev_I ev_I (d_pow (by decide))) ?_)
        show some (D.bl (decide _)) = _
        rw [decide_eq_false]
        exact hc
      · unfold mix1
        walk_at "ev"
      · walk_at "ev norm"
        unfold mix2
        generalize mix1 c k = m at *
        refine ev_op (ev_U (ev_op (ev_op (ev_op (ev_V rfl) (ev_V rfl) (d_mul (mulOk_l b1.1 b1.2))) (ev_op ev_I (ev_V rfl) (d_mul (mulOk_r b1.1 b1.2))) d_add) (ev_V rfl) d_add) rfl) ev_I (d_mod (by decide))
      · walk_at "ev norm"
        generalize mix2 c k = m at *
        walk_at "ev"
      · simp
theorem ixm (ms : List Int) (i : Int) (h0 : 0 ≤ i) (h1 : i < ms.length) : ∃ m, m ∈ ms ∧ dIx (.lst (ms.map D.int)) (.int i) = some (.int m) := by
  obtain ⟨k, rfl⟩ := Int.eq_ofNat_of_zero_le h0
  have hk : k < ms.length := by omega
  exact ⟨ms[k], List.getElem_mem hk, d_ixL (by simp [hk])⟩
def Asc (pts : List (Int × Int)) : Prop := pts.Pairwise fun a b => a.1 < b.1
abbrev SmP (a : Int × Int) : Prop := (-(2 ^ 19) < a.1 ∧ a.1 < 2 ^ 19) ∧ -(2 ^ 50) < a.2 ∧ a.2 < 2 ^ 50
theorem maxI_mem {ns : List Int} (h : ns ≠ []) : maxI ns ∈ ns ∧ ∀ n ∈ ns, n ≤ maxI ns := maxI_spec ns (by cases ns with | nil => exact absurd rfl h | cons => simp)
theorem minI_mem {ns : List Int} (h : ns ≠ []) : minI ns ∈ ns ∧ ∀ n ∈ ns, minI ns ≤ n := minI_spec ns (by cases ns with | nil => exact absurd rfl h | cons => simp)
def three (a b c : Int × Int) (e : Int) : Bool := decide (absI (b.2 * (c.1 - a.1) - a.2 * (c.1 - b.1) - c.2 * (b.1 - a.1)) ≤ 2 * e * (c.1 - a.1))
theorem all_range_succ (n : Nat) (t : Nat → Bool) : (List.range (n + 1)).all t = (t 0 && (List.range n).all fun k => t (k + 1)) := by
  rw [List.range_succ_eq_map, List.all_cons, List.all_map]; rfl
/-- a loop that leaves with r at the first item that fails -/
theorem forL_chk {gs : Gs} {F : Sm} (r : D) (Iv : DEnv → Prop) : ∀ (ds : List D) (t : Nat → Bool) (hs : ∀ k d Γ, ds[k]? = some d → Iv Γ → ∃ Γ1, gs d Γ = some Γ1 ∧ (t k = true → ∃ Γ2, F Γ1 = some (.nx Γ2) ∧ Iv Γ2) ∧ (t k = false → F Γ1 = some (.rt r))) (Γ : DEnv), Iv Γ →
    ((List.range ds.length).all t = true → ∃ Γ', forL gs F ds Γ = some (.nx Γ') ∧ Iv Γ') ∧ ((List.range ds.length).all t = false → forL gs F ds Γ = some (.rt r))
  | [], t, hs, Γ, h => ⟨fun _ => ⟨Γ, rfl, h⟩, fun z => by simp at z⟩
  | d :: ds, t, hs, Γ, h => by
    obtain ⟨Γ1, g1, ht, hf⟩ := hs 0 d Γ rfl h
    rw [List.length_cons, all_range_succ]
    cases e : t 0 with
    | false => exact ⟨fun z => by simp at z, fun _ => forL_rt g1 (hf e)⟩
    | true =>
      obtain ⟨Γ2, f2, i2⟩ := ht e
      obtain ⟨k1, k2⟩ := forL_chk r Iv ds (fun k => t (k + 1)) (fun k d Γ hd => hs (k + 1) d Γ (by simpa using hd)) Γ2 i2
      refine ⟨fun z => ?_, fun z => forL_nx g1 f2 (k2 (by simpa using z))⟩
      obtain ⟨Γ', w1, w2⟩ := k1 (by simpa using z)
      exact ⟨Γ', forL_nx g1 f2 w1, w2⟩
theorem rngD_len {lo : Int} {n : Nat} : (rngD lo n).length = n := by simp [rngD]
theorem rngD_get {lo : Int} {n k : Nat} {d : D} (h : (rngD lo n)[k]? = some d) : k < n ∧ d = .int (lo + (k : Nat)) := by
  have hk : k < n := by
    have := (List.getElem?_eq_some_iff.mp h).1
    rwa [rngD_len] at this
  simp [rngD, hk] at h
  exact ⟨hk, h.symm⟩
def pAt (pts : List (Int × Int)) (k : Nat) : Int × Int := pts.getD k (0, 0)
theorem pAt_get {pts : List (Int × Int)} {k : Nat} (h : k < pts.length) : pts[k]? = some (pAt pts k) := by simp [pAt, h]
theorem pAt_mem {pts : List (Int × Int)} {k : Nat} (h : k < pts.length) : pAt pts k ∈ pts := List.mem_of_getElem? (pAt_get h)
theorem ixp {pts : List (Int × Int)} {k : Nat} {i : Int} (h : k < pts.length) (e : i = (k : Nat)) : dIx (.lst (pts.map encP)) (.int i) = some (encP (pAt pts k)) := by
  subst e
  exact d_ixL (by rw [List.getElem?_map, pAt_get h]; rfl)
def fitsB (pts : List (Int × Int)) (e : Int) : Bool := (List.range (pts.length - 2)).all fun k => (List.range (k + 1)).all fun j => (List.range (j + 1)).all fun i => three (pAt pts i) (pAt pts (j + 1)) (pAt pts (k + 2)) e
theorem sv_runO {N : Nat} {B : Sm} {ds : List D} {s : Sl} (h : B (ds.map Sl.sh ++ List.replicate (N - ds.length) .no) = some (.ro s)) : DL.runN N B ds = some s := by unfold DL.runN; rw [h]; rfl
theorem cutD_map {α β : Type} (f : α → β) (xs : List α) (lo hi : Option Int) : cutD (xs.map f) lo hi = (cutD xs lo hi).map f := by
  unfold cutD
  rw [List.length_map, List.map_take, List.map_drop]
theorem cutD_mem {α : Type} {xs : List α} {lo hi : Option Int} {a : α} (h : a ∈ cutD xs lo hi) : a ∈ xs := List.mem_of_mem_drop (List.mem_of_mem_take h)
theorem cutD_len {α : Type} (xs : List α) (lo hi : Option Int) : (cutD xs lo hi).length ≤ xs.length := by
  unfold cutD
  rw [List.length_take, List.length_drop]
  omega
theorem d_cut {α : Type} {f : α → D} {xs : List α} {lo hi : Option Int} : dCut (.lst (xs.map f)) lo hi = some ((cutD xs lo hi).map f) := by
  show some (cutD (xs.map f) lo hi) = _
  rw [cutD_map]
theorem cutD_nat {α : Type} (xs : List α) (a b : Nat) (hb : b ≤ xs.length) : cutD xs (some a) (some b) = (xs.drop a).take (b - a) := by
  unfold cutD
  rw [HT.sIx_nat, HT.sIx_nat, Nat.min_eq_left hb]
  by_cases h : a ≤ xs.length
  · rw [Nat.min_eq_left h]
  · rw [Nat.min_eq_right (by omega), List.drop_eq_nil_of_le (Nat.le_refl _), List.drop_eq_nil_of_le (by omega), List.take_nil, List.take_nil]
theorem cutD_from {α : Type} (xs : List α) (a : Nat) : cutD xs (some a) none = xs.drop a := by
  unfold cutD
  rw [HT.sIx_nat, HT.sIx_none]
  by_cases h : a ≤ xs.length
  · rw [Nat.min_eq_left h, List.take_of_length_le (by simp)]
  · rw [Nat.min_eq_right (by omega), List.drop_eq_nil_of_le (Nat.le_refl _), List.drop_eq_nil_of_le (by omega), List.take_nil]
theorem cutD_to {α : Type} (xs : List α) (b : Nat) : cutD xs none (some b) = xs.take b := by
  unfold cutD
  rw [HT.sIx_nat, HT.sIx_none, List.drop_zero]
  by_cases h : b ≤ xs.length
  · rw [Nat.min_eq_left h]; rfl
  · rw [Nat.min_eq_right (by omega), List.take_of_length_le (by omega), List.take_of_length_le (by omega)]
theorem d_cat {α : Type} {f : α → D} {xs ys : List α} (h : xs.length + ys.length < 1000000) : dAdd (.lst (xs.map f)) (.lst (ys.map f)) = some (.lst ((xs ++ ys).map f)) := by
  show (if (xs.map f).length + (ys.map f).length < 1000000 then some (D.lst (xs.map f ++ ys.map f)) else none) = _
  rw [List.length_map, List.length_map, if_pos h, List.map_append]
/-- a loop that leaves with a good value, or goes on -/
theorem forL_ret {gs : Gs} {F : Sm} (P : D → Prop) (Iv : DEnv → Prop) : ∀ (ds : List D) (hs : ∀ d Γ, d ∈ ds → Iv Γ → ∃ Γ1, gs d Γ = some Γ1 ∧ ((∃ Γ2, F Γ1 = some (.nx Γ2) ∧ Iv Γ2) ∨ ∃ r, F Γ1 = some (.rt r) ∧ P r)) (Γ : DEnv), Iv Γ →
    (∃ Γ', forL gs F ds Γ = some (.nx Γ') ∧ Iv Γ') ∨ ∃ r, forL gs F ds Γ = some (.rt r) ∧ P r
  | [], hs, Γ, h => .inl ⟨Γ, rfl, h⟩
  | d :: ds, hs, Γ, h => by
    obtain ⟨Γ1, g1, q⟩ := hs d Γ List.mem_cons_self h
    rcases q with ⟨Γ2, f2, i2⟩ | ⟨r, f2, pr⟩
    · rcases forL_ret P Iv ds (fun d Γ hd => hs d Γ (List.mem_cons_of_mem _ hd)) Γ2 i2 with ⟨Γ', w1, w2⟩ | ⟨r, w1, w2⟩
      · exact .inl ⟨Γ', forL_nx g1 f2 w1, w2⟩
      · exact .inr ⟨r, forL_nx g1 f2 w1, w2⟩
    · exact .inr ⟨r, forL_rt g1 f2, pr⟩
theorem rngD_mem {lo : Int} {n : Nat} {d : D} (h : d ∈ rngD lo n) : ∃ k : Nat, k < n ∧ d = .int (lo + k) := by
  obtain ⟨k, hk, e⟩ := List.mem_map.mp h
  exact ⟨k, by simpa using hk, e.symm⟩
theorem d_ixC {f : α → D} {xs : List α} {k : Nat} {i : Int} {a : α} (h : xs[k]? = some a) (e : i = (k : Nat)) : dIx (.lst (xs.map f)) (.int i) = some (f a) := by
  subst e
  exact d_ixL (by rw [List.getElem?_map, h]; rfl)
theorem pAt_d (pts : List (Int × Int)) (hb : ∀ a ∈ pts, SmP a) {i j : Nat} (hi : i < pts.length) (hj : j < pts.length) : -(2 ^ 52) < (pAt pts j).1 - (pAt pts i).1 ∧ (pAt pts j).1 - (pAt pts i).1 < 2 ^ 52 := by
  have h1 := hb _ (pAt_mem hi)
  have h2 := hb _ (pAt_mem hj)
  omega
theorem compL_ex {gs : Gs} {f : Ex} {Γ : DEnv} {β : Type} (enc : β → D) : ∀ (ds : List D) (h : ∀ d ∈ ds, ∃ Γ1 v, gs d Γ = some Γ1 ∧ f Γ1 = some (enc v)), ∃ vs : List β, compL gs gYes f ds Γ = some (vs.map enc) ∧ vs.length = ds.length
  | [], _ => ⟨[], rfl, rfl⟩
  | d :: ds, h => by
    obtain ⟨Γ1, v, h1, h2⟩ := h d List.mem_cons_self
    obtain ⟨vs, h3, h4⟩ := compL_ex enc ds fun d hd => h d (List.mem_cons_of_mem _ hd)
    refine ⟨v :: vs, ?_, by simp [h4]⟩
    unfold compL
    rw [h1]
    show (f Γ1).bind _ = _
    rw [h2]
    show (compL gs gYes f ds Γ).bind _ = _
    rw [h3]
    rfl
def encC (c : Int × Int × Int × Int) : D := .tup [.int c.1, encL c.2]
/-- where the pieces end -/
def endsOf (sts : List Int) (n : Nat) : List Int := sts.drop 1 ++ [(n : Int)]
theorem ends_get {sts : List Int} {n k : Nat} (hk : k < sts.length) : (endsOf sts n)[k]? = some (if k + 1 < sts.length then sts.getD (k + 1) 0 else (n : Int)) := by
  unfold endsOf
  by_cases h : k + 1 < sts.length
  · rw [if_pos h, List.getElem?_append_left (by simp; omega), List.getElem?_drop]
    simp [Nat.add_comm 1 k, h]
  · rw [if_neg h, List.getElem?_append_right (by simp; omega)]
    have : k - (sts.drop 1).length = 0 := by simp; omega
    rw [this]
    rfl
theorem ends_len {sts : List Int} {n : Nat} : (endsOf sts n).length = sts.length - 1 + 1 := by simp [endsOf]
theorem ev_ends {sts : List Int} {n : Nat} {Γ : DEnv} {i j : Nat} {f : Ex} (hs : sts.length < 10000) (hi : gB i Γ = some (.lst (sts.map D.int))) (hj : f Γ = some (.int n)) : gOp dAdd (gL (gSl (gB i) (gSo (gI 1)) gNo)) (gL (aC f aN)) Γ = some (.lst ((endsOf sts n).map D.int)) := by
  refine ev_op (ev_L (ev_Sl hi (ev_So ev_I) ev_No d_cut)) (ev_L (ev_cs hj ev_nl)) ?_
  have e : cutD sts (some 1) none = sts.drop 1 := cutD_from sts 1
  rw [e]
  exact d_cat (xs := sts.drop 1) (ys := [(n : Int)]) (by simp; omega)
section
variable {p : Te} {F F' F'' : Sm} {Γ : DEnv} {b : Bool} {f : Ex} {d : D} {i : Nat} {P : D → Prop} {gs : Gs} {Γ1 : DEnv}
theorem ex_ifS (h : p Γ = some b) (h1 : b = true → ∃ r, P r ∧ sSeq F F'' Γ = some (.rt r)) (h2 : b = false → ∃ r, P r ∧ sSeq F' F'' Γ = some (.rt r)) : ∃ r, P r ∧ sSeq (sIf p F F') F'' Γ = some (.rt r) := by
  cases b with
  | true =>
    obtain ⟨r, h3, h4⟩ := h1 rfl
    exact ⟨r, h3, sv_ifS h (fun _ => h4) (fun z => by cases z)⟩
  | false =>
    obtain ⟨r, h3, h4⟩ := h2 rfl
    exact ⟨r, h3, sv_ifS h (fun z => by cases z) (fun _ => h4)⟩
theorem ex_set (h : f Γ = some d) (k : ∃ r, P r ∧ F' (Γ.set i (.sh d)) = some (.rt r)) : ∃ r, P r ∧ sSeq (sSet i f) F' Γ = some (.rt r) := by
  obtain ⟨r, h1, h2⟩ := k
  exact ⟨r, h1, sq_set h h2⟩
theorem ex_unp (h : f Γ = some d) (h2 : gs d Γ = some Γ1) (k : ∃ r, P r ∧ F' Γ1 = some (.rt r)) : ∃ r, P r ∧ sSeq (sUnp gs f) F' Γ = some (.rt r) := by
  obtain ⟨r, h3, h4⟩ := k
  exact ⟨r, h3, sq_unp h h2 h4⟩
theorem ex_ret (h : f Γ = some d) (hp : P d) : ∃ r, P r ∧ sRet f Γ = some (.rt r) := ⟨d, hp, sv_ret h⟩
theorem ex_retS (h : f Γ = some d) (hp : P d) : ∃ r, P r ∧ sSeq (sRet f) F' Γ = some (.rt r) := ⟨d, hp, sq_ret h⟩
theorem ex_seqA (h : ∃ r, P r ∧ sSeq F (sSeq F' F'') Γ = some (.rt r)) : ∃ r, P r ∧ sSeq (sSeq F F') F'' Γ = some (.rt r) := by
  obtain ⟨r, h1, h2⟩ := h
  exact ⟨r, h1, by rw [sv_seqA]; exact h2⟩
theorem ex_nilS (h : ∃ r, P r ∧ F Γ = some (.rt r)) : ∃ r, P r ∧ sSeq sNil F Γ = some (.rt r) := h
end
/-! a calculus of what a statement ends in -/
def W (F : Sm) (Γ : DEnv) (P : Res → Prop) : Prop := ∃ r, F Γ = some r ∧ P r
def thenP (F : Sm) (P : Res → Prop) : Res → Prop
  | .nx Γ => W F Γ P
  | r => P r
/-- what a loop's body may end in -/
def bodyP (Iv : DEnv → Prop) (P : Res → Prop) : Res → Prop
  | .nx Γ => Iv Γ
  | .ct Γ => Iv Γ
  | .bk Γ => P (.nx Γ)
  | .rt d => P (.rt d)
  | .rm d s => P (.rm d s)
  | .ro s => P (.ro s)
def isRt (P : D → Prop) : Res → Prop
  | .rt d => P d
  | _ => False
def isRo (P : Sl → Prop) : Res → Prop
  | .ro s => P s
  | _ => False
def isRm (P : D → Sl → Prop) : Res → Prop
  | .rm d s => P d s
  | .nx (s :: _) => P .non s
  | _ => False
section
variable {F F' F'' : Sm} {Γ Γ1 : DEnv} {P Q : Res → Prop} {f : Ex} {fs : Ag} {d : D} {ds : List D} {i : Nat} {p : Te} {b : Bool} {gs : Gs} {it : Ag}
theorem W_mono (h : W F Γ Q) (k : ∀ r, Q r → P r) : W F Γ P := by
  obtain ⟨r, h1, h2⟩ := h
  exact ⟨r, h1, k r h2⟩
theorem W_seq (h : W F Γ (thenP F' P)) : W (sSeq F F') Γ P := by
  obtain ⟨r, h1, h2⟩ := h
  cases r with
  | nx Γ1 =>
    obtain ⟨r2, h3, h4⟩ := h2
    exact ⟨r2, sv_nx h1 h3, h4⟩
  | _ => exact ⟨_, by unfold sSeq; rw [h1]; rfl, h2⟩
theorem W_set (h : f Γ = some d) (k : P (.nx (Γ.set i (.sh d)))) : W (sSet i f) Γ P := ⟨_, sv_set h, k⟩
theorem W_setO (h : fs Γ = some ds) (k : P (.nx (Γ.set i (.ow ds)))) : W (sSetO i fs) Γ P := ⟨_, sv_setO h, k⟩
theorem W_ret (h : f Γ = some d) (k : P (.rt d)) : W (sRet f) Γ P := ⟨_, sv_ret h, k⟩
theorem W_nil (k : P (.nx Γ)) : W sNil Γ P := ⟨_, rfl, k⟩
theorem W_brk (k : P (.bk Γ)) : W sBrk Γ P := ⟨_, rfl, k⟩
theorem W_cnt (k : P (.ct Γ)) : W sCnt Γ P := ⟨_, rfl, k⟩
theorem W_if (h : p Γ = some b) (h1 : b = true → W F Γ P) (h2 : b = false → W F' Γ P) : W (sIf p F F') Γ P := by
  cases b with
  | true =>
    obtain ⟨r, h3, h4⟩ := h1 rfl
    exact ⟨r, sv_ifT h h3, h4⟩
  | false =>
    obtain ⟨r, h3, h4⟩ := h2 rfl
    exact ⟨r, sv_ifF h h3, h4⟩
theorem W_unp (h : f Γ = some d) (h2 : gs d Γ = some Γ1) (k : P (.nx Γ1)) : W (sUnp gs f) Γ P := ⟨_, sv_unp h h2, k⟩
theorem W_app {xs : List D} (h : f Γ = some d) (h1 : Γ[i]? = some (.ow xs)) (h2 : xs.length < 1000000) (k : P (.nx (Γ.set i (.ow (xs ++ [d]))))) : W (sApp i [] f) Γ P := ⟨_, sv_app0 h h1 h2, k⟩
theorem W_aug {x y : D} {o : D → D → Option D} (h1 : Γ[i]? = some (.sh x)) (h2 : f Γ = some y) (h3 : o x y = some d) (k : P (.nx (Γ.set i (.sh d)))) : W (sAug o i f) Γ P := ⟨_, sv_aug h1 h2 h3, k⟩
theorem W_frz (h : W F (frzE i Γ) P) : W (sFrz i F) Γ P := h
theorem W_par {is : List Nat} (h : fs Γ = some ds) (k : P (.nx ((is.zip ds).foldl (fun Γ p => Γ.set p.1 (.sh p.2)) Γ))) : W (sPar is fs) Γ P := ⟨_, sv_par h, k⟩
theorem W_forL (Iv : Nat → DEnv → Prop) : ∀ (ds : List D) (hs : ∀ k d Γ, ds[k]? = some d → Iv k Γ → ∃ Γ1, gs d Γ = some Γ1 ∧ W F Γ1 (bodyP (Iv (k + 1)) P)) (hn : ∀ Γ', Iv ds.length Γ' → P (.nx Γ')) (Γ : DEnv), Iv 0 Γ → W (forL gs F ds) Γ P := by
  have key : ∀ (ds : List D) (m : Nat) (hs : ∀ k d Γ, ds[k]? = some d → Iv (m + k) Γ → ∃ Γ1, gs d Γ = some Γ1 ∧ W F Γ1 (bodyP (Iv (m + k + 1)) P)) (hn : ∀ Γ', Iv (m + ds.length) Γ' → P (.nx Γ')) (Γ : DEnv), Iv m Γ → W (forL gs F ds) Γ P := by
    intro ds
    induction ds with
    | nil => intro m hs hn Γ h0; exact ⟨_, rfl, hn Γ h0⟩
    | cons d ds ih =>
      intro m hs hn Γ h0
      obtain ⟨Γ1, g1, r, h1, h2⟩ := hs 0 d Γ rfl h0
      have rest : ∀ Γ2, Iv (m + 1) Γ2 → W (forL gs F ds) Γ2 P := fun Γ2 h => ih (m + 1) (fun k d Γ hd hi => by
        have e : m + 1 + k = m + (k + 1) := by omega
        rw [e] at hi ⊢
        exact hs (k + 1) d Γ (by simpa using hd) hi) (fun Γ' hi => hn Γ' (by
        have e : m + (d :: ds).length = m + 1 + ds.length := by simp; omega
        rw [e]; exact hi)) Γ2 h
      cases r with
      | nx Γ2 =>
        obtain ⟨r2, h3, h4⟩ := rest Γ2 h2
        exact ⟨r2, forL_nx g1 h1 h3, h4⟩
      | ct Γ2 =>
        obtain ⟨r2, h3, h4⟩ := rest Γ2 h2
        exact ⟨r2, forL_ct g1 h1 h3, h4⟩
      | bk Γ2 => exact ⟨_, forL_bk g1 h1, h2⟩
      | rt d => exact ⟨_, forL_rt g1 h1, h2⟩
      | rm d s => exact ⟨_, by unfold forL; rw [g1]; show (F Γ1).bind _ = _; rw [h1]; rfl, h2⟩
      | ro s => exact ⟨_, by unfold forL; rw [g1]; show (F Γ1).bind _ = _; rw [h1]; rfl, h2⟩
  intro ds hs hn Γ h0
  exact key ds 0 (fun k d Γ hd hi => by rw [Nat.zero_add] at hi ⊢; exact hs k d Γ hd hi) (fun Γ' hi => hn Γ' (by rw [Nat.zero_add] at hi; exact hi)) Γ h0
theorem W_for (Iv : Nat → DEnv → Prop) (hit : it Γ = some ds) (h0 : Iv 0 Γ) (hs : ∀ k d Γ, ds[k]? = some d → Iv k Γ → ∃ Γ1, gs d Γ = some Γ1 ∧ W F Γ1 (bodyP (Iv (k + 1)) P)) (hn : ∀ Γ', Iv ds.length Γ' → P (.nx Γ')) : W (sFor it gs F) Γ P := by
  obtain ⟨r, h1, h2⟩ := W_forL Iv ds hs hn Γ h0
  exact ⟨r, sv_for hit h1, h2⟩
/-- for i in range(..) -/
theorem W_rng (Iv : Nat → DEnv → Prop) {lo : Int} {n : Nat} (hit : it Γ = some (rngD lo n)) (h0 : Iv 0 Γ) (hs : ∀ k Γ, k < n → Iv k Γ → ∃ Γ1, gs (.int (lo + (k : Nat))) Γ = some Γ1 ∧ W F Γ1 (bodyP (Iv (k + 1)) P)) (hn : ∀ Γ', Iv n Γ' → P (.nx Γ')) : W (sFor it gs F) Γ P :=
  W_for Iv hit h0 (fun k d Γ hd hi => by
    obtain ⟨h1, rfl⟩ := rngD_get hd
    exact hs k Γ h1 hi) (fun Γ' h => hn Γ' (by rw [rngD_len] at h; exact h))
/-- for x in xs, the list of the data of some things -/
theorem W_map {α : Type} {enc : α → D} {xs : List α} (Iv : Nat → DEnv → Prop) (hit : it Γ = some (xs.map enc)) (h0 : Iv 0 Γ) (hs : ∀ k a Γ, xs[k]? = some a → Iv k Γ → ∃ Γ1, gs (enc a) Γ = some Γ1 ∧ W F Γ1 (bodyP (Iv (k + 1)) P)) (hn : ∀ Γ', Iv xs.length Γ' → P (.nx Γ')) : W (sFor it gs F) Γ P :=
  W_for Iv hit h0 (fun k d Γ hd hi => by
    rw [List.getElem?_map] at hd
    obtain ⟨a, ha, rfl⟩ := Option.map_eq_some_iff.mp hd
    exact hs k a Γ ha hi) (fun Γ' h => hn Γ' (by rw [List.length_map] at h; exact h))
theorem W_while (Iv : Nat → DEnv → Prop) (h0 : ∃ m, Iv m Γ) (hs : ∀ m Γ, Iv m Γ → ∃ b, p Γ = some b ∧ (b = false → P (.nx Γ)) ∧ (b = true → W F Γ (bodyP (fun Γ' => ∃ m', m' < m ∧ Iv m' Γ') P))) : W (sWhile p F) Γ P := by
  obtain ⟨m, h0⟩ := h0
  have key : ∀ (n m : Nat) (Γ : DEnv), m < n → Iv m Γ → W (whileN n p F) Γ P := by
    intro n
    induction n with
    | zero => intro m Γ h; omega
    | succ n ih =>
      intro m Γ hm h
      obtain ⟨b, h1, h2, h3⟩ := hs m Γ h
      cases b with
      | false =>
        refine ⟨.nx Γ, ?_, h2 rfl⟩
        unfold whileN
        rw [h1]
        rfl
      | true =>
        obtain ⟨r, h4, h5⟩ := h3 rfl
        cases r with
        | nx Γ2 =>
          obtain ⟨m', k1, k2⟩ := h5
          obtain ⟨r2, h6, h7⟩ := ih m' Γ2 (by omega) k2
          exact ⟨r2, by rw [whileN, h1]; show (F Γ).bind _ = _; rw [h4]; exact h6, h7⟩
        | ct Γ2 =>
          obtain ⟨m', k1, k2⟩ := h5
          obtain ⟨r2, h6, h7⟩ := ih m' Γ2 (by omega) k2
          exact ⟨r2, by rw [whileN, h1]; show (F Γ).bind _ = _; rw [h4]; exact h6, h7⟩
        | bk Γ2 => exact ⟨_, by rw [whileN, h1]; show (F Γ).bind _ = _; rw [h4]; rfl, h5⟩
        | rt d => exact ⟨_, by rw [whileN, h1]; show (F Γ).bind _ = _; rw [h4]; rfl, h5⟩
        | rm d s => exact ⟨_, by rw [whileN, h1]; show (F Γ).bind _ = _; rw [h4]; rfl, h5⟩
        | ro s => exact ⟨_, by rw [whileN, h1]; show (F Γ).bind _ = _; rw [h4]; rfl, h5⟩
  obtain ⟨r, h1, h2⟩ := key (m + 1) m Γ (by omega) h0
  exact ⟨r, sWhile_of h1, h2⟩
theorem run_W {N : Nat} {B : Sm} {P : D → Prop} (h : W B (ds.map Sl.sh ++ List.replicate (N - ds.length) .no) (isRt P)) : ∃ d, runB N B ds = some d ∧ P d := by
  obtain ⟨r, h1, h2⟩ := h
  cases r with
  | rt d => exact ⟨d, sv_run h1, h2⟩
  | _ => exact h2.elim
theorem run_Weq {N : Nat} {B : Sm} (h : W B (ds.map Sl.sh ++ List.replicate (N - ds.length) .no) (isRt (· = d))) : runB N B ds = some d := by
  obtain ⟨d', h1, rfl⟩ := run_W h
  exact h1
theorem run_WO {N : Nat} {B : Sm} {P : Sl → Prop} (h : W B (ds.map Sl.sh ++ List.replicate (N - ds.length) .no) (isRo P)) : ∃ s, DL.runN N B ds = some s ∧ P s := by
  obtain ⟨r, h1, h2⟩ := h
  cases r with
  | ro s => exact ⟨s, sv_runO h1, h2⟩
  | _ => exact h2.elim
/-- a loop that tests: at the first thing that fails it returns the value r -/
theorem W_chk {α : Type} {enc : α → D} {xs : List α} (t : Nat → Bool) (Iv : DEnv → Prop) (hit : it Γ = some (xs.map enc)) (h0 : Iv Γ) (hs : ∀ k a Γ, xs[k]? = some a → Iv Γ → ∃ Γ1, gs (enc a) Γ = some Γ1 ∧ W F Γ1 (bodyP (fun Γ' => t k = true ∧ Iv Γ') fun r => t k = false ∧ P r)) (hn : (List.range xs.length).all t = true → ∀ Γ', Iv Γ' → P (.nx Γ')) : W (sFor it gs F) Γ P := by
  refine W_map (fun k Γ => (∀ j, j < k → t j = true) ∧ Iv Γ) hit ⟨fun j h => by omega, h0⟩ (fun k a Γ ha hi => ?_) fun Γ' h => hn (by simpa [List.all_eq_true] using h.1) Γ' h.2
  obtain ⟨Γ1, h1, h2⟩ := hs k a Γ ha hi.2
  refine ⟨Γ1, h1, W_mono h2 fun r hr => ?_⟩
  have fin : ∀ Γ', (t k = true ∧ Iv Γ') → ((∀ j, j < k + 1 → t j = true) ∧ Iv Γ') := fun Γ' h => ⟨fun j hj => by
    by_cases e : j = k
    · rw [e]; exact h.1
    · exact hi.1 j (by omega), h.2⟩
  cases r with
  | nx Γ' => exact fin Γ' hr
  | ct Γ' => exact fin Γ' hr
  | bk Γ' => exact hr.2
  | rt d => exact hr.2
  | rm d s => exact hr.2
  | ro s => exact hr.2
theorem wq_set (h : f Γ = some d) (k : W F' (Γ.set i (.sh d)) P) : W (sSeq (sSet i f) F') Γ P := W_seq (W_set h k)
theorem wq_setO (h : fs Γ = some ds) (k : W F' (Γ.set i (.ow ds)) P) : W (sSeq (sSetO i fs) F') Γ P := W_seq (W_setO h k)
theorem wq_unp (h : f Γ = some d) (h2 : gs d Γ = some Γ1) (k : W F' Γ1 P) : W (sSeq (sUnp gs f) F') Γ P := W_seq (W_unp h h2 k)
theorem wq_app {xs : List D} (h : f Γ = some d) (h1 : Γ[i]? = some (.ow xs)) (h2 : xs.length < 1000000) (k : W F' (Γ.set i (.ow (xs ++ [d]))) P) : W (sSeq (sApp i [] f) F') Γ P := W_seq (W_app h h1 h2 k)
theorem wq_par {is : List Nat} (h : fs Γ = some ds) (k : W F' ((is.zip ds).foldl (fun Γ p => Γ.set p.1 (.sh p.2)) Γ) P) : W (sSeq (sPar is fs) F') Γ P := W_seq (W_par h k)
theorem wq_if (h : p Γ = some b) (h1 : b = true → W F Γ (thenP F'' P)) (h2 : b = false → W F' Γ (thenP F'' P)) : W (sSeq (sIf p F F') F'') Γ P := W_seq (W_if h h1 h2)
/-- if p: return f -/
theorem wq_ifR (h : p Γ = some b) (h1 : b = true → ∃ d, f Γ = some d ∧ P (.rt d)) (h2 : b = false → W F'' Γ P) : W (sSeq (sIf p (sRet f) sNil) F'') Γ P :=
  W_seq (W_if h (fun e => by
    obtain ⟨d, h3, h4⟩ := h1 e
    exact W_ret h3 h4) fun e => W_nil (h2 e))
theorem wq_ret (h : f Γ = some d) (k : P (.rt d)) : W (sSeq (sRet f) F') Γ P := W_seq (W_ret h k)
theorem wq_ifN (h : p Γ = some b) (hb : b = false) (k : W F'' Γ P) : W (sSeq (sIf p F sNil) F'') Γ P := W_seq (W_if h (fun e => by rw [hb] at e; cases e) fun _ => W_nil k)
theorem wq_for (Iv : Nat → DEnv → Prop) (hit : it Γ = some ds) (h0 : Iv 0 Γ) (hs : ∀ k d Γ, ds[k]? = some d → Iv k Γ → ∃ Γ1, gs d Γ = some Γ1 ∧ W F Γ1 (bodyP (Iv (k + 1)) (thenP F' P))) (hn : ∀ Γ', Iv ds.length Γ' → W F' Γ' P) : W (sSeq (sFor it gs F) F') Γ P := W_seq (W_for Iv hit h0 hs hn)
theorem wq_rng (Iv : Nat → DEnv → Prop) {lo : Int} {n : Nat} (hit : it Γ = some (rngD lo n)) (h0 : Iv 0 Γ) (hs : ∀ k Γ, k < n → Iv k Γ → ∃ Γ1, gs (.int (lo + (k : Nat))) Γ = some Γ1 ∧ W F Γ1 (bodyP (Iv (k + 1)) (thenP F' P))) (hn : ∀ Γ', Iv n Γ' → W F' Γ' P) : W (sSeq (sFor it gs F) F') Γ P := W_seq (W_rng Iv hit h0 hs hn)
theorem wq_map {α : Type} {enc : α → D} {xs : List α} (Iv : Nat → DEnv → Prop) (hit : it Γ = some (xs.map enc)) (h0 : Iv 0 Γ) (hs : ∀ k a Γ, xs[k]? = some a → Iv k Γ → ∃ Γ1, gs (enc a) Γ = some Γ1 ∧ W F Γ1 (bodyP (Iv (k + 1)) (thenP F' P))) (hn : ∀ Γ', Iv xs.length Γ' → W F' Γ' P) : W (sSeq (sFor it gs F) F') Γ P := W_seq (W_map Iv hit h0 hs hn)
/-- a loop of tests over things that a list of data tells -/
theorem wq_chk (t : Nat → Bool) (Iv : DEnv → Prop) (hit : it Γ = some ds) (h0 : Iv Γ) (hs : ∀ k d Γ, ds[k]? = some d → Iv Γ → ∃ Γ1, gs d Γ = some Γ1 ∧ (t k = true → W F Γ1 (bodyP Iv fun _ => False)) ∧ (t k = false → W F Γ1 (bodyP (fun _ => False) (thenP F' P)))) (hn : (List.range ds.length).all t = true → ∀ Γ', Iv Γ' → W F' Γ' P) : W (sSeq (sFor it gs F) F') Γ P := by
  refine wq_for (fun k Γ => (∀ j, j < k → t j = true) ∧ Iv Γ) hit ⟨fun j h => by omega, h0⟩ (fun k a Γ ha hi => ?_) fun Γ' h => hn (by simpa [List.all_eq_true] using h.1) Γ' h.2
  obtain ⟨Γ1, h1, h2, h3⟩ := hs k a Γ ha hi.2
  refine ⟨Γ1, h1, ?_⟩
  cases e : t k with
  | false =>
    refine W_mono (h3 e) fun r hr => ?_
    cases r with
    | nx Γ' => exact hr.elim
    | ct Γ' => exact hr.elim
    | bk Γ' => exact hr
    | rt d => exact hr
    | rm d s => exact hr
    | ro s => exact hr
  | true =>
    refine W_mono (h2 e) fun r hr => ?_
    have fin : ∀ Γ', Iv Γ' → ((∀ j, j < k + 1 → t j = true) ∧ Iv Γ') := fun Γ' h => ⟨fun j hj => by
      by_cases e2 : j = k
      · rw [e2]; exact e
      · exact hi.1 j (by omega), h⟩
    cases r with
    | nx Γ' => exact fin Γ' hr
    | ct Γ' => exact fin Γ' hr
    | bk Γ' => exact hr.elim
    | rt d => exact hr.elim
    | rm d s => exact hr.elim
    | ro s => exact hr.elim
theorem W_ifR (h : p Γ = some b) (h1 : b = true → ∃ d, f Γ = some d ∧ P (.rt d)) (h2 : b = false → P (.nx Γ)) : W (sIf p (sRet f) sNil) Γ P :=
  W_if h (fun e => by
    obtain ⟨d, h3, h4⟩ := h1 e
    exact W_ret h3 h4) fun e => W_nil (h2 e)
end
theorem ev_Bb {Γ : DEnv} {i : Nat} {d : D} (h : Γ[i]? = some (.bo d)) : gB i Γ = some d := by unfold gB; rw [h]
theorem run_WKeq {ms : List Bool} {N : Nat} {B : Sm} {ds : List D} {d : D} (h : W B (slM ms ds ++ List.replicate (N - ms.length) .no) (isRt (· = d))) : runK ms N B ds = some d := by
  obtain ⟨r, h1, h2⟩ := h
  cases r with
  | rt d' =>
    have e : d' = d := h2
    subst e
    unfold runK
    rw [h1]
    rfl
  | _ => exact h2.elim
theorem run_WK {ms : List Bool} {N : Nat} {B : Sm} {ds : List D} {P : D → Prop} (h : W B (slM ms ds ++ List.replicate (N - ms.length) .no) (isRt P)) : ∃ d, runK ms N B ds = some d ∧ P d := by
  obtain ⟨r, h1, h2⟩ := h
  cases r with
  | rt d' => exact ⟨d', by unfold runK; rw [h1]; rfl, h2⟩
  | _ => exact h2.elim
theorem W_pop {Γ : DEnv} {i : Nat} {xs : List D} {P : Res → Prop} (h1 : Γ[i]? = some (.ow xs)) (hne : xs ≠ []) (k : P (.nx (Γ.set i (.ow xs.dropLast)))) : W (sPop i []) Γ P := by
  refine ⟨.nx (Γ.set i (.ow xs.dropLast)), ?_, k⟩
  have e1 : gP i [] Γ = some (.ow xs) := by unfold gP; rw [h1]; rfl
  have e3 : upP i [] (.ow xs.dropLast) Γ = some (.nx (Γ.set i (.ow xs.dropLast))) := by unfold upP; rw [h1]; rfl
  unfold sPop
  rw [e1]
  show (if xs = [] then none else upP i [] (.ow xs.dropLast) Γ) = _
  rw [if_neg hne, e3]
theorem wq_while {F F' : Sm} {p : Te} {Γ : DEnv} {P : Res → Prop} (Iv : Nat → DEnv → Prop) (h0 : ∃ m, Iv m Γ) (hs : ∀ m Γ, Iv m Γ → ∃ b, p Γ = some b ∧ (b = false → W F' Γ P) ∧ (b = true → W F Γ (bodyP (fun Γ' => ∃ m', m' < m ∧ Iv m' Γ') (thenP F' P)))) : W (sSeq (sWhile p F) F') Γ P := W_seq (W_while Iv h0 hs)
/-- a loop of tests whose invariant tells the turn -/
theorem wq_chkI {F F' : Sm} {Γ : DEnv} {P : Res → Prop} {it : Ag} {gs : Gs} {ds : List D} (t : Nat → Bool) (Iv : Nat → DEnv → Prop) (hit : it Γ = some ds) (h0 : Iv 0 Γ) (hs : ∀ k d Γ, ds[k]? = some d → Iv k Γ → ∃ Γ1, gs d Γ = some Γ1 ∧ (t k = true → W F Γ1 (bodyP (Iv (k + 1)) fun _ => False)) ∧ (t k = false → W F Γ1 (bodyP (fun _ => False) (thenP F' P)))) (hn : (List.range ds.length).all t = true → ∀ Γ', Iv ds.length Γ' → W F' Γ' P) : W (sSeq (sFor it gs F) F') Γ P := by
  refine wq_for (fun k Γ => (∀ j, j < k → t j = true) ∧ Iv k Γ) hit ⟨fun j h => by omega, h0⟩ (fun k a Γ ha hi => ?_) fun Γ' h => hn (by simpa [List.all_eq_true] using h.1) Γ' h.2
  obtain ⟨Γ1, h1, h2, h3⟩ := hs k a Γ ha hi.2
  refine ⟨Γ1, h1, ?_⟩
  cases e : t k with
  | false =>
    refine W_mono (h3 e) fun r hr => ?_
    cases r with
    | nx Γ' => exact hr.elim
    | ct Γ' => exact hr.elim
    | bk Γ' => exact hr
    | rt d => exact hr
    | rm d s => exact hr
    | ro s => exact hr
  | true =>
    refine W_mono (h2 e) fun r hr => ?_
    have fin : ∀ Γ', Iv (k + 1) Γ' → ((∀ j, j < k + 1 → t j = true) ∧ Iv (k + 1) Γ') := fun Γ' h => ⟨fun j hj => by
      by_cases e2 : j = k
      · rw [e2]; exact e
      · exact hi.1 j (by omega), h⟩
    cases r with
    | nx Γ' => exact fin Γ' hr
    | ct Γ' => exact fin Γ' hr
    | bk Γ' => exact hr.elim
    | rt d => exact hr.elim
    | rm d s => exact hr.elim
    | ro s => exact hr.elim
/-- a loop of tests: r is returned at the first that fails; such loops stand in one another -/
theorem W_tst {F : Sm} {Γ : DEnv} {P : Res → Prop} {it : Ag} {gs : Gs} {ds : List D} {r : D} (t : Nat → Bool) (Iv : DEnv → Prop) (hit : it Γ = some ds) (h0 : Iv Γ) (hs : ∀ k d Γ, ds[k]? = some d → Iv Γ → ∃ Γ1, gs d Γ = some Γ1 ∧ ∀ P' : Res → Prop, (t k = true → ∀ Γ2, Iv Γ2 → P' (.nx Γ2)) → (t k = false → P' (.rt r)) → W F Γ1 P') (h1 : (List.range ds.length).all t = true → ∀ Γ', Iv Γ' → P (.nx Γ')) (h2 : (List.range ds.length).all t = false → P (.rt r)) : W (sFor it gs F) Γ P := by
  refine W_for (fun k Γ => (∀ j, j < k → t j = true) ∧ Iv Γ) hit ⟨fun j h => by omega, h0⟩ (fun k d Γ hd hi => ?_) fun Γ' h => h1 (by simpa [List.all_eq_true] using h.1) Γ' h.2
  obtain ⟨Γ1, g1, hw⟩ := hs k d Γ hd hi.2
  refine ⟨Γ1, g1, hw _ (fun e Γ2 hi2 => ⟨fun j hj => ?_, hi2⟩) fun e => h2 ?_⟩
  · by_cases e2 : j = k
    · rw [e2]; exact e
    · exact hi.1 j (by omega)
  · rw [Bool.eq_false_iff]
    intro w
    have := List.all_eq_true.mp w k (List.mem_range.mpr (List.getElem?_eq_some_iff.mp hd).1)
    rw [e] at this
    cases this
theorem sv_ixS0 {Γ : DEnv} {i m : Nat} {k f : Ex} {d : D} {xs : List D} (h : f Γ = some d) (hk : k Γ = some (.int (m : Nat))) (h1 : Γ[i]? = some (.ow xs)) (hm : m < xs.length) : sIxS i [] k f Γ = some (.nx (Γ.set i (.ow (xs.set m d)))) := by
  have e1 : gP i [] Γ = some (.ow xs) := by unfold gP; rw [h1]; rfl
  have e2 : ixN xs.length (m : Int) = some m := by unfold ixN; rw [if_pos (by omega), if_pos (by omega)]; rfl
  have e3 : upP i [] (.ow (xs.set m d)) Γ = some (.nx (Γ.set i (.ow (xs.set m d)))) := by unfold upP; rw [h1]; rfl
  unfold sIxS
  rw [h]
  show (k Γ).bind _ = _
  rw [hk]
  show (match gP i [] Γ, (D.int (m : Int)) with
    | some (.ow xs), .int n => (ixN xs.length n).bind fun m => upP i [] (.ow (xs.set m d)) Γ
    | _, _ => none) = _
  rw [e1]
  show (ixN xs.length (m : Int)).bind _ = _
  rw [e2]
  exact e3
def stsOf (pcs : List (Int × Int × Int × Int)) : List Int := pcs.map (·.1)
def stAt (pcs : List (Int × Int × Int × Int)) (k : Nat) : Int := (stsOf pcs).getD k 0
def lnAt (pcs : List (Int × Int × Int × Int)) (k : Nat) : Int × Int × Int := (pcs.getD k (0, 0, 0, 0)).2
def rsAt (rs : List (Int × Int × Int)) (k : Nat) : Int × Int × Int := rs.getD k (0, 0, 0)
theorem stsOf_len (pcs : List (Int × Int × Int × Int)) : (stsOf pcs).length = pcs.length := by simp [stsOf]
theorem pc_get (pcs : List (Int × Int × Int × Int)) {k : Nat} (hk : k < pcs.length) : pcs[k]? = some (stAt pcs k, lnAt pcs k) := by
  simp [stAt, stsOf, lnAt, hk]
/-! which ranges of points fit -/
def FitR (pts : List (Int × Int)) (e : Int) (a b : Nat) : Prop := ∀ i j m, a ≤ i → i < j → j < m → m < b → three (pAt pts i) (pAt pts j) (pAt pts m) e = true
theorem FitR.mono {pts : List (Int × Int)} {e : Int} {a b a' b' : Nat} (h : FitR pts e a b) (ha : a ≤ a') (hb : b' ≤ b) : FitR pts e a' b' := fun i j m h1 h2 h3 h4 => h i j m (by omega) h2 h3 (by omega)
theorem fitsB_iff {pts : List (Int × Int)} {e : Int} : fitsB pts e = true ↔ FitR pts e 0 pts.length := by
  unfold fitsB FitR
  simp only [List.all_eq_true, List.mem_range]
  constructor
  · intro h i j m _ h2 h3 h4
    obtain ⟨j, rfl⟩ : ∃ j', j = j' + 1 := ⟨j - 1, by omega⟩
    obtain ⟨m, rfl⟩ : ∃ m', m = m' + 2 := ⟨m - 2, by omega⟩
    exact h m (by omega) j (by omega) i (by omega)
  · intro h m hm j hj i hi
    exact h i (j + 1) (m + 2) (by omega) (by omega) (by omega) (by omega)
theorem slice_len {pts : List (Int × Int)} {a b : Nat} (hb : b ≤ pts.length) : (cutD pts (some (a : Int)) (some (b : Int))).length = b - a := by
  rw [cutD_nat pts a b hb]
  simp
  omega
theorem slice_at {pts : List (Int × Int)} {a b i : Nat} (hb : b ≤ pts.length) (hi : i < b - a) : pAt (cutD pts (some (a : Int)) (some (b : Int))) i = pAt pts (a + i) := by
  rw [cutD_nat pts a b hb]
  unfold pAt
  rw [List.getD_eq_getElem?_getD, List.getD_eq_getElem?_getD, List.getElem?_take_of_lt hi, List.getElem?_drop]
theorem fit_slice {pts : List (Int × Int)} {e : Int} {a b : Nat} (hb : b ≤ pts.length) : fitsB (cutD pts (some (a : Int)) (some (b : Int))) e = true ↔ FitR pts e a b := by
  rw [fitsB_iff, slice_len hb]
  constructor
  · intro h i j m h1 h2 h3 h4
    have := h (i - a) (j - a) (m - a) (by omega) (by omega) (by omega) (by omega)
    rw [slice_at hb (by omega), slice_at hb (by omega), slice_at hb (by omega)] at this
    have e1 : a + (i - a) = i := by omega
    have e2 : a + (j - a) = j := by omega
    have e3 : a + (m - a) = m := by omega
    rwa [e1, e2, e3] at this
  · intro h i j m _ h2 h3 h4
    rw [slice_at hb (by omega), slice_at hb (by omega), slice_at hb (by omega)]
    exact h _ _ _ (by omega) (by omega) (by omega) (by omega)
def gg (p q d : Int) : Int := ((Nat.gcd ((Nat.gcd p.natAbs q.natAbs : Nat) : Int).natAbs d.natAbs : Nat) : Int)
theorem red_eq (p q d : Int) (h0 : 0 < d) (hd : d < 2 ^ 64) : S_reduced [.tup [.int p, .int q, .int d]] = some (.tup [.int (p / gg p q d), .int (q / gg p q d), .int (d / gg p q d)]) := by
  have g0 : 0 < gg p q d := by
    unfold gg
    have : 0 < Nat.gcd ((Nat.gcd p.natAbs q.natAbs : Nat) : Int).natAbs d.natAbs := Nat.gcd_pos_of_pos_right _ (by omega)
    omega
  have g1 : gg p q d < 2 ^ 64 := by
    unfold gg
    have := Nat.gcd_le_right (m := ((Nat.gcd p.natAbs q.natAbs : Nat) : Int).natAbs) (n := d.natAbs) (by omega)
    omega
  refine sv_run ?_
  unfold B_reduced
  walk_at "ev norm"
  walk_at "ev st"
  refine sq_set (d := .int (gg p q d)) (ev_A (ev_cs (ev_A (ev_cs (ev_V rfl) (ev_cs (ev_V rfl) ev_nl)) rfl) (ev_cs (ev_V rfl) ev_nl)) rfl) ?_
  walk_at "ev norm"
  walk_at "ev st"
abbrev Vx := Int × Int × Int
/-- how high a point lies over lines of the slope rise / run, times run, for the side t -/
def val (t rise run : Int) (p : Vx) : Int := t * (run * p.2.1 - rise * p.1)
def cr (t : Int) (a b v : Vx) : Int := t * ((b.2.1 - a.2.1) * (v.1 - a.1) - (v.2.1 - a.2.1) * (b.1 - a.1))
theorem cr_val (t rise run : Int) (a b d : Vx) : run * cr t a b d = (val t rise run b - val t rise run a) * (d.1 - b.1) + (val t rise run b - val t rise run d) * (b.1 - a.1) := by
  unfold val cr; grind
theorem val_neg (t rise run : Int) (p : Vx) : val (-t) rise run p = -val t rise run p := by unfold val; grind
/-- of three, the middle one does not stand out: it is dominated -/
theorem dominated {t rise run : Int} {a b d : Vx} (h1 : a.1 < b.1) (h2 : b.1 < d.1) (hr : 0 < run) (h : cr t a b d ≤ 0) : val t rise run b ≤ val t rise run a ∨ val t rise run b ≤ val t rise run d := by
  by_cases x : val t rise run b ≤ val t rise run a
  · exact .inl x
  · by_cases y : val t rise run b ≤ val t rise run d
    · exact .inr y
    · have e := cr_val t rise run a b d
      have p1 := Int.mul_pos (a := val t rise run b - val t rise run a) (b := d.1 - b.1) (by omega) (by omega)
      have p2 := Int.mul_pos (a := val t rise run b - val t rise run d) (b := b.1 - a.1) (by omega) (by omega)
      have p3 := Int.mul_nonneg (a := run) (b := -cr t a b d) (by omega) (by omega)
      have : run * -cr t a b d = -(run * cr t a b d) := Int.mul_neg _ _
      omega
/-- behind a point that is not higher than the next one stands a lower one -/
theorem peakL {t rise run : Int} {a b d : Vx} (h1 : a.1 < b.1) (h2 : b.1 < d.1) (hr : 0 < run) (h : 0 < cr t a b d) (hb : val t rise run b ≤ val t rise run d) : val t rise run a ≤ val t rise run b := by
  by_cases x : val t rise run a ≤ val t rise run b
  · exact x
  · have e := cr_val t rise run a b d
    have p1 := Int.mul_nonneg (a := val t rise run a - val t rise run b) (b := d.1 - b.1) (by omega) (by omega)
    have p2 := Int.mul_nonneg (a := val t rise run d - val t rise run b) (b := b.1 - a.1) (by omega) (by omega)
    have p3 := Int.mul_pos hr h
    have e1 : (val t rise run a - val t rise run b) * (d.1 - b.1) = -((val t rise run b - val t rise run a) * (d.1 - b.1)) := by grind
    have e2 : (val t rise run d - val t rise run b) * (b.1 - a.1) = -((val t rise run b - val t rise run d) * (b.1 - a.1)) := by grind
    omega
theorem peakR {t rise run : Int} {a b d : Vx} (h1 : a.1 < b.1) (h2 : b.1 < d.1) (hr : 0 < run) (h : 0 < cr t a b d) (hb : val t rise run b ≤ val t rise run a) : val t rise run d ≤ val t rise run b := by
  by_cases x : val t rise run d ≤ val t rise run b
  · exact x
  · have e := cr_val t rise run a b d
    have p1 := Int.mul_nonneg (a := val t rise run a - val t rise run b) (b := d.1 - b.1) (by omega) (by omega)
    have p2 := Int.mul_nonneg (a := val t rise run d - val t rise run b) (b := b.1 - a.1) (by omega) (by omega)
    have p3 := Int.mul_pos hr h
    have e1 : (val t rise run a - val t rise run b) * (d.1 - b.1) = -((val t rise run b - val t rise run a) * (d.1 - b.1)) := by grind
    have e2 : (val t rise run d - val t rise run b) * (b.1 - a.1) = -((val t rise run b - val t rise run d) * (b.1 - a.1)) := by grind
    omega

/-! ### hulls -/
def vAt (c : List Vx) (i : Nat) : Vx := c.getD i (0, 0, 0)
theorem vAt_get {c : List Vx} {i : Nat} (h : i < c.length) : c[i]? = some (vAt c i) := by simp [vAt, h]
theorem vAt_mem {c : List Vx} {i : Nat} (h : i < c.length) : vAt c i ∈ c := List.mem_of_getElem? (vAt_get h)
theorem mem_vAt {c : List Vx} {q : Vx} (h : q ∈ c) : ∃ i, i < c.length ∧ vAt c i = q := by
  obtain ⟨i, hi, e⟩ := List.mem_iff_getElem.mp h
  exact ⟨i, hi, by simp [vAt, hi, e]⟩
def AscX (c : List Vx) : Prop := ∀ i j, i < j → j < c.length → (vAt c i).1 < (vAt c j).1 ∧ (vAt c i).2.2 < (vAt c j).2.2
structure Hull (t : Int) (c P : List Vx) : Prop where
  ne : c ≠ []
  sub : ∀ q ∈ c, q ∈ P
  asc : AscX c
  conv : ∀ i, i + 2 < c.length → 0 < cr t (vAt c i) (vAt c (i + 1)) (vAt c (i + 2))
  sup : ∀ p ∈ P, ∀ rise run, 0 < run → ∃ q ∈ c, val t rise run p ≤ val t rise run q
def keptN (t : Int) (c : List Vx) (v : Vx) : Nat → Nat
  | 0 => 0
  | 1 => 1
  | n + 2 => if 0 < cr t (vAt c n) (vAt c (n + 1)) v then n + 2 else keptN t c v (n + 1)
theorem keptN_le (t : Int) (c : List Vx) (v : Vx) : ∀ n, keptN t c v n ≤ n
  | 0 => Nat.le_refl _
  | 1 => Nat.le_refl _
  | n + 2 => by
    unfold keptN
    split
    · exact Nat.le_refl _
    · exact Nat.le_trans (keptN_le t c v (n + 1)) (by omega)
theorem keptN_pos (t : Int) (c : List Vx) (v : Vx) : ∀ n, 0 < n → 0 < keptN t c v n
  | 1, _ => by unfold keptN; omega
  | n + 2, _ => by
    unfold keptN
    split
    · omega
    · exact keptN_pos t c v (n + 1) (by omega)
theorem keptN_conv (t : Int) (c : List Vx) (v : Vx) : ∀ n k, keptN t c v n = k + 2 → 0 < cr t (vAt c k) (vAt c (k + 1)) v
  | 0, k, h => by unfold keptN at h; omega
  | 1, k, h => by unfold keptN at h; omega
  | n + 2, k, h => by
    unfold keptN at h
    split at h
    · have : n = k := by omega
      subst this
      assumption
    · exact keptN_conv t c v (n + 1) k h
theorem vAt_take {c : List Vx} {n i : Nat} (h : i < n) : vAt (c.take n) i = vAt c i := by
  unfold vAt
  rw [List.getD_eq_getElem?_getD, List.getD_eq_getElem?_getD, List.getElem?_take_of_lt h]
theorem vAt_app {c d : List Vx} {i : Nat} (h : i < c.length) : vAt (c ++ d) i = vAt c i := by
  unfold vAt
  rw [List.getD_eq_getElem?_getD, List.getD_eq_getElem?_getD, List.getElem?_append_left h]
theorem vAt_last {c : List Vx} {v : Vx} : vAt (c ++ [v]) c.length = v := by simp [vAt]
def putb (t : Int) (c : List Vx) (v : Vx) : List Vx := c.take (keptN t c v c.length) ++ [v]
theorem putb_len (t : Int) (c : List Vx) (v : Vx) : (putb t c v).length = keptN t c v c.length + 1 := by
  have := keptN_le t c v c.length
  simp [putb]; omega
theorem putb_at {t : Int} {c : List Vx} {v : Vx} {i : Nat} (h : i < keptN t c v c.length) : vAt (putb t c v) i = vAt c i := by
  have := keptN_le t c v c.length
  unfold putb
  rw [vAt_app (by simp; omega), vAt_take h]
theorem putb_end {t : Int} {c : List Vx} {v : Vx} : vAt (putb t c v) (keptN t c v c.length) = v := by
  have := keptN_le t c v c.length
  have h := vAt_last (c := c.take (keptN t c v c.length)) (v := v)
  have e : (c.take (keptN t c v c.length)).length = keptN t c v c.length := by simp; omega
  rw [e] at h
  exact h
/-- what is popped is dominated by what stays and the new one -/
theorem kept_sup {t : Int} {c : List Vx} {v : Vx} (asc : AscX c) (hv : ∀ q ∈ c, q.1 < v.1) {rise run : Int} (hr : 0 < run) : ∀ n, n ≤ c.length → ∀ i, i < n → (∃ j, j < keptN t c v n ∧ val t rise run (vAt c i) ≤ val t rise run (vAt c j)) ∨ val t rise run (vAt c i) ≤ val t rise run v
  | 0, _, i, h => by omega
  | 1, _, i, h => .inl ⟨0, by unfold keptN; omega, by have : i = 0 := by omega
                                                      subst this; exact Int.le_refl _⟩
  | n + 2, hn, i, hi => by
    unfold keptN
    split
    · exact .inl ⟨i, hi, Int.le_refl _⟩
    · rename_i hc
      have ih := kept_sup (t := t) (v := v) asc hv (rise := rise) hr (n + 1) (by omega)
      by_cases e : i < n + 1
      · exact ih i e
      · have : i = n + 1 := by omega
        subst this
        rcases dominated (t := t) (rise := rise) (run := run) (asc n (n + 1) (by omega) (by omega)).1 (hv _ (vAt_mem (c := c) (i := n + 1) (by omega))) hr (by omega) with h | h
        · rcases ih n (by omega) with ⟨j, h1, h2⟩ | h2
          · exact .inl ⟨j, h1, Int.le_trans h h2⟩
          · exact .inr (Int.le_trans h h2)
        · exact .inr h
theorem Hull.first {t : Int} {v : Vx} : Hull t [v] [v] :=
  ⟨by simp, fun q h => h, fun i j h1 h2 => by simp at h2; omega, fun i h => by simp at h, fun p hp rise run _ => ⟨p, hp, Int.le_refl _⟩⟩
theorem Hull.put {t : Int} {c P : List Vx} {v : Vx} (h : Hull t c P) (hv : ∀ q ∈ P, q.1 < v.1 ∧ q.2.2 < v.2.2) : Hull t (putb t c v) (P ++ [v]) := by
  have kle := keptN_le t c v c.length
  have hl := putb_len t c v
  have hcv : ∀ q ∈ c, q.1 < v.1 := fun q hq => (hv q (h.sub q hq)).1
  refine ⟨fun e => by rw [e] at hl; simp at hl, fun q hq => ?_, fun i j hij hj => ?_, fun i hi => ?_, fun p hp rise run hr => ?_⟩
  · rcases List.mem_append.mp hq with z | z
    · exact List.mem_append_left _ (h.sub q (List.mem_of_mem_take z))
    · exact List.mem_append_right _ z
  · rw [hl] at hj
    rw [putb_at (show i < keptN t c v c.length by omega)]
    by_cases e : j < keptN t c v c.length
    · rw [putb_at e]
      exact h.asc i j hij (by omega)
    · have : j = keptN t c v c.length := by omega
      subst this
      rw [putb_end]
      exact hv _ (h.sub _ (vAt_mem (by omega)))
  · rw [hl] at hi
    rw [putb_at (show i < keptN t c v c.length by omega), putb_at (show i + 1 < keptN t c v c.length by omega)]
    by_cases e : i + 2 < keptN t c v c.length
    · rw [putb_at e]
      exact h.conv i (by omega)
    · have e2 : keptN t c v c.length = i + 2 := by omega
      have := putb_end (t := t) (c := c) (v := v)
      rw [e2] at this
      rw [this]
      exact keptN_conv t c v c.length i e2
  · have inn : ∀ j, j < keptN t c v c.length → vAt c j ∈ putb t c v := fun j hj => by
      have := vAt_mem (c := putb t c v) (i := j) (by omega)
      rw [putb_at hj] at this
      exact this
    have inv : v ∈ putb t c v := List.mem_append_right _ (List.mem_singleton.mpr rfl)
    rcases List.mem_append.mp hp with z | z
    · obtain ⟨q, hq, hle⟩ := h.sup p z rise run hr
      obtain ⟨i, hi, rfl⟩ := mem_vAt hq
      rcases kept_sup (t := t) (v := v) h.asc hcv (rise := rise) hr c.length (Nat.le_refl _) i hi with ⟨j, h1, h2⟩ | h2
      · exact ⟨_, inn j h1, Int.le_trans hle h2⟩
      · exact ⟨v, inv, Int.le_trans hle h2⟩
    · rw [List.mem_singleton] at z
      subst z
      exact ⟨p, inv, Int.le_refl _⟩
/-- the last edge of a new hull: all points lie on one side of it -/
theorem Hull.tangent {t : Int} {c P : List Vx} {v : Vx} (h : Hull t c P) (hv : ∀ q ∈ P, q.1 < v.1 ∧ q.2.2 < v.2.2) {a : Vx} (ha : a = vAt c (keptN t c v c.length - 1)) :
    a ∈ P ∧ a.1 < v.1 ∧ a.2.2 < v.2.2 ∧ ∀ p ∈ P, val t (v.2.1 - a.2.1) (v.1 - a.1) p ≤ val t (v.2.1 - a.2.1) (v.1 - a.1) a := by
  have kle := keptN_le t c v c.length
  have cl : 0 < c.length := List.length_pos_iff.mpr h.ne
  have kp := keptN_pos t c v c.length cl
  have am : a ∈ P := by rw [ha]; exact h.sub _ (vAt_mem (by omega))
  have av := hv a am
  refine ⟨am, av.1, av.2, fun p hp => ?_⟩
  have H := h.put hv
  have hl := putb_len t c v
  generalize hK : keptN t c v c.length = K at *
  have hr : 0 < v.1 - a.1 := by omega
  have veq : val t (v.2.1 - a.2.1) (v.1 - a.1) v = val t (v.2.1 - a.2.1) (v.1 - a.1) a := by unfold val; grind
  have eK : vAt (putb t c v) K = v := by rw [← hK]; exact putb_end
  have eA : vAt (putb t c v) (K - 1) = a := by rw [putb_at (by omega), ha]
  -- along the chain
  have up : ∀ m, m ≤ K → val t (v.2.1 - a.2.1) (v.1 - a.1) (vAt (putb t c v) (K - m)) ≤ val t (v.2.1 - a.2.1) (v.1 - a.1) a ∧ (m ≠ 0 → val t (v.2.1 - a.2.1) (v.1 - a.1) (vAt (putb t c v) (K - m)) ≤ val t (v.2.1 - a.2.1) (v.1 - a.1) (vAt (putb t c v) (K - m + 1))) := fun m => by
    induction m with
    | zero => intro _; rw [Nat.sub_zero, eK, veq]; exact ⟨Int.le_refl _, fun z => absurd rfl z⟩
    | succ m ih =>
      intro hm
      obtain ⟨i1, i2⟩ := ih (by omega)
      by_cases m0 : m = 0
      · subst m0
        have e1 : K - (0 + 1) + 1 = K := by omega
        rw [e1, eA, eK, veq]
        exact ⟨Int.le_refl _, fun _ => Int.le_refl _⟩
      · have i2 := i2 m0
        have e1 : K - (m + 1) + 1 = K - m := by omega
        have e2 : K - (m + 1) + 2 = K - m + 1 := by omega
        have cv := H.conv (K - (m + 1)) (by omega)
        rw [e1, e2] at cv
        have le := peakL (H.asc _ _ (by omega) (by omega)).1 (H.asc _ _ (by omega) (by omega)).1 hr cv i2
        rw [e1]
        exact ⟨Int.le_trans le i1, fun _ => le⟩
  obtain ⟨q, hq, hle⟩ := H.sup p (List.mem_append_left _ hp) (v.2.1 - a.2.1) (v.1 - a.1) hr
  obtain ⟨i, hi, rfl⟩ := mem_vAt hq
  have := (up (K - i) (by omega)).1
  have e : K - (K - i) = i := by omega
  rw [e] at this
  exact Int.le_trans hle this

/-! ### the vertex that is farthest: by halving -/
def farN (g : Nat → Bool) : Nat → Nat → Nat → Nat
  | 0, a, _ => a
  | f + 1, a, b => if a < b then (if g ((a + b) / 2) then farN g f ((a + b) / 2 + 1) b else farN g f a ((a + b) / 2)) else a
/-- where g is true up to a place and false from there on, that place is found -/
theorem farN_spec (g : Nat → Bool) (mono : ∀ i, g (i + 1) = true → g i = true) : ∀ f a b, b - a ≤ f → a ≤ b → a ≤ farN g f a b ∧ farN g f a b ≤ b ∧ (∀ i, a ≤ i → i < farN g f a b → g i = true) ∧ (farN g f a b < b → g (farN g f a b) = false)
  | 0, a, b, h, hab => by
    unfold farN
    exact ⟨Nat.le_refl _, hab, fun i h1 h2 => by omega, fun z => by omega⟩
  | f + 1, a, b, h, hab => by
    have down : ∀ i k, g (i + k) = true → g i = true := fun i k => by
      induction k with
      | zero => exact id
      | succ k ih => exact fun z => ih (mono _ z)
    unfold farN
    split
    · split
      · rename_i hlt hg
        obtain ⟨h1, h2, h3, h4⟩ := farN_spec g mono f ((a + b) / 2 + 1) b (by omega) (by omega)
        refine ⟨by omega, h2, fun i i1 i2 => ?_, h4⟩
        by_cases e : (a + b) / 2 + 1 ≤ i
        · exact h3 i e i2
        · have : (a + b) / 2 = i + ((a + b) / 2 - i) := by omega
          rw [this] at hg
          exact down _ _ hg
      · rename_i hlt hg
        obtain ⟨h1, h2, h3, h4⟩ := farN_spec g mono f a ((a + b) / 2) (by omega) (by omega)
        refine ⟨h1, by omega, h3, fun z => ?_⟩
        by_cases e : farN g f a ((a + b) / 2) < (a + b) / 2
        · exact h4 e
        · have : farN g f a ((a + b) / 2) = (a + b) / 2 := by omega
          rw [this]
          exact Bool.not_eq_true _ ▸ hg
    · exact ⟨Nat.le_refl _, hab, fun i h1 h2 => by omega, fun z => by omega⟩
def farG (rise run : Int) (c : List Vx) (i : Nat) : Bool := decide (rise * ((vAt c (i + 1)).1 - (vAt c i).1) > run * ((vAt c (i + 1)).2.1 - (vAt c i).2.1))
def farI (rise run : Int) (c : List Vx) : Nat := farN (farG rise run c) c.length 0 (c.length - 1)
theorem farG_iff {t rise run : Int} {c : List Vx} {i : Nat} : farG (t * rise) (t * run) c i = decide (val (-t) rise run (vAt c i) < val (-t) rise run (vAt c (i + 1))) := by
  unfold farG
  have e : val (-t) rise run (vAt c (i + 1)) - val (-t) rise run (vAt c i) = t * rise * ((vAt c (i + 1)).1 - (vAt c i).1) - t * run * ((vAt c (i + 1)).2.1 - (vAt c i).2.1) := by unfold val; grind
  exact decide_eq_decide.mpr ⟨fun h => by omega, fun h => by omega⟩
/-- on the chain of the other side: the farthest of all points -/
theorem Hull.far {t rise run : Int} {c P : List Vx} (h : Hull (-t) c P) (hr : 0 < run) : farI (t * rise) (t * run) c < c.length ∧ ∀ p ∈ P, val t rise run (vAt c (farI (t * rise) (t * run) c)) ≤ val t rise run p := by
  have cl : 0 < c.length := List.length_pos_iff.mpr h.ne
  have G : ∀ i, farG (t * rise) (t * run) c i = decide (val (-t) rise run (vAt c i) < val (-t) rise run (vAt c (i + 1))) := fun i => farG_iff
  -- g is false from some place on, within the chain
  let g : Nat → Bool := fun i => decide (i + 1 < c.length) && farG (t * rise) (t * run) c i
  have mono : ∀ i, g (i + 1) = true → g i = true := fun i hi => by
    simp only [g, Bool.and_eq_true, decide_eq_true_eq] at hi ⊢
    refine ⟨by omega, ?_⟩
    rw [G] at hi ⊢
    rw [decide_eq_true_eq] at hi ⊢
    have := hi.2
    rw [show i + 1 + 1 = i + 2 from rfl] at this
    by_cases x : val (-t) rise run (vAt c i) < val (-t) rise run (vAt c (i + 1))
    · exact x
    · have := peakR (h.asc i (i + 1) (by omega) (by omega)).1 (h.asc (i + 1) (i + 2) (by omega) (by omega)).1 hr (h.conv i (by omega)) (by omega : val (-t) rise run (vAt c (i + 1)) ≤ val (-t) rise run (vAt c i))
      omega
  have same : ∀ f a b, b < c.length → farN (farG (t * rise) (t * run) c) f a b = farN g f a b := fun f => by
    induction f with
    | zero => intro a b _; rfl
    | succ f ih =>
      intro a b hb
      unfold farN
      split
      · have e : g ((a + b) / 2) = farG (t * rise) (t * run) c ((a + b) / 2) := by
          simp only [g]
          rw [decide_eq_true (by omega), Bool.true_and]
        rw [e]
        split
        · exact ih _ _ hb
        · exact ih _ _ (by omega)
      · rfl
  have S := farN_spec g mono c.length 0 (c.length - 1) (by omega) (by omega)
  have ef : farI (t * rise) (t * run) c = farN g c.length 0 (c.length - 1) := same _ _ _ (by omega)
  rw [ef]
  generalize farN g c.length 0 (c.length - 1) = k at *
  obtain ⟨_, s2, s3, s4⟩ := S
  refine ⟨by omega, fun p hp => ?_⟩
  -- ascending up to k, not ascending behind
  have lo : ∀ m, m ≤ k → val (-t) rise run (vAt c (k - m)) ≤ val (-t) rise run (vAt c k) := fun m => by
    induction m with
    | zero => intro _; exact Int.le_refl _
    | succ m ih =>
      intro hm
      have := s3 (k - (m + 1)) (by omega) (by omega)
      simp only [g, Bool.and_eq_true] at this
      have this := this.2
      rw [G, decide_eq_true_eq] at this
      have e : k - (m + 1) + 1 = k - m := by omega
      rw [e] at this
      have := ih (by omega)
      omega
  have hi : ∀ m, k + m < c.length → val (-t) rise run (vAt c (k + m)) ≤ val (-t) rise run (vAt c k) ∧ (k + m + 1 < c.length → val (-t) rise run (vAt c (k + m + 1)) ≤ val (-t) rise run (vAt c (k + m))) := fun m => by
    induction m with
    | zero =>
      intro hm
      refine ⟨Int.le_refl _, fun z => ?_⟩
      have := s4 (by omega)
      simp only [g] at this
      rw [Nat.add_zero] at z
      rw [decide_eq_true z, Bool.true_and, G, decide_eq_false_iff_not] at this
      rw [show k + 0 = k from rfl]
      omega
    | succ m ih =>
      intro hm
      obtain ⟨i1, i2⟩ := ih (by omega)
      have i2 := i2 (by omega)
      refine ⟨Int.le_trans i2 i1, fun z => ?_⟩
      exact peakR (h.asc (k + m) (k + m + 1) (by omega) (by omega)).1 (h.asc (k + m + 1) (k + (m + 1) + 1) (by omega) (by omega)).1 hr (h.conv (k + m) (by omega)) i2
  obtain ⟨q, hq, hle⟩ := h.sup p hp rise run hr
  obtain ⟨i, hi', rfl⟩ := mem_vAt hq
  have : val (-t) rise run (vAt c i) ≤ val (-t) rise run (vAt c k) := by
    by_cases e : i ≤ k
    · have := lo (k - i) (by omega)
      have e2 : k - (k - i) = i := by omega
      rw [e2] at this
      exact this
    · have := (hi (i - k) (by omega)).1
      have e2 : k + (i - k) = i := by omega
      rw [e2] at this
      exact this
  rw [val_neg, val_neg] at this
  rw [val_neg] at hle
  have := val_neg t rise run p
  have h1 := val_neg t rise run (vAt c i)
  omega

/-! ### the greatest deviation -/
structure Dv where
  over : Int
  run : Int
  a : Vx
  m : Vx
  z : Vx
def Dv.rise (g : Dv) : Int := g.z.2.1 - g.a.2.1
/-- all points lie in the strip of the deviation, on the side t -/
structure Gd (P : List Vx) (g : Dv) (t : Int) : Prop where
  tt : t = 1 ∨ t = -1
  run : 0 < g.run
  rx : g.run = g.z.1 - g.a.1 ∨ (g.over = 0 ∧ g.run = 1 ∧ g.a = g.z)
  ma : g.a ∈ P
  mm : g.m ∈ P
  mz : g.z ∈ P
  am : g.a.1 ≤ g.m.1
  mz' : g.m.1 ≤ g.z.1
  oz : val t g.rise g.run g.z = val t g.rise g.run g.a
  ov : g.over = val t g.rise g.run g.a - val t g.rise g.run g.m
  lo : ∀ p ∈ P, val t g.rise g.run g.m ≤ val t g.rise g.run p
  hi : ∀ p ∈ P, val t g.rise g.run p ≤ val t g.rise g.run g.a
theorem Gd.nn {P : List Vx} {g : Dv} {t : Int} (h : Gd P g t) : 0 ≤ g.over := by
  have := h.lo g.a h.ma
  have := h.ov
  omega
def AscV (P : List Vx) : Prop := P.Pairwise fun a b => a.1 < b.1 ∧ a.2.2 < b.2.2
theorem AscV.at {P : List Vx} (h : AscV P) {i j : Nat} (hij : i < j) (hj : j < P.length) : (vAt P i).1 < (vAt P j).1 ∧ (vAt P i).2.2 < (vAt P j).2.2 := by
  have := List.pairwise_iff_getElem.mp h i j (by omega) hj hij
  unfold vAt
  rw [List.getD_eq_getElem?_getD, List.getD_eq_getElem?_getD, List.getElem?_eq_getElem (by omega), List.getElem?_eq_getElem hj]
  exact this
theorem AscV.lt {P : List Vx} (h : AscV P) {a b : Vx} (ha : a ∈ P) (hb : b ∈ P) (hl : a.1 ≤ b.1) (hn : a ≠ b) : a.1 < b.1 ∧ a.2.2 < b.2.2 := by
  obtain ⟨i, hi, rfl⟩ := mem_vAt ha
  obtain ⟨j, hj, rfl⟩ := mem_vAt hb
  by_cases e : i < j
  · exact h.at e hj
  · by_cases e2 : j < i
    · have := (h.at e2 hi).1; omega
    · have : i = j := by omega
      subst this
      exact absurd rfl hn
/-- three points (x, y): how far the middle one is off -/
def dv3 (p q r : Vx) : Int := q.2.1 * (r.1 - p.1) - p.2.1 * (r.1 - q.1) - r.2.1 * (q.1 - p.1)
theorem dv3_val (t rise run : Int) (ht : t = 1 ∨ t = -1) (p q r : Vx) : run * dv3 p q r = t * (val t rise run q * (r.1 - p.1) - val t rise run p * (r.1 - q.1) - val t rise run r * (q.1 - p.1)) := by
  unfold dv3 val
  rcases ht with rfl | rfl <;> grind
/-- no three points deviate more -/
theorem Gd.most {P : List Vx} {g : Dv} {t : Int} (h : Gd P g t) {p q r : Vx} (hp : p ∈ P) (hq : q ∈ P) (hr : r ∈ P) (h1 : p.1 ≤ q.1) (h2 : q.1 ≤ r.1) {e : Int} (he : g.over ≤ 2 * e * g.run) : -(2 * e * (r.1 - p.1)) ≤ dv3 p q r ∧ dv3 p q r ≤ 2 * e * (r.1 - p.1) := by
  have key := dv3_val t g.rise g.run h.tt p q r
  generalize hfp : val t g.rise g.run p = fp at key
  generalize hfq : val t g.rise g.run q = fq at key
  generalize hfr : val t g.rise g.run r = fr at key
  have b1 := h.lo p hp; have b2 := h.hi p hp; have b3 := h.lo q hq; have b4 := h.hi q hq; have b5 := h.lo r hr; have b6 := h.hi r hr
  rw [hfp] at b1 b2; rw [hfq] at b3 b4; rw [hfr] at b5 b6
  have ov := h.ov
  generalize val t g.rise g.run g.a = hi at *
  generalize val t g.rise g.run g.m = lo at *
  have A : 0 ≤ r.1 - q.1 := by omega
  have B : 0 ≤ q.1 - p.1 := by omega
  have C : 0 ≤ r.1 - p.1 := by omega
  have m1 := Int.mul_le_mul_of_nonneg_right (show fq - fp ≤ hi - lo by omega) A
  have m2 := Int.mul_le_mul_of_nonneg_right (show fq - fr ≤ hi - lo by omega) B
  have m3 := Int.mul_le_mul_of_nonneg_right (show fp - fq ≤ hi - lo by omega) A
  have m4 := Int.mul_le_mul_of_nonneg_right (show fr - fq ≤ hi - lo by omega) B
  have e1 : fq * (r.1 - p.1) - fp * (r.1 - q.1) - fr * (q.1 - p.1) = (fq - fp) * (r.1 - q.1) + (fq - fr) * (q.1 - p.1) := by grind
  have e2 : (hi - lo) * (r.1 - q.1) + (hi - lo) * (q.1 - p.1) = (hi - lo) * (r.1 - p.1) := by grind
  have e3 : (fp - fq) * (r.1 - q.1) + (fr - fq) * (q.1 - p.1) = -((fq - fp) * (r.1 - q.1) + (fq - fr) * (q.1 - p.1)) := by grind
  have up : (hi - lo) * (r.1 - p.1) ≤ 2 * e * g.run * (r.1 - p.1) := Int.mul_le_mul_of_nonneg_right (by omega) C
  have e4 : g.run * (2 * e * (r.1 - p.1)) = 2 * e * g.run * (r.1 - p.1) := by grind
  have e5 : g.run * -(2 * e * (r.1 - p.1)) = -(2 * e * g.run * (r.1 - p.1)) := by grind
  have bnd : -(2 * e * g.run * (r.1 - p.1)) ≤ g.run * dv3 p q r ∧ g.run * dv3 p q r ≤ 2 * e * g.run * (r.1 - p.1) := by
    rw [key, e1]
    rcases h.tt with ht | ht
    · rw [ht, Int.one_mul]; omega
    · rw [ht, Int.neg_mul, Int.one_mul]; omega
  refine ⟨Int.le_of_mul_le_mul_left ?_ h.run, Int.le_of_mul_le_mul_left ?_ h.run⟩
  · rw [e5]; exact bnd.1
  · rw [e4]; exact bnd.2
/-- where the deviation is too great, its three points show it -/
theorem Gd.shown {P : List Vx} {g : Dv} {t : Int} (h : Gd P g t) (asc : AscV P) {e : Int} (he0 : 0 ≤ e) (he : 2 * e * g.run < g.over) : (g.a.1 < g.m.1 ∧ g.a.2.2 < g.m.2.2) ∧ (g.m.1 < g.z.1 ∧ g.m.2.2 < g.z.2.2) ∧ ¬ (-(2 * e * (g.z.1 - g.a.1)) ≤ dv3 g.a g.m g.z ∧ dv3 g.a g.m g.z ≤ 2 * e * (g.z.1 - g.a.1)) := by
  have p0 : 0 ≤ 2 * e * g.run := Int.mul_nonneg (by omega) (by have := h.run; omega)
  have o := h.ov
  have oz := h.oz
  have na : g.a ≠ g.m := fun z => by rw [← z] at o; omega
  have nz : g.m ≠ g.z := fun z => by rw [z] at o; omega
  refine ⟨asc.lt h.ma h.mm h.am na, asc.lt h.mm h.mz h.mz' nz, fun hb => ?_⟩
  have rx : g.run = g.z.1 - g.a.1 := by
    rcases h.rx with z | z
    · exact z
    · omega
  have key := dv3_val t g.rise g.run h.tt g.a g.m g.z
  rw [oz] at key
  have e1 : val t g.rise g.run g.m * (g.z.1 - g.a.1) - val t g.rise g.run g.a * (g.z.1 - g.m.1) - val t g.rise g.run g.a * (g.m.1 - g.a.1) = -(g.run * g.over) := by
    rw [o, rx]; grind
  rw [e1] at key
  have e2 : dv3 g.a g.m g.z = t * -g.over := by
    refine Int.eq_of_mul_eq_mul_left (a := g.run) (by have := h.run; omega) ?_
    rw [key]; grind
  rw [← rx, e2] at hb
  rcases h.tt with ht | ht
  · rw [ht] at hb; omega
  · rw [ht] at hb; omega
/-- the line in the middle of the strip -/
def midL (g : Dv) : Int × Int × Int := (2 * g.rise, 2 * (g.run * g.a.2.1 - g.rise * g.a.1) - (g.run * (g.a.2.1 - g.m.2.1) + g.rise * (g.m.1 - g.a.1)), 2 * g.run)
theorem Gd.line {P : List Vx} {g : Dv} {t : Int} (h : Gd P g t) {p : Vx} (hp : p ∈ P) {e : Int} (he : g.over ≤ 2 * e * g.run) :
    -(e * (midL g).2.2) ≤ (midL g).1 * p.1 + (midL g).2.1 - p.2.1 * (midL g).2.2 ∧ (midL g).1 * p.1 + (midL g).2.1 - p.2.1 * (midL g).2.2 ≤ e * (midL g).2.2 := by
  have b1 := h.lo p hp
  have b2 := h.hi p hp
  have o := h.ov
  have e1 : (midL g).1 * p.1 + (midL g).2.1 - p.2.1 * (midL g).2.2 = t * (2 * (val t g.rise g.run g.a - val t g.rise g.run p) - g.over) := by
    rw [o]
    unfold midL val
    rcases h.tt with ht | ht <;> (rw [ht]; grind)
  have e2 : e * (midL g).2.2 = 2 * e * g.run := by unfold midL; grind
  rw [e1, e2]
  generalize val t g.rise g.run g.a = fa at *
  generalize val t g.rise g.run p = fp at *
  generalize val t g.rise g.run g.m = fm at *
  rcases h.tt with ht | ht
  · rw [ht, Int.one_mul]; omega
  · rw [ht, Int.neg_mul, Int.one_mul]; omega
/-! one more point -/
theorem slopes {rise run rise1 run1 : Int} (hr : 0 < run) (hr1 : 0 < run1) {x y : Vx} (h : run * y.2.1 - rise * y.1 ≤ run * x.2.1 - rise * x.1) (h1 : run1 * x.2.1 - rise1 * x.1 ≤ run1 * y.2.1 - rise1 * y.1) : 0 ≤ (run * rise1 - rise * run1) * (x.1 - y.1) := by
  have a := Int.mul_le_mul_of_nonneg_left h (Int.le_of_lt hr1)
  have b := Int.mul_le_mul_of_nonneg_left h1 (Int.le_of_lt hr)
  have e : (run * rise1 - rise * run1) * (x.1 - y.1) = (run1 * (run * x.2.1 - rise * x.1) - run1 * (run * y.2.1 - rise * y.1)) + (run * (run1 * y.2.1 - rise1 * y.1) - run * (run1 * x.2.1 - rise1 * x.1)) := by grind
  omega
theorem sign_pos {k d : Int} (hk : 0 < k) (h : 0 ≤ k * d) : 0 ≤ d := by
  by_cases x : 0 ≤ d
  · exact x
  · have := Int.mul_pos hk (show 0 < -d by omega)
    rw [Int.mul_neg] at this
    omega
theorem sign_neg {k d : Int} (hk : k < 0) (h : 0 ≤ k * d) : d ≤ 0 := by
  have := sign_pos (k := -k) (d := -d) (by omega) (by rw [Int.neg_mul_neg]; exact h)
  omega
/-- the side t of the new edge: what deviation_under reckons -/
def under (t : Int) (c o : List Vx) (v : Vx) : Option Dv :=
  let a := vAt c (keptN t c v c.length - 1)
  let m := vAt o (farI (t * (v.2.1 - a.2.1)) (t * (v.1 - a.1)) o)
  if m.1 < a.1 then none else some ⟨t * ((v.1 - a.1) * (a.2.1 - m.2.1) + (v.2.1 - a.2.1) * (m.1 - a.1)), v.1 - a.1, a, m, v⟩
theorem under_some {t : Int} (ht : t = 1 ∨ t = -1) {c o P : List Vx} {v : Vx} {g : Dv} (hc : Hull t c P) (ho : Hull (-t) o P) (hv : ∀ q ∈ P, q.1 < v.1 ∧ q.2.2 < v.2.2) (h : under t c o v = some g) : Gd (P ++ [v]) g t := by
  obtain ⟨t1, t2, _, t3⟩ := hc.tangent hv rfl
  unfold under at h
  generalize vAt c (keptN t c v c.length - 1) = a at *
  have hr : 0 < v.1 - a.1 := by omega
  obtain ⟨f1, f2⟩ := ho.far (t := t) (rise := v.2.1 - a.2.1) (run := v.1 - a.1) hr
  have fm := ho.sub _ (vAt_mem f1)
  simp only at h
  generalize vAt o (farI (t * (v.2.1 - a.2.1)) (t * (v.1 - a.1)) o) = m at *
  split at h
  · cases h
  · rename_i hlt
    cases h
    have veq : val t (v.2.1 - a.2.1) (v.1 - a.1) v = val t (v.2.1 - a.2.1) (v.1 - a.1) a := by unfold val; grind
    refine ⟨ht, hr, .inl rfl, List.mem_append_left _ t1, List.mem_append_left _ fm, by simp, by show a.1 ≤ m.1; omega, by have := (hv m fm).1; show m.1 ≤ v.1; omega, veq, ?_, fun p hp => ?_, fun p hp => ?_⟩
    · show t * ((v.1 - a.1) * (a.2.1 - m.2.1) + (v.2.1 - a.2.1) * (m.1 - a.1)) = val t (v.2.1 - a.2.1) (v.1 - a.1) a - val t (v.2.1 - a.2.1) (v.1 - a.1) m
      unfold val; grind
    · show val t (v.2.1 - a.2.1) (v.1 - a.1) m ≤ val t (v.2.1 - a.2.1) (v.1 - a.1) p
      rcases List.mem_append.mp hp with z | z
      · exact f2 p z
      · rw [List.mem_singleton] at z; subst z; rw [veq]; exact f2 a t1
    · show val t (v.2.1 - a.2.1) (v.1 - a.1) p ≤ val t (v.2.1 - a.2.1) (v.1 - a.1) a
      rcases List.mem_append.mp hp with z | z
      · exact t3 p z
      · rw [List.mem_singleton] at z; subst z; rw [veq]; exact Int.le_refl _
/-- where the side t has nothing, the new point does not stand out there -/
theorem under_none {t : Int} (ht : t = 1 ∨ t = -1) {c o P : List Vx} {v : Vx} {g : Dv} {s : Int} (hc : Hull t c P) (ho : Hull (-t) o P) (hv : ∀ q ∈ P, q.1 < v.1 ∧ q.2.2 < v.2.2) (h : under t c o v = none) (G : Gd P g s) :
    ¬ ∀ p ∈ P, val t g.rise g.run p < val t g.rise g.run v := by
  intro hb
  obtain ⟨t1, t2, _, t3⟩ := hc.tangent hv rfl
  unfold under at h
  generalize vAt c (keptN t c v c.length - 1) = a at *
  have hr : 0 < v.1 - a.1 := by omega
  obtain ⟨f1, f2⟩ := ho.far (t := t) (rise := v.2.1 - a.2.1) (run := v.1 - a.1) hr
  have fm := ho.sub _ (vAt_mem f1)
  simp only at h
  generalize vAt o (farI (t * (v.2.1 - a.2.1)) (t * (v.1 - a.1)) o) = m at *
  split at h
  · rename_i hlt
    have gr := G.run
    have ha := hb a t1
    have l1 := G.lo a t1
    have l2 := G.hi a t1
    have l3 := G.lo m fm
    have l4 := G.hi m fm
    have q1 := t3 g.a G.ma
    have q2 := t3 g.m G.mm
    have q3 := t3 g.z G.mz
    have r1 := f2 g.a G.ma
    have r2 := f2 g.m G.mm
    have r3 := f2 g.z G.mz
    have oz := G.oz
    have am := G.am
    have mz := G.mz'
    have kk : (v.1 - a.1) * (g.run * (v.2.1 - a.2.1) - g.rise * (v.1 - a.1)) = (v.1 - a.1) * (t * (val t g.rise g.run v - val t g.rise g.run a)) := by
      unfold val
      rcases ht with rfl | rfl <;> grind
    have k2 := Int.eq_of_mul_eq_mul_left (by omega) kk
    generalize hK : g.run * (v.2.1 - a.2.1) - g.rise * (v.1 - a.1) = K at *
    unfold val at *
    rcases ht with rfl | rfl
    · have hK0 : 0 < K := by omega
      rcases G.tt with rfl | rfl
      · have s1 := slopes (rise := g.rise) (rise1 := v.2.1 - a.2.1) gr hr (x := g.a) (y := a) (by omega) (by omega)
        have s2 := slopes (rise := g.rise) (rise1 := v.2.1 - a.2.1) gr hr (x := m) (y := g.m) (by omega) (by omega)
        rw [hK] at s1 s2
        have := sign_pos hK0 s1
        have := sign_pos hK0 s2
        omega
      · have s1 := slopes (rise := g.rise) (rise1 := v.2.1 - a.2.1) gr hr (x := g.m) (y := a) (by omega) (by omega)
        have s2 := slopes (rise := g.rise) (rise1 := v.2.1 - a.2.1) gr hr (x := m) (y := g.z) (by omega) (by omega)
        rw [hK] at s1 s2
        have := sign_pos hK0 s1
        have := sign_pos hK0 s2
        omega
    · have hK0 : K < 0 := by omega
      rcases G.tt with rfl | rfl
      · have s1 := slopes (rise := g.rise) (rise1 := v.2.1 - a.2.1) gr hr (x := g.z) (y := m) (by omega) (by omega)
        have s2 := slopes (rise := g.rise) (rise1 := v.2.1 - a.2.1) gr hr (x := a) (y := g.m) (by omega) (by omega)
        rw [hK] at s1 s2
        have := sign_neg hK0 s1
        have := sign_neg hK0 s2
        omega
      · have s1 := slopes (rise := g.rise) (rise1 := v.2.1 - a.2.1) gr hr (x := g.m) (y := m) (by omega) (by omega)
        have s2 := slopes (rise := g.rise) (rise1 := v.2.1 - a.2.1) gr hr (x := a) (y := g.a) (by omega) (by omega)
        rw [hK] at s1 s2
        have := sign_neg hK0 s1
        have := sign_neg hK0 s2
        omega
  · cases h
/-- the strip of the points taken so far -/
structure Strp (P U L : List Vx) (g : Dv) : Prop where
  asc : AscV P
  hu : Hull 1 U P
  hl : Hull (-1) L P
  gd : ∃ t, Gd P g t
def devW (U L : List Vx) (g : Dv) (v : Vx) : Dv := match under 1 U L v with
  | some d => d
  | none => match under (-1) L U v with
    | some d => d
    | none => g
theorem Strp.dev {P U L : List Vx} {g : Dv} {v : Vx} (h : Strp P U L g) (hv : ∀ q ∈ P, q.1 < v.1 ∧ q.2.2 < v.2.2) : ∃ t, Gd (P ++ [v]) (devW U L g v) t := by
  unfold devW
  cases h1 : under 1 U L v with
  | some d => exact ⟨1, under_some (.inl rfl) h.hu h.hl hv h1⟩
  | none =>
    cases h2 : under (-1) L U v with
    | some d => exact ⟨-1, under_some (.inr rfl) h.hl h.hu hv h2⟩
    | none =>
      obtain ⟨t, G⟩ := h.gd
      have n1 := under_none (.inl rfl) h.hu h.hl hv h1 G
      have n2 := under_none (.inr rfl) h.hl h.hu hv h2 G
      have key : val t g.rise g.run g.m ≤ val t g.rise g.run v ∧ val t g.rise g.run v ≤ val t g.rise g.run g.a := by
        constructor
        · by_cases x : val t g.rise g.run g.m ≤ val t g.rise g.run v
          · exact x
          · exfalso
            rcases G.tt with rfl | rfl
            · exact n2 fun p hp => by have := G.lo p hp; unfold val at *; omega
            · exact n1 fun p hp => by have := G.lo p hp; unfold val at *; omega
        · by_cases x : val t g.rise g.run v ≤ val t g.rise g.run g.a
          · exact x
          · exfalso
            rcases G.tt with rfl | rfl
            · exact n1 fun p hp => by have := G.hi p hp; unfold val at *; omega
            · exact n2 fun p hp => by have := G.hi p hp; unfold val at *; omega
      refine ⟨t, G.tt, G.run, G.rx, List.mem_append_left _ G.ma, List.mem_append_left _ G.mm, List.mem_append_left _ G.mz, G.am, G.mz', G.oz, G.ov, fun p hp => ?_, fun p hp => ?_⟩
      · rcases List.mem_append.mp hp with z | z
        · exact G.lo p z
        · rw [List.mem_singleton] at z; subst z; exact key.1
      · rcases List.mem_append.mp hp with z | z
        · exact G.hi p z
        · rw [List.mem_singleton] at z; subst z; exact key.2
theorem Strp.take {P U L : List Vx} {g : Dv} {v : Vx} (h : Strp P U L g) (hv : ∀ q ∈ P, q.1 < v.1 ∧ q.2.2 < v.2.2) : Strp (P ++ [v]) (putb 1 U v) (putb (-1) L v) (devW U L g v) :=
  ⟨List.pairwise_append.mpr ⟨h.asc, List.pairwise_singleton _ _, fun a ha b hb => by rw [List.mem_singleton] at hb; subst hb; exact hv a ha⟩, h.hu.put hv, h.hl.put hv, h.dev hv⟩
theorem Strp.first (v : Vx) : Strp [v] [v] [v] ⟨0, 1, v, v, v⟩ :=
  ⟨List.pairwise_singleton _ _, Hull.first, Hull.first, 1, .inl rfl, by show (0 : Int) < 1; omega, .inr ⟨rfl, rfl, rfl⟩, by simp, by simp, by simp, Int.le_refl _, Int.le_refl _, rfl, by simp, fun p hp => by rw [List.mem_singleton] at hp; subst hp; exact Int.le_refl _, fun p hp => by rw [List.mem_singleton] at hp; subst hp; exact Int.le_refl _⟩
/-! ### the strip's defs, by the mathematics of strips -/
theorem whileN_nx {n : Nat} {c : Te} {body : Sm} {Γ Γ2 : DEnv} {r : Res} (h : c Γ = some true) (hb : body Γ = some (.nx Γ2)) (k : whileN n c body Γ2 = some r) : whileN (n + 1) c body Γ = some r := by
  unfold whileN
  rw [h]
  show ((body Γ).bind _) = _
  rw [hb]
  exact k
theorem whileN_bk {n : Nat} {c : Te} {body : Sm} {Γ Γ2 : DEnv} (h : c Γ = some true) (hb : body Γ = some (.bk Γ2)) : whileN (n + 1) c body Γ = some (.nx Γ2) := by
  unfold whileN
  rw [h]
  show ((body Γ).bind _) = _
  rw [hb]
  rfl
theorem whileN_no {n : Nat} {c : Te} {body : Sm} {Γ : DEnv} (h : c Γ = some false) : whileN (n + 1) c body Γ = some (.nx Γ) := by
  unfold whileN
  rw [h]
  rfl
theorem sv_runK {ms : List Bool} {N : Nat} {B : Sm} {ds : List D} {d : D} (h : B (slM ms ds ++ List.replicate (N - ms.length) .no) = some (.rt d)) : runK ms N B ds = some d := by unfold runK; rw [h]; rfl
abbrev SmV (v : Vx) : Prop := (-(2 ^ 20) < v.1 ∧ v.1 < 2 ^ 20) ∧ -(2 ^ 56) < v.2.1 ∧ v.2.1 < 2 ^ 56
abbrev SmQ (a : Int × Int) : Prop := (-(2 ^ 20) < a.1 ∧ a.1 < 2 ^ 20) ∧ -(2 ^ 56) < a.2 ∧ a.2 < 2 ^ 56
theorem smq {a : Int × Int} (h : SmP a) : SmQ a := ⟨⟨by omega, by omega⟩, by omega, by omega⟩
theorem smv {a : Int × Int} {i : Int} (h : SmP a) : SmV (a.1, a.2, i) := smq h
def encD (g : Dv) : D := .tup [.int g.over, .int g.run, encL g.a, encL g.m, encL g.z]
theorem ixv {c : List Vx} {k : Nat} {i : Int} (h : k < c.length) (e : i = (k : Nat)) : dIx (.lst (c.map encL)) (.int i) = some (encL (vAt c k)) := d_ixC (f := encL) (vAt_get h) e
theorem lenv {c : List Vx} : dLen (.lst (c.map encL)) = some (.int c.length) := by rw [d_lenL, List.length_map]
def kCond : Te := gT (gOp dGt (gV 6) (gI 1))
def kBody : Sm :=
  (sSeq (sUnp (gTg 3 (gTo (gN 7) (gTo (gN 8) (gTo (gN 5) gEnd)))) (gIx (gB 0) (gOp dSub (gV 6) (gI 2))))
  (sSeq (sUnp (gTg 3 (gTo (gN 9) (gTo (gN 10) (gTo (gN 5) gEnd)))) (gIx (gB 0) (gOp dSub (gV 6) (gI 1))))
  (sSeq (sIf (gT (gOp dGt (gOp dMul (gV 2) (gOp dSub (gOp dMul (gOp dSub (gV 10) (gV 8)) (gOp dSub (gV 3) (gV 7))) (gOp dMul (gOp dSub (gV 4) (gV 8)) (gOp dSub (gV 9) (gV 7))))) (gI 0)))
  sBrk
  sNil)
  (sAug dSub 6 (gI 1)))))
theorem kept_loop (t : Int) (ht : -(2 ^ 64) < t ∧ t < 2 ^ 64) (c : List Vx) (v : Vx) (hc : ∀ q ∈ c, SmV q) (hv : SmV v) : ∀ n, n ≤ c.length → ∀ (s5 s7 s8 s9 s10 : Sl), ∃ f Γ', whileN f kCond kBody [.bo (.lst (c.map encL)), .sh (encL v), .sh (.int t), .sh (.int v.1), .sh (.int v.2.1), s5, .sh (.int n), s7, s8, s9, s10] = some (.nx Γ') ∧ Γ'[6]? = some (.sh (.int (keptN t c v n)))
  | 0, _, s5, s7, s8, s9, s10 => ⟨1, _, whileN_no (ev_T (ev_op (ev_V rfl) ev_I rfl)), rfl⟩
  | 1, _, s5, s7, s8, s9, s10 => ⟨1, _, whileN_no (ev_T (ev_op (ev_V rfl) ev_I rfl)), rfl⟩
  | n + 2, hn, s5, s7, s8, s9, s10 => by
    have ca := hc _ (vAt_mem (c := c) (i := n) (by omega))
    have cb := hc _ (vAt_mem (c := c) (i := n + 1) (by omega))
    have h0 : kCond [.bo (.lst (c.map encL)), .sh (encL v), .sh (.int t), .sh (.int v.1), .sh (.int v.2.1), s5, .sh (.int ((n + 2 : Nat) : Int)), s7, s8, s9, s10] = some true := by
      unfold kCond
      refine ev_T ((ev_op (ev_V rfl) ev_I rfl).trans ?_)
      show some (D.bl (decide (((n + 2 : Nat) : Int) > 1))) = _
      rw [decide_eq_true (by omega)]
    have test : gT (gOp dGt (gOp dMul (gV 2) (gOp dSub (gOp dMul (gOp dSub (gV 10) (gV 8)) (gOp dSub (gV 3) (gV 7))) (gOp dMul (gOp dSub (gV 4) (gV 8)) (gOp dSub (gV 9) (gV 7))))) (gI 0)) [.bo (.lst (c.map encL)), .sh (encL v), .sh (.int t), .sh (.int v.1), .sh (.int v.2.1), .sh (.int (vAt c (n + 1)).2.2), .sh (.int ((n + 2 : Nat) : Int)), .sh (.int (vAt c n).1), .sh (.int (vAt c n).2.1), .sh (.int (vAt c (n + 1)).1), .sh (.int (vAt c (n + 1)).2.1)]
        = some (decide (0 < cr t (vAt c n) (vAt c (n + 1)) v)) :=
      ev_T (ev_op (ev_op (ev_V rfl) (ev_op (ev_op (ev_op (ev_V rfl) (ev_V rfl) d_sub) (ev_op (ev_V rfl) (ev_V rfl) d_sub) (d_mul (mulOk_l (by omega) (by omega)))) (ev_op (ev_op (ev_V rfl) (ev_V rfl) d_sub) (ev_op (ev_V rfl) (ev_V rfl) d_sub) (d_mul (mulOk_l (by omega) (by omega)))) d_sub) (d_mul (mulOk_l ht.1 ht.2))) ev_I rfl)
    have pre : ∀ r, (sSeq (sIf (gT (gOp dGt (gOp dMul (gV 2) (gOp dSub (gOp dMul (gOp dSub (gV 10) (gV 8)) (gOp dSub (gV 3) (gV 7))) (gOp dMul (gOp dSub (gV 4) (gV 8)) (gOp dSub (gV 9) (gV 7))))) (gI 0)))
        sBrk
        sNil)
        (sAug dSub 6 (gI 1))) [.bo (.lst (c.map encL)), .sh (encL v), .sh (.int t), .sh (.int v.1), .sh (.int v.2.1), .sh (.int (vAt c (n + 1)).2.2), .sh (.int ((n + 2 : Nat) : Int)), .sh (.int (vAt c n).1), .sh (.int (vAt c n).2.1), .sh (.int (vAt c (n + 1)).1), .sh (.int (vAt c (n + 1)).2.1)] = r →
        kBody [.bo (.lst (c.map encL)), .sh (encL v), .sh (.int t), .sh (.int v.1), .sh (.int v.2.1), s5, .sh (.int ((n + 2 : Nat) : Int)), s7, s8, s9, s10] = r := fun r h => by
      unfold kBody
      refine sq_unp (d := encL (vAt c n)) (ev_op (ev_Bb rfl) (ev_op (ev_V rfl) ev_I d_sub) (ixv (by omega) (by omega))) rfl ?_
      exact sq_unp (d := encL (vAt c (n + 1))) (ev_op (ev_Bb rfl) (ev_op (ev_V rfl) ev_I d_sub) (ixv (by omega) (by omega))) rfl h
    by_cases h : 0 < cr t (vAt c n) (vAt c (n + 1)) v
    · refine ⟨1, _, whileN_bk h0 (pre _ (sv_bk (sv_ifT (test.trans (by rw [decide_eq_true h])) rfl))), ?_⟩
      unfold keptN
      rw [if_pos h]
      rfl
    · obtain ⟨f, Γ', e1, e2⟩ := kept_loop t ht c v hc hv (n + 1) (by omega) (.sh (.int (vAt c (n + 1)).2.2)) (.sh (.int (vAt c n).1)) (.sh (.int (vAt c n).2.1)) (.sh (.int (vAt c (n + 1)).1)) (.sh (.int (vAt c (n + 1)).2.1))
      refine ⟨f + 1, Γ', whileN_nx h0 (pre _ (sv_nx (sv_ifF (test.trans (by rw [decide_eq_false h])) rfl) (sv_aug rfl ev_I (d_sub.trans ?_)))) e1, ?_⟩
      · congr 2; omega
      · unfold keptN
        rw [if_neg h]
        exact e2
theorem kept_eq (t : Int) (ht : -(2 ^ 64) < t ∧ t < 2 ^ 64) (c : List Vx) (v : Vx) (hc : ∀ q ∈ c, SmV q) (hv : SmV v) : S_kept [.lst (c.map encL), encL v, .int t] = some (.int (keptN t c v c.length)) := by
  obtain ⟨f, Γ', e1, e2⟩ := kept_loop t ht c v hc hv c.length (Nat.le_refl _) (.sh (.int v.2.2)) .no .no .no .no
  refine sv_runK ?_
  unfold B_kept
  refine sq_unp (d := encL v) (ev_V rfl) rfl ?_
  refine sq_set (ev_U (ev_Bb rfl) lenv) ?_
  exact sv_nx (sWhile_of e1) (sv_ret (ev_V e2))

def fCond : Te := gT (gOp dLt (gV 3) (gV 4))
def fBody : Sm :=
  (sSeq (sSet 5 (gOp dDiv (gOp dAdd (gV 3) (gV 4)) (gI 2)))
  (sSeq (sUnp (gTg 3 (gTo (gN 6) (gTo (gN 7) (gTo (gN 8) gEnd)))) (gIx (gB 0) (gV 5)))
  (sSeq (sUnp (gTg 3 (gTo (gN 9) (gTo (gN 10) (gTo (gN 8) gEnd)))) (gIx (gB 0) (gOp dAdd (gV 5) (gI 1))))
  (sIf (gT (gOp dGt (gOp dMul (gV 1) (gOp dSub (gV 9) (gV 6))) (gOp dMul (gV 2) (gOp dSub (gV 10) (gV 7)))))
  (sSet 3 (gOp dAdd (gV 5) (gI 1)))
  (sSet 4 (gV 5))))))
theorem far_loop (rise run : Int) (c : List Vx) (hc : ∀ q ∈ c, SmV q) : ∀ f (a b : Nat), b - a ≤ f → b < c.length → ∀ (s5 s6 s7 s8 s9 s10 : Sl), ∃ n Γ', whileN n fCond fBody [.bo (.lst (c.map encL)), .sh (.int rise), .sh (.int run), .sh (.int a), .sh (.int b), s5, s6, s7, s8, s9, s10] = some (.nx Γ') ∧ Γ'[0]? = some (.bo (.lst (c.map encL))) ∧ Γ'[3]? = some (.sh (.int (farN (farG rise run c) f a b))) ∧ farN (farG rise run c) f a b < c.length ∨ ¬ a ≤ b
  | 0, a, b, h, hb, s5, s6, s7, s8, s9, s10 => by
    by_cases hab : a ≤ b
    · have : a = b := by omega
      subst this
      refine ⟨1, _, .inl ⟨whileN_no (ev_T ((ev_op (ev_V rfl) (ev_V rfl) rfl).trans ?_)), rfl, rfl, hb⟩⟩
      show some (D.bl (decide ((a : Int) < a))) = _
      rw [decide_eq_false (by omega)]
    · exact ⟨0, [], .inr hab⟩
  | f + 1, a, b, h, hb, s5, s6, s7, s8, s9, s10 => by
    by_cases hab : a ≤ b
    rotate_left
    · exact ⟨0, [], .inr hab⟩
    by_cases hlt : a < b
    rotate_left
    · refine ⟨1, _, .inl ⟨whileN_no (ev_T ((ev_op (ev_V rfl) (ev_V rfl) rfl).trans ?_)), rfl, ?_, ?_⟩⟩
      · show some (D.bl (decide ((a : Int) < b))) = _
        rw [decide_eq_false (by omega)]
      · unfold farN; rw [if_neg hlt]; rfl
      · unfold farN; rw [if_neg hlt]; omega
    have h0 : fCond [.bo (.lst (c.map encL)), .sh (.int rise), .sh (.int run), .sh (.int a), .sh (.int b), s5, s6, s7, s8, s9, s10] = some true := by
      unfold fCond
      refine ev_T ((ev_op (ev_V rfl) (ev_V rfl) rfl).trans ?_)
      show some (D.bl (decide ((a : Int) < b))) = _
      rw [decide_eq_true (by omega)]
    have em : ((a : Int) + b) / 2 = (((a + b) / 2 : Nat) : Int) := by omega
    have hm : (a + b) / 2 + 1 < c.length := by omega
    have ca := hc _ (vAt_mem (c := c) (i := (a + b) / 2) (by omega))
    have cb := hc _ (vAt_mem (c := c) (i := (a + b) / 2 + 1) hm)
    generalize hM : (a + b) / 2 = M at *
    have test : gT (gOp dGt (gOp dMul (gV 1) (gOp dSub (gV 9) (gV 6))) (gOp dMul (gV 2) (gOp dSub (gV 10) (gV 7)))) [.bo (.lst (c.map encL)), .sh (.int rise), .sh (.int run), .sh (.int a), .sh (.int b), .sh (.int M), .sh (.int (vAt c M).1), .sh (.int (vAt c M).2.1), .sh (.int (vAt c (M + 1)).2.2), .sh (.int (vAt c (M + 1)).1), .sh (.int (vAt c (M + 1)).2.1)]
        = some (farG rise run c M) :=
      ev_T (ev_op (ev_op (ev_V rfl) (ev_op (ev_V rfl) (ev_V rfl) d_sub) (d_mul (mulOk_r (by omega) (by omega)))) (ev_op (ev_V rfl) (ev_op (ev_V rfl) (ev_V rfl) d_sub) (d_mul (mulOk_r (by omega) (by omega)))) rfl)
    have pre : ∀ r, (sIf (gT (gOp dGt (gOp dMul (gV 1) (gOp dSub (gV 9) (gV 6))) (gOp dMul (gV 2) (gOp dSub (gV 10) (gV 7)))))
        (sSet 3 (gOp dAdd (gV 5) (gI 1)))
        (sSet 4 (gV 5))) [.bo (.lst (c.map encL)), .sh (.int rise), .sh (.int run), .sh (.int a), .sh (.int b), .sh (.int M), .sh (.int (vAt c M).1), .sh (.int (vAt c M).2.1), .sh (.int (vAt c (M + 1)).2.2), .sh (.int (vAt c (M + 1)).1), .sh (.int (vAt c (M + 1)).2.1)] = r →
        fBody [.bo (.lst (c.map encL)), .sh (.int rise), .sh (.int run), .sh (.int a), .sh (.int b), s5, s6, s7, s8, s9, s10] = r := fun r h => by
      unfold fBody
      refine sq_set (d := .int M) (ev_op (ev_op (ev_V rfl) (ev_V rfl) d_add) ev_I ((d_div (by decide) (by decide)).trans (by rw [em]))) ?_
      refine sq_unp (d := encL (vAt c M)) (ev_op (ev_Bb rfl) (ev_V rfl) (ixv (by omega) rfl)) rfl ?_
      exact sq_unp (d := encL (vAt c (M + 1))) (ev_op (ev_Bb rfl) (ev_op (ev_V rfl) ev_I d_add) (ixv hm (by omega))) rfl h
    cases hg : farG rise run c M with
    | true =>
      rw [hg] at test
      obtain ⟨n, Γ', e⟩ := far_loop rise run c hc f (M + 1) b (by omega) hb (.sh (.int M)) (.sh (.int (vAt c M).1)) (.sh (.int (vAt c M).2.1)) (.sh (.int (vAt c (M + 1)).2.2)) (.sh (.int (vAt c (M + 1)).1)) (.sh (.int (vAt c (M + 1)).2.1))
      rcases e with ⟨e1, e2, e3, e4⟩ | e
      · refine ⟨n + 1, Γ', .inl ⟨whileN_nx h0 (pre _ (sv_ifT test (sv_set (d := .int ((M + 1 : Nat) : Int)) (ev_op (ev_V rfl) ev_I d_add)))) e1, e2, ?_, ?_⟩⟩
        · unfold farN; rw [if_pos hlt, hM, hg]; exact e3
        · unfold farN; rw [if_pos hlt, hM, hg]; exact e4
      · omega
    | false =>
      rw [hg] at test
      obtain ⟨n, Γ', e⟩ := far_loop rise run c hc f a M (by omega) (by omega) (.sh (.int M)) (.sh (.int (vAt c M).1)) (.sh (.int (vAt c M).2.1)) (.sh (.int (vAt c (M + 1)).2.2)) (.sh (.int (vAt c (M + 1)).1)) (.sh (.int (vAt c (M + 1)).2.1))
      rcases e with ⟨e1, e2, e3, e4⟩ | e
      · refine ⟨n + 1, Γ', .inl ⟨whileN_nx h0 (pre _ (sv_ifF test (sv_set (ev_V rfl)))) e1, e2, ?_, ?_⟩⟩
        · unfold farN; rw [if_pos hlt, hM, hg]; exact e3
        · unfold farN; rw [if_pos hlt, hM, hg]; exact e4
      · omega
theorem far_eq (rise run : Int) (c : List Vx) (hc : ∀ q ∈ c, SmV q) (hn : c ≠ []) : S_farthest [.lst (c.map encL), .int rise, .int run] = some (encL (vAt c (farI rise run c))) := by
  have cl : 0 < c.length := List.length_pos_iff.mpr hn
  obtain ⟨n, Γ', e⟩ := far_loop rise run c hc c.length 0 (c.length - 1) (by omega) (by omega) .no .no .no .no .no .no
  rcases e with ⟨e1, e2, e3, e4⟩ | e
  · refine sv_runK ?_
    unfold B_farthest
    refine sq_par (ds := [.int 0, .int ((c.length - 1 : Nat) : Int)]) (ev_cs ev_I (ev_cs (ev_op (ev_U (ev_Bb rfl) lenv) ev_I (d_sub.trans ?_)) ev_nl)) ?_
    · congr 2; omega
    · exact sv_nx (sWhile_of e1) (sv_ret (ev_op (ev_Bb e2) (ev_V e3) (ixv e4 rfl)))
  · omega
theorem keptN_nil (t : Int) (v : Vx) : putb t [] v = [v] := rfl
theorem under_eq (t : Int) (ht : -(2 ^ 13) < t ∧ t < 2 ^ 13) (c o : List Vx) (v : Vx) (hc : ∀ q ∈ c, SmV q) (ho : ∀ q ∈ o, SmV q) (hv : SmV v) (nc : c ≠ []) (no : o ≠ []) (hfar : farI (t * (v.2.1 - (vAt c (keptN t c v c.length - 1)).2.1)) (t * (v.1 - (vAt c (keptN t c v c.length - 1)).1)) o < o.length) :
    S_deviation_under [encL (vAt c (keptN t c v c.length - 1)), encL v, .lst (o.map encL), .int t] = some (match under t c o v with | none => .non | some g => encD g) := by
  have kle := keptN_le t c v c.length
  have cl : 0 < c.length := List.length_pos_iff.mpr nc
  have kp := keptN_pos t c v c.length cl
  have hf := far_eq (t * (v.2.1 - (vAt c (keptN t c v c.length - 1)).2.1)) (t * (v.1 - (vAt c (keptN t c v c.length - 1)).1)) o ho no
  have ha := hc _ (vAt_mem (c := c) (i := keptN t c v c.length - 1) (by omega))
  have hm := ho _ (vAt_mem hfar)
  unfold under
  simp only
  generalize vAt c (keptN t c v c.length - 1) = a at *
  generalize vAt o (farI (t * (v.2.1 - a.2.1)) (t * (v.1 - a.1)) o) = m at *
  have i0 : ∀ a : Vx, dIx (encL a) (.int 0) = some (.int a.1) := fun _ => rfl
  have i1 : ∀ a : Vx, dIx (encL a) (.int 1) = some (.int a.2.1) := fun _ => rfl
  refine run_WKeq ?_
  unfold B_deviation_under
  show W _ [.sh (encL a), .sh (encL v), .bo (.lst (o.map encL)), .sh (.int t), .no, .no, .no, .no] _
  refine wq_set (ev_op (ev_op (ev_B rfl) ev_I (i0 _)) (ev_op (ev_B rfl) ev_I (i0 _)) d_sub) ?_
  walk_at "ev norm"
  refine wq_set (ev_op (ev_op (ev_B rfl) ev_I (i1 _)) (ev_op (ev_B rfl) ev_I (i1 _)) d_sub) ?_
  walk_at "ev norm"
  refine wq_set (ev_call (ev_cs (ev_Bb rfl) (ev_cs (ev_op (ev_V rfl) (ev_V rfl) (d_mul (mulOk_l (by omega) (by omega)))) (ev_cs (ev_op (ev_V rfl) (ev_V rfl) (d_mul (mulOk_l (by omega) (by omega)))) ev_nl))) hf) ?_
  walk_at "ev norm"
  refine wq_ifR (ev_T (ev_op (ev_op (ev_B rfl) ev_I (i0 _)) (ev_op (ev_B rfl) ev_I (i0 _)) rfl)) (fun h => ⟨_, ev_C, ?_⟩) (fun h => ?_)
  · rw [if_pos (by simpa using h)]
    rfl
  have h : ¬ m.1 < a.1 := by simpa using h
  rw [if_neg h]
  refine wq_set (ev_op (ev_V rfl) (ev_op (ev_op (ev_V rfl) (ev_op (ev_op (ev_B rfl) ev_I (i1 _)) (ev_op (ev_B rfl) ev_I (i1 _)) d_sub) (d_mul (mulOk_l (by omega) (by omega)))) (ev_op (ev_V rfl) (ev_op (ev_op (ev_B rfl) ev_I (i0 _)) (ev_op (ev_B rfl) ev_I (i0 _)) d_sub) (d_mul (mulOk_l (by omega) (by omega)))) d_add) (d_mul (mulOk_l (by omega) (by omega)))) ?_
  walk_at "ev norm"
  exact W_ret (ev_tu (ev_cs (ev_V rfl) (ev_cs (ev_V rfl) (ev_cs (ev_V rfl) (ev_cs (ev_V rfl) (ev_cs (ev_V rfl) ev_nl)))))) rfl
/-- the object, as it is looked at and as one's own -/
def stD (U L : List Vx) (g : D) : D := .obj 4 [.lst (U.map encL), .lst (L.map encL), g]
def stS (U L : List Vx) (g : D) : Sl := .ob 4 [.ow (U.map encL), .ow (L.map encL), .sh g]
/-- the state after the points P: with none, nothing; else the strip -/
def StOk (P U L : List Vx) (g : D) : Prop := (P = [] ∧ U = [] ∧ L = [] ∧ g = .non) ∨ ∃ d, g = encD d ∧ Strp P U L d
def stepT (U L : List Vx) (v : Vx) (d : D) : D := .tup [d, .int (keptN 1 U v U.length : Nat), .int (keptN (-1) L v L.length : Nat)]
theorem dev_eq {P U L : List Vx} {g : D} {v : Vx} (h : StOk P U L g) (hP : ∀ q ∈ P, SmV q) (hv : SmV v) (lt : ∀ q ∈ P, q.1 < v.1 ∧ q.2.2 < v.2.2) :
    ∃ d : Dv, S_Strip_step_with [stD U L g, encL v] = some (stepT U L v (encD d)) ∧ StOk (P ++ [v]) (putb 1 U v) (putb (-1) L v) (encD d) ∧ (∃ t, Gd (P ++ [v]) d t) ∧ AscV (P ++ [v]) := by
  rcases h with ⟨rfl, rfl, rfl, rfl⟩ | ⟨g, rfl, h⟩
  · have F := Strp.first v
    refine ⟨⟨0, 1, v, v, v⟩, ?_, .inr ⟨_, rfl, F⟩, F.gd, F.asc⟩
    refine run_WKeq ?_
    unfold B_Strip_step_with
    exact wq_ifR (b := true) (ev_not (b := false) (ev_Tru (x := .lst []) (ev_U (ev_Bb rfl) rfl) rfl)) (fun _ => ⟨_, ev_tu (ev_cs (ev_tu (ev_cs ev_I (ev_cs ev_I (ev_cs (ev_V rfl) (ev_cs (ev_V rfl) (ev_cs (ev_V rfl) ev_nl)))))) (ev_cs ev_I (ev_cs ev_I ev_nl))), rfl⟩) (fun z => by cases z)
  · have T := h.take lt
    refine ⟨devW U L g v, ?_, .inr ⟨_, rfl, T⟩, T.gd, T.asc⟩
    have hU : ∀ q ∈ U, SmV q := fun q hq => hP q (h.hu.sub q hq)
    have hL : ∀ q ∈ L, SmV q := fun q hq => hP q (h.hl.sub q hq)
    have t1 := h.hu.tangent lt rfl
    have t2 := h.hl.tangent lt rfl
    have f1 := (h.hl.far (t := 1) (rise := v.2.1 - (vAt U (keptN 1 U v U.length - 1)).2.1) (run := v.1 - (vAt U (keptN 1 U v U.length - 1)).1) (by omega)).1
    have f2 := (Hull.far (t := -1) (c := U) (P := P) (by rw [Int.neg_neg]; exact h.hu) (rise := v.2.1 - (vAt L (keptN (-1) L v L.length - 1)).2.1) (run := v.1 - (vAt L (keptN (-1) L v L.length - 1)).1) (by omega)).1
    have u1 := under_eq 1 (by omega) U L v hU hL hv h.hu.ne h.hl.ne f1
    have u2 := under_eq (-1) (by omega) L U v hL hU hv h.hl.ne h.hu.ne f2
    have k1 := kept_eq 1 (by omega) U v hU hv
    have k2 := kept_eq (-1) (by omega) L v hL hv
    have kl1 := keptN_le 1 U v U.length
    have kl2 := keptN_le (-1) L v L.length
    have kp1 := keptN_pos 1 U v U.length (List.length_pos_iff.mpr h.hu.ne)
    have kp2 := keptN_pos (-1) L v L.length (List.length_pos_iff.mpr h.hl.ne)
    have ne : (!(U.map encL).isEmpty) = true := by
      have := h.hu.ne
      cases U with
      | nil => exact absurd rfl this
      | cons => rfl
    have f0 : dFld 4 0 (stD U L (encD g)) = some (.lst (U.map encL)) := rfl
    have f1' : dFld 4 1 (stD U L (encD g)) = some (.lst (L.map encL)) := rfl
    have f2' : dFld 4 2 (stD U L (encD g)) = some (encD g) := rfl
    have fi : dIsN (encD (devW U L g v)) .non = some (.bl false) := rfl
    refine run_WKeq ?_
    unfold B_Strip_step_with
    show W _ [.bo (stD U L (encD g)), .sh (encL v), .no, .no, .no] _
    generalize stD U L (encD g) = sd at *
    refine wq_ifN (b := !true) (ev_not (ev_Tru (x := .lst (U.map encL)) (ev_U (ev_Bb rfl) f0) (by show some (!(U.map encL).isEmpty) = _; rw [ne]))) rfl ?_
    refine wq_set (ev_call (ev_cs (ev_U (ev_Bb rfl) f0) (ev_cs (ev_V rfl) (ev_cs ev_I ev_nl))) k1) ?_
    walk_at "ev norm"
    refine wq_set (ev_call (ev_cs (ev_U (ev_Bb rfl) f1') (ev_cs (ev_V rfl) (ev_cs (ev_U ev_I rfl) ev_nl))) k2) ?_
    walk_at "ev norm"
    refine wq_set (ev_call (ev_cs (ev_op (ev_U (ev_Bb rfl) f0) (ev_op (ev_V rfl) ev_I d_sub) (ixv (k := keptN 1 U v U.length - 1) (by omega) (by omega))) (ev_cs (ev_V rfl) (ev_cs (ev_U (ev_Bb rfl) f1') (ev_cs ev_I ev_nl)))) u1) ?_
    walk_at "ev norm"
    unfold devW
    cases h1 : under 1 U L v with
    | some d =>
      refine wq_ifN (b := false) (ev_T (ev_op (ev_B rfl) ev_C rfl)) rfl ?_
      refine wq_ifN (b := false) (ev_T (ev_op (ev_B rfl) ev_C rfl)) rfl ?_
      exact W_ret (ev_tu (ev_cs (ev_V rfl) (ev_cs (ev_V rfl) (ev_cs (ev_V rfl) ev_nl)))) rfl
    | none =>
      refine wq_if (b := true) (ev_T (ev_op (ev_B rfl) ev_C rfl)) (fun _ => W_set (ev_call (ev_cs (ev_op (ev_U (ev_Bb rfl) f1') (ev_op (ev_V rfl) ev_I d_sub) (ixv (k := keptN (-1) L v L.length - 1) (by omega) (by omega))) (ev_cs (ev_V rfl) (ev_cs (ev_U (ev_Bb rfl) f0) (ev_cs (ev_U ev_I rfl) ev_nl)))) u2) ?_) (fun z => by cases z)
      show W _ _ _
      walk_at "ev norm"
      cases h2 : under (-1) L U v with
      | some d =>
        refine wq_ifN (b := false) (ev_T (ev_op (ev_B rfl) ev_C rfl)) rfl ?_
        exact W_ret (ev_tu (ev_cs (ev_V rfl) (ev_cs (ev_V rfl) (ev_cs (ev_V rfl) ev_nl)))) rfl
      | none =>
        have e : gIm (gU (dFld 4 2) (gB 0)) [.bo sd, .sh (encL v), .sh (.int (keptN 1 U v U.length : Nat)), .sh (.int (keptN (-1) L v L.length : Nat)), .sh .non] = some (encD g) := by
          have e : gU (dFld 4 2) (gB 0) [.bo sd, .sh (encL v), .sh (.int (keptN 1 U v U.length : Nat)), .sh (.int (keptN (-1) L v L.length : Nat)), .sh .non] = some (encD g) := ev_U (ev_Bb rfl) f2'
          show ((gU (dFld 4 2) (gB 0) [.bo sd, .sh (encL v), .sh (.int (keptN 1 U v U.length : Nat)), .sh (.int (keptN (-1) L v L.length : Nat)), .sh .non]).bind _) = _
          rw [e]
          rfl
        refine wq_if (b := true) (ev_T (ev_op (ev_B rfl) ev_C rfl)) (fun _ => W_set e ?_) (fun z => by cases z)
        show W _ _ _
        walk_at "ev norm"
        exact W_ret (ev_tu (ev_cs (ev_V rfl) (ev_cs (ev_V rfl) (ev_cs (ev_V rfl) ev_nl)))) rfl
theorem putb_le (t : Int) (c : List Vx) (v : Vx) : (putb t c v).length ≤ c.length + 1 := by
  rw [putb_len]
  have := keptN_le t c v c.length
  omega
theorem sv_delF {Γ : DEnv} {i : Nat} {rp : Pth} {f : Ex} {xs : List D} {k : Nat} (h : gP i rp Γ = some (.ow xs)) (hf : f Γ = some (.int (k : Nat))) (hk : k ≤ xs.length) : sDelF i rp f Γ = upP i rp (.ow (xs.take k)) Γ := by
  unfold sDelF
  rw [h]
  show ((f Γ).bind _) = _
  rw [hf]
  show (if 0 ≤ ((k : Nat) : Int) ∧ ((k : Nat) : Int).toNat ≤ xs.length then upP i rp (.ow (xs.take ((k : Nat) : Int).toNat)) Γ else none) = _
  rw [if_pos ⟨by omega, by omega⟩, Int.toNat_natCast]
theorem sv_appP {Γ : DEnv} {i : Nat} {rp : Pth} {f : Ex} {xs : List D} {d : D} (h : gP i rp Γ = some (.ow xs)) (hf : f Γ = some d) (hk : xs.length < 1000000) : sApp i rp f Γ = upP i rp (.ow (xs ++ [d])) Γ := by
  unfold sApp
  rw [hf]
  show (match gP i rp Γ with
    | some (.ow xs) => if xs.length < 1000000 then upP i rp (.ow (xs ++ [d])) Γ else none
    | _ => none) = _
  rw [h]
  show (if xs.length < 1000000 then upP i rp (.ow (xs ++ [d])) Γ else none) = _
  rw [if_pos hk]
theorem take_eq {U L : List Vx} {g d : D} {v : Vx} (l1 : U.length < 100000) (l2 : L.length < 100000) :
    S_Strip_take (stS U L g) [encL v, stepT U L v d] = some (.non, stS (putb 1 U v) (putb (-1) L v) d) := by
  have kl1 := keptN_le 1 U v U.length
  have kl2 := keptN_le (-1) L v L.length
  unfold putb stepT
  generalize keptN 1 U v U.length = a at *
  generalize keptN (-1) L v L.length = b at *
  have h0 : sUnpF 0 [] 4 2 3 (gTo (gN 3) (gTo (gN 4) gEnd)) (gV 2) [stS U L g, .sh (encL v), .sh (.tup [d, .int a, .int b]), .no, .no] = some (.nx [stS U L d, .sh (encL v), .sh (.tup [d, .int a, .int b]), .sh (.int a), .sh (.int b)]) := rfl
  have h1 : sDelF 0 [(4, 0)] (gV 3) [stS U L d, .sh (encL v), .sh (.tup [d, .int a, .int b]), .sh (.int a), .sh (.int b)] = some (.nx [stS (U.take a) L d, .sh (encL v), .sh (.tup [d, .int a, .int b]), .sh (.int a), .sh (.int b)]) := by
    refine (sv_delF (xs := U.map encL) (k := a) rfl (ev_V rfl) (by rw [List.length_map]; exact kl1)).trans ?_
    rw [← List.map_take]
    rfl
  have h2 : sApp 0 [(4, 0)] (gV 1) [stS (U.take a) L d, .sh (encL v), .sh (.tup [d, .int a, .int b]), .sh (.int a), .sh (.int b)] = some (.nx [stS (U.take a ++ [v]) L d, .sh (encL v), .sh (.tup [d, .int a, .int b]), .sh (.int a), .sh (.int b)]) := by
    refine (sv_appP (xs := (U.take a).map encL) rfl (ev_V rfl) (by rw [List.length_map, List.length_take]; omega)).trans ?_
    have e : (U.take a).map encL ++ [encL v] = (U.take a ++ [v]).map encL := by rw [List.map_append]; rfl
    rw [e]
    rfl
  have h3 : sDelF 0 [(4, 1)] (gV 4) [stS (U.take a ++ [v]) L d, .sh (encL v), .sh (.tup [d, .int a, .int b]), .sh (.int a), .sh (.int b)] = some (.nx [stS (U.take a ++ [v]) (L.take b) d, .sh (encL v), .sh (.tup [d, .int a, .int b]), .sh (.int a), .sh (.int b)]) := by
    refine (sv_delF (xs := L.map encL) (k := b) rfl (ev_V rfl) (by rw [List.length_map]; exact kl2)).trans ?_
    rw [← List.map_take]
    rfl
  have h4 : sApp 0 [(4, 1)] (gV 1) [stS (U.take a ++ [v]) (L.take b) d, .sh (encL v), .sh (.tup [d, .int a, .int b]), .sh (.int a), .sh (.int b)] = some (.nx [stS (U.take a ++ [v]) (L.take b ++ [v]) d, .sh (encL v), .sh (.tup [d, .int a, .int b]), .sh (.int a), .sh (.int b)]) := by
    refine (sv_appP (xs := (L.take b).map encL) rfl (ev_V rfl) (by rw [List.length_map, List.length_take]; omega)).trans ?_
    have e : (L.take b).map encL ++ [encL v] = (L.take b ++ [v]).map encL := by rw [List.map_append]; rfl
    rw [e]
    rfl
  have hB : B_Strip_take [stS U L g, .sh (encL v), .sh (.tup [d, .int a, .int b]), .no, .no] = some (.nx [stS (U.take a ++ [v]) (L.take b ++ [v]) d, .sh (encL v), .sh (.tup [d, .int a, .int b]), .sh (.int a), .sh (.int b)]) := sv_nx h0 (sv_nx h1 (sv_nx h2 (sv_nx h3 h4)))
  show (B_Strip_take [stS U L g, .sh (encL v), .sh (.tup [d, .int a, .int b]), .no, .no]).bind _ = _
  rw [hB]
  rfl
theorem sv_rm {F F' : Sm} {Γ : DEnv} {d : D} {s : Sl} (h : F Γ = some (.rm d s)) : sSeq F F' Γ = some (.rm d s) := by unfold sSeq; rw [h]; rfl
/-! ### the strip's line, and which points fit -/
theorem gg_dvd (p q d : Int) : gg p q d ∣ p ∧ gg p q d ∣ q ∧ gg p q d ∣ d := by
  unfold gg
  rw [Int.natAbs_natCast]
  have h1 : Nat.gcd (Nat.gcd p.natAbs q.natAbs) d.natAbs ∣ Nat.gcd p.natAbs q.natAbs := Nat.gcd_dvd_left _ _
  have h2 : Nat.gcd (Nat.gcd p.natAbs q.natAbs) d.natAbs ∣ d.natAbs := Nat.gcd_dvd_right _ _
  exact ⟨Int.ofNat_dvd_left.mpr (Nat.dvd_trans h1 (Nat.gcd_dvd_left _ _)), Int.ofNat_dvd_left.mpr (Nat.dvd_trans h1 (Nat.gcd_dvd_right _ _)), Int.ofNat_dvd_left.mpr h2⟩
theorem red_ex (p q d : Int) (h0 : 0 < d) (hd : d < 2 ^ 64) : ∃ k p' q' d', 0 < k ∧ p = k * p' ∧ q = k * q' ∧ d = k * d' ∧ 0 < d' ∧ S_reduced [encL (p, q, d)] = some (encL (p', q', d')) := by
  have g0 : 0 < gg p q d := by
    unfold gg
    have : 0 < Nat.gcd ((Nat.gcd p.natAbs q.natAbs : Nat) : Int).natAbs d.natAbs := Nat.gcd_pos_of_pos_right _ (by omega)
    omega
  obtain ⟨⟨p', hp⟩, ⟨q', hq⟩, ⟨d', hdd⟩⟩ := gg_dvd p q d
  have h := red_eq p q d h0 hd
  generalize gg p q d = g at *
  have e1 : p / g = p' := by rw [hp]; exact Int.mul_ediv_cancel_left _ (by omega)
  have e2 : q / g = q' := by rw [hq]; exact Int.mul_ediv_cancel_left _ (by omega)
  have e3 : d / g = d' := by rw [hdd]; exact Int.mul_ediv_cancel_left _ (by omega)
  rw [e1, e2, e3] at h
  exact ⟨g, p', q', d', g0, hp, hq, hdd, Int.pos_of_mul_pos_right (by rw [← hdd]; exact h0) g0, h⟩
def nearV (l : Int × Int × Int) (x y e : Int) : Prop := -(e * l.2.2) ≤ l.1 * x + l.2.1 - y * l.2.2 ∧ l.1 * x + l.2.1 - y * l.2.2 ≤ e * l.2.2
theorem Gd.bounds {P : List Vx} {g : Dv} {t : Int} (h : Gd P g t) (hP : ∀ q ∈ P, SmV q) : 0 < g.run ∧ g.run < 2 ^ 24 ∧ -(2 ^ 57) < g.rise ∧ g.rise < 2 ^ 57 := by
  have ha := hP _ h.ma
  have hz := hP _ h.mz
  refine ⟨h.run, ?_, ?_⟩
  · rcases h.rx with e | e <;> omega
  · unfold Dv.rise; omega
theorem exceeds_eq {g : Dv} {e : Int} (he : -(2 ^ 60) < e ∧ e < 2 ^ 60) : S_exceeds [encD g, .int e] = some (.bl (decide (2 * e * g.run < g.over))) := by
  refine sv_run ?_
  unfold B_exceeds
  exact sv_ret (ev_op (x := .int g.over) (ev_op (ev_B rfl) ev_I rfl) (ev_op (y := .int g.run) (ev_op ev_I (ev_V rfl) (d_mul (mulOk_l (by omega) (by omega)))) (ev_op (ev_B rfl) ev_I rfl) (d_mul (mulOk_l (by omega) (by omega)))) rfl)
theorem midl_eq {P : List Vx} {g : Dv} {t : Int} (h : Gd P g t) (hP : ∀ q ∈ P, SmV q) : S_middle_line [encD g] = S_reduced [encL (midL g)] := by
  obtain ⟨r0, r1, r2, r3⟩ := h.bounds hP
  have ha := hP _ h.ma
  have hm := hP _ h.mm
  have hz := hP _ h.mz
  obtain ⟨k, p', q', d', k0, e1, e2, e3, d0, hr⟩ := red_ex (midL g).1 (midL g).2.1 (midL g).2.2 (by show 0 < 2 * g.run; omega) (by show 2 * g.run < 2 ^ 64; omega)
  rw [show ((midL g).1, (midL g).2.1, (midL g).2.2) = midL g from rfl] at hr
  rw [hr]
  refine sv_run ?_
  unfold B_middle_line
  refine sq_set (d := .int g.run) (ev_op (ev_B rfl) ev_I rfl) ?_
  refine sq_unp (d := encL g.a) (ev_op (ev_B rfl) ev_I rfl) rfl ?_
  refine sq_unp (d := encL g.m) (ev_op (ev_B rfl) ev_I rfl) rfl ?_
  refine sq_set (d := .int g.rise) (ev_op (x := .int g.z.2.1) (ev_op (x := encL g.z) (ev_op (ev_B rfl) ev_I rfl) ev_I rfl) (ev_V rfl) d_sub) ?_
  refine sq_set (d := .int (g.run * (g.a.2.1 - g.m.2.1) + g.rise * (g.m.1 - g.a.1))) (ev_op (ev_op (ev_V rfl) (ev_op (ev_V rfl) (ev_V rfl) d_sub) (d_mul (mulOk_l (by omega) (by omega)))) (ev_op (ev_V rfl) (ev_op (ev_V rfl) (ev_V rfl) d_sub) (d_mul (mulOk_l (by omega) (by omega)))) d_add) ?_
  exact sv_ret (ev_call (ds := [encL (midL g)]) (ev_cs (ev_tu (ev_cs (ev_op ev_I (ev_V rfl) (d_mul (mulOk_l (by omega) (by omega)))) (ev_cs (ev_op (ev_op ev_I (ev_op (ev_op (ev_V rfl) (ev_V rfl) (d_mul (mulOk_l (by omega) (by omega)))) (ev_op (ev_V rfl) (ev_V rfl) (d_mul (mulOk_l (by omega) (by omega)))) d_sub) (d_mul (mulOk_l (by omega) (by omega)))) (ev_V rfl) d_sub) (ev_cs (ev_op ev_I (ev_V rfl) (d_mul (mulOk_l (by omega) (by omega)))) ev_nl)))) ev_nl) hr)
/-- what line() gives -/
def SmL (l : Int × Int × Int) : Prop := l.2.2 < 2 ^ 30 ∧ l.2.1.natAbs < 2 ^ 100 ∧ l.1.natAbs < 2 ^ 60
theorem mul_bd {x y : Int} {A B : Nat} (hx : x.natAbs ≤ A) (hy : y.natAbs ≤ B) : (x * y).natAbs ≤ A * B := by
  rw [Int.natAbs_mul]
  exact Nat.mul_le_mul hx hy
theorem line_ex {P : List Vx} {g : Dv} {t : Int} (h : Gd P g t) (hP : ∀ q ∈ P, SmV q) : ∃ l : Int × Int × Int, S_middle_line [encD g] = some (encL l) ∧ (1 ≤ l.2.2 ∧ SmL l) ∧ (∀ e, g.over ≤ 2 * e * g.run → ∀ p ∈ P, nearV l p.1 p.2.1 e) ∧ (0 ≤ g.rise → 0 ≤ l.1) := by
  obtain ⟨r0, r1, r2, r3⟩ := h.bounds hP
  obtain ⟨k, p', q', d', k0, e1, e2, e3, d0, hr⟩ := red_ex (midL g).1 (midL g).2.1 (midL g).2.2 (by show 0 < 2 * g.run; omega) (by show 2 * g.run < 2 ^ 64; omega)
  refine ⟨(p', q', d'), (midl_eq h hP).trans hr, ⟨by show 1 ≤ d'; omega, ?_⟩, fun e he p hp => ?_, fun hr0 => ?_⟩
  · refine ⟨?_, ?_, ?_⟩
    rotate_left 2
    · show p'.natAbs < 2 ^ 60
      have z : 2 * g.rise = k * p' := e1
      have z2 : (k * p').natAbs < 2 ^ 60 := by
        rw [← z]
        omega
      rw [Int.natAbs_mul] at z2
      exact Nat.lt_of_le_of_lt (Nat.le_mul_of_pos_left _ (by omega)) z2
    rotate_left
    · show q'.natAbs < 2 ^ 100
      have ha := hP _ h.ma
      have hm := hP _ h.mm
      have m1 := mul_bd (x := g.run) (y := g.a.2.1) (A := 2 ^ 24) (B := 2 ^ 56) (by omega) (by omega)
      have m2 := mul_bd (x := g.rise) (y := g.a.1) (A := 2 ^ 57) (B := 2 ^ 20) (by omega) (by omega)
      have m3 := mul_bd (x := g.run) (y := g.a.2.1 - g.m.2.1) (A := 2 ^ 24) (B := 2 ^ 57) (by omega) (by omega)
      have m4 := mul_bd (x := g.rise) (y := g.m.1 - g.a.1) (A := 2 ^ 57) (B := 2 ^ 21) (by omega) (by omega)
      have z : 2 * (g.run * g.a.2.1 - g.rise * g.a.1) - (g.run * (g.a.2.1 - g.m.2.1) + g.rise * (g.m.1 - g.a.1)) = k * q' := e2
      have z2 : (k * q').natAbs < 2 ^ 100 := by
        rw [← z]
        omega
      rw [Int.natAbs_mul] at z2
      have k1 : 1 ≤ k.natAbs := by omega
      exact Nat.lt_of_le_of_lt (Nat.le_mul_of_pos_left _ k1) z2
    show d' < 2 ^ 30
    have x := Int.mul_nonneg (show 0 ≤ k - 1 by omega) (Int.le_of_lt d0)
    have y : (k - 1) * d' = k * d' - d' := by grind
    have z : 2 * g.run = k * d' := e3
    omega
  · have := h.line hp he
    rw [e1, e2, e3] at this
    have x1 : k * p' * p.1 + k * q' - p.2.1 * (k * d') = k * (p' * p.1 + q' - p.2.1 * d') := by grind
    have x2 : -(e * (k * d')) = k * -(e * d') := by grind
    have x3 : e * (k * d') = k * (e * d') := by grind
    rw [x1, x2, x3] at this
    exact ⟨Int.le_of_mul_le_mul_left this.1 k0, Int.le_of_mul_le_mul_left this.2 k0⟩
  · have x : 0 ≤ k * p' := by rw [← e1]; unfold midL; show 0 ≤ 2 * g.rise; omega
    exact sign_pos k0 x
/-- points with their indexes -/
def idx (ps : List (Int × Int)) : List Vx := ps.zipIdx.map fun t => (t.1.1, t.1.2, (t.2 : Int))
theorem idx_len (ps : List (Int × Int)) : (idx ps).length = ps.length := by simp [idx]
theorem idx_get {ps : List (Int × Int)} {i : Nat} (h : i < ps.length) : (idx ps)[i]? = some ((pAt ps i).1, (pAt ps i).2, (i : Int)) := by
  unfold idx pAt
  simp [h]
theorem idx_at {ps : List (Int × Int)} {i : Nat} (h : i < ps.length) : vAt (idx ps) i = ((pAt ps i).1, (pAt ps i).2, (i : Int)) := by
  unfold vAt
  rw [List.getD_eq_getElem?_getD, idx_get h]
  rfl
theorem idx_snoc (ps : List (Int × Int)) (p : Int × Int) : idx (ps ++ [p]) = idx ps ++ [(p.1, p.2, (ps.length : Int))] := by
  unfold idx
  rw [List.zipIdx_append]
  simp
theorem idx_mem {ps : List (Int × Int)} {v : Vx} (h : v ∈ idx ps) : ∃ i, i < ps.length ∧ v = ((pAt ps i).1, (pAt ps i).2, (i : Int)) := by
  obtain ⟨i, hi, e⟩ := mem_vAt h
  rw [idx_len] at hi
  exact ⟨i, hi, by rw [← e, idx_at hi]⟩
theorem idx_sm {ps : List (Int × Int)} (hb : ∀ a ∈ ps, SmP a) : ∀ q ∈ idx ps, SmV q := fun q hq => by
  obtain ⟨i, hi, rfl⟩ := idx_mem hq
  exact smv (hb _ (pAt_mem hi))
theorem three_dv {a b c : Int × Int} {i j k e : Int} : three a b c e = true ↔ -(2 * e * (c.1 - a.1)) ≤ dv3 (a.1, a.2, i) (b.1, b.2, j) (c.1, c.2, k) ∧ dv3 (a.1, a.2, i) (b.1, b.2, j) (c.1, c.2, k) ≤ 2 * e * (c.1 - a.1) := by
  unfold three dv3
  rw [decide_eq_true_eq, absI_le]
/-- by the greatest deviation it is told which points fit -/
theorem fit_dev {ps : List (Int × Int)} {g : Dv} {t e : Int} (G : Gd (idx ps) g t) (asc : AscV (idx ps)) (he : 0 ≤ e) : FitR ps e 0 ps.length ↔ g.over ≤ 2 * e * g.run := by
  constructor
  · intro h
    by_cases x : g.over ≤ 2 * e * g.run
    · exact x
    · obtain ⟨⟨a1, a2⟩, ⟨b1, b2⟩, no⟩ := G.shown asc he (by omega)
      obtain ⟨i, hi, ei⟩ := idx_mem G.ma
      obtain ⟨j, hj, ej⟩ := idx_mem G.mm
      obtain ⟨k, hk, ek⟩ := idx_mem G.mz
      rw [ei, ej] at a2
      rw [ej, ek] at b2
      simp only at a2 b2
      have := (three_dv (i := (i : Int)) (j := (j : Int)) (k := (k : Int))).mp (h i j k (by omega) (by omega) (by omega) hk)
      rw [ei, ej, ek] at no
      exact absurd this no
  · intro h i j k _ h2 h3 h4
    have := G.most (p := vAt (idx ps) i) (q := vAt (idx ps) j) (r := vAt (idx ps) k) (vAt_mem (by rw [idx_len]; omega)) (vAt_mem (by rw [idx_len]; omega)) (vAt_mem (by rw [idx_len]; omega)) (Int.le_of_lt (asc.at h2 (by rw [idx_len]; omega)).1) (Int.le_of_lt (asc.at h3 (by rw [idx_len]; omega)).1) h
    rw [idx_at (i := i) (by omega), idx_at (i := j) (by omega), idx_at (i := k) h4] at this
    exact (three_dv (i := (i : Int)) (j := (j : Int)) (k := (k : Int))).mpr this
/-- a chain has at most as many vertices as there are points -/
theorem AscX_len {c P : List Vx} (h : AscX c) (hs : ∀ q ∈ c, q ∈ P) (hP : AscV P) : c.length ≤ P.length := by
  have : ∀ n, n ≤ c.length → ∀ i, i < n → ∃ j, i ≤ j ∧ j < P.length ∧ vAt P j = vAt c i := fun n => by
    intro hn i hi
    induction i with
    | zero =>
      obtain ⟨j, hj, ej⟩ := mem_vAt (hs _ (vAt_mem (c := c) (i := 0) (by omega)))
      exact ⟨j, by omega, hj, ej⟩
    | succ i ih =>
      obtain ⟨j, h1, h2, h3⟩ := ih (by omega)
      obtain ⟨k, hk, ek⟩ := mem_vAt (hs _ (vAt_mem (c := c) (i := i + 1) (by omega)))
      refine ⟨k, ?_, hk, ek⟩
      have lt := (h i (i + 1) (by omega) (by omega)).1
      rw [← h3, ← ek] at lt
      by_cases x : i + 1 ≤ k
      · exact x
      · by_cases y : k = j
        · subst y; omega
        · have := (hP.at (i := k) (j := j) (by omega) h2).1
          omega
  by_cases z : c.length = 0
  · omega
  · obtain ⟨j, h1, h2, _⟩ := this c.length (Nat.le_refl _) (c.length - 1) (by omega)
    omega
/-! ### points from a start on, and the longest piece -/
def vx (pts : List (Int × Int)) (i : Nat) : Vx := ((pAt pts i).1, (pAt pts i).2, (i : Int))
def seg (pts : List (Int × Int)) (s k : Nat) : List Vx := (List.range k).map fun i => vx pts (s + i)
theorem seg_len {pts : List (Int × Int)} {s k : Nat} : (seg pts s k).length = k := by simp [seg]
theorem seg_at {pts : List (Int × Int)} {s k i : Nat} (h : i < k) : vAt (seg pts s k) i = vx pts (s + i) := by simp [vAt, seg, h]
theorem seg_snoc {pts : List (Int × Int)} {s k : Nat} : seg pts s (k + 1) = seg pts s k ++ [vx pts (s + k)] := by simp [seg, List.range_succ]
theorem seg_mem {pts : List (Int × Int)} {s k : Nat} {v : Vx} (h : v ∈ seg pts s k) : ∃ i, i < k ∧ v = vx pts (s + i) := by
  obtain ⟨i, hi, rfl⟩ := List.mem_map.mp h
  exact ⟨i, List.mem_range.mp hi, rfl⟩
theorem seg_sm {pts : List (Int × Int)} {s k : Nat} (hb : ∀ a ∈ pts, SmQ a) (h : s + k ≤ pts.length) : ∀ q ∈ seg pts s k, SmV q := fun q hq => by
  obtain ⟨i, hi, rfl⟩ := seg_mem hq
  exact hb _ (pAt_mem (by omega))
theorem seg_lt {pts : List (Int × Int)} {s k : Nat} (ha : ∀ i j, i < j → j < pts.length → (pAt pts i).1 < (pAt pts j).1) (h : s + k < pts.length) : ∀ q ∈ seg pts s k, q.1 < (vx pts (s + k)).1 ∧ q.2.2 < (vx pts (s + k)).2.2 := fun q hq => by
  obtain ⟨i, hi, rfl⟩ := seg_mem hq
  exact ⟨ha _ _ (by omega) h, by show ((s + i : Nat) : Int) < ((s + k : Nat) : Int); omega⟩
theorem fit_seg {pts : List (Int × Int)} {s k : Nat} {g : Dv} {t e : Int} (G : Gd (seg pts s k) g t) (asc : AscV (seg pts s k)) (he : 0 ≤ e) : FitR pts e s (s + k) ↔ g.over ≤ 2 * e * g.run := by
  constructor
  · intro h
    by_cases x : g.over ≤ 2 * e * g.run
    · exact x
    · obtain ⟨⟨a1, a2⟩, ⟨b1, b2⟩, no⟩ := G.shown asc he (by omega)
      obtain ⟨i, hi, ei⟩ := seg_mem G.ma
      obtain ⟨j, hj, ej⟩ := seg_mem G.mm
      obtain ⟨m, hm, em⟩ := seg_mem G.mz
      rw [ei, ej] at a2
      rw [ej, em] at b2
      replace a2 : ((s + i : Nat) : Int) < ((s + j : Nat) : Int) := a2
      replace b2 : ((s + j : Nat) : Int) < ((s + m : Nat) : Int) := b2
      have := (three_dv (i := ((s + i : Nat) : Int)) (j := ((s + j : Nat) : Int)) (k := ((s + m : Nat) : Int))).mp (h (s + i) (s + j) (s + m) (by omega) (by omega) (by omega) (by omega))
      rw [ei, ej, em] at no
      exact absurd this no
  · intro h i j m h1 h2 h3 h4
    have := G.most (p := vAt (seg pts s k) (i - s)) (q := vAt (seg pts s k) (j - s)) (r := vAt (seg pts s k) (m - s)) (vAt_mem (by rw [seg_len]; omega)) (vAt_mem (by rw [seg_len]; omega)) (vAt_mem (by rw [seg_len]; omega)) (Int.le_of_lt (asc.at (by omega) (by rw [seg_len]; omega)).1) (Int.le_of_lt (asc.at (by omega) (by rw [seg_len]; omega)).1) h
    rw [seg_at (i := i - s) (by omega), seg_at (i := j - s) (by omega), seg_at (i := m - s) (by omega)] at this
    have e1 : s + (i - s) = i := by omega
    have e2 : s + (j - s) = j := by omega
    have e3 : s + (m - s) = m := by omega
    rw [e1, e2, e3] at this
    exact (three_dv (i := (i : Int)) (j := (j : Int)) (k := (m : Int))).mpr this
/-- the reason that the deviation gives -/
def whyOf (g : Dv) : Int × Int × Int := (g.a.2.2, g.m.2.2, g.z.2.2)
theorem indexes_eq {g : Dv} : S_indexes_of [encD g] = some (encL (whyOf g)) := by
  refine sv_run ?_
  unfold B_indexes_of
  exact sv_ret (ev_tu (ev_cs (ev_op (x := encL g.a) (ev_op (ev_B rfl) ev_I rfl) ev_I rfl) (ev_cs (ev_op (x := encL g.m) (ev_op (ev_B rfl) ev_I rfl) ev_I rfl) (ev_cs (ev_op (x := encL g.z) (ev_op (ev_B rfl) ev_I rfl) ev_I rfl) ev_nl))))
theorem why_ok {pts : List (Int × Int)} {s k : Nat} {g : Dv} {t e : Int} (G : Gd (seg pts s k) g t) (asc : AscV (seg pts s k)) (he : 0 ≤ e) (x : 2 * e * g.run < g.over) :
    ∃ i j m : Nat, whyOf g = ((i : Int), (j : Int), (m : Int)) ∧ s ≤ i ∧ i < j ∧ j < m ∧ m < s + k ∧ three (pAt pts i) (pAt pts j) (pAt pts m) e = false := by
  obtain ⟨⟨a1, a2⟩, ⟨b1, b2⟩, no⟩ := G.shown asc he x
  obtain ⟨i, hi, ei⟩ := seg_mem G.ma
  obtain ⟨j, hj, ej⟩ := seg_mem G.mm
  obtain ⟨m, hm, em⟩ := seg_mem G.mz
  rw [ei, ej] at a2
  rw [ej, em] at b2
  replace a2 : ((s + i : Nat) : Int) < ((s + j : Nat) : Int) := a2
  replace b2 : ((s + j : Nat) : Int) < ((s + m : Nat) : Int) := b2
  refine ⟨s + i, s + j, s + m, by unfold whyOf; rw [ei, ej, em]; rfl, by omega, by omega, by omega, by omega, ?_⟩
  cases h : three (pAt pts (s + i)) (pAt pts (s + j)) (pAt pts (s + m)) e with
  | false => rfl
  | true =>
    have := (three_dv (i := ((s + i : Nat) : Int)) (j := ((s + j : Nat) : Int)) (k := ((s + m : Nat) : Int))).mp h
    rw [ei, ej, em] at no
    exact absurd this no
/-- line() of a strip -/
theorem sline_ex {P U L : List Vx} {g : D} (h : StOk P U L g) (hP : ∀ q ∈ P, SmV q) : ∃ l : Int × Int × Int, S_Strip_line [stD U L g] = some (encL l) ∧ (1 ≤ l.2.2 ∧ SmL l) ∧ (P = [] → l = (0, 0, 1)) ∧
    (P ≠ [] → ∃ d t, g = encD d ∧ Gd P d t ∧ AscV P ∧ (∀ e, d.over ≤ 2 * e * d.run → ∀ p ∈ P, nearV l p.1 p.2.1 e) ∧ (0 ≤ d.rise → 0 ≤ l.1)) := by
  rcases h with ⟨rfl, rfl, rfl, rfl⟩ | ⟨d, rfl, h⟩
  · refine ⟨(0, 0, 1), ?_, ⟨by decide, by unfold SmL; decide⟩, fun _ => rfl, fun z => absurd rfl z⟩
    refine sv_runK ?_
    unfold B_Strip_line
    exact sv_rt (sv_ifT (ev_not (b := false) (ev_Tru (x := .lst []) (ev_U (ev_Bb rfl) rfl) rfl)) (sv_ret (ev_tu (ev_cs ev_I (ev_cs ev_I (ev_cs ev_I ev_nl))))))
  · obtain ⟨t, G⟩ := h.gd
    obtain ⟨l, h1, h2, h3, h4⟩ := line_ex G hP
    refine ⟨l, ?_, h2, fun z => ?_, fun _ => ⟨d, t, rfl, G, h.asc, h3, h4⟩⟩
    · refine sv_runK ?_
      unfold B_Strip_line
      refine sv_nx (sv_ifF (ev_not (b := true) (ev_Tru (x := .lst (U.map encL)) (ev_U (ev_Bb rfl) rfl) ?_)) rfl) (sv_ret (ev_call (ds := [encD d]) (ev_cs ?_ ev_nl) h1))
      · show some (!(U.map encL).isEmpty) = _
        have := h.hu.ne
        cases U with
        | nil => exact absurd rfl this
        | cons => rfl
      · show ((gU (dFld 4 2) (gB 0) [.bo (stD U L (encD d))]).bind _) = _
        rw [show gU (dFld 4 2) (gB 0) [.bo (stD U L (encD d))] = some (encD d) from ev_U (ev_Bb rfl) rfl]
        rfl
    · have := G.ma
      rw [z] at this
      simp at this
theorem StOk.len {P U L : List Vx} {g : D} (h : StOk P U L g) : U.length ≤ P.length ∧ L.length ≤ P.length := by
  rcases h with ⟨rfl, rfl, rfl, rfl⟩ | ⟨d, rfl, h⟩
  · simp
  · exact ⟨AscX_len h.hu.asc h.hu.sub h.asc, AscX_len h.hl.asc h.hl.sub h.asc⟩
theorem StOk.sub {P U L : List Vx} {g : D} (h : StOk P U L g) : (∀ q ∈ U, q ∈ P) ∧ (∀ q ∈ L, q ∈ P) := by
  rcases h with ⟨rfl, rfl, rfl, rfl⟩ | ⟨d, rfl, h⟩
  · exact ⟨fun _ z => z, fun _ z => z⟩
  · exact ⟨h.hu.sub, h.hl.sub⟩
theorem rngD_succ (lo : Int) (n : Nat) : rngD lo (n + 1) = .int lo :: rngD (lo + 1) n := by
  unfold rngD
  rw [List.range_succ_eq_map, List.map_cons, List.map_map]
  congr 1
  · simp
  · apply List.map_congr_left
    intro i _
    show D.int (lo + ((i + 1 : Nat) : Int)) = D.int (lo + 1 + (i : Int))
    congr 1
    omega
noncomputable def lpBody : Sm :=
  (sSeq (sUnp (gTg 2 (gTo (gN 5) (gTo (gN 6) gEnd))) (gIx (gB 0) (gV 4)))
  (sSeq (sSet 7 (gTu 3 (aC (gV 5) (aC (gV 6) (aC (gV 4) aN)))))
  (sSeq (sSet 8 (gMeth 4 S_Strip_step_with (gB 3) (aC (gV 7) aN)))
  (sSeq (sIf (gTru (gCall S_exceeds (aC (gIx (gB 8) (gI 0)) (aC (gV 2) aN))))
  (sRet (gTu 3 (aC (gV 4) (aC (gMeth 4 S_Strip_line (gB 3) aN) (aC (gCall S_indexes_of (aC (gIx (gB 8) (gI 0)) aN)) aN)))))
  sNil)
  (sExpM (gMM 3 [] 4 S_Strip_take (aC (gV 7) (aC (gV 8) aN))))))))
/-- what a piece must be -/
structure Piece (pts : List (Int × Int)) (e : Int) (s en : Nat) (l : Int × Int × Int) : Prop where
  le : en ≤ pts.length
  d : 1 ≤ l.2.2
  du : SmL l
  fit : FitR pts e s en
  near : ∀ i, s ≤ i → i < en → nearV l (pAt pts i).1 (pAt pts i).2 e
  asc : (∀ i, s ≤ i → i + 1 < en → (pAt pts i).2 < (pAt pts (i + 1)).2) → 0 ≤ l.1
theorem piece_of {pts : List (Int × Int)} {e : Int} {s k : Nat} {U L : List Vx} {g : D} (hs : StOk (seg pts s k) U L g) (hb : ∀ a ∈ pts, SmQ a) (he : 0 ≤ e) (hk : s + k ≤ pts.length) (hf : FitR pts e s (s + k)) : ∃ l : Int × Int × Int, S_Strip_line [stD U L g] = some (encL l) ∧ Piece pts e s (s + k) l ∧ (k = 0 → l = (0, 0, 1)) := by
  obtain ⟨l, h1, h2, h3, h4⟩ := sline_ex hs (seg_sm hb hk)
  by_cases k0 : k = 0
  · subst k0
    refine ⟨l, h1, ⟨hk, h2.1, h2.2, hf, fun i _ _ => by omega, fun _ => ?_⟩, fun _ => h3 rfl⟩
    rw [h3 rfl]
    decide
  · have ne : seg pts s k ≠ [] := fun z => by have := seg_len (pts := pts) (s := s) (k := k); rw [z] at this; simp at this; omega
    obtain ⟨d, t, rfl, G, asc, hn, hr⟩ := h4 ne
    refine ⟨l, h1, ⟨hk, h2.1, h2.2, hf, fun i i1 i2 => ?_, fun ha => hr ?_⟩, fun z => absurd z k0⟩
    · have := hn e ((fit_seg G asc he).mp hf) _ (vAt_mem (c := seg pts s k) (i := i - s) (by rw [seg_len]; omega))
      rw [seg_at (by omega)] at this
      have e1 : s + (i - s) = i := by omega
      rw [e1] at this
      exact this
    · obtain ⟨i, hi, ei⟩ := seg_mem G.ma
      obtain ⟨j, hj, ej⟩ := seg_mem G.mz
      have mono : ∀ m, s + i + m < s + k → (pAt pts (s + i)).2 ≤ (pAt pts (s + i + m)).2 := fun m => by
        induction m with
        | zero => intro _; exact Int.le_refl _
        | succ m ih =>
          intro hm
          have := ih (by omega)
          have := ha (s + i + m) (by omega) (by omega)
          rw [show s + i + (m + 1) = s + i + m + 1 from rfl]
          omega
      have le : i ≤ j := by
        have a1 := G.am
        have a2 := G.mz'
        by_cases x : i ≤ j
        · exact x
        · have := (asc.at (i := j) (j := i) (by omega) (by rw [seg_len]; exact hi)).1
          rw [seg_at hj, seg_at hi] at this
          rw [ei] at a1
          rw [ej] at a2
          omega
      have := mono (j - i) (by omega)
      have e1 : s + i + (j - i) = s + j := by omega
      rw [e1] at this
      unfold Dv.rise
      rw [ei, ej]
      show 0 ≤ (pAt pts (s + j)).2 - (pAt pts (s + i)).2
      omega
theorem lp_loop {pts : List (Int × Int)} {e : Int} {s : Nat} (hb : ∀ a ∈ pts, SmQ a) (ha : ∀ i j, i < j → j < pts.length → (pAt pts i).1 < (pAt pts j).1) (hl : pts.length < 10000) (he : 0 ≤ e ∧ e < 2 ^ 58) : ∀ (r k : Nat), s + k + r = pts.length → ∀ (U L : List Vx) (g : D) (s4 s5 s6 s7 s8 : Sl), StOk (seg pts s k) U L g → FitR pts e s (s + k) →
    (∃ U' L' g' s4' s5' s6' s7' s8', forL (gN 4) lpBody (rngD ((s + k : Nat) : Int) r) [.sh (.lst (pts.map encP)), .sh (.int s), .sh (.int e), stS U L g, s4, s5, s6, s7, s8] = some (.nx [.sh (.lst (pts.map encP)), .sh (.int s), .sh (.int e), stS U' L' g', s4', s5', s6', s7', s8']) ∧ StOk (seg pts s (k + r)) U' L' g' ∧ FitR pts e s pts.length) ∨
    ∃ (en : Nat) (l : Int × Int × Int) (i j : Nat), forL (gN 4) lpBody (rngD ((s + k : Nat) : Int) r) [.sh (.lst (pts.map encP)), .sh (.int s), .sh (.int e), stS U L g, s4, s5, s6, s7, s8] = some (.rt (.tup [.int en, encL l, encL ((i : Int), (j : Int), (en : Int))])) ∧ s + k ≤ en ∧ en < pts.length ∧ Piece pts e s en l ∧ s ≤ i ∧ i < j ∧ j < en ∧ three (pAt pts i) (pAt pts j) (pAt pts en) e = false
  | 0, k, hk, U, L, g, s4, s5, s6, s7, s8, hs, hf => .inl ⟨U, L, g, s4, s5, s6, s7, s8, rfl, hs, by rw [show pts.length = s + k by omega]; exact hf⟩
  | r + 1, k, hk, U, L, g, s4, s5, s6, s7, s8, hs, hf => by
    have hv : SmV (vx pts (s + k)) := hb _ (pAt_mem (by omega))
    obtain ⟨d, hd, hst, ⟨t, G⟩, asc⟩ := dev_eq (v := vx pts (s + k)) hs (seg_sm hb (by omega)) hv (seg_lt ha (by omega))
    rw [← seg_snoc] at hst G asc
    have fd := fit_seg G asc he.1
    have hex := exceeds_eq (g := d) (e := e) (by omega)
    have sl := hs.len
    rw [seg_len] at sl
    have hsm := seg_sm (pts := pts) (s := s) (k := k) hb (by omega)
    have htk := take_eq (U := U) (L := L) (g := g) (d := encD d) (v := vx pts (s + k)) (by omega) (by omega)
    rw [rngD_succ]
    have pre : ∀ R, (sSeq (sIf (gTru (gCall S_exceeds (aC (gIx (gB 8) (gI 0)) (aC (gV 2) aN))))
        (sRet (gTu 3 (aC (gV 4) (aC (gMeth 4 S_Strip_line (gB 3) aN) (aC (gCall S_indexes_of (aC (gIx (gB 8) (gI 0)) aN)) aN)))))
        sNil)
        (sExpM (gMM 3 [] 4 S_Strip_take (aC (gV 7) (aC (gV 8) aN))))) [.sh (.lst (pts.map encP)), .sh (.int s), .sh (.int e), stS U L g, .sh (.int ((s + k : Nat) : Int)), .sh (.int (pAt pts (s + k)).1), .sh (.int (pAt pts (s + k)).2), .sh (encL (vx pts (s + k))), .sh (stepT U L (vx pts (s + k)) (encD d))] = R →
        lpBody [.sh (.lst (pts.map encP)), .sh (.int s), .sh (.int e), stS U L g, .sh (.int ((s + k : Nat) : Int)), s5, s6, s7, s8] = R := fun R h => by
      unfold lpBody
      refine sq_unp (d := encP (pAt pts (s + k))) (ev_op (ev_B rfl) (ev_V rfl) (ixp (k := s + k) (by omega) rfl)) rfl ?_
      refine sq_set (d := encL (vx pts (s + k))) (ev_tu (ev_cs (ev_V rfl) (ev_cs (ev_V rfl) (ev_cs (ev_V rfl) ev_nl)))) ?_
      exact sq_set (ev_meth (c := 4) (vs := [.lst (U.map encL), .lst (L.map encL), g]) rfl (ev_cs (ev_V rfl) ev_nl) hd) h
    have test : gTru (gCall S_exceeds (aC (gIx (gB 8) (gI 0)) (aC (gV 2) aN))) [.sh (.lst (pts.map encP)), .sh (.int s), .sh (.int e), stS U L g, .sh (.int ((s + k : Nat) : Int)), .sh (.int (pAt pts (s + k)).1), .sh (.int (pAt pts (s + k)).2), .sh (encL (vx pts (s + k))), .sh (stepT U L (vx pts (s + k)) (encD d))] = some (decide (2 * e * d.run < d.over)) :=
      ev_Tru (ev_call (ev_cs (ev_op (ev_B rfl) ev_I (show dIx (stepT U L (vx pts (s + k)) (encD d)) (.int 0) = some (encD d) from rfl)) (ev_cs (ev_V rfl) ev_nl)) hex) rfl
    by_cases x : 2 * e * d.run < d.over
    · obtain ⟨l, l1, l2, _⟩ := piece_of hs hb he.1 (by omega) hf
      obtain ⟨i, j, m, w1, w2, w3, w4, w5, w6⟩ := why_ok G asc he.1 x
      have em : m = s + k := by
        by_cases y : m < s + k
        · have := hf i j m w2 w3 w4 y
          rw [this] at w6
          cases w6
        · omega
      subst em
      refine .inr ⟨s + k, l, i, j, ?_, by omega, by omega, l2, w2, w3, w4, w6⟩
      refine forL_rt rfl (pre _ (sv_rt (sv_ifT (test.trans (by rw [decide_eq_true x])) (sv_ret ?_))))
      refine ev_tu (ev_cs (ev_V rfl) (ev_cs (ev_meth (c := 4) (vs := [.lst (U.map encL), .lst (L.map encL), g]) rfl ev_nl l1) (ev_cs (ev_call (ev_cs (ev_op (ev_B rfl) ev_I (show dIx (stepT U L (vx pts (s + k)) (encD d)) (.int 0) = some (encD d) from rfl)) ev_nl) (indexes_eq.trans (by rw [w1]))) ev_nl)))
    · have h1 : sExpM (gMM 3 [] 4 S_Strip_take (aC (gV 7) (aC (gV 8) aN))) [.sh (.lst (pts.map encP)), .sh (.int s), .sh (.int e), stS U L g, .sh (.int ((s + k : Nat) : Int)), .sh (.int (pAt pts (s + k)).1), .sh (.int (pAt pts (s + k)).2), .sh (encL (vx pts (s + k))), .sh (stepT U L (vx pts (s + k)) (encD d))]
          = some (.nx [.sh (.lst (pts.map encP)), .sh (.int s), .sh (.int e), stS (putb 1 U (vx pts (s + k))) (putb (-1) L (vx pts (s + k))) (encD d), .sh (.int ((s + k : Nat) : Int)), .sh (.int (pAt pts (s + k)).1), .sh (.int (pAt pts (s + k)).2), .sh (encL (vx pts (s + k))), .sh (stepT U L (vx pts (s + k)) (encD d))]) := by
        show ((((S_Strip_take (stS U L g) [encL (vx pts (s + k)), stepT U L (vx pts (s + k)) (encD d)]).bind _)).bind _) = _
        rw [htk]
        rfl
      have hb1 := pre _ (sv_nx (sv_ifF (test.trans (by rw [decide_eq_false x])) rfl) h1)
      have hf' : FitR pts e s (s + (k + 1)) := fd.mpr (by omega)
      have ih := lp_loop hb ha hl he r (k + 1) (by omega) _ _ _ (.sh (.int ((s + k : Nat) : Int))) (.sh (.int (pAt pts (s + k)).1)) (.sh (.int (pAt pts (s + k)).2)) (.sh (encL (vx pts (s + k)))) (.sh (stepT U L (vx pts (s + k)) (encD d))) hst hf'
      have ek : ((s + k : Nat) : Int) + 1 = ((s + (k + 1) : Nat) : Int) := by omega
      rw [ek]
      rcases ih with ⟨U', L', g', a4, a5, a6, a7, a8, h2, h3, h4⟩ | ⟨en, l, i, j, h2, h3, h4⟩
      · exact .inl ⟨U', L', g', a4, a5, a6, a7, a8, forL_nx rfl hb1 h2, by rw [show k + (r + 1) = k + 1 + r by omega]; exact h3, h4⟩
      · exact .inr ⟨en, l, i, j, forL_nx rfl hb1 h2, by omega, h4⟩
/-- the longest piece from a start on -/
theorem lp_eq {pts : List (Int × Int)} {e : Int} {s : Nat} (hb : ∀ a ∈ pts, SmQ a) (ha : ∀ i j, i < j → j < pts.length → (pAt pts i).1 < (pAt pts j).1) (hl : pts.length < 10000) (he : 0 ≤ e ∧ e < 2 ^ 58) (hs : s ≤ pts.length) :
    (∃ l, S_longest_piece [.lst (pts.map encP), .int s, .int e] = some (.tup [.int pts.length, encL l, .non]) ∧ Piece pts e s pts.length l ∧ (s = pts.length → l = (0, 0, 1))) ∨
    ∃ (en : Nat) (l : Int × Int × Int) (i j : Nat), S_longest_piece [.lst (pts.map encP), .int s, .int e] = some (.tup [.int en, encL l, encL ((i : Int), (j : Int), (en : Int))]) ∧ s < en ∧ en < pts.length ∧ Piece pts e s en l ∧ s ≤ i ∧ i < j ∧ j < en ∧ three (pAt pts i) (pAt pts j) (pAt pts en) e = false := by
  have lP : dLen (.lst (pts.map encP)) = some (.int pts.length) := by rw [d_lenL, List.length_map]
  have h0 : sSetN 3 (gMk 4 S_Strip___init__ aN) [.sh (.lst (pts.map encP)), .sh (.int s), .sh (.int e), .no, .no, .no, .no, .no, .no] = some (.nx [.sh (.lst (pts.map encP)), .sh (.int s), .sh (.int e), stS [] [] .non, .no, .no, .no, .no, .no]) := rfl
  have hr : gRng (aC (gV 1) (aC (gU dLen (gB 0)) aN)) [.sh (.lst (pts.map encP)), .sh (.int s), .sh (.int e), stS [] [] .non, .no, .no, .no, .no, .no] = some (rngD ((s + 0 : Nat) : Int) (pts.length - s)) := by
    rw [ev_rng2 (m := s) (j := pts.length) (ev_cs (ev_V rfl) (ev_cs (ev_U (ev_B rfl) lP) ev_nl)) (by omega) (by omega) (by omega) (by omega)]
    congr 2
    omega
  have hL := lp_loop (s := s) hb ha hl he (pts.length - s) 0 (by omega) [] [] .non .no .no .no .no .no (.inl ⟨rfl, rfl, rfl, rfl⟩) (fun i j m _ _ _ _ => by omega)
  rcases hL with ⟨U', L', g', a4, a5, a6, a7, a8, h2, h3, h4⟩ | ⟨en, l, i, j, h2, h3, h4⟩
  · left
    have e1 : s + (0 + (pts.length - s)) = pts.length := by omega
    obtain ⟨l, l1, l2, l3⟩ := piece_of (s := s) (k := 0 + (pts.length - s)) h3 hb he.1 (by omega) (by rw [e1]; exact h4)
    rw [e1] at l2
    refine ⟨l, ?_, l2, fun z => l3 (by omega)⟩
    refine sv_run ?_
    unfold B_longest_piece
    refine sv_nx h0 (sv_nx (sv_for hr h2) (sv_ret ?_))
    exact ev_tu (ev_cs (ev_U (ev_B rfl) lP) (ev_cs (ev_meth (c := 4) (vs := [.lst (U'.map encL), .lst (L'.map encL), g']) rfl ev_nl l1) (ev_cs ev_C ev_nl)))
  · right
    refine ⟨en, l, i, j, ?_, ?_, h4⟩
    · refine sv_run ?_
      unfold B_longest_piece
      exact sv_nx h0 (sv_rt (sv_for hr h2))
    · obtain ⟨_, _, h5, h6, h7, _⟩ := h4
      omega
/-! pieces over ranges of indexes -/
structure PcOk (pcs : List (Int × Int × Int × Int)) : Prop where
  nn : ∀ k, k < pcs.length → stAt pcs k = ((stAt pcs k).toNat : Nat)
  st0 : 0 < pcs.length → stAt pcs 0 = 0
  up : ∀ k, k + 1 < pcs.length → stAt pcs k < stAt pcs (k + 1)
  len : pcs.length < 10000
theorem PcOk.mono {pcs : List (Int × Int × Int × Int)} (h : PcOk pcs) : ∀ i j, i ≤ j → j < pcs.length → stAt pcs i ≤ stAt pcs j := fun i j => by
  induction j with
  | zero => intro h1 _; have : i = 0 := by omega
            rw [this]; exact Int.le_refl _
  | succ j ih =>
    intro h1 h2
    by_cases e : i = j + 1
    · rw [e]; exact Int.le_refl _
    · have := ih (by omega) (by omega)
      have := h.up j h2
      omega
/-- the piece at x -/
structure At (pcs : List (Int × Int × Int × Int)) (x : Int) (t : Nat) : Prop where
  lt : t < pcs.length
  le : stAt pcs t ≤ x
  nx : t + 1 < pcs.length → x < stAt pcs (t + 1)
theorem at_ex {pcs : List (Int × Int × Int × Int)} (h : PcOk pcs) (hp : 0 < pcs.length) {x : Int} (hx : 0 ≤ x) : ∃ t, At pcs x t := by
  have key : ∀ m, m ≤ pcs.length → 0 < m → (∀ k, m ≤ k → k < pcs.length → x < stAt pcs k) → ∃ t, At pcs x t := fun m => by
    induction m with
    | zero => intro _ h0 _; omega
    | succ m ih =>
      intro h1 _ h2
      by_cases c : stAt pcs m ≤ x
      · exact ⟨m, by omega, c, fun h => h2 (m + 1) (Nat.le_refl _) h⟩
      · have hm : 0 < m := by
          refine Nat.pos_of_ne_zero fun z => c ?_
          rw [z, h.st0 hp]; exact hx
        refine ih (by omega) hm fun k k1 k2 => ?_
        by_cases e : k = m
        · rw [e]; omega
        · exact h2 k (by omega) k2
  exact key pcs.length (Nat.le_refl _) hp fun k k1 k2 => by omega
theorem pc_ix {pcs : List (Int × Int × Int × Int)} {k : Nat} (hk : k < pcs.length) {i : Int} (e : i = (k : Nat)) : dIx (.lst (pcs.map encC)) (.int i) = some (.tup [.int (stAt pcs k), encL (lnAt pcs k)]) := (d_ixC (k := k) (pc_get pcs hk) e).trans rfl
theorem piece_at_eq {pcs : List (Int × Int × Int × Int)} (h : PcOk pcs) {x : Int} {t : Nat} (T : At pcs x t) : S_piece_at [.lst (pcs.map encC), .int x] = some (.int t) := by
  have lP : dLen (.lst (pcs.map encC)) = some (.int pcs.length) := by rw [d_lenL, List.length_map]
  have ht := T.lt
  have hlen := h.len
  refine run_Weq ?_
  unfold B_piece_at
  refine wq_par (ev_cs ev_I (ev_cs (ev_op (ev_U (ev_B rfl) lP) ev_I d_sub) ev_nl)) ?_
  refine wq_while (fun m Γ => ∃ (a b : Nat) (s4 : Sl), Γ = [.sh (.lst (pcs.map encC)), .sh (.int x), .sh (.int a), .sh (.int b), s4] ∧ a ≤ t ∧ t ≤ b ∧ b < pcs.length ∧ m = b - a) ⟨_, 0, pcs.length - 1, .no, ?_, by omega, by omega, by omega, rfl⟩ ?_
  · have e : (pcs.length : Int) - 1 = ((pcs.length - 1 : Nat) : Int) := by omega
    show [Sl.sh (.lst (pcs.map encC)), .sh (.int x), .sh (.int 0), .sh (.int ((pcs.length : Int) - 1)), .no] = _
    rw [e]
    rfl
  · rintro m Γ ⟨a, b, s4, rfl, h1, h2, h3, rfl⟩
    refine ⟨decide ((a : Int) < b), ev_T (ev_op (ev_V rfl) (ev_V rfl) rfl), fun hc => ?_, fun hc => ?_⟩
    · have hc := of_decide_eq_false hc
      refine W_ret (ev_V rfl) ?_
      show D.int (a : Int) = D.int (t : Int)
      have : a = t := by omega
      rw [this]
    · have hc := of_decide_eq_true hc
      have em : ((a : Int) + b + 1) / 2 = (((a + b + 1) / 2 : Nat) : Int) := by omega
      refine wq_set (d := .int (((a + b + 1) / 2 : Nat) : Int)) (ev_op (ev_op (ev_op (ev_V rfl) (ev_V rfl) d_add) ev_I d_add) ev_I (by rw [← em]; exact d_div (by decide) (by decide +kernel))) ?_
      generalize hmid : (a + b + 1) / 2 = md at *
      have m1 : a < md := by omega
      have m2 : md ≤ b := by omega
      refine W_if (b := decide (stAt pcs md ≤ x)) (ev_T (ev_op (ev_op (ev_op (ev_B rfl) (ev_V rfl) (pc_ix (k := md) (by omega) rfl)) ev_I rfl) (ev_V rfl) rfl)) (fun hd => ?_) fun hd => ?_
      · have hd := of_decide_eq_true hd
        refine W_set (ev_V rfl) ⟨b - md, by omega, md, b, _, rfl, ?_, h2, h3, rfl⟩
        refine Nat.le_of_not_lt fun z => ?_
        have a1 := T.nx (by omega)
        have a2 := h.mono (t + 1) md (by omega) (by omega)
        omega
      · have hd := of_decide_eq_false hd
        refine W_set (d := .int ((md - 1 : Nat) : Int)) ?_ ⟨md - 1 - a, by omega, a, md - 1, _, rfl, h1, ?_, by omega, rfl⟩
        · have e : (md : Int) - 1 = ((md - 1 : Nat) : Int) := by omega
          rw [← e]
          exact ev_op (ev_V rfl) ev_I d_sub
        · refine Nat.le_of_not_lt fun z => hd ?_
          have a2 := h.mono md t (by omega) T.lt
          have := T.le
          omega
/-- the part of the piece k from a up to b -/
def ptF (pcs : List (Int × Int × Int × Int)) (a b : Int) (k : Nat) : Int × Int × Int × Int × Int := (if a < stAt pcs k then stAt pcs k else a, if k + 1 < pcs.length then (if stAt pcs (k + 1) < b then stAt pcs (k + 1) else b) else b, lnAt pcs k)
def encPt (c : Int × Int × Int × Int × Int) : D := .tup [.int c.1, .int c.2.1, encL c.2.2]
theorem parts_eq {pcs : List (Int × Int × Int × Int)} (h : PcOk pcs) {a b : Int} {t m : Nat} (hab : a < b) (T : At pcs a t) (tm : t ≤ m) (ml : m ≤ pcs.length) (hm : ∀ k, k < m → stAt pcs k < b) (hm2 : m < pcs.length → b ≤ stAt pcs m) : S_parts [.lst (pcs.map encC), .int a, .int b] = some (.lst (((List.range (m - t)).map fun j => ptF pcs a b (t + j)).map encPt)) := by
  have lP : dLen (.lst (pcs.map encC)) = some (.int pcs.length) := by rw [d_lenL, List.length_map]
  have hlen := h.len
  refine run_Weq ?_
  unfold B_parts
  refine wq_setO ev_nl ?_
  refine W_seq (W_if (b := false) (ev_T (ev_op (ev_V rfl) (ev_V rfl) (by show some (D.bl (decide (a ≥ b))) = _; rw [decide_eq_false (by omega)]))) (fun z => by cases z) fun _ => W_nil ?_)
  refine wq_set (ev_call (ev_cs (ev_V rfl) (ev_cs (ev_V rfl) ev_nl)) (piece_at_eq h T)) ?_
  refine wq_while (fun n Γ => ∃ (k : Nat) (s5 s6 s7 : Sl), Γ = [.sh (.lst (pcs.map encC)), .sh (.int a), .sh (.int b), .ow (((List.range (k - t)).map fun j => ptF pcs a b (t + j)).map encPt), .sh (.int k), s5, s6, s7] ∧ t ≤ k ∧ k ≤ m ∧ n = m - k) ⟨_, t, .no, .no, .no, ?_, Nat.le_refl _, tm, rfl⟩ ?_
  · rw [Nat.sub_self]; rfl
  · rintro n Γ ⟨k, s5, s6, s7, rfl, k1, k2, rfl⟩
    have hc : gAnd (gT (gOp dLt (gV 4) (gU dLen (gB 0)))) (gT (gOp dLt (gIx (gIx (gB 0) (gV 4)) (gI 0)) (gV 2))) [.sh (.lst (pcs.map encC)), .sh (.int a), .sh (.int b), .ow (((List.range (k - t)).map fun j => ptF pcs a b (t + j)).map encPt), .sh (.int k), s5, s6, s7] = some (decide (k < m)) := by
      by_cases hk : k < pcs.length
      · have e1 : decide (k < m) = (true && decide (stAt pcs k < b)) := by
          rw [Bool.true_and]
          refine decide_eq_decide.mpr ⟨fun z => hm k z, fun z => Nat.lt_of_not_le fun w => ?_⟩
          have : m = k := by omega
          subst this
          have := hm2 hk
          omega
        rw [e1]
        refine ev_and (ev_T (ev_op (ev_V rfl) (ev_U (ev_B rfl) lP) (by show some (D.bl (decide ((k : Int) < pcs.length))) = _; rw [decide_eq_true (by omega)]))) (ev_T (ev_op (ev_op (ev_op (ev_B rfl) (ev_V rfl) (pc_ix hk rfl)) ev_I rfl) (ev_V rfl) rfl))
      · rw [decide_eq_false (by omega)]
        exact ev_andF (ev_T (ev_op (ev_V rfl) (ev_U (ev_B rfl) lP) (by show some (D.bl (decide ((k : Int) < pcs.length))) = _; rw [decide_eq_false (by omega)])))
    refine ⟨_, hc, fun hk => ?_, fun hk => ?_⟩
    · have hk := of_decide_eq_false hk
      have e : k = m := by omega
      subst e
      refine W_frz ?_
      exact W_ret (ev_V rfl) rfl
    · have hk := of_decide_eq_true hk
      have hkl : k < pcs.length := by omega
      refine wq_unp (d := .tup [.int (stAt pcs k), encL (lnAt pcs k)]) (ev_op (ev_B rfl) (ev_V rfl) (pc_ix hkl rfl)) rfl ?_
      refine wq_set (ev_V rfl) ?_
      have fin : ∀ E : Int, E = (ptF pcs a b k).2.1 → W (sSeq (sApp 3 [] (gTu 3 (aC (gA dMax2 (aC (gV 1) (aC (gV 5) aN))) (aC (gV 7) (aC (gV 6) aN))))) (sAug dAddI 4 (gI 1))) [.sh (.lst (pcs.map encC)), .sh (.int a), .sh (.int b), .ow (((List.range (k - t)).map fun j => ptF pcs a b (t + j)).map encPt), .sh (.int k), .sh (.int (stAt pcs k)), .sh (encL (lnAt pcs k)), .sh (.int E)] (bodyP (fun Γ' => ∃ m', m' < m - k ∧ ∃ (k' : Nat) (s5 s6 s7 : Sl), Γ' = [.sh (.lst (pcs.map encC)), .sh (.int a), .sh (.int b), .ow (((List.range (k' - t)).map fun j => ptF pcs a b (t + j)).map encPt), .sh (.int k'), s5, s6, s7] ∧ t ≤ k' ∧ k' ≤ m ∧ m' = m - k') (thenP (sFrz 3 (sRet (gV 3))) (isRt fun x => x = .lst (((List.range (m - t)).map fun j => ptF pcs a b (t + j)).map encPt)))) := fun E hE => by
        subst hE
        refine wq_app (xs := ((List.range (k - t)).map fun j => ptF pcs a b (t + j)).map encPt) (d := encPt (ptF pcs a b k)) (ev_tu (ev_cs (ev_A (ev_cs (ev_V rfl) (ev_cs (ev_V rfl) ev_nl)) rfl) (ev_cs (ev_V rfl) (ev_cs (ev_V rfl) ev_nl)))) rfl (by simp; omega) ?_
        have ex : ((List.range (k - t)).map fun j => ptF pcs a b (t + j)).map encPt ++ [encPt (ptF pcs a b k)] = ((List.range (k + 1 - t)).map fun j => ptF pcs a b (t + j)).map encPt := by
          have e1 : k + 1 - t = (k - t) + 1 := by omega
          have e2 : t + (k - t) = k := by omega
          rw [e1, List.range_succ, List.map_append, List.map_append]
          simp [e2]
        rw [ex]
        refine W_aug rfl ev_I rfl ⟨m - (k + 1), by omega, k + 1, _, _, _, rfl, by omega, by omega, rfl⟩
      refine wq_if (b := decide (k + 1 < pcs.length)) ?_ (fun hk2 => ?_) fun hk2 => ?_
      · refine ev_T (ev_op (ev_op (ev_V rfl) ev_I d_add) (ev_U (ev_B rfl) lP) ?_)
        show some (D.bl (decide ((k : Int) + 1 < pcs.length))) = _
        have e : decide ((k : Int) + 1 < pcs.length) = decide (k + 1 < pcs.length) := decide_eq_decide.mpr (by omega)
        rw [e]
      · have hk2 := of_decide_eq_true hk2
        refine W_set (d := .int (ptF pcs a b k).2.1) ?_ (fin _ rfl)
        unfold ptF
        rw [if_pos hk2]
        exact ev_A (ev_cs (ev_V rfl) (ev_cs (ev_op (ev_op (ev_B rfl) (ev_op (ev_V rfl) ev_I d_add) (pc_ix hk2 (by omega))) ev_I rfl) ev_nl)) rfl
      · have hk2 := of_decide_eq_false hk2
        refine W_nil (fin b ?_)
        unfold ptF
        rw [if_neg hk2]
/-! points of a list of values -/
def wAt (vs : List Int) (k : Nat) : Int := vs.getD k 0
theorem wAt_get {vs : List Int} {k : Nat} (h : k < vs.length) : vs[k]? = some (wAt vs k) := by simp [wAt, h]
theorem wAt_mem {vs : List Int} {k : Nat} (h : k < vs.length) : wAt vs k ∈ vs := List.mem_of_getElem? (wAt_get h)
def wI (vs : List Int) (i : Int) : Int := wAt vs i.toNat
theorem ixW {vs : List Int} {i : Int} (h0 : 0 ≤ i) (h1 : i < vs.length) : dIx (.lst (vs.map D.int)) (.int i) = some (.int (wI vs i)) := d_ixC (k := i.toNat) (wAt_get (by omega)) (by omega)
theorem wI_mem {vs : List Int} {i : Int} (h0 : 0 ≤ i) (h1 : i < vs.length) : wI vs i ∈ vs := wAt_mem (by omega)
def ptsV (vs : List Int) : List (Int × Int) := (List.range vs.length).map fun (k : Nat) => ((k : Int), wAt vs k)
theorem ptsV_len (vs : List Int) : (ptsV vs).length = vs.length := by simp [ptsV]
theorem ptsV_get {vs : List Int} {k : Nat} (h : k < vs.length) : (ptsV vs)[k]? = some ((k : Int), wAt vs k) := by
  unfold ptsV
  rw [List.getElem?_map, List.getElem?_range h]
  rfl
theorem pAtV {vs : List Int} {k : Nat} (h : k < vs.length) : pAt (ptsV vs) k = ((k : Int), wAt vs k) := by
  unfold pAt
  rw [List.getD_eq_getElem?_getD, ptsV_get h]
  rfl
abbrev SmVal (vs : List Int) : Prop := ∀ v ∈ vs, -(2 ^ 45) < v ∧ v < 2 ^ 45
theorem ptsV_sm {vs : List Int} (hl : vs.length < 1000) (hb : SmVal vs) : ∀ a ∈ ptsV vs, SmP a := by
  intro a ha
  obtain ⟨k, hk, rfl⟩ := List.mem_map.mp ha
  have hk := List.mem_range.mp hk
  have := hb _ (wAt_mem hk)
  exact ⟨⟨by show -(2 ^ 19) < (k : Int); omega, by show (k : Int) < 2 ^ 19; omega⟩, by show -(2 ^ 50) < wAt vs k; omega, by show wAt vs k < 2 ^ 50; omega⟩
theorem enumD_ints (vs : List Int) : enumD 0 (vs.map D.int) = (ptsV vs).map encP := by
  refine List.ext_getElem? fun k => ?_
  by_cases h : k < vs.length
  · have h1 : k < (enumD 0 (vs.map D.int)).length := by rw [enumD_len, List.length_map]; exact h
    have e1 := List.getElem?_eq_getElem h1
    obtain ⟨x, x1, x2⟩ := enumD_get e1
    rw [List.getElem?_map, wAt_get h] at x1
    cases x1
    rw [e1, x2, List.getElem?_map, ptsV_get h]
    simp [encP]
  · rw [List.getElem?_eq_none (by rw [enumD_len, List.length_map]; omega), List.getElem?_eq_none (by rw [List.length_map, ptsV_len]; omega)]
/-! ### the cut -/
/-- pieces and reasons so far: up to the start s -/
structure CutOk (pts : List (Int × Int)) (e : Int) (pcs : List (Int × Int × Int × Int)) (rs : List (Int × Int × Int)) (s : Nat) (done : Bool) : Prop where
  le : s ≤ pts.length
  st : ∀ k, k < pcs.length → 0 ≤ stAt pcs k ∧ stAt pcs k < pts.length
  st0 : 0 < pcs.length → stAt pcs 0 = 0
  z : pcs.length = 0 → s = 0
  pc : ∀ k, k < pcs.length → Piece pts e (stAt pcs k).toNat (if k + 1 < pcs.length then (stAt pcs (k + 1)).toNat else s) (lnAt pcs k) ∧ (stAt pcs k).toNat < (if k + 1 < pcs.length then (stAt pcs (k + 1)).toNat else s)
  rl : rs.length = if done then pcs.length - 1 else pcs.length
  dn : done = true → s = pts.length
  nd : done = false → s < pts.length
  rs : ∀ k, k < rs.length → ∃ i j m : Nat, rsAt rs k = ((i : Int), (j : Int), (m : Int)) ∧ (stAt pcs k).toNat ≤ i ∧ i < j ∧ j < m ∧ m = (if k + 1 < pcs.length then (stAt pcs (k + 1)).toNat else s) ∧ m < pts.length ∧ three (pAt pts i) (pAt pts j) (pAt pts m) e = false
theorem stAt_app {pcs : List (Int × Int × Int × Int)} {c : Int × Int × Int × Int} {k : Nat} (h : k < pcs.length) : stAt (pcs ++ [c]) k = stAt pcs k := by
  unfold stAt stsOf
  rw [List.map_append, List.getD_eq_getElem?_getD, List.getD_eq_getElem?_getD, List.getElem?_append_left (by simpa using h)]
theorem stAt_new {pcs : List (Int × Int × Int × Int)} {c : Int × Int × Int × Int} : stAt (pcs ++ [c]) pcs.length = c.1 := by
  unfold stAt stsOf
  rw [List.map_append, List.getD_eq_getElem?_getD, List.getElem?_append_right (by simp)]
  simp
theorem lnAt_app {pcs : List (Int × Int × Int × Int)} {c : Int × Int × Int × Int} {k : Nat} (h : k < pcs.length) : lnAt (pcs ++ [c]) k = lnAt pcs k := by
  unfold lnAt
  rw [List.getD_eq_getElem?_getD, List.getD_eq_getElem?_getD, List.getElem?_append_left h]
theorem lnAt_new {pcs : List (Int × Int × Int × Int)} {c : Int × Int × Int × Int} : lnAt (pcs ++ [c]) pcs.length = c.2 := by
  unfold lnAt
  rw [List.getD_eq_getElem?_getD, List.getElem?_append_right (by simp)]
  simp
theorem rsAt_app {rs : List (Int × Int × Int)} {c : Int × Int × Int} {k : Nat} (h : k < rs.length) : rsAt (rs ++ [c]) k = rsAt rs k := by
  unfold rsAt
  rw [List.getD_eq_getElem?_getD, List.getD_eq_getElem?_getD, List.getElem?_append_left h]
theorem rsAt_new {rs : List (Int × Int × Int)} {c : Int × Int × Int} : rsAt (rs ++ [c]) rs.length = c := by
  unfold rsAt
  rw [List.getD_eq_getElem?_getD, List.getElem?_append_right (by simp)]
  simp
/-- one more piece -/
theorem CutOk.put {pts : List (Int × Int)} {e : Int} {pcs : List (Int × Int × Int × Int)} {rs : List (Int × Int × Int)} {s en : Nat} {l : Int × Int × Int} (h : CutOk pts e pcs rs s false) (P : Piece pts e s en l) (lt : s < en) (rs' : List (Int × Int × Int)) (done : Bool)
    (hr : (done = true ∧ rs' = rs ∧ en = pts.length) ∨ (done = false ∧ en < pts.length ∧ ∃ i j : Nat, rs' = rs ++ [((i : Int), (j : Int), (en : Int))] ∧ s ≤ i ∧ i < j ∧ j < en ∧ three (pAt pts i) (pAt pts j) (pAt pts en) e = false)) : CutOk pts e (pcs ++ [((s : Int), l)]) rs' en done := by
  have hlen : (pcs ++ [((s : Int), l)]).length = pcs.length + 1 := by simp
  have rl := h.rl
  simp only [Bool.false_eq_true, if_false] at rl
  have hs := h.nd rfl
  have sAt : ∀ k, k < pcs.length → (if k + 1 < pcs.length then (stAt pcs (k + 1)).toNat else s) = (stAt (pcs ++ [((s : Int), l)]) (k + 1)).toNat := fun k hk => by
    by_cases x : k + 1 < pcs.length
    · rw [if_pos x, stAt_app x]
    · rw [if_neg x]
      have : k + 1 = pcs.length := by omega
      rw [this, stAt_new]
      simp
  refine ⟨P.le, fun k hk => ?_, fun _ => ?_, fun z => by rw [hlen] at z; omega, fun k hk => ?_, ?_, fun z => ?_, fun z => ?_, fun k hk => ?_⟩
  · rw [hlen] at hk
    by_cases x : k < pcs.length
    · rw [stAt_app x]; exact h.st k x
    · have : k = pcs.length := by omega
      subst this
      rw [stAt_new]
      show 0 ≤ (s : Int) ∧ (s : Int) < pts.length
      omega
  · by_cases x : 0 < pcs.length
    · rw [stAt_app x]; exact h.st0 x
    · have e0 : pcs.length = 0 := by omega
      have := stAt_new (pcs := pcs) (c := ((s : Int), l))
      rw [e0] at this
      rw [this]
      show (s : Int) = 0
      have := h.z e0
      omega
  · rw [hlen] at hk ⊢
    by_cases x : k < pcs.length
    · rw [if_pos (by omega), stAt_app x, lnAt_app x, ← sAt k x]
      exact h.pc k x
    · have : k = pcs.length := by omega
      subst this
      rw [if_neg (by omega), stAt_new, lnAt_new]
      exact ⟨P, lt⟩
  · rw [hlen]
    rcases hr with ⟨rfl, rfl, _⟩ | ⟨rfl, _, i, j, rfl, _⟩
    · simp only [if_true]; omega
    · simp only [Bool.false_eq_true, if_false, List.length_append, List.length_singleton]; omega
  · rcases hr with ⟨_, _, h1⟩ | ⟨rfl, _⟩
    · exact h1
    · cases z
  · rcases hr with ⟨rfl, _⟩ | ⟨_, h1, _⟩
    · cases z
    · exact h1
  · rw [hlen]
    have old : k < rs.length → ∃ i j m : Nat, rsAt rs k = ((i : Int), (j : Int), (m : Int)) ∧ (stAt (pcs ++ [((s : Int), l)]) k).toNat ≤ i ∧ i < j ∧ j < m ∧ m = (if k + 1 < pcs.length + 1 then (stAt (pcs ++ [((s : Int), l)]) (k + 1)).toNat else en) ∧ m < pts.length ∧ three (pAt pts i) (pAt pts j) (pAt pts m) e = false := fun x => by
      obtain ⟨i, j, m, h1, h2, h3, h4, h5, h6, h7⟩ := h.rs k x
      refine ⟨i, j, m, h1, by rw [stAt_app (by omega)]; exact h2, h3, h4, ?_, h6, h7⟩
      rw [if_pos (by omega), ← sAt k (by omega)]
      exact h5
    rcases hr with ⟨_, rfl, _⟩ | ⟨_, h1, i, j, rfl, h2, h3, h4, h5⟩
    · exact old hk
    · by_cases x : k < rs.length
      · rw [rsAt_app x]
        exact old x
      · have : k = rs.length := by simp at hk; omega
        subst this
        refine ⟨i, j, en, rsAt_new, ?_, h3, h4, ?_, h1, h5⟩
        · rw [rl, stAt_new]
          simpa using h2
        · rw [rl, if_neg (by omega)]
/-! pieces taken in turn, whatever a longest piece is -/
def trCond : Te := gT (gOp dLt (gV 4) (gV 1))
noncomputable def trBody (d0 : D) (F : List D → Option D) : Sm :=
  (sSeq (sUnp (gTg 3 (gTo (gN 5) (gTo (gN 6) (gTo (gN 7) gEnd)))) (gFn d0 F 0 (aC (gV 4) aN)))
  (sSeq (sApp 2 [] (gTu 2 (aC (gV 4) (aC (gV 6) aN))))
  (sSeq (sIf (gT (gOp dNoN (gB 7) (gC .non)))
  (sApp 3 [] (gV 7))
  sNil)
  (sSet 4 (gV 5)))))
theorem turn_step {d0 : D} {F : List D → Option D} {n s en : Nat} {sh w : D} {ps rs : List D} {s5 s6 s7 : Sl} (hF : F [.int s] = some (.tup [.int en, sh, w])) (lp : ps.length < 1000000) (lr : rs.length < 1000000) :
    trBody d0 F [.sh d0, .sh (.int n), .ow ps, .ow rs, .sh (.int s), s5, s6, s7] = some (.nx [.sh d0, .sh (.int n), .ow (ps ++ [.tup [.int s, sh]]), .ow (if isNon w then rs else rs ++ [w]), .sh (.int en), .sh (.int en), .sh sh, .sh w]) := by
  unfold trBody
  refine sq_unp (d := .tup [.int en, sh, w]) (ev_fn rfl (ev_cs (ev_V rfl) ev_nl) hF) rfl ?_
  refine sq_app (xs := ps) (d := .tup [.int s, sh]) (ev_tu (ev_cs (ev_V rfl) (ev_cs (ev_V rfl) ev_nl))) rfl lp ?_
  have ht : gT (gOp dNoN (gB 7) (gC .non)) [.sh d0, .sh (.int n), .ow (ps ++ [.tup [.int s, sh]]), .ow rs, .sh (.int s), .sh (.int en), .sh sh, .sh w] = some (!isNon w) := ev_T (ev_op (ev_B rfl) ev_C rfl)
  cases e : isNon w with
  | true =>
    rw [e] at ht
    exact sv_nx (sv_ifF ht rfl) (sv_set (ev_V rfl))
  | false =>
    rw [e] at ht
    exact sv_nx (sv_ifT ht (sv_app0 (xs := rs) (ev_V rfl) rfl lr)) (sv_set (ev_V rfl))
theorem turn_loop {F : List D → Option D} {n : Nat} (hn : n < 10000) (I : List D → List D → Nat → Prop) (hs : ∀ ps rs s, I ps rs s → s < n → ∃ (en : Nat) (sh w : D), F [.int s] = some (.tup [.int en, sh, w]) ∧ s < en ∧ I (ps ++ [.tup [.int s, sh]]) (if isNon w then rs else rs ++ [w]) en) :
    ∀ (r s : Nat) (ps rs : List D), n - s ≤ r → I ps rs s → ps.length ≤ s → rs.length ≤ s →
      ∃ ps' rs' s', I ps' rs' s' ∧ n ≤ s' ∧ ∀ (d0 : D) (s5 s6 s7 : Sl), ∃ k s5' s6' s7', whileN k trCond (trBody d0 F) [.sh d0, .sh (.int n), .ow ps, .ow rs, .sh (.int s), s5, s6, s7] = some (.nx [.sh d0, .sh (.int n), .ow ps', .ow rs', .sh (.int s'), s5', s6', s7']) := by
  have c0 : ∀ (d0 : D) (s : Nat) (ps rs : List D) (s5 s6 s7 : Sl), trCond [.sh d0, .sh (.int n), .ow ps, .ow rs, .sh (.int s), s5, s6, s7] = some (decide ((s : Int) < n)) := fun d0 s ps rs s5 s6 s7 => ev_T (ev_op (x := .int s) (y := .int n) (ev_V rfl) (ev_V rfl) rfl)
  have stop : ∀ (s : Nat) (ps rs : List D), n ≤ s → I ps rs s → ∃ ps' rs' s', I ps' rs' s' ∧ n ≤ s' ∧ ∀ (d0 : D) (s5 s6 s7 : Sl), ∃ k s5' s6' s7', whileN k trCond (trBody d0 F) [.sh d0, .sh (.int n), .ow ps, .ow rs, .sh (.int s), s5, s6, s7] = some (.nx [.sh d0, .sh (.int n), .ow ps', .ow rs', .sh (.int s'), s5', s6', s7']) := fun s ps rs h hI =>
    ⟨ps, rs, s, hI, h, fun d0 s5 s6 s7 => ⟨1, s5, s6, s7, whileN_no (by rw [c0, decide_eq_false (by omega)])⟩⟩
  intro r
  induction r with
  | zero => intro s ps rs hr hI _ _; exact stop s ps rs (by omega) hI
  | succ r ih =>
    intro s ps rs hr hI lp lr
    by_cases h : s < n
    · obtain ⟨en, sh, w, hF, lt, hI'⟩ := hs ps rs s hI h
      obtain ⟨ps', rs', s', a1, a2, a3⟩ := ih en (ps ++ [.tup [.int s, sh]]) (if isNon w then rs else rs ++ [w]) (by omega) hI' (by simp; omega) (by split <;> first | omega | (simp; omega))
      refine ⟨ps', rs', s', a1, a2, fun d0 s5 s6 s7 => ?_⟩
      obtain ⟨k, b5, b6, b7, hk⟩ := a3 d0 (.sh (.int en)) (.sh sh) (.sh w)
      exact ⟨k + 1, b5, b6, b7, whileN_nx (by rw [c0, decide_eq_true (by omega)]) (turn_step hF (by omega) (by omega)) hk⟩
    · exact stop s ps rs (by omega) hI
theorem turn_eq {F : List D → Option D} {n : Nat} (hn : n < 10000) (I : List D → List D → Nat → Prop) (h0 : I [] [] 0) (hs : ∀ ps rs s, I ps rs s → s < n → ∃ (en : Nat) (sh w : D), F [.int s] = some (.tup [.int en, sh, w]) ∧ s < en ∧ I (ps ++ [.tup [.int s, sh]]) (if isNon w then rs else rs ++ [w]) en) :
    ∃ ps rs s, I ps rs s ∧ n ≤ s ∧ ∀ d0, S_taken_in_turn d0 F [d0, .int n] = some (.tup [.lst ps, .lst rs]) := by
  obtain ⟨ps, rs, s, h1, h2, h3⟩ := turn_loop hn I hs n 0 [] [] (by omega) h0 (by simp) (by simp)
  refine ⟨ps, rs, s, h1, h2, fun d0 => ?_⟩
  obtain ⟨k, s5, s6, s7, w⟩ := h3 d0 .no .no .no
  refine sv_run ?_
  unfold B_taken_in_turn
  refine sq_setO ev_nl (sq_setO ev_nl (sq_set ev_I (sv_nx (sWhile_of w) ?_)))
  rfl
theorem gCall_of {Γ : DEnv} {S : List D → Option D} {fs : Ag} {ds : List D} (h : fs Γ = some ds) : gCall S fs Γ = S ds := by
  unfold gCall
  rw [h]
  rfl
/-- the pieces and reasons of the cut -/
theorem cut_turn {pts : List (Int × Int)} {e : Int} {F : List D → Option D} (hb : ∀ a ∈ pts, SmQ a) (ha : ∀ i j, i < j → j < pts.length → (pAt pts i).1 < (pAt pts j).1) (hl : pts.length < 10000) (he : 0 ≤ e ∧ e < 2 ^ 58) (hF : ∀ s : Nat, F [.int s] = S_longest_piece [.lst (pts.map encP), .int s, .int e]) :
    ∃ pcs rs, (∀ d0, S_taken_in_turn d0 F [d0, .int pts.length] = some (.tup [.lst (pcs.map encC), .lst (rs.map encL)])) ∧ CutOk pts e pcs rs pts.length true ∧ pcs.length ≤ pts.length := by
  have start : CutOk pts e [] [] 0 (decide (pts.length = 0)) :=
    ⟨Nat.zero_le _, fun k hk => by simp at hk, fun z => by simp at z, fun _ => rfl, fun k hk => by simp at hk, by simp, fun z => by have := of_decide_eq_true z; omega, fun z => by have := of_decide_eq_false z; omega, fun k hk => by simp at hk⟩
  obtain ⟨ps, rs, s, ⟨pcs, rl, done, rfl, rfl, ok, lp⟩, hs, hT⟩ := turn_eq (F := F) hl (fun ps rs s => ∃ pcs rl done, ps = pcs.map encC ∧ rs = rl.map encL ∧ CutOk pts e pcs rl s done ∧ pcs.length ≤ s) ⟨[], [], _, rfl, rfl, start, Nat.le_refl _⟩ (by
    rintro ps rs s ⟨pcs, rl, done, rfl, rfl, h, hp⟩ hs
    cases done with
    | true => have := h.dn rfl; omega
    | false =>
      rcases lp_eq (s := s) hb ha hl he (by omega) with ⟨l, h1, h2, _⟩ | ⟨en, l, i, j, h1, h2, h3, h4, h5, h6, h7, h8⟩
      · refine ⟨pts.length, encL l, .non, by rw [hF, h1], hs, pcs ++ [((s : Int), l)], rl, true, by rw [List.map_append]; rfl, rfl, h.put h2 hs rl true (.inl ⟨rfl, rfl, rfl⟩), by simp; omega⟩
      · refine ⟨en, encL l, encL ((i : Int), (j : Int), (en : Int)), by rw [hF, h1], h2, pcs ++ [((s : Int), l)], rl ++ [((i : Int), (j : Int), (en : Int))], false, by rw [List.map_append]; rfl, ?_, h.put h4 h2 _ false (.inr ⟨rfl, h3, i, j, rfl, h5, h6, h7, h8⟩), by simp; omega⟩
        rw [List.map_append]; rfl)
  have e1 : s = pts.length := Nat.le_antisymm ok.le hs
  subst e1
  refine ⟨pcs, rl, hT, ?_, lp⟩
  cases done with
  | true => exact ok
  | false => have := ok.nd rfl; omega
theorem cutd_eq {pts : List (Int × Int)} {e : Int} (hb : ∀ a ∈ pts, SmQ a) (ha : ∀ i j, i < j → j < pts.length → (pAt pts i).1 < (pAt pts j).1) (hl : pts.length < 10000) (he : 0 ≤ e ∧ e < 2 ^ 58) :
    ∃ pcs rs, S_cut [.lst (pts.map encP), .int e] = some (.obj 0 [.lst (pcs.map encC), .lst (rs.map encL)]) ∧ CutOk pts e pcs rs pts.length true ∧ pcs.length ≤ pts.length := by
  obtain ⟨pcs, rs, h1, ok, lp⟩ := cut_turn (F := fun es => gCall S_longest_piece (aC (gV 0) (aC (gV 4) (aC (gV 1) aN))) (capE 4 [0, 1] [.lst (pts.map encP), .int e] ++ es.map Sl.sh)) hb ha hl he (fun s => gCall_of (ev_cs (ev_V rfl) (ev_cs (ev_V rfl) (ev_cs (ev_V rfl) ev_nl))))
  refine ⟨pcs, rs, ?_, ok, lp⟩
  refine sv_run ?_
  unfold B_cut
  refine sq_unp (d := .tup [.lst (pcs.map encC), .lst (rs.map encL)]) (ev_lam1 rfl (ev_U (ev_B rfl) (by rw [d_lenL, List.length_map])) h1) rfl ?_
  rfl
/-- the height of a line with d from 1 on, by its floor -/
theorem floor_eq' (p q d x : Int) (hx : -(2 ^ 64) < x ∧ x < 2 ^ 64) (h0 : 0 < d) (hd : d < 2 ^ 64) : S_floor_at [encL (p, q, d), .int x] = some (.int ((p * x + q) / d)) := by
  refine sv_run ?_
  unfold B_floor_at
  refine sq_unp (d := encL (p, q, d)) (ev_V rfl) rfl ?_
  exact sv_ret (ev_op (ev_op (ev_op (ev_V rfl) (ev_V rfl) (d_mul (mulOk_r hx.1 hx.2))) (ev_V rfl) d_add) (ev_V rfl) (d_div h0 (log_of (k := 100) (show d.natAbs < 2 ^ 100 by omega) (by decide) (by decide))))
theorem values_eq (ns : List Int) (pl most : Int) (h0 : 0 ≤ pl) (m0 : 0 ≤ most) (m1 : most ≤ 1000) : ∃ vs : List Int, S__law_values [.scr ns, .int pl, .int most] = some (.lst (vs.map D.int)) ∧ (vs.length : Int) ≤ most ∧ ∀ v ∈ vs, -(most * 10 ^ 9) ≤ v ∧ v ≤ most * 10 ^ 9 := by
  have key : ∃ d, S__law_values [.scr ns, .int pl, .int most] = some d ∧ ∃ vs : List Int, d = .lst (vs.map D.int) ∧ (vs.length : Int) ≤ most ∧ ∀ v ∈ vs, -(most * 10 ^ 9) ≤ v ∧ v ≤ most * 10 ^ 9 := by
    refine run_W ?_
    unfold B__law_values
    walk_at "ev norm"
    refine wq_set (ev_call (ev_cs (ev_V rfl) (ev_cs (ev_V rfl) ev_nl)) (cell_eq _ _ h0)) ?_
    walk_at "ev norm"
    refine wq_set (ev_op (ev_U (ev_B rfl) rfl) (ev_op (ev_V rfl) ev_I d_add) (d_mod (by omega))) ?_
    walk_at "ev norm"
    have z0 := Int.emod_nonneg (cell ns pl.toNat) (show most + 1 ≠ 0 by omega)
    have z1 := Int.emod_lt_of_pos (cell ns pl.toNat) (show 0 < most + 1 by omega)
    generalize cell ns pl.toNat % (most + 1) = n at *
    refine wq_set (ev_op (ev_U (ev_op (ev_V rfl) (ev_op (ev_V rfl) ev_I d_add) (d_div (by omega) (log_of (k := 100) (by omega) (by decide) (by decide)))) rfl) ev_I (d_mod (by decide))) ?_
    walk_at "ev norm"
    have s0 := Int.emod_nonneg (cell ns pl.toNat / (most + 1)) (show (3 : Int) ≠ 0 by omega)
    have s1 := Int.emod_lt_of_pos (cell ns pl.toNat / (most + 1)) (show (0 : Int) < 3 by omega)
    generalize cell ns pl.toNat / (most + 1) % 3 = sty at *
    obtain ⟨mny, mm, im⟩ := ixm [19, 10 ^ 9, 13] sty s0 (by simpa using s1)
    have mb : 0 < mny ∧ mny ≤ 10 ^ 9 := by
      simp only [List.mem_cons, List.not_mem_nil, or_false] at mm
      rcases mm with rfl | rfl | rfl <;> decide
    obtain ⟨dg, hdg, ld, vd⟩ := digits_eq (cell ns (pl + 1).toNat) mny n mb.1 (by omega) z0 (by omega)
    refine wq_set (ev_call (ev_cs (ev_call (ev_cs (ev_V rfl) (ev_cs (ev_op (ev_V rfl) ev_I d_add) ev_nl)) (cell_eq _ _ (by omega))) (ev_cs (ev_op (ev_L (ev_cs ev_I (ev_cs (ev_op ev_I ev_I (d_pow (by decide))) (ev_cs ev_I ev_nl)))) (ev_V rfl) im) (ev_cs (ev_V rfl) ev_nl))) hdg) ?_
    walk_at "ev norm"
    refine wq_setO ev_nl ?_
    walk_at "ev norm"
    refine wq_set ev_I ?_
    walk_at "ev norm"
    refine wq_rng (n := n.toNat) (lo := 0) (fun k Γ => ∃ (vs : List Int) (last : Int) (s9 : Sl), vs.length = k ∧ (-(k * 10 ^ 9 : Int) ≤ last ∧ last ≤ (k * 10 ^ 9 : Int)) ∧ (∀ v ∈ vs, -(k * 10 ^ 9 : Int) ≤ v ∧ v ≤ (k * 10 ^ 9 : Int)) ∧ Γ = [.sh (.scr ns), .sh (.int pl), .sh (.int most), .sh (.int (cell ns pl.toNat)), .sh (.int n), .sh (.int sty), .sh (.lst (dg.map D.int)), .ow (vs.map D.int), .sh (.int last), s9]) (ev_rng1 (ev_cs (ev_V rfl) ev_nl) (by omega) (by omega)) ⟨[], 0, .no, rfl, by omega, by simp, rfl⟩ ?_ ?_
    · rintro k Γ hk ⟨vs, last, s9, lv, lb, vb, rfl⟩
      refine ⟨_, rfl, ?_⟩
      walk_at "ev norm"
      obtain ⟨sub, msub, isub⟩ := ixm [9, 5 * 10 ^ 8, 6] sty s0 (by simpa using s1)
      have id : dIx (.lst (dg.map D.int)) (.int (0 + (k : Nat))) = some (.int (dg.getD k 0)) := d_ixC (k := k) (by rw [List.getD_eq_getElem?_getD, List.getElem?_eq_getElem (by omega)]; rfl) (by omega)
      have hsub : 0 ≤ sub ∧ sub ≤ 10 ^ 9 := by
        simp only [List.mem_cons, List.not_mem_nil, or_false] at msub
        rcases msub with rfl | rfl | rfl <;> decide
      have hdk := vd (dg.getD k 0) (by rw [List.getD_eq_getElem?_getD, List.getElem?_eq_getElem (by omega)]; exact List.getElem_mem _)
      have rest : ∀ last' : Int, (-(k * 10 ^ 9 : Int) ≤ last' ∧ last' ≤ (k * 10 ^ 9 : Int)) → W (sSeq (sSet 8 (gOp dSub (gOp dAdd (gV 8) (gU dInt (gIx (gB 6) (gV 9)))) (gIx (gL (aC (gI 9) (aC (gOp dMul (gI 5) (gOp dPow (gI 10) (gI 8))) (aC (gI 6) aN)))) (gV 5)))) (sApp 7 [] (gV 8))) [.sh (.scr ns), .sh (.int pl), .sh (.int most), .sh (.int (cell ns pl.toNat)), .sh (.int n), .sh (.int sty), .sh (.lst (dg.map D.int)), .ow (vs.map D.int), .sh (.int last'), .sh (.int (0 + (k : Nat)))] (fun r => ∃ (vs : List Int) (last : Int) (s9 : Sl), vs.length = k + 1 ∧ (-((k + 1 : Nat) * 10 ^ 9 : Int) ≤ last ∧ last ≤ ((k + 1 : Nat) * 10 ^ 9 : Int)) ∧ (∀ v ∈ vs, -((k + 1 : Nat) * 10 ^ 9 : Int) ≤ v ∧ v ≤ ((k + 1 : Nat) * 10 ^ 9 : Int)) ∧ r = .nx [.sh (.scr ns), .sh (.int pl), .sh (.int most), .sh (.int (cell ns pl.toNat)), .sh (.int n), .sh (.int sty), .sh (.lst (dg.map D.int)), .ow (vs.map D.int), .sh (.int last), s9]) := by
        intro last' hlast
        refine wq_set (ev_op (ev_op (ev_V rfl) (ev_U (ev_op (ev_B rfl) (ev_V rfl) id) rfl) d_add) (ev_op (ev_L (ev_cs ev_I (ev_cs (ev_op ev_I (ev_op ev_I ev_I (d_pow (by decide))) (d_mul (by decide +kernel))) (ev_cs ev_I ev_nl)))) (ev_V rfl) isub) d_sub) ?_
        walk_at "ev norm"
        refine W_app (ev_V rfl) rfl (by rw [List.length_map]; omega) ⟨vs ++ [last' + dg.getD k 0 - sub], last' + dg.getD k 0 - sub, .sh (.int (0 + (k : Nat))), by simp [lv], by omega, fun v hv => ?_, ?_⟩
        · rcases List.mem_append.mp hv with z | z
          · have := vb v z
            omega
          · rw [List.mem_singleton] at z
            omega
        · rw [List.map_append]
          rfl
      refine wq_if (ev_T (ev_op (ev_B rfl) ev_I (d_eq eqOk_int eqOk_int eqd_int))) (fun _ => W_set ev_I ?_) (fun _ => W_nil ?_)
      · refine W_mono (rest 0 (by omega)) ?_
        rintro _ ⟨vs', l', s', e1, e2, e3, rfl⟩
        exact ⟨vs', l', s', e1, e2, e3, rfl⟩
      · refine W_mono (rest last lb) ?_
        rintro _ ⟨vs', l', s', e1, e2, e3, rfl⟩
        exact ⟨vs', l', s', e1, e2, e3, rfl⟩
    · rintro Γ ⟨vs, last, s9, lv, lb, vb, rfl⟩
      exact W_frz (W_ret (ev_V rfl) ⟨vs, rfl, by omega, fun v hv => by have := vb v hv; omega⟩)
  obtain ⟨_, h1, vs, rfl, h2⟩ := key
  exact ⟨vs, h1, h2⟩
theorem error_eqB (ns : List Int) (pl : Int) (vs : List Int) (h0 : 0 ≤ pl) (hb : ∀ v ∈ vs, -(2 ^ 45) < v ∧ v < 2 ^ 45) : ∃ e : Int, S__law_error_of [.scr ns, .int pl, .lst (vs.map D.int)] = some (.int e) ∧ 0 ≤ e ∧ e < 2 ^ 46 := by
  have key : ∃ d, S__law_error_of [.scr ns, .int pl, .lst (vs.map D.int)] = some d ∧ ∃ e : Int, d = .int e ∧ 0 ≤ e ∧ e < 2 ^ 46 := by
    refine run_W ?_
    unfold B__law_error_of
    walk_at "ev norm"
    refine wq_set (ev_call (ev_cs (ev_V rfl) (ev_cs (ev_V rfl) ev_nl)) (cell_eq _ _ h0)) ?_
    walk_at "ev norm"
    refine wq_ifR (ev_and (ev_T (ev_op (ev_op (ev_U (ev_B rfl) rfl) ev_I (d_mod (by decide))) ev_I (d_eq eqOk_int eqOk_int eqd_int))) (ev_T (ev_op (ev_U (ev_B rfl) (by rw [d_lenL, List.length_map])) ev_I rfl))) (fun hc => ?_) (fun _ => ?_)
    · have hp : vs ≠ [] := by
        rintro rfl
        simp at hc
      have mx := (maxI_mem hp).2 _ (minI_mem hp).1
      exact ⟨_, ev_op (ev_U (ev_op (ev_V rfl) ev_I (d_div (by decide) (by decide +kernel))) rfl) (ev_op (ev_op (ev_op (ev_U (ev_B rfl) (d_max hp)) (ev_U (ev_B rfl) (d_min hp)) d_sub) ev_I (d_div (by decide) (by decide +kernel))) ev_I d_add) (d_mod (by omega)), _, rfl, Int.emod_nonneg _ (by omega), by
        have q := Int.emod_lt_of_pos (cell ns pl.toNat / 3) (b := (maxI vs - minI vs) / 2 + 2) (by omega)
        have a1 := hb _ (maxI_mem hp).1
        have a2 := hb _ (minI_mem hp).1
        omega⟩
    · exact W_ret (ev_op (ev_U (ev_op (ev_V rfl) ev_I (d_div (by decide) (by decide +kernel))) rfl) ev_I (d_mod (by decide))) ⟨_, rfl, Int.emod_nonneg _ (by omega), by
        have q := Int.emod_lt_of_pos (cell ns pl.toNat / 3) (b := 10) (by omega)
        omega⟩
  obtain ⟨_, h1, e, rfl, h2⟩ := key
  exact ⟨e, h1, h2⟩
/-! data that are equal to themselves -/
def Okd (n : Nat) (d : D) : Prop := pyOk d = true ∧ (toPy d).canLay0 = true ∧ (toPy d).depth ≤ n
theorem okd_int (i : Int) : Okd 1 (.int i) := ⟨by simp [pyOk], by simp [toPy, PyData.canLay0], by simp [toPy, PyData.depth]⟩
theorem okd_non : Okd 1 .non := ⟨by simp [pyOk], by simp [toPy, PyData.canLay0], by simp [toPy, PyData.depth]⟩
theorem okd_all {n : Nat} : ∀ {xs : List D}, (∀ d ∈ xs, Okd n d) → pyOks xs = true ∧ PyData.canLayAll0 (toPys xs) = true ∧ PyData.depthAll (toPys xs) ≤ n
  | [], _ => ⟨rfl, rfl, by simp [toPys, PyData.depthAll]⟩
  | x :: xs, h => by
    obtain ⟨h1, h2, h3⟩ := h x List.mem_cons_self
    obtain ⟨k1, k2, k3⟩ := okd_all (xs := xs) fun d hd => h d (List.mem_cons_of_mem _ hd)
    refine ⟨?_, ?_, ?_⟩
    · rw [pyOks, h1, k1]; rfl
    · rw [toPys, PyData.canLayAll0, h2, k2]; rfl
    · rw [toPys, PyData.depthAll]; omega
theorem okd_lst {n : Nat} {xs : List D} (h : ∀ d ∈ xs, Okd n d) : Okd (n + 1) (.lst xs) := by
  obtain ⟨k1, k2, k3⟩ := okd_all h
  refine ⟨by rw [pyOk]; exact k1, by rw [toPy, PyData.canLay0]; exact k2, by rw [toPy, PyData.depth]; omega⟩
theorem okd_tup {n : Nat} {xs : List D} (h : ∀ d ∈ xs, Okd n d) : Okd (n + 1) (.tup xs) := by
  obtain ⟨k1, k2, k3⟩ := okd_all h
  refine ⟨by rw [pyOk]; exact k1, by rw [toPy, PyData.canLay0]; exact k2, by rw [toPy, PyData.depth]; omega⟩
theorem okd_map {α : Type} {n : Nat} {f : α → D} (h : ∀ a, Okd n (f a)) (xs : List α) : Okd (n + 1) (.lst (xs.map f)) := okd_lst fun d hd => by
  obtain ⟨a, _, rfl⟩ := List.mem_map.mp hd
  exact h a
theorem okd_eq {n : Nat} {d : D} (h : Okd n d) (hn : n < 60) : eqOk d = true ∧ eqd d d = true := by
  obtain ⟨h1, h2, h3⟩ := h
  refine ⟨?_, ?_⟩
  · unfold eqOk SeqAt.shaped
    rw [h2, h1]
    simp
    omega
  · unfold eqd
    exact SeqAt.eqv_refl _ h2
theorem ne_same {n : Nat} {d : D} (h : Okd n d) (hn : n < 60) : dNe d d = some (.bl false) := by
  obtain ⟨h1, h2⟩ := okd_eq h hn
  exact d_ne (bb := true) h1 h1 h2
theorem eq_same {n : Nat} {d : D} (h : Okd n d) (hn : n < 60) : dEq d d = some (.bl true) := by
  obtain ⟨h1, h2⟩ := okd_eq h hn
  exact d_eq (bb := true) h1 h1 h2
theorem wq_appX {F' : Sm} {Γ : DEnv} {P : Res → Prop} {sx : Sx} {f : Ex} {xs : List D} {d : D} (h : sx Γ = some (.ow xs)) (hf : f Γ = some d) (hl : xs.length < 1000000) (k : W F' Γ P) : W (sSeq (sAppX sx f) F') Γ P := by
  refine W_seq ⟨.nx Γ, ?_, k⟩
  unfold sAppX
  rw [h]
  show ((f Γ).bind fun _ => if xs.length < 1000000 then some (Res.nx Γ) else none) = _
  rw [hf]
  show (if xs.length < 1000000 then some (Res.nx Γ) else none) = _
  rw [if_pos hl]
theorem wq_appXi {F' : Sm} {Γ : DEnv} {P : Res → Prop} {sx : Sx} {f : Ex} {ss : List Sl} {i : Int} {xs : List D} {d : D} (h : sx Γ = some (.ol ss)) (hi : atI ss i = some (.ow xs)) (hf : f Γ = some d) (hl : xs.length < 1000000) (k : W F' Γ P) : W (sSeq (sAppXi sx i f) F') Γ P := by
  refine W_seq ⟨.nx Γ, ?_, k⟩
  unfold sAppXi
  rw [h]
  show ((atI ss i).bind _) = _
  rw [hi]
  show ((f Γ).bind fun _ => if xs.length < 1000000 then some (Res.nx Γ) else none) = _
  rw [hf]
  show (if xs.length < 1000000 then some (Res.nx Γ) else none) = _
  rw [if_pos hl]
theorem sv_ext0 {i : Nat} {f : Ag} {Γ : DEnv} {xs ds : List D} (h : f Γ = some ds) (h1 : Γ[i]? = some (.ow xs)) (h2 : xs.length + ds.length < 1000000) : sExt i [] f Γ = some (.nx (Γ.set i (.ow (xs ++ ds)))) := by
  unfold sExt
  rw [h]
  show (match gP i [] Γ with | some (.ow xs) => if xs.length + ds.length < 1000000 then upP i [] (.ow (xs ++ ds)) Γ else none | _ => none) = _
  have e : gP i [] Γ = some (.ow xs) := by unfold gP; rw [h1]; rfl
  rw [e]
  show (if xs.length + ds.length < 1000000 then upP i [] (.ow (xs ++ ds)) Γ else none) = _
  rw [if_pos h2]
  unfold upP
  rw [h1]
  rfl
theorem mk_at {c : Nat} {S : Sl → List D → Option (D × Sl)} {fs : Ag} {Γ : DEnv} {ds : List D} {d : D} (h : fs Γ = some ds) (h2 : nD (gMk c S (fun _ => some ds)) [] = some d) : nD (gMk c S fs) Γ = some d := by
  unfold nD gMk at h2 ⊢
  rw [h]
  exact h2
/-! the floors of the lines of pieces -/
theorem parts_nil {pcs : D} {a b : Int} (h : b ≤ a) : S_parts [pcs, .int a, .int b] = some (.lst []) := by
  refine run_Weq ?_
  unfold B_parts
  refine wq_setO ev_nl ?_
  refine W_seq (W_if (b := true) (ev_T (ev_op (ev_V rfl) (ev_V rfl) (by show some (D.bl (decide (a ≥ b))) = _; rw [decide_eq_true (by omega)]))) (fun _ => ?_) fun z => by cases z)
  refine W_frz ?_
  exact W_ret (ev_V rfl) rfl
def lnD (pcs : List (Int × Int × Int × Int)) (t : Nat) : Prop := 1 ≤ (lnAt pcs t).2.2 ∧ (lnAt pcs t).2.2 < 2 ^ 64
def floV (l : Int × Int × Int) (x : Int) : Int := (l.1 * x + l.2.1) / l.2.2
theorem floV_eq (l : Int × Int × Int) (x : Int) (hx : -(2 ^ 64) < x ∧ x < 2 ^ 64) (h1 : 1 ≤ l.2.2) (h2 : l.2.2 < 2 ^ 64) : S_floor_at [encL l, .int x] = some (.int (floV l x)) := by
  obtain ⟨p, q, d⟩ := l
  exact floor_eq' p q d x hx (by simp only at h1; omega) h2
theorem at_uniq {pcs : List (Int × Int × Int × Int)} (h : PcOk pcs) {x : Int} {s t : Nat} (a : At pcs x s) (b : At pcs x t) : s = t := by
  have key : ∀ {s t : Nat}, At pcs x s → At pcs x t → ¬ s < t := fun {s t} a b z => by
    have a1 := a.nx (by have := b.lt; omega)
    have a2 := h.mono (s + 1) t (by omega) b.lt
    have := b.le
    omega
  have := key a b
  have := key b a
  omega
theorem floors_eq {pcs : List (Int × Int × Int × Int)} (h : PcOk pcs) {n : Nat} (hn : n < 10000) (hp : 0 < n → 0 < pcs.length) (hs : ∀ k, k < pcs.length → stAt pcs k < n) (hd : ∀ t, t < pcs.length → lnD pcs t) :
    ∃ fl : List Int, S_floors_over [.lst (pcs.map encC), .int n] = some (.lst (fl.map D.int)) ∧ fl.length = n ∧ ∀ (k t : Nat), k < n → At pcs k t → fl[k]? = some (floV (lnAt pcs t) k) := by
  by_cases hz : n = 0
  · subst hz
    refine ⟨[], ?_, rfl, fun k t hk => by omega⟩
    refine run_Weq ?_
    unfold B_floors_over
    refine wq_setO ev_nl ?_
    refine wq_for (ds := []) (fun _ Γ => Γ = [.sh (.lst (pcs.map encC)), .sh (.int (0 : Nat)), .ow [], .no, .no, .no, .no]) (ev_it (ev_call (ev_cs (ev_V rfl) (ev_cs ev_I (ev_cs (ev_V rfl) ev_nl))) (parts_nil (by decide)))) rfl (fun k d Γ hd => by simp at hd) ?_
    rintro Γ rfl
    refine W_frz ?_
    exact W_ret (ev_V rfl) rfl
  · have hp := hp (by omega)
    have hpl := h.len
    have T0 : At pcs 0 0 := ⟨hp, by rw [h.st0 hp]; exact Int.le_refl _, fun z => by have := h.up 0 z; rw [h.st0 hp] at this; exact this⟩
    have hparts := parts_eq h (a := 0) (b := n) (t := 0) (m := pcs.length) (by omega) T0 (by omega) (Nat.le_refl _) (fun k hk => hs k hk) (fun z => by omega)
    -- where the piece k ends
    let en : Nat → Nat := fun k => if k < pcs.length then (stAt pcs k).toNat else n
    have pt : ∀ k, k < pcs.length → ptF pcs 0 n k = ((en k : Int), (en (k + 1) : Int), lnAt pcs k) := fun k hk => by
      unfold ptF
      have n1 := h.nn k hk
      show (_, _, _) = (((if k < pcs.length then (stAt pcs k).toNat else n : Nat) : Int), ((if k + 1 < pcs.length then (stAt pcs (k + 1)).toNat else n : Nat) : Int), lnAt pcs k)
      rw [if_pos hk]
      congr 1
      · split <;> omega
      · congr 1
        by_cases z : k + 1 < pcs.length
        · have n2 := h.nn (k + 1) z
          have := hs (k + 1) z
          rw [if_pos z, if_pos z, if_pos this]
          exact n2
        · rw [if_neg z, if_neg z]
    have eup : ∀ k, k < pcs.length → en k < en (k + 1) := fun k hk => by
      show (if k < pcs.length then (stAt pcs k).toNat else n) < (if k + 1 < pcs.length then (stAt pcs (k + 1)).toNat else n)
      rw [if_pos hk]
      have n1 := h.nn k hk
      by_cases z : k + 1 < pcs.length
      · have n2 := h.nn (k + 1) z
        have := h.up k z
        rw [if_pos z]
        omega
      · have := hs k hk
        rw [if_neg z]
        omega
    have e0 : en 0 = 0 := by
      show (if 0 < pcs.length then (stAt pcs 0).toNat else n) = 0
      rw [if_pos hp, h.st0 hp]
      rfl
    have eN : en pcs.length = n := if_neg (Nat.lt_irrefl _)
    have ele : ∀ k, k ≤ pcs.length → en k ≤ n := fun k hk => by
      show (if k < pcs.length then (stAt pcs k).toNat else n) ≤ n
      split
      · rename_i z
        have := hs k z
        omega
      · exact Nat.le_refl _
    have atk : ∀ k x, k < pcs.length → en k ≤ x → x < en (k + 1) → At pcs x k := fun k x hk h1 h2 => by
      have h1 : (if k < pcs.length then (stAt pcs k).toNat else n) ≤ x := h1
      rw [if_pos hk] at h1
      have n1 := h.nn k hk
      refine ⟨hk, by omega, fun z => ?_⟩
      have h2 : x < (if k + 1 < pcs.length then (stAt pcs (k + 1)).toNat else n) := h2
      rw [if_pos z] at h2
      have n2 := h.nn (k + 1) z
      omega
    have main : ∃ d, S_floors_over [.lst (pcs.map encC), .int n] = some d ∧ ∃ fl : List Int, d = .lst (fl.map D.int) ∧ fl.length = n ∧ ∀ (k t : Nat), k < n → At pcs k t → fl[k]? = some (floV (lnAt pcs t) k) := by
      refine run_W ?_
      unfold B_floors_over
      refine wq_setO ev_nl ?_
      refine wq_map (enc := encPt) (xs := (List.range (pcs.length - 0)).map fun j => ptF pcs 0 n (0 + j)) (fun k Γ => ∃ (fl : List Int) (s3 s4 s5 s6 : Sl), Γ = [.sh (.lst (pcs.map encC)), .sh (.int n), .ow (fl.map D.int), s3, s4, s5, s6] ∧ k ≤ pcs.length ∧ fl.length = en k ∧ ∀ (x t : Nat), x < en k → At pcs x t → fl[x]? = some (floV (lnAt pcs t) x)) (ev_it (ev_call (ev_cs (ev_V rfl) (ev_cs ev_I (ev_cs (ev_V rfl) ev_nl))) hparts)) ⟨[], _, _, _, _, rfl, Nat.zero_le _, e0.symm, fun x t hx => by omega⟩ ?_ ?_
      · rintro k c Γ hc ⟨fl, s3, s4, s5, s6, rfl, hk, hfl, hall⟩
        have hkl : k < pcs.length := by
          have := (List.getElem?_eq_some_iff.mp hc).1
          simp at this
          omega
        have ec : c = ptF pcs 0 n k := by
          rw [List.getElem?_map, List.getElem?_range (by omega)] at hc
          simp at hc
          exact hc.symm
        subst ec
        rw [pt k hkl]
        refine ⟨_, rfl, ?_⟩
        have up := eup k hkl
        have le1 := ele (k + 1) hkl
        have hD := hd k hkl
        refine ⟨_, sv_ext0 (ds := (((List.range (en (k + 1) - en k)).map fun (j : Nat) => floV (lnAt pcs k) ((en k + j : Nat) : Int)).map D.int)) (ev_lc (ds := (List.range (en (k + 1) - en k)).map fun (j : Nat) => D.int ((en k + j : Nat) : Int)) ?_ (by simp; omega) ?_) rfl (by simp; omega), ?_⟩
        · rw [ev_rng2 (m := en k) (j := en (k + 1)) (ev_cs (ev_V rfl) (ev_cs (ev_V rfl) ev_nl)) (by omega) (by omega) (by omega) (by omega)]
          have e1 : ((en (k + 1) : Int) - en k).toNat = en (k + 1) - en k := by omega
          rw [e1]
          congr 1
        · rw [List.map_map]
          refine compL_map _ _ _ fun j hj => ?_
          have hj := List.mem_range.mp hj
          refine ⟨_, rfl, ev_call (ev_cs (ev_V rfl) (ev_cs (ev_V rfl) ev_nl)) ?_⟩
          exact floV_eq (lnAt pcs k) _ (by omega) hD.1 hD.2
        · have em : fl.map D.int ++ ((List.range (en (k + 1) - en k)).map fun (j : Nat) => floV (lnAt pcs k) ((en k + j : Nat) : Int)).map D.int = (fl ++ (List.range (en (k + 1) - en k)).map fun (j : Nat) => floV (lnAt pcs k) ((en k + j : Nat) : Int)).map D.int := by rw [List.map_append]
          rw [em]
          refine ⟨_, _, _, _, _, rfl, by omega, by simp; omega, fun x t hx hT => ?_⟩
          by_cases z : x < en k
          · rw [List.getElem?_append_left (by omega)]
            exact hall x t z hT
          · have et := at_uniq h hT (atk k x hkl (by omega) hx)
            subst et
            rw [List.getElem?_append_right (by omega), hfl, List.getElem?_map, List.getElem?_range (by omega)]
            have : en t + (x - en t) = x := by omega
            show some (floV (lnAt pcs t) ((en t + (x - en t) : Nat) : Int)) = _
            rw [this]
      · rintro Γ ⟨fl, s3, s4, s5, s6, rfl, hk, hfl, hall⟩
        refine W_frz ?_
        have ek : ((List.range (pcs.length - 0)).map fun j => ptF pcs 0 n (0 + j)).length = pcs.length := by simp
        rw [ek, eN] at hfl
        rw [ek, eN] at hall
        exact W_ret (ev_V rfl) ⟨fl, rfl, hfl, hall⟩
    obtain ⟨_, h1, fl, rfl, h2, h3⟩ := main
    exact ⟨fl, h1, h2, h3⟩
/-- the longest pieces of the cut -/
theorem sts_at {pcs : List (Int × Int × Int × Int)} {k : Nat} (hk : k < pcs.length) : ((stsOf pcs).map Int.toNat).getD k 0 = (stAt pcs k).toNat := by
  unfold stAt
  have h : k < (stsOf pcs).length := by rw [stsOf_len]; exact hk
  rw [List.getD_eq_getElem?_getD, List.getElem?_map, List.getD_eq_getElem?_getD, List.getElem?_eq_getElem h]
  rfl
theorem CutOk.pcOk {pts : List (Int × Int)} {e : Int} {pcs : List (Int × Int × Int × Int)} {rs : List (Int × Int × Int)} (ok : CutOk pts e pcs rs pts.length true) (hl : pcs.length < 10000) : PcOk pcs := by
  refine ⟨fun k hk => ?_, ok.st0, fun k hk => ?_, hl⟩
  · have := ok.st k hk
    omega
  · have a := (ok.pc k (by omega)).2
    rw [if_pos hk] at a
    have := ok.st k (by omega)
    have := ok.st (k + 1) hk
    omega
theorem points_of_eq (vs : List Int) : S_points_of [.lst (vs.map D.int)] = some (.lst ((ptsV vs).map encP)) := by
  refine run_Weq ?_
  unfold B_points_of
  show W _ [.sh (.lst (vs.map D.int))] _
  refine W_ret (ev_L ?_) rfl
  unfold gEnum
  rw [ev_cs (ev_V rfl) ev_nl]
  show some (enumD 0 (vs.map D.int)) = _
  rw [enumD_ints]
/-- a coded list: its pieces and what corrects their floors -/
structure Cod (vs : List Int) (e : Int) (pcs : List (Int × Int × Int × Int)) (rs : List (Int × Int × Int)) (fl : List Int) : Prop where
  ok : CutOk (ptsV vs) e pcs rs (ptsV vs).length true
  pk : PcOk pcs
  lt : ∀ k, k < pcs.length → stAt pcs k < vs.length
  ne : 0 < vs.length → 0 < pcs.length
  flo : S_floors_over [.lst (pcs.map encC), .int vs.length] = some (.lst (fl.map D.int))
  len : fl.length = vs.length
  at_ : ∀ (k t : Nat), k < vs.length → At pcs k t → fl[k]? = some (floV (lnAt pcs t) k)
def corr (vs fl : List Int) : List Int := (List.range vs.length).map fun k => wAt vs k - wAt fl k
def codD (vs fl : List Int) (pcs : List (Int × Int × Int × Int)) : D := .obj 12 [.lst (pcs.map encC), .lst ((corr vs fl).map D.int)]
theorem zipD_ints (xs ys : List Int) (h : xs.length = ys.length) : zipD (xs.map D.int) (ys.map D.int) = (List.range xs.length).map fun k => D.tup [.int (wAt xs k), .int (wAt ys k)] := by
  refine List.ext_getElem? fun k => ?_
  by_cases hk : k < xs.length
  · have h1 : k < (zipD (xs.map D.int) (ys.map D.int)).length := by rw [zipD_len, List.length_map, List.length_map]; omega
    have e1 := List.getElem?_eq_getElem h1
    obtain ⟨x, y, g1, g2, e2⟩ := zipD_get e1
    rw [List.getElem?_map, wAt_get hk] at g1
    rw [List.getElem?_map, wAt_get (vs := ys) (by omega)] at g2
    cases g1
    cases g2
    rw [e1, e2, List.getElem?_map, List.getElem?_range hk]
    rfl
  · rw [List.getElem?_eq_none (by rw [zipD_len, List.length_map, List.length_map]; omega), List.getElem?_eq_none (by simp; omega)]
theorem coded_eq {vs : List Int} {e : Int} (hb : SmVal vs) (hl : vs.length < 1000) (he : 0 ≤ e ∧ e < 2 ^ 46) : ∃ pcs rs fl, nD (gMk 12 S_Coded___init__ (fun _ => some [.lst (vs.map D.int), .int e])) [] = some (codD vs fl pcs) ∧ Cod vs e pcs rs fl := by
  have sm : ∀ a ∈ ptsV vs, SmQ a := fun a ha => smq (ptsV_sm hl hb a ha)
  have asc : ∀ i j, i < j → j < (ptsV vs).length → (pAt (ptsV vs) i).1 < (pAt (ptsV vs) j).1 := fun i j h1 h2 => by
    rw [ptsV_len] at h2
    rw [pAtV (k := i) (by omega), pAtV h2]
    show (i : Int) < j
    omega
  obtain ⟨pcs, rs, hc, ok, lp⟩ := cutd_eq (e := e) sm asc (by rw [ptsV_len]; omega) (by omega)
  have pk := ok.pcOk (by rw [ptsV_len] at lp; omega)
  have lt : ∀ k, k < pcs.length → stAt pcs k < vs.length := fun k hk => by
    have := ok.st k hk
    rw [ptsV_len] at this
    omega
  have ne : 0 < vs.length → 0 < pcs.length := fun h => Nat.pos_of_ne_zero fun z => by
    have := ok.z z
    rw [ptsV_len] at this
    omega
  obtain ⟨fl, h1, h2, h3⟩ := floors_eq pk (n := vs.length) (by omega) ne lt fun t ht => ⟨(ok.pc t ht).1.d, by have := (ok.pc t ht).1.du.1; omega⟩
  refine ⟨pcs, rs, fl, ?_, ok, pk, lt, ne, h1, h2, h3⟩
  have lP : dLen (.lst (vs.map D.int)) = some (.int vs.length) := by rw [d_lenL, List.length_map]
  have hB : B_Coded___init__ [.ob 12 [], .sh (.lst (vs.map D.int)), .sh (.int e), .no, .no, .no] = some (.nx [.ob 12 [.sh (.lst (pcs.map encC)), .sh (.lst ((corr vs fl).map D.int))], .sh (.lst (vs.map D.int)), .sh (.int e), .sh (.lst (fl.map D.int)), .no, .no]) := by
    unfold B_Coded___init__
    refine sv_nx (Γ1 := [.ob 12 [.sh (.lst (pcs.map encC))], .sh (.lst (vs.map D.int)), .sh (.int e), .no, .no, .no]) ?_ ?_
    · have e1 : gU (dFld 0 0) (gCall S_cut (aC (gCall S_points_of (aC (gV 1) aN)) (aC (gV 2) aN))) [.ob 12 [], .sh (.lst (vs.map D.int)), .sh (.int e), .no, .no, .no] = some (.lst (pcs.map encC)) := ev_U (ev_call (ev_cs (ev_call (ev_cs (ev_V rfl) ev_nl) (points_of_eq vs)) (ev_cs (ev_V rfl) ev_nl)) hc) rfl
      show ((nSh _ [.ob 12 [], .sh (.lst (vs.map D.int)), .sh (.int e), .no, .no, .no]).bind _) = _
      unfold nSh
      rw [e1]
      rfl
    refine sv_nx (Γ1 := [.ob 12 [.sh (.lst (pcs.map encC))], .sh (.lst (vs.map D.int)), .sh (.int e), .sh (.lst (fl.map D.int)), .no, .no]) (sv_set (ev_call (ev_cs (d := .lst (pcs.map encC)) rfl (ev_cs (ev_U (ev_B rfl) lP) ev_nl)) h1)) ?_
    have e2 : gL (gLc [4, 5] (gZip (aC (gV 1) (aC (gV 3) aN))) (gTg 2 (gTo (gN 4) (gTo (gN 5) gEnd))) gYes (gOp dSub (gV 4) (gV 5))) [.ob 12 [.sh (.lst (pcs.map encC))], .sh (.lst (vs.map D.int)), .sh (.int e), .sh (.lst (fl.map D.int)), .no, .no] = some (.lst ((corr vs fl).map D.int)) := by
      refine ev_L (ev_lc (ds := (List.range vs.length).map fun k => D.tup [.int (wAt vs k), .int (wAt fl k)]) ?_ (by simp; omega) ?_)
      · unfold gZip
        rw [ev_cs (ev_V rfl) (ev_cs (ev_V rfl) ev_nl)]
        show some (zipD (vs.map D.int) (fl.map D.int)) = _
        rw [zipD_ints vs fl h2.symm]
      · unfold corr
        rw [List.map_map]
        exact compL_map _ _ _ fun k _ => ⟨_, rfl, ev_op (ev_V rfl) (ev_V rfl) d_sub⟩
    show ((nSh _ [.ob 12 [.sh (.lst (pcs.map encC))], .sh (.lst (vs.map D.int)), .sh (.int e), .sh (.lst (fl.map D.int)), .no, .no]).bind _) = _
    unfold nSh
    rw [e2]
    rfl
  show (((S_Coded___init__ (.ob 12 []) [.lst (vs.map D.int), .int e]).bind _).bind toD) = _
  unfold S_Coded___init__ runM
  show ((((B_Coded___init__ [.ob 12 [], .sh (.lst (vs.map D.int)), .sh (.int e), .no, .no, .no]).bind _).bind _).bind toD) = _
  rw [hB]
  rfl
/-! Euclid by turns -/
def gcdT (x : Nat × Nat) : Nat × Nat := if 0 < x.2 then (x.2, x.1 % x.2) else x
def gcdN : Nat → Nat × Nat → Nat × Nat
  | 0, x => x
  | n + 1, x => gcdT (gcdN n x)
theorem gcdT_gcd (x : Nat × Nat) : Nat.gcd (gcdT x).1 (gcdT x).2 = Nat.gcd x.1 x.2 := by
  unfold gcdT
  split
  · show Nat.gcd x.2 (x.1 % x.2) = _
    rw [Nat.gcd_comm x.1 x.2, Nat.gcd_comm x.2 (x.1 % x.2), ← Nat.gcd_rec]
  · rfl
theorem gcdN_gcd : ∀ n (x : Nat × Nat), Nat.gcd (gcdN n x).1 (gcdN n x).2 = Nat.gcd x.1 x.2
  | 0, _ => rfl
  | n + 1, x => by rw [gcdN, gcdT_gcd, gcdN_gcd n x]
theorem gcdT_two (x : Nat × Nat) {b : Nat} (h : x.2 < 2 * b) : (gcdT (gcdT x)).2 < b ∨ (gcdT (gcdT x)).2 = 0 := by
  obtain ⟨l, r⟩ := x
  simp only at h
  unfold gcdT
  by_cases hr : 0 < r
  · rw [if_pos hr]
    by_cases hm : 0 < l % r
    · rw [if_pos hm]
      refine .inl ?_
      show r % (l % r) < b
      have h1 := Nat.mod_lt l hr
      have h2 := Nat.mod_lt r hm
      by_cases c : 2 * (l % r) ≤ r
      · omega
      · have : r % (l % r) = r - l % r := by
          rw [Nat.mod_eq_sub_mod (by omega), Nat.mod_eq_of_lt (by omega)]
        omega
    · rw [if_neg hm]
      exact .inr (by show l % r = 0; omega)
  · rw [if_neg hr]
    show (if 0 < r then (r, l % r) else (l, r)).2 < b ∨ (if 0 < r then (r, l % r) else (l, r)).2 = 0
    rw [if_neg hr]
    exact .inr (by show r = 0; omega)
theorem gcdN_small : ∀ n (x : Nat × Nat), x.2 < 2 ^ n → (gcdN (2 * n) x).2 = 0 := by
  intro n
  have key : ∀ m (x : Nat × Nat) k, x.2 < 2 ^ (k + m) → (gcdN (2 * m) x).2 < 2 ^ k ∨ (gcdN (2 * m) x).2 = 0 := by
    intro m
    induction m with
    | zero => exact fun x k h => .inl h
    | succ m ih =>
      intro x k h
      have h2 := ih x (k + 1) (by rw [show k + 1 + m = k + (m + 1) by omega]; exact h)
      show (gcdT (gcdT (gcdN (2 * m) x))).2 < 2 ^ k ∨ (gcdT (gcdT (gcdN (2 * m) x))).2 = 0
      rcases h2 with h2 | h2
      · exact gcdT_two _ (by rw [Nat.pow_succ] at h2; omega)
      · refine .inr ?_
        have e : gcdT (gcdN (2 * m) x) = gcdN (2 * m) x := by unfold gcdT; rw [if_neg (by omega)]
        rw [e, e]
        exact h2
  intro x h
  rcases key n x 0 (by rw [Nat.zero_add]; exact h) with z | z
  · omega
  · exact z
theorem gcdN_val {n : Nat} {x : Nat × Nat} (h : x.2 < 2 ^ n) : (gcdN (2 * n) x).1 = Nat.gcd x.1 x.2 := by
  have h1 := gcdN_gcd (2 * n) x
  rw [gcdN_small n x h, Nat.gcd_zero_right] at h1
  exact h1
/-! which lines the law calls reduced -/
def RedL (l : Int × Int × Int) : Prop := 1 ≤ l.2.2 ∧ l.2.2 < 2 ^ 200 ∧ (-(2 ^ 200) < l.2.1 ∧ l.2.1 < 2 ^ 200) ∧ Nat.gcd (Nat.gcd l.1.natAbs l.2.1.natAbs) l.2.2.natAbs = 1
theorem abs_nat (x : Int) : absI x = (x.natAbs : Int) := by unfold absI; split <;> omega
theorem turn_int (x : Nat × Nat) (h : 0 < x.2) : ((x.1 : Int) % (x.2 : Int)) = ((gcdT x).2 : Int) ∧ ((x.2 : Nat) : Int) = ((gcdT x).1 : Int) := by
  unfold gcdT
  rw [if_pos h]
  exact ⟨(Int.natCast_emod _ _).symm, rfl⟩
theorem reds_eq {ps : List (Int × Int × Int × Int)} (hp : ∀ c ∈ ps, RedL c.2) : S__law_are_reduced [.lst (ps.map encC)] = some (.bl true) := by
  refine run_Weq ?_
  unfold B__law_are_reduced
  show W _ [.sh (.lst (ps.map encC)), .no, .no, .no, .no, .no, .no, .no, .no, .no] _
  refine wq_map (enc := encC) (xs := ps) (fun _ Γ => ∃ s1 s2 s3 s4 s5 s6 s7 s8 s9, Γ = [.sh (.lst (ps.map encC)), s1, s2, s3, s4, s5, s6, s7, s8, s9]) (ev_it (ev_V rfl)) ⟨_, _, _, _, _, _, _, _, _, rfl⟩ ?_ ?_
  · rintro j c Γ hj ⟨s1, s2, s3, s4, s5, s6, s7, s8, s9, rfl⟩
    obtain ⟨d1, d2, qb, g1⟩ := hp c (List.mem_of_getElem? hj)
    obtain ⟨st, p, q, d⟩ := c
    simp only at d1 d2 qb g1
    refine ⟨[.sh (.lst (ps.map encC)), .sh (encC (st, p, q, d)), s2, s3, s4, s5, s6, s7, s8, s9], rfl, ?_⟩
    refine wq_unp (d := encL (p, q, d)) (ev_op (ev_B rfl) ev_I rfl) (Γ1 := [.sh (.lst (ps.map encC)), .sh (encC (st, p, q, d)), .sh (.int p), .sh (.int q), .sh (.int d), s5, s6, s7, s8, s9]) rfl ?_
    refine wq_set (d := .int (p.natAbs : Nat)) (ev_U (ev_B rfl) (by rw [← abs_nat]; rfl)) ?_
    refine wq_set (d := .int (q.natAbs : Nat)) (ev_U (ev_B rfl) (by rw [← abs_nat]; rfl)) ?_
    show W _ [.sh (.lst (ps.map encC)), .sh (encC (st, p, q, d)), .sh (.int p), .sh (.int q), .sh (.int d), .sh (.int (p.natAbs : Nat)), .sh (.int (q.natAbs : Nat)), s7, s8, s9] _
    refine wq_rng (n := 400) (lo := 0) (fun k Γ => ∃ s7 s9, Γ = [.sh (.lst (ps.map encC)), .sh (encC (st, p, q, d)), .sh (.int p), .sh (.int q), .sh (.int d), .sh (.int ((gcdN k (p.natAbs, q.natAbs)).1 : Nat)), .sh (.int ((gcdN k (p.natAbs, q.natAbs)).2 : Nat)), s7, s8, s9]) (ev_rng1 (m := 400) (ev_cs ev_I ev_nl) (by omega) (by omega)) ⟨_, _, rfl⟩ ?_ ?_
    · rintro k Γ hk ⟨s7, s9, rfl⟩
      refine ⟨[.sh (.lst (ps.map encC)), .sh (encC (st, p, q, d)), .sh (.int p), .sh (.int q), .sh (.int d), .sh (.int ((gcdN k (p.natAbs, q.natAbs)).1 : Nat)), .sh (.int ((gcdN k (p.natAbs, q.natAbs)).2 : Nat)), .sh (.int (0 + (k : Nat))), s8, s9], rfl, ?_⟩
      show W _ _ (bodyP (fun Γ => ∃ s7 s9, Γ = [.sh (.lst (ps.map encC)), .sh (encC (st, p, q, d)), .sh (.int p), .sh (.int q), .sh (.int d), .sh (.int ((gcdT (gcdN k (p.natAbs, q.natAbs))).1 : Nat)), .sh (.int ((gcdT (gcdN k (p.natAbs, q.natAbs))).2 : Nat)), s7, s8, s9]) _)
      generalize gcdN k (p.natAbs, q.natAbs) = x
      refine W_if (b := decide ((x.2 : Int) > 0)) (ev_T (ev_op (ev_V rfl) ev_I rfl)) (fun z => ?_) (fun z => W_nil ⟨.sh (.int (0 + (k : Nat))), s9, ?_⟩)
      · have z : 0 < x.2 := by have := of_decide_eq_true z; omega
        obtain ⟨t1, t2⟩ := turn_int x z
        refine wq_set (d := .int ((gcdT x).2 : Nat)) (by rw [← t1]; exact ev_op (ev_U (ev_B rfl) rfl) (ev_V rfl) (d_mod (by omega))) ?_
        refine wq_set (d := .int ((gcdT x).1 : Nat)) (by rw [← t2]; exact ev_V rfl) ?_
        exact W_set (ev_V rfl) ⟨_, _, rfl⟩
      · have z : ¬ 0 < x.2 := by have := of_decide_eq_false z; omega
        have e : gcdT x = x := by unfold gcdT; rw [if_neg z]
        rw [e]
    rintro Γ ⟨s7, s9, rfl⟩
    have v1 : (gcdN 400 (p.natAbs, q.natAbs)).1 = Nat.gcd p.natAbs q.natAbs := gcdN_val (n := 200) (x := (p.natAbs, q.natAbs)) (by show q.natAbs < 2 ^ 200; omega)
    rw [v1]
    refine wq_set (d := .int (d.natAbs : Nat)) (by rw [show ((d.natAbs : Nat) : Int) = d by omega]; exact ev_V rfl) ?_
    generalize (gcdN 400 (p.natAbs, q.natAbs)).2 = y
    show W _ [.sh (.lst (ps.map encC)), .sh (encC (st, p, q, d)), .sh (.int p), .sh (.int q), .sh (.int d), .sh (.int (Nat.gcd p.natAbs q.natAbs : Nat)), .sh (.int (y : Nat)), s7, .sh (.int (d.natAbs : Nat)), s9] _
    refine wq_rng (n := 400) (lo := 0) (fun k Γ => ∃ s7 s9, Γ = [.sh (.lst (ps.map encC)), .sh (encC (st, p, q, d)), .sh (.int p), .sh (.int q), .sh (.int d), .sh (.int ((gcdN k (Nat.gcd p.natAbs q.natAbs, d.natAbs)).1 : Nat)), .sh (.int (y : Nat)), s7, .sh (.int ((gcdN k (Nat.gcd p.natAbs q.natAbs, d.natAbs)).2 : Nat)), s9]) (ev_rng1 (m := 400) (ev_cs ev_I ev_nl) (by omega) (by omega)) ⟨_, _, rfl⟩ ?_ ?_
    · rintro k Γ hk ⟨s7, s9, rfl⟩
      refine ⟨[.sh (.lst (ps.map encC)), .sh (encC (st, p, q, d)), .sh (.int p), .sh (.int q), .sh (.int d), .sh (.int ((gcdN k (Nat.gcd p.natAbs q.natAbs, d.natAbs)).1 : Nat)), .sh (.int (y : Nat)), .sh (.int (0 + (k : Nat))), .sh (.int ((gcdN k (Nat.gcd p.natAbs q.natAbs, d.natAbs)).2 : Nat)), s9], rfl, ?_⟩
      show W _ _ (bodyP (fun Γ => ∃ s7 s9, Γ = [.sh (.lst (ps.map encC)), .sh (encC (st, p, q, d)), .sh (.int p), .sh (.int q), .sh (.int d), .sh (.int ((gcdT (gcdN k (Nat.gcd p.natAbs q.natAbs, d.natAbs))).1 : Nat)), .sh (.int (y : Nat)), s7, .sh (.int ((gcdT (gcdN k (Nat.gcd p.natAbs q.natAbs, d.natAbs))).2 : Nat)), s9]) _)
      generalize gcdN k (Nat.gcd p.natAbs q.natAbs, d.natAbs) = x
      refine W_if (b := decide ((x.2 : Int) > 0)) (ev_T (ev_op (ev_V rfl) ev_I rfl)) (fun z => ?_) (fun z => W_nil ⟨.sh (.int (0 + (k : Nat))), s9, ?_⟩)
      · have z : 0 < x.2 := by have := of_decide_eq_true z; omega
        obtain ⟨t1, t2⟩ := turn_int x z
        refine wq_set (d := .int ((gcdT x).2 : Nat)) (by rw [← t1]; exact ev_op (ev_U (ev_B rfl) rfl) (ev_V rfl) (d_mod (by omega))) ?_
        refine wq_set (d := .int ((gcdT x).1 : Nat)) (by rw [← t2]; exact ev_V rfl) ?_
        exact W_set (ev_V rfl) ⟨_, _, rfl⟩
      · have z : ¬ 0 < x.2 := by have := of_decide_eq_false z; omega
        have e : gcdT x = x := by unfold gcdT; rw [if_neg z]
        rw [e]
    rintro Γ ⟨s7, s9, rfl⟩
    have v2 : (gcdN 400 (Nat.gcd p.natAbs q.natAbs, d.natAbs)).1 = 1 := (gcdN_val (n := 200) (x := (Nat.gcd p.natAbs q.natAbs, d.natAbs)) (by show d.natAbs < 2 ^ 200; omega)).trans g1
    rw [v2]
    refine W_ifR (b := false) (ev_or (b := false) (c := false) (ev_T (ev_op (ev_B rfl) ev_I (d_ne eqOk_int eqOk_int (bb := true) (eqd_int.trans (by simp))))) (ev_T (ev_op (ev_V rfl) ev_I (by show some (D.bl (decide (d < 1))) = _; rw [decide_eq_false (by omega)])))) (fun z => by cases z) (fun _ => ⟨_, _, _, _, _, _, _, _, _, rfl⟩)
  · rintro Γ ⟨s1, s2, s3, s4, s5, s6, s7, s8, s9, rfl⟩
    exact W_ret ev_C rfl
/-! reduced lines, whatever the divisor -/
theorem red_eqB (p q d : Int) (h0 : 0 < d) (hd : d < 2 ^ 200) : S_reduced [.tup [.int p, .int q, .int d]] = some (.tup [.int (p / gg p q d), .int (q / gg p q d), .int (d / gg p q d)]) := by
  have g0 : 0 < gg p q d := by
    unfold gg
    have : 0 < Nat.gcd ((Nat.gcd p.natAbs q.natAbs : Nat) : Int).natAbs d.natAbs := Nat.gcd_pos_of_pos_right _ (by omega)
    omega
  have g1 : gg p q d < 2 ^ 200 := by
    unfold gg
    have := Nat.gcd_le_right (m := ((Nat.gcd p.natAbs q.natAbs : Nat) : Int).natAbs) (n := d.natAbs) (by omega)
    omega
  refine sv_run ?_
  unfold B_reduced
  walk_at "ev norm"
  walk_at "ev st"
  refine sq_set (d := .int (gg p q d)) (ev_A (ev_cs (ev_A (ev_cs (ev_V rfl) (ev_cs (ev_V rfl) ev_nl)) rfl) (ev_cs (ev_V rfl) ev_nl)) rfl) ?_
  walk_at "ev norm"
  have lg : (gg p q d).natAbs.log2 < 9000 := log_of (k := 200) (by omega) (by decide) (by decide)
  exact sv_ret (ev_tu (ev_cs (ev_op (ev_V rfl) (ev_V rfl) (d_div g0 lg)) (ev_cs (ev_op (ev_V rfl) (ev_V rfl) (d_div g0 lg)) (ev_cs (ev_op (ev_V rfl) (ev_V rfl) (d_div g0 lg)) ev_nl))))
theorem red1 (p q d : Int) (h0 : 0 < d) (hd : d < 2 ^ 200) : ∃ k p' q' d', 0 < k ∧ p = k * p' ∧ q = k * q' ∧ d = k * d' ∧ 0 < d' ∧ Nat.gcd (Nat.gcd p'.natAbs q'.natAbs) d'.natAbs = 1 ∧ S_reduced [encL (p, q, d)] = some (encL (p', q', d')) := by
  have h := red_eqB p q d h0 hd
  obtain ⟨⟨p', hp⟩, ⟨q', hq⟩, ⟨d', hdd⟩⟩ := gg_dvd p q d
  have hg : gg p q d = ((Nat.gcd (Nat.gcd p.natAbs q.natAbs) d.natAbs : Nat) : Int) := by unfold gg; rw [Int.natAbs_natCast]
  have g0 : 0 < gg p q d := by
    rw [hg]
    have : 0 < Nat.gcd (Nat.gcd p.natAbs q.natAbs) d.natAbs := Nat.gcd_pos_of_pos_right _ (by omega)
    omega
  generalize gg p q d = g at *
  obtain ⟨n, rfl⟩ := Int.eq_ofNat_of_zero_le (Int.le_of_lt g0)
  have e1 : p / n = p' := by rw [hp]; exact Int.mul_ediv_cancel_left _ (by omega)
  have e2 : q / n = q' := by rw [hq]; exact Int.mul_ediv_cancel_left _ (by omega)
  have e3 : d / n = d' := by rw [hdd]; exact Int.mul_ediv_cancel_left _ (by omega)
  rw [e1, e2, e3] at h
  refine ⟨n, p', q', d', g0, hp, hq, hdd, Int.pos_of_mul_pos_right (by rw [← hdd]; exact h0) g0, ?_, h⟩
  have hn : n = Nat.gcd (Nat.gcd p.natAbs q.natAbs) d.natAbs := by omega
  have a1 : p.natAbs = n * p'.natAbs := by rw [hp, Int.natAbs_mul, Int.natAbs_natCast]
  have a2 : q.natAbs = n * q'.natAbs := by rw [hq, Int.natAbs_mul, Int.natAbs_natCast]
  have a3 : d.natAbs = n * d'.natAbs := by rw [hdd, Int.natAbs_mul, Int.natAbs_natCast]
  rw [a1, a2, a3, Nat.gcd_mul_left, Nat.gcd_mul_left] at hn
  have n0 : 0 < n := by omega
  exact Nat.eq_of_mul_eq_mul_left n0 (by rw [Nat.mul_one]; exact hn.symm)
/-! sums of lines, lines that are moved -/
theorem le_div {k y : Int} (hk : 0 < k) : y.natAbs ≤ (k * y).natAbs := by
  rw [Int.natAbs_mul]
  exact Nat.le_mul_of_pos_left _ (by omega)
theorem red_of {p q d : Int} (h0 : 0 < d) (hd : d < 2 ^ 200) (hq : q.natAbs < 2 ^ 200) : ∃ l : Int × Int × Int, S_reduced [encL (p, q, d)] = some (encL l) ∧ RedL l ∧ l.2.2 ≤ d ∧ ∀ x : Int, (l.1 * x + l.2.1) * d = (p * x + q) * l.2.2 := by
  obtain ⟨k, p', q', d', k0, e1, e2, e3, d0, g1, hr⟩ := red1 p q d h0 hd
  have b1 := le_div (y := q') k0
  rw [← e2] at b1
  have b2 := le_div (y := d') k0
  rw [← e3] at b2
  refine ⟨(p', q', d'), hr, ⟨by show 1 ≤ d'; omega, by show d' < 2 ^ 200; omega, by show -(2 ^ 200) < q' ∧ q' < 2 ^ 200; omega, g1⟩, by show d' ≤ d; omega, fun x => ?_⟩
  show (p' * x + q') * d = (p * x + q) * d'
  rw [e1, e2, e3]
  grind
theorem sum_eq {a b : Int × Int × Int} (ha : 1 ≤ a.2.2 ∧ SmL a) (hb : 1 ≤ b.2.2 ∧ SmL b) : ∃ l : Int × Int × Int, S_line_sum [encL a, encL b] = some (encL l) ∧ RedL l ∧ l.2.2 < 2 ^ 60 ∧ ∀ x : Int, (l.1 * x + l.2.1) * (a.2.2 * b.2.2) = ((a.1 * x + a.2.1) * b.2.2 + (b.1 * x + b.2.1) * a.2.2) * l.2.2 := by
  obtain ⟨p, q, d⟩ := a
  obtain ⟨r, s, c⟩ := b
  obtain ⟨d1, d2, q2, p2⟩ := ha
  obtain ⟨c1, c2, s2, r2⟩ := hb
  simp only at d1 d2 q2 c1 c2 s2
  clear p2 r2
  have m1 := mul_bd (x := q) (y := c) (A := 2 ^ 100) (B := 2 ^ 30) (by omega) (by omega)
  have m2 := mul_bd (x := s) (y := d) (A := 2 ^ 100) (B := 2 ^ 30) (by omega) (by omega)
  have m3 := mul_bd (x := d) (y := c) (A := 2 ^ 30 - 1) (B := 2 ^ 30 - 1) (by omega) (by omega)
  have dc : 0 < d * c := Int.mul_pos (by omega) (by omega)
  obtain ⟨l, hl, R, ld, hx⟩ := red_of (p := p * c + r * d) (q := q * c + s * d) (d := d * c) dc (by omega) (by omega)
  refine ⟨l, ?_, R, by omega, fun x => ?_⟩
  · refine run_Weq ?_
    unfold B_line_sum
    show W _ [.sh (encL (p, q, d)), .sh (encL (r, s, c)), .no, .no, .no, .no, .no, .no] _
    refine wq_unp (d := encL (p, q, d)) (ev_V rfl) (Γ1 := [.sh (encL (p, q, d)), .sh (encL (r, s, c)), .sh (.int p), .sh (.int q), .sh (.int d), .no, .no, .no]) rfl ?_
    refine wq_unp (d := encL (r, s, c)) (ev_V rfl) (Γ1 := [.sh (encL (p, q, d)), .sh (encL (r, s, c)), .sh (.int p), .sh (.int q), .sh (.int d), .sh (.int r), .sh (.int s), .sh (.int c)]) rfl ?_
    exact W_ret (ev_call (ds := [encL (p * c + r * d, q * c + s * d, d * c)]) (ev_cs (ev_tu (ev_cs (ev_op (ev_op (ev_V rfl) (ev_V rfl) (d_mul (mulOk_r (by omega) (by omega)))) (ev_op (ev_V rfl) (ev_V rfl) (d_mul (mulOk_r (by omega) (by omega)))) d_add) (ev_cs (ev_op (ev_op (ev_V rfl) (ev_V rfl) (d_mul (mulOk_r (by omega) (by omega)))) (ev_op (ev_V rfl) (ev_V rfl) (d_mul (mulOk_r (by omega) (by omega)))) d_add) (ev_cs (ev_op (ev_V rfl) (ev_V rfl) (d_mul (mulOk_r (by omega) (by omega)))) ev_nl)))) ev_nl) hl) rfl
  · have := hx x
    show (l.1 * x + l.2.1) * (d * c) = ((p * x + q) * c + (r * x + s) * d) * l.2.2
    rw [this]
    grind
theorem moved_eq {a : Int × Int × Int} (ha : 1 ≤ a.2.2 ∧ SmL a) {o : Int} (ho : -(2 ^ 60) < o ∧ o < 2 ^ 60) : ∃ l : Int × Int × Int, S_moved [encL a, .int o] = some (encL l) ∧ RedL l ∧ l.2.2 ≤ a.2.2 ∧ ∀ x : Int, (l.1 * x + l.2.1) * a.2.2 = (a.1 * (x - o) + a.2.1) * l.2.2 := by
  obtain ⟨p, q, d⟩ := a
  obtain ⟨d1, d2, q2, p2⟩ := ha
  simp only at d1 d2 q2 p2
  have hp : (q - p * o).natAbs < 2 ^ 200 := by
    have := mul_bd (x := p) (y := o) (A := 2 ^ 60) (B := 2 ^ 60) (by omega) (by omega)
    omega
  obtain ⟨l, hl, R, ld, hx⟩ := red_of (p := p) (q := q - p * o) (d := d) (by omega) (by omega) hp
  refine ⟨l, ?_, R, ld, fun x => ?_⟩
  · refine run_Weq ?_
    unfold B_moved
    show W _ [.sh (encL (p, q, d)), .sh (.int o), .no, .no, .no] _
    refine wq_unp (d := encL (p, q, d)) (ev_V rfl) (Γ1 := [.sh (encL (p, q, d)), .sh (.int o), .sh (.int p), .sh (.int q), .sh (.int d)]) rfl ?_
    exact W_ret (ev_call (ds := [encL (p, q - p * o, d)]) (ev_cs (ev_tu (ev_cs (ev_V rfl) (ev_cs (ev_op (ev_V rfl) (ev_op (ev_V rfl) (ev_V rfl) (d_mul (mulOk_r (by omega) (by omega)))) d_sub) (ev_cs (ev_V rfl) ev_nl)))) ev_nl) hl) rfl
  · have := hx x
    show (l.1 * x + l.2.1) * d = (p * (x - o) + q) * l.2.2
    rw [this]
    grind
/-! lists of pieces told by their starts and lines -/
theorem st_get {ps : List (Int × Int × Int × Int)} {k : Nat} {c : Int × Int × Int × Int} (h : ps[k]? = some c) : stAt ps k = c.1 ∧ lnAt ps k = c.2 := by
  simp [stAt, stsOf, lnAt, h]
theorem pk_of {ps : List (Int × Int × Int × Int)} {s : Nat → Nat} (hs : ∀ k, k < ps.length → stAt ps k = (s k : Nat)) (s0 : s 0 = 0) (up : ∀ k, k + 1 < ps.length → s k < s (k + 1)) (hl : ps.length < 10000) : PcOk ps := by
  refine ⟨fun k hk => by rw [hs k hk, Int.toNat_natCast], fun h => by rw [hs 0 h, s0]; rfl, fun k hk => ?_, hl⟩
  have := up k hk
  rw [hs k (by omega), hs (k + 1) hk]
  omega
theorem sts_get {ps : List (Int × Int × Int × Int)} {k : Nat} (hk : k < ps.length) : (stsOf ps)[k]? = some (stAt ps k) := by
  simp [stAt, stsOf, hk]
structure Gp (ps : List (Int × Int × Int × Int)) : Prop where
  pk : PcOk ps
  ne : 0 < ps.length
  le : ps.length ≤ 12
  sm : ∀ k, k < ps.length → 1 ≤ (lnAt ps k).2.2 ∧ SmL (lnAt ps k)
theorem compL_rel {gs : Gs} {f : Ex} {Γ : DEnv} {α β : Type} {u : α → D} {enc : β → D} : ∀ (xs : List α) (R : Nat → β → Prop) (h : ∀ k a, xs[k]? = some a → ∃ Γ1 v, gs (u a) Γ = some Γ1 ∧ f Γ1 = some (enc v) ∧ R k v), ∃ vs : List β, compL gs gYes f (xs.map u) Γ = some (vs.map enc) ∧ vs.length = xs.length ∧ ∀ k v, vs[k]? = some v → R k v
  | [], _, _ => ⟨[], rfl, rfl, fun k v h => by simp at h⟩
  | a :: xs, R, h => by
    obtain ⟨Γ1, v, h1, h2, h3⟩ := h 0 a rfl
    obtain ⟨vs, h4, h5, h6⟩ := compL_rel xs (fun k => R (k + 1)) fun k b hb => h (k + 1) b hb
    refine ⟨v :: vs, ?_, by simp [h5], fun k w hw => ?_⟩
    · rw [List.map_cons]
      show (gs (u a) Γ).bind _ = _
      rw [h1]
      show (f Γ1).bind _ = _
      rw [h2]
      show (compL gs gYes f (xs.map u) Γ).bind _ = _
      rw [h4]
      rfl
    · cases k with
      | zero => cases hw; exact h3
      | succ k => exact h6 k w hw
theorem line_at_eq {ps : List (Int × Int × Int × Int)} (h : PcOk ps) {x : Int} {t : Nat} (T : At ps x t) : S__law_line_at [.lst (ps.map encC), .int x] = some (encL (lnAt ps t)) := by
  refine run_Weq ?_
  unfold B__law_line_at
  refine wq_set ev_C ?_
  refine wq_map (enc := encC) (xs := ps) (fun k Γ => ∃ (d : D) (s3 : Sl), Γ = [.sh (.lst (ps.map encC)), .sh (.int x), .sh d, s3] ∧ (0 < k → d = encL (lnAt ps (min (k - 1) t)))) (ev_it (ev_V rfl)) ⟨_, _, rfl, fun z => by omega⟩ ?_ ?_
  · rintro k c Γ hc ⟨d, s3, rfl, hd⟩
    obtain ⟨e1, e2⟩ := st_get hc
    have hk : k < ps.length := (List.getElem?_eq_some_iff.mp hc).1
    refine ⟨[.sh (.lst (ps.map encC)), .sh (.int x), .sh d, .sh (encC c)], rfl, ?_⟩
    refine W_if (b := decide (c.1 ≤ x)) (ev_T (ev_op (ev_op (ev_B rfl) ev_I rfl) (ev_V rfl) rfl)) (fun z => ?_) fun z => ?_
    · have z := of_decide_eq_true z
      refine W_set (d := encL c.2) (ev_op (ev_B rfl) ev_I rfl) ⟨_, _, rfl, fun _ => ?_⟩
      have : k ≤ t := Nat.le_of_not_lt fun w => by
        have a1 := T.nx (by omega)
        have a2 := h.mono (t + 1) k (by omega) hk
        omega
      have e : min (k + 1 - 1) t = k := by omega
      rw [e, e2]
    · have z := of_decide_eq_false z
      refine W_nil ⟨_, _, rfl, fun _ => ?_⟩
      have tk : t < k := Nat.lt_of_not_le fun w => by
        have a2 := h.mono k t w T.lt
        have := T.le
        omega
      rw [hd (by omega)]
      have e1 : min (k - 1) t = t := by omega
      have e2 : min (k + 1 - 1) t = t := by omega
      rw [e1, e2]
  · rintro Γ ⟨d, s3, rfl, hd⟩
    have := T.lt
    have e : min (ps.length - 1) t = t := by omega
    rw [hd (by omega), e]
    exact W_ret (ev_V rfl) rfl
theorem is_height_eq {l : Int × Int × Int} {x n v : Int} (h : (l.1 * x + l.2.1) * v = n * l.2.2) (hx : -(2 ^ 62) < x ∧ x < 2 ^ 62) (hv : -(2 ^ 62) < v ∧ v < 2 ^ 62) (hd : -(2 ^ 62) < l.2.2 ∧ l.2.2 < 2 ^ 62) : S__law_is_height [encL l, .int x, .int n, .int v] = some (.bl true) := by
  obtain ⟨p, q, d⟩ := l
  simp only at h hd
  refine run_Weq ?_
  unfold B__law_is_height
  show W _ [.sh (encL (p, q, d)), .sh (.int x), .sh (.int n), .sh (.int v)] _
  refine W_ret (ev_bl (b := true) (ev_and (b := true) (c := true) (ev_T (ev_op (ev_B rfl) ev_C rfl)) (ev_T (ev_op (x := .int ((p * x + q) * v)) (y := .int (n * d)) (ev_op (ev_op (ev_op (ev_op (ev_B rfl) ev_I rfl) (ev_V rfl) (d_mul (mulOk_r (by omega) (by omega)))) (ev_op (ev_B rfl) ev_I rfl) d_add) (ev_V rfl) (d_mul (mulOk_r (by omega) (by omega)))) (ev_op (x := .int n) (y := .int d) (ev_V rfl) (ev_op (ev_B rfl) ev_I rfl) (d_mul (mulOk_r (by omega) (by omega)))) (by rw [h]; exact eq_same (okd_int _) (by omega)))))) rfl
theorem line_over_eq {ps : List (Int × Int × Int × Int)} (h : PcOk ps) {x : Int} {t : Nat} (T : At ps x t) : S_line_over [.lst (ps.map encC), .int x] = some (encL (lnAt ps t)) := by
  refine run_Weq ?_
  unfold B_line_over
  exact W_ret (ev_op (ev_op (ev_B rfl) (ev_call (ev_cs (ev_V rfl) (ev_cs (ev_V rfl) ev_nl)) (piece_at_eq h T)) (pc_ix T.lt rfl)) ev_I rfl) rfl
theorem scaled_eq {ps : List (Int × Int × Int × Int)} (G : Gp ps) {f : Int} (hf : -5 ≤ f ∧ f ≤ 5) : ∃ qs : List (Int × Int × Int × Int), S_scaled [.lst (ps.map encC), .int f] = some (.lst (qs.map encC)) ∧ qs.length = ps.length ∧ (∀ k, k < ps.length → stAt qs k = stAt ps k) ∧ (∀ c ∈ qs, RedL c.2) ∧ ∀ k, k < ps.length → (lnAt qs k).2.2 < 2 ^ 60 ∧ ∀ x : Int, ((lnAt qs k).1 * x + (lnAt qs k).2.1) * (lnAt ps k).2.2 = (f * ((lnAt ps k).1 * x + (lnAt ps k).2.1)) * (lnAt qs k).2.2 := by
  have hlp := G.le
  have hc : ∃ vs : List (Int × Int × Int × Int), compL (gTg 2 (gTo (gN 2) (gTo (gTg 3 (gTo (gN 3) (gTo (gN 4) (gTo (gN 5) gEnd)))) gEnd))) gYes (gTu 2 (aC (gV 2) (aC (gCall S_reduced (aC (gTu 3 (aC (gOp dMul (gV 3) (gV 1)) (aC (gOp dMul (gV 4) (gV 1)) (aC (gV 5) aN)))) aN)) aN))) (ps.map encC) [.sh (.lst (ps.map encC)), .sh (.int f), .no, .no, .no, .no] = some (vs.map encC) ∧ vs.length = ps.length ∧ ∀ k v, vs[k]? = some v → v.1 = stAt ps k ∧ RedL v.2 ∧ v.2.2.2 < 2 ^ 60 ∧ ∀ x : Int, (v.2.1 * x + v.2.2.1) * (lnAt ps k).2.2 = (f * ((lnAt ps k).1 * x + (lnAt ps k).2.1)) * v.2.2.2 := by
    refine compL_rel ps _ fun k c hc => ?_
    obtain ⟨e1, e2⟩ := st_get hc
    have hk : k < ps.length := (List.getElem?_eq_some_iff.mp hc).1
    obtain ⟨d1, d2, q2, p2⟩ := G.sm k hk
    obtain ⟨st, p, q, d⟩ := c
    rw [e2] at d1 d2 q2 p2
    simp only at d1 d2 q2 p2
    have bq : (q * f).natAbs < 2 ^ 200 := by
      have := mul_bd (x := q) (y := f) (A := 2 ^ 100) (B := 5) (by omega) (by omega)
      omega
    obtain ⟨l, hl, R, ld, hx⟩ := red_of (p := p * f) (q := q * f) (d := d) (by omega) (by omega) bq
    refine ⟨[.sh (.lst (ps.map encC)), .sh (.int f), .sh (.int st), .sh (.int p), .sh (.int q), .sh (.int d)], (st, l), rfl, ?_, e1.symm, R, by show l.2.2 < 2 ^ 60; omega, fun x => ?_⟩
    · exact ev_tu (ev_cs (ev_V rfl) (ev_cs (ev_call (ev_cs (ev_tu (ev_cs (ev_op (ev_V rfl) (ev_V rfl) (d_mul (mulOk_r (by omega) (by omega)))) (ev_cs (ev_op (ev_V rfl) (ev_V rfl) (d_mul (mulOk_r (by omega) (by omega)))) (ev_cs (ev_V rfl) ev_nl)))) ev_nl) hl) ev_nl))
    · rw [e2]
      have := hx x
      show (l.1 * x + l.2.1) * d = (f * (p * x + q)) * l.2.2
      rw [this]
      grind
  obtain ⟨vs, h1, h2, h3⟩ := hc
  refine ⟨vs, ?_, h2, fun k hk => ?_, fun c hc => ?_, fun k hk => ?_⟩
  · refine run_Weq ?_
    unfold B_scaled
    exact W_ret (ev_L (ev_lc (ds := ps.map encC) (ev_it (ev_V rfl)) (by simp; omega) h1)) rfl
  · have := pc_get vs (k := k) (by omega)
    exact (h3 k _ this).1
  · obtain ⟨k, hk⟩ := List.mem_iff_getElem?.mp hc
    exact (h3 k c hk).2.1
  · have := h3 k _ (pc_get vs (k := k) (by omega))
    exact ⟨this.2.2.1, this.2.2.2⟩
theorem at_same {ps qs : List (Int × Int × Int × Int)} (hl : qs.length = ps.length) (hs : ∀ k, k < ps.length → stAt qs k = stAt ps k) {x : Int} {t : Nat} (T : At ps x t) : At qs x t := by
  have := T.lt
  refine ⟨by omega, by rw [hs t T.lt]; exact T.le, fun z => ?_⟩
  rw [hs (t + 1) (by omega)]
  exact T.nx (by omega)
theorem pk_same {ps qs : List (Int × Int × Int × Int)} (h : PcOk ps) (hl : qs.length = ps.length) (hs : ∀ k, k < ps.length → stAt qs k = stAt ps k) : PcOk qs := by
  refine ⟨fun k hk => ?_, fun hk => ?_, fun k hk => ?_, by rw [hl]; exact h.len⟩
  · rw [hs k (by omega)]; exact h.nn k (by omega)
  · rw [hs 0 (by omega)]; exact h.st0 (by omega)
  · rw [hs k (by omega), hs (k + 1) (by omega)]; exact h.up k (by omega)
theorem sts_same {ps qs : List (Int × Int × Int × Int)} (hl : qs.length = ps.length) (hs : ∀ k, k < ps.length → stAt qs k = stAt ps k) : stsOf qs = stsOf ps := by
  refine List.ext_getElem? fun k => ?_
  by_cases hk : k < ps.length
  · rw [sts_get (by omega), sts_get hk, hs k hk]
  · rw [List.getElem?_eq_none (by rw [stsOf_len]; omega), List.getElem?_eq_none (by rw [stsOf_len]; omega)]
open DL27
/-! added: the starts of both -/
theorem sts_asc {ps : List (Int × Int × Int × Int)} (h : PcOk ps) : (stsOf ps).Pairwise (· < ·) := by
  refine List.pairwise_iff_getElem.mpr fun i j hi hj hij => ?_
  rw [stsOf_len] at hi hj
  have a1 := List.getElem?_eq_getElem (l := stsOf ps) (i := i) (by rw [stsOf_len]; exact hi)
  have a2 := List.getElem?_eq_getElem (l := stsOf ps) (i := j) (by rw [stsOf_len]; exact hj)
  rw [sts_get hi] at a1
  rw [sts_get hj] at a2
  rw [← Option.some.inj a1, ← Option.some.inj a2]
  have b1 := h.up i (by omega)
  have b2 := h.mono (i + 1) j (by omega) hj
  omega
theorem sts_nodup {ps : List (Int × Int × Int × Int)} (h : PcOk ps) : (stsOf ps).Nodup := (sts_asc h).imp fun h => Int.ne_of_lt h
theorem sts_mem {ps : List (Int × Int × Int × Int)} {s : Int} : s ∈ stsOf ps ↔ ∃ k, k < ps.length ∧ s = stAt ps k := by
  constructor
  · intro h
    obtain ⟨k, hk⟩ := List.mem_iff_getElem?.mp h
    have hl : k < ps.length := by
      have := (List.getElem?_eq_some_iff.mp hk).1
      rwa [stsOf_len] at this
    rw [sts_get hl] at hk
    exact ⟨k, hl, (Option.some.inj hk).symm⟩
  · rintro ⟨k, hk, rfl⟩
    exact List.mem_iff_getElem?.mpr ⟨k, sts_get hk⟩
def bothS (ps qs : List (Int × Int × Int × Int)) : List Int := srt (dedup (stsOf ps ++ stsOf qs))
theorem bothS_mem {ps qs : List (Int × Int × Int × Int)} {s : Int} : s ∈ bothS ps qs ↔ s ∈ stsOf ps ∨ s ∈ stsOf qs := by
  unfold bothS
  rw [(srt_perm _).mem_iff, dedup_mem, List.mem_append]
theorem bothS_asc (ps qs : List (Int × Int × Int × Int)) : (bothS ps qs).Pairwise (· < ·) := by
  have h1 := srt_le (dedup (stsOf ps ++ stsOf qs))
  have h2 : (bothS ps qs).Nodup := (srt_perm _).nodup_iff.mpr (dedup_nodup _)
  unfold bothS at h2 ⊢
  refine (List.pairwise_and_iff.mpr ⟨h1, h2⟩).imp fun h => by
    have := h.1
    have := h.2
    omega
theorem bothS_len (ps qs : List (Int × Int × Int × Int)) : (bothS ps qs).length ≤ ps.length + qs.length := by
  have h2 : (bothS ps qs).Nodup := (srt_perm _).nodup_iff.mpr (dedup_nodup _)
  have := h2.length_le_of_subset (l₂ := stsOf ps ++ stsOf qs) fun s hs => List.mem_append.mpr (bothS_mem.mp hs)
  rw [List.length_append, stsOf_len, stsOf_len] at this
  exact this
theorem bothS_law {ps qs : List (Int × Int × Int × Int)} (hp : PcOk ps) (hq : PcOk qs) : srt (stsOf ps ++ (stsOf qs).filter fun k => !decide (k ∈ stsOf ps)) = bothS ps qs := by
  have nd : (stsOf ps ++ (stsOf qs).filter fun k => !decide (k ∈ stsOf ps)).Nodup := by
    rw [List.nodup_append]
    refine ⟨sts_nodup hp, (sts_nodup hq).filter _, fun x hx y hy e => ?_⟩
    subst e
    have := (List.mem_filter.mp hy).2
    simp [hx] at this
  unfold bothS
  refine srt_unique ?_ (srt_le _) (srt_le _)
  refine ((srt_perm _).trans ?_).trans (srt_perm _).symm
  refine (List.perm_ext_iff_of_nodup nd (dedup_nodup _)).mpr fun k => ?_
  rw [dedup_mem, List.mem_append, List.mem_append, List.mem_filter]
  constructor
  · rintro (h | h)
    · exact .inl h
    · exact .inr h.1
  · rintro (h | h)
    · exact .inl h
    · by_cases z : k ∈ stsOf ps
      · exact .inl z
      · exact .inr ⟨h, by simp [z]⟩
/-- what the piece of a sum says -/
def SumP (ps qs : List (Int × Int × Int × Int)) (v : Int × Int × Int × Int) : Prop := ∃ i j, At ps v.1 i ∧ At qs v.1 j ∧ RedL v.2 ∧ v.2.2.2 < 2 ^ 60 ∧ ∀ x : Int, (v.2.1 * x + v.2.2.1) * ((lnAt ps i).2.2 * (lnAt qs j).2.2) = (((lnAt ps i).1 * x + (lnAt ps i).2.1) * (lnAt qs j).2.2 + ((lnAt qs j).1 * x + (lnAt qs j).2.1) * (lnAt ps i).2.2) * v.2.2.2
theorem added_eq {ps qs : List (Int × Int × Int × Int)} (P : Gp ps) (Q : Gp qs) : ∃ ws : List (Int × Int × Int × Int), S_added [.lst (ps.map encC), .lst (qs.map encC)] = some (.lst (ws.map encC)) ∧ stsOf ws = bothS ps qs ∧ ∀ c ∈ ws, SumP ps qs c := by
  have lp := P.le
  have lq := Q.le
  have bl := bothS_len ps qs
  have hc : ∃ vs : List (Int × Int × Int × Int), compL (gN 3) gYes (gTu 2 (aC (gV 3) (aC (gCall S_line_sum (aC (gCall S_line_over (aC (gV 0) (aC (gV 3) aN))) (aC (gCall S_line_over (aC (gV 1) (aC (gV 3) aN))) aN))) aN))) ((bothS ps qs).map D.int) [.sh (.lst (ps.map encC)), .sh (.lst (qs.map encC)), .sh (.lst ((bothS ps qs).map D.int)), .no, .no] = some (vs.map encC) ∧ vs.length = (bothS ps qs).length ∧ ∀ (k : Nat) (v : Int × Int × Int × Int), vs[k]? = some v → (bothS ps qs)[k]? = some v.1 ∧ SumP ps qs v := by
    refine compL_rel (bothS ps qs) _ fun k s hs => ?_
    have s0 : 0 ≤ s := by
      have hm := List.mem_iff_getElem?.mpr ⟨k, hs⟩
      rcases bothS_mem.mp hm with h | h
      · obtain ⟨i, hi, rfl⟩ := sts_mem.mp h
        have := P.pk.nn i hi
        omega
      · obtain ⟨i, hi, rfl⟩ := sts_mem.mp h
        have := Q.pk.nn i hi
        omega
    obtain ⟨i, A⟩ := at_ex P.pk P.ne s0
    obtain ⟨j, B⟩ := at_ex Q.pk Q.ne s0
    obtain ⟨l, hl, R, l60, hx⟩ := sum_eq (P.sm i A.lt) (Q.sm j B.lt)
    refine ⟨_, (s, l), rfl, ?_, hs, i, j, A, B, R, l60, hx⟩
    exact ev_tu (ev_cs (ev_V rfl) (ev_cs (ev_call (ev_cs (ev_call (ev_cs (ev_V rfl) (ev_cs (ev_V rfl) ev_nl)) (line_over_eq P.pk A)) (ev_cs (ev_call (ev_cs (ev_V rfl) (ev_cs (ev_V rfl) ev_nl)) (line_over_eq Q.pk B)) ev_nl)) hl) ev_nl))
  obtain ⟨vs, h1, h2, h3⟩ := hc
  refine ⟨vs, ?_, List.ext_getElem? fun k => ?_, fun c hc => ?_⟩
  · refine run_Weq ?_
    unfold B_added
    have e1 : gL (gLc [3, 4] (gIt (gOp dAdd (gV 0) (gV 1))) (gTg 2 (gTo (gN 3) (gTo (gN 4) gEnd))) gYes (gV 3)) [.sh (.lst (ps.map encC)), .sh (.lst (qs.map encC)), .no, .no, .no] = some (.lst ((stsOf ps ++ stsOf qs).map D.int)) := by
      have e2 : (stsOf ps ++ stsOf qs).map D.int = (ps ++ qs).map fun c => D.int c.1 := by
        unfold stsOf
        rw [← List.map_append, List.map_map]
        rfl
      rw [e2]
      exact ev_L (ev_lc (ds := (ps ++ qs).map encC) (ev_it (ev_op (ev_V rfl) (ev_V rfl) (d_cat (by omega)))) (by simp; omega) (compL_map _ _ _ fun c _ => ⟨_, rfl, ev_V rfl⟩))
    have e3 : dSortedSet (.lst ((stsOf ps ++ stsOf qs).map D.int)) = some ((bothS ps qs).map D.int) := by
      have hi : dInts (.lst ((stsOf ps ++ stsOf qs).map D.int)) = some (stsOf ps ++ stsOf qs) := ints?_map _
      unfold dSortedSet
      rw [hi]
      show (if _ then _ else _) = _
      have l1 : (stsOf ps ++ stsOf qs).length < 4000 := by rw [List.length_append, stsOf_len, stsOf_len]; omega
      have l2 : (dedup (stsOf ps ++ stsOf qs)).length < 64 := by
        have := (srt_perm (dedup (stsOf ps ++ stsOf qs))).length_eq
        unfold bothS at bl
        omega
      rw [if_pos ⟨l1, l2⟩]
      rfl
    refine wq_set (d := .lst ((bothS ps qs).map D.int)) (ev_L (ev_UL e1 e3)) ?_
    exact W_ret (ev_L (ev_lc (ds := (bothS ps qs).map D.int) (ev_it (ev_V rfl)) (by simp; omega) h1)) rfl
  · by_cases hk : k < vs.length
    · obtain ⟨g1, _⟩ := h3 k _ (pc_get vs hk)
      rw [sts_get hk, g1]
    · rw [List.getElem?_eq_none (by rw [stsOf_len]; omega), List.getElem?_eq_none (by omega)]
  · obtain ⟨k, hk⟩ := List.mem_iff_getElem?.mp hc
    exact (h3 k c hk).2
/-- the pieces of the sum are pieces -/
theorem both_pk {ps qs ws : List (Int × Int × Int × Int)} (P : Gp ps) (Q : Gp qs) (hs : stsOf ws = bothS ps qs) : PcOk ws ∧ 0 < ws.length := by
  have lw : ws.length = (bothS ps qs).length := by rw [← hs, stsOf_len]
  have bl := bothS_len ps qs
  have lp := P.le
  have lq := Q.le
  have z0 : (0 : Int) ∈ bothS ps qs := bothS_mem.mpr (.inl (sts_mem.mpr ⟨0, P.ne, (P.pk.st0 P.ne).symm⟩))
  have w0 : 0 < ws.length := by rw [lw]; exact List.length_pos_of_mem z0
  have nn : ∀ k, k < ws.length → 0 ≤ stAt ws k := fun k hk => by
    have hm : stAt ws k ∈ bothS ps qs := by rw [← hs]; exact sts_mem.mpr ⟨k, hk, rfl⟩
    rcases bothS_mem.mp hm with h | h
    · obtain ⟨i, hi, e⟩ := sts_mem.mp h
      have := P.pk.nn i hi
      omega
    · obtain ⟨i, hi, e⟩ := sts_mem.mp h
      have := Q.pk.nn i hi
      omega
  have asc : ∀ i j, i < j → j < ws.length → stAt ws i < stAt ws j := fun i j hij hj => by
    have h := bothS_asc ps qs
    rw [← hs] at h
    have := List.pairwise_iff_getElem.mp h i j (by rw [stsOf_len]; omega) (by rw [stsOf_len]; omega) hij
    have a1 := List.getElem?_eq_getElem (l := stsOf ws) (i := i) (by rw [stsOf_len]; omega)
    have a2 := List.getElem?_eq_getElem (l := stsOf ws) (i := j) (by rw [stsOf_len]; omega)
    rw [sts_get (by omega)] at a1
    rw [sts_get hj] at a2
    rw [← Option.some.inj a1, ← Option.some.inj a2] at this
    exact this
  refine ⟨⟨fun k hk => by have := nn k hk; omega, fun _ => ?_, fun k hk => asc k (k + 1) (by omega) hk, by omega⟩, w0⟩
  rw [← hs] at z0
  obtain ⟨k, hk, e⟩ := sts_mem.mp z0
  have n0 := nn 0 w0
  by_cases c : k = 0
  · rw [← c, ← e]
  · have := asc 0 k (by omega) hk
    omega
theorem both_at {ps qs ws : List (Int × Int × Int × Int)} (P : Gp ps) (Q : Gp qs) (hs : stsOf ws = bothS ps qs) (hw : ∀ c ∈ ws, SumP ps qs c) {x : Int} {t : Nat} (T : At ws x t) : ∃ i j, At ps x i ∧ At qs x j ∧ RedL (lnAt ws t) ∧ (lnAt ws t).2.2 < 2 ^ 60 ∧ ∀ x : Int, ((lnAt ws t).1 * x + (lnAt ws t).2.1) * ((lnAt ps i).2.2 * (lnAt qs j).2.2) = (((lnAt ps i).1 * x + (lnAt ps i).2.1) * (lnAt qs j).2.2 + ((lnAt qs j).1 * x + (lnAt qs j).2.1) * (lnAt ps i).2.2) * (lnAt ws t).2.2 := by
  obtain ⟨pk, w0⟩ := both_pk P Q hs
  have hg := pc_get ws T.lt
  obtain ⟨i, j, A, B, R⟩ := hw _ (List.mem_iff_getElem?.mpr ⟨t, hg⟩)
  have tle := T.le
  -- a start above that of t is above x
  have up : ∀ s, s ∈ bothS ps qs → stAt ws t < s → x < s := fun s h1 h2 => by
    rw [← hs] at h1
    obtain ⟨k, hk, rfl⟩ := sts_mem.mp h1
    have tk : t < k := Nat.lt_of_not_le fun w => by
      have := pk.mono k t w T.lt
      omega
    have := T.nx (by omega)
    have := pk.mono (t + 1) k (by omega) hk
    omega
  refine ⟨i, j, ⟨A.lt, ?_, fun z => ?_⟩, ⟨B.lt, ?_, fun z => ?_⟩, R⟩
  · have := A.le
    simp only at this
    omega
  · exact up _ (bothS_mem.mpr (.inl (sts_mem.mpr ⟨i + 1, z, rfl⟩))) (A.nx z)
  · have := B.le
    simp only at this
    omega
  · exact up _ (bothS_mem.mpr (.inr (sts_mem.mpr ⟨j + 1, z, rfl⟩))) (B.nx z)
/-! parts of pieces, from 0 on -/
theorem filter_mid {α : Type} : ∀ (xs : List α) (p : α → Bool) (i j : Nat), (∀ k a, xs[k]? = some a → p a = (decide (i ≤ k) && decide (k < j))) → xs.filter p = (xs.drop i).take (j - i)
  | [], p, i, j, _ => by simp
  | a :: xs, p, i, j, h => by
    have h0 := h 0 a rfl
    cases i with
    | zero =>
      cases j with
      | zero =>
        have ih := filter_mid xs p 0 0 fun k b hb => by rw [h (k + 1) b hb]; simp
        rw [List.filter_cons_of_neg (by rw [h0]; simp), ih]
        simp
      | succ j =>
        have ih := filter_mid xs p 0 j fun k b hb => by
          rw [h (k + 1) b hb]
          have e : decide (k + 1 < j + 1) = decide (k < j) := decide_eq_decide.mpr (by omega)
          simp [e]
        rw [List.filter_cons_of_pos (by rw [h0]; simp), ih]
        simp
    | succ i =>
      have ih := filter_mid xs p i (j - 1) fun k b hb => by
        rw [h (k + 1) b hb]
        have e1 : decide (i + 1 ≤ k + 1) = decide (i ≤ k) := decide_eq_decide.mpr (by omega)
        have e2 : decide (k + 1 < j) = decide (k < j - 1) := decide_eq_decide.mpr (by omega)
        rw [e1, e2]
      rw [List.filter_cons_of_neg (by rw [h0]; simp), ih]
      have e : j - 1 - i = j - (i + 1) := by omega
      rw [e]
      rfl
/-- what is known of the pieces of a part -/
structure PtOk (ps us : List (Int × Int × Int × Int)) (a t s : Nat) : Prop where
  len : us.length = s + 1 - t
  st : ∀ j, j < us.length → stAt us j = if j = 0 then 0 else stAt ps (t + j) - a
  red : ∀ c ∈ us, RedL c.2
  ln : ∀ j, j < us.length → (lnAt us j).2.2 < 2 ^ 60 ∧ ∀ x : Int, ((lnAt us j).1 * x + (lnAt us j).2.1) * (lnAt ps (t + j)).2.2 = ((lnAt ps (t + j)).1 * (x + a) + (lnAt ps (t + j)).2.1) * (lnAt us j).2.2
theorem part_of_eq {ps : List (Int × Int × Int × Int)} (P : Gp ps) {a b t s : Nat} (hab : a < b) (hb : b ≤ 100) (T : At ps (a : Nat) t) (S : At ps ((b : Int) - 1) s) : t ≤ s ∧ ∃ us : List (Int × Int × Int × Int), S_part_of [.lst (ps.map encC), .int a, .int b] = some (.lst (us.map encC)) ∧ PtOk ps us a t s := by
  have lp := P.le
  have sl := S.lt
  have ts : t ≤ s := Nat.le_of_not_lt fun w => by
    have a1 := S.nx (by have := T.lt; omega)
    have a2 := P.pk.mono (s + 1) t (by omega) T.lt
    have := T.le
    omega
  refine ⟨ts, ?_⟩
  have hp := parts_eq P.pk (a := a) (b := b) (t := t) (m := s + 1) (by omega) T (by omega) (by omega) (fun k hk => by
    have := P.pk.mono k s (by omega) sl
    have := S.le
    omega) (fun z => by have := S.nx z; omega)
  have hc : ∃ vs : List (Int × Int × Int × Int), compL (gTg 3 (gTo (gN 3) (gTo (gN 4) (gTo (gN 5) gEnd)))) gYes (gTu 2 (aC (gOp dSub (gV 3) (gV 1)) (aC (gCall S_moved (aC (gV 5) (aC (gU dNeg (gV 1)) aN))) aN))) (((List.range (s + 1 - t)).map fun j => ptF ps a b (t + j)).map encPt) [.sh (.lst (ps.map encC)), .sh (.int a), .sh (.int b), .no, .no, .no] = some (vs.map encC) ∧ vs.length = ((List.range (s + 1 - t)).map fun j => ptF ps a b (t + j)).length ∧ ∀ k v, vs[k]? = some v → (v.1 = if k = 0 then 0 else stAt ps (t + k) - a) ∧ RedL v.2 ∧ v.2.2.2 < 2 ^ 60 ∧ ∀ x : Int, (v.2.1 * x + v.2.2.1) * (lnAt ps (t + k)).2.2 = ((lnAt ps (t + k)).1 * (x + a) + (lnAt ps (t + k)).2.1) * v.2.2.2 := by
    refine compL_rel _ _ fun k c hc => ?_
    have hk : k < s + 1 - t := by
      have := (List.getElem?_eq_some_iff.mp hc).1
      simpa using this
    have ec : c = ptF ps a b (t + k) := by
      rw [List.getElem?_map, List.getElem?_range hk] at hc
      exact (Option.some.inj hc).symm
    subst ec
    have hkl : t + k < ps.length := by omega
    obtain ⟨l, hl, R, ld, hx⟩ := moved_eq (a := lnAt ps (t + k)) (P.sm _ hkl) (o := -(a : Int)) (by omega)
    have d2 := (P.sm _ hkl).2.1
    refine ⟨_, ((ptF ps a b (t + k)).1 - a, l), rfl, ?_, ?_, R, by show l.2.2 < 2 ^ 60; omega, fun x => ?_⟩
    · exact ev_tu (ev_cs (ev_op (ev_V rfl) (ev_V rfl) d_sub) (ev_cs (ev_call (ev_cs (ev_V rfl) (ev_cs (ev_U (ev_V rfl) rfl) ev_nl)) hl) ev_nl))
    · show (if (a : Int) < stAt ps (t + k) then stAt ps (t + k) else a) - a = _
      by_cases z : k = 0
      · subst z
        have := T.le
        rw [if_neg (by simpa using this), if_pos rfl]
        omega
      · have a1 := T.nx (by omega)
        have a2 := P.pk.mono (t + 1) (t + k) (by omega) hkl
        rw [if_pos (by omega), if_neg z]
    · have := hx x
      show (l.1 * x + l.2.1) * (lnAt ps (t + k)).2.2 = _
      rw [this]
      have e : x - -(a : Int) = x + a := by omega
      rw [e]
  obtain ⟨vs, h1, h2, h3⟩ := hc
  have h2 : vs.length = s + 1 - t := by rw [h2]; simp
  refine ⟨vs, ?_, h2, fun j hj => (h3 j _ (pc_get vs hj)).1, fun c hc => ?_, fun j hj => ?_⟩
  · refine run_Weq ?_
    unfold B_part_of
    exact W_ret (ev_L (ev_lc (ev_it (ev_call (ev_cs (ev_V rfl) (ev_cs (ev_V rfl) (ev_cs (ev_V rfl) ev_nl))) hp)) (by simp; omega) h1)) rfl
  · obtain ⟨k, hk⟩ := List.mem_iff_getElem?.mp hc
    exact (h3 k c hk).2.1
  · have := (h3 j _ (pc_get vs hj)).2.2
    exact this
theorem PtOk.pk {ps us : List (Int × Int × Int × Int)} (P : Gp ps) {a t s : Nat} (U : PtOk ps us a t s) (T : At ps (a : Nat) t) (sl : s < ps.length) : PcOk us := by
  have lp := P.le
  have hl := U.len
  have up : ∀ k, 0 < k → t + k < ps.length → (a : Int) < stAt ps (t + k) := fun k k0 hk => by
    have a1 := T.nx (by omega)
    have a2 := P.pk.mono (t + 1) (t + k) (by omega) hk
    omega
  refine ⟨fun k hk => ?_, fun h => by rw [U.st 0 h, if_pos rfl], fun k hk => ?_, by omega⟩
  · rw [U.st k hk]
    split
    · rfl
    · have := up k (by omega) (by omega)
      omega
  · rw [U.st k (by omega), U.st (k + 1) hk, if_neg (show ¬ (k + 1 = 0) by omega)]
    have a1 := up (k + 1) (by omega) (by omega)
    split
    · omega
    · have := P.pk.up (t + k) (by omega)
      have e : t + (k + 1) = t + k + 1 := by omega
      rw [e]
      omega
theorem PtOk.at_ {ps us : List (Int × Int × Int × Int)} (P : Gp ps) {a b t s : Nat} (U : PtOk ps us a t s) (T : At ps (a : Nat) t) (S : At ps ((b : Int) - 1) s) {x i : Nat} (hx : a ≤ x) (hxb : x < b) (I : At ps (x : Nat) i) : At us ((x : Int) - a) (i - t) ∧ t + (i - t) = i ∧ i - t < us.length := by
  have hl := U.len
  have ti : t ≤ i := Nat.le_of_not_lt fun w => by
    have a1 := I.nx (by have := T.lt; omega)
    have a2 := P.pk.mono (i + 1) t (by omega) T.lt
    have := T.le
    omega
  have is : i ≤ s := Nat.le_of_not_lt fun w => by
    have a1 := S.nx (by have := I.lt; omega)
    have a2 := P.pk.mono (s + 1) i (by omega) I.lt
    have := I.le
    omega
  have e : t + (i - t) = i := by omega
  refine ⟨⟨by omega, ?_, fun z => ?_⟩, e, by omega⟩
  · rw [U.st _ (by omega), e]
    split
    · omega
    · have := I.le
      omega
  · rw [U.st _ z, if_neg (by omega)]
    have e2 : t + (i - t + 1) = i + 1 := by omega
    rw [e2]
    have := I.nx (by have := S.lt; omega)
    omega
theorem PtOk.inner {ps us : List (Int × Int × Int × Int)} (P : Gp ps) {a b t s : Nat} (U : PtOk ps us a t s) (T : At ps (a : Nat) t) (S : At ps ((b : Int) - 1) s) (ts : t ≤ s) : (stsOf us).drop 1 = (ps.filter fun c => decide ((a : Int) < c.1) && decide (c.1 < (b : Int))).map fun c => c.1 - (a : Int) := by
  have hl := U.len
  have sl := S.lt
  have hf := filter_mid ps (fun c => decide ((a : Int) < c.1) && decide (c.1 < (b : Int))) (t + 1) (s + 1) fun k c hc => by
    obtain ⟨e1, _⟩ := st_get hc
    have hk : k < ps.length := (List.getElem?_eq_some_iff.mp hc).1
    have d1 : decide ((a : Int) < c.1) = decide (t + 1 ≤ k) := decide_eq_decide.mpr ⟨fun h => Nat.lt_of_not_le fun w => by
      have := P.pk.mono k t w T.lt
      have := T.le
      omega, fun h => by
      have a1 := T.nx (by omega)
      have a2 := P.pk.mono (t + 1) k h hk
      omega⟩
    have d2 : decide (c.1 < (b : Int)) = decide (k < s + 1) := decide_eq_decide.mpr ⟨fun h => Nat.lt_of_not_le fun w => by
      have a1 := S.nx (by omega)
      have a2 := P.pk.mono (s + 1) k w hk
      omega, fun h => by
      have a2 := P.pk.mono k s (by omega) sl
      have := S.le
      omega⟩
    show (decide ((a : Int) < c.1) && decide (c.1 < (b : Int))) = _
    rw [d1, d2]
  rw [hf]
  refine List.ext_getElem? fun k => ?_
  by_cases hk : k < s - t
  · rw [List.getElem?_drop, sts_get (by omega), U.st (1 + k) (by omega), if_neg (by omega), List.getElem?_map, List.getElem?_take_of_lt (by omega), List.getElem?_drop, pc_get ps (by omega)]
    have e : t + (1 + k) = t + 1 + k := by omega
    rw [e]
    rfl
  · rw [List.getElem?_eq_none (by rw [List.length_drop, stsOf_len]; omega), List.getElem?_eq_none (by simp; omega)]
/-! pieces one after another -/
structure RpOk (ps rs : List (Int × Int × Int × Int)) (L m : Nat) : Prop where
  len : rs.length = m * ps.length
  at_ : ∀ k i, k < m → i < ps.length → stAt rs (k * ps.length + i) = stAt ps i + (k : Int) * L ∧ (lnAt rs (k * ps.length + i)).2.2 < 2 ^ 60 ∧ ∀ x : Int, ((lnAt rs (k * ps.length + i)).1 * x + (lnAt rs (k * ps.length + i)).2.1) * (lnAt ps i).2.2 = ((lnAt ps i).1 * (x - (k : Int) * L) + (lnAt ps i).2.1) * (lnAt rs (k * ps.length + i)).2.2
  red : ∀ c ∈ rs, RedL c.2
theorem divide {n j m : Nat} (hn : 0 < n) (h : j < m * n) : ∃ k i, k < m ∧ i < n ∧ j = k * n + i :=
  ⟨j / n, j % n, (Nat.div_lt_iff_lt_mul hn).mpr h, Nat.mod_lt _ hn, by rw [Nat.mul_comm]; exact (Nat.div_add_mod j n).symm⟩
theorem place_lt {k m i n : Nat} (hk : k < m) (hi : i < n) : k * n + i < m * n := by
  have : (k + 1) * n ≤ m * n := Nat.mul_le_mul_right _ hk
  rw [Nat.succ_mul] at this
  omega
theorem range3_size (m L : Nat) (hL : 0 < L) : Builtin.Range.rangeSize 0 ((m : Int) * L) L = m := by
  unfold Builtin.Range.rangeSize
  rw [if_pos (by omega : (L : Int) > 0)]
  by_cases h : m = 0
  · subst h
    simp
  · have : 0 < (m : Int) * L := Int.mul_pos (by omega) (by omega)
    rw [if_pos this, Int.sub_zero]
    have e : ((m : Int) * L - 1) / L = (m : Int) - 1 := by
      have e2 : (m : Int) * L - 1 = (L - 1) + L * ((m : Int) - 1) := by grind
      rw [e2, Int.add_mul_ediv_left _ _ (by omega), Int.ediv_eq_zero_of_lt (by omega) (by omega)]
      omega
    omega
theorem app_l {vs ws : List (Int × Int × Int × Int)} {j : Nat} (h : j < vs.length) : stAt (vs ++ ws) j = stAt vs j ∧ lnAt (vs ++ ws) j = lnAt vs j := by
  have e : (vs ++ ws)[j]? = vs[j]? := List.getElem?_append_left h
  have := st_get (e.trans (pc_get vs h))
  exact this
theorem app_r {vs ws : List (Int × Int × Int × Int)} {j : Nat} (h : j < ws.length) : stAt (vs ++ ws) (vs.length + j) = stAt ws j ∧ lnAt (vs ++ ws) (vs.length + j) = lnAt ws j := by
  have e : (vs ++ ws)[vs.length + j]? = ws[j]? := by rw [List.getElem?_append_right (by omega)]; congr 1; omega
  have := st_get (e.trans (pc_get ws h))
  exact this
theorem repeated_eq {ps : List (Int × Int × Int × Int)} (P : Gp ps) {L m : Nat} (hL : 0 < L ∧ L ≤ 100) (hm : m ≤ 25) : ∃ rs : List (Int × Int × Int × Int), S_repeated [.lst (ps.map encC), .int L, .int m] = some (.lst (rs.map encC)) ∧ RpOk ps rs L m := by
  have lp := P.le
  have kb : ∀ k, k ≤ m → (k : Int) * L = ((k * L : Nat) : Int) ∧ k * L ≤ 2500 := fun k hk => ⟨by rw [Int.natCast_mul], by
    have := Nat.mul_le_mul (show k ≤ 25 by omega) hL.2
    omega⟩
  have nb : ∀ k, k ≤ m → k * ps.length ≤ 300 := fun k hk => by
    have := Nat.mul_le_mul (show k ≤ 25 by omega) lp
    omega
  have hit : gRng3 (aC (gI 0) (aC (gOp dMul (gV 2) (gV 1)) (aC (gV 1) aN))) [.sh (.lst (ps.map encC)), .sh (.int L), .sh (.int m), .ow [], .no, .no, .no] = some ((List.range m).map fun i : Nat => D.int (0 + (i : Nat) * (L : Int))) := by
    unfold gRng3
    rw [ev_cs ev_I (ev_cs (ev_op (ev_V rfl) (ev_V rfl) (d_mul (mulOk_r (by omega) (by omega)))) (ev_cs (ev_V rfl) ev_nl))]
    show (if _ then _ else _) = _
    rw [range3_size m L hL.1]
    have ⟨e, b⟩ := kb m (Nat.le_refl _)
    have sm : Builtin.Range.small 0 ((m : Int) * L) L = true := by
      unfold Builtin.Range.small
      rw [range3_size m L hL.1, e]
      generalize m * L = c at b
      unfold Builtin.Range.rangeFitsLong
      simp [hL.1]
      omega
    rw [if_pos ⟨by omega, by omega, sm, by omega⟩]
    rw [Int.toNat_natCast]
    rfl
  have main : ∃ d, S_repeated [.lst (ps.map encC), .int L, .int m] = some d ∧ ∃ rs : List (Int × Int × Int × Int), d = .lst (rs.map encC) ∧ RpOk ps rs L m := by
    refine run_W ?_
    unfold B_repeated
    refine wq_setO ev_nl ?_
    refine wq_map (enc := fun i : Nat => D.int (0 + (i : Nat) * (L : Int))) (xs := List.range m) (fun k Γ => ∃ (vs : List (Int × Int × Int × Int)) (s4 s5 s6 : Sl), Γ = [.sh (.lst (ps.map encC)), .sh (.int L), .sh (.int m), .ow (vs.map encC), s4, s5, s6] ∧ RpOk ps vs L k) hit ⟨[], _, _, _, rfl, ⟨by simp, fun k i hk => by omega, fun c hc => by simp at hc⟩⟩ ?_ ?_
    · rintro k c Γ hc ⟨vs, s4, s5, s6, rfl, V⟩
      have hk : k < m := by
        have := (List.getElem?_eq_some_iff.mp hc).1
        simpa using this
      rw [List.getElem?_range hk] at hc
      cases hc
      have ⟨ke, kb1⟩ := kb k (by omega)
      have nk := nb k (by omega)
      have vl := V.len
      refine ⟨[.sh (.lst (ps.map encC)), .sh (.int L), .sh (.int m), .ow (vs.map encC), .sh (.int (0 + (k : Nat) * (L : Int))), s5, s6], rfl, ?_⟩
      have hcc : ∃ ws : List (Int × Int × Int × Int), compL (gTg 2 (gTo (gN 5) (gTo (gN 6) gEnd))) gYes (gTu 2 (aC (gOp dAdd (gV 5) (gV 4)) (aC (gCall S_moved (aC (gV 6) (aC (gV 4) aN))) aN))) (ps.map encC) [.sh (.lst (ps.map encC)), .sh (.int L), .sh (.int m), .ow (vs.map encC), .sh (.int (0 + (k : Nat) * (L : Int))), .no, .no] = some (ws.map encC) ∧ ws.length = ps.length ∧ ∀ i v, ws[i]? = some v → v.1 = stAt ps i + (k : Int) * L ∧ RedL v.2 ∧ v.2.2.2 < 2 ^ 60 ∧ ∀ x : Int, (v.2.1 * x + v.2.2.1) * (lnAt ps i).2.2 = ((lnAt ps i).1 * (x - (k : Int) * L) + (lnAt ps i).2.1) * v.2.2.2 := by
        refine compL_rel ps _ fun i c hc => ?_
        obtain ⟨e1, e2⟩ := st_get hc
        have hi : i < ps.length := (List.getElem?_eq_some_iff.mp hc).1
        have sm := P.sm i hi
        obtain ⟨l, hl, R, ld, hx⟩ := moved_eq (a := lnAt ps i) sm (o := 0 + (k : Int) * L) (by omega)
        have d2 := sm.2.1
        refine ⟨_, (c.1 + (0 + (k : Int) * L), l), rfl, ?_, by show c.1 + (0 + (k : Int) * L) = _; rw [e1]; omega, R, by show l.2.2 < 2 ^ 60; omega, fun x => ?_⟩
        · rw [e2] at hl
          exact ev_tu (ev_cs (ev_op (ev_V rfl) (ev_V rfl) d_add) (ev_cs (ev_call (ev_cs (ev_V rfl) (ev_cs (ev_V rfl) ev_nl)) hl) ev_nl))
        · have := hx x
          rw [Int.zero_add] at this
          exact this
      obtain ⟨ws, h1, h2, h3⟩ := hcc
      refine ⟨_, sv_ext0 (ev_lc (ds := ps.map encC) (ev_it (ev_V rfl)) (by simp; omega) h1) rfl (by simp; omega), ⟨vs ++ ws, .sh (.int (0 + (k : Nat) * (L : Int))), s5, s6, by rw [List.map_append]; rfl, ⟨?_, fun k' i hk' hi => ?_, fun c hc => ?_⟩⟩⟩
      · rw [List.length_append, Nat.succ_mul]; omega
      · by_cases z : k' = k
        · subst z
          have e := app_r (vs := vs) (ws := ws) (j := i) (by omega)
          rw [vl] at e
          obtain ⟨g1, _, g2⟩ := h3 i _ (pc_get ws (by omega))
          rw [e.1, e.2]
          exact ⟨g1, g2⟩
        · have pl := place_lt (k := k') (m := k) (by omega) hi
          have e := app_l (vs := vs) (ws := ws) (j := k' * ps.length + i) (by omega)
          rw [e.1, e.2]
          exact V.at_ k' i (by omega) hi
      · rcases List.mem_append.mp hc with z | z
        · exact V.red c z
        · obtain ⟨i, hi⟩ := List.mem_iff_getElem?.mp z
          exact (h3 i c hi).2.1
    · rintro Γ ⟨vs, s4, s5, s6, rfl, V⟩
      rw [List.length_range] at V
      exact W_frz (W_ret (ev_V rfl) ⟨vs, rfl, V⟩)
  obtain ⟨_, h1, rs, rfl, h2⟩ := main
  exact ⟨rs, h1, h2⟩
theorem RpOk.pk {ps rs : List (Int × Int × Int × Int)} (P : Gp ps) {L m : Nat} (hm : m ≤ 25) (R : RpOk ps rs L m) (lt : ∀ i, i < ps.length → stAt ps i < L) : PcOk rs := by
  have lp := P.le
  have rl := R.len
  have nb : m * ps.length ≤ 300 := by
    have := Nat.mul_le_mul hm lp
    omega
  refine ⟨fun j hj => ?_, fun h => ?_, fun j hj => ?_, by omega⟩
  · obtain ⟨k, i, hk, hi, rfl⟩ := divide P.ne (by omega : j < m * ps.length)
    rw [(R.at_ k i hk hi).1, ← Int.natCast_mul]
    have := P.pk.nn i hi
    omega
  · have m0 : 0 < m := Nat.pos_of_ne_zero fun z => by subst z; omega
    have := (R.at_ 0 0 m0 P.ne).1
    rw [Nat.zero_mul, P.pk.st0 P.ne] at this
    rw [this]
    simp
  · obtain ⟨k, i, hk, hi, rfl⟩ := divide P.ne (by omega : j < m * ps.length)
    by_cases z : i + 1 < ps.length
    · have := (R.at_ k (i + 1) hk z).1
      rw [← Nat.add_assoc] at this
      rw [this, (R.at_ k i hk hi).1]
      have := P.pk.up i z
      omega
    · have e : k * ps.length + i + 1 = (k + 1) * ps.length + 0 := by rw [Nat.succ_mul]; omega
      have k1 : k + 1 < m := Nat.lt_of_not_le fun w => by
        have := Nat.mul_le_mul_right ps.length w
        rw [Nat.succ_mul] at this
        omega
      rw [e, (R.at_ (k + 1) 0 k1 P.ne).1, (R.at_ k i hk hi).1, P.pk.st0 P.ne]
      have := lt i hi
      have e2 : ((k + 1 : Nat) : Int) * L = k * L + L := by rw [Int.natCast_add, Int.add_mul]; simp
      omega
theorem RpOk.at' {ps rs : List (Int × Int × Int × Int)} (P : Gp ps) {L m : Nat} (R : RpOk ps rs L m) {k y i : Nat} (hk : k < m) (hy : y < L) (I : At ps (y : Nat) i) : At rs ((k : Int) * L + y) (k * ps.length + i) := by
  have rl := R.len
  have hi := I.lt
  have pl := place_lt hk hi
  refine ⟨by omega, ?_, fun z => ?_⟩
  · rw [(R.at_ k i hk hi).1]
    have := I.le
    omega
  · by_cases w : i + 1 < ps.length
    · have := (R.at_ k (i + 1) hk w).1
      rw [← Nat.add_assoc] at this
      rw [this]
      have := I.nx w
      omega
    · have e : k * ps.length + i + 1 = (k + 1) * ps.length + 0 := by rw [Nat.succ_mul]; omega
      have k1 : k + 1 < m := Nat.lt_of_not_le fun w => by
        have := Nat.mul_le_mul_right ps.length w
        rw [Nat.succ_mul] at this
        omega
      rw [e, (R.at_ (k + 1) 0 k1 P.ne).1, P.pk.st0 P.ne]
      have e2 : ((k + 1 : Nat) : Int) * L = k * L + L := by rw [Int.natCast_add, Int.add_mul]; simp
      omega
theorem second_eq (ns : List Int) (pl : Int) (n : Nat) (h0 : 0 ≤ pl) (n1 : n ≤ 1000) : ∃ vs : List Int, S__law_second [.scr ns, .int pl, .int n] = some (.lst (vs.map D.int)) ∧ vs.length = n ∧ ∀ v ∈ vs, -((n : Int) * 10 ^ 9) ≤ v ∧ v ≤ (n : Int) * 10 ^ 9 := by
  have key : ∃ d, S__law_second [.scr ns, .int pl, .int n] = some d ∧ ∃ vs : List Int, d = .lst (vs.map D.int) ∧ vs.length = n ∧ ∀ v ∈ vs, -((n : Int) * 10 ^ 9) ≤ v ∧ v ≤ (n : Int) * 10 ^ 9 := by
    refine run_W ?_
    unfold B__law_second
    have z0 := Int.emod_nonneg (cell ns (pl + 1).toNat) (show (2 : Int) ≠ 0 by omega)
    have z1 := Int.emod_lt_of_pos (cell ns (pl + 1).toNat) (show (0 : Int) < 2 by omega)
    have hidx : ∀ Γ : DEnv, Γ[0]? = some (.sh (.scr ns)) → Γ[1]? = some (.sh (.int pl)) → gOp dMod (gU dInt (gCall S__law_cell (aC (gV 0) (aC (gOp dAdd (gV 1) (gI 1)) aN)))) (gI 2) Γ = some (.int (cell ns (pl + 1).toNat % 2)) := fun Γ g0 g1 => ev_op (ev_U (ev_call (ev_cs (ev_V g0) (ev_cs (ev_op (ev_V g1) ev_I d_add) ev_nl)) (cell_eq _ _ (by omega))) rfl) ev_I (d_mod (by decide))
    generalize cell ns (pl + 1).toNat % 2 = sty at *
    obtain ⟨mny, mm, im⟩ := ixm [19, 10 ^ 9] sty z0 (by simpa using z1)
    obtain ⟨sub, msub, isub⟩ := ixm [9, 5 * 10 ^ 8] sty z0 (by simpa using z1)
    have mb : 0 < mny ∧ mny ≤ 10 ^ 9 := by
      simp only [List.mem_cons, List.not_mem_nil, or_false] at mm
      rcases mm with rfl | rfl <;> decide
    have hsub : 0 ≤ sub ∧ sub ≤ 10 ^ 9 := by
      simp only [List.mem_cons, List.not_mem_nil, or_false] at msub
      rcases msub with rfl | rfl <;> decide
    obtain ⟨dg, hdg, ld, vd⟩ := digits_eq (cell ns pl.toNat) mny n mb.1 (by omega) (by omega) (by omega)
    refine wq_set (ev_call (ev_cs (ev_call (ev_cs (ev_V rfl) (ev_cs (ev_V rfl) ev_nl)) (cell_eq _ _ h0)) (ev_cs (ev_op (ev_L (ev_cs ev_I (ev_cs (ev_op ev_I ev_I (d_pow (by decide))) ev_nl))) (hidx _ rfl rfl) im) (ev_cs (ev_V rfl) ev_nl))) hdg) ?_
    refine wq_setO ev_nl ?_
    refine wq_set ev_I ?_
    refine wq_rng (n := n) (lo := 0) (fun k Γ => ∃ (vs : List Int) (last : Int) (s6 : Sl), vs.length = k ∧ (-(k * 10 ^ 9 : Int) ≤ last ∧ last ≤ (k * 10 ^ 9 : Int)) ∧ (∀ v ∈ vs, -(k * 10 ^ 9 : Int) ≤ v ∧ v ≤ (k * 10 ^ 9 : Int)) ∧ Γ = [.sh (.scr ns), .sh (.int pl), .sh (.int n), .sh (.lst (dg.map D.int)), .ow (vs.map D.int), .sh (.int last), s6]) ((ev_rng1 (m := n) (ev_cs (ev_V rfl) ev_nl) (by omega) (by omega)).trans (by rw [Int.toNat_natCast])) ⟨[], 0, .no, rfl, by omega, by simp, rfl⟩ ?_ ?_
    · rintro k Γ hk ⟨vs, last, s6, lv, lb, vb, rfl⟩
      refine ⟨_, rfl, ?_⟩
      have id : dIx (.lst (dg.map D.int)) (.int (0 + (k : Nat))) = some (.int (dg.getD k 0)) := d_ixC (k := k) (by rw [List.getD_eq_getElem?_getD, List.getElem?_eq_getElem (by omega)]; rfl) (by omega)
      have hdk := vd (dg.getD k 0) (by rw [List.getD_eq_getElem?_getD, List.getElem?_eq_getElem (by omega)]; exact List.getElem_mem _)
      refine wq_set (ev_op (ev_op (ev_V rfl) (ev_U (ev_op (ev_B rfl) (ev_V rfl) id) rfl) d_add) (ev_op (ev_L (ev_cs ev_I (ev_cs (ev_op ev_I (ev_op ev_I ev_I (d_pow (by decide))) (d_mul (by decide +kernel))) ev_nl))) (hidx _ rfl rfl) isub) d_sub) ?_
      refine W_app (ev_V rfl) rfl (by rw [List.length_map]; omega) ⟨vs ++ [last + dg.getD k 0 - sub], last + dg.getD k 0 - sub, .sh (.int (0 + (k : Nat))), by simp [lv], by omega, fun v hv => ?_, ?_⟩
      · rcases List.mem_append.mp hv with z | z
        · have := vb v z
          omega
        · rw [List.mem_singleton] at z
          omega
      · rw [List.map_append]
        rfl
    · rintro Γ ⟨vs, last, s6, lv, lb, vb, rfl⟩
      exact W_frz (W_ret (ev_V rfl) ⟨vs, rfl, by omega, fun v hv => by have := vb v hv; omega⟩)
  obtain ⟨_, h1, vs, rfl, h2⟩ := key
  exact ⟨vs, h1, h2⟩
theorem dIn_map (x : Int) (ks : List Int) : dIn (.int x) (.lst (ks.map D.int)) = some (.bl (decide (x ∈ ks))) := by
  have h1 := (okd_eq (okd_map (f := D.int) okd_int ks) (by omega)).1
  unfold dIn
  simp only [eqOk_int, h1, Bool.and_self, if_true]
  congr 2
  rw [List.any_map]
  rw [Bool.eq_iff_iff, List.any_eq_true, decide_eq_true_iff]
  constructor
  · rintro ⟨a, ha, e⟩
    have e : eqd (.int a) (.int x) = true := e
    rw [eqd_int] at e
    have : a = x := by simpa using e
    rw [← this]; exact ha
  · intro h
    refine ⟨x, h, ?_⟩
    show eqd (.int x) (.int x) = true
    rw [eqd_int]
    simp
theorem dNIn_map (x : Int) (ks : List Int) : dNIn (.int x) (.lst (ks.map D.int)) = some (.bl (!decide (x ∈ ks))) := by
  have h := dIn_map x ks
  have h1 := (okd_eq (okd_map (f := D.int) okd_int ks) (by omega)).1
  unfold dIn at h
  unfold dNIn
  simp only [eqOk_int, h1, Bool.and_self, if_true] at h ⊢
  have h : ((List.map D.int ks).any fun z => eqd z (.int x)) = decide (x ∈ ks) := by simpa using h
  rw [h]

theorem sts_comp {Γ : DEnv} {i v : Nat} {ps : List (Int × Int × Int × Int)} (hi : Γ[i]? = some (.sh (.lst (ps.map encC)))) (hv : v < Γ.length) (hl : ps.length < 1000000) : gL (gLc [v] (gIt (gV i)) (gN v) gYes (gIx (gB v) (gI 0))) Γ = some (.lst ((stsOf ps).map D.int)) := by
  have e : (stsOf ps).map D.int = ps.map fun c => D.int c.1 := by
    unfold stsOf
    rw [List.map_map]
    rfl
  rw [e]
  refine ev_L (ev_lc (ds := ps.map encC) (ev_it (ev_V hi)) (by simp; omega) (compL_map _ _ _ fun c _ => ⟨_, rfl, ev_op (x := encC c) (ev_B ?_) ev_I rfl⟩))
  rw [List.getElem?_set_self]
  show v < (Γ.set v .no).length
  rw [List.length_set]
  exact hv
theorem gp_of {vs : List Int} {e : Int} {pcs rs fl} (C : Cod vs e pcs rs fl) (h0 : 0 < vs.length) (h12 : vs.length ≤ 12) : Gp pcs := by
  refine ⟨C.pk, C.ne h0, ?_, fun k hk => ?_⟩
  · have key : ∀ k, k < pcs.length → (k : Int) ≤ stAt pcs k := fun k => by
      induction k with
      | zero => intro h; rw [C.pk.st0 h]; exact Int.le_refl _
      | succ k ih =>
        intro h
        have := ih (by omega)
        have := C.pk.up k h
        omega
    refine Nat.le_of_not_lt fun w => ?_
    have a1 := key 12 w
    have a2 := C.lt 12 w
    omega
  · obtain ⟨P, _⟩ := C.ok.pc k hk
    exact ⟨P.d, P.du⟩
theorem cod_near {vs : List Int} {e : Int} {pcs rs fl} (C : Cod vs e pcs rs fl) {k t : Nat} (hk : k < vs.length) (T : At pcs k t) : nearV (lnAt pcs t) k (wAt vs k) e := by
  obtain ⟨P, lt⟩ := C.ok.pc t T.lt
  have n1 := C.pk.nn t T.lt
  have h1 := T.le
  have nr := P.near k (by omega) ?_
  · rw [pAtV hk] at nr
    exact nr
  · split
    · rename_i z
      have := T.nx z
      have := C.pk.nn (t + 1) z
      omega
    · rw [ptsV_len]
      exact hk
theorem sum_near {A n1 n2 d t D v w e f : Int} (hd : 0 < d) (ht : 0 < t) (hD : 0 < D) (h : A * (d * t) = (n1 * t + n2 * d) * D) (a1 : -(e * d) ≤ n1 - v * d) (a2 : n1 - v * d ≤ e * d) (b1 : -(f * t) ≤ n2 - w * t) (b2 : n2 - w * t ≤ f * t) : -((e + f) * D) ≤ A - (v + w) * D ∧ A - (v + w) * D ≤ (e + f) * D := by
  have dt : 0 < d * t := Int.mul_pos hd ht
  have key : (A - (v + w) * D) * (d * t) = ((n1 - v * d) * t + (n2 - w * t) * d) * D := by
    have : (A - (v + w) * D) * (d * t) = A * (d * t) - (v + w) * D * (d * t) := by grind
    rw [this, h]
    grind
  have u1 := Int.mul_le_mul_of_nonneg_right a2 (Int.le_of_lt ht)
  have u2 := Int.mul_le_mul_of_nonneg_right b2 (Int.le_of_lt hd)
  have l1 := Int.mul_le_mul_of_nonneg_right a1 (Int.le_of_lt ht)
  have l2 := Int.mul_le_mul_of_nonneg_right b1 (Int.le_of_lt hd)
  have up : ((n1 - v * d) * t + (n2 - w * t) * d) * D ≤ (e * d * t + f * t * d) * D := Int.mul_le_mul_of_nonneg_right (by omega) (Int.le_of_lt hD)
  have lo : (-(e * d) * t + -(f * t) * d) * D ≤ ((n1 - v * d) * t + (n2 - w * t) * d) * D := Int.mul_le_mul_of_nonneg_right (by omega) (Int.le_of_lt hD)
  rw [← key] at up lo
  constructor
  · refine Int.le_of_mul_le_mul_right (a := d * t) ?_ dt
    have e1 : -((e + f) * D) * (d * t) = (-(e * d) * t + -(f * t) * d) * D := by grind
    rw [e1]
    exact lo
  · refine Int.le_of_mul_le_mul_right (a := d * t) ?_ dt
    have e1 : (e + f) * D * (d * t) = (e * d * t + f * t * d) * D := by grind
    rw [e1]
    exact up
theorem part_of_nil {pcs : D} {a b : Int} (h : b ≤ a) : S_part_of [pcs, .int a, .int b] = some (.lst []) := by
  refine run_Weq ?_
  unfold B_part_of
  exact W_ret (ev_L (ev_lc (ds := []) (ev_it (ev_call (ev_cs (ev_V rfl) (ev_cs (ev_V rfl) (ev_cs (ev_V rfl) ev_nl))) (parts_nil h))) (by simp) rfl)) rfl
theorem law_true (ns : List Int) (hl : ns.length ≤ 63) : S_law [.scr ns] = some (.bl true) := by
  obtain ⟨vs0, hvs, lv, bv⟩ := values_eq ns 0 11 (by omega) (by omega) (by omega)
  have hcell : ∀ (k : Int), 0 ≤ k → S__law_cell [.scr ns, .int k] = some (.int (cell ns k.toNat)) := fun k h => cell_eq ns k h
  have c0 : 0 ≤ cell ns (Int.toNat 2) % 9 := Int.emod_nonneg _ (by omega)
  have c1 : cell ns (Int.toNat 2) % 9 < 9 := Int.emod_lt_of_pos _ (by omega)
  refine run_Weq ?_
  unfold B_law
  refine wq_set (d := .lst ((vs0 ++ [cell ns (Int.toNat 2) % 9]).map D.int)) (ev_op (y := .lst ([cell ns (Int.toNat 2) % 9].map D.int)) (ev_call (ev_cs (ev_V rfl) (ev_cs ev_I (ev_cs ev_I ev_nl))) hvs) (ev_L (ev_cs (ev_op (ev_U (ev_call (ev_cs (ev_V rfl) (ev_cs ev_I ev_nl)) (hcell 2 (by decide))) rfl) ev_I (d_mod (by decide))) ev_nl)) (d_cat (by simp; omega))) ?_
  have lv2 : (vs0 ++ [cell ns (Int.toNat 2) % 9]).length = vs0.length + 1 := by simp
  have hsm : SmVal (vs0 ++ [cell ns (Int.toNat 2) % 9]) := fun v hv => by
    rcases List.mem_append.mp hv with z | z
    · have := bv v z
      omega
    · rw [List.mem_singleton] at z
      omega
  generalize vs0 ++ [cell ns (Int.toNat 2) % 9] = vs at lv2 hsm
  have v0 : 0 < vs.length := by omega
  have v12 : vs.length ≤ 12 := by omega
  have lP : dLen (.lst (vs.map D.int)) = some (.int vs.length) := by rw [d_lenL, List.length_map]
  obtain ⟨os, hos, lo, bo⟩ := second_eq ns 3 vs.length (by omega) (by omega)
  have osm : SmVal os := fun v hv => by have := bo v hv; omega
  refine wq_set (ev_call (ev_cs (ev_V rfl) (ev_cs ev_I (ev_cs (ev_U (ev_B rfl) lP) ev_nl))) hos) ?_
  obtain ⟨e, he, e0, e1⟩ := error_eqB ns 5 vs (by omega) hsm
  obtain ⟨f, hf, f0, f1⟩ := error_eqB ns 6 os (by omega) osm
  refine wq_set (ev_call (ev_cs (ev_V rfl) (ev_cs ev_I (ev_cs (ev_V rfl) ev_nl))) he) ?_
  refine wq_set (ev_call (ev_cs (ev_V rfl) (ev_cs ev_I (ev_cs (ev_V rfl) ev_nl))) hf) ?_
  obtain ⟨ps, pr, pf, hP, CP⟩ := coded_eq (e := e) hsm (by omega) ⟨e0, e1⟩
  obtain ⟨qs, qr, qf, hQ, CQ⟩ := coded_eq (e := f) osm (by omega) ⟨f0, f1⟩
  have P := gp_of CP v0 v12
  have Q := gp_of CQ (by omega) (by omega)
  have lp := P.le
  have lq := Q.le
  refine wq_set (d := .lst (ps.map encC)) (ev_U (x := codD vs pf ps) (mk_at (ev_cs (d := .lst (vs.map D.int)) (ev_L (ev_UL (ev_B rfl) rfl)) (ev_cs (ev_V rfl) ev_nl)) hP) rfl) ?_
  refine wq_set (d := .lst (qs.map encC)) (ev_U (x := codD os qf qs) (mk_at (ev_cs (d := .lst (os.map D.int)) (ev_L (ev_UL (ev_B rfl) rfl)) (ev_cs (ev_V rfl) ev_nl)) hQ) rfl) ?_
  refine wq_set (d := .lst [.lst (ps.map encC), .lst (qs.map encC)]) (ev_L (ev_cs (ev_L (ev_UL (ev_B rfl) rfl)) (ev_cs (ev_L (ev_UL (ev_B rfl) rfl)) ev_nl))) ?_
  obtain ⟨ws, hW, wst, wsum⟩ := added_eq P Q
  obtain ⟨wpk, w0⟩ := both_pk P Q wst
  have wl : ws.length ≤ 24 := by
    have := bothS_len ps qs
    rw [← wst, stsOf_len] at this
    omega
  refine wq_set (ev_call (ev_cs (ev_V rfl) (ev_cs (ev_V rfl) ev_nl)) hW) ?_
  refine wq_set (d := .lst ((stsOf ws).map D.int)) (ev_L (ev_UL (x := .lst ((stsOf ps ++ (stsOf qs).filter fun k => !decide (k ∈ stsOf ps)).map D.int)) (ev_op (x := .lst ((stsOf ps).map D.int)) (y := .lst (((stsOf qs).filter fun k => !decide (k ∈ stsOf ps)).map D.int)) (sts_comp rfl (by simp) (by omega)) ?_ (d_cat ?_)) ?_)) ?_
  · have e1 : ((stsOf qs).filter fun k => !decide (k ∈ stsOf ps)).map D.int = (qs.filter fun c => !decide (c.1 ∈ stsOf ps)).map fun c => D.int c.1 := by
      unfold stsOf
      rw [List.filter_map, List.map_map]
      rfl
    rw [e1]
    refine ev_L (ev_lc (ds := qs.map encC) (ev_it (ev_V rfl)) (by simp; omega) (compL_filter _ _ _ _ fun c _ => ⟨_, rfl, ev_T (ev_op (x := .int c.1) (y := .lst ((stsOf ps).map D.int)) (ev_op (x := encC c) (ev_B rfl) ev_I rfl) (sts_comp rfl (by simp [wipeE]) (by omega)) (dNIn_map _ _)), fun _ => ev_op (x := encC c) (ev_B rfl) ev_I rfl⟩))
  · have := List.length_filter_le (fun k => !decide (k ∈ stsOf ps)) (stsOf qs)
    rw [stsOf_len] at this
    rw [stsOf_len]
    omega
  · have hi : dInts (.lst ((stsOf ps ++ (stsOf qs).filter fun k => !decide (k ∈ stsOf ps)).map D.int)) = some (stsOf ps ++ (stsOf qs).filter fun k => !decide (k ∈ stsOf ps)) := ints?_map _
    unfold dSorted
    rw [hi]
    show some ((srt _).map D.int) = _
    rw [bothS_law P.pk Q.pk, wst]
  have okI := fun xs : List Int => okd_map (n := 1) okd_int xs
  have redW : S__law_are_reduced [.lst (ws.map encC)] = some (.bl true) := reds_eq fun c hc => by
    obtain ⟨i, j, _, _, R, _⟩ := wsum c hc
    exact R
  refine wq_ifN (b := false) (ev_or (b := false) (c := false) (ev_T (ev_op (sts_comp (ps := ws) rfl (by simp) (by omega)) (ev_B rfl) (ne_same (okI _) (by omega)))) (ev_not (b := true) (ev_Tru (ev_call (ev_cs (ev_V rfl) ev_nl) redW) rfl))) rfl ?_
  have fa0 : 0 ≤ cell ns (Int.toNat 7) % 11 := Int.emod_nonneg _ (by omega)
  have fa1 : cell ns (Int.toNat 7) % 11 < 11 := Int.emod_lt_of_pos _ (by omega)
  refine wq_set (d := .int (cell ns (Int.toNat 7) % 11 - 5)) (ev_op (ev_op (ev_U (ev_call (ev_cs (ev_V rfl) (ev_cs ev_I ev_nl)) (hcell 7 (by decide))) rfl) ev_I (d_mod (by decide))) ev_I d_sub) ?_
  obtain ⟨fa, hfa⟩ : ∃ fa, fa = cell ns (Int.toNat 7) % 11 - 5 := ⟨_, rfl⟩
  rw [← hfa]
  obtain ⟨ms, hM, ml, mst, mred, mln⟩ := scaled_eq P (f := fa) (by omega)
  have mpk := pk_same P.pk ml mst
  refine wq_set (ev_call (ev_cs (ev_V rfl) (ev_cs (ev_V rfl) ev_nl)) hM) ?_
  refine wq_ifN (b := false) (ev_or (b := false) (c := false) (ev_T (ev_op (x := .lst ((stsOf ps).map D.int)) (y := .lst ((stsOf ps).map D.int)) (by rw [← sts_same ml mst]; exact sts_comp (ps := ms) rfl (by simp) (by omega)) (sts_comp rfl (by simp) (by omega)) (ne_same (okI _) (by omega)))) (ev_not (b := true) (ev_Tru (ev_call (ev_cs (ev_V rfl) ev_nl) (reds_eq mred)) rfl))) rfl ?_
  refine wq_rng (lo := 0) (n := vs.length) (fun k Γ => ∃ (t12 t21 t22 t23 t24 t25 t26 t27 : Sl), Γ = [.sh (.scr ns), .sh (.lst (vs.map D.int)), .sh (.lst (os.map D.int)), .sh (.int e), .sh (.int f), .sh (.lst (ps.map encC)), .sh (.lst (qs.map encC)), .sh (.lst [.lst (ps.map encC), .lst (qs.map encC)]), .sh (.lst (ws.map encC)), .sh (.lst ((stsOf ws).map D.int)), .sh (.int fa), .sh (.lst (ms.map encC)), t12, .no, .no, .no, .no, .no, .no, .no, .no, t21, t22, t23, t24, t25, t26, t27, .no]) ((ev_rng1 (m := vs.length) (ev_cs (ev_U (ev_B rfl) lP) ev_nl) (by omega) (by omega)).trans (by rw [Int.toNat_natCast])) ⟨_, _, _, _, _, _, _, _, rfl⟩ ?_ ?_
  · rintro x Γ hx ⟨t12, t21, t22, t23, t24, t25, t26, t27, rfl⟩
    have ek : (0 + (x : Nat) : Int) = (x : Nat) := by omega
    rw [ek]
    obtain ⟨t, T⟩ := at_ex wpk w0 (x := (x : Nat)) (by omega)
    obtain ⟨i, j, A, B, WR, W60, Wx⟩ := both_at P Q wst wsum T
    have M := at_same ml mst A
    obtain ⟨d1, d2, q2, p2⟩ := P.sm i A.lt
    obtain ⟨c1, c2, s2, r2⟩ := Q.sm j B.lt
    have nP := cod_near CP hx A
    have nQ := cod_near CQ (k := x) (by omega) B
    obtain ⟨m60, Mx⟩ := mln i A.lt
    have Wx := Wx x
    have Mx := Mx x
    have lA := line_at_eq P.pk A
    have lB := line_at_eq Q.pk B
    have lW := line_at_eq wpk T
    have lM := line_at_eq mpk M
    obtain ⟨W1, _⟩ := WR
    have M1 : 1 ≤ (lnAt ms i).2.2 := by
      have := mred _ (List.mem_iff_getElem?.mpr ⟨i, pc_get ms (by have := A.lt; omega)⟩)
      exact this.1
    rcases hA : lnAt ps i with ⟨p, q, d⟩
    rcases hB : lnAt qs j with ⟨r, s, t'⟩
    rcases hW' : lnAt ws t with ⟨wp, wq, wd⟩
    rcases hM' : lnAt ms i with ⟨mp, mq, md⟩
    rw [hA] at d1 d2 q2 p2 nP lA
    rw [hB] at c1 c2 s2 r2 nQ lB
    rw [hW'] at W60 lW W1
    rw [hM'] at m60 lM M1
    rw [hA, hB, hW'] at Wx
    rw [hA, hM'] at Mx
    unfold nearV at nP nQ
    simp only at d1 d2 q2 p2 c1 c2 s2 r2 nP nQ Wx Mx W60 W1 m60 M1
    have dt0 : 0 < d * t' := Int.mul_pos (by omega) (by omega)
    have dt1 := mul_bd (x := d) (y := t') (A := 2 ^ 30) (B := 2 ^ 30) (by omega) (by omega)
    have gx : (vs.map D.int)[x]? = some (.int (wAt vs x)) := by rw [List.getElem?_map, wAt_get hx]; rfl
    have go : (os.map D.int)[x]? = some (.int (wAt os x)) := by rw [List.getElem?_map, wAt_get (vs := os) (by omega)]; rfl
    refine ⟨_, rfl, ?_⟩
    refine wq_unp (d := encL (p, q, d)) (ev_call (ev_cs (ev_V rfl) (ev_cs (ev_V rfl) ev_nl)) lA) rfl ?_
    refine wq_unp (d := encL (r, s, t')) (ev_call (ev_cs (ev_V rfl) (ev_cs (ev_V rfl) ev_nl)) lB) rfl ?_
    show W _ [.sh (.scr ns), .sh (.lst (vs.map D.int)), .sh (.lst (os.map D.int)), .sh (.int e), .sh (.int f), .sh (.lst (ps.map encC)), .sh (.lst (qs.map encC)), .sh (.lst [.lst (ps.map encC), .lst (qs.map encC)]), .sh (.lst (ws.map encC)), .sh (.lst ((stsOf ws).map D.int)), .sh (.int fa), .sh (.lst (ms.map encC)), .sh (.int (x : Nat)), .no, .no, .no, .no, .no, .no, .no, .no, .sh (.int p), .sh (.int q), .sh (.int d), .sh (.int r), .sh (.int s), .sh (.int t'), t27, .no] _
    refine wq_ifN (b := false) (ev_not (b := true) (ev_Tru (ev_call (ds := [encL (wp, wq, wd), .int x, .int ((p * x + q) * t' + (r * x + s) * d), .int (d * t')]) (ev_cs (ev_call (ev_cs (ev_V rfl) (ev_cs (ev_V rfl) ev_nl)) lW) (ev_cs (ev_V rfl) (ev_cs (ev_op (ev_op (ev_op (ev_op (ev_V rfl) (ev_V rfl) (d_mul (mulOk_r (by omega) (by omega)))) (ev_V rfl) d_add) (ev_V rfl) (d_mul (mulOk_r (by omega) (by omega)))) (ev_op (ev_op (ev_op (ev_V rfl) (ev_V rfl) (d_mul (mulOk_r (by omega) (by omega)))) (ev_V rfl) d_add) (ev_V rfl) (d_mul (mulOk_r (by omega) (by omega)))) d_add) (ev_cs (ev_op (ev_V rfl) (ev_V rfl) (d_mul (mulOk_r (by omega) (by omega)))) ev_nl)))) (is_height_eq (l := (wp, wq, wd)) Wx (by omega) (by omega) (by simp only; omega))) rfl)) rfl ?_
    refine wq_ifN (b := false) (ev_not (b := true) (ev_Tru (ev_call (ds := [encL (mp, mq, md), .int x, .int (fa * (p * x + q)), .int d]) (ev_cs (ev_call (ev_cs (ev_V rfl) (ev_cs (ev_V rfl) ev_nl)) lM) (ev_cs (ev_V rfl) (ev_cs (ev_op (ev_V rfl) (ev_op (ev_op (ev_V rfl) (ev_V rfl) (d_mul (mulOk_r (by omega) (by omega)))) (ev_V rfl) d_add) (d_mul (mulOk_l (by omega) (by omega)))) (ev_cs (ev_V rfl) ev_nl)))) (is_height_eq (l := (mp, mq, md)) Mx (by omega) (by omega) (by simp only; omega))) rfl)) rfl ?_
    refine wq_set (ev_call (ev_cs (ev_V rfl) (ev_cs (ev_V rfl) ev_nl)) lW) ?_
    have fin := sum_near (by omega : 0 < d) (by omega : 0 < t') (by omega : 0 < wd) Wx nP.1 nP.2 nQ.1 nQ.2
    refine W_if (b := false) ?_ (fun z => by cases z) fun _ => W_nil ⟨_, _, _, _, _, _, _, _, rfl⟩
    refine ev_T (ev_op (x := .int (absI (wp * x + wq - (wAt vs x + wAt os x) * wd))) (y := .int ((e + f) * wd)) (ev_U (ev_op (ev_op (ev_op (ev_op (x := encL (wp, wq, wd)) (ev_B rfl) ev_I rfl) (ev_V rfl) (d_mul (mulOk_r (by omega) (by omega)))) (ev_op (x := encL (wp, wq, wd)) (ev_B rfl) ev_I rfl) d_add) (ev_op (ev_op (ev_op (ev_B rfl) (ev_V rfl) (d_ixC (k := x) (wAt_get hx) rfl)) (ev_op (ev_B rfl) (ev_V rfl) (d_ixC (k := x) (wAt_get (vs := os) (by omega)) rfl)) d_add) (ev_op (x := encL (wp, wq, wd)) (ev_B rfl) ev_I rfl) (d_mul (mulOk_r (j := wd) (by omega) (by omega)))) d_sub) rfl) (ev_op (ev_op (ev_V rfl) (ev_V rfl) d_add) (ev_op (x := encL (wp, wq, wd)) (ev_B rfl) ev_I rfl) (d_mul (mulOk_r (j := wd) (by omega) (by omega)))) ?_)
    show some (D.bl (decide (_ > _))) = _
    have := absI_le.mpr fin
    rw [decide_eq_false (by omega)]
  rintro Γ ⟨t12, t21, t22, t23, t24, t25, t26, t27, rfl⟩
  have ha : 0 ≤ cell ns (Int.toNat 8) % ((vs.length : Int) + 1) ∧ cell ns (Int.toNat 8) % ((vs.length : Int) + 1) < (vs.length : Int) + 1 := ⟨Int.emod_nonneg _ (by omega), Int.emod_lt_of_pos _ (by omega)⟩
  have hb : 0 ≤ cell ns (Int.toNat 9) % ((vs.length : Int) + 1) ∧ cell ns (Int.toNat 9) % ((vs.length : Int) + 1) < (vs.length : Int) + 1 := ⟨Int.emod_nonneg _ (by omega), Int.emod_lt_of_pos _ (by omega)⟩
  refine wq_set (ev_op (ev_U (ev_call (ev_cs (ev_V rfl) (ev_cs ev_I ev_nl)) (hcell 8 (by decide))) rfl) (ev_op (ev_U (ev_B rfl) lP) ev_I d_add) (d_mod (by omega))) ?_
  refine wq_set (ev_op (ev_U (ev_call (ev_cs (ev_V rfl) (ev_cs ev_I ev_nl)) (hcell 9 (by decide))) rfl) (ev_op (ev_U (ev_B rfl) lP) ev_I d_add) (d_mod (by omega))) ?_
  generalize cell ns (Int.toNat 8) % ((vs.length : Int) + 1) = a at ha
  generalize cell ns (Int.toNat 9) % ((vs.length : Int) + 1) = b at hb
  obtain ⟨a, rfl⟩ := Int.eq_ofNat_of_zero_le ha.1
  obtain ⟨b, rfl⟩ := Int.eq_ofNat_of_zero_le hb.1
  have hus : ∃ us : List (Int × Int × Int × Int), S_part_of [.lst (ps.map encC), .int a, .int b] = some (.lst (us.map encC)) ∧ (b ≤ a → us = []) ∧ (a < b → ∃ t s, At ps (a : Nat) t ∧ At ps ((b : Int) - 1) s ∧ t ≤ s ∧ PtOk ps us a t s) := by
    by_cases z : a < b
    · obtain ⟨t, T⟩ := at_ex P.pk P.ne (x := (a : Nat)) (by omega)
      obtain ⟨s, S⟩ := at_ex P.pk P.ne (x := (b : Int) - 1) (by omega)
      obtain ⟨ts, us, h1, h2⟩ := part_of_eq P z (by omega) T S
      exact ⟨us, h1, fun w => by omega, fun _ => ⟨t, s, T, S, ts, h2⟩⟩
    · exact ⟨[], part_of_nil (by omega), fun _ => rfl, fun w => absurd w z⟩
  obtain ⟨us, hU, unil, uok⟩ := hus
  have ul : us.length ≤ 12 := by
    by_cases z : a < b
    · obtain ⟨t, s, T, S, ts, U⟩ := uok z
      have := U.len
      have := S.lt
      omega
    · rw [unil (by omega)]
      simp
  refine wq_set (ev_call (ev_cs (ev_V rfl) (ev_cs (ev_V rfl) (ev_cs (ev_V rfl) ev_nl))) hU) ?_
  refine wq_ifN (b := false) ?_ rfl ?_
  · by_cases z : a < b
    · exact ev_andF (ev_T (ev_op (ev_V rfl) (ev_V rfl) (by show some (D.bl (decide ((a : Int) ≥ b))) = _; rw [decide_eq_false (by omega)])))
    · exact ev_and (b := true) (c := false) (ev_T (ev_op (ev_V rfl) (ev_V rfl) (by show some (D.bl (decide ((a : Int) ≥ b))) = _; rw [decide_eq_true (by omega)]))) (ev_T (ev_op (x := .lst []) (y := .lst []) (ev_B (by rw [unil (by omega)]; rfl)) (ev_L ev_nl) (ne_same (okd_lst (n := 1) (by simp)) (by omega))))
  refine wq_ifN (b := false) ?_ rfl ?_
  · by_cases z : a < b
    · obtain ⟨t, s, T, S, ts, U⟩ := uok z
      have ul := U.len
      refine ev_and (b := true) (c := false) (ev_T (ev_op (ev_V rfl) (ev_V rfl) (by show some (D.bl (decide ((a : Int) < b))) = _; rw [decide_eq_true (by omega)]))) (ev_or (b := false) (c := false) (ev_T (ev_op (x := .lst ([(0 : Int)].map D.int)) (y := .lst ([(0 : Int)].map D.int)) ?_ (ev_L (ev_cs ev_I ev_nl)) (ne_same (okI _) (by omega)))) (ev_not (b := true) (ev_Tru (ev_call (ev_cs (ev_V rfl) ev_nl) (reds_eq U.red)) rfl)))
      refine (ev_L (ev_Sl (sts_comp (ps := us) rfl (by simp) (by omega)) ev_No (ev_So ev_I) d_cut)).trans ?_
      have e1 : cutD (stsOf us) none (some (1 : Int)) = [0] := by
        have := cutD_to (stsOf us) 1
        refine this.trans ?_
        refine List.ext_getElem? fun k => ?_
        cases k with
        | zero => rw [List.getElem?_take_of_lt (by omega), sts_get (by omega), U.st 0 (by omega), if_pos rfl]; rfl
        | succ k => rw [List.getElem?_eq_none (by simp; omega)]; rfl
      rw [e1]
    · exact ev_andF (ev_T (ev_op (ev_V rfl) (ev_V rfl) (by show some (D.bl (decide ((a : Int) < b))) = _; rw [decide_eq_false (by omega)])))
  refine wq_set (d := .lst ((ps.filter fun c => decide ((a : Int) < c.1) && decide (c.1 < (b : Int))).map fun c => D.int (c.1 - (a : Int)))) (ev_L (ev_lc (ds := ps.map encC) (ev_it (ev_V rfl)) (by simp; omega) (compL_filter _ _ _ _ fun c _ => ⟨_, rfl, ev_ch (ev_V rfl) (ev_chn (ev_op (x := encC c) (ev_B rfl) ev_I rfl) rfl (ev_ch1 (ev_V rfl) rfl)), fun _ => ev_op (ev_op (x := encC c) (ev_B rfl) ev_I rfl) (ev_V rfl) d_sub⟩))) ?_
  refine wq_ifN (b := false) ?_ rfl ?_
  · by_cases z : a < b
    · obtain ⟨t, s, T, S, ts, U⟩ := uok z
      have ul := U.len
      have hin := U.inner P T S ts
      have e2 : ((ps.filter fun c => decide ((a : Int) < c.1) && decide (c.1 < (b : Int))).map fun c => D.int (c.1 - (a : Int))) = ((stsOf us).drop 1).map D.int := by rw [hin, List.map_map]; rfl
      rw [e2]
      refine ev_and (b := true) (c := false) (ev_T (ev_op (ev_V rfl) (ev_V rfl) (by show some (D.bl (decide ((a : Int) < b))) = _; rw [decide_eq_true (by omega)]))) (ev_T (ev_op (x := .lst (((stsOf us).drop 1).map D.int)) ?_ (ev_B rfl) (ne_same (okI _) (by omega))))
      refine (ev_L (ev_Sl (sts_comp (ps := us) rfl (by simp) (by omega)) (ev_So ev_I) ev_No d_cut)).trans ?_
      have := cutD_from (stsOf us) 1
      rw [show ((1 : Nat) : Int) = 1 from rfl] at this
      rw [this]
    · exact ev_andF (ev_T (ev_op (ev_V rfl) (ev_V rfl) (by show some (D.bl (decide ((a : Int) < b))) = _; rw [decide_eq_false (by omega)])))
  refine wq_rng (lo := (a : Nat)) (n := b - a) (fun k Γ => ∃ (t12 t21 t22 t23 t24 t25 t26 t27 : Sl), Γ = [.sh (.scr ns), .sh (.lst (vs.map D.int)), .sh (.lst (os.map D.int)), .sh (.int e), .sh (.int f), .sh (.lst (ps.map encC)), .sh (.lst (qs.map encC)), .sh (.lst [.lst (ps.map encC), .lst (qs.map encC)]), .sh (.lst (ws.map encC)), .sh (.lst ((stsOf ws).map D.int)), .sh (.int fa), .sh (.lst (ms.map encC)), t12, .sh (.int (a : Nat)), .sh (.int (b : Nat)), .sh (.lst (us.map encC)), .sh (.lst ((ps.filter fun c => decide ((a : Int) < c.1) && decide (c.1 < (b : Int))).map fun c => D.int (c.1 - (a : Int)))), .no, .no, .no, .no, t21, t22, t23, t24, t25, t26, t27, .no]) ((ev_rng2 (m := a) (j := b) (ev_cs (ev_V rfl) (ev_cs (ev_V rfl) ev_nl)) (by omega) (by omega) (by omega) (by omega)).trans (by
    have : ((b : Int) - a).toNat = b - a := by omega
    rw [this])) ⟨_, _, _, _, _, _, _, _, rfl⟩ ?_ ?_
  · rintro k Γ hk ⟨t12, t21, t22, t23, t24, t25, t26, t27, rfl⟩
    obtain ⟨x, hx⟩ : ∃ x : Nat, x = a + k := ⟨_, rfl⟩
    have ek : ((a : Nat) : Int) + (k : Nat) = (x : Nat) := by omega
    rw [ek]
    obtain ⟨t, s, T, S, ts, U⟩ := uok (by omega)
    have upk := U.pk P T S.lt
    obtain ⟨i, I⟩ := at_ex P.pk P.ne (x := (x : Nat)) (by omega)
    obtain ⟨J, eij, jl⟩ := U.at_ P T S (x := x) (by omega) (by omega) I
    have lA := line_at_eq P.pk I
    have lU := line_at_eq upk J
    obtain ⟨u60, Ux⟩ := U.ln (i - t) jl
    have Ux := Ux ((x : Int) - a)
    rw [eij] at Ux
    have U1 := (U.red _ (List.mem_iff_getElem?.mpr ⟨i - t, pc_get us jl⟩)).1
    obtain ⟨d1, d2, q2, p2⟩ := P.sm i I.lt
    rcases hA : lnAt ps i with ⟨p, q, d⟩
    rcases hB : lnAt us (i - t) with ⟨r, s, t'⟩
    rw [hA] at d1 d2 q2 p2 lA
    rw [hB] at u60 lU U1
    rw [hA, hB] at Ux
    have ex : (x : Int) - a + a = x := by omega
    rw [ex] at Ux
    simp only at d1 d2 q2 p2 u60 U1 Ux
    refine ⟨_, rfl, ?_⟩
    refine wq_unp (d := encL (p, q, d)) (ev_call (ev_cs (ev_V rfl) (ev_cs (ev_V rfl) ev_nl)) lA) rfl ?_
    show W _ [.sh (.scr ns), .sh (.lst (vs.map D.int)), .sh (.lst (os.map D.int)), .sh (.int e), .sh (.int f), .sh (.lst (ps.map encC)), .sh (.lst (qs.map encC)), .sh (.lst [.lst (ps.map encC), .lst (qs.map encC)]), .sh (.lst (ws.map encC)), .sh (.lst ((stsOf ws).map D.int)), .sh (.int fa), .sh (.lst (ms.map encC)), .sh (.int (x : Nat)), .sh (.int (a : Nat)), .sh (.int (b : Nat)), .sh (.lst (us.map encC)), .sh (.lst ((ps.filter fun c => decide ((a : Int) < c.1) && decide (c.1 < (b : Int))).map fun c => D.int (c.1 - (a : Int)))), .no, .no, .no, .no, .sh (.int p), .sh (.int q), .sh (.int d), t24, t25, t26, t27, .no] _
    exact W_if (b := false) (ev_not (b := true) (ev_Tru (ev_call (ds := [encL (r, s, t'), .int ((x : Int) - a), .int (p * x + q), .int d]) (ev_cs (ev_call (ev_cs (ev_V rfl) (ev_cs (ev_op (ev_V rfl) (ev_V rfl) d_sub) ev_nl)) lU) (ev_cs (ev_op (ev_V rfl) (ev_V rfl) d_sub) (ev_cs (ev_op (ev_op (ev_V rfl) (ev_V rfl) (d_mul (mulOk_r (by omega) (by omega)))) (ev_V rfl) d_add) (ev_cs (ev_V rfl) ev_nl)))) (is_height_eq (l := (r, s, t')) Ux (by omega) (by omega) (by simp only; omega))) rfl)) (fun z => by cases z) fun _ => W_nil ⟨_, _, _, _, _, _, _, _, rfl⟩
  rintro Γ ⟨t12, t21, t22, t23, t24, t25, t26, t27, rfl⟩
  have h100 : 0 ≤ cell ns (Int.toNat 10) % 4 ∧ cell ns (Int.toNat 10) % 4 < 4 := ⟨Int.emod_nonneg _ (by omega), Int.emod_lt_of_pos _ (by omega)⟩
  refine wq_set (ev_op (ev_U (ev_call (ev_cs (ev_V rfl) (ev_cs ev_I ev_nl)) (hcell 10 (by decide))) rfl) ev_I (d_mod (by decide))) ?_
  refine W_seq (W_mono (Q := fun r => ∃ m : Nat, m ≤ 25 ∧ r = .nx [.sh (.scr ns), .sh (.lst (vs.map D.int)), .sh (.lst (os.map D.int)), .sh (.int e), .sh (.int f), .sh (.lst (ps.map encC)), .sh (.lst (qs.map encC)), .sh (.lst [.lst (ps.map encC), .lst (qs.map encC)]), .sh (.lst (ws.map encC)), .sh (.lst ((stsOf ws).map D.int)), .sh (.int fa), .sh (.lst (ms.map encC)), t12, .sh (.int (a : Nat)), .sh (.int (b : Nat)), .sh (.lst (us.map encC)), .sh (.lst ((ps.filter fun c => decide ((a : Int) < c.1) && decide (c.1 < (b : Int))).map fun c => D.int (c.1 - (a : Int)))), .sh (.int (m : Nat)), .no, .no, .no, t21, t22, t23, t24, t25, t26, t27, .no]) (W_if (ev_T (ev_op (ev_op (ev_U (ev_op (ev_call (ev_cs (ev_V rfl) (ev_cs ev_I ev_nl)) (hcell 10 (by decide))) ev_I (d_div (by decide) (by decide +kernel))) rfl) ev_I (d_mod (by decide))) ev_I (d_eq eqOk_int eqOk_int eqd_int))) (fun _ => W_set ev_I ⟨25, by omega, rfl⟩) (fun _ => W_nil ⟨(cell ns (Int.toNat 10) % 4).toNat, by omega, ?_⟩)) ?_)
  · rw [Int.toNat_of_nonneg h100.1]
    rfl
  rintro _ ⟨m, hm, rfl⟩
  obtain ⟨rs, hR, RO⟩ := repeated_eq P (L := vs.length) (m := m) (by omega) hm
  have plt : ∀ i, i < ps.length → stAt ps i < (vs.length : Nat) := fun i hi => CP.lt i hi
  have rpk := RO.pk P hm plt
  have rl := RO.len
  have nb : ∀ k, k ≤ m → k * ps.length ≤ 300 := fun k hk => by
    have := Nat.mul_le_mul (show k ≤ 25 by omega) lp
    omega
  have kb : ∀ k, k ≤ m → (k : Int) * vs.length = ((k * vs.length : Nat) : Int) ∧ k * vs.length ≤ 300 := fun k hk => ⟨by rw [Int.natCast_mul], by
    have := Nat.mul_le_mul (show k ≤ 25 by omega) v12
    omega⟩
  have nbm := nb m (Nat.le_refl _)
  show W (sSeq (sSet 18 _) _) _ _
  refine wq_set (ev_call (ev_cs (ev_V rfl) (ev_cs (ev_U (ev_B rfl) lP) (ev_cs (ev_V rfl) ev_nl))) hR) ?_
  refine wq_setO ev_nl ?_
  refine wq_rng (lo := 0) (n := m) (fun k Γ => ∃ (ds : List Int) (t20 : Sl), Γ = [.sh (.scr ns), .sh (.lst (vs.map D.int)), .sh (.lst (os.map D.int)), .sh (.int e), .sh (.int f), .sh (.lst (ps.map encC)), .sh (.lst (qs.map encC)), .sh (.lst [.lst (ps.map encC), .lst (qs.map encC)]), .sh (.lst (ws.map encC)), .sh (.lst ((stsOf ws).map D.int)), .sh (.int fa), .sh (.lst (ms.map encC)), t12, .sh (.int (a : Nat)), .sh (.int (b : Nat)), .sh (.lst (us.map encC)), .sh (.lst ((ps.filter fun c => decide ((a : Int) < c.1) && decide (c.1 < (b : Int))).map fun c => D.int (c.1 - (a : Int)))), .sh (.int (m : Nat)), .sh (.lst (rs.map encC)), .ow (ds.map D.int), t20, t21, t22, t23, t24, t25, t26, t27, .no] ∧ ds.length = k * ps.length ∧ ∀ k' i, k' < k → i < ps.length → ds[k' * ps.length + i]? = some (stAt ps i + (k' : Int) * vs.length)) ((ev_rng1 (m := m) (ev_cs (ev_V rfl) ev_nl) (by omega) (by omega)).trans (by rw [Int.toNat_natCast])) ⟨[], _, rfl, by simp, fun k' i h => by omega⟩ ?_ ?_
  · rintro k Γ hk ⟨ds, t20, rfl, dl, dat⟩
    have ek : (0 + (k : Nat) : Int) = (k : Nat) := by omega
    rw [ek]
    have nk := nb k (by omega)
    have ⟨ke, kl⟩ := kb k (by omega)
    refine ⟨_, rfl, ?_⟩
    refine ⟨_, sv_ext0 (ds := (((List.range ps.length).map fun i => stAt ps i + (k : Int) * vs.length).map D.int)) (ev_lc (ds := ps.map encC) (ev_it (ev_V rfl)) (by simp; omega) ?_) rfl (by simp; omega), ⟨ds ++ (List.range ps.length).map fun i => stAt ps i + (k : Int) * vs.length, _, by rw [List.map_append]; rfl, ?_, ?_⟩⟩
    · have e1 : ((List.range ps.length).map fun i => stAt ps i + (k : Int) * vs.length).map D.int = ps.map fun c => D.int (c.1 + (k : Int) * vs.length) := by
        refine List.ext_getElem? fun i => ?_
        by_cases hi : i < ps.length
        · rw [List.getElem?_map, List.getElem?_map, List.getElem?_range hi, List.getElem?_map, pc_get ps hi]
          rfl
        · rw [List.getElem?_eq_none (by simp; omega), List.getElem?_eq_none (by simp; omega)]
      rw [e1]
      exact compL_map _ _ _ fun c _ => ⟨_, rfl, ev_op (ev_op (x := encC c) (ev_B rfl) ev_I rfl) (ev_op (ev_V rfl) (ev_U (ev_B rfl) lP) (d_mul (mulOk_r (by omega) (by omega)))) d_add⟩
    · rw [List.length_append, dl, Nat.succ_mul]
      simp
    · intro k' i hk' hi
      by_cases z : k' = k
      · subst z
        rw [List.getElem?_append_right (by omega), dl]
        have e1 : k' * ps.length + i - k' * ps.length = i := by omega
        rw [e1, List.getElem?_map, List.getElem?_range hi]
        rfl
      · have pl := place_lt (k := k') (m := k) (by omega) hi
        rw [List.getElem?_append_left (by omega)]
        exact dat k' i (by omega) hi
  rintro Γ ⟨ds, t20, rfl, dl, dat⟩
  have eds : stsOf rs = ds := by
    refine List.ext_getElem? fun j => ?_
    by_cases hj : j < m * ps.length
    · obtain ⟨k, i, hk, hi, rfl⟩ := divide P.ne hj
      rw [sts_get (by omega), dat k i hk hi, (RO.at_ k i hk hi).1]
    · rw [List.getElem?_eq_none (by rw [stsOf_len]; omega), List.getElem?_eq_none (by omega)]
  refine wq_ifN (b := false) (ev_T (ev_op (x := .lst (ds.map D.int)) (y := .lst (ds.map D.int)) (by rw [← eds]; exact sts_comp (ps := rs) rfl (by simp) (by omega)) (ev_Bo rfl) (ne_same (okI _) (by omega)))) rfl ?_
  have ⟨me, mb⟩ := kb m (Nat.le_refl _)
  refine wq_rng (lo := 0) (n := m * vs.length) (fun k Γ => ∃ (t12 t21 t22 t23 t24 t25 t26 t27 : Sl), Γ = [.sh (.scr ns), .sh (.lst (vs.map D.int)), .sh (.lst (os.map D.int)), .sh (.int e), .sh (.int f), .sh (.lst (ps.map encC)), .sh (.lst (qs.map encC)), .sh (.lst [.lst (ps.map encC), .lst (qs.map encC)]), .sh (.lst (ws.map encC)), .sh (.lst ((stsOf ws).map D.int)), .sh (.int fa), .sh (.lst (ms.map encC)), t12, .sh (.int (a : Nat)), .sh (.int (b : Nat)), .sh (.lst (us.map encC)), .sh (.lst ((ps.filter fun c => decide ((a : Int) < c.1) && decide (c.1 < (b : Int))).map fun c => D.int (c.1 - (a : Int)))), .sh (.int (m : Nat)), .sh (.lst (rs.map encC)), .ow (ds.map D.int), t20, t21, t22, t23, t24, t25, t26, t27, .no]) ((ev_rng1 (m := (m * vs.length : Nat)) (ev_cs (by rw [← me]; exact ev_op (ev_V rfl) (ev_U (ev_B rfl) lP) (d_mul (mulOk_r (by omega) (by omega)))) ev_nl) (by omega) (by omega)).trans (by rw [Int.toNat_natCast])) ⟨_, _, _, _, _, _, _, _, rfl⟩ ?_ ?_
  · rintro x Γ hx ⟨t12, t21, t22, t23, t24, t25, t26, t27, rfl⟩
    have ek : (0 + (x : Nat) : Int) = (x : Nat) := by omega
    rw [ek]
    obtain ⟨k, y, hk, hy, hxy⟩ := divide v0 hx
    have ⟨ke, kl⟩ := kb k (by omega)
    have hmod : (x : Int) % (vs.length : Int) = (y : Nat) := by
      have e1 : x % vs.length = y := by
        rw [hxy, Nat.mul_comm, Nat.mul_add_mod, Nat.mod_eq_of_lt hy]
      omega
    have gmod : ∀ Γ : DEnv, Γ[12]? = some (.sh (.int (x : Nat))) → Γ[1]? = some (.sh (.lst (vs.map D.int))) → gOp dMod (gU dInt (gB 12)) (gU dLen (gB 1)) Γ = some (.int (y : Nat)) := fun Γ g1 g2 => by
      rw [← hmod]
      exact ev_op (ev_U (ev_B g1) rfl) (ev_U (ev_B g2) lP) (d_mod (by omega))
    obtain ⟨i, I⟩ := at_ex P.pk P.ne (x := (y : Nat)) (by omega)
    have J := RO.at' P hk hy I
    have lA := line_at_eq P.pk I
    have lU := line_at_eq rpk J
    obtain ⟨_, u60, Ux⟩ := RO.at_ k i hk I.lt
    have Ux := Ux ((k : Int) * vs.length + y)
    have ey : (k : Int) * vs.length + y - k * vs.length = y := by omega
    rw [ey] at Ux
    have exy : (k : Int) * vs.length + y = (x : Nat) := by omega
    rw [exy] at Ux lU
    have U1 := (RO.red _ (List.mem_iff_getElem?.mpr ⟨_, pc_get rs J.lt⟩)).1
    obtain ⟨d1, d2, q2, p2⟩ := P.sm i I.lt
    rcases hA : lnAt ps i with ⟨p, q, d⟩
    rcases hB : lnAt rs (k * ps.length + i) with ⟨r, s, t'⟩
    rw [hA] at d1 d2 q2 p2 lA
    rw [hB] at u60 lU U1
    rw [hA, hB] at Ux
    simp only at d1 d2 q2 p2 u60 U1 Ux
    refine ⟨_, rfl, ?_⟩
    refine wq_unp (d := encL (p, q, d)) (ev_call (ev_cs (ev_V rfl) (ev_cs (gmod _ rfl rfl) ev_nl)) lA) rfl ?_
    show W _ [.sh (.scr ns), .sh (.lst (vs.map D.int)), .sh (.lst (os.map D.int)), .sh (.int e), .sh (.int f), .sh (.lst (ps.map encC)), .sh (.lst (qs.map encC)), .sh (.lst [.lst (ps.map encC), .lst (qs.map encC)]), .sh (.lst (ws.map encC)), .sh (.lst ((stsOf ws).map D.int)), .sh (.int fa), .sh (.lst (ms.map encC)), .sh (.int (x : Nat)), .sh (.int (a : Nat)), .sh (.int (b : Nat)), .sh (.lst (us.map encC)), .sh (.lst ((ps.filter fun c => decide ((a : Int) < c.1) && decide (c.1 < (b : Int))).map fun c => D.int (c.1 - (a : Int)))), .sh (.int (m : Nat)), .sh (.lst (rs.map encC)), .ow (ds.map D.int), t20, .sh (.int p), .sh (.int q), .sh (.int d), t24, t25, t26, t27, .no] _
    exact W_if (b := false) (ev_not (b := true) (ev_Tru (ev_call (ds := [encL (r, s, t'), .int (x : Nat), .int (p * y + q), .int d]) (ev_cs (ev_call (ev_cs (ev_V rfl) (ev_cs (ev_V rfl) ev_nl)) lU) (ev_cs (ev_V rfl) (ev_cs (ev_op (ev_op (ev_V rfl) (gmod _ rfl rfl) (d_mul (mulOk_r (by omega) (by omega)))) (ev_V rfl) d_add) (ev_cs (ev_V rfl) ev_nl)))) (is_height_eq (l := (r, s, t')) Ux (by omega) (by omega) (by simp only; omega))) rfl)) (fun z => by cases z) fun _ => W_nil ⟨_, _, _, _, _, _, _, _, rfl⟩
  rintro Γ ⟨t12, t21, t22, t23, t24, t25, t26, t27, rfl⟩
  have okL : ∀ l : Int × Int × Int, Okd 2 (encL l) := fun l => okd_tup fun d hd => by
    rcases List.mem_cons.mp hd with rfl | hd
    · exact okd_int _
    rcases List.mem_cons.mp hd with rfl | hd
    · exact okd_int _
    · rw [List.mem_singleton.mp hd]; exact okd_int _
  have okC : ∀ c : Int × Int × Int × Int, Okd 3 (encC c) := fun c => okd_tup fun d hd => by
    rcases List.mem_cons.mp hd with rfl | hd
    · exact ⟨(okd_int _).1, (okd_int _).2.1, by have := (okd_int c.1).2.2; omega⟩
    · rw [List.mem_singleton.mp hd]; exact okL _
  refine W_ret (ev_bl (b := true) (ev_and (b := true) (c := true) (ev_T (ev_call (ev_cs (ev_V rfl) ev_nl) (reds_eq RO.red))) (ev_T (ev_op (x := .lst [.lst (ps.map encC), .lst (qs.map encC)]) (y := .lst [.lst (ps.map encC), .lst (qs.map encC)]) (ev_B rfl) (ev_L (ev_cs (ev_V rfl) (ev_cs (ev_V rfl) ev_nl))) (eq_same (n := 5) (okd_lst fun d hd => ?_) (by omega)))))) rfl
  rcases List.mem_cons.mp hd with rfl | hd
  · exact okd_map okC _
  · rw [List.mem_singleton.mp hd]
    exact okd_map okC _
end K28

namespace K28
open PySem L2 DL
def spLaw0 (K : PySem.W.Frag) : Sp := fun vs H Q _ => ∃ (a : Addr) (ns : List Int), vs = [.ref a] ∧ SqL K H a (ns.map V.int) ∧ ns.length ≤ 63 ∧ ∀ H', Q (.bl true) H'
theorem all_mk {l : PySem.W.OpenLaw} {w : World} {K : PySem.W.Frag} {h : Heap} {mg : Str → Option Value} {fa : Addr} (X : K.In h) (G : h.Ns mainGlobals mg) (hfa : mg "law" = some (.ref fa))
    {C0 : Addr} (gC0 : PySem.W.nsIn K mainGlobals "Cutting" = some (some (.ref C0))) (pg0 : PySem.W.plainGet K C0 Str.empty = true) (hd0 : PySem.W.hasDictIn K C0 = true) (po0 : PySem.W.plainOver K C0 = true) (sa0 : PySem.W.findIn K (.ref C0) "__setattr__" = some (some (.builtin "object.__setattr__")))
    (nf0_0 : PySem.W.findIn K (.ref C0) "pieces" = some none)
    (nf0_1 : PySem.W.findIn K (.ref C0) "reasons" = some none)
    (mk0 : PySem.W.makesIn K C0 = true) (kc0 : PySem.W.keepIn K (.ref C0) = true)
    {C4 : Addr} (gC4 : PySem.W.nsIn K mainGlobals "Strip" = some (some (.ref C4))) (pg4 : PySem.W.plainGet K C4 Str.empty = true) (hd4 : PySem.W.hasDictIn K C4 = true) (po4 : PySem.W.plainOver K C4 = true) (sa4 : PySem.W.findIn K (.ref C4) "__setattr__" = some (some (.builtin "object.__setattr__")))
    (nf4_0 : PySem.W.findIn K (.ref C4) "_upper" = some none)
    (nf4_1 : PySem.W.findIn K (.ref C4) "_lower" = some none)
    (nf4_2 : PySem.W.findIn K (.ref C4) "_greatest" = some none)
    (mk4 : PySem.W.makesIn K C4 = true) (kc4 : PySem.W.keepIn K (.ref C4) = true)
    {C12 : Addr} (gC12 : PySem.W.nsIn K mainGlobals "Coded" = some (some (.ref C12))) (pg12 : PySem.W.plainGet K C12 Str.empty = true) (hd12 : PySem.W.hasDictIn K C12 = true) (po12 : PySem.W.plainOver K C12 = true) (sa12 : PySem.W.findIn K (.ref C12) "__setattr__" = some (some (.builtin "object.__setattr__")))
    (nf12_0 : PySem.W.findIn K (.ref C12) "pieces" = some none)
    (nf12_1 : PySem.W.findIn K (.ref C12) "corrections" = some none)
    (mk12 : PySem.W.makesIn K C12 = true) (kc12 : PySem.W.keepIn K (.ref C12) = true)
    {f1 : Addr} {od1 an1 : Option Addr} {sl1 : Array (Option Value)} {oc1 kV1 dc1 pm1 cd1 ct1 : Value} (a1 : PySem.W.nsIn K mainGlobals "_wall" = some (some (.ref f1))) (l1 : K.lookup f1 = some ⟨oc1, od1, .func (PySem.W.fnOf "_wall" "_wall" (defArgs s__wall) (defBody s__wall) (defScope s__wall) .none kV1 dc1 pm1 an1 cd1 ct1), sl1⟩) (c1 : PySem.W.codeIn K cd1 "_wall" = true) (k1 : PySem.W.keepIn K (.ref f1) = true)
    {f2 : Addr} {od2 an2 : Option Addr} {sl2 : Array (Option Value)} {oc2 kV2 dc2 pm2 cd2 ct2 : Value} (a2 : PySem.W.nsIn K mainGlobals "reduced" = some (some (.ref f2))) (l2 : K.lookup f2 = some ⟨oc2, od2, .func (PySem.W.fnOf "reduced" "reduced" (defArgs s_reduced) (defBody s_reduced) (defScope s_reduced) .none kV2 dc2 pm2 an2 cd2 ct2), sl2⟩) (c2 : PySem.W.codeIn K cd2 "reduced" = true) (k2 : PySem.W.keepIn K (.ref f2) = true)
    {f3 : Addr} {od3 an3 : Option Addr} {sl3 : Array (Option Value)} {oc3 kV3 dc3 pm3 cd3 ct3 : Value} (a3 : PySem.W.nsIn K mainGlobals "floor_at" = some (some (.ref f3))) (l3 : K.lookup f3 = some ⟨oc3, od3, .func (PySem.W.fnOf "floor_at" "floor_at" (defArgs s_floor_at) (defBody s_floor_at) (defScope s_floor_at) .none kV3 dc3 pm3 an3 cd3 ct3), sl3⟩) (c3 : PySem.W.codeIn K cd3 "floor_at" = true) (k3 : PySem.W.keepIn K (.ref f3) = true)
    {f4 : Addr} {od4 an4 : Option Addr} {sl4 : Array (Option Value)} {oc4 kV4 dc4 pm4 cd4 ct4 : Value} (a4 : PySem.W.nsIn K mainGlobals "points_of" = some (some (.ref f4))) (l4 : K.lookup f4 = some ⟨oc4, od4, .func (PySem.W.fnOf "points_of" "points_of" (defArgs s_points_of) (defBody s_points_of) (defScope s_points_of) .none kV4 dc4 pm4 an4 cd4 ct4), sl4⟩) (c4 : PySem.W.codeIn K cd4 "points_of" = true) (k4 : PySem.W.keepIn K (.ref f4) = true)
    {f5 : Addr} {od5 an5 : Option Addr} {sl5 : Array (Option Value)} {oc5 kV5 dc5 pm5 cd5 ct5 : Value} (a5 : PySem.W.nsIn K mainGlobals "piece_at" = some (some (.ref f5))) (l5 : K.lookup f5 = some ⟨oc5, od5, .func (PySem.W.fnOf "piece_at" "piece_at" (defArgs s_piece_at) (defBody s_piece_at) (defScope s_piece_at) .none kV5 dc5 pm5 an5 cd5 ct5), sl5⟩) (c5 : PySem.W.codeIn K cd5 "piece_at" = true) (k5 : PySem.W.keepIn K (.ref f5) = true)
    {f6 : Addr} {od6 an6 : Option Addr} {sl6 : Array (Option Value)} {oc6 kV6 dc6 pm6 cd6 ct6 : Value} (a6 : PySem.W.nsIn K mainGlobals "parts" = some (some (.ref f6))) (l6 : K.lookup f6 = some ⟨oc6, od6, .func (PySem.W.fnOf "parts" "parts" (defArgs s_parts) (defBody s_parts) (defScope s_parts) .none kV6 dc6 pm6 an6 cd6 ct6), sl6⟩) (c6 : PySem.W.codeIn K cd6 "parts" = true) (k6 : PySem.W.keepIn K (.ref f6) = true)
    {f7 : Addr} {od7 an7 : Option Addr} {sl7 : Array (Option Value)} {oc7 kV7 dc7 pm7 cd7 ct7 : Value} (a7 : PySem.W.nsIn K mainGlobals "line_sum" = some (some (.ref f7))) (l7 : K.lookup f7 = some ⟨oc7, od7, .func (PySem.W.fnOf "line_sum" "line_sum" (defArgs s_line_sum) (defBody s_line_sum) (defScope s_line_sum) .none kV7 dc7 pm7 an7 cd7 ct7), sl7⟩) (c7 : PySem.W.codeIn K cd7 "line_sum" = true) (k7 : PySem.W.keepIn K (.ref f7) = true)
    {f8 : Addr} {od8 an8 : Option Addr} {sl8 : Array (Option Value)} {oc8 kV8 dc8 pm8 cd8 ct8 : Value} (a8 : PySem.W.nsIn K mainGlobals "line_over" = some (some (.ref f8))) (l8 : K.lookup f8 = some ⟨oc8, od8, .func (PySem.W.fnOf "line_over" "line_over" (defArgs s_line_over) (defBody s_line_over) (defScope s_line_over) .none kV8 dc8 pm8 an8 cd8 ct8), sl8⟩) (c8 : PySem.W.codeIn K cd8 "line_over" = true) (k8 : PySem.W.keepIn K (.ref f8) = true)
    {f9 : Addr} {od9 an9 : Option Addr} {sl9 : Array (Option Value)} {oc9 kV9 dc9 pm9 cd9 ct9 : Value} (a9 : PySem.W.nsIn K mainGlobals "added" = some (some (.ref f9))) (l9 : K.lookup f9 = some ⟨oc9, od9, .func (PySem.W.fnOf "added" "added" (defArgs s_added) (defBody s_added) (defScope s_added) .none kV9 dc9 pm9 an9 cd9 ct9), sl9⟩) (c9 : PySem.W.codeIn K cd9 "added" = true) (k9 : PySem.W.keepIn K (.ref f9) = true)
    {f10 : Addr} {od10 an10 : Option Addr} {sl10 : Array (Option Value)} {oc10 kV10 dc10 pm10 cd10 ct10 : Value} (a10 : PySem.W.nsIn K mainGlobals "scaled" = some (some (.ref f10))) (l10 : K.lookup f10 = some ⟨oc10, od10, .func (PySem.W.fnOf "scaled" "scaled" (defArgs s_scaled) (defBody s_scaled) (defScope s_scaled) .none kV10 dc10 pm10 an10 cd10 ct10), sl10⟩) (c10 : PySem.W.codeIn K cd10 "scaled" = true) (k10 : PySem.W.keepIn K (.ref f10) = true)
    {f11 : Addr} {od11 an11 : Option Addr} {sl11 : Array (Option Value)} {oc11 kV11 dc11 pm11 cd11 ct11 : Value} (a11 : PySem.W.nsIn K mainGlobals "moved" = some (some (.ref f11))) (l11 : K.lookup f11 = some ⟨oc11, od11, .func (PySem.W.fnOf "moved" "moved" (defArgs s_moved) (defBody s_moved) (defScope s_moved) .none kV11 dc11 pm11 an11 cd11 ct11), sl11⟩) (c11 : PySem.W.codeIn K cd11 "moved" = true) (k11 : PySem.W.keepIn K (.ref f11) = true)
    {f12 : Addr} {od12 an12 : Option Addr} {sl12 : Array (Option Value)} {oc12 kV12 dc12 pm12 cd12 ct12 : Value} (a12 : PySem.W.nsIn K mainGlobals "part_of" = some (some (.ref f12))) (l12 : K.lookup f12 = some ⟨oc12, od12, .func (PySem.W.fnOf "part_of" "part_of" (defArgs s_part_of) (defBody s_part_of) (defScope s_part_of) .none kV12 dc12 pm12 an12 cd12 ct12), sl12⟩) (c12 : PySem.W.codeIn K cd12 "part_of" = true) (k12 : PySem.W.keepIn K (.ref f12) = true)
    {f13 : Addr} {od13 an13 : Option Addr} {sl13 : Array (Option Value)} {oc13 kV13 dc13 pm13 cd13 ct13 : Value} (a13 : PySem.W.nsIn K mainGlobals "repeated" = some (some (.ref f13))) (l13 : K.lookup f13 = some ⟨oc13, od13, .func (PySem.W.fnOf "repeated" "repeated" (defArgs s_repeated) (defBody s_repeated) (defScope s_repeated) .none kV13 dc13 pm13 an13 cd13 ct13), sl13⟩) (c13 : PySem.W.codeIn K cd13 "repeated" = true) (k13 : PySem.W.keepIn K (.ref f13) = true)
    {f14 : Addr} {od14 an14 : Option Addr} {sl14 : Array (Option Value)} {oc14 kV14 dc14 pm14 cd14 ct14 : Value} (a14 : PySem.W.nsIn K mainGlobals "kept" = some (some (.ref f14))) (l14 : K.lookup f14 = some ⟨oc14, od14, .func (PySem.W.fnOf "kept" "kept" (defArgs s_kept) (defBody s_kept) (defScope s_kept) .none kV14 dc14 pm14 an14 cd14 ct14), sl14⟩) (c14 : PySem.W.codeIn K cd14 "kept" = true) (k14 : PySem.W.keepIn K (.ref f14) = true)
    {f15 : Addr} {od15 an15 : Option Addr} {sl15 : Array (Option Value)} {oc15 kV15 dc15 pm15 cd15 ct15 : Value} (a15 : PySem.W.nsIn K mainGlobals "farthest" = some (some (.ref f15))) (l15 : K.lookup f15 = some ⟨oc15, od15, .func (PySem.W.fnOf "farthest" "farthest" (defArgs s_farthest) (defBody s_farthest) (defScope s_farthest) .none kV15 dc15 pm15 an15 cd15 ct15), sl15⟩) (c15 : PySem.W.codeIn K cd15 "farthest" = true) (k15 : PySem.W.keepIn K (.ref f15) = true)
    {f16 : Addr} {od16 an16 : Option Addr} {sl16 : Array (Option Value)} {oc16 kV16 dc16 pm16 cd16 ct16 : Value} (a16 : PySem.W.nsIn K mainGlobals "exceeds" = some (some (.ref f16))) (l16 : K.lookup f16 = some ⟨oc16, od16, .func (PySem.W.fnOf "exceeds" "exceeds" (defArgs s_exceeds) (defBody s_exceeds) (defScope s_exceeds) .none kV16 dc16 pm16 an16 cd16 ct16), sl16⟩) (c16 : PySem.W.codeIn K cd16 "exceeds" = true) (k16 : PySem.W.keepIn K (.ref f16) = true)
    {f17 : Addr} {od17 an17 : Option Addr} {sl17 : Array (Option Value)} {oc17 kV17 dc17 pm17 cd17 ct17 : Value} (a17 : PySem.W.nsIn K mainGlobals "middle_line" = some (some (.ref f17))) (l17 : K.lookup f17 = some ⟨oc17, od17, .func (PySem.W.fnOf "middle_line" "middle_line" (defArgs s_middle_line) (defBody s_middle_line) (defScope s_middle_line) .none kV17 dc17 pm17 an17 cd17 ct17), sl17⟩) (c17 : PySem.W.codeIn K cd17 "middle_line" = true) (k17 : PySem.W.keepIn K (.ref f17) = true)
    {f18 : Addr} {od18 an18 : Option Addr} {sl18 : Array (Option Value)} {oc18 kV18 dc18 pm18 cd18 ct18 : Value} (a18 : PySem.W.nsIn K mainGlobals "indexes_of" = some (some (.ref f18))) (l18 : K.lookup f18 = some ⟨oc18, od18, .func (PySem.W.fnOf "indexes_of" "indexes_of" (defArgs s_indexes_of) (defBody s_indexes_of) (defScope s_indexes_of) .none kV18 dc18 pm18 an18 cd18 ct18), sl18⟩) (c18 : PySem.W.codeIn K cd18 "indexes_of" = true) (k18 : PySem.W.keepIn K (.ref f18) = true)
    {f19 : Addr} {od19 an19 : Option Addr} {sl19 : Array (Option Value)} {oc19 kV19 dc19 pm19 cd19 ct19 : Value} (a19 : PySem.W.nsIn K mainGlobals "deviation_under" = some (some (.ref f19))) (l19 : K.lookup f19 = some ⟨oc19, od19, .func (PySem.W.fnOf "deviation_under" "deviation_under" (defArgs s_deviation_under) (defBody s_deviation_under) (defScope s_deviation_under) .none kV19 dc19 pm19 an19 cd19 ct19), sl19⟩) (c19 : PySem.W.codeIn K cd19 "deviation_under" = true) (k19 : PySem.W.keepIn K (.ref f19) = true)
    {f20 : Addr} {od20 an20 : Option Addr} {sl20 : Array (Option Value)} {oc20 kV20 dc20 pm20 cd20 ct20 : Value} (a20 : PySem.W.findIn K (.ref C4) "__init__" = some (some (.ref f20))) (i20 : PySem.W.isFn K (.ref f20) = true) (l20 : K.lookup f20 = some ⟨oc20, od20, .func (PySem.W.fnOf "__init__" "Strip.__init__" (defArgs s_Strip___init__) (defBody s_Strip___init__) (defScope s_Strip___init__) .none kV20 dc20 pm20 an20 cd20 ct20), sl20⟩) (c20 : PySem.W.codeIn K cd20 "Strip.__init__" = true) (k20 : PySem.W.keepIn K (.ref f20) = true)
    {f21 : Addr} {od21 an21 : Option Addr} {sl21 : Array (Option Value)} {oc21 kV21 dc21 pm21 cd21 ct21 : Value} (a21 : PySem.W.findIn K (.ref C4) "step_with" = some (some (.ref f21))) (i21 : PySem.W.isFn K (.ref f21) = true) (l21 : K.lookup f21 = some ⟨oc21, od21, .func (PySem.W.fnOf "step_with" "Strip.step_with" (defArgs s_Strip_step_with) (defBody s_Strip_step_with) (defScope s_Strip_step_with) .none kV21 dc21 pm21 an21 cd21 ct21), sl21⟩) (c21 : PySem.W.codeIn K cd21 "Strip.step_with" = true) (k21 : PySem.W.keepIn K (.ref f21) = true)
    {f22 : Addr} {od22 an22 : Option Addr} {sl22 : Array (Option Value)} {oc22 kV22 dc22 pm22 cd22 ct22 : Value} (a22 : PySem.W.findIn K (.ref C4) "take" = some (some (.ref f22))) (i22 : PySem.W.isFn K (.ref f22) = true) (l22 : K.lookup f22 = some ⟨oc22, od22, .func (PySem.W.fnOf "take" "Strip.take" (defArgs s_Strip_take) (defBody s_Strip_take) (defScope s_Strip_take) .none kV22 dc22 pm22 an22 cd22 ct22), sl22⟩) (c22 : PySem.W.codeIn K cd22 "Strip.take" = true) (k22 : PySem.W.keepIn K (.ref f22) = true)
    {f23 : Addr} {od23 an23 : Option Addr} {sl23 : Array (Option Value)} {oc23 kV23 dc23 pm23 cd23 ct23 : Value} (a23 : PySem.W.findIn K (.ref C4) "line" = some (some (.ref f23))) (i23 : PySem.W.isFn K (.ref f23) = true) (l23 : K.lookup f23 = some ⟨oc23, od23, .func (PySem.W.fnOf "line" "Strip.line" (defArgs s_Strip_line) (defBody s_Strip_line) (defScope s_Strip_line) .none kV23 dc23 pm23 an23 cd23 ct23), sl23⟩) (c23 : PySem.W.codeIn K cd23 "Strip.line" = true) (k23 : PySem.W.keepIn K (.ref f23) = true)
    {f24 : Addr} {od24 an24 : Option Addr} {sl24 : Array (Option Value)} {oc24 kV24 dc24 pm24 cd24 ct24 : Value} (a24 : PySem.W.nsIn K mainGlobals "longest_piece" = some (some (.ref f24))) (l24 : K.lookup f24 = some ⟨oc24, od24, .func (PySem.W.fnOf "longest_piece" "longest_piece" (defArgs s_longest_piece) (defBody s_longest_piece) (defScope s_longest_piece) .none kV24 dc24 pm24 an24 cd24 ct24), sl24⟩) (c24 : PySem.W.codeIn K cd24 "longest_piece" = true) (k24 : PySem.W.keepIn K (.ref f24) = true)
    {f25 : Addr} {od25 an25 : Option Addr} {sl25 : Array (Option Value)} {oc25 kV25 dc25 pm25 cd25 ct25 : Value} (a25 : PySem.W.nsIn K mainGlobals "taken_in_turn" = some (some (.ref f25))) (l25 : K.lookup f25 = some ⟨oc25, od25, .func (PySem.W.fnOf "taken_in_turn" "taken_in_turn" (defArgs s_taken_in_turn) (defBody s_taken_in_turn) (defScope s_taken_in_turn) .none kV25 dc25 pm25 an25 cd25 ct25), sl25⟩) (c25 : PySem.W.codeIn K cd25 "taken_in_turn" = true) (k25 : PySem.W.keepIn K (.ref f25) = true)
    {f26 : Addr} {od26 an26 : Option Addr} {sl26 : Array (Option Value)} {oc26 kV26 dc26 pm26 cd26 ct26 : Value} (a26 : PySem.W.findIn K (.ref C0) "__init__" = some (some (.ref f26))) (i26 : PySem.W.isFn K (.ref f26) = true) (l26 : K.lookup f26 = some ⟨oc26, od26, .func (PySem.W.fnOf "__init__" "Cutting.__init__" (defArgs s_Cutting___init__) (defBody s_Cutting___init__) (defScope s_Cutting___init__) .none kV26 dc26 pm26 an26 cd26 ct26), sl26⟩) (c26 : PySem.W.codeIn K cd26 "Cutting.__init__" = true) (k26 : PySem.W.keepIn K (.ref f26) = true)
    {f27 : Addr} {od27 an27 : Option Addr} {sl27 : Array (Option Value)} {oc27 kV27 dc27 pm27 cd27 ct27 : Value} (a27 : PySem.W.nsIn K mainGlobals "cut" = some (some (.ref f27))) (l27 : K.lookup f27 = some ⟨oc27, od27, .func (PySem.W.fnOf "cut" "cut" (defArgs s_cut) (defBody s_cut) (defScope s_cut) .none kV27 dc27 pm27 an27 cd27 ct27), sl27⟩) (c27 : PySem.W.codeIn K cd27 "cut" = true) (k27 : PySem.W.keepIn K (.ref f27) = true)
    {cL27 PL27 : Addr} {oq27 : Option Addr} {vl27 : Array Value} {os27 : Array (Option Value)} (e27 : cd27 = .ref cL27) (lc27 : K.lookup cL27 = some ⟨.type "code", oq27, .fields vl27, os27⟩) (vp27 : vl27[11]? = some (.ref PL27))
    (t027 : h.get? PL27 = some (PySem.W.tabObj #[])) (nk27 : K.lookup PL27 = none) (hc27 : PySem.W.codeHdIn K cL27 PL27 = true)
    {f28 : Addr} {od28 an28 : Option Addr} {sl28 : Array (Option Value)} {oc28 kV28 dc28 pm28 cd28 ct28 : Value} (a28 : PySem.W.nsIn K mainGlobals "floors_over" = some (some (.ref f28))) (l28 : K.lookup f28 = some ⟨oc28, od28, .func (PySem.W.fnOf "floors_over" "floors_over" (defArgs s_floors_over) (defBody s_floors_over) (defScope s_floors_over) .none kV28 dc28 pm28 an28 cd28 ct28), sl28⟩) (c28 : PySem.W.codeIn K cd28 "floors_over" = true) (k28 : PySem.W.keepIn K (.ref f28) = true)
    {f29 : Addr} {od29 an29 : Option Addr} {sl29 : Array (Option Value)} {oc29 kV29 dc29 pm29 cd29 ct29 : Value} (a29 : PySem.W.nsIn K mainGlobals "_law_cell" = some (some (.ref f29))) (l29 : K.lookup f29 = some ⟨oc29, od29, .func (PySem.W.fnOf "_law_cell" "_law_cell" (defArgs s__law_cell) (defBody s__law_cell) (defScope s__law_cell) .none kV29 dc29 pm29 an29 cd29 ct29), sl29⟩) (c29 : PySem.W.codeIn K cd29 "_law_cell" = true) (k29 : PySem.W.keepIn K (.ref f29) = true)
    {f30 : Addr} {od30 an30 : Option Addr} {sl30 : Array (Option Value)} {oc30 kV30 dc30 pm30 cd30 ct30 : Value} (a30 : PySem.W.nsIn K mainGlobals "_law_digits" = some (some (.ref f30))) (l30 : K.lookup f30 = some ⟨oc30, od30, .func (PySem.W.fnOf "_law_digits" "_law_digits" (defArgs s__law_digits) (defBody s__law_digits) (defScope s__law_digits) .none kV30 dc30 pm30 an30 cd30 ct30), sl30⟩) (c30 : PySem.W.codeIn K cd30 "_law_digits" = true) (k30 : PySem.W.keepIn K (.ref f30) = true)
    {f31 : Addr} {od31 an31 : Option Addr} {sl31 : Array (Option Value)} {oc31 kV31 dc31 pm31 cd31 ct31 : Value} (a31 : PySem.W.nsIn K mainGlobals "_law_values" = some (some (.ref f31))) (l31 : K.lookup f31 = some ⟨oc31, od31, .func (PySem.W.fnOf "_law_values" "_law_values" (defArgs s__law_values) (defBody s__law_values) (defScope s__law_values) .none kV31 dc31 pm31 an31 cd31 ct31), sl31⟩) (c31 : PySem.W.codeIn K cd31 "_law_values" = true) (k31 : PySem.W.keepIn K (.ref f31) = true)
    {f32 : Addr} {od32 an32 : Option Addr} {sl32 : Array (Option Value)} {oc32 kV32 dc32 pm32 cd32 ct32 : Value} (a32 : PySem.W.nsIn K mainGlobals "_law_error_of" = some (some (.ref f32))) (l32 : K.lookup f32 = some ⟨oc32, od32, .func (PySem.W.fnOf "_law_error_of" "_law_error_of" (defArgs s__law_error_of) (defBody s__law_error_of) (defScope s__law_error_of) .none kV32 dc32 pm32 an32 cd32 ct32), sl32⟩) (c32 : PySem.W.codeIn K cd32 "_law_error_of" = true) (k32 : PySem.W.keepIn K (.ref f32) = true)
    {f33 : Addr} {od33 an33 : Option Addr} {sl33 : Array (Option Value)} {oc33 kV33 dc33 pm33 cd33 ct33 : Value} (a33 : PySem.W.nsIn K mainGlobals "_law_line_at" = some (some (.ref f33))) (l33 : K.lookup f33 = some ⟨oc33, od33, .func (PySem.W.fnOf "_law_line_at" "_law_line_at" (defArgs s__law_line_at) (defBody s__law_line_at) (defScope s__law_line_at) .none kV33 dc33 pm33 an33 cd33 ct33), sl33⟩) (c33 : PySem.W.codeIn K cd33 "_law_line_at" = true) (k33 : PySem.W.keepIn K (.ref f33) = true)
    {f34 : Addr} {od34 an34 : Option Addr} {sl34 : Array (Option Value)} {oc34 kV34 dc34 pm34 cd34 ct34 : Value} (a34 : PySem.W.nsIn K mainGlobals "_law_is_height" = some (some (.ref f34))) (l34 : K.lookup f34 = some ⟨oc34, od34, .func (PySem.W.fnOf "_law_is_height" "_law_is_height" (defArgs s__law_is_height) (defBody s__law_is_height) (defScope s__law_is_height) .none kV34 dc34 pm34 an34 cd34 ct34), sl34⟩) (c34 : PySem.W.codeIn K cd34 "_law_is_height" = true) (k34 : PySem.W.keepIn K (.ref f34) = true)
    {f35 : Addr} {od35 an35 : Option Addr} {sl35 : Array (Option Value)} {oc35 kV35 dc35 pm35 cd35 ct35 : Value} (a35 : PySem.W.nsIn K mainGlobals "_law_are_reduced" = some (some (.ref f35))) (l35 : K.lookup f35 = some ⟨oc35, od35, .func (PySem.W.fnOf "_law_are_reduced" "_law_are_reduced" (defArgs s__law_are_reduced) (defBody s__law_are_reduced) (defScope s__law_are_reduced) .none kV35 dc35 pm35 an35 cd35 ct35), sl35⟩) (c35 : PySem.W.codeIn K cd35 "_law_are_reduced" = true) (k35 : PySem.W.keepIn K (.ref f35) = true)
    {f36 : Addr} {od36 an36 : Option Addr} {sl36 : Array (Option Value)} {oc36 kV36 dc36 pm36 cd36 ct36 : Value} (a36 : PySem.W.nsIn K mainGlobals "_law_second" = some (some (.ref f36))) (l36 : K.lookup f36 = some ⟨oc36, od36, .func (PySem.W.fnOf "_law_second" "_law_second" (defArgs s__law_second) (defBody s__law_second) (defScope s__law_second) .none kV36 dc36 pm36 an36 cd36 ct36), sl36⟩) (c36 : PySem.W.codeIn K cd36 "_law_second" = true) (k36 : PySem.W.keepIn K (.ref f36) = true)
    {f37 : Addr} {od37 an37 : Option Addr} {sl37 : Array (Option Value)} {oc37 kV37 dc37 pm37 cd37 ct37 : Value} (a37 : PySem.W.findIn K (.ref C12) "__init__" = some (some (.ref f37))) (i37 : PySem.W.isFn K (.ref f37) = true) (l37 : K.lookup f37 = some ⟨oc37, od37, .func (PySem.W.fnOf "__init__" "Coded.__init__" (defArgs s_Coded___init__) (defBody s_Coded___init__) (defScope s_Coded___init__) .none kV37 dc37 pm37 an37 cd37 ct37), sl37⟩) (c37 : PySem.W.codeIn K cd37 "Coded.__init__" = true) (k37 : PySem.W.keepIn K (.ref f37) = true)
    {f38 : Addr} {od38 an38 : Option Addr} {sl38 : Array (Option Value)} {oc38 kV38 dc38 pm38 cd38 ct38 : Value} (a38 : PySem.W.nsIn K mainGlobals "law" = some (some (.ref f38))) (l38 : K.lookup f38 = some ⟨oc38, od38, .func (PySem.W.fnOf "law" "law" (defArgs s_law) (defBody s_law) (defScope s_law) .none kV38 dc38 pm38 an38 cd38 ct38), sl38⟩) (c38 : PySem.W.codeIn K cd38 "law" = true) (k38 : PySem.W.keepIn K (.ref f38) = true)
    {f39 : Addr} {od39 an39 : Option Addr} {sl39 : Array (Option Value)} {oc39 kV39 dc39 pm39 cd39 ct39 : Value} (a39 : PySem.W.findIn K (.ref C12) "value_at" = some (some (.ref f39))) (i39 : PySem.W.isFn K (.ref f39) = true) (l39 : K.lookup f39 = some ⟨oc39, od39, .func (PySem.W.fnOf "value_at" "Coded.value_at" (defArgs s_Coded_value_at) (defBody s_Coded_value_at) (defScope s_Coded_value_at) .none kV39 dc39 pm39 an39 cd39 ct39), sl39⟩) (c39 : PySem.W.codeIn K cd39 "Coded.value_at" = true) (k39 : PySem.W.keepIn K (.ref f39) = true)
    {f40 : Addr} {od40 an40 : Option Addr} {sl40 : Array (Option Value)} {oc40 kV40 dc40 pm40 cd40 ct40 : Value} (a40 : PySem.W.findIn K (.ref C12) "decoded" = some (some (.ref f40))) (i40 : PySem.W.isFn K (.ref f40) = true) (l40 : K.lookup f40 = some ⟨oc40, od40, .func (PySem.W.fnOf "decoded" "Coded.decoded" (defArgs s_Coded_decoded) (defBody s_Coded_decoded) (defScope s_Coded_decoded) .none kV40 dc40 pm40 an40 cd40 ct40), sl40⟩) (c40 : PySem.W.codeIn K cd40 "Coded.decoded" = true) (k40 : PySem.W.keepIn K (.ref f40) = true)
    (z_gcd : PySem.W.nsIn K mainGlobals "gcd" = some (some (.builtin "math.gcd")))
    (z_list : PySem.W.nsIn K mainGlobals "list" = some none)
    (z_enumerate : PySem.W.nsIn K mainGlobals "enumerate" = some none)
    (z_len : PySem.W.nsIn K mainGlobals "len" = some none)
    (z_min : PySem.W.nsIn K mainGlobals "min" = some none)
    (z_max : PySem.W.nsIn K mainGlobals "max" = some none)
    (z_sorted : PySem.W.nsIn K mainGlobals "sorted" = some none)
    (z_set : PySem.W.nsIn K mainGlobals "set" = some none)
    (z_range : PySem.W.nsIn K mainGlobals "range" = some none)
    (z_int : PySem.W.nsIn K mainGlobals "int" = some none)
    (z_abs : PySem.W.nsIn K mainGlobals "abs" = some none)
    (z_zip : PySem.W.nsIn K mainGlobals "zip" = some none)
    (ndT : [PL27].Nodup) :
    LamX.LawAtS l w K CX0 10 63 "script" mg fa h := by
  letI TCi : TabCtx := tabCx ([(PL27, lamQ "cut")] : List (Addr × Str))
  have e := hfa.symm.trans (PySem.W.mg_of X G a38)
  cases e
  have M_gcd := PySem.W.mg_of X G z_gcd
  have M_list := PySem.W.mg_none_of X G z_list
  have M_enumerate := PySem.W.mg_none_of X G z_enumerate
  have M_len := PySem.W.mg_none_of X G z_len
  have M_min := PySem.W.mg_none_of X G z_min
  have M_max := PySem.W.mg_none_of X G z_max
  have M_sorted := PySem.W.mg_none_of X G z_sorted
  have M_set := PySem.W.mg_none_of X G z_set
  have M_range := PySem.W.mg_none_of X G z_range
  have M_int := PySem.W.mg_none_of X G z_int
  have M_abs := PySem.W.mg_none_of X G z_abs
  have M_zip := PySem.W.mg_none_of X G z_zip
  have M_ck0 : CK K mg 0 C0 := ⟨PySem.W.mg_of X G gC0, ⟨pg0, hd0, po0, sa0⟩, by
    intro x hx
    replace hx : x ∈ (["pieces", "reasons"] : List Str) := hx
    simp only [List.mem_cons, List.not_mem_nil, or_false] at hx
    rcases hx with hx | hx
    all_goals (subst hx; assumption)⟩
  have M_ck4 : CK K mg 4 C4 := ⟨PySem.W.mg_of X G gC4, ⟨pg4, hd4, po4, sa4⟩, by
    intro x hx
    replace hx : x ∈ (["_upper", "_lower", "_greatest"] : List Str) := hx
    simp only [List.mem_cons, List.not_mem_nil, or_false] at hx
    rcases hx with hx | hx | hx
    all_goals (subst hx; assumption)⟩
  have M_ck12 : CK K mg 12 C12 := ⟨PySem.W.mg_of X G gC12, ⟨pg12, hd12, po12, sa12⟩, by
    intro x hx
    replace hx : x ∈ (["pieces", "corrections"] : List Str) := hx
    simp only [List.mem_cons, List.not_mem_nil, or_false] at hx
    rcases hx with hx | hx
    all_goals (subst hx; assumption)⟩
  have F1 := fun_mk (st := s__wall) l1 c1 k1
  have b1 := F1.binds (ps := ["k"]) fun _ _ _ _ _ _ us hl => match us, hl with | [_], _ => rfl
  have C__wall : ∀ base : Heap, (∀ p ∈ ([(cL27, PL27)] : List (Addr × Addr)), LamX.TabB base mg p.1 p.2) → Cal l.prog w K mg base "_wall" 1 ["k"] S__wall := fun base TBs => ⟨f1, _, ok__wall F1, PySem.W.mg_of X G a1, k1, b1⟩
  have F2 := fun_mk (st := s_reduced) l2 c2 k2
  have b2 := F2.binds (ps := ["line"]) fun _ _ _ _ _ _ us hl => match us, hl with | [_], _ => rfl
  have C_reduced : ∀ base : Heap, (∀ p ∈ ([(cL27, PL27)] : List (Addr × Addr)), LamX.TabB base mg p.1 p.2) → Cal l.prog w K mg base "reduced" 1 ["line"] S_reduced := fun base TBs => ⟨f2, _, ok_reduced F2 M_gcd, PySem.W.mg_of X G a2, k2, b2⟩
  have F3 := fun_mk (st := s_floor_at) l3 c3 k3
  have b3 := F3.binds (ps := ["line", "place"]) fun _ _ _ _ _ _ us hl => match us, hl with | [_, _], _ => rfl
  have C_floor_at : ∀ base : Heap, (∀ p ∈ ([(cL27, PL27)] : List (Addr × Addr)), LamX.TabB base mg p.1 p.2) → Cal l.prog w K mg base "floor_at" 1 ["line", "place"] S_floor_at := fun base TBs => ⟨f3, _, ok_floor_at F3, PySem.W.mg_of X G a3, k3, b3⟩
  have F4 := fun_mk (st := s_points_of) l4 c4 k4
  have b4 := F4.binds (ps := ["values"]) fun _ _ _ _ _ _ us hl => match us, hl with | [_], _ => rfl
  have C_points_of : ∀ base : Heap, (∀ p ∈ ([(cL27, PL27)] : List (Addr × Addr)), LamX.TabB base mg p.1 p.2) → Cal l.prog w K mg base "points_of" 1 ["values"] S_points_of := fun base TBs => ⟨f4, _, ok_points_of F4 M_list M_enumerate, PySem.W.mg_of X G a4, k4, b4⟩
  have F5 := fun_mk (st := s_piece_at) l5 c5 k5
  have b5 := F5.binds (ps := ["pieces", "index"]) fun _ _ _ _ _ _ us hl => match us, hl with | [_, _], _ => rfl
  have C_piece_at : ∀ base : Heap, (∀ p ∈ ([(cL27, PL27)] : List (Addr × Addr)), LamX.TabB base mg p.1 p.2) → Cal l.prog w K mg base "piece_at" 1 ["pieces", "index"] S_piece_at := fun base TBs => ⟨f5, _, ok_piece_at F5 M_len, PySem.W.mg_of X G a5, k5, b5⟩
  have F6 := fun_mk (st := s_parts) l6 c6 k6
  have b6 := F6.binds (ps := ["pieces", "a", "b"]) fun _ _ _ _ _ _ us hl => match us, hl with | [_, _, _], _ => rfl
  have C_parts : ∀ base : Heap, (∀ p ∈ ([(cL27, PL27)] : List (Addr × Addr)), LamX.TabB base mg p.1 p.2) → Cal l.prog w K mg base "parts" 2 ["pieces", "a", "b"] S_parts := fun base TBs => ⟨f6, _, ok_parts F6 (C_piece_at base TBs) M_len M_min M_max, PySem.W.mg_of X G a6, k6, b6⟩
  have F7 := fun_mk (st := s_line_sum) l7 c7 k7
  have b7 := F7.binds (ps := ["one", "other"]) fun _ _ _ _ _ _ us hl => match us, hl with | [_, _], _ => rfl
  have C_line_sum : ∀ base : Heap, (∀ p ∈ ([(cL27, PL27)] : List (Addr × Addr)), LamX.TabB base mg p.1 p.2) → Cal l.prog w K mg base "line_sum" 2 ["one", "other"] S_line_sum := fun base TBs => ⟨f7, _, ok_line_sum F7 (C_reduced base TBs), PySem.W.mg_of X G a7, k7, b7⟩
  have F8 := fun_mk (st := s_line_over) l8 c8 k8
  have b8 := F8.binds (ps := ["pieces", "index"]) fun _ _ _ _ _ _ us hl => match us, hl with | [_, _], _ => rfl
  have C_line_over : ∀ base : Heap, (∀ p ∈ ([(cL27, PL27)] : List (Addr × Addr)), LamX.TabB base mg p.1 p.2) → Cal l.prog w K mg base "line_over" 2 ["pieces", "index"] S_line_over := fun base TBs => ⟨f8, _, ok_line_over F8 (C_piece_at base TBs), PySem.W.mg_of X G a8, k8, b8⟩
  have F9 := fun_mk (st := s_added) l9 c9 k9
  have b9 := F9.binds (ps := ["one", "other"]) fun _ _ _ _ _ _ us hl => match us, hl with | [_, _], _ => rfl
  have C_added : ∀ base : Heap, (∀ p ∈ ([(cL27, PL27)] : List (Addr × Addr)), LamX.TabB base mg p.1 p.2) → Cal l.prog w K mg base "added" 3 ["one", "other"] S_added := fun base TBs => ⟨f9, _, ok_added F9 M_sorted M_set (C_line_over base TBs) (C_line_sum base TBs), PySem.W.mg_of X G a9, k9, b9⟩
  have F10 := fun_mk (st := s_scaled) l10 c10 k10
  have b10 := F10.binds (ps := ["pieces", "factor"]) fun _ _ _ _ _ _ us hl => match us, hl with | [_, _], _ => rfl
  have C_scaled : ∀ base : Heap, (∀ p ∈ ([(cL27, PL27)] : List (Addr × Addr)), LamX.TabB base mg p.1 p.2) → Cal l.prog w K mg base "scaled" 2 ["pieces", "factor"] S_scaled := fun base TBs => ⟨f10, _, ok_scaled F10 (C_reduced base TBs), PySem.W.mg_of X G a10, k10, b10⟩
  have F11 := fun_mk (st := s_moved) l11 c11 k11
  have b11 := F11.binds (ps := ["line", "offset"]) fun _ _ _ _ _ _ us hl => match us, hl with | [_, _], _ => rfl
  have C_moved : ∀ base : Heap, (∀ p ∈ ([(cL27, PL27)] : List (Addr × Addr)), LamX.TabB base mg p.1 p.2) → Cal l.prog w K mg base "moved" 2 ["line", "offset"] S_moved := fun base TBs => ⟨f11, _, ok_moved F11 (C_reduced base TBs), PySem.W.mg_of X G a11, k11, b11⟩
  have F12 := fun_mk (st := s_part_of) l12 c12 k12
  have b12 := F12.binds (ps := ["pieces", "a", "b"]) fun _ _ _ _ _ _ us hl => match us, hl with | [_, _, _], _ => rfl
  have C_part_of : ∀ base : Heap, (∀ p ∈ ([(cL27, PL27)] : List (Addr × Addr)), LamX.TabB base mg p.1 p.2) → Cal l.prog w K mg base "part_of" 3 ["pieces", "a", "b"] S_part_of := fun base TBs => ⟨f12, _, ok_part_of F12 (C_parts base TBs) (C_moved base TBs), PySem.W.mg_of X G a12, k12, b12⟩
  have F13 := fun_mk (st := s_repeated) l13 c13 k13
  have b13 := F13.binds (ps := ["pieces", "length", "times"]) fun _ _ _ _ _ _ us hl => match us, hl with | [_, _, _], _ => rfl
  have C_repeated : ∀ base : Heap, (∀ p ∈ ([(cL27, PL27)] : List (Addr × Addr)), LamX.TabB base mg p.1 p.2) → Cal l.prog w K mg base "repeated" 3 ["pieces", "length", "times"] S_repeated := fun base TBs => ⟨f13, _, ok_repeated F13 M_range (C_moved base TBs), PySem.W.mg_of X G a13, k13, b13⟩
  have F14 := fun_mk (st := s_kept) l14 c14 k14
  have b14 := F14.binds (ps := ["chain", "vertex", "side"]) fun _ _ _ _ _ _ us hl => match us, hl with | [_, _, _], _ => rfl
  have C_kept : ∀ base : Heap, (∀ p ∈ ([(cL27, PL27)] : List (Addr × Addr)), LamX.TabB base mg p.1 p.2) → CalK l.prog w K mg base "kept" 1 ["chain", "vertex", "side"] [true, false, false] S_kept := fun base TBs => ⟨f14, _, ok_kept F14 M_len, PySem.W.mg_of X G a14, k14, b14⟩
  have F15 := fun_mk (st := s_farthest) l15 c15 k15
  have b15 := F15.binds (ps := ["chain", "rise", "run"]) fun _ _ _ _ _ _ us hl => match us, hl with | [_, _, _], _ => rfl
  have C_farthest : ∀ base : Heap, (∀ p ∈ ([(cL27, PL27)] : List (Addr × Addr)), LamX.TabB base mg p.1 p.2) → CalK l.prog w K mg base "farthest" 1 ["chain", "rise", "run"] [true, false, false] S_farthest := fun base TBs => ⟨f15, _, ok_farthest F15 M_len, PySem.W.mg_of X G a15, k15, b15⟩
  have F16 := fun_mk (st := s_exceeds) l16 c16 k16
  have b16 := F16.binds (ps := ["deviation", "error"]) fun _ _ _ _ _ _ us hl => match us, hl with | [_, _], _ => rfl
  have C_exceeds : ∀ base : Heap, (∀ p ∈ ([(cL27, PL27)] : List (Addr × Addr)), LamX.TabB base mg p.1 p.2) → Cal l.prog w K mg base "exceeds" 1 ["deviation", "error"] S_exceeds := fun base TBs => ⟨f16, _, ok_exceeds F16, PySem.W.mg_of X G a16, k16, b16⟩
  have F17 := fun_mk (st := s_middle_line) l17 c17 k17
  have b17 := F17.binds (ps := ["deviation"]) fun _ _ _ _ _ _ us hl => match us, hl with | [_], _ => rfl
  have C_middle_line : ∀ base : Heap, (∀ p ∈ ([(cL27, PL27)] : List (Addr × Addr)), LamX.TabB base mg p.1 p.2) → Cal l.prog w K mg base "middle_line" 2 ["deviation"] S_middle_line := fun base TBs => ⟨f17, _, ok_middle_line F17 (C_reduced base TBs), PySem.W.mg_of X G a17, k17, b17⟩
  have F18 := fun_mk (st := s_indexes_of) l18 c18 k18
  have b18 := F18.binds (ps := ["deviation"]) fun _ _ _ _ _ _ us hl => match us, hl with | [_], _ => rfl
  have C_indexes_of : ∀ base : Heap, (∀ p ∈ ([(cL27, PL27)] : List (Addr × Addr)), LamX.TabB base mg p.1 p.2) → Cal l.prog w K mg base "indexes_of" 1 ["deviation"] S_indexes_of := fun base TBs => ⟨f18, _, ok_indexes_of F18, PySem.W.mg_of X G a18, k18, b18⟩
  have F19 := fun_mk (st := s_deviation_under) l19 c19 k19
  have b19 := F19.binds (ps := ["first", "vertex", "other", "side"]) fun _ _ _ _ _ _ us hl => match us, hl with | [_, _, _, _], _ => rfl
  have C_deviation_under : ∀ base : Heap, (∀ p ∈ ([(cL27, PL27)] : List (Addr × Addr)), LamX.TabB base mg p.1 p.2) → CalK l.prog w K mg base "deviation_under" 2 ["first", "vertex", "other", "side"] [false, false, true, false] S_deviation_under := fun base TBs => ⟨f19, _, ok_deviation_under F19 (C_farthest base TBs), PySem.W.mg_of X G a19, k19, b19⟩
  have F20 := fun_mk (st := s_Strip___init__) l20 c20 k20
  have b20 := F20.binds (ps := ["self"]) fun _ _ _ _ _ _ us hl => match us, hl with | [_], _ => rfl
  have K_Strip : ∀ base : Heap, (∀ p ∈ ([(cL27, PL27)] : List (Addr × Addr)), LamX.TabB base mg p.1 p.2) → Mak l.prog w K mg base 4 1 ["self"] S_Strip___init__ := fun base TBs => ⟨C4, f20, _, _, _, rfl, PySem.W.mg_of X G gC4, ⟨mk4, a20, i20, kc4⟩, ok_Strip___init__ F20 M_ck4, b20⟩
  have F21 := fun_mk (st := s_Strip_step_with) l21 c21 k21
  have b21 := F21.binds (ps := ["self", "vertex"]) fun _ _ _ _ _ _ us hl => match us, hl with | [_, _], _ => rfl
  have C_Strip_step_with : ∀ base : Heap, (∀ p ∈ ([(cL27, PL27)] : List (Addr × Addr)), LamX.TabB base mg p.1 p.2) → MetK l.prog w K mg base 4 "step_with" 3 ["self", "vertex"] [true, false] S_Strip_step_with := fun base TBs => ⟨C4, f21, _, M_ck4, ⟨a21, i21, k21⟩, ok_Strip_step_with F21 M_ck4 (C_kept base TBs) (C_deviation_under base TBs), b21⟩
  have F22 := fun_mk (st := s_Strip_take) l22 c22 k22
  have b22 := F22.binds (ps := ["self", "vertex", "step"]) fun _ _ _ _ _ _ us hl => match us, hl with | [_, _, _], _ => rfl
  have C_Strip_take : ∀ base : Heap, (∀ p ∈ ([(cL27, PL27)] : List (Addr × Addr)), LamX.TabB base mg p.1 p.2) → MetM l.prog w K mg base 4 "take" 1 ["self", "vertex", "step"] S_Strip_take := fun base TBs => ⟨C4, f22, _, _, rfl, M_ck4, ⟨a22, i22, k22⟩, ok_Strip_take F22 M_ck4, b22⟩
  have F23 := fun_mk (st := s_Strip_line) l23 c23 k23
  have b23 := F23.binds (ps := ["self"]) fun _ _ _ _ _ _ us hl => match us, hl with | [_], _ => rfl
  have C_Strip_line : ∀ base : Heap, (∀ p ∈ ([(cL27, PL27)] : List (Addr × Addr)), LamX.TabB base mg p.1 p.2) → MetK l.prog w K mg base 4 "line" 3 ["self"] [true] S_Strip_line := fun base TBs => ⟨C4, f23, _, M_ck4, ⟨a23, i23, k23⟩, ok_Strip_line F23 M_ck4 (C_middle_line base TBs), b23⟩
  have F24 := fun_mk (st := s_longest_piece) l24 c24 k24
  have b24 := F24.binds (ps := ["points", "start", "error"]) fun _ _ _ _ _ _ us hl => match us, hl with | [_, _, _], _ => rfl
  have C_longest_piece : ∀ base : Heap, (∀ p ∈ ([(cL27, PL27)] : List (Addr × Addr)), LamX.TabB base mg p.1 p.2) → Cal l.prog w K mg base "longest_piece" 4 ["points", "start", "error"] S_longest_piece := fun base TBs => ⟨f24, _, ok_longest_piece F24 (K_Strip base TBs) M_len M_range (C_Strip_step_with base TBs) (C_exceeds base TBs) (C_indexes_of base TBs) (C_Strip_line base TBs) (C_Strip_take base TBs), PySem.W.mg_of X G a24, k24, b24⟩
  have F25 := fun_mk (st := s_taken_in_turn) l25 c25 k25
  have b25 := F25.binds (ps := ["longest", "length"]) fun _ _ _ _ _ _ us hl => match us, hl with | [_, _], _ => rfl
  have C_taken_in_turn : ∀ base : Heap, (∀ p ∈ ([(cL27, PL27)] : List (Addr × Addr)), LamX.TabB base mg p.1 p.2) → CalF l.prog w K mg base "taken_in_turn" 0 N_taken_in_turn ["longest", "length"] "longest" 0 1 s_taken_in_turn B_taken_in_turn := fun base TBs => ⟨f25, _, F25, PySem.W.mg_of X G a25, k25, b25, sc_taken_in_turn, rfl, .inl rfl, rfl, ok_taken_in_turn (base := base)⟩
  have F26 := fun_mk (st := s_Cutting___init__) l26 c26 k26
  have b26 := F26.binds (ps := ["self", "pieces", "reasons"]) fun _ _ _ _ _ _ us hl => match us, hl with | [_, _, _], _ => rfl
  have K_Cutting : ∀ base : Heap, (∀ p ∈ ([(cL27, PL27)] : List (Addr × Addr)), LamX.TabB base mg p.1 p.2) → Mak l.prog w K mg base 0 1 ["self", "pieces", "reasons"] S_Cutting___init__ := fun base TBs => ⟨C0, f26, _, _, _, rfl, PySem.W.mg_of X G gC0, ⟨mk0, a26, i26, kc0⟩, ok_Cutting___init__ F26 M_list M_ck0, b26⟩
  have F27 := fun_mk (st := s_cut) l27 c27 k27
  have TH27 := tabHas (T := ([(PL27, lamQ "cut")] : List (Addr × Str))) (P := PL27) (q := lamQ "cut") (by simp) ndT
  have b27 := F27.binds (ps := ["points", "error"]) fun _ _ _ _ _ _ us hl => match us, hl with | [_, _], _ => rfl
  have C_cut : ∀ base : Heap, (∀ p ∈ ([(cL27, PL27)] : List (Addr × Addr)), LamX.TabB base mg p.1 p.2) → Cal l.prog w K mg base "cut" 7 ["points", "error"] S_cut := fun base TBs => ⟨f27, _, ok_cut F27 e27 (TBs (cL27, PL27) (by simp)) TH27 M_len (C_longest_piece base TBs) (C_taken_in_turn base TBs) (K_Cutting base TBs), PySem.W.mg_of X G a27, k27, b27⟩
  have F28 := fun_mk (st := s_floors_over) l28 c28 k28
  have b28 := F28.binds (ps := ["pieces", "length"]) fun _ _ _ _ _ _ us hl => match us, hl with | [_, _], _ => rfl
  have C_floors_over : ∀ base : Heap, (∀ p ∈ ([(cL27, PL27)] : List (Addr × Addr)), LamX.TabB base mg p.1 p.2) → Cal l.prog w K mg base "floors_over" 3 ["pieces", "length"] S_floors_over := fun base TBs => ⟨f28, _, ok_floors_over F28 (C_parts base TBs) M_range (C_floor_at base TBs), PySem.W.mg_of X G a28, k28, b28⟩
  have F29 := fun_mk (st := s__law_cell) l29 c29 k29
  have b29 := F29.binds (ps := ["script", "k"]) fun _ _ _ _ _ _ us hl => match us, hl with | [_, _], _ => rfl
  have C__law_cell : ∀ base : Heap, (∀ p ∈ ([(cL27, PL27)] : List (Addr × Addr)), LamX.TabB base mg p.1 p.2) → Cal l.prog w K mg base "_law_cell" 1 ["script", "k"] S__law_cell := fun base TBs => ⟨f29, _, ok__law_cell F29 M_len, PySem.W.mg_of X G a29, k29, b29⟩
  have F30 := fun_mk (st := s__law_digits) l30 c30 k30
  have b30 := F30.binds (ps := ["cell", "many", "count"]) fun _ _ _ _ _ _ us hl => match us, hl with | [_, _, _], _ => rfl
  have C__law_digits : ∀ base : Heap, (∀ p ∈ ([(cL27, PL27)] : List (Addr × Addr)), LamX.TabB base mg p.1 p.2) → Cal l.prog w K mg base "_law_digits" 1 ["cell", "many", "count"] S__law_digits := fun base TBs => ⟨f30, _, ok__law_digits F30 M_range M_int, PySem.W.mg_of X G a30, k30, b30⟩
  have F31 := fun_mk (st := s__law_values) l31 c31 k31
  have b31 := F31.binds (ps := ["script", "place", "most"]) fun _ _ _ _ _ _ us hl => match us, hl with | [_, _, _], _ => rfl
  have C__law_values : ∀ base : Heap, (∀ p ∈ ([(cL27, PL27)] : List (Addr × Addr)), LamX.TabB base mg p.1 p.2) → Cal l.prog w K mg base "_law_values" 2 ["script", "place", "most"] S__law_values := fun base TBs => ⟨f31, _, ok__law_values F31 (C__law_cell base TBs) M_int (C__law_digits base TBs) M_range, PySem.W.mg_of X G a31, k31, b31⟩
  have F32 := fun_mk (st := s__law_error_of) l32 c32 k32
  have b32 := F32.binds (ps := ["script", "place", "values"]) fun _ _ _ _ _ _ us hl => match us, hl with | [_, _, _], _ => rfl
  have C__law_error_of : ∀ base : Heap, (∀ p ∈ ([(cL27, PL27)] : List (Addr × Addr)), LamX.TabB base mg p.1 p.2) → Cal l.prog w K mg base "_law_error_of" 2 ["script", "place", "values"] S__law_error_of := fun base TBs => ⟨f32, _, ok__law_error_of F32 (C__law_cell base TBs) M_len M_int M_max M_min, PySem.W.mg_of X G a32, k32, b32⟩
  have F33 := fun_mk (st := s__law_line_at) l33 c33 k33
  have b33 := F33.binds (ps := ["pieces", "at"]) fun _ _ _ _ _ _ us hl => match us, hl with | [_, _], _ => rfl
  have C__law_line_at : ∀ base : Heap, (∀ p ∈ ([(cL27, PL27)] : List (Addr × Addr)), LamX.TabB base mg p.1 p.2) → Cal l.prog w K mg base "_law_line_at" 1 ["pieces", "at"] S__law_line_at := fun base TBs => ⟨f33, _, ok__law_line_at F33, PySem.W.mg_of X G a33, k33, b33⟩
  have F34 := fun_mk (st := s__law_is_height) l34 c34 k34
  have b34 := F34.binds (ps := ["line", "at", "numerator", "divisor"]) fun _ _ _ _ _ _ us hl => match us, hl with | [_, _, _, _], _ => rfl
  have C__law_is_height : ∀ base : Heap, (∀ p ∈ ([(cL27, PL27)] : List (Addr × Addr)), LamX.TabB base mg p.1 p.2) → Cal l.prog w K mg base "_law_is_height" 1 ["line", "at", "numerator", "divisor"] S__law_is_height := fun base TBs => ⟨f34, _, ok__law_is_height F34, PySem.W.mg_of X G a34, k34, b34⟩
  have F35 := fun_mk (st := s__law_are_reduced) l35 c35 k35
  have b35 := F35.binds (ps := ["pieces"]) fun _ _ _ _ _ _ us hl => match us, hl with | [_], _ => rfl
  have C__law_are_reduced : ∀ base : Heap, (∀ p ∈ ([(cL27, PL27)] : List (Addr × Addr)), LamX.TabB base mg p.1 p.2) → Cal l.prog w K mg base "_law_are_reduced" 1 ["pieces"] S__law_are_reduced := fun base TBs => ⟨f35, _, ok__law_are_reduced F35 M_abs M_range M_int, PySem.W.mg_of X G a35, k35, b35⟩
  have F36 := fun_mk (st := s__law_second) l36 c36 k36
  have b36 := F36.binds (ps := ["script", "place", "size"]) fun _ _ _ _ _ _ us hl => match us, hl with | [_, _, _], _ => rfl
  have C__law_second : ∀ base : Heap, (∀ p ∈ ([(cL27, PL27)] : List (Addr × Addr)), LamX.TabB base mg p.1 p.2) → Cal l.prog w K mg base "_law_second" 2 ["script", "place", "size"] S__law_second := fun base TBs => ⟨f36, _, ok__law_second F36 (C__law_cell base TBs) M_int (C__law_digits base TBs) M_range, PySem.W.mg_of X G a36, k36, b36⟩
  have F37 := fun_mk (st := s_Coded___init__) l37 c37 k37
  have b37 := F37.binds (ps := ["self", "values", "error"]) fun _ _ _ _ _ _ us hl => match us, hl with | [_, _, _], _ => rfl
  have K_Coded : ∀ base : Heap, (∀ p ∈ ([(cL27, PL27)] : List (Addr × Addr)), LamX.TabB base mg p.1 p.2) → Mak l.prog w K mg base 12 8 ["self", "values", "error"] S_Coded___init__ := fun base TBs => ⟨C12, f37, _, _, _, rfl, PySem.W.mg_of X G gC12, ⟨mk12, a37, i37, kc12⟩, ok_Coded___init__ F37 (C_points_of base TBs) (C_cut base TBs) M_ck0 M_ck12 M_len (C_floors_over base TBs) M_zip, b37⟩
  have F38 := fun_mk (st := s_law) l38 c38 k38
  have F39 := fun_mk (st := s_Coded_value_at) l39 c39 k39
  have b39 := F39.binds (ps := ["self", "index"]) fun _ _ _ _ _ _ us hl => match us, hl with | [_, _], _ => rfl
  have C_Coded_value_at : ∀ base : Heap, (∀ p ∈ ([(cL27, PL27)] : List (Addr × Addr)), LamX.TabB base mg p.1 p.2) → Met l.prog w K mg base 12 "value_at" 2 ["self", "index"] S_Coded_value_at := fun base TBs => ⟨C12, f39, _, M_ck12, ⟨a39, i39, k39⟩, ok_Coded_value_at F39 (C__wall base TBs), b39⟩
  have F40 := fun_mk (st := s_Coded_decoded) l40 c40 k40
  have b40 := F40.binds (ps := ["self"]) fun _ _ _ _ _ _ us hl => match us, hl with | [_], _ => rfl
  have C_Coded_decoded : ∀ base : Heap, (∀ p ∈ ([(cL27, PL27)] : List (Addr × Addr)), LamX.TabB base mg p.1 p.2) → Met l.prog w K mg base 12 "decoded" 2 ["self"] S_Coded_decoded := fun base TBs => ⟨C12, f40, _, M_ck12, ⟨a40, i40, k40⟩, ok_Coded_decoded F40 (C__wall base TBs), b40⟩
  refine ⟨PySem.W.fnOf "law" "law" (defArgs s_law) (defBody s_law) (defScope s_law) .none kV38 dc38 pm38 an38 cd38 ct38, ([(cL27, PL27)] : List (Addr × Addr)), spLawT K ([(PL27, lamQ "cut")] : List (Addr × Str)), ?_, ?_, ?_, fun s v => .of_eq rfl, ?_, fun base _ _ TBs => law_startT ([(PL27, lamQ "cut")] : List (Addr × Str)) (ok_law (P := l.prog) (w := w) (base := base) F38 (C__law_values base TBs) (C__law_cell base TBs) M_int M_len (C__law_second base TBs) (C__law_error_of base TBs) M_list (K_Coded base TBs) M_ck12 (C_added base TBs) M_sorted (C__law_are_reduced base TBs) (C_scaled base TBs) M_range (C__law_line_at base TBs) (C__law_is_height base TBs) M_abs (C_part_of base TBs) (C_repeated base TBs)) law_true⟩
  · intro p hp
    simp only [List.mem_cons, List.not_mem_nil, or_false] at hp
    rcases hp with rfl
    · exact t027
  · intro p hp
    simp only [List.mem_cons, List.not_mem_nil, or_false] at hp
    rcases hp with rfl
    · exact nk27
  · intro p hp
    simp only [List.mem_cons, List.not_mem_nil, or_false] at hp
    rcases hp with rfl
    · exact PySem.W.codeHd_of_K X hc27
  · intro H a ns hl _ hT hS
    refine ⟨a, ns, rfl, hS, hl, fun p hp => ?_, fun _ => rfl⟩
    simp only [List.mem_cons, List.not_mem_nil, or_false] at hp
    rcases hp with rfl
    · exact hT (cL27, PL27) (by simp)
end K28
open PySem PySem.W PyProof.Rows
set_option maxHeartbeats 0 in
theorem PySem.Challenge.cw_fewestlines_k28_whole_combined_pieces_holds : PySem.Challenge.rw_fewestlines_k28_whole_combined_pieces.Holds := by
  w_on; o_law; k_head; (case hw => w_witness2)
  k_fill
  refine LamX.walk_ofTs (l := PySem.Challenge.rw_fewestlines_k28_whole_combined_pieces) (n := 63) (k := 10) (x := "script") (CX := fun _ => L2.CX0) rfl (by decide) rfl ⟨rfl, by decide, by decide⟩ (fun w h Y => PySem.W.km_in_of Y) ?F (fun _ _ _ _ _ h => h)
  case F =>
    intro w mg fa h Y KX G hmg
    have hT8 := PySem.W.km_tabs_of Y
    refine' K28.all_mk KX G hmg ?gC0 ?pg0 ?hd0 ?po0 ?sa0 ?nf0_0 ?nf0_1 ?mk0 ?kc0 ?gC4 ?pg4 ?hd4 ?po4 ?sa4 ?nf4_0 ?nf4_1 ?nf4_2 ?mk4 ?kc4 ?gC12 ?pg12 ?hd12 ?po12 ?sa12 ?nf12_0 ?nf12_1 ?mk12 ?kc12 ?a1 ?l1 ?c1 ?k1 ?a2 ?l2 ?c2 ?k2 ?a3 ?l3 ?c3 ?k3 ?a4 ?l4 ?c4 ?k4 ?a5 ?l5 ?c5 ?k5 ?a6 ?l6 ?c6 ?k6 ?a7 ?l7 ?c7 ?k7 ?a8 ?l8 ?c8 ?k8 ?a9 ?l9 ?c9 ?k9 ?a10 ?l10 ?c10 ?k10 ?a11 ?l11 ?c11 ?k11 ?a12 ?l12 ?c12 ?k12 ?a13 ?l13 ?c13 ?k13 ?a14 ?l14 ?c14 ?k14 ?a15 ?l15 ?c15 ?k15 ?a16 ?l16 ?c16 ?k16 ?a17 ?l17 ?c17 ?k17 ?a18 ?l18 ?c18 ?k18 ?a19 ?l19 ?c19 ?k19 ?a20 ?i20 ?l20 ?c20 ?k20 ?a21 ?i21 ?l21 ?c21 ?k21 ?a22 ?i22 ?l22 ?c22 ?k22 ?a23 ?i23 ?l23 ?c23 ?k23 ?a24 ?l24 ?c24 ?k24 ?a25 ?l25 ?c25 ?k25 ?a26 ?i26 ?l26 ?c26 ?k26 ?a27 ?l27 ?c27 ?k27 ?e27 ?lc27 ?vp27 ?t027 ?nk27 ?hc27 ?a28 ?l28 ?c28 ?k28 ?a29 ?l29 ?c29 ?k29 ?a30 ?l30 ?c30 ?k30 ?a31 ?l31 ?c31 ?k31 ?a32 ?l32 ?c32 ?k32 ?a33 ?l33 ?c33 ?k33 ?a34 ?l34 ?c34 ?k34 ?a35 ?l35 ?c35 ?k35 ?a36 ?l36 ?c36 ?k36 ?a37 ?i37 ?l37 ?c37 ?k37 ?a38 ?l38 ?c38 ?k38 ?a39 ?i39 ?l39 ?c39 ?k39 ?a40 ?i40 ?l40 ?c40 ?k40 ?z_gcd ?z_list ?z_enumerate ?z_len ?z_min ?z_max ?z_sorted ?z_set ?z_range ?z_int ?z_abs ?z_zip ?ndT
    (case gC0 => k_is); (case pg0 => k_is); (case hd0 => k_is); (case po0 => k_is); (case sa0 => k_is); (case nf0_0 => k_is); (case nf0_1 => k_is); (case mk0 => k_is); (case kc0 => k_is); (case gC4 => k_is); (case pg4 => k_is); (case hd4 => k_is); (case po4 => k_is); (case sa4 => k_is); (case nf4_0 => k_is); (case nf4_1 => k_is); (case nf4_2 => k_is); (case mk4 => k_is); (case kc4 => k_is); (case gC12 => k_is); (case pg12 => k_is); (case hd12 => k_is); (case po12 => k_is); (case sa12 => k_is); (case nf12_0 => k_is); (case nf12_1 => k_is); (case mk12 => k_is); (case kc12 => k_is); (case a1 => k_is); (case l1 => k_is); (case c1 => k_is); (case k1 => k_is); (case a2 => k_is); (case l2 => k_is); (case c2 => k_is); (case k2 => k_is); (case a3 => k_is); (case l3 => k_is); (case c3 => k_is); (case k3 => k_is); (case a4 => k_is); (case l4 => k_is); (case c4 => k_is); (case k4 => k_is); (case a5 => k_is); (case l5 => k_is); (case c5 => k_is); (case k5 => k_is); (case a6 => k_is); (case l6 => k_is); (case c6 => k_is); (case k6 => k_is); (case a7 => k_is); (case l7 => k_is); (case c7 => k_is); (case k7 => k_is); (case a8 => k_is); (case l8 => k_is); (case c8 => k_is); (case k8 => k_is); (case a9 => k_is); (case l9 => k_is); (case c9 => k_is); (case k9 => k_is); (case a10 => k_is); (case l10 => k_is); (case c10 => k_is); (case k10 => k_is); (case a11 => k_is); (case l11 => k_is); (case c11 => k_is); (case k11 => k_is); (case a12 => k_is); (case l12 => k_is); (case c12 => k_is); (case k12 => k_is); (case a13 => k_is); (case l13 => k_is); (case c13 => k_is); (case k13 => k_is); (case a14 => k_is); (case l14 => k_is); (case c14 => k_is); (case k14 => k_is); (case a15 => k_is); (case l15 => k_is); (case c15 => k_is); (case k15 => k_is); (case a16 => k_is); (case l16 => k_is); (case c16 => k_is); (case k16 => k_is); (case a17 => k_is); (case l17 => k_is); (case c17 => k_is); (case k17 => k_is); (case a18 => k_is); (case l18 => k_is); (case c18 => k_is); (case k18 => k_is); (case a19 => k_is); (case l19 => k_is); (case c19 => k_is); (case k19 => k_is); (case a20 => k_is); (case i20 => k_is); (case l20 => k_is); (case c20 => k_is); (case k20 => k_is); (case a21 => k_is); (case i21 => k_is); (case l21 => k_is); (case c21 => k_is); (case k21 => k_is); (case a22 => k_is); (case i22 => k_is); (case l22 => k_is); (case c22 => k_is); (case k22 => k_is); (case a23 => k_is); (case i23 => k_is); (case l23 => k_is); (case c23 => k_is); (case k23 => k_is); (case a24 => k_is); (case l24 => k_is); (case c24 => k_is); (case k24 => k_is); (case a25 => k_is); (case l25 => k_is); (case c25 => k_is); (case k25 => k_is); (case a26 => k_is); (case i26 => k_is); (case l26 => k_is); (case c26 => k_is); (case k26 => k_is); (case a27 => k_is); (case l27 => k_is); (case c27 => k_is); (case k27 => k_is); (case e27 => rfl); (case lc27 => k_is); (case vp27 => rfl); (case t027 => exact hT8 _ (by k_mem)); (case nk27 => kernel_rfl); (case hc27 => kernel_rfl); (case a28 => k_is); (case l28 => k_is); (case c28 => k_is); (case k28 => k_is); (case a29 => k_is); (case l29 => k_is); (case c29 => k_is); (case k29 => k_is); (case a30 => k_is); (case l30 => k_is); (case c30 => k_is); (case k30 => k_is); (case a31 => k_is); (case l31 => k_is); (case c31 => k_is); (case k31 => k_is); (case a32 => k_is); (case l32 => k_is); (case c32 => k_is); (case k32 => k_is); (case a33 => k_is); (case l33 => k_is); (case c33 => k_is); (case k33 => k_is); (case a34 => k_is); (case l34 => k_is); (case c34 => k_is); (case k34 => k_is); (case a35 => k_is); (case l35 => k_is); (case c35 => k_is); (case k35 => k_is); (case a36 => k_is); (case l36 => k_is); (case c36 => k_is); (case k36 => k_is); (case a37 => k_is); (case i37 => k_is); (case l37 => k_is); (case c37 => k_is); (case k37 => k_is); (case a38 => k_is); (case l38 => k_is); (case c38 => k_is); (case k38 => k_is); (case a39 => k_is); (case i39 => k_is); (case l39 => k_is); (case c39 => k_is); (case k39 => k_is); (case a40 => k_is); (case i40 => k_is); (case l40 => k_is); (case c40 => k_is); (case k40 => k_is); (case z_gcd => k_is); (case z_list => k_is); (case z_enumerate => k_is); (case z_len => k_is); (case z_min => k_is); (case z_max => k_is); (case z_sorted => k_is); (case z_set => k_is); (case z_range => k_is); (case z_int => k_is); (case z_abs => k_is); (case z_zip => k_is); (case ndT => decide)


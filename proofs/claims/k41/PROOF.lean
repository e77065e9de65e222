import PyProof.Rows.All
import Wide.All
import OpenK.AllK
import Wide.FinOn
import HandS.ForMost
import HandS.IsInst
import HandS.Gcd
import HandS.Wide
import HandS.Style
import HandS.SortInts
import HandS.RevRange
import HandS.Conv
import HandS.Lambda
import HandS.Flow
import KE.GoesMore
import HandS.More
import HandS.OwnIter
import HandS.Iter
import KE.KDictZip
import PyProof.AssignAttr
import HandS.Nested
import HandS.EndTab
import KE.KNestM
import PySem.Challenge.RW_fewestlines_k41_runs_of_a_store
set_option Elab.async false
set_option linter.all false
set_option maxRecDepth 100000
set_option maxHeartbeats 4000000
namespace DL
open PySem L2

/-! ### data, and how a value holds it -/
inductive D where
  | non | bl (b : Bool) | int (i : Int) | str (x : Str)
  | lst (xs : List D) | tup (xs : List D) | scr (ns : List Int)
  | obj (c : Nat) (vs : List D) | fn (a c : Addr) (q : Str) (vs : List V) (ds : List D) | dic (ks : List Key) (xs : List D)

/-- the program's classes: names, fields in the order in which __init__ sets them -/
def cTab : List (Str × List Str) := [("Cutting", ["pieces", "reasons"]), ("Level", ["stored", "error", "pieces"]), ("Index", ["stored", "_levels"]), ("Fitter", ["error", "count", "_strip"]), ("Strip", ["_upper", "_lower", "_greatest"]), ("Run", ["entries", "_index"]), ("FlatCutting", ["pieces", "reasons"]), ("SpanCutting", ["pieces", "reasons"]), ("LeastSlope", ["_chain", "bound"]), ("Bundle", ["count", "_first", "_least", "_greatest"]), ("Stream", ["error", "length", "_closed", "_start", "_bundle"]), ("Plan", ["pieces", "reaches", "prices"]), ("Coded", ["pieces", "corrections"]), ("Outline", ["error", "length", "pieces"]), ("Row", ["errors", "_strip"]), ("Reaches", ["_points", "_rows"]), ("Store", ["capacity", "error", "moves", "edits", "_buffer", "_runs"]), ("Starts", ["_row", "_waiting", "_passed"]), ("InvalidPaper", ["line"]), ("Cursor", ["_pairs"]), ("View", ["edits", "_values"]), ("PlainStore", ["_values"]), ("Paper", ["_lines", "number"]), ("Durable", ["store", "base", "journal", "synced", "_serial"]), ("Boxes", ["_bits", "_points", "_index"])]
def cN (c : Nat) : Str := (cTab.getD c ("", [])).1
def cF (c : Nat) : List Str := (cTab.getD c ("", [])).2
mutual
inductive Rep (K : PySem.W.Frag) (mg : Str → Option Value) (G : Hp) : V → D → Prop
  | non : Rep K mg G .non .non
  | bl (b : Bool) : Rep K mg G (.bl b) (.bl b)
  | int (i : Int) : Rep K mg G (.int i) (.int i)
  | str (x : Str) : Rep K mg G (.str x) (.str x)
  | lst {a : Addr} {vs : List V} {xs : List D} (h : G a = some (.lst vs)) (r : RepL K mg G vs xs) : Rep K mg G (.ref a) (.lst xs)
  | tup {a : Addr} {vs : List V} {xs : List D} (h : G a = some (.tup vs)) (r : RepL K mg G vs xs) : Rep K mg G (.ref a) (.tup xs)
  | scr {a : Addr} {ns : List Int} (h : SqL K G a (ns.map V.int)) : Rep K mg G (.ref a) (.scr ns)
  | obj {a C dx : Addr} {c : Nat} {vs : List V} {ds : List D} (hm : mg (cN c) = some (.ref C)) (h : G a = some (.ins C dx ((cF c).zip vs))) (r : RepL K mg G vs ds) : Rep K mg G (.ref a) (.obj c ds)
  | fn {a c : Addr} {q : Str} {vs : List V} {ds : List D} (hc : G c = some (LamX.CodeO c q)) (r : RepL K mg G vs ds) : Rep K mg G (.ref a) (.fn a c q vs ds)
  | dic {a : Addr} {ks : List Key} {vs : List V} {xs : List D} (h : G a = some (.dK (ks.zip vs))) (l : ks.length = vs.length) (r : RepL K mg G vs xs) : Rep K mg G (.ref a) (.dic ks xs)
inductive RepL (K : PySem.W.Frag) (mg : Str → Option Value) (G : Hp) : List V → List D → Prop
  | nil : RepL K mg G [] []
  | cons {v : V} {vs : List V} {d : D} {ds : List D} (h : Rep K mg G v d) (r : RepL K mg G vs ds) : RepL K mg G (v :: vs) (d :: ds)
end

section
variable {K : PySem.W.Frag} {mg : Str → Option Value} {G G' : Hp}
mutual
theorem Rep.mono (e : Same G G') : ∀ {v : V} {d : D}, Rep K mg G v d → Rep K mg G' v d
  | _, _, .non => .non
  | _, _, .bl b => .bl b
  | _, _, .int i => .int i
  | _, _, .str x => .str x
  | _, _, .lst h r => .lst (e _ _ h) (RepL.mono e r)
  | _, _, .tup h r => .tup (e _ _ h) (RepL.mono e r)
  | _, _, .scr h => .scr (e.seq h)
  | _, _, .obj hm h r => .obj hm (e _ _ h) (RepL.mono e r)
  | _, _, .fn hc r => .fn (e _ _ hc) (RepL.mono e r)
  | _, _, .dic h l r => .dic (e _ _ h) l (RepL.mono e r)
theorem RepL.mono (e : Same G G') : ∀ {v : List V} {d : List D}, RepL K mg G v d → RepL K mg G' v d
  | _, _, .nil => .nil
  | _, _, .cons h r => .cons (Rep.mono e h) (RepL.mono e r)
end
theorem RepL.length : ∀ {vs : List V} {ds : List D}, RepL K mg G vs ds → vs.length = ds.length
  | _, _, .nil => rfl
  | _, _, .cons _ r => by simp [RepL.length r]
theorem RepL.get : ∀ {vs : List V} {ds : List D} (i : Nat) {d : D}, RepL K mg G vs ds → ds[i]? = some d → ∃ v, vs[i]? = some v ∧ Rep K mg G v d
  | _, _, _, _, .nil, h => by simp at h
  | _, _, 0, _, .cons h _, e => by simp at e; subst e; exact ⟨_, rfl, h⟩
  | _, _, i + 1, _, .cons _ r, e => by
    obtain ⟨v, h1, h2⟩ := RepL.get i r (by simpa using e)
    exact ⟨v, by simpa using h1, h2⟩
theorem RepL.append : ∀ {vs ws : List V} {ds es : List D}, RepL K mg G vs ds → RepL K mg G ws es → RepL K mg G (vs ++ ws) (ds ++ es)
  | _, _, _, _, .nil, s => s
  | _, _, _, _, .cons h r, s => .cons h (r.append s)
theorem RepL.take : ∀ (n : Nat) {vs : List V} {ds : List D}, RepL K mg G vs ds → RepL K mg G (vs.take n) (ds.take n)
  | 0, _, _, _ => by simp; exact .nil
  | _ + 1, _, _, .nil => .nil
  | n + 1, _, _, .cons h r => .cons h (r.take n)
theorem RepL.drop : ∀ (n : Nat) {vs : List V} {ds : List D}, RepL K mg G vs ds → RepL K mg G (vs.drop n) (ds.drop n)
  | 0, _, _, r => r
  | _ + 1, _, _, .nil => .nil
  | n + 1, _, _, .cons _ r => r.drop n
theorem RepL.set : ∀ (i : Nat) {vs : List V} {ds : List D} {v : V} {d : D}, RepL K mg G vs ds → Rep K mg G v d → RepL K mg G (vs.set i v) (ds.set i d)
  | _, _, _, _, _, .nil, _ => .nil
  | 0, _, _, _, _, .cons _ r, h => .cons h r
  | i + 1, _, _, _, _, .cons h r, q => .cons h (r.set i q)
theorem RepL.reverse : ∀ {vs : List V} {ds : List D}, RepL K mg G vs ds → RepL K mg G vs.reverse ds.reverse
  | _, _, .nil => .nil
  | _, _, .cons h r => by
    rw [List.reverse_cons, List.reverse_cons]
    exact r.reverse.append (.cons h .nil)
theorem RepL.ints : ∀ {ns : List Int} {vs : List V}, RepL K mg G vs (ns.map D.int) → vs = ns.map V.int
  | [], _, r => by cases r; rfl
  | n :: ns, _, r => by
    cases r with
    | cons h r => cases h; rw [RepL.ints r]; rfl
theorem RepL.ofInts : ∀ {ns : List Int}, RepL K mg G (ns.map V.int) (ns.map D.int)
  | [] => .nil
  | n :: ns => .cons (.int n) RepL.ofInts
theorem RepL.bls : ∀ {ns : List Bool} {vs : List V}, RepL K mg G vs (ns.map D.bl) → vs = ns.map V.bl
  | [], _, r => by cases r; rfl
  | n :: ns, _, r => by
    cases r with
    | cons h r => cases h; rw [RepL.bls r]; rfl
end

/-! what is looked at: a datum, or a list or an object of somebody's own -/
/-- no table of code objects -/
def NT (o : HO) : Prop := ∀ ps, o ≠ .tbl ps
def SameN (H H' : Hp) : Prop := ∀ a o, H a = some o → NT o → H' a = some o
theorem same_n {H H' : Hp} (e : Same H H') : SameN H H' := fun a o q _ => e a o q
theorem SameN.trans {H H1 H2 : Hp} (a : SameN H H1) (b : SameN H1 H2) : SameN H H2 := fun x o q n => b x o (a x o q n) n
mutual
inductive RepB (K : PySem.W.Frag) (mg : Str → Option Value) (G H : Hp) : V → D → Prop
  | sh {v : V} {d : D} (h : Rep K mg G v d) : RepB K mg G H v d
  | li {p : Addr} {vs : List V} {xs : List D} (h : H p = some (.lst vs)) (r : RepL K mg G vs xs) : RepB K mg G H (.ref p) (.lst xs)
  | obj {p C dx : Addr} {c : Nat} {vs : List V} {ds : List D} (hm : mg (cN c) = some (.ref C)) (h : H p = some (.ins C dx ((cF c).zip vs))) (r : RepBL K mg G H vs ds) : RepB K mg G H (.ref p) (.obj c ds)
  | dic {p : Addr} {ks : List Key} {vs : List V} {xs : List D} (h : H p = some (.dK (ks.zip vs))) (l : ks.length = vs.length) (r : RepL K mg G vs xs) : RepB K mg G H (.ref p) (.dic ks xs)
inductive RepBL (K : PySem.W.Frag) (mg : Str → Option Value) (G H : Hp) : List V → List D → Prop
  | nil : RepBL K mg G H [] []
  | cons {v : V} {vs : List V} {d : D} {ds : List D} (h : RepB K mg G H v d) (r : RepBL K mg G H vs ds) : RepBL K mg G H (v :: vs) (d :: ds)
end
section
variable {K : PySem.W.Frag} {mg : Str → Option Value} {G G' H H' : Hp}
mutual
theorem RepB.mono (g : Same G G') (k : SameN H H') : ∀ {v : V} {d : D}, RepB K mg G H v d → RepB K mg G' H' v d
  | _, _, .sh h => .sh (h.mono g)
  | _, _, .li h r => .li (k _ _ h nofun) (r.mono g)
  | _, _, .obj hm h r => .obj hm (k _ _ h nofun) (RepBL.mono g k r)
  | _, _, .dic h l r => .dic (k _ _ h nofun) l (r.mono g)
theorem RepBL.mono (g : Same G G') (k : SameN H H') : ∀ {v : List V} {d : List D}, RepBL K mg G H v d → RepBL K mg G' H' v d
  | _, _, .nil => .nil
  | _, _, .cons h r => .cons (RepB.mono g k h) (RepBL.mono g k r)
end
theorem RepBL.length : ∀ {vs : List V} {ds : List D}, RepBL K mg G H vs ds → vs.length = ds.length
  | _, _, .nil => rfl
  | _, _, .cons _ r => by simp [RepBL.length r]
theorem RepBL.get : ∀ {vs : List V} {ds : List D} (i : Nat) {d : D}, RepBL K mg G H vs ds → ds[i]? = some d → ∃ v, vs[i]? = some v ∧ RepB K mg G H v d
  | _, _, _, _, .nil, h => by simp at h
  | _, _, 0, _, .cons h _, e => by simp at e; subst e; exact ⟨_, rfl, h⟩
  | _, _, i + 1, _, .cons _ r, e => by
    obtain ⟨v, h1, h2⟩ := RepBL.get i r (by simpa using e)
    exact ⟨v, by simpa using h1, h2⟩
theorem RepL.bo : ∀ {vs : List V} {ds : List D}, RepL K mg G vs ds → RepBL K mg G H vs ds
  | _, _, .nil => .nil
  | _, _, .cons h r => .cons (.sh h) r.bo
end

theorem nn {H H' : Hp} (e : Same H H') {a : Addr} (h : H a ≠ Option.none) : H' a ≠ Option.none := by
  cases q : H a with
  | none => exact absurd q h
  | some o => rw [e a o q]; simp
theorem same_at {H H' : Hp} (e : Same H H') {a : Addr} (h : H a ≠ Option.none) : H' a = H a := by
  cases q : H a with
  | none => exact absurd q h
  | some o => rw [e a o q]
/-- a list, an instance, a dict -/
def LID (o : HO) : Prop := (∃ vs, o = .lst vs) ∨ (∃ C dx fs, o = .ins C dx fs) ∨ ∃ kvs, o = .dK kvs
/-- what is known of tables: it outlasts all that leaves them as they are -/
structure TabI where
  tz : Addr → Prop
  t : Hp → Hp → Prop
  keep : ∀ {G H G' H' : Hp}, t G H → Same G G' → (∀ a, tz a → H' a = H a) → (∀ a, tz a → G a = Option.none → G' a = Option.none) → t G' H'
  live : ∀ {G H : Hp}, t G H → ∀ a, tz a → H a ≠ Option.none ∧ G a = Option.none
  tbl : ∀ {G H : Hp}, t G H → ∀ a, tz a → ∃ ps, H a = some (.tbl ps)
  less : ∀ {G G' H : Hp}, t G H → (∀ a o, G' a = some o → G a = some o) → (∀ a o, G a = some o → G' a = some o ∨ LID o) → t G' H
def TabI.none : TabI := ⟨fun _ => False, fun _ _ => True, fun _ _ _ _ => trivial, fun _ _ h => h.elim, fun _ _ h => h.elim, fun _ _ _ => trivial⟩
/-- the tables that a program is about -/
class TabCtx where
  ti : TabI
instance (priority := low) TabCtx.none : TabCtx := ⟨TabI.none⟩
variable [TC : TabCtx]
/-! ### how heaps grow: G what is known and stays, H all that is tracked -/
structure Ext [TC : TabCtx] (G H G' H' : Hp) : Prop where
  gg : Same G G'
  hh : SameN H H'
  gh : Same G' H'
  new : ∀ a, G' a ≠ none → G a ≠ none ∨ H a = none
  hn : ∀ a, H a ≠ none → H' a ≠ none
  tb : TC.ti.t G H → TC.ti.t G' H'
theorem Ext.hf {G H G' H' : Hp} (e : Ext G H G' H') {a : Addr} (h : H' a = none) : H a = none := by
  cases q : H a with
  | none => rfl
  | some o => exact absurd h (e.hn a (by rw [q]; simp))
theorem Ext.same {G H G' H' : Hp} (gg : Same G G') (hh : Same H H') (gh : Same G' H') (new : ∀ a, G' a ≠ none → G a ≠ none ∨ H a = none) : Ext G H G' H' :=
  ⟨gg, same_n hh, gh, new, fun _ h => nn hh h, fun t => TC.ti.keep t gg (fun a h => same_at hh (TC.ti.live t a h).1) (fun a h g => by
    cases q : G' a with
    | none => rfl
    | some u =>
      rcases new a (by rw [q]; simp) with z | z
      · exact absurd g z
      · exact absurd z (TC.ti.live t a h).1)⟩
theorem Ext.refl {G H : Hp} (h : Same G H) : Ext G H G H := Ext.same (Same.refl _) (Same.refl _) h fun _ h => .inl h
theorem Ext.trans {G H G1 H1 G2 H2 : Hp} (a : Ext G H G1 H1) (b : Ext G1 H1 G2 H2) : Ext G H G2 H2 :=
  ⟨a.gg.trans b.gg, a.hh.trans b.hh, b.gh, fun x h => by
    rcases b.new x h with h | h
    · exact a.new x h
    · exact .inr (a.hf h), fun x h => b.hn x (a.hn x h), fun t => b.tb (a.tb t)⟩
theorem same_upd {H : Hp} {p : Addr} {o : HO} (h : H p = none) : Same H (upd H p o) := fun b x e => by
  rw [upd_ne (ne_of_none e h)]
  exact e
theorem same_upd2 {G H : Hp} {p : Addr} {o : HO} (e : Same G H) : Same (upd G p o) (upd H p o) := fun b x h => by
  by_cases q : b = p
  · subst q; rw [upd_same] at h ⊢; exact h
  · rw [upd_ne q] at h ⊢; exact e _ _ h
/-- a new object, known from now on -/
theorem Ext.new1 {G H : Hp} {p : Addr} {o : HO} (gh : Same G H) (h : H p = none) : Ext G H (upd G p o) (upd H p o) :=
  Ext.same (same_upd (gh.free h)) (same_upd h) (same_upd2 gh) fun a q => by
    by_cases e : a = p
    · subst e; exact .inr h
    · rw [upd_ne e] at q; exact .inl q
/-- a new object that is kept for oneself -/
theorem Ext.own1 {G H : Hp} {p : Addr} {o : HO} (gh : Same G H) (h : H p = none) : Ext G H G (upd H p o) :=
  Ext.same (Same.refl _) (same_upd h) (fun a x q => by rw [upd_ne (ne_of_none (gh a x q) h)]; exact gh a x q) fun a q => .inl q

/-- a new object of one's own is given away -/
theorem Ext.frz1 {G H G1 H1 : Hp} {p : Addr} {o : HO} (x : Ext G H G1 H1) (hp : H p = none) (gp : G1 p = none) (h : H1 p = some o) : Ext G H (upd G1 p o) H1 :=
  ⟨x.gg.trans (same_upd gp), x.hh, fun a u q => by
    by_cases z : a = p
    · subst z; rw [upd_same] at q; cases q; exact h
    · rw [upd_ne z] at q; exact x.gh _ _ q, fun a q => by
    by_cases z : a = p
    · subst z; exact .inr hp
    · rw [upd_ne z] at q; exact x.new a q, x.hn, fun t => TC.ti.keep (x.tb t) (same_upd gp) (fun _ _ => rfl) (fun a h g => by
      rw [upd_ne (fun z => (TC.ti.live t a h).1 (by rw [z]; exact hp))]
      exact g)⟩

/-! ### slots -/
inductive Sl where
  | no | sh (d : D) | ow (xs : List D) | dk (ks : List Key) (xs : List D) | ob (c : Nat) (fs : List Sl) | bo (d : D) | ol (ss : List Sl)
/-- a slot that may be written at its places -/
def SlP (s : Sl) : Prop := s ≠ .no ∧ ∀ d, s ≠ .bo d
abbrev DEnv := List Sl

/-! a value that holds what a slot says; F: the objects that are one's own in it (or some more) -/
mutual
inductive Hd (K : PySem.W.Frag) (mg : Str → Option Value) (G H : Hp) : V → (Addr → Prop) → Sl → Prop
  | sh {v : V} {d : D} {F : Addr → Prop} (h : Rep K mg G v d) : Hd K mg G H v F (.sh d)
  | ow {p : Addr} {vs : List V} {xs : List D} {F : Addr → Prop} (f : F p) (h : H p = some (.lst vs)) (r : RepL K mg G vs xs) : Hd K mg G H (.ref p) F (.ow xs)
  | dk {p : Addr} {ks : List Key} {vs : List V} {xs : List D} {F : Addr → Prop} (f : F p) (h : H p = some (.dK (ks.zip vs))) (l : ks.length = vs.length) (r : RepL K mg G vs xs) : Hd K mg G H (.ref p) F (.dk ks xs)
  | ob {p C dx : Addr} {c : Nat} {vs : List V} {fs : List Sl} {F F' : Addr → Prop} (f : F p) (hm : mg (cN c) = some (.ref C)) (h : H p = some (.ins C dx ((cF c).zip vs))) (n : ¬ F' p) (s : ∀ a, F' a → F a) (r : HdL K mg G H vs F' fs) : Hd K mg G H (.ref p) F (.ob c fs)
  | ol {p : Addr} {vs : List V} {ss : List Sl} {F F' : Addr → Prop} (f : F p) (h : H p = some (.lst vs)) (n : ¬ F' p) (s : ∀ a, F' a → F a) (r : HdL K mg G H vs F' ss) : Hd K mg G H (.ref p) F (.ol ss)
inductive HdL (K : PySem.W.Frag) (mg : Str → Option Value) (G H : Hp) : List V → (Addr → Prop) → List Sl → Prop
  | nil {F : Addr → Prop} : HdL K mg G H [] F []
  | cons {v : V} {vs : List V} {s : Sl} {ss : List Sl} {F F1 F2 : Addr → Prop} (h : Hd K mg G H v F1 s) (r : HdL K mg G H vs F2 ss) (s1 : ∀ a, F1 a → F a) (s2 : ∀ a, F2 a → F a) (d : ∀ a, F1 a → ¬ F2 a) : HdL K mg G H (v :: vs) F (s :: ss)
end
section
variable {K : PySem.W.Frag} {mg : Str → Option Value} {G G' H H' : Hp}
mutual
theorem Hd.mono (g : Same G G') : ∀ {v : V} {F : Addr → Prop} {s : Sl}, (∀ a o, F a → H a = some o → NT o → H' a = some o) → Hd K mg G H v F s → Hd K mg G' H' v F s
  | _, _, _, _, .sh h => .sh (h.mono g)
  | _, _, _, e, .ow f h r => .ow f (e _ _ f h nofun) (r.mono g)
  | _, _, _, e, .dk f h l r => .dk f (e _ _ f h nofun) l (r.mono g)
  | _, _, _, e, .ob f hm h n s r => .ob f hm (e _ _ f h nofun) n s (HdL.mono g (fun a o fa => e a o (s a fa)) r)
  | _, _, _, e, .ol f h n s r => .ol f (e _ _ f h nofun) n s (HdL.mono g (fun a o fa => e a o (s a fa)) r)
theorem HdL.mono (g : Same G G') : ∀ {v : List V} {F : Addr → Prop} {s : List Sl}, (∀ a o, F a → H a = some o → NT o → H' a = some o) → HdL K mg G H v F s → HdL K mg G' H' v F s
  | _, _, _, _, .nil => .nil
  | _, _, _, e, .cons h r s1 s2 d => .cons (Hd.mono g (fun a o fa => e a o (s1 a fa)) h) (HdL.mono g (fun a o fa => e a o (s2 a fa)) r) s1 s2 d
end
theorem Hd.wide {v : V} {F F' : Addr → Prop} {s : Sl} (w : ∀ a, F a → F' a) (h : Hd K mg G H v F s) : Hd K mg G H v F' s := by
  cases h with
  | sh h => exact .sh h
  | ow f h r => exact .ow (w _ f) h r
  | dk f h l r => exact .dk (w _ f) h l r
  | ob f hm h n s r => exact .ob (w _ f) hm h n (fun a x => w a (s a x)) r
  | ol f h n s r => exact .ol (w _ f) h n (fun a x => w a (s a x)) r
theorem HdL.wide {vs : List V} {F F' : Addr → Prop} {ss : List Sl} (w : ∀ a, F a → F' a) (h : HdL K mg G H vs F ss) : HdL K mg G H vs F' ss := by
  cases h with
  | nil => exact .nil
  | cons h r s1 s2 d => exact .cons h r (fun a x => w a (s1 a x)) (fun a x => w a (s2 a x)) d
theorem HdL.wide2 {vs : List V} {F F' : Addr → Prop} {ss : List Sl} (w : ∀ a, F a → F' a) (h : HdL K mg G H vs F ss) : HdL K mg G H vs F' ss := h.wide w
theorem Hd.mono2 {v : V} {F F' : Addr → Prop} {s : Sl} (g : Same G G') (k : ∀ a o, F a → H a = some o → NT o → H' a = some o) (w : ∀ a, F a → F' a) (h : Hd K mg G H v F s) : Hd K mg G' H' v F' s := (h.mono g k).wide w
theorem HdL.length : ∀ {vs : List V} {F : Addr → Prop} {ss : List Sl}, HdL K mg G H vs F ss → vs.length = ss.length
  | _, _, _, .nil => rfl
  | _, _, _, .cons _ r _ _ _ => by simp [HdL.length r]
end

def SlOk (K : PySem.W.Frag) (mg : Str → Option Value) (H0 G H : Hp) (F : Addr → Prop) (o : Option (Option V)) (s : Sl) : Prop := s = .no ∨ (∃ v, o = some (some v) ∧ Hd K mg G H v F s) ∨ ∃ v d, s = .bo d ∧ o = some (some v) ∧ RepB K mg G H0 v d

def isOwn : Sl → Bool
  | .ow _ => true
  | .dk _ _ => true
  | .ob _ _ => true
  | .ol _ => true
  | _ => false
/-- what belongs to others; the value that the first slot keeps as long as it is one's own -/
structure Zs where
  z : Addr → Prop
  a : Option V
  t : TabI
structure Rel [TC : TabCtx] (K : PySem.W.Frag) (mg : Str → Option Value) (G0 H0 : Hp) (Z : Zs) (Γ : DEnv) (σ : St) (G H : Hp) : Prop where
  len : σ.length = Γ.length
  gh : Same G H
  hh : SameN H0 H
  gg : Same G0 G
  new : ∀ a, G a ≠ none → G0 a ≠ none ∨ H0 a = none
  zz : ∀ a, Z.z a → H a ≠ none
  an : ∀ v s, Z.a = some v → Γ[0]? = some s → isOwn s = true → σ[0]? = some (some v)
  tb : Z.t.t G H
  tz : ∀ a, Z.t.tz a → Z.z a
  tc : Z.t = TC.ti
  hn : ∀ a, H0 a ≠ Option.none → H a ≠ Option.none
  own : ∃ own : Nat → Addr → Prop, (∀ i a, own i a → G a = none ∧ H0 a = none ∧ H a ≠ none ∧ ¬ Z.z a) ∧ (∀ i j a, own i a → own j a → i = j) ∧ ∀ (i : Nat) s, Γ[i]? = some s → SlOk K mg H0 G H (own i) (σ[i]?) s

section
variable {K : PySem.W.Frag} {mg : Str → Option Value} {G0 H0 G H G' H' : Hp} {Z : Zs} {Γ : DEnv} {σ : St}
theorem Ext.none {a : Addr} (e : Ext G H G' H') (h1 : G a = Option.none) (h2 : H a ≠ Option.none) : G' a = Option.none := by
  cases q : G' a with
  | none => rfl
  | some u =>
    rcases e.new a (by rw [q]; simp) with z | z
    · exact absurd h1 z
    · exact absurd z h2
theorem SlOk.ext {F : Addr → Prop} {o : Option (Option V)} {s : Sl} (e : Ext G H G' H') (h : SlOk K mg H0 G H F o s) : SlOk K mg H0 G' H' F o s := by
  rcases h with h | ⟨v, h1, h2⟩ | ⟨v, d, h0, h1, h2⟩
  · exact .inl h
  · exact .inr (.inl ⟨v, h1, h2.mono e.gg fun a o _ q n => e.hh a o q n⟩)
  · exact .inr (.inr ⟨v, d, h0, h1, h2.mono e.gg (same_n (Same.refl _))⟩)
theorem Rel.hf (r : Rel K mg G0 H0 Z Γ σ G H) {a : Addr} (h : H a = Option.none) : H0 a = Option.none := by
  cases q : H0 a with
  | none => rfl
  | some o => exact absurd h (r.hn a (by rw [q]; simp))
theorem Rel.tbx (r : Rel K mg G0 H0 Z Γ σ G H) (e : TC.ti.t G H → TC.ti.t G' H') : Z.t.t G' H' := by
  rw [r.tc]
  exact e (by rw [← r.tc]; exact r.tb)
theorem Rel.tbc (r : Rel K mg G0 H0 Z Γ σ G H) : TC.ti.t G H := by rw [← r.tc]; exact r.tb
theorem Rel.ext (r : Rel K mg G0 H0 Z Γ σ G H) (e : Ext G H G' H') : Rel K mg G0 H0 Z Γ σ G' H' := by
  obtain ⟨own, o1, o2, o3⟩ := r.own
  exact ⟨r.len, e.gh, r.hh.trans e.hh, r.gg.trans e.gg, fun a q => by
    rcases e.new a q with z | z
    · exact r.new a z
    · exact .inr (r.hf z), fun a z => e.hn _ (r.zz a z), r.an, r.tbx e.tb, r.tz, r.tc, fun a h => e.hn a (r.hn a h), own, fun i a h => by
      obtain ⟨h1, h2, h3, h4⟩ := o1 i a h
      exact ⟨e.none h1 h3, h2, e.hn _ h3, h4⟩, o2, fun i s h => (o3 i s h).ext e⟩
theorem set_get {α : Type} {l : List α} {i j : Nat} {x y : α} (h : (l.set i x)[j]? = some y) : (i = j ∧ i < l.length ∧ y = x) ∨ (i ≠ j ∧ l[j]? = some y) := by
  by_cases e : i = j
  · subst e
    rw [List.getElem?_set] at h
    by_cases z : i < l.length
    · simp [z] at h; exact .inl ⟨rfl, z, h.symm⟩
    · simp [z] at h
  · rw [List.getElem?_set_ne e] at h
    exact .inr ⟨e, h⟩
/-- a slot gets something that was made anew -/
theorem Rel.setNew (r : Rel K mg G0 H0 Z Γ σ G H) (e : Ext G H G' H') (i : Nat) {v : V} {s : Sl} {F : Addr → Prop} (h : Hd K mg G' H' v F s) (hF : ∀ a, F a → G' a = none ∧ H a = none ∧ H' a ≠ none) (hi : i ≠ 0 ∨ isOwn s = false) : Rel K mg G0 H0 Z (Γ.set i s) (σ.set i (some v)) G' H' := by
  obtain ⟨own, o1, o2, o3⟩ := r.own
  have r' := r.ext e
  refine ⟨by simpa using r.len, r'.gh, r'.hh, r'.gg, r'.new, r'.zz, fun w s' e1 e2 e3 => ?_, r'.tb, r'.tz, r'.tc, r'.hn, fun j a => if j = i then F a else own j a, fun j a q => ?_, fun j k a q1 q2 => ?_, fun j s' q => ?_⟩
  · rcases set_get e2 with ⟨ei, hl, rfl⟩ | ⟨ei, q⟩
    · rcases hi with h | h
      · exact absurd ei h
      · rw [h] at e3; cases e3
    · rw [List.getElem?_set_ne ei]
      exact r.an w s' e1 q e3
  · by_cases ei : j = i
    · simp only [ei, if_true] at q
      obtain ⟨h1, h2, h3⟩ := hF a q
      exact ⟨h1, r.hf h2, h3, fun z => r.zz a z h2⟩
    · simp only [ei, if_false] at q
      obtain ⟨h1, h2, h3, h4⟩ := o1 j a q
      exact ⟨e.none h1 h3, h2, e.hn _ h3, h4⟩
  · by_cases e1 : j = i
    · by_cases e2 : k = i
      · rw [e1, e2]
      · simp only [e1, e2, if_true, if_false] at q1 q2
        exact absurd (hF a q1).2.1 (o1 k a q2).2.2.1
    · by_cases e2 : k = i
      · simp only [e1, e2, if_true, if_false] at q1 q2
        exact absurd (hF a q2).2.1 (o1 j a q1).2.2.1
      · simp only [e1, e2, if_false] at q1 q2
        exact o2 j k a q1 q2
  · rcases set_get q with ⟨ei, hl, rfl⟩ | ⟨ei, q⟩
    · subst ei
      refine .inr (.inl ⟨v, by simp [List.getElem?_set, r.len, hl], ?_⟩)
      simp only [if_true]
      exact h
    · rw [List.getElem?_set_ne ei]
      simp only [Ne.symm ei, if_false]
      exact (o3 j s' q).ext e
/-- a slot gets a datum -/
theorem Rel.set (r : Rel K mg G0 H0 Z Γ σ G H) (i : Nat) {v : V} {d : D} (h : Rep K mg G v d) : Rel K mg G0 H0 Z (Γ.set i (.sh d)) (σ.set i (some v)) G H :=
  r.setNew (Ext.refl r.gh) i (F := fun _ => False) (.sh h) (fun _ z => z.elim) (.inr rfl)
/-- slots forgotten -/
theorem Rel.drop (r : Rel K mg G0 H0 Z Γ σ G H) (i : Nat) : Rel K mg G0 H0 Z (Γ.set i .no) (σ.set i none) G H := by
  obtain ⟨own, o1, o2, o3⟩ := r.own
  refine ⟨by simpa using r.len, r.gh, r.hh, r.gg, r.new, r.zz, fun w s' e1 e2 e3 => ?_, r.tb, r.tz, r.tc, r.hn, own, o1, o2, fun j s q => ?_⟩
  · rcases set_get e2 with ⟨ei, hl, rfl⟩ | ⟨ei, q⟩
    · cases e3
    · rw [List.getElem?_set_ne ei]
      exact r.an w s' e1 q e3
  rcases set_get q with ⟨ei, hl, rfl⟩ | ⟨ei, q⟩
  · exact .inl rfl
  · rw [List.getElem?_set_ne ei]
    exact o3 j s q
def wipeE (Γ : DEnv) : List Nat → DEnv
  | [] => Γ
  | v :: vs => (wipeE Γ vs).set v .no
theorem Rel.wipe (r : Rel K mg G0 H0 Z Γ σ G H) : ∀ vs : List Nat, Rel K mg G0 H0 Z (wipeE Γ vs) (L2.wipe σ vs) G H
  | [] => r
  | v :: vs => (r.wipe vs).drop v
/-- an object of somebody else is written -/
theorem Rel.aside (r : Rel K mg G0 H0 Z Γ σ G H) {p : Addr} {o : HO} (hz : Z.z p) (ht : ¬ Z.t.tz p) (hg : G p = none) (h0 : H0 p = none) : Rel K mg G0 H0 Z Γ σ G (upd H p o) := by
  obtain ⟨own, o1, o2, o3⟩ := r.own
  have up : ∀ a, H a ≠ Option.none → upd H p o a ≠ Option.none := fun a q => by
    by_cases e : a = p
    · subst e; rw [upd_same]; simp
    · rw [upd_ne e]; exact q
  refine ⟨r.len, fun a u q => ?_, fun a u q n => ?_, r.gg, r.new, fun a z => up a (r.zz a z), r.an, Z.t.keep r.tb (Same.refl _) (fun a h => upd_ne (fun e => ht (by rw [← e]; exact h))) (fun _ _ g => g), r.tz, r.tc, fun a h => up a (r.hn a h), own, fun i a q => ?_, o2, fun j s q => ?_⟩
  · rw [upd_ne (ne_of_none q hg)]; exact r.gh _ _ q
  · rw [upd_ne (ne_of_none q h0)]; exact r.hh _ _ q n
  · obtain ⟨h1, h2, h3, h4⟩ := o1 i a q
    exact ⟨h1, h2, up a h3, h4⟩
  · rcases o3 j s q with h | ⟨v, h1, h2⟩ | h
    · exact .inl h
    · refine .inr (.inl ⟨v, h1, h2.mono (Same.refl _) fun a u fa q _ => ?_⟩)
      rw [upd_ne]
      · exact q
      · intro e; subst e; exact (o1 j a fa).2.2.2 hz
    · exact .inr (.inr h)
/-- an object that is new becomes somebody else's -/
theorem Rel.zput (r : Rel K mg G0 H0 Z Γ σ G H) {p : Addr} {o : HO} (hp : H p = none) : Rel K mg G0 H0 ⟨fun a => Z.z a ∨ a = p, Z.a, Z.t⟩ Γ σ G (upd H p o) := by
  obtain ⟨own, o1, o2, o3⟩ := r.own
  have x := Ext.own1 (o := o) r.gh hp
  have r' := r.ext x
  refine ⟨r'.len, r'.gh, r'.hh, r'.gg, r'.new, fun a z => ?_, r.an, r'.tb, fun a h => .inl (r.tz a h), r.tc, r'.hn, own, fun i a q => ?_, o2, fun j s q => (o3 j s q).ext x⟩
  · rcases z with z | z
    · exact r'.zz a z
    · subst z; rw [upd_same]; simp
  · obtain ⟨h1, h2, h3, h4⟩ := o1 i a q
    exact ⟨h1, h2, x.hn _ h3, fun z => by
      rcases z with z | z
      · exact h4 z
      · subst z; exact h3 hp⟩
/-! ### places: a slot, or a field of a field .. of it (the last field first) -/
abbrev Pth := List (Nat × Nat)
def getR : Pth → Sl → Option Sl
  | [], s => some s
  | (c, j) :: r, s => match getR r s with
    | some (.ob c' fs) => if c' = c then fs[j]? else none
    | _ => none
def setR : Pth → Sl → Sl → Option Sl
  | [], s', _ => some s'
  | (c, j) :: r, s', s => match getR r s with
    | some (.ob c' fs) => if c' = c ∧ j < fs.length then setR r (.ob c (fs.set j s')) s else none
    | _ => none
/-- a field's part, and what a change of it makes -/
theorem HdL.upd : ∀ {vs : List V} {F : Addr → Prop} {ss : List Sl} (j : Nat) {s : Sl}, HdL K mg G H vs F ss → ss[j]? = some s → ∃ v F1, vs[j]? = some v ∧ Hd K mg G H v F1 s ∧ (∀ a, F1 a → F a) ∧
    ∀ (G' H' : Hp) (F1' : Addr → Prop) (s' : Sl), Same G G' → (∀ a o, F a → ¬ F1 a → H a = some o → NT o → H' a = some o) → Hd K mg G' H' v F1' s' → (∀ a, F1' a → F1 a ∨ ¬ F a) → HdL K mg G' H' vs (fun a => (F a ∧ ¬ F1 a) ∨ F1' a) (ss.set j s')
  | _, _, _, _, _, .nil, h => by simp at h
  | _, _, _, 0, _, .cons (v := v) (vs := vs) (ss := ss) (F := F) (F1 := F1) (F2 := F2) h r s1 s2 d, e => by
    simp at e; subst e
    refine ⟨v, F1, rfl, h, s1, fun G' H' F1' s' sg k h' nf => ?_⟩
    refine .cons (F1 := F1') (F2 := fun a => F2 a ∧ ¬ F1' a) h' (HdL.wide2 (fun a x => ⟨x, fun y => ?_⟩) (HdL.mono sg (fun a o fa q n => k a o (s2 a fa) (fun y => d a y fa) q n) r)) (fun a x => .inr x) (fun a x => ?_) fun a x y => y.2 x
    · rcases nf a y with z | z
      · exact d a z x
      · exact z (s2 a x)
    · exact .inl ⟨s2 a x.1, fun y => d a y x.1⟩
  | _, _, _, j + 1, s, .cons (v := v0) (vs := vs) (ss := ss) (F := F) (F1 := Fh) (F2 := Ft) h r s1 s2 d, e => by
    obtain ⟨v, F1, e1, e2, e3, k'⟩ := HdL.upd j r (by simpa using e)
    refine ⟨v, F1, by simpa using e1, e2, fun a x => s2 a (e3 a x), fun G' H' F1' s' sg k h' nf => ?_⟩
    have t := k' G' H' F1' s' sg (fun a o fa nfa q n => k a o (s2 a fa) nfa q n) h' fun a x => by
      rcases nf a x with z | z
      · exact .inl z
      · exact .inr fun y => z (s2 a y)
    refine .cons (F1 := fun a => Fh a ∧ ¬ F1' a) (h.mono2 sg (fun a o fa q n => k a o (s1 a fa) (fun y => d a fa (e3 a y)) q n) fun a x => ⟨x, fun y => ?_⟩) t (fun a x => .inl ⟨s1 a x.1, fun y => d a x.1 (e3 a y)⟩) (fun a x => ?_) fun a x y => ?_
    · rcases nf a y with z | z
      · exact d a x (e3 a z)
      · exact z (s1 a x)
    · rcases x with x | x
      · exact .inl ⟨s2 a x.1, x.2⟩
      · exact .inr x
    · rcases y with y | y
      · exact d a x.1 y.1
      · exact x.2 y
/-- a place's part, and what a change of it makes -/
theorem Hd.upd : ∀ (rp : Pth) {v : V} {F : Addr → Prop} {s s1 : Sl}, Hd K mg G H v F s → getR rp s = some s1 → ∃ v1 F1, (rp = [] → v1 = v) ∧ Hd K mg G H v1 F1 s1 ∧ (∀ a, F1 a → F a) ∧
    ∀ (G' H' : Hp) (F1' : Addr → Prop) (s1' s' : Sl), Same G G' → (∀ a o, F a → ¬ F1 a → H a = some o → NT o → H' a = some o) → Hd K mg G' H' v1 F1' s1' → (∀ a, F1' a → F1 a ∨ ¬ F a) → setR rp s1' s = some s' →
      Hd K mg G' H' v (fun a => (F a ∧ ¬ F1 a) ∨ F1' a) s'
  | [], v, F, s, s1, h, e => by
    cases e
    refine ⟨v, F, fun _ => rfl, h, fun _ x => x, fun G' H' F1' s1' s' sg k h' nf es => ?_⟩
    cases es
    exact h'.wide fun a x => .inr x
  | (c, j) :: rp, v, F, s, s1, h, e => by
    unfold getR at e
    cases q : getR rp s with
    | none => rw [q] at e; cases e
    | some par =>
      rw [q] at e
      cases par with
      | ob c' fs =>
        replace e : (if c' = c then fs[j]? else none) = some s1 := e
        split at e
        · rename_i hc
          subst hc
          obtain ⟨vp, Fp, evp, hp, sp, kp⟩ := Hd.upd rp h q
          cases hp with
          | ob f hm ho n sF r =>
            rename_i p C dx vs F'
            obtain ⟨v1, F1, e1, h1, s1F, k1⟩ := r.upd j e
            refine ⟨v1, F1, (fun e => by cases e), h1, fun a x => sp a (sF a (s1F a x)), fun G' H' F1' s1' s' sg k h' nf es => ?_⟩
            unfold setR at es
            rw [q] at es
            have hlt : j < fs.length := (List.getElem?_eq_some_iff.mp e).1
            replace es : (if c' = c' ∧ j < fs.length then setR rp (.ob c' (fs.set j s1')) s else none) = some s' := es
            rw [if_pos ⟨rfl, hlt⟩] at es
            have t := k1 G' H' F1' s1' sg (fun a o fa nfa q => k a o (sp a (sF a fa)) nfa q) h' fun a x => by
              rcases nf a x with z | z
              · exact .inl z
              · exact .inr fun y => z (sp a (sF a y))
            have np1 : ¬ F1 p := fun y => n (s1F p y)
            have np1' : ¬ F1' p := fun y => by
              rcases nf p y with z | z
              · exact np1 z
              · exact z (sp p f)
            have hob : Hd K mg G' H' (.ref p) (fun a => (Fp a ∧ ¬ F1 a) ∨ F1' a) (.ob c' (fs.set j s1')) := by
              refine .ob (.inl ⟨f, np1⟩) hm (k p _ (sp p f) np1 ho nofun) (F' := fun a => (F' a ∧ ¬ F1 a) ∨ F1' a) (fun y => ?_) (fun a y => ?_) t
              · rcases y with y | y
                · exact n y.1
                · exact np1' y
              · rcases y with y | y
                · exact .inl ⟨sF a y.1, y.2⟩
                · exact .inr y
            refine (kp G' H' _ _ s' sg (fun a o fa nfa q => k a o fa (fun y => nfa (sF a (s1F a y))) q) hob (fun a y => ?_) es).wide fun a y => ?_
            · rcases y with y | y
              · exact .inl y.1
              · rcases nf a y with z | z
                · exact .inl (sF a (s1F a z))
                · exact .inr z
            · rcases y with y | y
              · exact .inl ⟨y.1, fun z => y.2 (sF a (s1F a z))⟩
              · rcases y with y | y
                · exact .inl ⟨sp a y.1, y.2⟩
                · exact .inr y
        · cases e
      | _ => cases e
mutual
def toD : Sl → Option D
  | .no => none
  | .sh d => some d
  | .ow xs => some (.lst xs)
  | .dk ks xs => some (.dic ks xs)
  | .bo _ => none
  | .ol _ => none
  | .ob c fs => (toDs fs).map (.obj c)
def toDs : List Sl → Option (List D)
  | [] => some []
  | s :: ss => (toD s).bind fun d => (toDs ss).map (d :: ·)
end
/-- what is one's own becomes known: the known part grows by it -/
structure Frz (K : PySem.W.Frag) (mg : Str → Option Value) (G H : Hp) (F : Addr → Prop) (G' : Hp) : Prop where
  gg : Same G G'
  gh : Same G' H
  new : ∀ a, G' a ≠ none → G a ≠ none ∨ F a
  tup : ∀ a vs, G' a = some (.tup vs) → G a = some (.tup vs)
theorem frz_one {K : PySem.W.Frag} {mg : Str → Option Value} {G H : Hp} {F : Addr → Prop} {p : Addr} {o : HO} (gh : Same G H) (f : F p) (gp : G p = none) (h : H p = some o) (nt : ∀ vs, o ≠ .tup vs) : Frz K mg G H F (upd G p o) := by
  refine ⟨fun a u q => ?_, fun a u q => ?_, fun a q => ?_, fun a vs q => ?_⟩
  · rw [upd_ne (ne_of_none q gp)]; exact q
  · by_cases e : a = p
    · subst e; rw [upd_same] at q; cases q; exact h
    · rw [upd_ne e] at q; exact gh _ _ q
  · by_cases e : a = p
    · subst e; exact .inr f
    · rw [upd_ne e] at q; exact .inl q
  · by_cases e : a = p
    · subst e; rw [upd_same] at q; cases q; exact absurd rfl (nt vs)
    · rw [upd_ne e] at q; exact q
theorem Frz.trans {K : PySem.W.Frag} {mg : Str → Option Value} {G H G1 G2 : Hp} {F F1 F2 : Addr → Prop} (a : Frz K mg G H F1 G1) (b : Frz K mg G1 H F2 G2) (s1 : ∀ a, F1 a → F a) (s2 : ∀ a, F2 a → F a) : Frz K mg G H F G2 :=
  ⟨a.gg.trans b.gg, b.gh, fun x q => by
    rcases b.new x q with z | z
    · rcases a.new x z with z | z
      · exact .inl z
      · exact .inr (s1 x z)
    · exact .inr (s2 x z), fun x vs q => a.tup x vs (b.tup x vs q)⟩
mutual
theorem Hd.frz : ∀ {G H : Hp} {v : V} {F : Addr → Prop} {s : Sl} {d : D}, Hd K mg G H v F s → toD s = some d → Same G H → (∀ a, F a → G a = none) → ∃ G', Frz K mg G H F G' ∧ Rep K mg G' v d
  | G, H, _, _, _, _, .sh h, e, gh, _ => by
    simp only [toD] at e; cases e
    exact ⟨G, ⟨Same.refl _, gh, fun _ h => .inl h, fun _ _ h => h⟩, h⟩
  | G, H, _, _, _, _, .ow f h r, e, gh, gn => by
    simp only [toD] at e; cases e
    have x := frz_one (K := K) (mg := mg) gh f (gn _ f) h (fun vs z => by cases z)
    exact ⟨_, x, .lst upd_same (r.mono x.gg)⟩
  | G, H, _, _, _, _, .dk f h l r, e, gh, gn => by
    simp only [toD] at e; cases e
    have x := frz_one (K := K) (mg := mg) gh f (gn _ f) h (fun vs z => by cases z)
    exact ⟨_, x, .dic upd_same l (r.mono x.gg)⟩
  | G, H, _, F, _, _, .ob (p := p) f hm h n s r, e, gh, gn => by
    simp only [toD, Option.map_eq_some_iff] at e
    obtain ⟨ds, e1, rfl⟩ := e
    obtain ⟨G1, x1, r1⟩ := HdL.frz r e1 gh fun a z => gn a (s a z)
    have gp : G1 p = none := by
      cases q : G1 p with
      | none => rfl
      | some u =>
        rcases x1.new p (by rw [q]; simp) with z | z
        · exact absurd (gn _ f) z
        · exact absurd z n
    have x2 := frz_one (K := K) (mg := mg) (F := F) x1.gh f gp h (fun vs z => by cases z)
    exact ⟨_, x1.trans x2 s fun _ z => z, .obj hm upd_same (r1.mono x2.gg)⟩
  | _, _, _, _, _, _, .ol _ _ _ _ _, e, _, _ => by simp only [toD] at e; cases e
theorem HdL.frz : ∀ {G H : Hp} {vs : List V} {F : Addr → Prop} {ss : List Sl} {ds : List D}, HdL K mg G H vs F ss → toDs ss = some ds → Same G H → (∀ a, F a → G a = none) → ∃ G', Frz K mg G H F G' ∧ RepL K mg G' vs ds
  | G, H, _, _, _, _, .nil, e, gh, _ => by
    simp only [toDs] at e; cases e
    exact ⟨G, ⟨Same.refl _, gh, fun _ h => .inl h, fun _ _ h => h⟩, .nil⟩
  | G, H, _, _, _, _, .cons h r s1 s2 dj, e, gh, gn => by
    simp only [toDs] at e
    cases q1 : toD _ with
    | none => rw [q1] at e; cases e
    | some d =>
      rw [q1] at e
      simp only [Option.bind_some, Option.map_eq_some_iff] at e
      obtain ⟨ds, e2, rfl⟩ := e
      obtain ⟨G1, x1, r1⟩ := Hd.frz h q1 gh fun a z => gn a (s1 a z)
      have r' := HdL.mono (H' := H) x1.gg (fun _ _ _ q _ => q) r
      obtain ⟨G2, x2, r2⟩ := HdL.frz r' e2 x1.gh fun a z => by
        cases q : G1 a with
        | none => rfl
        | some u =>
          rcases x1.new a (by rw [q]; simp) with w | w
          · exact absurd (gn a (s2 a z)) w
          · exact absurd z (dj a w)
      exact ⟨G2, x1.trans x2 s1 s2, .cons (r1.mono x2.gg) r2⟩
end
theorem getR_own : ∀ {rp : Pth} {s : Sl} {c : Nat} {fs : List Sl}, getR rp s = some (.ob c fs) → isOwn s = true
  | [], _, _, _, h => by cases h; rfl
  | (c, j) :: rp, s, _, _, h => by
    unfold getR at h
    cases q : getR rp s with
    | none => rw [q] at h; cases h
    | some par =>
      cases par with
      | ob c' fs => exact getR_own q
      | _ => rw [q] at h; cases h
theorem setR_own {rp : Pth} {s s1 s1' s' : Sl} (hg : getR rp s = some s1) (hs : setR rp s1' s = some s') (h : isOwn s1' = true → isOwn s1 = true) : isOwn s' = true → isOwn s = true := by
  cases rp with
  | nil => cases hg; cases hs; exact h
  | cons p rp =>
    obtain ⟨c, j⟩ := p
    unfold getR at hg
    cases q : getR rp s with
    | none => rw [q] at hg; cases hg
    | some par =>
      cases par with
      | ob c' fs => exact fun _ => getR_own q
      | _ => rw [q] at hg; cases hg
/-- a place of a slot: what it holds, and how it may be changed -/
structure Pack (K : PySem.W.Frag) (mg : Str → Option Value) (G0 H0 : Hp) (Z : Zs) (Γ : DEnv) (σ : St) (i : Nat) (rp : Pth) (s s1 : Sl) (v : V) (F1 : Addr → Prop) (Hb G H : Hp) : Prop where
  hd : Hd K mg G H v F1 s1
  fr : ∀ a, F1 a → G a = none ∧ H0 a = none ∧ H a ≠ none ∧ ¬ Z.z a ∧ Hb a ≠ none
  tb : TC.ti.t G H
  ntz : ∀ a, F1 a → ¬ TC.ti.tz a
  hbt : ∀ a, TC.ti.tz a → Hb a ≠ none
  upC : ∀ (G' H' : Hp) (F1' : Addr → Prop) (s1' s' : Sl), Same G G' → Same G' H' → TC.ti.t G' H' → (∀ a, ¬ F1 a → H a ≠ none → H' a ≠ none) → (∀ a, G' a ≠ none → G a ≠ none ∨ Hb a = none ∨ F1 a) → (∀ a o, ¬ F1 a → H a = some o → NT o → H' a = some o) → Hd K mg G' H' v F1' s1' →
    (∀ a, F1' a → G' a = none ∧ H' a ≠ none ∧ (F1 a ∨ Hb a = none)) → (isOwn s1' = true → isOwn s1 = true) → setR rp s1' s = some s' → Rel K mg G0 H0 Z (Γ.set i s') σ G' H'
theorem Pack.up {i : Nat} {rp : Pth} {s s1 : Sl} {v : V} {F1 : Addr → Prop} {Hb : Hp} (P : Pack K mg G0 H0 Z Γ σ i rp s s1 v F1 Hb G H) (G' H' : Hp) (F1' : Addr → Prop) (s1' s' : Sl) (sg : Same G G') (gh : Same G' H') (nw : ∀ a, G' a ≠ none → G a ≠ none ∨ Hb a = none ∨ F1 a) (keep : ∀ a o, ¬ F1 a → H a = some o → H' a = some o) (h' : Hd K mg G' H' v F1' s1')
    (nf : ∀ a, F1' a → G' a = none ∧ H' a ≠ none ∧ (F1 a ∨ Hb a = none)) (io : isOwn s1' = true → isOwn s1 = true) (es : setR rp s1' s = some s') : Rel K mg G0 H0 Z (Γ.set i s') σ G' H' := by
  have hn' : ∀ a, ¬ F1 a → H a ≠ none → H' a ≠ none := fun a nf h => by
    cases q : H a with
    | none => exact absurd q h
    | some o => rw [keep a o nf q]; simp
  refine P.upC G' H' F1' s1' s' sg gh (TC.ti.keep P.tb sg (fun a h => ?_) (fun a h g => ?_)) hn' nw (fun a o nf q _ => keep a o nf q) h' nf io es
  · cases q : H a with
    | none => exact absurd q (TC.ti.live P.tb a h).1
    | some o => exact keep a o (fun y => P.ntz a y h) q
  · cases q : G' a with
    | none => rfl
    | some u =>
      rcases nw a (by rw [q]; simp) with z | z | z
      · exact absurd g z
      · exact absurd z (P.hbt a h)
      · exact absurd h (P.ntz a z)
theorem Rel.pack (R : Rel K mg G0 H0 Z Γ σ G H) {i : Nat} {rp : Pth} {s s1 : Sl} (hi : Γ[i]? = some s) (hg : getR rp s = some s1) (hn : s1 ≠ .no) (hs : SlP s) :
    ∃ v F1, (rp = [] → σ[i]? = some (some v)) ∧ ∀ G1 H1, Ext G H G1 H1 → Pack K mg G0 H0 Z Γ σ i rp s s1 v F1 H G1 H1 := by
  obtain ⟨own, o1, o2, o3⟩ := R.own
  rcases o3 i s hi with z | ⟨v0, e0, h0⟩ | ⟨_, d0, z, _⟩
  · exact absurd z hs.1
  rotate_left
  · exact absurd z (hs.2 d0)
  obtain ⟨v1, F1, ev, h1, sF, kk⟩ := Hd.upd rp h0 hg
  refine ⟨v1, F1, fun e => by rw [ev e]; exact e0, fun G1 H1 x => ?_⟩
  have R1 := R.ext x
  have old : ∀ a, F1 a → G a = none ∧ H0 a = none ∧ H a ≠ none ∧ ¬ Z.z a := fun a y => o1 i a (sF a y)
  refine ⟨h1.mono x.gg fun a o _ q n => x.hh a o q n, fun a y => ?_, R1.tbc, fun a y h => (old a y).2.2.2 (R.tz a (by rw [R.tc]; exact h)), fun a h => R.zz a (R.tz a (by rw [R.tc]; exact h)), fun G' H' F1' s1' s' sg gh tb' hn' nw keep h' nf io es => ?_⟩
  · obtain ⟨z1, z2, z3, z4⟩ := old a y
    exact ⟨x.none z1 z3, z2, x.hn _ z3, z4, z3⟩
  · have big : Hd K mg G' H' v0 (fun a => (own i a ∧ ¬ F1 a) ∨ F1' a) s' := by
      have hx : Hd K mg G1 H1 v0 (own i) s := h0.mono x.gg fun a o _ q n => x.hh a o q n
      refine kk G' H' F1' s1' s' (x.gg.trans sg) (fun a o fa nfa q n => keep a o nfa (x.hh a o q n) n) h' (fun a y => ?_) es
      rcases (nf a y).2.2 with z | z
      · exact .inl z
      · exact .inr fun w => (o1 i a w).2.2.1 z
    have stay : ∀ j a, own j a → ¬ F1 a → G' a = none ∧ H' a ≠ none := fun j a w nf1 => by
      obtain ⟨z1, z2, z3, z4⟩ := o1 j a w
      have g1 := x.none z1 z3
      have h1' := x.hn _ z3
      refine ⟨?_, ?_⟩
      · cases q : G' a with
        | none => rfl
        | some u =>
          rcases nw a (by rw [q]; simp) with z | z | z
          · exact absurd g1 z
          · exact absurd z z3
          · exact absurd z nf1
      · exact hn' a nf1 h1'
    refine ⟨by simpa using R.len, gh, fun a o q n => ?_, R1.gg.trans sg, fun a q => ?_, fun a z => ?_, fun w s'' e1 e2 e3 => ?_, (by rw [R.tc]; exact tb'), R.tz, R.tc, fun a h => hn' a (fun y => h (old a y).2.1) (R1.hn a h), fun j a => if j = i then (own i a ∧ ¬ F1 a) ∨ F1' a else own j a, fun j a w => ?_, fun j k a w1 w2 => ?_, fun j s'' q => ?_⟩
    · refine keep a o (fun y => ?_) (R1.hh a o q n) n
      rw [(old a y).2.1] at q; cases q
    · rcases nw a q with z | z | z
      · exact R1.new a z
      · exact .inr (R.hf z)
      · exact .inr (old a z).2.1
    · exact hn' a (fun y => (old a y).2.2.2 z) (R1.zz a z)
    · rcases set_get e2 with ⟨ei, hl, rfl⟩ | ⟨ei, q⟩
      · subst ei
        exact R.an w s e1 hi (setR_own hg es io e3)
      · exact R.an w s'' e1 q e3
    · by_cases ej : j = i
      · simp only [ej, if_true] at w
        rcases w with w | w
        · obtain ⟨z1, z2, z3, z4⟩ := o1 i a w.1
          obtain ⟨y1, y2⟩ := stay i a w.1 w.2
          exact ⟨y1, z2, y2, z4⟩
        · obtain ⟨y1, y2, y3⟩ := nf a w
          rcases y3 with y3 | y3
          · exact ⟨y1, (old a y3).2.1, y2, (old a y3).2.2.2⟩
          · exact ⟨y1, R.hf y3, y2, fun z => R.zz a z y3⟩
      · simp only [ej, if_false] at w
        have nf1 : ¬ F1 a := fun y => ej (o2 j i a w (sF a y))
        obtain ⟨z1, z2, z3, z4⟩ := o1 j a w
        obtain ⟨y1, y2⟩ := stay j a w nf1
        exact ⟨y1, z2, y2, z4⟩
    · have cross : ∀ j', j' ≠ i → own j' a → ¬ ((own i a ∧ ¬ F1 a) ∨ F1' a) := fun j' ne w y => by
        rcases y with y | y
        · exact ne (o2 j' i a w y.1)
        · rcases (nf a y).2.2 with z | z
          · exact ne (o2 j' i a w (sF a z))
          · exact (o1 j' a w).2.2.1 z
      by_cases e1 : j = i
      · by_cases e2 : k = i
        · rw [e1, e2]
        · simp only [e1, e2, if_true, if_false] at w1 w2
          exact absurd w1 (cross k e2 w2)
      · by_cases e2 : k = i
        · simp only [e1, e2, if_true, if_false] at w1 w2
          exact absurd w2 (cross j e1 w1)
        · simp only [e1, e2, if_false] at w1 w2
          exact o2 j k a w1 w2
    · rcases set_get q with ⟨ej, hl, rfl⟩ | ⟨ej, q⟩
      · subst ej
        refine .inr (.inl ⟨v0, e0, ?_⟩)
        simp only [if_true]
        exact big
      · rcases o3 j s'' q with z | ⟨w, z1, z2⟩ | ⟨w, d, z0, z1, z2⟩
        · exact .inl z
        · refine .inr (.inl ⟨w, z1, ?_⟩)
          simp only [Ne.symm ej, if_false]
          refine z2.mono (x.gg.trans sg) fun a o fa q n => keep a o (fun y => ?_) (x.hh a o q n) n
          exact ej (o2 i j a (sF a y) fa)
        · exact .inr (.inr ⟨w, d, z0, z1, z2.mono (x.gg.trans sg) (same_n (Same.refl _))⟩)
theorem Rel.sh (R : Rel K mg G0 H0 Z Γ σ G H) {i : Nat} {d : D} (hi : Γ[i]? = some (.sh d)) : ∃ v, σ[i]? = some (some v) ∧ Rep K mg G v d := by
  obtain ⟨own, o1, o2, o3⟩ := R.own
  rcases o3 i _ hi with z | ⟨v, h1, h2⟩ | ⟨_, _, z, _⟩
  · cases z
  · cases h2 with
    | sh h => exact ⟨v, h1, h⟩
  · cases z
theorem Rel.bo (R : Rel K mg G0 H0 Z Γ σ G H) {i : Nat} {d : D} (hi : Γ[i]? = some (.bo d)) : ∃ v, σ[i]? = some (some v) ∧ RepB K mg G H v d := by
  obtain ⟨own, o1, o2, o3⟩ := R.own
  rcases o3 i _ hi with z | ⟨v, h1, h2⟩ | ⟨v, d', z, h1, h2⟩
  · cases z
  · cases h2
  · cases z; exact ⟨v, h1, h2.mono (Same.refl _) R.hh⟩
theorem Rel.ow (R : Rel K mg G0 H0 Z Γ σ G H) {i : Nat} {xs : List D} (hi : Γ[i]? = some (.ow xs)) : ∃ p vs, σ[i]? = some (some (.ref p)) ∧ G p = none ∧ H0 p = none ∧ H p = some (.lst vs) ∧ RepL K mg G vs xs := by
  obtain ⟨own, o1, o2, o3⟩ := R.own
  rcases o3 i _ hi with z | ⟨v, h1, h2⟩ | ⟨_, _, z, _⟩
  · cases z
  · cases h2 with
    | ow f h r => exact ⟨_, _, h1, (o1 i _ f).1, (o1 i _ f).2.1, h, r⟩
  · cases z
/-- a field of a place -/
theorem Pack.fld {i : Nat} {rp : Pth} {s s1 : Sl} {c j : Nat} {fs : List Sl} {v : V} {F : Addr → Prop} {Hb : Hp} (P : Pack K mg G0 H0 Z Γ σ i rp s (.ob c fs) v F Hb G H) (hg : getR rp s = some (.ob c fs)) (hj : fs[j]? = some s1) :
    ∃ p C dx vs v1 F1, v = .ref p ∧ mg (cN c) = some (.ref C) ∧ H p = some (.ins C dx ((cF c).zip vs)) ∧ vs[j]? = some v1 ∧ Pack K mg G0 H0 Z Γ σ i ((c, j) :: rp) s s1 v1 F1 Hb G H := by
  have hd := P.hd
  cases hd with
  | ob f hm ho n sF r =>
    rename_i p C dx vs F'
    obtain ⟨v1, F1, e1, h1, s1F, k1⟩ := r.upd j hj
    refine ⟨p, C, dx, vs, v1, F1, rfl, hm, ho, e1, h1, fun a y => P.fr a (sF a (s1F a y)), P.tb, fun a y => P.ntz a (sF a (s1F a y)), P.hbt, fun G' H' F1' s1' s' sg gh tb' hn' nw keep h' nf io es => ?_⟩
    have hlt : j < fs.length := (List.getElem?_eq_some_iff.mp hj).1
    unfold setR at es
    rw [hg] at es
    replace es : (if c = c ∧ j < fs.length then setR rp (.ob c (fs.set j s1')) s else none) = some s' := es
    rw [if_pos ⟨rfl, hlt⟩] at es
    have nf' : ∀ a, F1' a → F1 a ∨ ¬ F a := fun a x => by
      rcases (nf a x).2.2 with z | z
      · exact .inl z
      · exact .inr fun y => (P.fr a y).2.2.2.2 z
    have t := k1 G' H' F1' s1' sg (fun a o fa nfa q n => keep a o nfa q n) h' fun a x => by
      rcases nf' a x with z | z
      · exact .inl z
      · exact .inr fun y => z (sF a y)
    have np1 : ¬ F1 p := fun y => n (s1F p y)
    have np1' : ¬ F1' p := fun y => by
      rcases nf' p y with z | z
      · exact np1 z
      · exact z f
    have hob : Hd K mg G' H' (.ref p) (fun a => (F a ∧ ¬ F1 a) ∨ F1' a) (.ob c (fs.set j s1')) := by
      refine .ob (.inl ⟨f, np1⟩) hm (keep p _ np1 ho nofun) (F' := fun a => (F' a ∧ ¬ F1 a) ∨ F1' a) (fun y => ?_) (fun a y => ?_) t
      · rcases y with y | y
        · exact n y.1
        · exact np1' y
      · rcases y with y | y
        · exact .inl ⟨sF a y.1, y.2⟩
        · exact .inr y
    refine P.upC G' H' _ _ s' sg gh tb' (fun a nfa h => hn' a (fun y => nfa (sF a (s1F a y))) h) (fun a q => ?_) (fun a o nfa q n => keep a o (fun y => nfa (sF a (s1F a y))) q n) hob (fun a y => ?_) (fun _ => rfl) es
    · rcases nw a q with z | z | z
      · exact .inl z
      · exact .inr (.inl z)
      · exact .inr (.inr (sF a (s1F a z)))
    · rcases y with y | y
      · obtain ⟨z1, z2, z3, z4, z5⟩ := P.fr a y.1
        refine ⟨?_, ?_, .inl y.1⟩
        · cases q : G' a with
          | none => rfl
          | some u =>
            rcases nw a (by rw [q]; simp) with w | w | w
            · exact absurd z1 w
            · exact absurd w z5
            · exact absurd w y.2
        · exact hn' a y.2 z3
      · obtain ⟨z1, z2, z3⟩ := nf a y
        refine ⟨z1, z2, ?_⟩
        rcases z3 with z3 | z3
        · exact .inl (sF a (s1F a z3))
        · exact .inr z3
/-- a place of one's own becomes known to all -/
theorem Rel.frzP (R : Rel K mg G0 H0 Z Γ σ G H) {i : Nat} {rp : Pth} {s s1 s' : Sl} {d : D} (hi : Γ[i]? = some s) (hg : getR rp s = some s1) (hn : s1 ≠ .no) (hs : SlP s) (hd : toD s1 = some d) (es : setR rp (.sh d) s = some s') :
    ∃ G', Rel K mg G0 H0 Z (Γ.set i s') σ G' H ∧ Same G G' := by
  obtain ⟨v, F1, _, pk⟩ := R.pack hi hg hn hs
  have p := pk G H (Ext.refl R.gh)
  obtain ⟨G', x, r⟩ := p.hd.frz hd R.gh fun a z => (p.fr a z).1
  refine ⟨G', p.up G' H (fun _ => False) (.sh d) s' x.gg x.gh (fun a q => ?_) (fun _ _ _ q => q) (.sh r) (fun _ z => z.elim) (fun z => nomatch z) es, x.gg⟩
  rcases x.new a q with z | z
  · exact .inl z
  · exact .inr (.inr z)
end

/-! ### judgements over data -/
abbrev Ex := DEnv → Option D
abbrev Te := DEnv → Option Bool
abbrev Ag := DEnv → Option (List D)
inductive Res where
  | nx (Γ : DEnv) | rt (d : D) | rm (d : D) (s : Sl) | ro (s : Sl) | bk (Γ : DEnv) | ct (Γ : DEnv)
abbrev Sm := DEnv → Option Res

structure E (X : Cx) (e : Expr) (f : Ex) : Prop where
  ex : ∃ t, PE X e t ∧ ∀ G0 H0 Z Γ σ G H Q d, Rel X.K X.mg G0 H0 Z Γ σ G H → f Γ = some d → (∀ G' H' v, Ext G H G' H' → Rep X.K X.mg G' v d → Q v H') → t σ H Q
/-- a new list -/
structure EL (X : Cx) (e : Expr) (f : Ag) : Prop where
  ex : ∃ t, PE X e t ∧ ∀ G0 H0 Z Γ σ G H Q ds, Rel X.K X.mg G0 H0 Z Γ σ G H → f Γ = some ds → (∀ G' H' p vs, Ext G H G' H' → H p = none → G' p = none → H' p = some (.lst vs) → RepL X.K X.mg G' vs ds → Q (.ref p) H') → t σ H Q
/-- a list, maybe one's own, that is only looked at -/
structure EB (X : Cx) (e : Expr) (f : Ag) : Prop where
  ex : ∃ t, PE X e t ∧ ∀ G0 H0 Z Γ σ G H Q ds, Rel X.K X.mg G0 H0 Z Γ σ G H → f Γ = some ds → (∀ G' H' p vs, Ext G H G' H' → SqL X.K H' p vs → RepL X.K X.mg G' vs ds → Q (.ref p) H') → t σ H Q
structure T (X : Cx) (e : Expr) (f : Te) : Prop where
  ex : ∃ t, PT X e t ∧ ∀ G0 H0 Z Γ σ G H Q b, Rel X.K X.mg G0 H0 Z Γ σ G H → f Γ = some b → (∀ G' H', Ext G H G' H' → Q b H') → t σ H Q
structure W (X : Cx) (e : Expr) (f : Te) : Prop where
  ex : ∃ t, PW X e t ∧ ∀ G0 H0 Z Γ σ G H Q b, Rel X.K X.mg G0 H0 Z Γ σ G H → f Γ = some b → (∀ G' H', Ext G H G' H' → Q b H') → t σ H Q
structure A (X : Cx) (es : List Expr) (f : Ag) : Prop where
  ex : ∃ t, PA X es t ∧ ∀ G0 H0 Z Γ σ G H Q ds, Rel X.K X.mg G0 H0 Z Γ σ G H → f Γ = some ds → (∀ G' H' vs, Ext G H G' H' → RepL X.K X.mg G' vs ds → Q vs H') → t σ H Q
/-- what is wanted behind a statement -/
def Fin (X : Cx) (G0 H0 : Hp) (Z : Zs) (D : Ends) : Res → Prop
  | .nx Γ => ∀ σ G H, Rel X.K X.mg G0 H0 Z Γ σ G H → D.nx σ H
  | .bk Γ => ∀ σ G H, Rel X.K X.mg G0 H0 Z Γ σ G H → D.bk σ H
  | .ct Γ => ∀ σ G H, Rel X.K X.mg G0 H0 Z Γ σ G H → D.ct σ H
  | .rt d => ∀ G H v, Ext G0 H0 G H → Rep X.K X.mg G v d → D.rt v H
  | .ro s => ∀ G H v F, Ext G0 H0 G H → Hd X.K X.mg G H v F s → (∀ a, F a → G a = none ∧ H0 a = none ∧ H a ≠ none) → D.rt v H
  | .rm d s => ∀ Γ σ G H v, Rel X.K X.mg G0 H0 Z Γ σ G H → Γ[0]? = some s → Rep X.K X.mg G v d → D.rt v H
structure S (X : Cx) (st : Stmt) (f : Sm) : Prop where
  ex : ∃ t, PS X st t ∧ ∀ G0 H0 Z Γ σ G H D r, Rel X.K X.mg G0 H0 Z Γ σ G H → f Γ = some r → Fin X G0 H0 Z D r → t D σ H
structure Ss (X : Cx) (st : List Stmt) (f : Sm) : Prop where
  ex : ∃ t, PSs X st t ∧ ∀ G0 H0 Z Γ σ G H D r, Rel X.K X.mg G0 H0 Z Γ σ G H → f Γ = some r → Fin X G0 H0 Z D r → t D σ H
end DL

namespace DL
open PySem L2
variable [TC : TabCtx]

theorem obind {α β : Type} {o : Option α} {f : α → Option β} {b : β} (h : o.bind f = some b) : ∃ a, o = some a ∧ f a = some b := by
  cases o with
  | none => cases h
  | some a => exact ⟨a, rfl, h⟩

/-! ### what is looked at: a datum, or a list of one's own -/
structure B (X : Cx) (e : Expr) (f : Ex) : Prop where
  ex : ∃ t, PE X e t ∧ ∀ G0 H0 Z Γ σ G H Q d, Rel X.K X.mg G0 H0 Z Γ σ G H → f Γ = some d → (∀ G' H' v, Ext G H G' H' → RepB X.K X.mg G' H' v d → Q v H') → t σ H Q

section
variable {K : PySem.W.Frag} {mg : Str → Option Value} {G H G' H' : Hp} {v : V} {d : D}
theorem RepB.ext (r : RepB K mg G H v d) (e : Ext G H G' H') : RepB K mg G' H' v d := by
  exact r.mono e.gg e.hh
/-- a list that is looked at -/
theorem RepB.lst {xs : List D} (gh : Same G H) (r : RepB K mg G H v (.lst xs)) : ∃ p vs, v = .ref p ∧ H p = some (.lst vs) ∧ RepL K mg G vs xs := by
  cases r with
  | sh r => cases r with
    | lst h r => exact ⟨_, _, rfl, gh _ _ h, r⟩
  | li h r => exact ⟨_, _, rfl, h, r⟩
theorem RepB.tup {xs : List D} (gh : Same G H) (r : RepB K mg G H v (.tup xs)) : ∃ p vs, v = .ref p ∧ H p = some (.tup vs) ∧ RepL K mg G vs xs := by
  cases r with
  | sh r => cases r with
    | tup h r => exact ⟨_, _, rfl, gh _ _ h, r⟩
theorem RepB.scr {ns : List Int} (gh : Same G H) (r : RepB K mg G H v (.scr ns)) : ∃ p, v = .ref p ∧ SqL K H p (ns.map V.int) := by
  cases r with
  | sh r => cases r with
    | scr h => exact ⟨_, rfl, gh.seq h⟩
mutual
theorem Hd.bo : ∀ {v : V} {F : Addr → Prop} {s : Sl} {d : D}, Hd K mg G H v F s → toD s = some d → RepB K mg G H v d
  | _, _, _, _, .sh h, e => by simp only [toD] at e; cases e; exact .sh h
  | _, _, _, _, .ow f h r, e => by simp only [toD] at e; cases e; exact .li h r
  | _, _, _, _, .dk _ h l r, e => by simp only [toD] at e; cases e; exact .dic h l r
  | _, _, _, _, .ob f hm h n s r, e => by
    simp only [toD, Option.map_eq_some_iff] at e
    obtain ⟨ds, e1, rfl⟩ := e
    exact .obj hm h (HdL.bo r e1)
  | _, _, _, _, .ol _ _ _ _ _, e => by simp only [toD] at e; cases e
theorem HdL.bo : ∀ {vs : List V} {F : Addr → Prop} {ss : List Sl} {ds : List D}, HdL K mg G H vs F ss → toDs ss = some ds → RepBL K mg G H vs ds
  | _, _, _, _, .nil, e => by simp only [toDs] at e; cases e; exact .nil
  | _, _, _, _, .cons h r s1 s2 dj, e => by
    simp only [toDs] at e
    cases q1 : toD _ with
    | none => rw [q1] at e; cases e
    | some d =>
      rw [q1] at e
      simp only [Option.bind_some, Option.map_eq_some_iff] at e
      obtain ⟨ds, e2, rfl⟩ := e
      exact .cons (Hd.bo h q1) (HdL.bo r e2)
end
theorem Rep.flat (r : Rep K mg G v d) : (∀ i, d = .int i → v = .int i) ∧ (∀ b, d = .bl b → v = .bl b) ∧ (d = .non → v = .non) ∧ (∀ x, d = .str x → v = .str x) := by
  cases r <;> simp
end

/-! ### expressions -/
def gV (i : Nat) : Ex := fun Γ => match Γ[i]? with | some (.sh d) => some d | _ => none
def gB (i : Nat) : Ex := fun Γ => match Γ[i]? with | some (.sh d) => some d | some (.ow xs) => some (.lst xs) | some (.bo d) => some d | some (.ob c fs) => toD (.ob c fs) | some (.dk ks xs) => some (.dic ks xs) | _ => none
def gC (d : D) : Ex := fun _ => some d
def gI (i : Int) : Ex := fun _ => some (.int i)

section
variable {X : Cx} {e a b : Expr} {es : List Expr} {f g : Ex} {fs : Ag} {pos : Pos}

theorem e_var (i : Nat) {x : Str} (hN : X.N[i]? = some x := by rfl) (hv : Vis X.env.scope x := by first | exact Or.inl rfl | exact Or.inr (Or.inl rfl) | exact Or.inr (Or.inr rfl)) (hd : (x == ("__debug__" : Str)) = false := by decide)
    (hcd : (x == ("__classdict__" : Str)) = false := by decide) : E X (.Name x pos) (gV i) := by
  refine ⟨⟨_, pe_var hN hv hd hcd, fun G0 H0 Z Γ σ G H Q d R hf k => ?_⟩⟩
  unfold gV at hf
  cases q : Γ[i]? with
  | none => rw [q] at hf; cases hf
  | some s =>
    rw [q] at hf
    cases s with
    | sh d' =>
      cases hf
      obtain ⟨v, h1, h2⟩ := R.sh q
      exact ⟨v, h1, k G H v (Ext.refl R.gh) h2⟩
    | _ => cases hf
theorem b_var (i : Nat) {x : Str} (hN : X.N[i]? = some x := by rfl) (hv : Vis X.env.scope x := by first | exact Or.inl rfl | exact Or.inr (Or.inl rfl) | exact Or.inr (Or.inr rfl)) (hd : (x == ("__debug__" : Str)) = false := by decide)
    (hcd : (x == ("__classdict__" : Str)) = false := by decide) : B X (.Name x pos) (gB i) := by
  refine ⟨⟨_, pe_var hN hv hd hcd, fun G0 H0 Z Γ σ G H Q d R hf k => ?_⟩⟩
  unfold gB at hf
  cases q : Γ[i]? with
  | none => rw [q] at hf; cases hf
  | some s =>
    rw [q] at hf
    cases s with
    | ow xs =>
      cases hf
      obtain ⟨p, vs, h1, h2, h3, h4, h5⟩ := R.ow q
      exact ⟨_, h1, k G H _ (Ext.refl R.gh) (.li h4 h5)⟩
    | sh d' =>
      cases hf
      obtain ⟨v, h1, h2⟩ := R.sh q
      exact ⟨v, h1, k G H v (Ext.refl R.gh) (.sh h2)⟩
    | bo d' =>
      cases hf
      obtain ⟨v, h1, h2⟩ := R.bo q
      exact ⟨v, h1, k G H v (Ext.refl R.gh) h2⟩
    | ob c fs =>
      obtain ⟨own, o1, o2, o3⟩ := R.own
      rcases o3 i _ q with z | ⟨v, h1, h2⟩ | ⟨_, _, z, _⟩
      · cases z
      · exact ⟨v, h1, k G H v (Ext.refl R.gh) (h2.bo hf)⟩
      · cases z
    | dk ks xs =>
      obtain ⟨own, o1, o2, o3⟩ := R.own
      rcases o3 i _ q with z | ⟨v, h1, h2⟩ | ⟨_, _, z, _⟩
      · cases z
      · exact ⟨v, h1, k G H v (Ext.refl R.gh) (h2.bo (by cases hf; simp only [toD]))⟩
      · cases z
    | _ => cases hf
theorem E.bo (h : E X e f) : B X e f := by
  obtain ⟨t, h1, h2⟩ := h.ex
  exact ⟨⟨t, h1, fun G0 H0 Z Γ σ G H Q d R hf k => h2 G0 H0 Z Γ σ G H Q d R hf fun G' H' v e r => k G' H' v e (.sh r)⟩⟩
theorem e_int {i : Int} {j} : E X (.Constant (.int i) j pos) (gI i) := ⟨⟨_, pe_int, fun G0 H0 Z Γ σ G H Q d R hf k => by cases hf; exact k G H _ (Ext.refl R.gh) (.int i)⟩⟩
theorem e_bl {i : Bool} {j} : E X (.Constant (.bool i) j pos) (gC (.bl i)) := ⟨⟨_, pe_bl, fun G0 H0 Z Γ σ G H Q d R hf k => by cases hf; exact k G H _ (Ext.refl R.gh) (.bl i)⟩⟩
theorem e_non {j} : E X (.Constant .none j pos) (gC .non) := ⟨⟨_, pe_non, fun G0 H0 Z Γ σ G H Q d R hf k => by cases hf; exact k G H _ (Ext.refl R.gh) .non⟩⟩
theorem e_str {x : Str} {j} : E X (.Constant (.str x) j pos) (gC (.str x)) := ⟨⟨_, pe_str, fun G0 H0 Z Γ σ G H Q d R hf k => by cases hf; exact k G H _ (Ext.refl R.gh) (.str x)⟩⟩

/-! argument lists, displays -/
def aN : Ag := fun _ => some []
def aC (f : Ex) (r : Ag) : Ag := fun Γ => (f Γ).bind fun d => (r Γ).bind fun ds => some (d :: ds)
theorem a_nil : A X [] aN := ⟨⟨_, pa_nil, fun G0 H0 Z Γ σ G H Q ds R hf k => by cases hf; exact k G H _ (Ext.refl R.gh) .nil⟩⟩
theorem a_cons (he : E X e f) (hr : A X es fs) (hs : starEach (e :: es) X.env = (false, eval e X.env) :: starEach es X.env := by rfl) : A X (e :: es) (aC f fs) := by
  obtain ⟨t, h1, h2⟩ := he.ex
  obtain ⟨u, q1, q2⟩ := hr.ex
  refine ⟨⟨_, pa_cons h1 q1 hs, fun G0 H0 Z Γ σ G H Q ds R hf k => ?_⟩⟩
  obtain ⟨d, e1, hf⟩ := obind hf
  obtain ⟨es, e2, hf⟩ := obind hf
  cases hf
  refine h2 G0 H0 Z Γ σ G H _ d R e1 fun G1 H1 v x1 r1 => ?_
  refine q2 G0 H0 Z Γ σ G1 H1 _ es (R.ext x1) e2 fun G2 H2 vs x2 r2 => ?_
  exact k G2 H2 _ (x1.trans x2) (.cons (r1.mono x2.gg) r2)
/-- the number of items is known -/
def gTu (n : Nat) (fs : Ag) : Ex := fun Γ => (fs Γ).bind fun ds => some (.tup ds)
def gLst (fs : Ag) : Ag := fs
/-- displays are short: how many items is seen from the text -/
theorem A.len {X : Cx} : True := True.intro
end

/-- .. as a list of as many items as written -/
structure AN (X : Cx) (es : List Expr) (n : Nat) (f : Ag) : Prop where
  a : A X es f
  n : ∀ Γ ds, f Γ = some ds → ds.length = n
section
variable {X : Cx} {e a b : Expr} {es : List Expr} {f g : Ex} {fs : Ag} {pos : Pos} {n : Nat}
theorem n_nil : AN X [] 0 aN := ⟨a_nil, fun _ _ h => by cases h; rfl⟩
theorem n_cons (he : E X e f) (hr : AN X es n fs) (hs : starEach (e :: es) X.env = (false, eval e X.env) :: starEach es X.env := by rfl) : AN X (e :: es) (n + 1) (aC f fs) :=
  ⟨a_cons he hr.a hs, fun Γ ds h => by
    obtain ⟨d, e1, h⟩ := obind h
    obtain ⟨es, e2, h⟩ := obind h
    cases h
    simp [hr.n Γ es e2]⟩
theorem e_tup {x1} (h : AN X es n fs) (hn : n ≤ 1000 := by decide) : E X (.Tuple es x1 pos) (gTu n fs) := by
  obtain ⟨t, h1, h2⟩ := h.a.ex
  refine ⟨⟨_, pe_tup h1, fun G0 H0 Z Γ σ G H Q d R hf k => ?_⟩⟩
  obtain ⟨ds, e1, hf⟩ := obind hf
  cases hf
  refine h2 G0 H0 Z Γ σ G H _ ds R e1 fun G1 H1 vs x1 r1 => ⟨?_, fun p hp => ?_⟩
  · rw [r1.length, h.n Γ ds e1]; exact Nat.le_of_lt (small1000 hn)
  · have x2 := Ext.new1 (o := .tup vs) x1.gh hp
    exact k _ _ _ (x1.trans x2) (.tup upd_same (r1.mono x2.gg))
theorem el_lst (h : AN X es n fs) (hn : n ≤ 1000 := by decide) : EL X (.List es pos) fs := by
  obtain ⟨t, h1, h2⟩ := h.a.ex
  refine ⟨⟨_, pe_lst h1, fun G0 H0 Z Γ σ G H Q ds R hf k => ?_⟩⟩
  refine h2 G0 H0 Z Γ σ G H _ ds R hf fun G1 H1 vs x1 r1 => ⟨?_, fun p hp => ?_⟩
  · rw [r1.length, h.n Γ ds hf]; exact Nat.le_of_lt (small1000 hn)
  · exact k _ _ p vs (x1.trans (Ext.own1 x1.gh hp)) (x1.hf hp) (x1.gh.free hp) upd_same r1
/-- a new list is handed on: known from now on -/
def gL (fs : Ag) : Ex := fun Γ => (fs Γ).bind fun ds => some (.lst ds)
theorem EL.fz (h : EL X e fs) : E X e (gL fs) := by
  obtain ⟨t, h1, h2⟩ := h.ex
  refine ⟨⟨_, h1, fun G0 H0 Z Γ σ G H Q d R hf k => ?_⟩⟩
  obtain ⟨ds, e1, hf⟩ := obind hf
  cases hf
  refine h2 G0 H0 Z Γ σ G H _ ds R e1 fun G1 H1 p vs x1 hp gp h r => ?_
  have sg : Same G1 (upd G1 p (.lst vs)) := same_upd gp
  exact k (upd G1 p (.lst vs)) H1 _ (x1.frz1 hp gp h) (.lst upd_same (r.mono sg))

/-! operators -/
def OpD (X : Cx) (fn : Value → Value → Sem Value) (o : D → D → Option D) : Prop :=
  ∃ r, OpR X fn r ∧ ∀ x y d v w G H Q, Same G H → o x y = some d → Rep X.K X.mg G v x → Rep X.K X.mg G w y → (∀ G' H' u, Ext G H G' H' → Rep X.K X.mg G' u d → Q u H') → r v w H Q
def gOp (o : D → D → Option D) (f g : Ex) : Ex := fun Γ => (f Γ).bind fun x => (g Γ).bind fun y => o x y
theorem op_run {r : R2} {o : D → D → Option D} (hr : ∀ x y d v w G H Q, Same G H → o x y = some d → Rep X.K X.mg G v x → Rep X.K X.mg G w y → (∀ G' H' u, Ext G H G' H' → Rep X.K X.mg G' u d → Q u H') → r v w H Q)
    {t u : TE} (h2 : ∀ G0 H0 Z Γ σ G H Q d, Rel X.K X.mg G0 H0 Z Γ σ G H → f Γ = some d → (∀ G' H' v, Ext G H G' H' → Rep X.K X.mg G' v d → Q v H') → t σ H Q)
    (q2 : ∀ G0 H0 Z Γ σ G H Q d, Rel X.K X.mg G0 H0 Z Γ σ G H → g Γ = some d → (∀ G' H' v, Ext G H G' H' → Rep X.K X.mg G' v d → Q v H') → u σ H Q) :
    ∀ G0 H0 Z Γ σ G H Q d, Rel X.K X.mg G0 H0 Z Γ σ G H → gOp o f g Γ = some d → (∀ G' H' v, Ext G H G' H' → Rep X.K X.mg G' v d → Q v H') → tOp r t u σ H Q := fun G0 H0 Z Γ σ G H Q d R hf k => by
  obtain ⟨x, e1, hf⟩ := obind hf
  obtain ⟨y, e2, hf⟩ := obind hf
  refine h2 G0 H0 Z Γ σ G H _ x R e1 fun G1 H1 v x1 r1 => ?_
  refine q2 G0 H0 Z Γ σ G1 H1 _ y (R.ext x1) e2 fun G2 H2 w x2 r2 => ?_
  exact hr x y d v w G2 H2 Q x2.gh hf (r1.mono x2.gg) r2 fun G3 H3 u x3 r3 => k G3 H3 u ((x1.trans x2).trans x3) r3
theorem e_op {op : Operator} {o : D → D → Option D} (ho : OpD X (binaryOp op) o) (ha : E X a f) (hb : E X b g) : E X (.BinOp a op b pos) (gOp o f g) := by
  obtain ⟨r, hr, hr2⟩ := ho
  obtain ⟨t, h1, h2⟩ := ha.ex
  obtain ⟨u, q1, q2⟩ := hb.ex
  exact ⟨⟨_, pe_op hr h1 q1, op_run hr2 h2 q2⟩⟩
theorem e_cmp {op : CmpOp} {o : D → D → Option D} (ho : OpD X (compareOp op) o) (ha : E X a f) (hb : E X b g) (hm : behindInMarks op b = false := by first | exact nomark _ | rfl) : E X (.Compare a [op] [b] pos) (gOp o f g) := by
  obtain ⟨r, hr, hr2⟩ := ho
  obtain ⟨t, h1, h2⟩ := ha.ex
  obtain ⟨u, q1, q2⟩ := hb.ex
  exact ⟨⟨_, pe_cmpR hr h1 q1 hm, op_run hr2 h2 q2⟩⟩
/-- an expression that gives True or False, as a test -/
def gT (f : Ex) : Te := fun Γ => (f Γ).bind fun d => match d with | .bl b => some b | _ => none
theorem gT_some {Γ : DEnv} {b : Bool} (h : gT f Γ = some b) : f Γ = some (.bl b) := by
  obtain ⟨d, e, h⟩ := obind h
  cases d with
  | bl c => cases h; exact e
  | _ => cases h
theorem t_cmp {op : CmpOp} {o : D → D → Option D} (ho : OpD X (compareOp op) o) (ha : E X a f) (hb : E X b g) (hm : behindInMarks op b = false := by first | exact nomark _ | rfl) : T X (.Compare a [op] [b] pos) (gT (gOp o f g)) := by
  obtain ⟨r, hr, hr2⟩ := ho
  obtain ⟨t, h1, h2⟩ := ha.ex
  obtain ⟨u, q1, q2⟩ := hb.ex
  refine ⟨⟨_, pt_cmpR hr h1 q1 hm, fun G0 H0 Z Γ σ G H Q c R hf k => ?_⟩⟩
  refine op_run hr2 h2 q2 G0 H0 Z Γ σ G H _ _ R (gT_some hf) fun G' H' v x r => ?_
  cases r
  exact ⟨_, rfl, k G' H' x⟩
theorem t_val (h : E X e f) (he : ∀ whole, isTrue e X.env whole = (do let v ← whole; standAt e.pos; holding [v] (truthy v)) := by intro _; rfl) : T X e (gT f) := by
  obtain ⟨t, h1, h2⟩ := h.ex
  refine ⟨⟨_, pt_val h1 he, fun G0 H0 Z Γ σ G H Q c R hf k => ?_⟩⟩
  refine h2 G0 H0 Z Γ σ G H _ _ R (gT_some hf) fun G' H' v x r => ?_
  cases r
  exact ⟨_, rfl, k G' H' x⟩
/-- .. of any kind, by its truth -/
def dTru : D → Option Bool
  | .non => some false
  | .bl b => some b
  | .int i => some (i != 0)
  | .lst xs => some (!xs.isEmpty)
  | .tup xs => some (!xs.isEmpty)
  | .str x => if x.length < 1000000 then some ((x.length : Int) != 0) else none
  | _ => none
def gTru (f : Ex) : Te := fun Γ => (f Γ).bind dTru
theorem line_big : (1000000 : Nat) ≤ sizeLine := by decide
theorem dTru_ok {K : PySem.W.Frag} {mg : Str → Option Value} {G' H' : Hp} {v : V} {d : D} {c : Bool} (gh : Same G' H') (hf : dTru d = some c) (r : RepB K mg G' H' v d) : TruV K v H' c := by
  have emp : ∀ {vs : List V} {xs : List D}, RepL K mg G' vs xs → (!vs.isEmpty) = !xs.isEmpty := fun r => by cases r <;> rfl
  cases d with
  | non => cases hf; cases r with | sh r => cases r; rfl
  | bl b => cases hf; cases r with | sh r => cases r; rfl
  | int i => cases hf; cases r with | sh r => cases r; rfl
  | str y =>
    cases r with
    | sh r =>
      cases r
      simp only [dTru] at hf
      split at hf
      · cases hf
        rename_i z
        exact ⟨Nat.le_trans (Nat.le_of_lt z) line_big, rfl⟩
      · cases hf
  | lst xs =>
    cases hf
    obtain ⟨p, vs, rfl, h, r⟩ := r.lst gh
    exact .inl ⟨vs, SqL.of h, (emp r).symm⟩
  | tup xs =>
    cases hf
    obtain ⟨p, vs, rfl, h, r⟩ := r.tup gh
    exact .inr (.inl ⟨vs, SqT.of h, (emp r).symm⟩)
  | scr ns => cases hf
  | obj c ds => cases hf
  | fn a c q vs ds => cases hf
  | dic ks xs => cases hf
theorem t_tru (h : B X e f) (he : ∀ whole, isTrue e X.env whole = (do let v ← whole; standAt e.pos; holding [v] (truthy v)) := by intro _; rfl) : T X e (gTru f) := by
  obtain ⟨t, h1, h2⟩ := h.ex
  refine ⟨⟨_, pt_truth h1 he, fun G0 H0 Z Γ σ G H Q c R hf k => ?_⟩⟩
  obtain ⟨d, e1, hf⟩ := obind hf
  exact h2 G0 H0 Z Γ σ G H _ _ R e1 fun G' H' v x r => ⟨c, dTru_ok x.gh hf r, k G' H' x⟩
def gNot (f : Te) : Te := fun Γ => (f Γ).bind fun b => some (!b)
def gAnd (f g : Te) : Te := fun Γ => (f Γ).bind fun b => if b then g Γ else some false
def gOr (f g : Te) : Te := fun Γ => (f Γ).bind fun b => if b then some true else g Γ
variable {p q : Te} {rest : List Expr}
theorem t_not (h : T X e p) : T X (.UnaryOp .Not e pos) (gNot p) := by
  obtain ⟨t, h1, h2⟩ := h.ex
  refine ⟨⟨_, pt_not h1, fun G0 H0 Z Γ σ G H Q c R hf k => ?_⟩⟩
  obtain ⟨d, e1, hf⟩ := obind hf
  cases hf
  exact h2 G0 H0 Z Γ σ G H _ _ R e1 k
theorem W.t (h : W X e p) : T X e p := by
  obtain ⟨t, h1, h2⟩ := h.ex
  exact ⟨⟨t, h1.pt, h2⟩⟩
theorem w_and1 (h : T X a p) : W X (.BoolOp .And [a] pos) p := by
  obtain ⟨t, h1, h2⟩ := h.ex
  exact ⟨⟨_, pw_and1 h1, h2⟩⟩
theorem w_or1 (h : T X a p) : W X (.BoolOp .Or [a] pos) p := by
  obtain ⟨t, h1, h2⟩ := h.ex
  exact ⟨⟨_, pw_or1 h1, h2⟩⟩
theorem w_and (h : T X a p) (hr : W X (.BoolOp .And (b :: rest) pos) q) : W X (.BoolOp .And (a :: b :: rest) pos) (gAnd p q) := by
  obtain ⟨t, h1, h2⟩ := h.ex
  obtain ⟨u, q1, q2⟩ := hr.ex
  refine ⟨⟨_, pw_and h1 q1, fun G0 H0 Z Γ σ G H Q c R hf k => ?_⟩⟩
  obtain ⟨d, e1, hf⟩ := obind hf
  refine h2 G0 H0 Z Γ σ G H _ _ R e1 fun G' H' x => ?_
  cases d with
  | true =>
    refine iteT ?_
    exact q2 G0 H0 Z Γ σ G' H' _ _ (R.ext x) hf fun G2 H2 x2 => k G2 H2 (x.trans x2)
  | false =>
    refine iteF ?_
    cases hf
    exact k G' H' x
theorem w_or (h : T X a p) (hr : W X (.BoolOp .Or (b :: rest) pos) q) : W X (.BoolOp .Or (a :: b :: rest) pos) (gOr p q) := by
  obtain ⟨t, h1, h2⟩ := h.ex
  obtain ⟨u, q1, q2⟩ := hr.ex
  refine ⟨⟨_, pw_or h1 q1, fun G0 H0 Z Γ σ G H Q c R hf k => ?_⟩⟩
  obtain ⟨d, e1, hf⟩ := obind hf
  refine h2 G0 H0 Z Γ σ G H _ _ R e1 fun G' H' x => ?_
  cases d with
  | true =>
    refine iteT ?_
    cases hf
    exact k G' H' x
  | false =>
    refine iteF ?_
    exact q2 G0 H0 Z Γ σ G' H' _ _ (R.ext x) hf fun G2 H2 x2 => k G2 H2 (x.trans x2)
/-- tests as values -/
def gBl (p : Te) : Ex := fun Γ => (p Γ).bind fun b => some (.bl b)
/-- and, or of truth values as values -/
structure V1 (X : Cx) (e : Expr) (p : Te) : Prop where
  e : E X e (gBl p)
theorem E.v (h : E X e f) : V1 X e (gT f) := by
  obtain ⟨t, h1, h2⟩ := h.ex
  refine ⟨⟨⟨t, h1, fun G0 H0 Z Γ σ G H Q c R hf k => ?_⟩⟩⟩
  obtain ⟨d, e1, hf⟩ := obind hf
  cases hf
  exact h2 G0 H0 Z Γ σ G H _ _ R (gT_some e1) k
theorem v_one {op} (h : V1 X a p) : V1 X (.BoolOp op [a] pos) p := by
  obtain ⟨t, h1, h2⟩ := h.e.ex
  exact ⟨⟨⟨_, pe_one h1, h2⟩⟩⟩
theorem v_and (h : V1 X a p) (hr : V1 X (.BoolOp .And (b :: rest) pos) q) : V1 X (.BoolOp .And (a :: b :: rest) pos) (gAnd p q) := by
  obtain ⟨t, h1, h2⟩ := h.e.ex
  obtain ⟨u, q1, q2⟩ := hr.e.ex
  refine ⟨⟨⟨_, pe_and h1 q1, fun G0 H0 Z Γ σ G H Q c R hf k => ?_⟩⟩⟩
  obtain ⟨d0, e0, hf⟩ := obind hf
  cases hf
  obtain ⟨d, e1, hf⟩ := obind e0
  refine h2 G0 H0 Z Γ σ G H _ (.bl d) R (by show (p Γ).bind _ = _; rw [e1]; rfl) fun G' H' v x r => ?_
  cases r
  refine ⟨d, rfl, ?_⟩
  cases d with
  | true =>
    refine iteT ?_
    exact q2 G0 H0 Z Γ σ G' H' _ (.bl d0) (R.ext x) (by show (q Γ).bind _ = _; rw [show q Γ = some d0 from hf]; rfl) fun G2 H2 v x2 r => k G2 H2 v (x.trans x2) r
  | false =>
    refine iteF ?_
    cases hf
    exact k G' H' _ x (.bl _)
theorem v_or (h : V1 X a p) (hr : V1 X (.BoolOp .Or (b :: rest) pos) q) : V1 X (.BoolOp .Or (a :: b :: rest) pos) (gOr p q) := by
  obtain ⟨t, h1, h2⟩ := h.e.ex
  obtain ⟨u, q1, q2⟩ := hr.e.ex
  refine ⟨⟨⟨_, pe_or h1 q1, fun G0 H0 Z Γ σ G H Q c R hf k => ?_⟩⟩⟩
  obtain ⟨d0, e0, hf⟩ := obind hf
  cases hf
  obtain ⟨d, e1, hf⟩ := obind e0
  refine h2 G0 H0 Z Γ σ G H _ (.bl d) R (by show (p Γ).bind _ = _; rw [e1]; rfl) fun G' H' v x r => ?_
  cases r
  refine ⟨d, rfl, ?_⟩
  cases d with
  | true =>
    refine iteT ?_
    cases hf
    exact k G' H' _ x (.bl _)
  | false =>
    refine iteF ?_
    exact q2 G0 H0 Z Γ σ G' H' _ (.bl d0) (R.ext x) (by show (q Γ).bind _ = _; rw [show q Γ = some d0 from hf]; rfl) fun G2 H2 v x2 r => k G2 H2 v (x.trans x2) r
/-- not x as a value, x a truth value; or x by its truth (a list, a number) -/
theorem v_not (h : V1 X e p) : V1 X (.UnaryOp .Not e pos) (gNot p) := by
  obtain ⟨t, h1, h2⟩ := h.e.ex
  refine ⟨⟨⟨_, pe_not h1, fun G0 H0 Z Γ σ G H Q c R hf k => ?_⟩⟩⟩
  obtain ⟨d0, e0, hf⟩ := obind hf
  cases hf
  obtain ⟨d, e1, hf⟩ := obind e0
  cases hf
  refine h2 G0 H0 Z Γ σ G H _ (.bl d) R (by show (p Γ).bind _ = _; rw [e1]; rfl) fun G' H' v x r => ?_
  cases r
  exact ⟨d, rfl, k G' H' _ x (.bl _)⟩
/-- a if t else b -/
def gIf (t : Te) (f g : Ex) : Ex := fun Γ => (t Γ).bind fun b => if b then f Γ else g Γ
theorem e_if {c : Expr} (hc : T X c p) (ha : E X a f) (hb : E X b g) : E X (.IfExp c a b pos) (gIf p f g) := by
  obtain ⟨t, h1, h2⟩ := hc.ex
  obtain ⟨u, q1, q2⟩ := ha.ex
  obtain ⟨w, z1, z2⟩ := hb.ex
  refine ⟨⟨_, pe_ifExp h1 q1 z1, fun G0 H0 Z Γ σ G H Q d R hf k => ?_⟩⟩
  obtain ⟨b, e1, hf⟩ := obind hf
  refine h2 G0 H0 Z Γ σ G H _ _ R e1 fun G' H' x => ?_
  cases b with
  | true => exact iteT (q2 G0 H0 Z Γ σ G' H' _ _ (R.ext x) hf fun G2 H2 v x2 r => k G2 H2 v (x.trans x2) r)
  | false => exact iteF (z2 G0 H0 Z Γ σ G' H' _ _ (R.ext x) hf fun G2 H2 v x2 r => k G2 H2 v (x.trans x2) r)
end
end DL

namespace DL
open PySem L2
variable [TC : TabCtx]

/-! ### operators by data -/
theorem opr_or {X : Cx} {fn : Value → Value → Sem Value} {r r' : R2} (h : OpR X fn r) (h' : OpR X fn r') : OpR X fn (fun x y H Q => r x y H Q ∨ r' x y H Q) := by
  intro pins s σ H x y v u Q I rx ry q
  rcases q with q | q
  · exact h pins s σ H x y v u Q I rx ry q
  · exact h' pins s σ H x y v u Q I rx ry q
def dAdd : D → D → Option D
  | .int i, .int j => some (.int (i + j))
  | .str x, .str y => if x.length + y.length < 1000000 then some (.str (x ++ y)) else none
  | .lst xs, .lst ys => if xs.length + ys.length < 1000000 then some (.lst (xs ++ ys)) else none
  | _, _ => none
def dSub : D → D → Option D
  | .int i, .int j => some (.int (i - j))
  | _, _ => none
def mulOk (a b : Int) : Bool := !(decide (Builtin.Int.intBits a > shortFactorBits) && decide (Builtin.Int.intBits b > shortFactorBits) && Builtin.Int.intTooBig (Builtin.Int.intBits a + Builtin.Int.intBits b))
def dMul : D → D → Option D
  | .int i, .int j => if mulOk i j then some (.int (i * j)) else none
  | _, _ => none
def dDiv : D → D → Option D
  | .int i, .int j => if 0 < j ∧ j.natAbs.log2 < 9000 then some (.int (i / j)) else none
  | _, _ => none
def dMod : D → D → Option D
  | .int i, .int j => if 0 < j then some (.int (i % j)) else none
  | _, _ => none
def dPow : D → D → Option D
  | .int i, .int j => if 0 ≤ j ∧ j ≤ 1000000 ∧ i.natAbs < 2 ^ 64 then some (.int (i ^ j.toNat)) else none
  | _, _ => none
def dLt : D → D → Option D
  | .int i, .int j => some (.bl (decide (i < j)))
  | _, _ => none
def dLe : D → D → Option D
  | .int i, .int j => some (.bl (decide (i ≤ j)))
  | _, _ => none
def dGt : D → D → Option D
  | .int i, .int j => some (.bl (decide (j < i)))
  | _, _ => none
def dGe : D → D → Option D
  | .int i, .int j => some (.bl (decide (j ≤ i)))
  | _, _ => none
section
variable {X : Cx}
theorem op_mulOk : OpR X (binaryOp .Mult) (rI (fun i j => mulOk i j = true) fun i j => .int (i * j)) := opI fun _ _ _ _ _ _ _ hc q => PyProof.Rows.mul_int q (by
  unfold IntMulOk
  unfold mulOk at hc
  intro z
  rw [z] at hc
  cases hc)
/-- an operator of two ints whose answer is a scalar -/
theorem opd_i {fn : Value → Value → Sem Value} {C : Int → Int → Prop} {g : Int → Int → V} {o : D → D → Option D} (h : OpR X fn (rI C g)) (ho : ∀ x y d, o x y = some d → ∃ i j, x = .int i ∧ y = .int j ∧ C i j ∧ ∀ K mg G, Rep K mg G (g i j) d) : OpD X fn o := by
  refine ⟨_, h, fun x y d v w G H Q gh e rx ry k => ?_⟩
  obtain ⟨i, j, rfl, rfl, c, q⟩ := ho x y d e
  cases rx
  cases ry
  exact ⟨i, j, rfl, rfl, c, k G H _ (Ext.refl gh) (q _ _ _)⟩
theorem opd_i0 {fn : Value → Value → Sem Value} {g : Int → Int → V} {o : D → D → Option D} (h : OpR X fn (rI0 g)) (ho : ∀ x y d, o x y = some d → ∃ i j, x = .int i ∧ y = .int j ∧ ∀ K mg G, Rep K mg G (g i j) d) : OpD X fn o := by
  refine ⟨_, h, fun x y d v w G H Q gh e rx ry k => ?_⟩
  obtain ⟨i, j, rfl, rfl, q⟩ := ho x y d e
  cases rx
  cases ry
  exact ⟨i, j, rfl, rfl, k G H _ (Ext.refl gh) (q _ _ _)⟩
theorem od_add : OpD X (binaryOp .Add) dAdd := by
  refine ⟨_, opr_or op_add (opr_or op_add_str op_cat), fun x y d v w G H Q gh e rx ry k => ?_⟩
  unfold dAdd at e
  split at e
  · cases e; cases rx; cases ry
    exact .inl ⟨_, _, rfl, rfl, k G H _ (Ext.refl gh) (.int _)⟩
  · split at e
    · cases e; cases rx; cases ry
      rename_i z
      exact .inr (.inl ⟨_, _, rfl, rfl, Nat.le_trans (Nat.le_of_lt z) line_big, k G H _ (Ext.refl gh) (.str _)⟩)
    · cases e
  · split at e
    · cases e
      rename_i z
      cases rx with
      | lst h1 r1 =>
        cases ry with
        | lst h2 r2 =>
          refine .inr (.inr ⟨_, _, _, _, rfl, rfl, gh _ _ h1, gh _ _ h2, ?_, fun p hp => ?_⟩)
          · rw [r1.length, r2.length]; exact Nat.le_trans (Nat.le_of_lt z) line_big
          · exact k _ _ _ (Ext.new1 gh hp) (.lst upd_same ((r1.append r2).mono (same_upd (gh.free hp))))
    · cases e
  · cases e
theorem od_sub : OpD X (binaryOp .Sub) dSub := opd_i0 op_sub fun x y d e => by
  unfold dSub at e
  split at e
  · cases e; exact ⟨_, _, rfl, rfl, fun _ _ _ => .int _⟩
  · cases e
theorem od_mul : OpD X (binaryOp .Mult) dMul := opd_i op_mulOk fun x y d e => by
  unfold dMul at e
  split at e
  · split at e
    · cases e; rename_i z; exact ⟨_, _, rfl, rfl, z, fun _ _ _ => .int _⟩
    · cases e
  · cases e
theorem od_div : OpD X (binaryOp .FloorDiv) dDiv := opd_i op_fdivW fun x y d e => by
  unfold dDiv at e
  split at e
  · split at e
    · cases e; rename_i z; exact ⟨_, _, rfl, rfl, z, fun _ _ _ => .int _⟩
    · cases e
  · cases e
theorem od_mod : OpD X (binaryOp .Mod) dMod := opd_i op_mod fun x y d e => by
  unfold dMod at e
  split at e
  · split at e
    · cases e; rename_i z; exact ⟨_, _, rfl, rfl, z, fun _ _ _ => .int _⟩
    · cases e
  · cases e
theorem od_pow : OpD X (binaryOp .Pow) dPow := opd_i op_pow fun x y d e => by
  unfold dPow at e
  split at e
  · split at e
    · cases e; rename_i z; exact ⟨_, _, rfl, rfl, z, fun _ _ _ => .int _⟩
    · cases e
  · cases e
theorem od_lt : OpD X (compareOp .Lt) dLt := opd_i0 op_lt fun x y d e => by
  unfold dLt at e
  split at e
  · cases e; exact ⟨_, _, rfl, rfl, fun _ _ _ => .bl _⟩
  · cases e
theorem od_le : OpD X (compareOp .LtE) dLe := opd_i0 op_le fun x y d e => by
  unfold dLe at e
  split at e
  · cases e; exact ⟨_, _, rfl, rfl, fun _ _ _ => .bl _⟩
  · cases e
theorem od_gt : OpD X (compareOp .Gt) dGt := opd_i0 op_gt fun x y d e => by
  unfold dGt at e
  split at e
  · cases e; exact ⟨_, _, rfl, rfl, fun _ _ _ => .bl _⟩
  · cases e
theorem od_ge : OpD X (compareOp .GtE) dGe := opd_i0 op_ge fun x y d e => by
  unfold dGe at e
  split at e
  · cases e; exact ⟨_, _, rfl, rfl, fun _ _ _ => .bl _⟩
  · cases e
end

/-! equality -/
mutual
def toPy : D → PyData
  | .non => .none
  | .bl b => .bool b
  | .int i => .int i
  | .str x => .str x
  | .lst xs => .list (toPys xs)
  | .tup xs => .tuple (toPys xs)
  | .scr ns => .list (ns.map PyData.int)
  | .obj _ _ => .none
  | .fn _ _ _ _ _ => .none
  | .dic _ _ => .none
def toPys : List D → List PyData
  | [] => []
  | x :: xs => toPy x :: toPys xs
end
mutual
def pyOk : D → Bool
  | .obj _ _ => false
  | .fn _ _ _ _ _ => false
  | .dic _ _ => false
  | .lst xs => pyOks xs
  | .tup xs => pyOks xs
  | _ => true
def pyOks : List D → Bool
  | [] => true
  | x :: xs => pyOk x && pyOks xs
end
section
variable {K : PySem.W.Frag} {mg : Str → Option Value} {G H : Hp}
theorem dpInts : ∀ ns : List Int, DpAll K H (ns.map V.int) (ns.map PyData.int)
  | [] => .nil
  | n :: ns => .cons (.int n) (dpInts ns)
mutual
theorem Rep.dp (gh : Same G H) : ∀ {v : V} {d : D}, Rep K mg G v d → pyOk d = true → Dp K H v (toPy d)
  | _, _, .non, _ => by rw [toPy]; exact .non
  | _, _, .bl b, _ => by rw [toPy]; exact .bl b
  | _, _, .int i, _ => by rw [toPy]; exact .int i
  | _, _, .str x, _ => by rw [toPy]; exact .str x
  | _, _, .lst h r, e => by rw [toPy]; exact .lst (SqL.of (gh _ _ h)) (RepL.dp gh r (by simpa [pyOk] using e))
  | _, _, .tup h r, e => by rw [toPy]; exact .tup (SqT.of (gh _ _ h)) (RepL.dp gh r (by simpa [pyOk] using e))
  | _, _, .scr h, _ => by rw [toPy]; exact .lst (gh.seq h) (dpInts _)
  | _, _, .obj _ _ _, e => by simp [pyOk] at e
  | _, _, .fn _ _, e => by simp [pyOk] at e
  | _, _, .dic _ _ _, e => by simp [pyOk] at e
theorem RepL.dp (gh : Same G H) : ∀ {v : List V} {d : List D}, RepL K mg G v d → pyOks d = true → DpAll K H v (toPys d)
  | _, _, .nil, _ => by rw [toPys]; exact .nil
  | _, _, .cons h r, e => by
    rw [toPys]
    have e' := e
    simp only [pyOks, Bool.and_eq_true] at e'
    exact .cons (Rep.dp gh h e'.1) (RepL.dp gh r e'.2)
end
theorem RepB.dp (gh : Same G H) {v : V} {d : D} (r : RepB K mg G H v d) (e : pyOk d = true) : Dp K H v (toPy d) := by
  cases r with
  | sh r => exact r.dp gh e
  | li h r => rw [toPy]; exact .lst (SqL.of h) (r.dp gh (by simpa [pyOk] using e))
  | obj hm h r => simp [pyOk] at e
  | dic h l r => simp [pyOk] at e
end
/-- == of data -/
def eqd (x y : D) : Bool := PyData.eqv (toPy x) (toPy y)
def eqOk (x : D) : Bool := pyOk x && SeqAt.shaped (toPy x)
def dEq (x y : D) : Option D := if eqOk x && eqOk y then some (.bl (eqd x y)) else none
def dNe (x y : D) : Option D := if eqOk x && eqOk y then some (.bl (!eqd x y)) else none
/-- is None, is not None -/
def isNon : D → Bool
  | .non => true
  | _ => false
def dIsN : D → D → Option D
  | x, .non => some (.bl (isNon x))
  | .bl a, .bl b => some (.bl (decide (a = b)))
  | _, _ => none
def dNoN : D → D → Option D
  | x, .non => some (.bl (!isNon x))
  | .bl a, .bl b => some (.bl (!decide (a = b)))
  | _, _ => none
section
variable {X : Cx} {e a b : Expr} {es : List Expr} {f g : Ex} {fs : Ag} {pos : Pos} {n : Nat}
/-- of what is looked at -/
def OpB (X : Cx) (fn : Value → Value → Sem Value) (o : D → D → Option D) : Prop :=
  ∃ r, OpR X fn r ∧ ∀ x y d v w G H Q, Same G H → o x y = some d → RepB X.K X.mg G H v x → RepB X.K X.mg G H w y → (∀ G' H' u, Ext G H G' H' → Rep X.K X.mg G' u d → Q u H') → r v w H Q
theorem opb_run {r : R2} {o : D → D → Option D} (hr : ∀ x y d v w G H Q, Same G H → o x y = some d → RepB X.K X.mg G H v x → RepB X.K X.mg G H w y → (∀ G' H' u, Ext G H G' H' → Rep X.K X.mg G' u d → Q u H') → r v w H Q)
    {t u : TE} (h2 : ∀ G0 H0 Z Γ σ G H Q d, Rel X.K X.mg G0 H0 Z Γ σ G H → f Γ = some d → (∀ G' H' v, Ext G H G' H' → RepB X.K X.mg G' H' v d → Q v H') → t σ H Q)
    (q2 : ∀ G0 H0 Z Γ σ G H Q d, Rel X.K X.mg G0 H0 Z Γ σ G H → g Γ = some d → (∀ G' H' v, Ext G H G' H' → RepB X.K X.mg G' H' v d → Q v H') → u σ H Q) :
    ∀ G0 H0 Z Γ σ G H Q d, Rel X.K X.mg G0 H0 Z Γ σ G H → gOp o f g Γ = some d → (∀ G' H' v, Ext G H G' H' → Rep X.K X.mg G' v d → Q v H') → tOp r t u σ H Q := fun G0 H0 Z Γ σ G H Q d R hf k => by
  obtain ⟨x, e1, hf⟩ := obind hf
  obtain ⟨y, e2, hf⟩ := obind hf
  refine h2 G0 H0 Z Γ σ G H _ x R e1 fun G1 H1 v x1 r1 => ?_
  refine q2 G0 H0 Z Γ σ G1 H1 _ y (R.ext x1) e2 fun G2 H2 w x2 r2 => ?_
  exact hr x y d v w G2 H2 Q x2.gh hf (r1.ext x2) r2 fun G3 H3 u x3 r3 => k G3 H3 u ((x1.trans x2).trans x3) r3
theorem e_cmpB {op : CmpOp} {o : D → D → Option D} (ho : OpB X (compareOp op) o) (ha : B X a f) (hb : B X b g) (hm : behindInMarks op b = false := by first | exact nomark _ | rfl) : E X (.Compare a [op] [b] pos) (gOp o f g) := by
  obtain ⟨r, hr, hr2⟩ := ho
  obtain ⟨t, h1, h2⟩ := ha.ex
  obtain ⟨u, q1, q2⟩ := hb.ex
  exact ⟨⟨_, pe_cmpR hr h1 q1 hm, opb_run hr2 h2 q2⟩⟩
theorem t_cmpB {op : CmpOp} {o : D → D → Option D} (ho : OpB X (compareOp op) o) (ha : B X a f) (hb : B X b g) (hm : behindInMarks op b = false := by first | exact nomark _ | rfl) : T X (.Compare a [op] [b] pos) (gT (gOp o f g)) := by
  obtain ⟨r, hr, hr2⟩ := ho
  obtain ⟨t, h1, h2⟩ := ha.ex
  obtain ⟨u, q1, q2⟩ := hb.ex
  refine ⟨⟨_, pt_cmpR hr h1 q1 hm, fun G0 H0 Z Γ σ G H Q c R hf k => ?_⟩⟩
  refine opb_run hr2 h2 q2 G0 H0 Z Γ σ G H _ _ R (gT_some hf) fun G' H' v x r => ?_
  cases r
  exact ⟨_, rfl, k G' H' x⟩
theorem ob_eq (hu : X.A.units + 64 < cLine) : OpB X (compareOp .Eq) dEq := by
  refine ⟨_, op_eqD hu, fun x y d v w G H Q gh e rx ry k => ?_⟩
  unfold dEq at e
  split at e
  · rename_i z
    cases e
    simp only [eqOk, Bool.and_eq_true] at z
    exact ⟨_, _, rx.dp gh z.1.1, ry.dp gh z.2.1, z.1.2, z.2.2, k G H _ (Ext.refl gh) (.bl _)⟩
  · cases e
theorem ob_ne (hu : X.A.units + 64 < cLine) : OpB X (compareOp .NotEq) dNe := by
  refine ⟨_, op_neD hu, fun x y d v w G H Q gh e rx ry k => ?_⟩
  unfold dNe at e
  split at e
  · rename_i z
    cases e
    simp only [eqOk, Bool.and_eq_true] at z
    exact ⟨_, _, rx.dp gh z.1.1, ry.dp gh z.2.1, z.1.2, z.2.2, k G H _ (Ext.refl gh) (.bl _)⟩
  · cases e
theorem ob_isN : OpB X (compareOp .Is) dIsN := by
  refine ⟨_, opr_or op_isN op_isBl, fun x y d v w G H Q gh e rx ry k => ?_⟩
  have nb : ∀ {w : V}, RepB X.K X.mg G H w .non → w = .non := fun r => by
    cases r with | sh r => cases r; rfl
  have bb : ∀ {w : V} {b : Bool}, RepB X.K X.mg G H w (.bl b) → w = .bl b := fun r => by
    cases r with | sh r => cases r; rfl
  unfold dIsN at e
  split at e
  · cases e
    have e2 := nb ry
    subst e2
    refine .inl ⟨rfl, k G H _ (Ext.refl gh) ?_⟩
    have q : decide (v = V.non) = isNon x := by
      cases x with
      | non => rw [nb rx]; rfl
      | lst xs => obtain ⟨_, _, rfl, _⟩ := rx.lst gh; rfl
      | bl b => rw [bb rx]; rfl
      | obj c ds => cases rx with
        | sh rx => cases rx; rfl
        | obj _ _ _ => rfl
      | dic _ _ => cases rx with
        | sh rx => cases rx; rfl
        | dic _ _ _ => rfl
      | _ => cases rx with | sh rx => cases rx; rfl
    rw [q]
    exact .bl _
  · cases e
    rw [bb rx, bb ry]
    exact .inr ⟨_, _, rfl, rfl, k G H _ (Ext.refl gh) (.bl _)⟩
  · cases e
theorem ob_noN : OpB X (compareOp .IsNot) dNoN := by
  refine ⟨_, opr_or op_notN op_notBl, fun x y d v w G H Q gh e rx ry k => ?_⟩
  have nb : ∀ {w : V}, RepB X.K X.mg G H w .non → w = .non := fun r => by
    cases r with | sh r => cases r; rfl
  have bb : ∀ {w : V} {b : Bool}, RepB X.K X.mg G H w (.bl b) → w = .bl b := fun r => by
    cases r with | sh r => cases r; rfl
  unfold dNoN at e
  split at e
  · cases e
    have e2 := nb ry
    subst e2
    refine .inl ⟨rfl, k G H _ (Ext.refl gh) ?_⟩
    have q : (!decide (v = V.non)) = !isNon x := by
      cases x with
      | non => rw [nb rx]; rfl
      | lst xs => obtain ⟨_, _, rfl, _⟩ := rx.lst gh; rfl
      | bl b => rw [bb rx]; rfl
      | obj c ds => cases rx with
        | sh rx => cases rx; rfl
        | obj _ _ _ => rfl
      | dic _ _ => cases rx with
        | sh rx => cases rx; rfl
        | dic _ _ _ => rfl
      | _ => cases rx with | sh rx => cases rx; rfl
    rw [q]
    exact .bl _
  · cases e
    rw [bb rx, bb ry]
    exact .inr ⟨_, _, rfl, rfl, k G H _ (Ext.refl gh) (.bl _)⟩
  · cases e

/-! a comparison in a row: a < b <= c -/
structure PCh (X : Cx) (ops : List CmpOp) (es : List Expr) (t : V → TE) : Prop where
  run : ∀ (pos : Pos) (pins : List (Addr × Obj)) (s : Shared) (σ : L2.St) (H : Hp) (Q : VK) (x : V) (v : Value), Inv X pins σ H s → RelV x v → t x σ H Q →
    wpAny (model X.prog X.w) X.A (compareChain pos v ops (evalEach es X.env)) (EP X pins σ Q) X.xe s
structure PTCh (X : Cx) (ops : List CmpOp) (es : List Expr) (t : V → TT) : Prop where
  run : ∀ (pos : Pos) (pins : List (Addr × Obj)) (s : Shared) (σ : L2.St) (H : Hp) (Q : Bool → Hp → Prop) (x : V) (v : Value), Inv X pins σ H s → RelV x v → t x σ H Q →
    wpAny (model X.prog X.w) X.A (testChain pos v ops (evalEach es X.env)) (TP X pins σ Q) X.xe s
variable {op op' : CmpOp} {ops : List CmpOp} {r r' : R2} {ta tb : TE} {tc : V → TE} {tt : V → TT} {pos' : Pos}
theorem pch_last (ho : OpR X (compareOp op) r) (hb : PE X b tb) : PCh X [op] [b] (fun x σ H Q => tb σ H fun y H1 => r x y H1 Q) := by
  refine ⟨fun pos pins s σ H Q x v I rx h => ?_⟩
  exact PyProof.Rows.chain_last (thn (hb.run pins s σ H _ I h) fun u s2 ⟨y, H2, I2, r2, q2⟩ => ho pins s2 σ H2 x y v u _ I2 rx r2 q2)
theorem pch_cons (ho : OpR X (compareOp op) r) (ha : PE X a ta) (hc : PCh X (op' :: ops) (b :: es) tc) : PCh X (op :: op' :: ops) (a :: b :: es) (fun x σ H Q => ta σ H fun y H1 => r x y H1 fun z H2 => ∃ k, z = .bl k ∧ if k = true then tc y σ H2 Q else Q (.bl false) H2) := by
  refine ⟨fun pos pins s σ H Q x v I rx h => ?_⟩
  refine PyProof.Rows.chain_link (thn (ha.run pins s σ H _ I h) fun u s2 ⟨y, H2, I2, r2, q2⟩ => thn (ho pins s2 σ H2 x y v u _ I2 rx r2 q2) fun d s3 ⟨z, H3, I3, r3, k, e, q3⟩ => ?_)
  subst e
  cases r3
  refine wpAny_truthy_bool ?_
  cases k with
  | false => exact PyProof.Rows.ite_ff ⟨.bl false, H3, I3, rfl, q3⟩
  | true => exact PyProof.Rows.ite_tt (hc.run pos pins s3 σ H3 Q y u I3 r2 q3)
theorem pe_chn (ha : PE X e ta) (hc : PCh X (op :: op' :: ops) (a :: b :: es) tc) (hm : lastMarks (op :: op' :: ops) (a :: b :: es) = false := by with_unfolding_all rfl) : PE X (.Compare e (op :: op' :: ops) (a :: b :: es) pos) (fun σ H Q => ta σ H fun x H1 => tc x σ H1 Q) := by
  refine ⟨fun pins s σ H Q I h => ?_⟩
  exact PyProof.Rows.Compare_chain (thn (ha.run pins s σ H _ I h) fun v s1 ⟨x, H1, I1, r1, q1⟩ => hc.run pos pins s1 σ H1 Q x v I1 r1 q1) hm
theorem ptch_last (ho : OpR X (compareOp op) r) (hb : PE X b tb) : PTCh X [op] [b] (fun x σ H Q => tb σ H fun y H1 => r x y H1 fun z H2 => ∃ k, z = .bl k ∧ Q k H2) := by
  refine ⟨fun pos pins s σ H Q x v I rx h => ?_⟩
  refine PyProof.Rows.test_last (thn (hb.run pins s σ H _ I h) fun u s2 ⟨y, H2, I2, r2, q2⟩ => thn (ho pins s2 σ H2 x y v u _ I2 rx r2 q2) fun d s3 ⟨z, H3, I3, r3, k, e, q3⟩ => ?_)
  subst e
  cases r3
  exact wpAny_truthy_bool ⟨H3, I3, q3⟩
theorem ptch_cons (ho : OpR X (compareOp op) r) (ha : PE X a ta) (hc : PTCh X (op' :: ops) (b :: es) tt) : PTCh X (op :: op' :: ops) (a :: b :: es) (fun x σ H Q => ta σ H fun y H1 => r x y H1 fun z H2 => ∃ k, z = .bl k ∧ if k = true then tt y σ H2 Q else Q false H2) := by
  refine ⟨fun pos pins s σ H Q x v I rx h => ?_⟩
  refine PyProof.Rows.test_link (thn (ha.run pins s σ H _ I h) fun u s2 ⟨y, H2, I2, r2, q2⟩ => thn (ho pins s2 σ H2 x y v u _ I2 rx r2 q2) fun d s3 ⟨z, H3, I3, r3, k, e, q3⟩ => ?_)
  subst e
  cases r3
  refine wpAny_truthy_bool ?_
  cases k with
  | false => exact PyProof.Rows.ite_ff ⟨H3, I3, q3⟩
  | true => exact PyProof.Rows.ite_tt (hc.run pos pins s3 σ H3 Q y u I3 r2 q3)
theorem pt_chn (ha : PE X e ta) (hc : PTCh X (op :: op' :: ops) (a :: b :: es) tt) (hm : lastMarks (op :: op' :: ops) (a :: b :: es) = false := by with_unfolding_all rfl) : PT X (.Compare e (op :: op' :: ops) (a :: b :: es) pos) (fun σ H Q => ta σ H fun x H1 => tt x σ H1 Q) := by
  refine ⟨fun pins s σ H Q I h => ?_⟩
  exact PyProof.Rows.isTrue_chain (thn (ha.run pins s σ H _ I h) fun v s1 ⟨x, H1, I1, r1, q1⟩ => hc.run pos pins s1 σ H1 Q x v I1 r1 q1) hm
/-- by data -/
structure Ch (X : Cx) (ops : List CmpOp) (es : List Expr) (f : D → Te) : Prop where
  ex : ∃ t u, PCh X ops es t ∧ PTCh X ops es u ∧
    (∀ G0 H0 Z Γ σ G H Q d x v, Rel X.K X.mg G0 H0 Z Γ σ G H → Rep X.K X.mg G v x → f x Γ = some d → (∀ G' H', Ext G H G' H' → Q (.bl d) H') → t v σ H Q) ∧
    (∀ G0 H0 Z Γ σ G H Q d x v, Rel X.K X.mg G0 H0 Z Γ σ G H → Rep X.K X.mg G v x → f x Γ = some d → (∀ G' H', Ext G H G' H' → Q d H') → u v σ H Q)
def dB : Option D → Option Bool
  | some (.bl b) => some b
  | _ => none
theorem dB_some {o : Option D} {b : Bool} (h : dB o = some b) : o = some (.bl b) := by
  unfold dB at h
  split at h
  · cases h; rfl
  · cases h
def gCh1 (o : D → D → Option D) (f : Ex) : D → Te := fun x Γ => (f Γ).bind fun y => dB (o x y)
def gChn (o : D → D → Option D) (f : Ex) (r : D → Te) : D → Te := fun x Γ => (f Γ).bind fun y => (dB (o x y)).bind fun b => if b then r y Γ else some false
variable {o : D → D → Option D} {c : D → Te}
theorem c_last (ho : OpD X (compareOp op) o) (hb : E X b f) : Ch X [op] [b] (gCh1 o f) := by
  obtain ⟨r, hr, hr2⟩ := ho
  obtain ⟨t, h1, h2⟩ := hb.ex
  refine ⟨⟨_, _, pch_last hr h1, ptch_last hr h1, fun G0 H0 Z Γ σ G H Q d x v R rx hf k => ?_, fun G0 H0 Z Γ σ G H Q d x v R rx hf k => ?_⟩⟩
  · obtain ⟨y, e1, hf⟩ := obind hf
    refine h2 G0 H0 Z Γ σ G H _ y R e1 fun G1 H1 w x1 r1 => ?_
    refine hr2 x y _ v w G1 H1 _ x1.gh (dB_some hf) (rx.mono x1.gg) r1 fun G2 H2 u x2 r2 => ?_
    cases r2
    exact k G2 H2 (x1.trans x2)
  · obtain ⟨y, e1, hf⟩ := obind hf
    refine h2 G0 H0 Z Γ σ G H _ y R e1 fun G1 H1 w x1 r1 => ?_
    refine hr2 x y _ v w G1 H1 _ x1.gh (dB_some hf) (rx.mono x1.gg) r1 fun G2 H2 u x2 r2 => ?_
    cases r2
    exact ⟨_, rfl, k G2 H2 (x1.trans x2)⟩
theorem c_cons (ho : OpD X (compareOp op) o) (ha : E X a f) (hc : Ch X (op' :: ops) (b :: es) c) : Ch X (op :: op' :: ops) (a :: b :: es) (gChn o f c) := by
  obtain ⟨r, hr, hr2⟩ := ho
  obtain ⟨t, h1, h2⟩ := ha.ex
  obtain ⟨tc, tt, c1, c2, c3, c4⟩ := hc.ex
  refine ⟨⟨_, _, pch_cons hr h1 c1, ptch_cons hr h1 c2, fun G0 H0 Z Γ σ G H Q d x v R rx hf k => ?_, fun G0 H0 Z Γ σ G H Q d x v R rx hf k => ?_⟩⟩
  · obtain ⟨y, e1, hf⟩ := obind hf
    obtain ⟨z, e2, hf⟩ := obind hf
    refine h2 G0 H0 Z Γ σ G H _ y R e1 fun G1 H1 w x1 r1 => ?_
    refine hr2 x y _ v w G1 H1 _ x1.gh (dB_some e2) (rx.mono x1.gg) r1 fun G2 H2 u x2 r2 => ?_
    cases r2
    refine ⟨_, rfl, ?_⟩
    cases z with
    | true => exact iteT (c3 G0 H0 Z Γ σ G2 H2 Q d y w ((R.ext x1).ext x2) (r1.mono x2.gg) hf fun G3 H3 x3 => k G3 H3 ((x1.trans x2).trans x3))
    | false => cases hf; exact iteF (k G2 H2 (x1.trans x2))
  · obtain ⟨y, e1, hf⟩ := obind hf
    obtain ⟨z, e2, hf⟩ := obind hf
    refine h2 G0 H0 Z Γ σ G H _ y R e1 fun G1 H1 w x1 r1 => ?_
    refine hr2 x y _ v w G1 H1 _ x1.gh (dB_some e2) (rx.mono x1.gg) r1 fun G2 H2 u x2 r2 => ?_
    cases r2
    refine ⟨_, rfl, ?_⟩
    cases z with
    | true => exact iteT (c4 G0 H0 Z Γ σ G2 H2 Q d y w ((R.ext x1).ext x2) (r1.mono x2.gg) hf fun G3 H3 x3 => k G3 H3 ((x1.trans x2).trans x3))
    | false => cases hf; exact iteF (k G2 H2 (x1.trans x2))
def gCh (f : Ex) (c : D → Te) : Te := fun Γ => (f Γ).bind fun x => c x Γ
theorem v_chn (ha : E X e f) (hc : Ch X (op :: op' :: ops) (a :: b :: es) c) (hm : lastMarks (op :: op' :: ops) (a :: b :: es) = false := by with_unfolding_all rfl) : V1 X (.Compare e (op :: op' :: ops) (a :: b :: es) pos) (gCh f c) := by
  obtain ⟨t, h1, h2⟩ := ha.ex
  obtain ⟨tc, tt, c1, c2, c3, c4⟩ := hc.ex
  refine ⟨⟨⟨_, pe_chn h1 c1 hm, fun G0 H0 Z Γ σ G H Q d R hf k => ?_⟩⟩⟩
  obtain ⟨y, e1, hf⟩ := obind hf
  cases hf
  obtain ⟨x, e1, hf⟩ := obind e1
  refine h2 G0 H0 Z Γ σ G H _ x R e1 fun G1 H1 w x1 r1 => ?_
  exact c3 G0 H0 Z Γ σ G1 H1 Q _ x w (R.ext x1) r1 hf fun G2 H2 x2 => k G2 H2 _ (x1.trans x2) (.bl _)
theorem t_chn (ha : E X e f) (hc : Ch X (op :: op' :: ops) (a :: b :: es) c) (hm : lastMarks (op :: op' :: ops) (a :: b :: es) = false := by with_unfolding_all rfl) : T X (.Compare e (op :: op' :: ops) (a :: b :: es) pos) (gCh f c) := by
  obtain ⟨t, h1, h2⟩ := ha.ex
  obtain ⟨tc, tt, c1, c2, c3, c4⟩ := hc.ex
  refine ⟨⟨_, pt_chn h1 c2 hm, fun G0 H0 Z Γ σ G H Q d R hf k => ?_⟩⟩
  obtain ⟨x, e1, hf⟩ := obind hf
  refine h2 G0 H0 Z Γ σ G H _ x R e1 fun G1 H1 w x1 r1 => ?_
  exact c4 G0 H0 Z Γ σ G1 H1 Q _ x w (R.ext x1) r1 hf fun G2 H2 x2 => k G2 H2 (x1.trans x2)
end
end DL

namespace DL
open PySem L2
variable [TC : TabCtx]

section
variable {K : PySem.W.Frag} {mg : Str → Option Value} {G H : Hp}
theorem atI_map {α β : Type} {xs : List α} {i : Int} {f : α → β} : atI (xs.map f) i = (atI xs i).map f := by
  unfold atI
  rw [List.length_map]
  cases ixN xs.length i with
  | none => rfl
  | some j => simp [List.getElem?_map]
theorem RepL.at {vs : List V} {ds : List D} {i : Int} {d : D} (r : RepL K mg G vs ds) (h : atI ds i = some d) : ∃ v, atI vs i = some v ∧ Rep K mg G v d := by
  unfold atI at h ⊢
  rw [r.length]
  cases e : ixN ds.length i with
  | none => rw [e] at h; cases h
  | some j =>
    rw [e] at h
    exact r.get j h
/-- what a slice takes -/
def cutD {α : Type} (xs : List α) (lo hi : Option Int) : List α := (xs.drop (HT.sIx xs.length 0 lo)).take (HT.sIx xs.length xs.length hi - HT.sIx xs.length 0 lo)
theorem RepL.cut {vs : List V} {ds : List D} {lo hi : Option Int} (r : RepL K mg G vs ds) : RepL K mg G (cutV vs lo hi) (cutD ds lo hi) := by
  unfold cutV cutD
  rw [r.length]
  exact (r.drop _).take _
theorem cutV_ints (ns : List Int) (lo hi : Option Int) : cutV (ns.map V.int) lo hi = (cutD ns lo hi).map V.int := by
  unfold cutV cutD
  rw [List.length_map, List.map_take, List.map_drop]
end

/-! ### the classes -/
structure CK (K : PySem.W.Frag) (mg : Str → Option Value) (c : Nat) (C : Addr) : Prop where
  hm : mg (cN c) = some (.ref C)
  cl : Cls K C
  na : ∀ f ∈ cF c, NoAttr K C f
theorem zip_lookup : ∀ {ns : List Str} {vs : List V} {j : Nat} {x : Str} {v : V}, ns.Nodup → ns[j]? = some x → vs[j]? = some v → (ns.zip vs).lookup x = some v
  | [], _, _, _, _, _, h, _ => by simp at h
  | _ :: _, [], _, _, _, _, _, h => by simp at h
  | n :: ns, w :: vs, 0, x, v, nd, h1, h2 => by
    simp at h1 h2; subst h1; subst h2
    simp [List.zip, List.lookup]
  | n :: ns, w :: vs, j + 1, x, v, nd, h1, h2 => by
    have hn : x ≠ n := fun e => by
      subst e
      exact (List.nodup_cons.mp nd).1 (List.mem_of_getElem? (by simpa using h1))
    rw [List.zip_cons_cons, List.lookup_cons]
    have e : (x == n) = false := beq_eq_false_iff_ne.mpr hn
    rw [e]
    exact zip_lookup (j := j) (List.nodup_cons.mp nd).2 (by simpa using h1) (by simpa using h2)
theorem zip_lookup_none : ∀ {ns : List Str} {vs : List V} {x : Str}, x ∉ ns → (ns.zip vs).lookup x = none
  | [], _, _, _ => by simp
  | _ :: _, [], _, _ => by simp
  | n :: ns, w :: vs, x, h => by
    rw [List.zip_cons_cons, List.lookup_cons]
    have e : (x == n) = false := beq_eq_false_iff_ne.mpr fun e => h (by simp [e])
    rw [e]
    exact zip_lookup_none fun z => h (List.mem_cons_of_mem _ z)

section
variable {X : Cx} {e a b o : Expr} {es : List Expr} {f g : Ex} {fs : Ag} {pos : Pos} {n : Nat}

/-! subscripts -/
def dIx : D → D → Option D
  | .lst xs, .int i => atI xs i
  | .tup xs, .int i => atI xs i
  | .scr ns, .int i => (atI ns i).map D.int
  | .str z, .int i => if z.length < 1000000 then (atI z.cps.toList i).map fun c => .str ⟨#[c]⟩ else none
  | _, _ => none
abbrev gIx (f g : Ex) : Ex := gOp dIx f g
theorem Rep.intv {K mg G v i} (r : Rep K mg G v (.int i)) : v = .int i := by cases r; rfl
theorem Rep.strv {K mg G v i} (r : Rep K mg G v (.str i)) : v = .str i := by cases r; rfl
theorem Rep.blv {K mg G v i} (r : Rep K mg G v (.bl i)) : v = .bl i := by cases r; rfl
theorem RepB.flat {K mg G H v d} (r : RepB K mg G H v d) (h : ∀ xs, d ≠ .lst xs) (h' : ∀ c xs, d ≠ .obj c xs := by simp) (h'' : ∀ ks xs, d ≠ .dic ks xs := by simp) : Rep K mg G v d := by
  cases r with
  | sh r => exact r
  | li _ _ => exact absurd rfl (h _)
  | obj _ _ _ => exact absurd rfl (h' _ _)
  | dic _ _ _ => exact absurd rfl (h'' _ _)
theorem e_ix (ha : B X a f) (hb : E X b g) (hs : PlainIx b := by exact fun _ _ => rfl) : E X (.Subscript a b pos) (gIx f g) := by
  obtain ⟨t, h1, h2⟩ := ha.ex
  obtain ⟨u, q1, q2⟩ := hb.ex
  refine ⟨⟨_, pe_ix ix_seq h1 q1 hs, fun G0 H0 Z Γ σ G H Q d R hf k => ?_⟩⟩
  obtain ⟨x, e1, hf⟩ := obind hf
  obtain ⟨y, e2, hf⟩ := obind hf
  refine h2 G0 H0 Z Γ σ G H _ x R e1 fun G1 H1 v x1 r1 => ?_
  refine q2 G0 H0 Z Γ σ G1 H1 _ y (R.ext x1) e2 fun G2 H2 w x2 r2 => ?_
  have r1' := r1.ext x2
  have fin : ∀ v, Rep X.K X.mg G2 v d → Q v H2 := fun v r => k G2 H2 v (x1.trans x2) r
  cases x with
  | lst xs =>
    cases y with
    | int i =>
      obtain ⟨p, vs, rfl, h, r⟩ := r1'.lst x2.gh
      obtain ⟨v, h3, h4⟩ := r.at hf
      rw [r2.intv]
      exact .inl ⟨p, vs, _, v, rfl, rfl, SqL.of h, h3, fin v h4⟩
    | _ => cases hf
  | tup xs =>
    cases y with
    | int i =>
      obtain ⟨p, vs, rfl, h, r⟩ := r1'.tup x2.gh
      obtain ⟨v, h3, h4⟩ := r.at hf
      rw [r2.intv]
      exact .inr (.inl ⟨p, vs, _, v, rfl, rfl, SqT.of h, h3, fin v h4⟩)
    | _ => cases hf
  | scr ns =>
    cases y with
    | int i =>
      obtain ⟨p, rfl, h⟩ := r1'.scr x2.gh
      rw [r2.intv]
      replace hf : (atI ns i).map D.int = some d := hf
      cases e3 : atI ns i with
      | none => rw [e3] at hf; cases hf
      | some m =>
        rw [e3] at hf; cases hf
        exact .inl ⟨p, _, i, .int m, rfl, rfl, h, by rw [atI_map, e3]; rfl, fin _ (.int m)⟩
    | _ => cases hf
  | str z =>
    cases y with
    | int i =>
      replace hf : (if z.length < 1000000 then (atI z.cps.toList i).map fun c => D.str ⟨#[c]⟩ else none) = some d := hf
      split at hf
      · rename_i hz
        rw [r2.intv, (r1'.flat (by simp)).strv]
        cases e3 : atI z.cps.toList i with
        | none => rw [e3] at hf; cases hf
        | some c =>
          rw [e3] at hf; cases hf
          exact .inr (.inr ⟨z, i, c, rfl, rfl, Nat.le_trans (Nat.le_of_lt hz) line_big, e3, fin _ (.str _)⟩)
      · cases hf
    | _ => cases hf
  | _ => cases hf

/-! slices of lists -/
abbrev Op := DEnv → Option (Option Int)
structure O (X : Cx) (e : Option Expr) (f : Op) : Prop where
  ex : ∃ t, PO X e t ∧ ∀ G0 H0 Z Γ σ G H Q d, Rel X.K X.mg G0 H0 Z Γ σ G H → f Γ = some d → (∀ G' H', Ext G H G' H' → Q d H') → t σ H Q
def gNo : Op := fun _ => some none
def gSo (f : Ex) : Op := fun Γ => (f Γ).bind fun d => match d with | .int i => some (some i) | _ => none
theorem o_no : O X none gNo := ⟨⟨_, po_none, fun G0 H0 Z Γ σ G H Q d R hf k => by cases hf; exact k G H (Ext.refl R.gh)⟩⟩
theorem o_so (h : E X e f) : O X (some e) (gSo f) := by
  obtain ⟨t, h1, h2⟩ := h.ex
  refine ⟨⟨_, po_some h1, fun G0 H0 Z Γ σ G H Q d R hf k => ?_⟩⟩
  obtain ⟨x, e1, hf⟩ := obind hf
  cases x with
  | int i =>
    cases hf
    refine h2 G0 H0 Z Γ σ G H _ _ R e1 fun G1 H1 v x1 r1 => ?_
    rw [r1.intv]
    exact ⟨i, rfl, k G1 H1 x1⟩
  | _ => cases hf
def dCut : D → Option Int → Option Int → Option (List D)
  | .lst xs, lo, hi => some (cutD xs lo hi)
  | .scr ns, lo, hi => some ((cutD ns lo hi).map D.int)
  | _, _, _ => none
def gSl (f : Ex) (lo hi : Op) : Ag := fun Γ => (f Γ).bind fun x => (lo Γ).bind fun l => (hi Γ).bind fun h => dCut x l h
theorem el_sl {lo hi : Option Expr} {p2 : Pos} {fl fh : Op} (he : B X e f) (hl : O X lo fl) (hh : O X hi fh) : EL X (.Subscript e (.Slice lo hi none p2) pos) (gSl f fl fh) := by
  obtain ⟨t, h1, h2⟩ := he.ex
  obtain ⟨u, q1, q2⟩ := hl.ex
  obtain ⟨w, z1, z2⟩ := hh.ex
  refine ⟨⟨_, pe_slice sl_list h1 q1 z1, fun G0 H0 Z Γ σ G H Q ds R hf k => ?_⟩⟩
  obtain ⟨x, e1, hf⟩ := obind hf
  obtain ⟨l, e2, hf⟩ := obind hf
  obtain ⟨h, e3, hf⟩ := obind hf
  refine h2 G0 H0 Z Γ σ G H _ x R e1 fun G1 H1 v x1 r1 => ?_
  refine q2 G0 H0 Z Γ σ G1 H1 _ l (R.ext x1) e2 fun G2 H2 x2 => ?_
  refine z2 G0 H0 Z Γ σ G2 H2 _ h ((R.ext x1).ext x2) e3 fun G3 H3 x3 => ?_
  have x23 := x2.trans x3
  have r1' := r1.ext x23
  have xx := x1.trans x23
  cases x with
  | lst xs =>
    cases hf
    obtain ⟨p, vs, rfl, h', r⟩ := r1'.lst x3.gh
    refine ⟨p, vs, rfl, SqL.of h', fun q hq => ?_⟩
    exact k G3 _ q _ (xx.trans (Ext.own1 x3.gh hq)) (xx.hf hq) (x3.gh.free hq) upd_same r.cut
  | scr ns =>
    cases hf
    obtain ⟨p, rfl, h'⟩ := r1'.scr x3.gh
    refine ⟨p, _, rfl, h', fun q hq => ?_⟩
    refine k G3 _ q _ (xx.trans (Ext.own1 x3.gh hq)) (xx.hf hq) (x3.gh.free hq) upd_same ?_
    rw [cutV_ints]
    exact RepL.ofInts
  | _ => cases hf

/-! calls of built-ins -/
/-- an argument that is looked at, alone -/
def CbB (X : Cx) (v : Value) (o : D → Option D) : Prop :=
  ∃ r, CallR X v r ∧ ∀ x d v G H Q, Same G H → o x = some d → RepB X.K X.mg G H v x → (∀ G' H' u, Ext G H G' H' → Rep X.K X.mg G' u d → Q u H') → r [v] H Q
def gU (o : D → Option D) (f : Ex) : Ex := fun Γ => (f Γ).bind o
theorem e_cb {id : String} {x : Str} {p : Pos} {q : D → Option D} (hc : CbB X (.builtin id) q) (hg : Gl X x) (hm : X.mg x = none) (hv : bootBuiltins x = some (.builtin id)) (ha : B X a f) (hn : x ≠ "__name__" := by decide) (hdb : (x == ("__debug__" : Str)) = false := by decide)
    (he : starEach [a] X.env = (false, eval a X.env) :: starEach [] X.env := by rfl) (hpl : (backTo pos (starEach [] X.env)).any (·.1) = false := by rfl) : E X (.Call (.Name x p) [a] [] pos) (gU q f) := by
  obtain ⟨r, c1, c2⟩ := hc
  obtain ⟨t, h1, h2⟩ := ha.ex
  refine ⟨⟨_, pe_callB c1 hg hm hv (pa_cons h1 pa_nil he) hn hdb he hpl, fun G0 H0 Z Γ σ G H Q d R hf k => ?_⟩⟩
  obtain ⟨y, e1, hf⟩ := obind hf
  refine h2 G0 H0 Z Γ σ G H _ y R e1 fun G1 H1 v x1 r1 => ?_
  exact c2 y d v G1 H1 Q x1.gh hf r1 fun G2 H2 u x2 r2 => k G2 H2 u (x1.trans x2) r2
theorem e_cty {id : String} {x : Str} {p : Pos} {q : D → Option D} (hc : CbB X (.type id) q) (hg : Gl X x) (hm : X.mg x = none) (hv : bootBuiltins x = some (.type id)) (ha : B X a f) (hn : x ≠ "__name__" := by decide) (hdb : (x == ("__debug__" : Str)) = false := by decide)
    (he : starEach [a] X.env = (false, eval a X.env) :: starEach [] X.env := by rfl) (hpl : (backTo pos (starEach [] X.env)).any (·.1) = false := by rfl) : E X (.Call (.Name x p) [a] [] pos) (gU q f) := by
  obtain ⟨r, c1, c2⟩ := hc
  obtain ⟨t, h1, h2⟩ := ha.ex
  refine ⟨⟨_, pe_callTy c1 hg hm hv (pa_cons h1 pa_nil he) hn hdb he hpl, fun G0 H0 Z Γ σ G H Q d R hf k => ?_⟩⟩
  obtain ⟨y, e1, hf⟩ := obind hf
  refine h2 G0 H0 Z Γ σ G H _ y R e1 fun G1 H1 v x1 r1 => ?_
  exact c2 y d v G1 H1 Q x1.gh hf r1 fun G2 H2 u x2 r2 => k G2 H2 u (x1.trans x2) r2
def dLen : D → Option D
  | .lst xs => some (.int xs.length)
  | .tup xs => some (.int xs.length)
  | .scr ns => some (.int ns.length)
  | .str z => if z.length < 1000000 then some (.int z.length) else none
  | _ => none
theorem callr_or {v : Value} {r r' : List V → Hp → VK → Prop} (h : CallR X v r) (h' : CallR X v r') : CallR X v (fun xs H Q => r xs H Q ∨ r' xs H Q) := by
  intro pins s σ H xs us Q I rx q
  rcases q with q | q
  · exact h pins s σ H xs us Q I rx q
  · exact h' pins s σ H xs us Q I rx q
theorem cb_len : CbB X (.builtin "len") dLen := by
  refine ⟨_, callr_or call_len_seq call_len_str, fun x d v G H Q gh e r k => ?_⟩
  unfold dLen at e
  split at e
  · cases e
    obtain ⟨p, vs, rfl, h, r⟩ := r.lst gh
    exact .inl ⟨p, vs, rfl, .inl (SqL.of h), by rw [r.length]; exact k G H _ (Ext.refl gh) (.int _)⟩
  · cases e
    obtain ⟨p, vs, rfl, h, r⟩ := r.tup gh
    exact .inl ⟨p, vs, rfl, .inr (SqT.of h), by rw [r.length]; exact k G H _ (Ext.refl gh) (.int _)⟩
  · cases e
    obtain ⟨p, rfl, h⟩ := r.scr gh
    exact .inl ⟨p, _, rfl, .inl h, by rw [List.length_map]; exact k G H _ (Ext.refl gh) (.int _)⟩
  · split at e
    · cases e
      rename_i z hz
      rw [(r.flat (by simp)).strv]
      exact .inr ⟨z, rfl, Nat.le_trans (Nat.le_of_lt hz) line_big, k G H _ (Ext.refl gh) (.int _)⟩
    · cases e
  · cases e
def dAbs : D → Option D
  | .int i => some (.int (if i < 0 then -i else i))
  | _ => none
theorem cb_abs : CbB X (.builtin "abs") dAbs := by
  refine ⟨_, call_abs, fun x d v G H Q gh e r k => ?_⟩
  unfold dAbs at e
  split at e
  · cases e
    rw [(r.flat (by simp)).intv]
    exact ⟨_, rfl, k G H _ (Ext.refl gh) (.int _)⟩
  · cases e
def dInt : D → Option D
  | .int i => some (.int i)
  | .bl b => some (.int (if b then 1 else 0))
  | _ => none
theorem cb_int : CbB X (.type "int") dInt := by
  refine ⟨_, call_int1, fun x d v G H Q gh e r k => ?_⟩
  unfold dInt at e
  split at e
  · cases e
    rw [(r.flat (by simp)).intv]
    exact .inl ⟨_, rfl, k G H _ (Ext.refl gh) (.int _)⟩
  · cases e
    rw [(r.flat (by simp)).blv]
    exact .inr ⟨_, rfl, k G H _ (Ext.refl gh) (.int _)⟩
  · cases e
/-! lists of ints, of truth values -/
def ints? : List D → Option (List Int)
  | [] => some []
  | .int i :: r => (ints? r).map (i :: ·)
  | _ :: _ => none
def bls? : List D → Option (List Bool)
  | [] => some []
  | .bl i :: r => (bls? r).map (i :: ·)
  | _ :: _ => none
theorem ints?_map : ∀ ns : List Int, ints? (ns.map D.int) = some ns
  | [] => rfl
  | n :: ns => by simp [ints?, ints?_map ns]
theorem bls?_map : ∀ ns : List Bool, bls? (ns.map D.bl) = some ns
  | [] => rfl
  | n :: ns => by simp [bls?, bls?_map ns]
theorem ints?_some : ∀ {ds : List D} {ns : List Int}, ints? ds = some ns → ds = ns.map D.int
  | [], _, h => by cases h; rfl
  | .int i :: r, ns, h => by
    simp only [ints?, Option.map_eq_some_iff] at h
    obtain ⟨m, h1, rfl⟩ := h
    rw [ints?_some h1]; rfl
  | .non :: _, _, h => by simp [ints?] at h
  | .bl _ :: _, _, h => by simp [ints?] at h
  | .str _ :: _, _, h => by simp [ints?] at h
  | .lst _ :: _, _, h => by simp [ints?] at h
  | .tup _ :: _, _, h => by simp [ints?] at h
  | .scr _ :: _, _, h => by simp [ints?] at h
  | .obj _ _ :: _, _, h => by simp [ints?] at h
theorem bls?_some : ∀ {ds : List D} {ns : List Bool}, bls? ds = some ns → ds = ns.map D.bl
  | [], _, h => by cases h; rfl
  | .bl i :: r, ns, h => by
    simp only [bls?, Option.map_eq_some_iff] at h
    obtain ⟨m, h1, rfl⟩ := h
    rw [bls?_some h1]; rfl
  | .non :: _, _, h => by simp [bls?] at h
  | .int _ :: _, _, h => by simp [bls?] at h
  | .str _ :: _, _, h => by simp [bls?] at h
  | .lst _ :: _, _, h => by simp [bls?] at h
  | .tup _ :: _, _, h => by simp [bls?] at h
  | .scr _ :: _, _, h => by simp [bls?] at h
  | .obj _ _ :: _, _, h => by simp [bls?] at h
def dInts : D → Option (List Int)
  | .lst xs => ints? xs
  | .scr ns => some ns
  | _ => none
theorem RepB.ints {K mg G H v d ns} (gh : Same G H) (r : RepB K mg G H v d) (e : dInts d = some ns) : ∃ p, v = .ref p ∧ SqL K H p (ns.map V.int) := by
  unfold dInts at e
  split at e
  · obtain ⟨p, vs, rfl, h, r⟩ := r.lst gh
    rw [ints?_some e] at r
    rw [r.ints] at h
    exact ⟨p, rfl, SqL.of h⟩
  · cases e
    exact r.scr gh
  · cases e
def maxI : List Int → Int
  | [] => 0
  | [x] => x
  | x :: r => if maxI r > x then maxI r else x
def minI : List Int → Int
  | [] => 0
  | [x] => x
  | x :: r => if minI r < x then minI r else x
theorem maxI_spec : ∀ ns : List Int, 0 < ns.length → maxI ns ∈ ns ∧ ∀ y ∈ ns, y ≤ maxI ns
  | [], h => by simp at h
  | [x], _ => by simp [maxI]
  | x :: y :: r, _ => by
    obtain ⟨h1, h2⟩ := maxI_spec (y :: r) (by simp)
    simp only [maxI]
    by_cases h : maxI (y :: r) > x
    · rw [if_pos h]
      exact ⟨List.mem_cons_of_mem _ h1, fun z hz => by
        rcases List.mem_cons.mp hz with rfl | hz
        · omega
        · exact h2 z hz⟩
    · rw [if_neg h]
      exact ⟨by simp, fun z hz => by
        rcases List.mem_cons.mp hz with rfl | hz
        · omega
        · have := h2 z hz; omega⟩
theorem minI_spec : ∀ ns : List Int, 0 < ns.length → minI ns ∈ ns ∧ ∀ y ∈ ns, minI ns ≤ y
  | [], h => by simp at h
  | [x], _ => by simp [minI]
  | x :: y :: r, _ => by
    obtain ⟨h1, h2⟩ := minI_spec (y :: r) (by simp)
    simp only [minI]
    by_cases h : minI (y :: r) < x
    · rw [if_pos h]
      exact ⟨List.mem_cons_of_mem _ h1, fun z hz => by
        rcases List.mem_cons.mp hz with rfl | hz
        · omega
        · exact h2 z hz⟩
    · rw [if_neg h]
      exact ⟨by simp, fun z hz => by
        rcases List.mem_cons.mp hz with rfl | hz
        · omega
        · have := h2 z hz; omega⟩
def dMax (d : D) : Option D := (dInts d).bind fun ns => if ns.isEmpty then none else some (.int (maxI ns))
def dMin (d : D) : Option D := (dInts d).bind fun ns => if ns.isEmpty then none else some (.int (minI ns))
def dSum (d : D) : Option D := (dInts d).bind fun ns => some (.int ns.sum)
theorem cb_max (hc : X.calm = true) : CbB X (.builtin "max") dMax := by
  refine ⟨_, cr_max hc, fun x d v G H Q gh e r k => ?_⟩
  obtain ⟨ns, e1, e⟩ := obind e
  split at e
  · cases e
  · rename_i z
    cases e
    obtain ⟨p, rfl, h⟩ := r.ints gh e1
    have hl : 0 < ns.length := by
      cases ns with
      | nil => simp at z
      | cons => simp
    obtain ⟨m1, m2⟩ := maxI_spec ns hl
    refine ⟨p, ns, rfl, h, hl, fun m hm hle => ?_⟩
    have : m = maxI ns := Int.le_antisymm (m2 m hm) (hle _ m1)
    rw [this]
    exact k G H _ (Ext.refl gh) (.int _)
theorem cb_min (hc : X.calm = true) : CbB X (.builtin "min") dMin := by
  refine ⟨_, cr_min hc, fun x d v G H Q gh e r k => ?_⟩
  obtain ⟨ns, e1, e⟩ := obind e
  split at e
  · cases e
  · rename_i z
    cases e
    obtain ⟨p, rfl, h⟩ := r.ints gh e1
    have hl : 0 < ns.length := by
      cases ns with
      | nil => simp at z
      | cons => simp
    obtain ⟨m1, m2⟩ := minI_spec ns hl
    refine ⟨p, ns, rfl, h, hl, fun m hm hle => ?_⟩
    have : m = minI ns := Int.le_antisymm (hle _ m1) (m2 m hm)
    rw [this]
    exact k G H _ (Ext.refl gh) (.int _)
theorem cb_sum (hc : X.calm = true) : CbB X (.builtin "sum") dSum := by
  refine ⟨_, cr_sum hc, fun x d v G H Q gh e r k => ?_⟩
  obtain ⟨ns, e1, e⟩ := obind e
  cases e
  obtain ⟨p, rfl, h⟩ := r.ints gh e1
  exact ⟨p, ns, rfl, h, k G H _ (Ext.refl gh) (.int _)⟩
def dBls : D → Option (List Bool)
  | .lst xs => bls? xs
  | _ => none
theorem RepB.bls {K mg G H v d ns} (gh : Same G H) (r : RepB K mg G H v d) (e : dBls d = some ns) : ∃ p, v = .ref p ∧ SqL K H p (ns.map V.bl) := by
  unfold dBls at e
  split at e
  · obtain ⟨p, vs, rfl, h, r⟩ := r.lst gh
    rw [bls?_some e] at r
    rw [r.bls] at h
    exact ⟨p, rfl, SqL.of h⟩
  · cases e
def dAll (d : D) : Option D := (dBls d).bind fun ns => some (.bl (ns.all id))
def dAny (d : D) : Option D := (dBls d).bind fun ns => some (.bl (ns.any id))
theorem cb_all (hc : X.calm = true) : CbB X (.builtin "all") dAll := by
  refine ⟨_, cr_all hc, fun x d v G H Q gh e r k => ?_⟩
  obtain ⟨ns, e1, e⟩ := obind e
  cases e
  obtain ⟨p, rfl, h⟩ := r.bls gh e1
  exact ⟨p, ns, rfl, h, k G H _ (Ext.refl gh) (.bl _)⟩
theorem cb_any (hc : X.calm = true) : CbB X (.builtin "any") dAny := by
  refine ⟨_, cr_any hc, fun x d v G H Q gh e r k => ?_⟩
  obtain ⟨ns, e1, e⟩ := obind e
  cases e
  obtain ⟨p, rfl, h⟩ := r.bls gh e1
  exact ⟨p, ns, rfl, h, k G H _ (Ext.refl gh) (.bl _)⟩
/-! a new list of a call: list(x), sorted(x) -/
def CbL (X : Cx) (v : Value) (o : D → Option (List D)) : Prop :=
  ∃ r, CallR X v r ∧ ∀ x ds v G H Q, Same G H → o x = some ds → RepB X.K X.mg G H v x → (∀ p vs, H p = none → RepL X.K X.mg G vs ds → Q (.ref p) (upd H p (.lst vs))) → r [v] H Q
def gUL (o : D → Option (List D)) (f : Ex) : Ag := fun Γ => (f Γ).bind o
theorem el_cb {id : String} {x : Str} {p : Pos} {q : D → Option (List D)} (hc : CbL X (.builtin id) q) (hg : Gl X x) (hm : X.mg x = none) (hv : bootBuiltins x = some (.builtin id)) (ha : B X a f) (hn : x ≠ "__name__" := by decide) (hdb : (x == ("__debug__" : Str)) = false := by decide)
    (he : starEach [a] X.env = (false, eval a X.env) :: starEach [] X.env := by rfl) (hpl : (backTo pos (starEach [] X.env)).any (·.1) = false := by rfl) : EL X (.Call (.Name x p) [a] [] pos) (gUL q f) := by
  obtain ⟨r, c1, c2⟩ := hc
  obtain ⟨t, h1, h2⟩ := ha.ex
  refine ⟨⟨_, pe_callB c1 hg hm hv (pa_cons h1 pa_nil he) hn hdb he hpl, fun G0 H0 Z Γ σ G H Q d R hf k => ?_⟩⟩
  obtain ⟨y, e1, hf⟩ := obind hf
  refine h2 G0 H0 Z Γ σ G H _ y R e1 fun G1 H1 v x1 r1 => ?_
  exact c2 y d v G1 H1 Q x1.gh hf r1 fun p vs hp r2 => k G1 _ p vs (x1.trans (Ext.own1 x1.gh hp)) (x1.hf hp) (x1.gh.free hp) upd_same r2
theorem el_cty {id : String} {x : Str} {p : Pos} {q : D → Option (List D)} (hc : CbL X (.type id) q) (hg : Gl X x) (hm : X.mg x = none) (hv : bootBuiltins x = some (.type id)) (ha : B X a f) (hn : x ≠ "__name__" := by decide) (hdb : (x == ("__debug__" : Str)) = false := by decide)
    (he : starEach [a] X.env = (false, eval a X.env) :: starEach [] X.env := by rfl) (hpl : (backTo pos (starEach [] X.env)).any (·.1) = false := by rfl) : EL X (.Call (.Name x p) [a] [] pos) (gUL q f) := by
  obtain ⟨r, c1, c2⟩ := hc
  obtain ⟨t, h1, h2⟩ := ha.ex
  refine ⟨⟨_, pe_callTy c1 hg hm hv (pa_cons h1 pa_nil he) hn hdb he hpl, fun G0 H0 Z Γ σ G H Q d R hf k => ?_⟩⟩
  obtain ⟨y, e1, hf⟩ := obind hf
  refine h2 G0 H0 Z Γ σ G H _ y R e1 fun G1 H1 v x1 r1 => ?_
  exact c2 y d v G1 H1 Q x1.gh hf r1 fun p vs hp r2 => k G1 _ p vs (x1.trans (Ext.own1 x1.gh hp)) (x1.hf hp) (x1.gh.free hp) upd_same r2
def dList : D → Option (List D)
  | .lst xs => some xs
  | .tup xs => some xs
  | .scr ns => some (ns.map D.int)
  | _ => none
theorem cb_list : CbL X (.type "list") dList := by
  refine ⟨_, call_list_of, fun x d v G H Q gh e r k => ?_⟩
  unfold dList at e
  split at e
  · cases e
    obtain ⟨p, vs, rfl, h, r⟩ := r.lst gh
    exact ⟨p, vs, rfl, .inl (SqL.of h), fun l hl => k l vs hl r⟩
  · cases e
    obtain ⟨p, vs, rfl, h, r⟩ := r.tup gh
    exact ⟨p, vs, rfl, .inr (SqT.of h), fun l hl => k l vs hl r⟩
  · cases e
    obtain ⟨p, rfl, h⟩ := r.scr gh
    exact ⟨p, _, rfl, .inl h, fun l hl => k l _ hl .ofInts⟩
  · cases e
/-- the one ascending arrangement -/
def srt (ns : List Int) : List Int := ns.mergeSort (fun a b => decide (a ≤ b))
theorem srt_perm (ns : List Int) : (srt ns).Perm ns := List.mergeSort_perm ns _
theorem srt_le (ns : List Int) : (srt ns).Pairwise (· ≤ ·) := by
  have h := List.pairwise_mergeSort (le := fun a b : Int => decide (a ≤ b)) (fun a b c h1 h2 => by simp at *; omega) (fun a b => by simp; omega) ns
  exact h.imp fun h => by simpa using h
theorem srt_unique {xs ys : List Int} (h : xs.Perm ys) (hx : xs.Pairwise (· ≤ ·)) (hy : ys.Pairwise (· ≤ ·)) : xs = ys :=
  List.Perm.eq_of_pairwise (fun a b _ _ h1 h2 => Int.le_antisymm h1 h2) hx hy h
def dSorted (d : D) : Option (List D) := (dInts d).bind fun ns => some ((srt ns).map D.int)
theorem cb_sorted : CbL X (.builtin "sorted") dSorted := by
  refine ⟨_, cr_sortedI, fun x d v G H Q gh e r k => ?_⟩
  obtain ⟨ns, e1, e⟩ := obind e
  cases e
  obtain ⟨p, rfl, h⟩ := r.ints gh e1
  refine ⟨p, ns, rfl, h, fun ns' q hp ho hq => ?_⟩
  have e2 : ns' = srt ns := srt_unique (hp.trans (srt_perm ns).symm) ho (srt_le ns)
  subst e2
  exact k q _ hq .ofInts
/-! two arguments -/
def CbA (X : Cx) (v : Value) (o : List D → Option D) : Prop :=
  ∃ r, CallR X v r ∧ ∀ xs d vs G H Q, Same G H → o xs = some d → RepL X.K X.mg G vs xs → (∀ G' H' u, Ext G H G' H' → Rep X.K X.mg G' u d → Q u H') → r vs H Q
def gA (o : List D → Option D) (fs : Ag) : Ex := fun Γ => (fs Γ).bind o
theorem e_cba {id : String} {x : Str} {p : Pos} {q : List D → Option D} (hc : CbA X (.builtin id) q) (hg : Gl X x) (hm : X.mg x = none) (hv : bootBuiltins x = some (.builtin id)) (ha : A X (a :: es) fs) (hn : x ≠ "__name__" := by decide) (hdb : (x == ("__debug__" : Str)) = false := by decide)
    (he : starEach (a :: es) X.env = (false, eval a X.env) :: starEach es X.env := by rfl) (hpl : (backTo pos (starEach es X.env)).any (·.1) = false := by rfl) : E X (.Call (.Name x p) (a :: es) [] pos) (gA q fs) := by
  obtain ⟨r, c1, c2⟩ := hc
  obtain ⟨t, h1, h2⟩ := ha.ex
  refine ⟨⟨_, pe_callB c1 hg hm hv h1 hn hdb he hpl, fun G0 H0 Z Γ σ G H Q d R hf k => ?_⟩⟩
  obtain ⟨y, e1, hf⟩ := obind hf
  refine h2 G0 H0 Z Γ σ G H _ y R e1 fun G1 H1 v x1 r1 => ?_
  exact c2 y d v G1 H1 Q x1.gh hf r1 fun G2 H2 u x2 r2 => k G2 H2 u (x1.trans x2) r2
/-- a module's name for a built-in -/
theorem e_cbf {id : String} {x : Str} {p : Pos} {q : List D → Option D} (hc : CbA X (.builtin id) q) (hg : Gl X x) (hm : X.mg x = some (.builtin id)) (ha : A X (a :: es) fs) (hdb : (x == ("__debug__" : Str)) = false := by decide)
    (he : starEach (a :: es) X.env = (false, eval a X.env) :: starEach es X.env := by rfl) (hpl : (backTo pos (starEach es X.env)).any (·.1) = false := by rfl) : E X (.Call (.Name x p) (a :: es) [] pos) (gA q fs) := by
  obtain ⟨r, c1, c2⟩ := hc
  obtain ⟨t, h1, h2⟩ := ha.ex
  refine ⟨⟨_, pe_callBfun c1 hg hm h1 hdb he hpl, fun G0 H0 Z Γ σ G H Q d R hf k => ?_⟩⟩
  obtain ⟨y, e1, hf⟩ := obind hf
  refine h2 G0 H0 Z Γ σ G H _ y R e1 fun G1 H1 v x1 r1 => ?_
  exact c2 y d v G1 H1 Q x1.gh hf r1 fun G2 H2 u x2 r2 => k G2 H2 u (x1.trans x2) r2
def dGcd : List D → Option D
  | [.int a, .int b] => some (.int ((Nat.gcd a.natAbs b.natAbs : Nat) : Int))
  | _ => none
theorem cb_gcd : CbA X (.builtin "math.gcd") dGcd := by
  refine ⟨_, cr_gcd, fun x d v G H Q gh e r k => ?_⟩
  unfold dGcd at e
  split at e
  · cases e
    cases r with
    | cons h1 r => cases h1; cases r with
      | cons h2 r => cases h2; cases r; exact ⟨_, _, rfl, k G H _ (Ext.refl gh) (.int _)⟩
  · cases e
def dMax2 : List D → Option D
  | [.int a, .int b] => some (.int (if b > a then b else a))
  | _ => none
theorem cb_max2 (hc : X.calm = true) : CbA X (.builtin "max") dMax2 := by
  refine ⟨_, call_max2 hc, fun x d v G H Q gh e r k => ?_⟩
  unfold dMax2 at e
  split at e
  · cases e
    cases r with
    | cons h1 r => cases h1; cases r with
      | cons h2 r => cases h2; cases r; exact ⟨_, _, rfl, k G H _ (Ext.refl gh) (.int _)⟩
  · cases e
def dMin2 : List D → Option D
  | [.int a, .int b] => some (.int (if b < a then b else a))
  | _ => none
theorem cb_min2 (hc : X.calm = true) : CbA X (.builtin "min") dMin2 := by
  refine ⟨_, call_min2 hc, fun x d v G H Q gh e r k => ?_⟩
  unfold dMin2 at e
  split at e
  · cases e
    cases r with
    | cons h1 r => cases h1; cases r with
      | cons h2 r => cases h2; cases r; exact ⟨_, _, rfl, k G H _ (Ext.refl gh) (.int _)⟩
  · cases e
/-! isinstance(x, T) -/
def dTy : D → String
  | .non => "NoneType" | .bl _ => "bool" | .int _ => "int" | .str _ => "str" | .lst _ => "list" | .tup _ => "tuple" | .scr _ => "list" | .obj _ _ => "?" | .fn _ _ _ _ _ => "?" | .dic _ _ => "?"
def dIsi (T : String) (d : D) : Option D := match d with
  | .obj _ _ => none
  | .scr _ => none
  | .fn _ _ _ _ _ => none
  | .dic _ _ => none
  | d => (kitB (dTy d) T).map D.bl
theorem e_isi {T : String} {x y : Str} {p p2 : Pos} (hg : Gl X x) (hm : X.mg x = none) (hv : bootBuiltins x = some (.builtin "isinstance")) (hgy : Gl X y) (hmy : X.mg y = none) (hvy : bootBuiltins y = some (.type T)) (ha : B X a f)
    (hn : x ≠ "__name__" := by decide) (hdb : (x == ("__debug__" : Str)) = false := by decide) (hny : y ≠ "__name__" := by decide) (hdby : (y == ("__debug__" : Str)) = false := by decide)
    (he : starEach [a, .Name y p2] X.env = (false, eval a X.env) :: starEach [.Name y p2] X.env := by rfl) (hpl : (backTo pos (starEach [.Name y p2] X.env)).any (·.1) = false := by rfl) (he2 : starEach [.Name y p2] X.env = (false, eval (.Name y p2) X.env) :: starEach [] X.env := by rfl) :
    E X (.Call (.Name x p) [a, .Name y p2] [] pos) (gU (dIsi T) f) := by
  obtain ⟨t, h1, h2⟩ := ha.ex
  refine ⟨⟨_, pe_callB call_isi hg hm hv (pa_cons h1 (pa_cons (pe_bltn (v := .ty T) hgy hmy hvy rfl hny hdby) pa_nil he2) he) hn hdb he hpl, fun G0 H0 Z Γ σ G H Q d R hf k => ?_⟩⟩
  obtain ⟨y, e1, hf⟩ := obind hf
  refine h2 G0 H0 Z Γ σ G H _ y R e1 fun G1 H1 v x1 r1 => ?_
  have fin : ∀ {b : Bool}, d = .bl b → Q (.bl b) H1 := fun e => by subst e; exact k G1 H1 _ x1 (.bl _)
  have go : ∀ (tn : String), TyOf X.K H1 v (.type tn) → (kitB tn T).map D.bl = some d → rIsi X.K [v, .ty T] H1 Q := fun tn ty e => by
    cases q : kitB tn T with
    | none => rw [q] at e; cases e
    | some b =>
      rw [q] at e
      exact ⟨v, .ty T, .type tn, .type T, b, rfl, .ty T, .base ty, kit_ty q, fin (Option.some.inj e).symm⟩
  cases y with
  | non => have := r1.flat (by simp); cases this; exact go _ .non hf
  | bl b => have z := (r1.flat (by simp)).blv; subst z; exact go _ (.bl _) hf
  | int b => have z := (r1.flat (by simp)).intv; subst z; exact go _ (.int _) hf
  | str b => have z := (r1.flat (by simp)).strv; subst z; exact go _ (.str _) hf
  | lst xs => obtain ⟨p, vs, rfl, h, r⟩ := r1.lst x1.gh; exact go _ (.lst h) hf
  | tup xs => obtain ⟨p, vs, rfl, h, r⟩ := r1.tup x1.gh; exact go _ (.tup h) hf
  | scr ns => cases hf
  | obj c ds => cases hf
  | fn a c q vs ds => cases hf
  | dic ks xs => cases hf
/-! -x -/
def dNeg : D → Option D
  | .int i => some (.int (-i))
  | _ => none
theorem e_neg (ha : E X a f) : E X (.UnaryOp .USub a pos) (gU dNeg f) := by
  obtain ⟨t, h1, h2⟩ := ha.ex
  refine ⟨⟨_, pe_un un_neg h1, fun G0 H0 Z Γ σ G H Q d R hf k => ?_⟩⟩
  obtain ⟨y, e1, hf⟩ := obind hf
  unfold dNeg at hf
  split at hf
  · cases hf
    refine h2 G0 H0 Z Γ σ G H _ _ R e1 fun G1 H1 v x1 r1 => ?_
    rw [r1.intv]
    exact ⟨_, rfl, k G1 H1 _ x1 (.int _)⟩
  · cases hf
/-! fields -/
def dFld (c j : Nat) : D → Option D
  | .obj c' vs => if c' = c then vs[j]? else none
  | _ => none
theorem e_fld {c j : Nat} {C : Addr} {x : Str} (ck : CK X.K X.mg c C) (he : E X o f) (hj : (cF c)[j]? = some x := by rfl) (nd : (cF c).Nodup := by decide +kernel) (hb : attributeBase o x X.env (eval o X.env) = eval o X.env := by rfl) : E X (.Attribute o x pos) (gU (dFld c j) f) := by
  obtain ⟨t, h1, h2⟩ := he.ex
  refine ⟨⟨_, pe_fld h1 hb, fun G0 H0 Z Γ σ G H Q d R hf k => ?_⟩⟩
  obtain ⟨y, e1, hv⟩ := obind hf
  cases y with
  | obj c' vs =>
    replace hv : (if c' = c then vs[j]? else none) = some d := hv
    split at hv
    · rename_i cz
      subst cz
      refine h2 G0 H0 Z Γ σ G H _ _ R e1 fun G1 H1 v x1 r1 => ?_
      cases r1 with
      | obj hm h r =>
        rw [ck.hm] at hm
        cases hm
        obtain ⟨w, g1, g2⟩ := r.get j hv
        exact ⟨_, _, _, _, w, rfl, x1.gh _ _ h, ck.cl, ck.na x (List.mem_of_getElem? hj), zip_lookup nd hj g1, k G1 H1 w x1 g2⟩
    · cases hv
  | _ => cases hv

/-! ### defs -/
/-- the promise of a def that changes nothing: its value by data -/
def spD (K : PySem.W.Frag) (mg : Str → Option Value) (n : Nat) (F : List D → Option D) : Sp := fun vs H Q _ =>
  ∃ G ds d, vs.length = n ∧ Same G H ∧ TC.ti.t G H ∧ RepL K mg G vs ds ∧ F ds = some d ∧ ∀ G' H' v, Ext G H G' H' → Rep K mg G' v d → Q v H'
def gCall (F : List D → Option D) (fs : Ag) : Ex := fun Γ => (fs Γ).bind F
theorem e_call {k : Nat} {fa : Addr} {fd : FuncData} {ps : List Str} {F : List D → Option D} {x : Str} {p : Pos} (FO : FnOk X.prog X.w X.K X.mg X.base CX0 k fa fd ps (spD X.K X.mg n F)) (hr : Room k X.A) (hm : X.mg x = some (.ref fa)) (hk : PySem.W.keepIn X.K (.ref fa) = true) (hb : Binds X.K fd ps [])
    (ha : AN X (a :: es) n fs) (hg : Gl X x := by rfl) (hdb : (x == ("__debug__" : Str)) = false := by decide) (he : starEach (a :: es) X.env = (false, eval a X.env) :: starEach es X.env := by rfl) (hpl : (backTo pos (starEach es X.env)).any (·.1) = false := by rfl) :
    E X (.Call (.Name x p) (a :: es) [] pos) (gCall F fs) := by
  obtain ⟨t, h1, h2⟩ := ha.a.ex
  refine ⟨⟨_, pe_call FO hr hg hm hk hb .nil pass0 h1 hdb he hpl, fun G0 H0 Z Γ σ G H Q d R hf k => ?_⟩⟩
  obtain ⟨ds, e1, hf⟩ := obind hf
  refine h2 G0 H0 Z Γ σ G H _ _ R e1 fun G1 H1 vs x1 r1 => ?_
  refine ⟨G1, ds, d, ?_, x1.gh, (R.ext x1).tbc, ?_, hf, fun G' H' v x2 r2 => k G' H' v (x1.trans x2) r2⟩
  · rw [List.append_nil, r1.length, ha.n Γ ds e1]
  · rw [List.append_nil]; exact r1
theorem e_call0 {k : Nat} {fa : Addr} {fd : FuncData} {ps : List Str} {F : List D → Option D} {x : Str} {p : Pos} (FO : FnOk X.prog X.w X.K X.mg X.base CX0 k fa fd ps (spD X.K X.mg 0 F)) (hr : Room k X.A) (hm : X.mg x = some (.ref fa)) (hk : PySem.W.keepIn X.K (.ref fa) = true) (hb : Binds X.K fd ps [])
    (hg : Gl X x := by rfl) (hdb : (x == ("__debug__" : Str)) = false := by decide) : E X (.Call (.Name x p) [] [] pos) (gCall F aN) := by
  refine ⟨⟨_, pe_call0 FO hr hg hm hk hb .nil pass0 hdb, fun G0 H0 Z Γ σ G H Q d R hf k => ?_⟩⟩
  obtain ⟨ds, e1, hf⟩ := obind hf
  cases e1
  exact ⟨G, [], d, rfl, R.gh, R.tbc, .nil, hf, fun G' H' v x2 r2 => k G' H' v x2 r2⟩
/-- o.m(..) of an object that does not change -/
def gMeth (c : Nat) (F : List D → Option D) (f : Ex) (fs : Ag) : Ex := fun Γ => (f Γ).bind fun d => match d with
  | .obj c' vs => if c' = c then (fs Γ).bind fun ds => F (.obj c' vs :: ds) else none
  | _ => none
theorem e_meth {pl : Sem Bool} {c k : Nat} {C fa : Addr} {fd : FuncData} {ps : List Str} {F : List D → Option D} {m : Str} {apos : Pos} (ck : CK X.K X.mg c C) (hme : Meth X.K C m fa) (FO : FnOk X.prog X.w X.K X.mg X.base CX0 k fa fd ps (spD X.K X.mg (n + 1) F)) (hr : Room k X.A) (hb : Binds X.K fd ps [])
    (ho : E X o f) (ha : AN X (a :: es) n fs) (hno : m ∉ cF c := by decide +kernel)
    (hst : starEach (a :: es) X.env = (false, eval a X.env) :: starEach es X.env := by rfl) (hpl : (backTo pos (starEach es X.env)).any (·.1) = false := by rfl)
    (ht : eval (.Call (.Attribute o m apos) (a :: es) [] pos) X.env = (do
      let ov ← eval o X.env
      standAt apos.atName
      let (f, first) ← holding [ov] (getMethod ov m pl)
      callWith pos f first (backTo pos (starEach (a :: es) X.env)) (backToKw pos (keywordEach [] X.env))) := by rfl) : E X (.Call (.Attribute o m apos) (a :: es) [] pos) (gMeth c F f fs) := by
  obtain ⟨t, h1, h2⟩ := ha.a.ex
  obtain ⟨u, q1, q2⟩ := ho.ex
  refine ⟨⟨_, pe_meth q1 ck.cl hme FO hr hb .nil pass0 h1 hst hpl ht, fun G0 H0 Z Γ σ G H Q d R hf k => ?_⟩⟩
  obtain ⟨y, e1, hv⟩ := obind hf
  cases y with
  | obj c' vs' =>
    replace hv : (if c' = c then (fs Γ).bind fun ds => F (.obj c' vs' :: ds) else none) = some d := hv
    split at hv
    · rename_i cz
      subst cz
      obtain ⟨ds, e2, hv⟩ := obind hv
      refine q2 G0 H0 Z Γ σ G H _ _ R e1 fun G1 H1 v x1 r1 => ?_
      cases r1 with
      | obj hm h r =>
        have hm' := hm
        rw [ck.hm] at hm'
        cases hm'
        refine ⟨_, _, _, rfl, x1.gh _ _ h, zip_lookup_none hno, ?_⟩
        refine h2 G0 H0 Z Γ σ G1 H1 _ _ (R.ext x1) e2 fun G2 H2 vs x2 r2 => ?_
        refine ⟨G2, _, d, ?_, x2.gh, ((R.ext x1).ext x2).tbc, .cons (.obj hm (x2.gg _ _ h) (r.mono x2.gg)) (by rw [List.append_nil]; exact r2), hv, fun G' H' v x3 r3 => k G' H' v ((x1.trans x2).trans x3) r3⟩
        rw [List.append_nil, List.length_cons, r2.length, ha.n Γ ds e2]
    · cases hv
  | _ => cases hv
theorem e_meth0 {pl : Sem Bool} {c k : Nat} {C fa : Addr} {fd : FuncData} {ps : List Str} {F : List D → Option D} {m : Str} {apos : Pos} (ck : CK X.K X.mg c C) (hme : Meth X.K C m fa) (FO : FnOk X.prog X.w X.K X.mg X.base CX0 k fa fd ps (spD X.K X.mg 1 F)) (hr : Room k X.A) (hb : Binds X.K fd ps [])
    (ho : E X o f) (hno : m ∉ cF c := by decide +kernel)
    (ht : eval (.Call (.Attribute o m apos) [] [] pos) X.env = (do
      let ov ← eval o X.env
      standAt apos.atName
      let (f, first) ← holding [ov] (getMethod ov m pl)
      callWith pos f first (backTo pos (starEach [] X.env)) (backToKw pos (keywordEach [] X.env))) := by rfl) : E X (.Call (.Attribute o m apos) [] [] pos) (gMeth c F f aN) := by
  obtain ⟨u, q1, q2⟩ := ho.ex
  refine ⟨⟨_, pe_meth0 q1 ck.cl hme FO hr hb .nil pass0 ht, fun G0 H0 Z Γ σ G H Q d R hf k => ?_⟩⟩
  obtain ⟨y, e1, hv⟩ := obind hf
  cases y with
  | obj c' vs' =>
    replace hv : (if c' = c then (aN Γ).bind fun ds => F (.obj c' vs' :: ds) else none) = some d := hv
    split at hv
    · rename_i cz
      subst cz
      obtain ⟨ds, e2, hv⟩ := obind hv
      cases e2
      refine q2 G0 H0 Z Γ σ G H _ _ R e1 fun G1 H1 v x1 r1 => ?_
      cases r1 with
      | obj hm h r =>
        have hm' := hm
        rw [ck.hm] at hm'
        cases hm'
        refine ⟨_, _, _, rfl, x1.gh _ _ h, zip_lookup_none hno, ?_⟩
        exact ⟨G1, _, d, rfl, x1.gh, (R.ext x1).tbc, .cons (.obj hm h r) .nil, hv, fun G' H' v x3 r3 => k G' H' v (x1.trans x3) r3⟩
    · cases hv
  | _ => cases hv
end
end DL

namespace DL
open PySem L2
variable [TC : TabCtx]

/-! ### targets -/
theorem wipe_set {σ : L2.St} {i : Nat} {x : Option V} : ∀ (vs : List Nat), L2.wipe (σ.set i x) vs = if i ∈ vs then L2.wipe σ vs else (L2.wipe σ vs).set i x
  | [] => by simp [L2.wipe]
  | v :: vs => by
    simp only [L2.wipe]
    rw [wipe_set vs]
    by_cases h1 : i ∈ vs
    · rw [if_pos h1, if_pos (List.mem_cons_of_mem _ h1)]
    · rw [if_neg h1]
      by_cases h2 : i = v
      · subst h2
        rw [if_pos List.mem_cons_self, List.set_set]
      · rw [if_neg (by simp [h1, h2]), List.set_comm _ _ h2]
theorem wipe_in {σ : L2.St} {i : Nat} {x : Option V} {vs : List Nat} (h : i ∈ vs) : L2.wipe (σ.set i x) vs = L2.wipe σ vs := by rw [wipe_set, if_pos h]
theorem wipe_sub {σ : L2.St} {vs : List Nat} : ∀ us : List Nat, (∀ i ∈ us, i ∈ vs) → L2.wipe (L2.wipe σ us) vs = L2.wipe σ vs
  | [], _ => rfl
  | u :: us, h => by
    show L2.wipe ((L2.wipe σ us).set u none) vs = _
    rw [wipe_in (h u List.mem_cons_self)]
    exact wipe_sub us fun i hi => h i (List.mem_cons_of_mem _ hi)
abbrev Gs := D → DEnv → Option DEnv
abbrev Gss := List D → DEnv → Option DEnv
structure G (X : Cx) (tg : Expr) (ix : List Nat) (g : Gs) : Prop where
  ex : ∃ t, PG X tg t ∧ ∀ G0 H0 Z Γ σ G H Q d v Γ', Rel X.K X.mg G0 H0 Z Γ σ G H → Rep X.K X.mg G v d → g d Γ = some Γ' → (∀ σ', Rel X.K X.mg G0 H0 Z Γ' σ' G H → (∀ vs, (∀ i ∈ ix, i ∈ vs) → L2.wipe σ' vs = L2.wipe σ vs) → Q σ' H) → t v σ H Q
structure GL (X : Cx) (tgs : List Expr) (ix : List Nat) (g : Gss) : Prop where
  ex : ∃ t, PGs X tgs t ∧ ∀ G0 H0 Z Γ σ G H Q ds vs Γ', Rel X.K X.mg G0 H0 Z Γ σ G H → RepL X.K X.mg G vs ds → g ds Γ = some Γ' → (∀ σ', Rel X.K X.mg G0 H0 Z Γ' σ' G H → (∀ us, (∀ i ∈ ix, i ∈ us) → L2.wipe σ' us = L2.wipe σ us) → Q σ' H) → t vs σ H Q
def gN (i : Nat) : Gs := fun d Γ => some (Γ.set i (.sh d))
def gEnd : Gss := fun ds Γ => match ds with | [] => some Γ | _ => none
def gTo (g : Gs) (r : Gss) : Gss := fun ds Γ => match ds with | [] => none | d :: ds => (g d Γ).bind fun Γ1 => r ds Γ1
def gTg (n : Nat) (r : Gss) : Gs := fun d Γ => match d with | .tup ds => if ds.length = n then r ds Γ else none | _ => none
section
variable {X : Cx} {e a b o tg : Expr} {es : List Expr} {f : Ex} {fs : Ag} {pos pos' : Pos} {n : Nat} {ix jx : List Nat} {g : Gs} {gs : Gss}
theorem g_name (i : Nat) {x : Str} (hN : X.N.Nodup) (hi : X.N[i]? = some x := by rfl) (hx : Loc X.env.scope x := by first | exact Or.inl rfl | exact Or.inr rfl) (hf : X.fn x = true ∨ X.env.scope.names.lookup x = some .local := by first | exact .inl rfl | exact .inr rfl | assumption) : G X (.Name x pos) [i] (gN i) := by
  refine ⟨⟨_, pg_name hN hi hx hf, fun G0 H0 Z Γ σ G H Q d v Γ' R r hf k => ?_⟩⟩
  cases hf
  exact k _ (R.set i r) fun vs h => wipe_in (h i List.mem_cons_self)
theorem gl_nil : GL X [] [] gEnd := by
  refine ⟨⟨_, pgs_nil, fun G0 H0 Z Γ σ G H Q ds vs Γ' R r hf k => ?_⟩⟩
  cases r with
  | nil => cases hf; exact ⟨rfl, k σ R fun _ _ => rfl⟩
  | cons _ _ => cases hf
theorem gl_cons (h : G X e ix g) (hr : GL X es jx gs) (hs : (assignEach (e :: es) X.env).map (·.2) = assign e X.env :: (assignEach es X.env).map (·.2) := by rfl) : GL X (e :: es) (ix ++ jx) (gTo g gs) := by
  obtain ⟨t, h1, h2⟩ := h.ex
  obtain ⟨u, q1, q2⟩ := hr.ex
  refine ⟨⟨_, pgs_cons h1 q1 hs, fun G0 H0 Z Γ σ G H Q ds vs Γ' R r hf k => ?_⟩⟩
  cases r with
  | nil => cases hf
  | cons r1 r2 =>
    obtain ⟨Γ1, e1, hf⟩ := obind hf
    refine ⟨_, _, rfl, ?_⟩
    refine h2 G0 H0 Z Γ σ G H _ _ _ Γ1 R r1 e1 fun σ1 R1 w1 => ?_
    exact q2 G0 H0 Z Γ1 σ1 G H _ _ _ Γ' R1 r2 hf fun σ2 R2 w2 => k σ2 R2 fun us hu => (w2 us fun i hi => hu i (List.mem_append_right _ hi)).trans (w1 us fun i hi => hu i (List.mem_append_left _ hi))
theorem g_tup {k : Nat} (hc : X.calm = true) (h : GL X es ix gs) (hn : (assignEach es X.env).length = n := by rfl) (hst : (assignEach es X.env).findIdx? (·.1) = none := by rfl) : G X (.Tuple es k pos) ix (gTg n gs) := by
  obtain ⟨t, h1, h2⟩ := h.ex
  refine ⟨⟨_, pg_tup hc h1 hn hst, fun G0 H0 Z Γ σ G H Q d v Γ' R r hf k => ?_⟩⟩
  cases d with
  | tup ds =>
    replace hf : (if ds.length = n then gs ds Γ else none) = some Γ' := hf
    split at hf
    · rename_i hl
      cases r with
      | tup h r => exact ⟨_, _, rfl, SqT.of (R.gh _ _ h), by rw [r.length, hl], h2 G0 H0 Z Γ σ G H Q ds _ Γ' R r hf k⟩
    · cases hf
  | _ => cases hf
end

/-! ### what is walked -/
def Itm (K : PySem.W.Frag) (mg : Str → Option Value) (J : It) (G : Hp) (items : List D) : Prop :=
  ∀ i G1 H1, Same G G1 → Same G1 H1 → (items.length ≤ i → J.stop i H1) ∧ ∀ d, items[i]? = some d → J.go i H1 ∧ ∀ x H2, J.yld i H1 x H2 → ∃ G2, Ext G1 H1 G2 H2 ∧ Rep K mg G2 x d
structure I (X : Cx) (tg iter : Expr) (f : Ag) : Prop where
  ex : ∃ t, PI X tg iter t ∧ ∀ G0 H0 Z Γ σ G H R ds, Rel X.K X.mg G0 H0 Z Γ σ G H → f Γ = some ds → (∀ G' H' J, Ext G H G' H' → Itm X.K X.mg J G' ds → R J H') → t σ H R
def dItems : D → Option (List D)
  | .lst xs => some xs
  | .scr ns => some (ns.map D.int)
  | _ => none
section
variable {X : Cx} {e a b o tg iter : Expr} {es : List Expr} {f f' : Ex} {fs : Ag} {pos pos' : Pos} {n : Nat} {ix jx : List Nat} {g : Gs} {gs : Gss}
theorem itm_list {K mg} {G : Hp} {p : Addr} {vs : List V} {ds : List D} (h : SqL K G p vs) (r : RepL K mg G vs ds) (inj : ∀ {H1 : Hp} {xs : List V}, Same G H1 → SqL K H1 p xs → True) : Itm K mg (Itl K p) G ds := by
  intro i G1 H1 s1 s2
  have h1 : SqL K H1 p vs := (s1.trans s2).seq h
  refine ⟨fun hi => ⟨vs, h1, by rw [r.length]; exact hi⟩, fun d hd => ?_⟩
  obtain ⟨v, e1, e2⟩ := r.get i hd
  refine ⟨⟨vs, v, h1, e1⟩, fun x H2 y => ?_⟩
  obtain ⟨rfl, y⟩ := y
  have e3 := y vs h1
  rw [e1] at e3
  cases e3
  exact ⟨G1, Ext.refl s2, e2.mono s1⟩
theorem pi_or {w w' : TI} (h : PI X tg iter w) (h' : PI X tg iter w') : PI X tg iter (fun σ H R => w σ H R ∨ w' σ H R) := by
  refine ⟨fun pins s σ H R I q => ?_⟩
  rcases q with q | q
  · exact h.run pins s σ H R I q
  · exact h'.run pins s σ H R I q
theorem itm_tup {K mg} {G : Hp} {p : Addr} {vs : List V} {ds : List D} (h : G p = some (.tup vs)) (r : RepL K mg G vs ds) : Itm K mg (Itt K p) G ds := by
  intro i G2 H2 s1 s2
  have h1 := SqT.of (K := K) (s2 _ _ (s1 _ _ h))
  refine ⟨fun hi => ⟨_, h1, by rw [r.length]; exact hi⟩, fun d hd => ?_⟩
  obtain ⟨v, e1, e2⟩ := r.get i hd
  refine ⟨⟨_, v, h1, e1⟩, fun x H2 y => ?_⟩
  obtain ⟨rfl, y⟩ := y
  have e3 := y _ h1
  rw [e1] at e3
  cases e3
  exact ⟨G2, Ext.refl s2, e2.mono s1⟩
def dWalk : D → Option (List D)
  | .lst xs => some xs
  | .tup xs => some xs
  | .scr ns => some (ns.map D.int)
  | _ => none
def gIt (f : Ex) : Ag := fun Γ => (f Γ).bind dWalk
theorem i_list (h : E X iter f) : I X tg iter (gIt f) := by
  obtain ⟨t, h1, h2⟩ := h.ex
  refine ⟨⟨_, pi_or (pi_list h1) (pi_tup h1), fun G0 H0 Z Γ σ G H R ds Rl hf k => ?_⟩⟩
  obtain ⟨d, e1, hf⟩ := obind hf
  cases d with
  | lst xs =>
    cases hf
    refine .inl (h2 G0 H0 Z Γ σ G H _ _ Rl e1 fun G1 H1 v x1 r1 => ?_)
    cases r1 with
    | lst h r => exact ⟨_, rfl, ⟨_, SqL.of (x1.gh _ _ h)⟩, k G1 H1 _ x1 (itm_list (SqL.of h) r fun _ _ => True.intro)⟩
  | scr ns =>
    cases hf
    refine .inl (h2 G0 H0 Z Γ σ G H _ _ Rl e1 fun G1 H1 v x1 r1 => ?_)
    cases r1 with
    | scr h => exact ⟨_, rfl, ⟨_, x1.gh.seq h⟩, k G1 H1 _ x1 (itm_list h .ofInts fun _ _ => True.intro)⟩
  | tup xs =>
    cases hf
    refine .inr (h2 G0 H0 Z Γ σ G H _ _ Rl e1 fun G1 H1 v x1 r1 => ?_)
    cases r1 with
    | tup h r => exact ⟨_, rfl, ⟨_, SqT.of (x1.gh _ _ h)⟩, k G1 H1 _ x1 (itm_tup h r)⟩
  | _ => cases hf
/-! ranges -/
def rngD (lo : Int) (n : Nat) : List D := (List.range n).map fun i => .int (lo + (i : Nat))
theorem itm_range {K mg} {G : Hp} {lo : Int} {n : Nat} : Itm K mg (Itr lo n) G (rngD lo n) := by
  intro i G1 H1 s1 s2
  refine ⟨fun hi => by show n ≤ i; simpa [rngD] using hi, fun d hd => ?_⟩
  have hi : i < n := by
    have := (List.getElem?_eq_some_iff.mp hd).1
    simpa [rngD] using this
  refine ⟨hi, fun x H2 y => ?_⟩
  obtain ⟨rfl, rfl⟩ := y
  have e : d = .int (lo + (i : Nat)) := by
    simp [rngD, hi] at hd
    exact hd.symm
  subst e
  exact ⟨G1, Ext.refl s2, .int _⟩
def dRng : List D → Option (List D)
  | [.int j] => if -(2 ^ 62) ≤ j ∧ j < 2 ^ 62 then some (rngD 0 j.toNat) else none
  | [.int i, .int j] => if -(2 ^ 62) ≤ i ∧ i < 2 ^ 62 ∧ -(2 ^ 62) ≤ j ∧ j < 2 ^ 62 then some (rngD i (j - i).toNat) else none
  | _ => none
def gRng (fs : Ag) : Ag := fun Γ => (fs Γ).bind dRng
theorem i_rng1 {p : Pos} (hg : Gl X "range") (hm : X.mg "range" = none) (ha : AN X [a] 1 fs) (hs : starEach [a] X.env = [(false, eval a X.env)] := by rfl) : I X tg (.Call (.Name "range" p) [a] [] pos) (gRng fs) := by
  obtain ⟨t, h1, h2⟩ := ha.a.ex
  refine ⟨⟨_, pi_range1 hg hm h1 hs, fun G0 H0 Z Γ σ G H R ds Rl hf k => ?_⟩⟩
  obtain ⟨xs, e1, hf⟩ := obind hf
  have hl := ha.n Γ xs e1
  refine h2 G0 H0 Z Γ σ G H _ _ Rl e1 fun G1 H1 vs x1 r1 => ?_
  match xs, hl, hf, r1 with
  | [.int j], _, hf, .cons r .nil =>
    replace hf : (if -(2 ^ 62) ≤ j ∧ j < 2 ^ 62 then some (rngD 0 j.toNat) else none) = some ds := hf
    split at hf
    · rename_i z
      cases hf
      rw [r.intv]
      exact ⟨j, rfl, z.1, z.2, k G1 H1 _ x1 itm_range⟩
    · cases hf
theorem i_rng2 {p : Pos} (hg : Gl X "range") (hm : X.mg "range" = none) (ha : AN X [a, b] 2 fs) (hs : starEach [a, b] X.env = [(false, eval a X.env), (false, eval b X.env)] := by rfl) (hs2 : starEach [b] X.env = [(false, eval b X.env)] := by rfl) : I X tg (.Call (.Name "range" p) [a, b] [] pos) (gRng fs) := by
  obtain ⟨t, h1, h2⟩ := ha.a.ex
  refine ⟨⟨_, pi_range2 hg hm h1 hs hs2, fun G0 H0 Z Γ σ G H R ds Rl hf k => ?_⟩⟩
  obtain ⟨xs, e1, hf⟩ := obind hf
  have hl := ha.n Γ xs e1
  refine h2 G0 H0 Z Γ σ G H _ _ Rl e1 fun G1 H1 vs x1 r1 => ?_
  match xs, hl, hf, r1 with
  | [.int i, .int j], _, hf, .cons r (.cons q .nil) =>
    replace hf : (if -(2 ^ 62) ≤ i ∧ i < 2 ^ 62 ∧ -(2 ^ 62) ≤ j ∧ j < 2 ^ 62 then some (rngD i (j - i).toNat) else none) = some ds := hf
    split at hf
    · rename_i z
      cases hf
      rw [r.intv, q.intv]
      exact ⟨i, j, rfl, z, k G1 H1 _ x1 itm_range⟩
    · cases hf
/-! reversed(range(..)) -/
def rngR (lo : Int) (n : Nat) : List D := (List.range n).map fun i => .int (lo + (n : Int) - 1 + (i : Nat) * (-1))
def dRngR : List D → Option (List D)
  | [.int j] => if -(2 ^ 62) ≤ j ∧ j < 2 ^ 62 then some (rngR 0 j.toNat) else none
  | [.int i, .int j] => if -(2 ^ 62) ≤ i ∧ i < 2 ^ 62 ∧ -(2 ^ 62) ≤ j ∧ j < 2 ^ 62 then some (rngR i (j - i).toNat) else none
  | _ => none
theorem itm_rangeR {K mg} {G : Hp} {lo : Int} {n : Nat} : Itm K mg (Itc (lo + (n : Int) - 1) (-1) n) G (rngR lo n) := by
  intro i G1 H1 s1 s2
  refine ⟨fun hi => by show n ≤ i; simpa [rngR] using hi, fun d hd => ?_⟩
  have hi : i < n := by
    have := (List.getElem?_eq_some_iff.mp hd).1
    simpa [rngR] using this
  refine ⟨hi, fun x H2 y => ?_⟩
  obtain ⟨rfl, rfl⟩ := y
  have e : d = .int (lo + (n : Int) - 1 + (i : Nat) * (-1)) := by
    simp [rngR, hi] at hd
    rw [← hd]
    congr 1
    omega
  subst e
  exact ⟨G1, Ext.refl s2, .int _⟩
/-! zip, enumerate -/
def zipD : List D → List D → List D
  | x :: xs, y :: ys => .tup [x, y] :: zipD xs ys
  | _, _ => []
theorem zipD_get : ∀ {xs ys : List D} {i : Nat} {d : D}, (zipD xs ys)[i]? = some d → ∃ x y, xs[i]? = some x ∧ ys[i]? = some y ∧ d = .tup [x, y]
  | [], _, _, _, h => by simp [zipD] at h
  | _ :: _, [], _, _, h => by simp [zipD] at h
  | x :: xs, y :: ys, 0, d, h => by simp [zipD] at h; exact ⟨x, y, rfl, rfl, h.symm⟩
  | x :: xs, y :: ys, i + 1, d, h => by
    obtain ⟨x', y', h1, h2, h3⟩ := zipD_get (xs := xs) (ys := ys) (i := i) (d := d) (by simpa [zipD] using h)
    exact ⟨x', y', by simpa using h1, by simpa using h2, h3⟩
theorem zipD_len : ∀ {xs ys : List D}, (zipD xs ys).length = min xs.length ys.length
  | [], _ => by simp [zipD]
  | _ :: _, [] => by simp [zipD]
  | x :: xs, y :: ys => by simp [zipD, zipD_len (xs := xs) (ys := ys)]
def dZip : List D → Option (List D)
  | [x, y] => (dItems x).bind fun xs => (dItems y).bind fun ys => some (zipD xs ys)
  | _ => none
def gZip (fs : Ag) : Ag := fun Γ => (fs Γ).bind dZip
theorem Rep.items {K mg} {G : Hp} {v : V} {d : D} {xs : List D} (r : Rep K mg G v d) (h : dItems d = some xs) : ∃ p vs, v = .ref p ∧ SqL K G p vs ∧ RepL K mg G vs xs := by
  cases d with
  | lst ys => cases h; cases r with | lst h r => exact ⟨_, _, rfl, SqL.of h, r⟩
  | scr ns => cases h; cases r with | scr h => exact ⟨_, _, rfl, h, .ofInts⟩
  | _ => cases h
theorem i_zip {p tpos : Pos} {elts : List Expr} {kk : Nat} (hg : Gl X "zip") (hm : X.mg "zip" = none) (ha : AN X [a, b] 2 fs) (hs : starEach [a, b] X.env = (false, eval a X.env) :: starEach [b] X.env := by rfl) (hpl : (backTo pos (starEach [b] X.env)).any (·.1) = false := by rfl) :
    I X (.Tuple elts kk tpos) (.Call (.Name "zip" p) [a, b] [] pos) (gZip fs) := by
  obtain ⟨t, h1, h2⟩ := ha.a.ex
  refine ⟨⟨_, pi_zip hg hm h1 hs hpl, fun G0 H0 Z Γ σ G H R ds Rl hf k => ?_⟩⟩
  obtain ⟨xs, e1, hf⟩ := obind hf
  have hl := ha.n Γ xs e1
  refine h2 G0 H0 Z Γ σ G H _ _ Rl e1 fun G1 H1 vs x1 r1 => ?_
  match xs, hl, hf, r1 with
  | [x, y], _, hf, .cons r (.cons q .nil) =>
    replace hf : ((dItems x).bind fun xs => (dItems y).bind fun ys => some (zipD xs ys)) = some ds := hf
    obtain ⟨as, a1, hf⟩ := obind hf
    obtain ⟨bs, a2, hf⟩ := obind hf
    cases hf
    obtain ⟨p1, v1, rfl, s1, r1⟩ := r.items a1
    obtain ⟨p2, v2, rfl, s2, r2⟩ := q.items a2
    refine ⟨p1, p2, v1, v2, rfl, x1.gh.seq s1, x1.gh.seq s2, k G1 H1 _ x1 fun i G2 H2 t1 t2 => ?_⟩
    have q1 : SqL X.K H2 p1 v1 := (t1.trans t2).seq s1
    have q2 : SqL X.K H2 p2 v2 := (t1.trans t2).seq s2
    refine ⟨fun hi => ⟨v1, v2, q1, q2, ?_⟩, fun d hd => ?_⟩
    · rw [zipD_len] at hi
      rw [r1.length, r2.length]
      omega
    · obtain ⟨x, y, g1, g2, rfl⟩ := zipD_get hd
      obtain ⟨w1, b1, c1⟩ := r1.get i g1
      obtain ⟨w2, b2, c2⟩ := r2.get i g2
      refine ⟨⟨v1, v2, w1, w2, q1, q2, b1, b2⟩, fun u H3 yl => ?_⟩
      obtain ⟨T, z1, z2, rfl, hT, rfl, f1, f2⟩ := yl
      have z3 := f1 v1 q1
      have z4 := f2 v2 q2
      rw [b1] at z3
      rw [b2] at z4
      cases z3
      cases z4
      have x2 := Ext.new1 (o := .tup [w1, w2]) t2 hT
      exact ⟨_, x2, .tup upd_same (.cons ((c1.mono t1).mono x2.gg) (.cons ((c2.mono t1).mono x2.gg) .nil))⟩
def enumD : Nat → List D → List D
  | _, [] => []
  | i, x :: xs => .tup [.int (i : Nat), x] :: enumD (i + 1) xs
theorem enumD_get : ∀ {xs : List D} {k i : Nat} {d : D}, (enumD k xs)[i]? = some d → ∃ x, xs[i]? = some x ∧ d = .tup [.int ((k + i : Nat) : Int), x]
  | [], _, _, _, h => by simp [enumD] at h
  | x :: xs, k, 0, d, h => by simp [enumD] at h; exact ⟨x, rfl, by rw [← h]; simp⟩
  | x :: xs, k, i + 1, d, h => by
    obtain ⟨x', h1, h2⟩ := enumD_get (xs := xs) (k := k + 1) (i := i) (d := d) (by simpa [enumD] using h)
    exact ⟨x', by simpa using h1, by rw [h2]; congr 3; omega⟩
theorem enumD_len : ∀ {xs : List D} {k : Nat}, (enumD k xs).length = xs.length
  | [], _ => rfl
  | x :: xs, k => by simp [enumD, enumD_len (xs := xs) (k := k + 1)]
def dEnum : List D → Option (List D)
  | [x] => (dItems x).bind fun xs => some (enumD 0 xs)
  | _ => none
def gEnum (fs : Ag) : Ag := fun Γ => (fs Γ).bind dEnum
theorem i_enum {p tpos : Pos} {elts : List Expr} {kk : Nat} (hg : Gl X "enumerate") (hm : X.mg "enumerate" = none) (ha : AN X [a] 1 fs) (hs : starEach [a] X.env = [(false, eval a X.env)] := by rfl) :
    I X (.Tuple elts kk tpos) (.Call (.Name "enumerate" p) [a] [] pos) (gEnum fs) := by
  obtain ⟨t, h1, h2⟩ := ha.a.ex
  refine ⟨⟨_, pi_enum hg hm h1 hs, fun G0 H0 Z Γ σ G H R ds Rl hf k => ?_⟩⟩
  obtain ⟨xs, e1, hf⟩ := obind hf
  have hl := ha.n Γ xs e1
  refine h2 G0 H0 Z Γ σ G H _ _ Rl e1 fun G1 H1 vs x1 r1 => ?_
  match xs, hl, hf, r1 with
  | [x], _, hf, .cons r .nil =>
    replace hf : ((dItems x).bind fun xs => some (enumD 0 xs)) = some ds := hf
    obtain ⟨as, a1, hf⟩ := obind hf
    cases hf
    obtain ⟨p1, v1, rfl, s1, r1⟩ := r.items a1
    refine ⟨p1, v1, rfl, x1.gh.seq s1, k G1 H1 _ x1 fun i G2 H2 t1 t2 => ?_⟩
    have q1 : SqL X.K H2 p1 v1 := (t1.trans t2).seq s1
    refine ⟨fun hi => ⟨v1, q1, ?_⟩, fun d hd => ?_⟩
    · rw [enumD_len] at hi
      rw [r1.length]
      omega
    · obtain ⟨x, g1, rfl⟩ := enumD_get hd
      obtain ⟨w1, b1, c1⟩ := r1.get i g1
      refine ⟨⟨v1, w1, q1, b1⟩, fun u H3 yl => ?_⟩
      obtain ⟨T, z1, rfl, hT, rfl, f1⟩ := yl
      have z3 := f1 v1 q1
      rw [b1] at z3
      cases z3
      have x2 := Ext.new1 (o := .tup [.int (i : Nat), w1]) t2 hT
      refine ⟨_, x2, .tup upd_same (.cons ?_ (.cons ((c1.mono t1).mono x2.gg) .nil))⟩
      rw [Nat.zero_add]
      exact .int _
theorem i_rev1 {p p2 pos2 : Pos} (hg : Gl X "reversed") (hm : X.mg "reversed" = none) (hg2 : Gl X "range") (hm2 : X.mg "range" = none) (ha : E X a f) (na : starEach [a] X.env = (false, eval a X.env) :: starEach [] X.env := by rfl)
    (hs : starEach [.Call (.Name "range" p2) [a] [] pos2] X.env = (false, eval (.Call (.Name "range" p2) [a] [] pos2) X.env) :: starEach [] X.env := by rfl) : I X tg (.Call (.Name "reversed" p) [.Call (.Name "range" p2) [a] [] pos2] [] pos) (fun Γ => (aC f aN Γ).bind dRngR) := by
  obtain ⟨t, h1, h2⟩ := ha.ex
  refine ⟨⟨_, pi_revR hg hm (prg_1 hg2 hm2 h1 na) hs, fun G0 H0 Z Γ σ G H R ds Rl hf k => ?_⟩⟩
  obtain ⟨xs, e1, hf⟩ := obind hf
  obtain ⟨d, e2, e1⟩ := obind e1
  cases e1
  refine h2 G0 H0 Z Γ σ G H _ _ Rl e2 fun G1 H1 v x1 r1 => ?_
  cases d with
  | int j =>
    replace hf : (if -(2 ^ 62) ≤ j ∧ j < 2 ^ 62 then some (rngR 0 j.toNat) else none) = some ds := hf
    split at hf
    · rename_i z
      cases hf
      rw [r1.intv]
      refine ⟨j, rfl, by decide, by decide, z.1, z.2, ?_⟩
      have e : (j - 0).toNat = j.toNat := by congr 1; omega
      rw [e]
      exact k G1 H1 _ x1 itm_rangeR
    · cases hf
  | _ => cases hf

/-! ### comprehensions -/
def tEx (K : PySem.W.Frag) (mg : Str → Option Value) (f : Ex) : TE := fun σ H Q => ∃ G0 H0 Z Γ G d, Rel K mg G0 H0 Z Γ σ G H ∧ f Γ = some d ∧ ∀ G' H' v, Ext G H G' H' → Rep K mg G' v d → Q v H'
def tGx (K : PySem.W.Frag) (mg : Str → Option Value) (ix : List Nat) (g : Gs) : TG := fun v σ H Q => ∃ G0 H0 Z Γ G d Γ', Rel K mg G0 H0 Z Γ σ G H ∧ Rep K mg G v d ∧ g d Γ = some Γ' ∧ ∀ σ', Rel K mg G0 H0 Z Γ' σ' G H → (∀ vs, (∀ i ∈ ix, i ∈ vs) → L2.wipe σ' vs = L2.wipe σ vs) → Q σ' H
def tTx (K : PySem.W.Frag) (mg : Str → Option Value) (f : Te) : TT := fun σ H Q => ∃ G0 H0 Z Γ G d, Rel K mg G0 H0 Z Γ σ G H ∧ f Γ = some d ∧ ∀ G' H', Ext G H G' H' → Q d H'
theorem E.pe (h : E X e f) : PE X e (tEx X.K X.mg f) := by
  obtain ⟨t, h1, h2⟩ := h.ex
  exact ⟨fun pins s σ H Q I ⟨G0, H0, Z, Γ, G, d, R, hf, k⟩ => h1.run pins s σ H Q I (h2 G0 H0 Z Γ σ G H Q d R hf k)⟩
theorem G.pg (h : G X tg ix g) : PG X tg (tGx X.K X.mg ix g) := by
  obtain ⟨t, h1, h2⟩ := h.ex
  exact ⟨fun pins s σ H v u Q I ru ⟨G0, H0, Z, Γ, G, d, Γ', R, r, hf, k⟩ => h1.run pins s σ H v u Q I ru (h2 G0 H0 Z Γ σ G H Q d v Γ' R r hf k)⟩
/-- a comprehension's tests: none or one -/
structure Ts (X : Cx) (ifs : List Expr) (f : Te) : Prop where
  pt : PTs X ifs (tTx X.K X.mg f)
def gYes : Te := fun _ => some true
theorem ts_nil : Ts X [] gYes := ⟨⟨fun pins s σ H Q I ⟨G0, H0, Z, Γ, G, d, R, hf, k⟩ => by
  cases hf
  exact pts_nil.run pins s σ H Q I (k G H (Ext.refl R.gh))⟩⟩
theorem ts_one {p : Te} (h : T X e p) : Ts X [e] p := by
  obtain ⟨t, h1, h2⟩ := h.ex
  exact ⟨⟨fun pins s σ H Q I ⟨G0, H0, Z, Γ, G, d, R, hf, k⟩ => (pts_one h1).run pins s σ H Q I (h2 G0 H0 Z Γ σ G H Q d R hf k)⟩⟩
def compL (g : Gs) (t : Te) (e : Ex) : List D → DEnv → Option (List D)
  | [], _ => some []
  | d :: ds, Γ => (g d Γ).bind fun Γ1 => (t Γ1).bind fun b => if b then (e Γ1).bind fun y => (compL g t e ds Γ).bind fun r => some (y :: r) else compL g t e ds Γ
/-! walks: I over what is known; IB, IC over what is looked at (IB: that stands since the entry) -/
def ItmB (K : PySem.W.Frag) (mg : Str → Option Value) (J : It) (G Hb : Hp) (items : List D) : Prop :=
  ∀ i G1 H1, Same G G1 → Same G1 H1 → SameN Hb H1 → (items.length ≤ i → J.stop i H1) ∧ ∀ d, items[i]? = some d → J.go i H1 ∧ ∀ x H2, J.yld i H1 x H2 → ∃ G2, Ext G1 H1 G2 H2 ∧ Rep K mg G2 x d
structure IB (X : Cx) (tg iter : Expr) (f : Ag) : Prop where
  ex : ∃ t, PI X tg iter t ∧ ∀ G0 H0 Z Γ σ G H R ds, Rel X.K X.mg G0 H0 Z Γ σ G H → f Γ = some ds → (∀ G' H' J, Ext G H G' H' → ItmB X.K X.mg J G' H0 ds → R J H') → t σ H R
structure IC (X : Cx) (tg iter : Expr) (f : Ag) : Prop where
  ex : ∃ t, PI X tg iter t ∧ ∀ G0 H0 Z Γ σ G H R ds, Rel X.K X.mg G0 H0 Z Γ σ G H → f Γ = some ds → (∀ G' H' J, Ext G H G' H' → ItmB X.K X.mg J G' H' ds → R J H') → t σ H R
theorem I.fb {it : Ag} (h : I X tg iter it) : IB X tg iter it := by
  obtain ⟨t, h1, h2⟩ := h.ex
  exact ⟨⟨t, h1, fun G0 H0 Z Γ σ G H R ds Rl hf k => h2 G0 H0 Z Γ σ G H R ds Rl hf fun G' H' J x hJ => k G' H' J x fun i G1 H1 s1 s2 _ => hJ i G1 H1 s1 s2⟩⟩
theorem IB.c {it : Ag} (h : IB X tg iter it) : IC X tg iter it := by
  obtain ⟨t, h1, h2⟩ := h.ex
  exact ⟨⟨t, h1, fun G0 H0 Z Γ σ G H R ds Rl hf k => h2 G0 H0 Z Γ σ G H R ds Rl hf fun G' H' J x hJ => k G' H' J x fun i G1 H1 s1 s2 s3 => hJ i G1 H1 s1 s2 ((Rl.hh.trans x.hh).trans s3)⟩⟩
theorem I.c {it : Ag} (h : I X tg iter it) : IC X tg iter it := h.fb.c
theorem itmB_lst {K mg} {G H Hb : Hp} {v : V} {xs : List D} (gh : Same G H) (bh : SameN Hb H) (r : RepB K mg G Hb v (.lst xs)) : ∃ p vs, v = .ref p ∧ SqL K H p vs ∧ ItmB K mg (Itl K p) G Hb xs := by
  cases r with
  | sh r => cases r with
    | lst h r => exact ⟨_, _, rfl, SqL.of (gh _ _ h), fun i G1 H1 s1 s2 _ => itm_list (SqL.of h) r (fun _ _ => True.intro) i G1 H1 s1 s2⟩
  | li h r =>
    refine ⟨_, _, rfl, SqL.of (bh _ _ h nofun), fun i G1 H1 s1 s2 s3 => ?_⟩
    have h1 : SqL K H1 _ _ := SqL.of (s3 _ _ h nofun)
    refine ⟨fun hi => ⟨_, h1, by rw [r.length]; exact hi⟩, fun d hd => ?_⟩
    obtain ⟨v, e1, e2⟩ := r.get i hd
    refine ⟨⟨_, v, h1, e1⟩, fun x H2 y => ?_⟩
    obtain ⟨rfl, y⟩ := y
    have e3 := y _ h1
    rw [e1] at e3
    cases e3
    exact ⟨G1, Ext.refl s2, e2.mono s1⟩
theorem itmB_scr {K mg} {G H Hb : Hp} {v : V} {ns : List Int} (gh : Same G H) (r : RepB K mg G Hb v (.scr ns)) : ∃ p vs, v = .ref p ∧ SqL K H p vs ∧ ItmB K mg (Itl K p) G Hb (ns.map D.int) := by
  cases r with
  | sh r => cases r with
    | scr h => exact ⟨_, _, rfl, gh.seq h, fun i G1 H1 s1 s2 _ => itm_list h .ofInts (fun _ _ => True.intro) i G1 H1 s1 s2⟩
theorem itmB_tup {K mg} {G H Hb : Hp} {v : V} {xs : List D} (gh : Same G H) (r : RepB K mg G Hb v (.tup xs)) : ∃ p vs, v = .ref p ∧ SqT K H p vs ∧ ItmB K mg (Itt K p) G Hb xs := by
  cases r with
  | sh r => cases r with
    | tup h r => exact ⟨_, _, rfl, SqT.of (gh _ _ h), fun i G1 H1 s1 s2 _ => itm_tup h r i G1 H1 s1 s2⟩
/-- a walk of a comprehension over what is looked at -/
theorem ic_b (h : B X iter f) : IC X tg iter (gIt f) := by
  obtain ⟨t, h1, h2⟩ := h.ex
  refine ⟨⟨_, pi_or (pi_list h1) (pi_tup h1), fun G0 H0 Z Γ σ G H R ds Rl hf k => ?_⟩⟩
  obtain ⟨d, e1, hf⟩ := obind hf
  cases d with
  | lst xs =>
    cases hf
    refine .inl (h2 G0 H0 Z Γ σ G H _ _ Rl e1 fun G1 H1 v x1 r1 => ?_)
    obtain ⟨p, vs, rfl, hs, it⟩ := itmB_lst x1.gh (same_n (Same.refl _)) r1
    exact ⟨_, rfl, ⟨_, hs⟩, k G1 H1 _ x1 it⟩
  | scr ns =>
    cases hf
    refine .inl (h2 G0 H0 Z Γ σ G H _ _ Rl e1 fun G1 H1 v x1 r1 => ?_)
    obtain ⟨p, vs, rfl, hs, it⟩ := itmB_scr x1.gh r1
    exact ⟨_, rfl, ⟨_, hs⟩, k G1 H1 _ x1 it⟩
  | tup xs =>
    cases hf
    refine .inr (h2 G0 H0 Z Γ σ G H _ _ Rl e1 fun G1 H1 v x1 r1 => ?_)
    obtain ⟨p, vs, rfl, hs, it⟩ := itmB_tup x1.gh r1
    exact ⟨_, rfl, ⟨_, hs⟩, k G1 H1 _ x1 it⟩
  | _ => cases hf
/-- what has been there since the entry -/
structure B0 (X : Cx) (e : Expr) (f : Ex) : Prop where
  ex : ∃ t, PE X e t ∧ ∀ G0 H0 Z Γ σ G H Q d, Rel X.K X.mg G0 H0 Z Γ σ G H → f Γ = some d → (∀ G' H' v, Ext G H G' H' → RepB X.K X.mg G' H0 v d → Q v H') → t σ H Q
def gB0 (i : Nat) : Ex := fun Γ => match Γ[i]? with | some (.bo d) => some d | some (.sh d) => some d | _ => none
theorem b0_var (i : Nat) {x : Str} (hN : X.N[i]? = some x := by rfl) (hv : Vis X.env.scope x := by first | exact Or.inl rfl | exact Or.inr (Or.inl rfl) | exact Or.inr (Or.inr rfl)) (hd : (x == ("__debug__" : Str)) = false := by decide)
    (hcd : (x == ("__classdict__" : Str)) = false := by decide) : B0 X (.Name x pos) (gB0 i) := by
  refine ⟨⟨_, pe_var hN hv hd hcd, fun G0 H0 Z Γ σ G H Q d R hf k => ?_⟩⟩
  unfold gB0 at hf
  cases q : Γ[i]? with
  | none => rw [q] at hf; cases hf
  | some s =>
    rw [q] at hf
    cases s with
    | sh d' =>
      cases hf
      obtain ⟨v, h1, h2⟩ := R.sh q
      exact ⟨v, h1, k G H v (Ext.refl R.gh) (.sh h2)⟩
    | bo d' =>
      cases hf
      obtain ⟨own, o1, o2, o3⟩ := R.own
      rcases o3 i _ q with z | ⟨v, h1, h2⟩ | ⟨v, d1, z, h1, h2⟩
      · cases z
      · cases h2
      · cases z; exact ⟨v, h1, k G H v (Ext.refl R.gh) h2⟩
    | _ => cases hf
theorem ib_b (h : B0 X iter f) : IB X tg iter (gIt f) := by
  obtain ⟨t, h1, h2⟩ := h.ex
  refine ⟨⟨_, pi_or (pi_list h1) (pi_tup h1), fun G0 H0 Z Γ σ G H R ds Rl hf k => ?_⟩⟩
  obtain ⟨d, e1, hf⟩ := obind hf
  cases d with
  | lst xs =>
    cases hf
    refine .inl (h2 G0 H0 Z Γ σ G H _ _ Rl e1 fun G1 H1 v x1 r1 => ?_)
    obtain ⟨p, vs, rfl, hs, it⟩ := itmB_lst x1.gh (Rl.hh.trans x1.hh) r1
    exact ⟨_, rfl, ⟨_, hs⟩, k G1 H1 _ x1 it⟩
  | scr ns =>
    cases hf
    refine .inl (h2 G0 H0 Z Γ σ G H _ _ Rl e1 fun G1 H1 v x1 r1 => ?_)
    obtain ⟨p, vs, rfl, hs, it⟩ := itmB_scr x1.gh r1
    exact ⟨_, rfl, ⟨_, hs⟩, k G1 H1 _ x1 it⟩
  | tup xs =>
    cases hf
    refine .inr (h2 G0 H0 Z Γ σ G H _ _ Rl e1 fun G1 H1 v x1 r1 => ?_)
    obtain ⟨p, vs, rfl, hs, it⟩ := itmB_tup x1.gh r1
    exact ⟨_, rfl, ⟨_, hs⟩, k G1 H1 _ x1 it⟩
  | _ => cases hf
def gLc (own : List Nat) (it : Ag) (g : Gs) (t : Te) (e : Ex) : Ag := fun Γ => (it Γ).bind fun ds => if ds.length < 1000000 then compL g t e ds (wipeE Γ own) else none
theorem lc_run {K : PySem.W.Frag} {mg : Str → Option Value} {own : List (Str × Nat)} {it : Ag} {p : Te} {wi : TI} (hix : ∀ i ∈ ix, i ∈ own.map (·.2))
    (hw : ∀ G0 H0 Z Γ σ G H R ds, Rel K mg G0 H0 Z Γ σ G H → it Γ = some ds → (∀ G' H' J, Ext G H G' H' → ItmB K mg J G' H' ds → R J H') → wi σ H R)
    {G0 H0 : Hp} {Z : Zs} {Γ : DEnv} {σ : L2.St} {G H : Hp} {Q : VK} {ds : List D} (R : Rel K mg G0 H0 Z Γ σ G H) (hf : gLc (own.map (·.2)) it g p f Γ = some ds)
    (k : ∀ G' H' D vs, Ext G H G' H' → H D = none → G' D = none → H' D = some (.lst vs) → RepL K mg G' vs ds → Q (.ref D) H') :
    tLc wi (tGx K mg ix g) (tTx K mg p) (tEx K mg f) (own.map (·.2)) σ H Q := by
  obtain ⟨items, e1, hf⟩ := obind hf
  split at hf
  · rename_i hlen
    refine hw G0 H0 Z Γ σ G H _ items R e1 fun G1 H1 J x1 hJ D hD => ?_
    have R1 := R.ext x1
    -- the state within: the list so far at D
    have ntD : ¬ Z.t.tz D := fun h => R1.zz _ (R1.tz _ h) hD
    refine ⟨fun i m Hc => m = items.length - i ∧ i ≤ items.length ∧ ∃ Gc acc dacc rest, Ext G1 H1 Gc Hc ∧ Gc D = none ∧ Hc D = some (.lst acc) ∧ acc.length ≤ i ∧ RepL K mg Gc acc dacc ∧ Rel K mg G0 H0 ⟨fun a => Z.z a ∨ a = D, Z.a, Z.t⟩ (wipeE Γ (own.map (·.2))) (L2.wipe σ (own.map (·.2))) Gc Hc ∧
      compL g p f (items.drop i) (wipeE Γ (own.map (·.2))) = some rest ∧ dacc ++ rest = ds, ⟨items.length, ?_⟩, ?_⟩
    · exact ⟨by simp, Nat.zero_le _, G1, [], [], ds, Ext.own1 x1.gh hD, x1.gh.free hD, upd_same, Nat.le_refl _, .nil, (R1.wipe (own.map (·.2))).zput hD, by simpa using hf, rfl⟩
    · rintro i m Hc ⟨rfl, hi, Gc, acc, dacc, rest, xc, gD, hcD, la, ra, Rc, hr, hds⟩
      obtain ⟨st, go⟩ := hJ i Gc Hc xc.gg xc.gh xc.hh
      have nn : ∀ {H : Hp}, H D = some (.lst acc) → H D ≠ none := fun e => by rw [e]; simp
      by_cases hlt : i < items.length
      · have hd : items.drop i = items[i] :: items.drop (i + 1) := List.drop_eq_getElem_cons hlt
        obtain ⟨g1, g2⟩ := go items[i] (List.getElem?_eq_getElem hlt)
        rw [hd] at hr
        obtain ⟨Γ1, c1, hr⟩ := obind hr
        obtain ⟨b, c2, hr⟩ := obind hr
        refine .inr ⟨g1, fun H' => ∃ m', (m' = items.length - (i + 1) ∧ i + 1 ≤ items.length ∧ ∃ Gc acc dacc rest, Ext G1 H1 Gc H' ∧ Gc D = none ∧ H' D = some (.lst acc) ∧ acc.length ≤ i + 1 ∧ RepL K mg Gc acc dacc ∧ Rel K mg G0 H0 ⟨fun a => Z.z a ∨ a = D, Z.a, Z.t⟩ (wipeE Γ (own.map (·.2))) (L2.wipe σ (own.map (·.2))) Gc H' ∧
          compL g p f (items.drop (i + 1)) (wipeE Γ (own.map (·.2))) = some rest ∧ dacc ++ rest = ds), fun H' ⟨m', h⟩ => ⟨m', by have := h.1; omega, h⟩, fun x H2 y => ?_⟩
        obtain ⟨G2, x2, r2⟩ := g2 x H2 y
        have xc2 := xc.trans x2
        have R2 := Rc.ext x2
        have gD2 : G2 D = none := x2.none gD (nn hcD)
        have hD2 := x2.hh _ _ hcD nofun
        refine ⟨G0, H0, _, _, G2, items[i], Γ1, R2, r2, c1, fun σ3 R3 w3 => ⟨(w3 _ hix).trans (wipe_sub _ fun _ h => h), ?_⟩⟩
        refine ⟨G0, H0, _, Γ1, G2, b, R3, c2, fun G4 H4 x4 => ?_⟩
        have gD4 : G4 D = none := x4.none gD2 (nn hD2)
        have hD4 := x4.hh _ _ hD2 nofun
        cases b with
        | false =>
          refine iteF ⟨_, rfl, hlt, G4, acc, dacc, rest, xc2.trans x4, gD4, hD4, by omega, (ra.mono x2.gg).mono x4.gg, R2.ext x4, hr, hds⟩
        | true =>
          refine iteT ⟨G0, H0, ⟨fun a => Z.z a ∨ a = D, Z.a, Z.t⟩, Γ1, G4, ?_⟩
          replace hr : ((f Γ1).bind fun y => (compL g p f (items.drop (i + 1)) (wipeE Γ (own.map (·.2)))).bind fun r => some (y :: r)) = some rest := hr
          obtain ⟨yv, c3, hr⟩ := obind hr
          obtain ⟨rr, c4, hr⟩ := obind hr
          cases hr
          refine ⟨yv, R3.ext x4, c3, fun G5 H5 v x5 r5 => ?_⟩
          have gD5 : G5 D = none := x5.none gD4 (nn hD4)
          have hD5 : H5 D = some (.lst acc) := x5.hh _ _ hD4 nofun
          refine ⟨acc, hD5, Nat.lt_of_lt_of_le (Nat.lt_of_le_of_lt la (Nat.lt_trans hlt hlen)) line_big, _, rfl, hlt, G5, acc ++ [v], dacc ++ [yv], rr, ?_, gD5, upd_same, by simp; omega, ((((ra.mono x2.gg).mono x4.gg).mono x5.gg).append (.cons r5 .nil)), ((R2.ext x4).ext x5).aside (.inr rfl) ntD gD5 (R1.hf hD), c4, by rw [← hds]; simp⟩
          have xx := (xc2.trans x4).trans x5
          refine ⟨xx.gg, fun a o q n => ?_, fun a o q => ?_, xx.new, fun a h => ?_, fun t => TC.ti.keep (xx.tb t) (Same.refl _) (fun a h => upd_ne (fun z => (TC.ti.live t a h).1 (by rw [z]; exact hD))) (fun _ _ g => g)⟩
          · rw [upd_ne (ne_of_none q hD)]; exact xx.hh _ _ q n
          · rw [upd_ne (ne_of_none q gD5)]; exact xx.gh _ _ q
          · by_cases z : a = D
            · subst z; rw [upd_same]; simp
            · rw [upd_ne z]; exact xx.hn a h
      · have e : i = items.length := by omega
        subst e
        refine .inl ⟨st (Nat.le_refl _), ?_⟩
        rw [List.drop_length] at hr
        cases hr
        rw [List.append_nil] at hds
        subst hds
        exact k Gc Hc D acc (x1.trans xc) (x1.hf hD) gD hcD ra
  · cases hf
theorem el_lc {elt : Expr} {ifs : List Expr} {scope : Scope} {own : List (Str × Nat)} {it : Ag} {p : Te} (hc : X.calm = true) (hN : X.N.Nodup) (hi : IC X tg iter it) (ok : BlkOk X.N X.env.scope scope own) (hix : ∀ i ∈ ix, i ∈ own.map (·.2))
    (hg : ∀ (s : Shared) (H : Hp) (C : Addr) (cl : List (Str × Addr)) (fp : List Addr), G (X.blk s H scope (compEnvC scope cl C X.env) fp) tg ix g)
    (ht : ∀ (s : Shared) (H : Hp) (C : Addr) (cl : List (Str × Addr)) (fp : List Addr), Ts (X.blk s H scope (compEnvC scope cl C X.env) fp) ifs p)
    (he : ∀ (s : Shared) (H : Hp) (C : Addr) (cl : List (Str × Addr)) (fp : List Addr), E (X.blk s H scope (compEnvC scope cl C X.env) fp) elt f) (hs : ∀ x, foldedSetIterable iter X.env x = pure x := by intro _; rfl) :
    EL X (.ListComp elt [⟨tg, iter, ifs, 0⟩] scope pos) (gLc (own.map (·.2)) it g p f) := by
  obtain ⟨wi, w1, w2⟩ := hi.ex
  exact ⟨⟨_, pe_lc hc hN w1 ok (fun s H C cl fp => (hg s H C cl fp).pg) (fun s H C cl fp => (ht s H C cl fp).pt) (fun s H C cl fp => (he s H C cl fp).pe) hs, fun G0 H0 Z Γ σ G H Q ds R hf k => lc_run hix w2 R hf k⟩⟩
end
end DL

namespace DL
open PySem L2
variable [TC : TabCtx]

/-! ### statements -/
def sNil : Sm := fun Γ => some (.nx Γ)
def sSeq (f g : Sm) : Sm := fun Γ => (f Γ).bind fun r => match r with | .nx Γ' => g Γ' | r => some r
def sBrk : Sm := fun Γ => some (.bk Γ)
def sCnt : Sm := fun Γ => some (.ct Γ)
def sSet (i : Nat) (f : Ex) : Sm := fun Γ => (f Γ).bind fun d => some (.nx (Γ.set i (.sh d)))
def sSetO (i : Nat) (f : Ag) : Sm := fun Γ => (f Γ).bind fun d => some (.nx (Γ.set i (.ow d)))
def sExp (f : Ex) : Sm := fun Γ => (f Γ).bind fun _ => some (.nx Γ)
def sRet (f : Ex) : Sm := fun Γ => (f Γ).bind fun d => some (.rt d)
def sRetN : Sm := fun _ => some (.rt .non)
def sIf (c : Te) (f g : Sm) : Sm := fun Γ => (c Γ).bind fun b => if b then f Γ else g Γ
def frzE (i : Nat) (Γ : DEnv) : DEnv := match Γ[i]? with | some (.ow xs) => Γ.set i (.sh (.lst xs)) | some (.dk ks xs) => Γ.set i (.sh (.dic ks xs)) | _ => Γ
def sFrz (i : Nat) (f : Sm) : Sm := fun Γ => f (frzE i Γ)
/-- a place of a slot, read and changed -/
def gP (i : Nat) (rp : Pth) (Γ : DEnv) : Option Sl := (Γ[i]?).bind (getR rp)
def upP (i : Nat) (rp : Pth) (s' : Sl) (Γ : DEnv) : Option Res := (Γ[i]?).bind fun s => (setR rp s' s).bind fun s2 => some (.nx (Γ.set i s2))
def sApp (i : Nat) (rp : Pth) (f : Ex) : Sm := fun Γ => (f Γ).bind fun d => match gP i rp Γ with
  | some (.ow xs) => if xs.length < 1000000 then upP i rp (.ow (xs ++ [d])) Γ else none
  | _ => none
def sAug (o : D → D → Option D) (i : Nat) (f : Ex) : Sm := fun Γ => (gV i Γ).bind fun x => (f Γ).bind fun y => (o x y).bind fun d => some (.nx (Γ.set i (.sh d)))
def sUnp (g : Gs) (f : Ex) : Sm := fun Γ => (f Γ).bind fun d => (g d Γ).bind fun Γ' => some (.nx Γ')
def sPar (is : List Nat) (fs : Ag) : Sm := fun Γ => (fs Γ).bind fun ds => some (.nx ((is.zip ds).foldl (fun Γ p => Γ.set p.1 (.sh p.2)) Γ))
def sIxS (i : Nat) (rp : Pth) (k : Ex) (f : Ex) : Sm := fun Γ => (f Γ).bind fun d => (k Γ).bind fun j => match gP i rp Γ, j with
  | some (.ow xs), .int n => (ixN xs.length n).bind fun m => upP i rp (.ow (xs.set m d)) Γ
  | _, _ => none

section
variable {X : Cx} {e a b o tg : Expr} {es : List Expr} {f k : Ex} {fs : Ag} {st : Stmt} {sts : List Stmt} {F F' : Sm} {p : Te} {pos pos' : Pos} {n : Nat} {ix : List Nat} {g : Gs}
theorem ss_nil : Ss X [] sNil := ⟨⟨_, pss_nil, fun G0 H0 Z Γ σ G H D r R hf k => by cases hf; exact k σ G H R⟩⟩
theorem ss_cons (h : S X st F) (hr : Ss X sts F') : Ss X (st :: sts) (sSeq F F') := by
  obtain ⟨t, h1, h2⟩ := h.ex
  obtain ⟨u, q1, q2⟩ := hr.ex
  refine ⟨⟨_, pss_cons h1 q1, fun G0 H0 Z Γ σ G H D r R hf k => ?_⟩⟩
  obtain ⟨r1, e1, hf⟩ := obind hf
  refine h2 G0 H0 Z Γ σ G H _ r1 R e1 ?_
  cases r1 with
  | nx Γ1 => exact fun σ1 G1 H1 R1 => q2 G0 H0 Z Γ1 σ1 G1 H1 D r R1 hf k
  | rt d => cases hf; exact k
  | rm d s => cases hf; exact k
  | ro s => cases hf; exact k
  | bk Γ1 => cases hf; exact k
  | ct Γ1 => cases hf; exact k
theorem ss_one (h : S X st F) : Ss X [st] F := by
  obtain ⟨t, h1, h2⟩ := h.ex
  exact ⟨⟨_, pss_one h1, h2⟩⟩
theorem s_pass : S X (.Pass pos) sNil := ⟨⟨_, ps_pass, fun G0 H0 Z Γ σ G H D r R hf k => by cases hf; exact k σ G H R⟩⟩
theorem s_break : S X (.Break pos) sBrk := ⟨⟨_, ps_break, fun G0 H0 Z Γ σ G H D r R hf k => by cases hf; exact k σ G H R⟩⟩
theorem s_cont : S X (.Continue pos) sCnt := ⟨⟨_, ps_continue, fun G0 H0 Z Γ σ G H D r R hf k => by cases hf; exact k σ G H R⟩⟩
theorem s_set (i : Nat) {x : Str} (hN : X.N.Nodup) (he : E X e f) (hi : X.N[i]? = some x := by rfl) (hx : Loc X.env.scope x := by first | exact Or.inl rfl | exact Or.inr rfl) (hs : swapsWith e (some (.Name x pos')) pos.line X.env = pure false := by rfl)
    (hf : X.fn x = true ∨ X.env.scope.names.lookup x = some .local := by first | exact .inl rfl | exact .inr rfl | assumption) : S X (.Assign [.Name x pos'] e pos) (sSet i f) := by
  obtain ⟨t, h1, h2⟩ := he.ex
  refine ⟨⟨_, ps_set hN hi hx h1 hs hf, fun G0 H0 Z Γ σ G H D r R hf k => ?_⟩⟩
  obtain ⟨d, e1, hf⟩ := obind hf
  cases hf
  exact h2 G0 H0 Z Γ σ G H _ d R e1 fun G1 H1 v x1 r1 => k _ G1 H1 ((R.ext x1).set i r1)
theorem set_own {K : PySem.W.Frag} {mg : Str → Option Value} {G0 H0 : Hp} {Z : Zs} {Γ : DEnv} {σ : L2.St} {G H G1 H1 : Hp} {q : Addr} {vs : List V} {xs : List D} (R : Rel K mg G0 H0 Z Γ σ G H) (x1 : Ext G H G1 H1) (hq : H q = none) (gq : G1 q = none) (h : H1 q = some (.lst vs)) (r : RepL K mg G1 vs xs) (i : Nat) (h0 : i ≠ 0) :
    Rel K mg G0 H0 Z (Γ.set i (.ow xs)) (σ.set i (some (.ref q))) G1 H1 :=
  R.setNew x1 i (F := fun a => a = q) (.ow rfl h r) (fun a e => by subst e; exact ⟨gq, hq, by rw [h]; simp⟩) (.inl h0)
theorem s_setO (i : Nat) {x : Str} (hN : X.N.Nodup) (he : EL X e fs) (h0 : i ≠ 0 := by decide) (hi : X.N[i]? = some x := by rfl) (hx : Loc X.env.scope x := by first | exact Or.inl rfl | exact Or.inr rfl) (hs : swapsWith e (some (.Name x pos')) pos.line X.env = pure false := by rfl)
    (hf : X.fn x = true ∨ X.env.scope.names.lookup x = some .local := by first | exact .inl rfl | exact .inr rfl | assumption) : S X (.Assign [.Name x pos'] e pos) (sSetO i fs) := by
  obtain ⟨t, h1, h2⟩ := he.ex
  refine ⟨⟨_, ps_set hN hi hx h1 hs hf, fun G0 H0 Z Γ σ G H D r R hf k => ?_⟩⟩
  obtain ⟨d, e1, hf⟩ := obind hf
  cases hf
  exact h2 G0 H0 Z Γ σ G H _ d R e1 fun G1 H1 q vs x1 hq gq h r1 => k _ G1 H1 (set_own R x1 hq gq h r1 i h0)
theorem s_expr (he : E X e f) (hs : swapsWith e none pos.line X.env = pure false := by rfl) : S X (.Expr e pos) (sExp f) := by
  obtain ⟨t, h1, h2⟩ := he.ex
  refine ⟨⟨_, ps_expr h1 hs, fun G0 H0 Z Γ σ G H D r R hf k => ?_⟩⟩
  obtain ⟨d, e1, hf⟩ := obind hf
  cases hf
  exact h2 G0 H0 Z Γ σ G H _ d R e1 fun G1 H1 v x1 r1 => k σ G1 H1 (R.ext x1)
theorem Rel.end {K : PySem.W.Frag} {mg : Str → Option Value} {G0 H0 : Hp} {Z : Zs} {Γ : DEnv} {σ : L2.St} {G H : Hp} (R : Rel K mg G0 H0 Z Γ σ G H) : Ext G0 H0 G H := ⟨R.gg, R.hh, R.gh, R.new, R.hn, fun _ => by rw [← R.tc]; exact R.tb⟩
theorem s_ret (he : E X e f) : S X (.Return (some e) pos) (sRet f) := by
  obtain ⟨t, h1, h2⟩ := he.ex
  refine ⟨⟨_, ps_ret h1, fun G0 H0 Z Γ σ G H D r R hf k => ?_⟩⟩
  obtain ⟨d, e1, hf⟩ := obind hf
  cases hf
  exact h2 G0 H0 Z Γ σ G H _ d R e1 fun G1 H1 v x1 r1 => k G1 H1 v (R.ext x1).end r1
theorem s_retN : S X (.Return none pos) sRetN := ⟨⟨_, ps_retN, fun G0 H0 Z Γ σ G H D r R hf k => by cases hf; exact k G H _ R.end .non⟩⟩
theorem s_if {c : Expr} {sa sb : List Stmt} (hc : T X c p) (ha : Ss X sa F) (hb : Ss X sb F') : S X (.If c sa sb pos) (sIf p F F') := by
  obtain ⟨t, h1, h2⟩ := hc.ex
  obtain ⟨u, q1, q2⟩ := ha.ex
  obtain ⟨w, z1, z2⟩ := hb.ex
  refine ⟨⟨_, ps_if h1 q1 z1, fun G0 H0 Z Γ σ G H D r R hf k => ?_⟩⟩
  obtain ⟨b, e1, hf⟩ := obind hf
  refine h2 G0 H0 Z Γ σ G H _ b R e1 fun G1 H1 x1 => ?_
  cases b with
  | true => exact iteT (q2 G0 H0 Z Γ σ G1 H1 D r (R.ext x1) hf k)
  | false => exact iteF (z2 G0 H0 Z Γ σ G1 H1 D r (R.ext x1) hf k)
theorem Rel.frzE {K : PySem.W.Frag} {mg : Str → Option Value} {G0 H0 : Hp} {Z : Zs} {Γ : DEnv} {σ : L2.St} {G H : Hp} (R : Rel K mg G0 H0 Z Γ σ G H) (i : Nat) : ∃ G', Rel K mg G0 H0 Z (frzE i Γ) σ G' H := by
  unfold DL.frzE
  cases q : Γ[i]? with
  | none => exact ⟨G, R⟩
  | some s =>
    cases s with
    | ow xs => obtain ⟨G', R', _⟩ := R.frzP (rp := []) (d := .lst xs) q rfl (by simp) (by simp [SlP]) rfl rfl; exact ⟨G', R'⟩
    | dk ks xs => obtain ⟨G', R', _⟩ := R.frzP (rp := []) (d := .dic ks xs) q rfl (by simp) (by simp [SlP]) (by simp only [toD]) rfl; exact ⟨G', R'⟩
    | _ => exact ⟨G, R⟩
theorem s_frz (i : Nat) (h : S X st F) : S X st (sFrz i F) := by
  obtain ⟨t, h1, h2⟩ := h.ex
  refine ⟨⟨t, h1, fun G0 H0 Z Γ σ G H D r R hf k => ?_⟩⟩
  obtain ⟨G', R'⟩ := R.frzE i
  exact h2 G0 H0 _ _ σ G' H D r R' hf k
/-! places -/
structure PL (X : Cx) (e : Expr) (i : Nat) (rp : Pth) : Prop where
  ex : ∃ t, PE X e t ∧ ∀ G0 H0 Z Γ σ Gb Hb G H Q s s1, Rel X.K X.mg G0 H0 Z Γ σ Gb Hb → Ext Gb Hb G H → Γ[i]? = some s → getR rp s = some s1 → SlP s → s1 ≠ .no → (∀ v, (∀ G1 H1, Ext Gb Hb G1 H1 → ∃ F1, Pack X.K X.mg G0 H0 Z Γ σ i rp s s1 v F1 Hb G1 H1) → Q v H) → t σ H Q
theorem pl_var (i : Nat) {x : Str} (hN : X.N[i]? = some x := by rfl) (hv : Vis X.env.scope x := by first | exact Or.inl rfl | exact Or.inr (Or.inl rfl) | exact Or.inr (Or.inr rfl)) (hd : (x == ("__debug__" : Str)) = false := by decide)
    (hcd : (x == ("__classdict__" : Str)) = false := by decide) : PL X (.Name x pos) i [] := by
  refine ⟨⟨_, pe_var hN hv hd hcd, fun G0 H0 Z Γ σ Gb Hb G H Q s s1 R xb hi hg hn h1 k => ?_⟩⟩
  obtain ⟨v, F1, e, pk⟩ := R.pack hi hg h1 hn
  exact ⟨v, e rfl, k v fun G1 H1 x => ⟨F1, pk G1 H1 x⟩⟩
theorem Pack.obAt {K : PySem.W.Frag} {mg : Str → Option Value} {G0 H0 : Hp} {Z : Zs} {Γ : DEnv} {σ : L2.St} {G H Hb : Hp} {i c : Nat} {rp : Pth} {s : Sl} {fs : List Sl} {v : V} {F1 : Addr → Prop} (P : Pack K mg G0 H0 Z Γ σ i rp s (.ob c fs) v F1 Hb G H) : ∃ p C dx zs, v = .ref p ∧ H p = some (.ins C dx zs) := by
  have hd := P.hd
  cases hd with
  | ob f hm h n s r => exact ⟨_, _, _, _, rfl, h⟩
theorem pl_fld {i : Nat} {rp : Pth} {c j : Nat} {C : Addr} {x : Str} (ck : CK X.K X.mg c C) (h : PL X o i rp) (hj : (cF c)[j]? = some x := by rfl) (nd : (cF c).Nodup := by decide +kernel) (hb : attributeBase o x X.env (eval o X.env) = eval o X.env := by rfl) : PL X (.Attribute o x pos) i ((c, j) :: rp) := by
  obtain ⟨t, h1, h2⟩ := h.ex
  refine ⟨⟨_, pe_fld h1 hb, fun G0 H0 Z Γ σ Gb Hb G H Q s s1 R xb hi hg hn hs k => ?_⟩⟩
  unfold getR at hg
  cases q : getR rp s with
  | none => rw [q] at hg; cases hg
  | some par =>
    rw [q] at hg
    cases par with
    | ob c' fs =>
      replace hg : (if c' = c then fs[j]? else none) = some s1 := hg
      split at hg
      · rename_i hc
        subst hc
        refine h2 G0 H0 Z Γ σ Gb Hb G H _ s _ R xb hi q hn (by simp) fun v pk => ?_
        obtain ⟨F0, p0⟩ := pk G H xb
        obtain ⟨p, C', dx, vs, v1, F1, rfl, hm, ho, e1, _⟩ := p0.fld q hg
        rw [ck.hm] at hm
        cases hm
        have look := zip_lookup nd hj e1
        refine ⟨p, C, dx, _, v1, rfl, ho, ck.cl, ck.na x (List.mem_of_getElem? hj), look, k v1 fun G1 H1 x1 => ?_⟩
        obtain ⟨F2, p2⟩ := pk G1 H1 x1
        obtain ⟨p', C2, dx2, vs2, v2, F3, ep, _, ho2, e2, p3⟩ := p2.fld q hg
        cases ep
        obtain ⟨Fb, pb⟩ := pk Gb Hb (Ext.refl R.gh)
        obtain ⟨p', _, _, _, ep, hb1⟩ := pb.obAt
        cases ep
        have h3 := x1.hh _ _ hb1 nofun
        have h4 := xb.hh _ _ hb1 nofun
        rw [ho2] at h3
        rw [ho] at h4
        cases h4
        have ez : (cF c').zip vs2 = (cF c').zip vs := by injection h3 with h3; injection h3
        have look2 := zip_lookup nd hj e2
        rw [ez, look] at look2
        cases look2
        exact ⟨F3, p3⟩
      · cases hg
    | _ => cases hg
/-- .. read: a datum -/
def gPE (i : Nat) (rp : Pth) : Ex := fun Γ => match gP i rp Γ with | some (.sh d) => some d | _ => none
def gPB (i : Nat) (rp : Pth) : Ex := fun Γ => match gP i rp Γ with | some (.sh d) => some d | some (.ow xs) => some (.lst xs) | some (.ob c fs) => toD (.ob c fs) | some (.dk ks xs) => some (.dic ks xs) | _ => none
theorem gP_some {i : Nat} {rp : Pth} {Γ : DEnv} {s1 : Sl} (h : gP i rp Γ = some s1) (hn : SlP s1) : ∃ s, Γ[i]? = some s ∧ getR rp s = some s1 ∧ SlP s := by
  obtain ⟨s, e1, e2⟩ := obind h
  have key : ∀ z : Sl, (∀ c fs, z ≠ .ob c fs) → ∀ rp : Pth, getR rp z = none ∨ getR rp z = some z := fun z hz rp => by
    induction rp with
    | nil => exact .inr rfl
    | cons p rp ih =>
      left
      unfold getR
      rcases ih with q | q
      · rw [q]
      · rw [q]
        cases z with
        | ob c fs => exact absurd rfl (hz c fs)
        | _ => rfl
  refine ⟨s, e1, e2, fun z => ?_, fun d z => ?_⟩
  · subst z
    rcases key .no (by simp) rp with q | q
    · rw [q] at e2; cases e2
    · rw [q] at e2; cases e2; exact hn.1 rfl
  · subst z
    rcases key (.bo d) (by simp) rp with q | q
    · rw [q] at e2; cases e2
    · rw [q] at e2; cases e2; exact hn.2 d rfl
theorem PL.er {i : Nat} {rp : Pth} (h : PL X e i rp) : E X e (gPE i rp) := by
  obtain ⟨t, h1, h2⟩ := h.ex
  refine ⟨⟨t, h1, fun G0 H0 Z Γ σ G H Q d R hf k => ?_⟩⟩
  unfold gPE at hf
  cases q : gP i rp Γ with
  | none => rw [q] at hf; cases hf
  | some s1 =>
    rw [q] at hf
    cases s1 with
    | sh d' =>
      cases hf
      obtain ⟨s, e1, e2, e3⟩ := gP_some q (by simp [SlP])
      refine h2 G0 H0 Z Γ σ G H G H Q s _ R (Ext.refl R.gh) e1 e2 e3 (by simp) fun v pk => ?_
      obtain ⟨F1, p⟩ := pk G H (Ext.refl R.gh)
      have hd := p.hd
      cases hd with
      | sh r => exact k G H v (Ext.refl R.gh) r
    | _ => cases hf
theorem PL.br {i : Nat} {rp : Pth} (h : PL X e i rp) : B X e (gPB i rp) := by
  obtain ⟨t, h1, h2⟩ := h.ex
  refine ⟨⟨t, h1, fun G0 H0 Z Γ σ G H Q d R hf k => ?_⟩⟩
  unfold gPB at hf
  cases q : gP i rp Γ with
  | none => rw [q] at hf; cases hf
  | some s1 =>
    rw [q] at hf
    cases s1 with
    | sh d' =>
      cases hf
      obtain ⟨s, e1, e2, e3⟩ := gP_some q (by simp [SlP])
      refine h2 G0 H0 Z Γ σ G H G H Q s _ R (Ext.refl R.gh) e1 e2 e3 (by simp) fun v pk => ?_
      obtain ⟨F1, p⟩ := pk G H (Ext.refl R.gh)
      have hd := p.hd
      cases hd with
      | sh r => exact k G H v (Ext.refl R.gh) (.sh r)
    | ow xs =>
      cases hf
      obtain ⟨s, e1, e2, e3⟩ := gP_some q (by simp [SlP])
      refine h2 G0 H0 Z Γ σ G H G H Q s _ R (Ext.refl R.gh) e1 e2 e3 (by simp) fun v pk => ?_
      obtain ⟨F1, p⟩ := pk G H (Ext.refl R.gh)
      have hd := p.hd
      cases hd with
      | ow f h r => exact k G H _ (Ext.refl R.gh) (.li h r)
    | ob c fs =>
      obtain ⟨s, e1, e2, e3⟩ := gP_some q (by simp [SlP])
      refine h2 G0 H0 Z Γ σ G H G H Q s _ R (Ext.refl R.gh) e1 e2 e3 (by simp) fun v pk => ?_
      obtain ⟨F1, p⟩ := pk G H (Ext.refl R.gh)
      exact k G H _ (Ext.refl R.gh) (p.hd.bo hf)
    | dk ks xs =>
      obtain ⟨s, e1, e2, e3⟩ := gP_some q (by simp [SlP])
      refine h2 G0 H0 Z Γ σ G H G H Q s _ R (Ext.refl R.gh) e1 e2 e3 (by simp) fun v pk => ?_
      obtain ⟨F1, p⟩ := pk G H (Ext.refl R.gh)
      exact k G H _ (Ext.refl R.gh) (p.hd.bo (by cases hf; simp only [toD]))
    | _ => cases hf
/-- one's own list at a place is changed in place -/
theorem Pack.list {K : PySem.W.Frag} {mg : Str → Option Value} {G0 H0 : Hp} {Z : Zs} {Γ : DEnv} {σ : L2.St} {G H : Hp} {i : Nat} {rp : Pth} {s : Sl} {xs : List D} {v : V} {F1 : Addr → Prop} (gh : Same G H) {Hb : Hp} (P : Pack K mg G0 H0 Z Γ σ i rp s (.ow xs) v F1 Hb G H) :
    ∃ l vs, v = .ref l ∧ H l = some (.lst vs) ∧ RepL K mg G vs xs ∧ ∀ vs' ys s', RepL K mg G vs' ys → setR rp (.ow ys) s = some s' → Rel K mg G0 H0 Z (Γ.set i s') σ G (upd H l (.lst vs')) := by
  have hd := P.hd
  cases hd with
  | ow f h r =>
    rename_i l vs
    refine ⟨l, vs, rfl, h, r, fun vs' ys s' r' es => ?_⟩
    have gl := (P.fr l f).1
    refine P.up G _ (fun a => a = l) (.ow ys) s' (Same.refl _) (fun a o q => ?_) (fun a q => .inl q) (fun a o nf q => ?_) (.ow rfl upd_same r') (fun a e => ?_) (fun _ => rfl) es
    · rw [upd_ne (ne_of_none q gl)]; exact gh _ _ q
    · rw [upd_ne]
      · exact q
      · intro e; subst e; exact nf f
    · subst e
      exact ⟨gl, by rw [upd_same]; simp, .inl f⟩
theorem upP_some {i : Nat} {rp : Pth} {s' : Sl} {Γ : DEnv} {r : Res} (h : upP i rp s' Γ = some r) : ∃ s s2, Γ[i]? = some s ∧ setR rp s' s = some s2 ∧ r = .nx (Γ.set i s2) := by
  obtain ⟨s, e1, h⟩ := obind h
  obtain ⟨s2, e2, h⟩ := obind h
  cases h
  exact ⟨s, s2, e1, e2, rfl⟩
theorem s_app {i : Nat} {rp : Pth} {ap : Pos} (hp : PL X o i rp) (he : E X e f) (hst : starEach [e] X.env = (false, eval e X.env) :: starEach [] X.env := by rfl)
    (hpe : ∀ {r : V → List V → Hp → VK → Prop} {to te : TE}, MtR X "list.append" r → PE X o to → PE X e te → PE X (.Call (.Attribute o "append" ap) [e] [] pos) (tBM X.K "list" r to (tCons te tNil)) := by intro r to te hm ho hp; exact pe_bm PySem.F.plainAttrs_list PySem.F.slot_list_append PySem.F.type_list_append hm ho (pa_cons hp pa_nil))
    (hs : swapsWith (.Call (.Attribute o "append" ap) [e] [] pos) none pos'.line X.env = pure false := by rfl) : S X (.Expr (.Call (.Attribute o "append" ap) [e] [] pos) pos') (sApp i rp f) := by
  obtain ⟨t, h1, h2⟩ := he.ex
  obtain ⟨u, u1, u2⟩ := hp.ex
  refine ⟨⟨_, ps_expr (hpe mt_append u1 h1) hs, fun G0 H0 Z Γ σ G H D r R hf k => ?_⟩⟩
  obtain ⟨d, e1, hf⟩ := obind hf
  cases q : gP i rp Γ with
  | none => rw [q] at hf; cases hf
  | some s1 =>
    rw [q] at hf
    cases s1 with
    | ow xs =>
      replace hf : (if xs.length < 1000000 then upP i rp (.ow (xs ++ [d])) Γ else none) = some r := hf
      split at hf
      · rename_i hl
        obtain ⟨s, s2, a1, a2, rfl⟩ := upP_some hf
        obtain ⟨s', b1, b2, b3⟩ := gP_some q (by simp [SlP])
        rw [a1] at b1
        cases b1
        refine u2 G0 H0 Z Γ σ G H G H _ s _ R (Ext.refl R.gh) a1 b2 b3 (by simp) fun v pk => ?_
        obtain ⟨F0, p0⟩ := pk G H (Ext.refl R.gh)
        obtain ⟨l, vs, rfl, c1, c2, _⟩ := p0.list R.gh
        refine ⟨.inl ⟨rfl, _, SqL.of c1⟩, ?_⟩
        refine h2 G0 H0 Z Γ σ G H _ d R e1 fun G1 H1 v x1 r1 => ?_
        obtain ⟨F1, p1⟩ := pk G1 H1 x1
        obtain ⟨l', vs', e', d1, d2, d3⟩ := p1.list x1.gh
        cases e'
        refine ⟨l, vs', v, rfl, rfl, d1, ?_, ?_⟩
        · rw [d2.length]; exact Nat.lt_of_lt_of_le hl line_big
        · exact k σ G1 _ (d3 _ _ _ (d2.append (.cons r1 .nil)) a2)
      · cases hf
    | _ => cases hf
theorem s_aug (i : Nat) {x : Str} {op : Operator} {C : Int → Int → Int} {o : D → D → Option D} (hN : X.N.Nodup) (he : E X e f) (ho : PIp X op (ipI C)) (hoo : ∀ x y d, o x y = some d → ∃ i j, x = .int i ∧ y = .int j ∧ d = .int (C i j)) (hi : X.N[i]? = some x := by rfl) (hx : Loc X.env.scope x := by first | exact Or.inl rfl | exact Or.inr rfl)
    (hf : X.fn x = true ∨ X.env.scope.names.lookup x = some .local := by first | exact .inl rfl | exact .inr rfl | assumption) : S X (.AugAssign (.Name x pos') op e pos) (sAug o i f) := by
  obtain ⟨t, h1, h2⟩ := he.ex
  refine ⟨⟨_, ps_aug hN hi hx h1 ho hf, fun G0 H0 Z Γ σ G H D r R hf k => ?_⟩⟩
  obtain ⟨a, e0, hf⟩ := obind hf
  obtain ⟨b, e1, hf⟩ := obind hf
  obtain ⟨c, e2, hf⟩ := obind hf
  cases hf
  obtain ⟨m, n, rfl, rfl, rfl⟩ := hoo _ _ _ e2
  unfold gV at e0
  cases q : Γ[i]? with
  | none => rw [q] at e0; cases e0
  | some s =>
    rw [q] at e0
    cases s with
    | sh d =>
      cases e0
      obtain ⟨v, a1, a2⟩ := R.sh q
      rw [a2.intv] at a1
      refine ⟨_, a1, h2 G0 H0 Z Γ σ G H _ _ R e1 fun G1 H1 v x1 r1 => ?_⟩
      rw [r1.intv]
      exact ⟨m, n, rfl, rfl, k _ G1 H1 ((R.ext x1).set i (.int _))⟩
    | _ => cases e0
theorem aug_add : ∀ x y d, dAdd x y = some d → (∃ i j, x = .int i ∧ y = .int j ∧ d = .int (i + j)) ∨ ¬ ∃ i, x = .int i := fun x y d h => by
  cases x with
  | int i => cases y with
    | int j => cases h; exact .inl ⟨i, j, rfl, rfl, rfl⟩
    | _ => cases h
  | _ => exact .inr (by simp)
/-- +=, -= of whole numbers -/
def dAddI : D → D → Option D
  | .int i, .int j => some (.int (i + j))
  | _, _ => none
theorem s_augA (i : Nat) {x : Str} (hN : X.N.Nodup) (he : E X e f) (hi : X.N[i]? = some x := by rfl) (hx : Loc X.env.scope x := by first | exact Or.inl rfl | exact Or.inr rfl)
    (hf : X.fn x = true ∨ X.env.scope.names.lookup x = some .local := by first | exact .inl rfl | exact .inr rfl | assumption) : S X (.AugAssign (.Name x pos') .Add e pos) (sAug dAddI i f) :=
  s_aug i hN he ip_add (fun x y d h => by
    cases x with
    | int i => cases y with
      | int j => cases h; exact ⟨i, j, rfl, rfl, rfl⟩
      | _ => cases h
    | _ => cases h) hi hx hf
theorem s_augS (i : Nat) {x : Str} (hN : X.N.Nodup) (he : E X e f) (hi : X.N[i]? = some x := by rfl) (hx : Loc X.env.scope x := by first | exact Or.inl rfl | exact Or.inr rfl)
    (hf : X.fn x = true ∨ X.env.scope.names.lookup x = some .local := by first | exact .inl rfl | exact .inr rfl | assumption) : S X (.AugAssign (.Name x pos') .Sub e pos) (sAug dSub i f) :=
  s_aug i hN he ip_sub (fun x y d h => by
    cases x with
    | int i => cases y with
      | int j => cases h; exact ⟨i, j, rfl, rfl, rfl⟩
      | _ => cases h
    | _ => cases h) hi hx hf
/-- a, b = e -/
theorem s_unp (he : E X e f) (hg : G X tg ix g) (hs : swapsWithSole [tg] e pos.line X.env = pure false := by rfl) (hw : swappedStores [tg] e X.env = pure none := by rfl)
    (h1 : (assignEach [tg] X.env).map (·.2) = [assign tg X.env] := by rfl) : S X (.Assign [tg] e pos) (sUnp g f) := by
  obtain ⟨t, h1', h2⟩ := he.ex
  obtain ⟨u, q1, q2⟩ := hg.ex
  refine ⟨⟨_, ps_asg h1' q1 hs hw h1, fun G0 H0 Z Γ σ G H D r R hf k => ?_⟩⟩
  obtain ⟨d, e1, hf⟩ := obind hf
  obtain ⟨Γ', e2, hf⟩ := obind hf
  cases hf
  refine h2 G0 H0 Z Γ σ G H _ d R e1 fun G1 H1 v x1 r1 => ?_
  exact q2 G0 H0 Z Γ σ G1 H1 _ d v Γ' (R.ext x1) r1 e2 fun σ' R' _ => k σ' G1 H1 R'
/-- a, b = x, y -/
theorem s_par {i j : Nat} {x y : Str} {px py pt : Pos} {kt k2 pt2} (hc : X.calm = true) (hN : X.N.Nodup) (ha : AN X [a, b] 2 fs) (hi : X.N[i]? = some x := by rfl) (hj : X.N[j]? = some y := by rfl) (hij : i ≠ j := by decide)
    (hx : X.env.scope.names.lookup x = some .local := by rfl) (hy : X.env.scope.names.lookup y = some .local := by rfl)
    (hw : swappedStores [.Tuple [.Name x px, .Name y py] kt pt] (.Tuple [a, b] k2 pt2) X.env = pure (some [x, y]) := by rfl)
    (hs : swapsWithSole [.Tuple [.Name x px, .Name y py] kt pt] (.Tuple [a, b] k2 pt2) pos.line X.env = pure false := by rfl) :
    S X (.Assign [.Tuple [.Name x px, .Name y py] kt pt] (.Tuple [a, b] k2 pt2) pos) (sPar [i, j] fs) := by
  obtain ⟨t, h1, h2⟩ := ha.a.ex
  refine ⟨⟨_, ps_par hc hN hi hj hij hx hy h1 hw hs, fun G0 H0 Z Γ σ G H D r R hf k => ?_⟩⟩
  obtain ⟨ds, e1, hf⟩ := obind hf
  cases hf
  have hl := ha.n Γ ds e1
  refine h2 G0 H0 Z Γ σ G H _ ds R e1 fun G1 H1 vs x1 r1 => ?_
  match ds, hl, r1, k with
  | [d1, d2], _, .cons r (.cons q .nil), k => exact ⟨_, _, rfl, k _ G1 H1 (((R.ext x1).set i r).set j q)⟩
theorem s_par3 {i j l : Nat} {x y z : Str} {c : Expr} {px py pz pt : Pos} {kt k2 pt2} (hc : X.calm = true) (hN : X.N.Nodup) (ha : AN X [a, b, c] 3 fs) (hi : X.N[i]? = some x := by rfl) (hj : X.N[j]? = some y := by rfl) (hl : X.N[l]? = some z := by rfl) (hij : i ≠ j := by decide) (hil : i ≠ l := by decide) (hjl : j ≠ l := by decide)
    (hx : X.env.scope.names.lookup x = some .local := by rfl) (hy : X.env.scope.names.lookup y = some .local := by rfl) (hz : X.env.scope.names.lookup z = some .local := by rfl)
    (hw : swappedStores [.Tuple [.Name x px, .Name y py, .Name z pz] kt pt] (.Tuple [a, b, c] k2 pt2) X.env = pure (some [x, y, z]) := by rfl)
    (hs : swapsWithSole [.Tuple [.Name x px, .Name y py, .Name z pz] kt pt] (.Tuple [a, b, c] k2 pt2) pos.line X.env = pure false := by rfl) :
    S X (.Assign [.Tuple [.Name x px, .Name y py, .Name z pz] kt pt] (.Tuple [a, b, c] k2 pt2) pos) (sPar [i, j, l] fs) := by
  obtain ⟨t, h1, h2⟩ := ha.a.ex
  refine ⟨⟨_, ps_par3 hc hN hi hj hl hij hil hjl hx hy hz h1 hw hs, fun G0 H0 Z Γ σ G H D r R hf k => ?_⟩⟩
  obtain ⟨ds, e1, hf⟩ := obind hf
  cases hf
  have hl := ha.n Γ ds e1
  refine h2 G0 H0 Z Γ σ G H _ ds R e1 fun G1 H1 vs x1 r1 => ?_
  match ds, hl, r1, k with
  | [d1, d2, d3], _, .cons r (.cons q (.cons w .nil)), k => exact ⟨_, _, _, rfl, k _ G1 H1 ((((R.ext x1).set i r).set j q).set l w)⟩

/-! loops -/
def forL (g : Gs) (body : Sm) : List D → Sm
  | [], Γ => some (.nx Γ)
  | d :: ds, Γ => (g d Γ).bind fun Γ1 => (body Γ1).bind fun r => match r with
    | .nx Γ2 => forL g body ds Γ2
    | .ct Γ2 => forL g body ds Γ2
    | .bk Γ2 => some (.nx Γ2)
    | .rt d => some (.rt d)
    | .rm d s => some (.rm d s)
    | .ro s => some (.ro s)
def sFor (it : Ag) (g : Gs) (body : Sm) : Sm := fun Γ => (it Γ).bind fun ds => forL g body ds Γ
def whileN : Nat → Te → Sm → Sm
  | 0, _, _, _ => none
  | n + 1, c, body, Γ => (c Γ).bind fun b => if b then (body Γ).bind fun r => match r with
      | .nx Γ2 => whileN n c body Γ2
      | .ct Γ2 => whileN n c body Γ2
      | .bk Γ2 => some (.nx Γ2)
      | .rt d => some (.rt d)
      | .rm d s => some (.rm d s)
      | .ro s => some (.ro s)
    else some (.nx Γ)
open Classical in
noncomputable def sWhile (c : Te) (body : Sm) : Sm := fun Γ => if h : ∃ r n, whileN n c body Γ = some r then some h.choose else none
theorem whileN_mono {c : Te} {body : Sm} : ∀ {n m : Nat} {Γ : DEnv} {r : Res}, n ≤ m → whileN n c body Γ = some r → whileN m c body Γ = some r
  | 0, _, _, _, _, h => by cases h
  | n + 1, 0, _, _, h, _ => by omega
  | n + 1, m + 1, Γ, r, hm, h => by
    unfold whileN at h ⊢
    obtain ⟨b, e1, h⟩ := obind h
    rw [e1]
    cases b with
    | false => exact h
    | true =>
      replace h : ((body Γ).bind fun r => match r with
        | .nx Γ2 => whileN n c body Γ2
        | .ct Γ2 => whileN n c body Γ2
        | .bk Γ2 => some (.nx Γ2)
        | .rt d => some (.rt d)
        | .rm d s => some (.rm d s)
        | .ro s => some (.ro s)) = some r := h
      obtain ⟨r1, e2, h⟩ := obind h
      show ((body Γ).bind fun r => match r with
        | .nx Γ2 => whileN m c body Γ2
        | .ct Γ2 => whileN m c body Γ2
        | .bk Γ2 => some (.nx Γ2)
        | .rt d => some (.rt d)
        | .rm d s => some (.rm d s)
        | .ro s => some (.ro s)) = some r
      rw [e2]
      cases r1 with
      | nx Γ2 => exact whileN_mono (by omega) h
      | ct Γ2 => exact whileN_mono (by omega) h
      | bk Γ2 => exact h
      | rt d => exact h
      | rm d s => exact h
      | ro s => exact h
theorem sWhile_of {c : Te} {body : Sm} {Γ : DEnv} {r : Res} {n : Nat} (h : whileN n c body Γ = some r) : sWhile c body Γ = some r := by
  unfold sWhile
  have ex : ∃ r n, whileN n c body Γ = some r := ⟨r, n, h⟩
  rw [dif_pos ex]
  obtain ⟨m, hm⟩ := ex.choose_spec
  have h1 := whileN_mono (Nat.le_max_left n m) h
  have h2 := whileN_mono (Nat.le_max_right n m) hm
  rw [h1] at h2
  exact h2.symm
theorem sWhile_some {c : Te} {body : Sm} {Γ : DEnv} {r : Res} (h : sWhile c body Γ = some r) : ∃ n, whileN n c body Γ = some r := by
  unfold sWhile at h
  split at h
  · rename_i ex
    cases h
    exact ex.choose_spec
  · cases h
/-- what is known grows: the base moves on -/
theorem Rel.rebase {K : PySem.W.Frag} {mg : Str → Option Value} {G0 H0 : Hp} {Z : Zs} {Γ : DEnv} {σ : L2.St} {G H : Hp} (R : Rel K mg G0 H0 Z Γ σ G H) : Rel K mg G H0 Z Γ σ G H :=
  ⟨R.len, R.gh, R.hh, Same.refl _, fun a h => .inl h, R.zz, R.an, R.tb, R.tz, R.tc, R.hn, R.own⟩
theorem Rel.unbase {K : PySem.W.Frag} {mg : Str → Option Value} {G0 H0 : Hp} {Z : Zs} {Γ Γ' : DEnv} {σ σ' : L2.St} {G H G' H' : Hp} (R : Rel K mg G0 H0 Z Γ σ G H) (R' : Rel K mg G H0 Z Γ' σ' G' H') : Rel K mg G0 H0 Z Γ' σ' G' H' :=
  ⟨R'.len, R'.gh, R'.hh, R.gg.trans R'.gg, fun a h => by
    rcases R'.new a h with z | z
    · exact R.new a z
    · exact .inr z, R'.zz, R'.an, R'.tb, R'.tz, R'.tc, R'.hn, R'.own⟩
theorem Rel.unext {K : PySem.W.Frag} {mg : Str → Option Value} {G0 H0 : Hp} {Z : Zs} {Γ : DEnv} {σ : L2.St} {G H G' H' : Hp} (R : Rel K mg G0 H0 Z Γ σ G H) (x : Ext G H0 G' H') : Ext G0 H0 G' H' :=
  ⟨R.gg.trans x.gg, x.hh, x.gh, fun a h => by
    rcases x.new a h with z | z
    · exact R.new a z
    · exact .inr z, x.hn, fun t0 => x.tb (TC.ti.keep t0 R.gg (fun _ _ => rfl) (fun a h _ => (TC.ti.live R.tbc a h).2))⟩
theorem s_for {iter : Expr} {body : List Stmt} {it : Ag} (hp : PassesOwn (model X.prog X.w) X.A X.env X.xe) (hc : X.calm = true) (hi : IB X tg iter it) (hg : G X tg ix g) (hb : Ss X body F) (hs : ∀ x, foldedSetIterable iter X.env x = pure x := by intro _; rfl) :
    S X (.For tg iter body [] pos) (sFor it g F) := by
  obtain ⟨wi, w1, w2⟩ := hi.ex
  obtain ⟨t, t1, t2⟩ := hg.ex
  obtain ⟨u, u1, u2⟩ := hb.ex
  refine ⟨⟨_, ps_for hp hc w1 t1 u1 hs, fun G0 H0 Z Γ σ G H D r R hf k => ?_⟩⟩
  obtain ⟨ds, e1, hf⟩ := obind hf
  refine w2 G0 H0 Z Γ σ G H _ ds R e1 fun G1 H1 J x1 hJ => ?_
  have R1 := R.ext x1
  refine ⟨fun i m σ' H' => m = ds.length - i ∧ i ≤ ds.length ∧ ∃ Γ' G', Rel X.K X.mg G1 H0 Z Γ' σ' G' H' ∧ forL g F (ds.drop i) Γ' = some r, ⟨ds.length, by simp, Nat.zero_le _, Γ, G1, R1.rebase, by simpa using hf⟩, ?_⟩
  rintro i m σ' H' ⟨rfl, hi, Γ', G', R', hr⟩
  obtain ⟨st, go⟩ := hJ i G' H' R'.gg R'.gh R'.hh
  by_cases hlt : i < ds.length
  · have hd : ds.drop i = ds[i] :: ds.drop (i + 1) := List.drop_eq_getElem_cons hlt
    obtain ⟨g1, g2⟩ := go ds[i] (List.getElem?_eq_getElem hlt)
    rw [hd] at hr
    obtain ⟨Γ1, c1, hr⟩ := obind hr
    obtain ⟨r1, c2, hr⟩ := obind hr
    refine .inr ⟨g1, fun σ2 H2 => ∃ Γ2 G2, Rel X.K X.mg G1 H0 Z Γ2 σ2 G2 H2 ∧ forL g F (ds.drop (i + 1)) Γ2 = some r, fun σ2 H2 ⟨Γ2, G2, R2, h2⟩ => ⟨ds.length - (i + 1), by omega, rfl, hlt, Γ2, G2, R2, h2⟩, fun x H2 y => ?_⟩
    obtain ⟨G2, x2, r2⟩ := g2 x H2 y
    refine t2 G1 H0 Z Γ' σ' G2 H2 _ _ x Γ1 (R'.ext x2) r2 c1 fun σ3 R3 _ => ?_
    refine u2 G1 H0 Z Γ1 σ3 G2 H2 _ r1 R3 c2 ?_
    cases r1 with
    | nx Γ2 => exact fun σ4 G4 H4 R4 => ⟨Γ2, G4, R4, hr⟩
    | ct Γ2 => exact fun σ4 G4 H4 R4 => ⟨Γ2, G4, R4, hr⟩
    | bk Γ2 => cases hr; exact fun σ4 G4 H4 R4 => k σ4 G4 H4 (R1.unbase R4)
    | rt d => cases hr; exact fun G4 H4 v x4 r4 => k G4 H4 v (R1.unext x4) r4
    | rm d s => cases hr; exact fun Γ4 σ4 G4 H4 v R4 e4 r4 => k Γ4 σ4 G4 H4 v (R1.unbase R4) e4 r4
    | ro s => cases hr; exact fun G4 H4 v F4 x4 r4 f4 => k G4 H4 v F4 (R1.unext x4) r4 f4
  · have e : i = ds.length := by omega
    subst e
    refine .inl ⟨st (Nat.le_refl _), ?_⟩
    rw [List.drop_length] at hr
    cases hr
    exact k σ' G' H' (R1.unbase R')
theorem s_while {c : Expr} {body : List Stmt} (hp : PassesOwn (model X.prog X.w) X.A X.env X.xe) (hc : T X c p) (hb : Ss X body F) : S X (.While c body [] pos) (sWhile p F) := by
  obtain ⟨t, t1, t2⟩ := hc.ex
  obtain ⟨u, u1, u2⟩ := hb.ex
  refine ⟨⟨_, ps_while hp t1 u1, fun G0 H0 Z Γ σ G H D r R hf k => ?_⟩⟩
  obtain ⟨n, hn⟩ := sWhile_some hf
  refine ⟨fun m σ' H' => ∃ Γ' G', Rel X.K X.mg G0 H0 Z Γ' σ' G' H' ∧ whileN m p F Γ' = some r, ⟨n, Γ, G, R, hn⟩, fun m σ' H' ⟨Γ', G', R', h⟩ => ?_⟩
  cases m with
  | zero => cases h
  | succ m =>
    unfold whileN at h
    obtain ⟨b, e1, h⟩ := obind h
    refine t2 G0 H0 Z Γ' σ' G' H' _ b R' e1 fun G1 H1 x1 => ?_
    cases b with
    | false =>
      cases h
      exact iteF (k σ' G1 H1 (R'.ext x1))
    | true =>
      replace h : ((F Γ').bind fun r => match r with
        | .nx Γ2 => whileN m p F Γ2
        | .ct Γ2 => whileN m p F Γ2
        | .bk Γ2 => some (.nx Γ2)
        | .rt d => some (.rt d)
        | .rm d s => some (.rm d s)
        | .ro s => some (.ro s)) = some r := h
      obtain ⟨r1, e2, h⟩ := obind h
      refine iteT ⟨fun σ2 H2 => ∃ Γ2 G2, Rel X.K X.mg G0 H0 Z Γ2 σ2 G2 H2 ∧ whileN m p F Γ2 = some r, fun σ2 H2 h => ⟨m, Nat.lt_succ_self _, h⟩, ?_⟩
      refine u2 G0 H0 Z Γ' σ' G1 H1 _ r1 (R'.ext x1) e2 ?_
      cases r1 with
      | nx Γ2 => exact fun σ4 G4 H4 R4 => ⟨Γ2, G4, R4, h⟩
      | ct Γ2 => exact fun σ4 G4 H4 R4 => ⟨Γ2, G4, R4, h⟩
      | bk Γ2 => cases h; exact fun σ4 G4 H4 R4 => k σ4 G4 H4 R4
      | rt d => cases h; exact fun G4 H4 v x4 r4 => k G4 H4 v x4 r4
      | rm d s => cases h; exact fun Γ4 σ4 G4 H4 v R4 e4 r4 => k Γ4 σ4 G4 H4 v R4 e4 r4
      | ro s => cases h; exact fun G4 H4 v F4 x4 r4 f4 => k G4 H4 v F4 x4 r4 f4
/-- y = [.. for .. in ..] -/
theorem s_setLc (i : Nat) {y : Str} {py : Pos} {elt iter : Expr} {ifs : List Expr} {scope : Scope} {own : List (Str × Nat)} {it : Ag} {spos : Pos} (hc : X.calm = true) (hN : X.N.Nodup) (hi : IC X tg iter it) (ok : BlkOk X.N X.env.scope scope own) (hix : ∀ i ∈ ix, i ∈ own.map (·.2))
    (hg : ∀ (s : Shared) (H : Hp) (C : Addr) (cl : List (Str × Addr)) (fp : List Addr), G (X.blk s H scope (compEnvC scope cl C X.env) fp) tg ix g)
    (ht : ∀ (s : Shared) (H : Hp) (C : Addr) (cl : List (Str × Addr)) (fp : List Addr), Ts (X.blk s H scope (compEnvC scope cl C X.env) fp) ifs p)
    (he : ∀ (s : Shared) (H : Hp) (C : Addr) (cl : List (Str × Addr)) (fp : List Addr), E (X.blk s H scope (compEnvC scope cl C X.env) fp) elt f)
    (hy : X.N[i]? = some y := by rfl) (hyl : X.env.scope.names.lookup y = some .local := by rfl) (hsw : swapsWith (.ListComp elt [⟨tg, iter, ifs, 0⟩] scope pos) (some (.Name y py)) spos.line X.env = pure true := by exact sw_true rfl rfl rfl (by decide +kernel)) (hs : ∀ x, foldedSetIterable iter X.env x = pure x := by intro _; rfl) (h0 : i ≠ 0 := by decide) :
    S X (.Assign [.Name y py] (.ListComp elt [⟨tg, iter, ifs, 0⟩] scope pos) spos) (sSetO i (gLc (own.map (·.2)) it g p f)) := by
  obtain ⟨wi, w1, w2⟩ := hi.ex
  refine ⟨⟨_, ps_setLc (te := fun σ H Q => ∃ G0 H0 Z Γ G d, Rel X.K X.mg G0 H0 Z Γ σ G H ∧ f Γ = some d ∧ ∀ G' H' v, Ext G H G' H' → Rep X.K X.mg G' v d → Q v H') (tt := fun σ H Q => ∃ G0 H0 Z Γ G d, Rel X.K X.mg G0 H0 Z Γ σ G H ∧ p Γ = some d ∧ ∀ G' H', Ext G H G' H' → Q d H') (g := fun v σ H Q => ∃ G0 H0 Z Γ G d Γ', Rel X.K X.mg G0 H0 Z Γ σ G H ∧ Rep X.K X.mg G v d ∧ g d Γ = some Γ' ∧ ∀ σ', Rel X.K X.mg G0 H0 Z Γ' σ' G H → (∀ vs, (∀ i ∈ ix, i ∈ vs) → L2.wipe σ' vs = L2.wipe σ vs) → Q σ' H) hc hN hy hyl hsw w1 ok (fun s H C cl fp => (hg s H C cl fp).pg) (fun s H C cl fp => (ht s H C cl fp).pt) (fun s H C cl fp => (he s H C cl fp).pe) hs, fun G0 H0 Z Γ σ G H D r R hf k => ?_⟩⟩
  obtain ⟨d, e1, hf⟩ := obind hf
  cases hf
  exact lc_run hix w2 R e1 fun G1 H1 q vs x1 hq gq h r1 => k _ G1 H1 (set_own R x1 hq gq h r1 i h0)
/-- x[k] = e of a list of one's own -/
theorem s_ixS {i : Nat} {rp : Pth} {sp : Pos} (hp : PL X o i rp) (he : E X e f) (hk : E X a k)
    (hpg : ∀ {to ti : TE}, PE X o to → PE X a ti → PG X (.Subscript o a sp) (gSub to ti rSetL) := by intro to ti ho h; exact pg_sub ho h set_list)
    (hs : swapsWithSole [.Subscript o a sp] e pos.line X.env = pure false := by rfl) (hw : swappedStores [.Subscript o a sp] e X.env = pure none := by rfl)
    (h1 : (assignEach [.Subscript o a sp] X.env).map (·.2) = [assign (.Subscript o a sp) X.env] := by rfl) : S X (.Assign [.Subscript o a sp] e pos) (sIxS i rp k f) := by
  obtain ⟨t, t1, t2⟩ := he.ex
  obtain ⟨u, u1, u2⟩ := hk.ex
  obtain ⟨w, w1, w2⟩ := hp.ex
  refine ⟨⟨_, ps_asg t1 (hpg w1 u1) hs hw h1, fun G0 H0 Z Γ σ G H D r R hf kk => ?_⟩⟩
  obtain ⟨d, e1, hf⟩ := obind hf
  obtain ⟨j, e2, hf⟩ := obind hf
  refine t2 G0 H0 Z Γ σ G H _ d R e1 fun G1 H1 v x1 r1 => ?_
  have R1 := R.ext x1
  cases q : gP i rp Γ with
  | none => rw [q] at hf; cases hf
  | some s1 =>
    rw [q] at hf
    cases s1 with
    | ow xs =>
      cases j with
      | int m =>
        replace hf : ((ixN xs.length m).bind fun m => upP i rp (.ow (xs.set m d)) Γ) = some r := hf
        obtain ⟨j, e3, hf⟩ := obind hf
        obtain ⟨s, s2, a1, a2, rfl⟩ := upP_some hf
        obtain ⟨s', b1, b2, b3⟩ := gP_some q (by simp [SlP])
        rw [a1] at b1
        cases b1
        refine w2 G0 H0 Z Γ σ G1 H1 G1 H1 _ s _ R1 (Ext.refl x1.gh) a1 b2 b3 (by simp) fun v0 pk => ?_
        refine u2 G0 H0 Z Γ σ G1 H1 _ _ R1 e2 fun G2 H2 w x2 r2 => ?_
        obtain ⟨F1, p1⟩ := pk G2 H2 x2
        obtain ⟨l, vs, rfl, d1, d2, d3⟩ := p1.list x2.gh
        rw [r2.intv]
        refine ⟨l, vs, m, j, rfl, rfl, d1, by rw [d2.length]; exact e3, ?_⟩
        exact kk σ G2 _ (d3 _ _ _ (d2.set j (r1.mono x2.gg)) a2)
      | _ => cases hf
    | _ => cases hf
end

/-! ### a def by its body -/
def runB (n : Nat) (F : Sm) : List D → Option D := fun ds => (F (ds.map Sl.sh ++ List.replicate (n - ds.length) .no)).bind fun r => match r with
  | .rt d => some d
  | .nx _ => some .non
  | _ => none
theorem start_get {N : Nat} {ds : List D} {i : Nat} {s : Sl} (h : (ds.map Sl.sh ++ List.replicate (N - ds.length) .no)[i]? = some s) : s = .no ∨ ∃ d, ds[i]? = some d ∧ s = .sh d := by
  by_cases hi : i < ds.length
  · rw [List.getElem?_append_left (by simpa using hi), List.getElem?_map, List.getElem?_eq_getElem hi] at h
    cases h
    exact .inr ⟨_, List.getElem?_eq_getElem hi, rfl⟩
  · rw [List.getElem?_append_right (by simpa using hi), List.getElem?_replicate] at h
    split at h
    · cases h; exact .inl rfl
    · cases h
theorem start_rel {K : PySem.W.Frag} {mg : Str → Option Value} {G H : Hp} {N : List Str} {vs : List V} {ds : List D} (gh : Same G H) (tb : TC.ti.t G H) (r : RepL K mg G vs ds) : Rel K mg G H ⟨TC.ti.tz, none, TC.ti⟩ (ds.map Sl.sh ++ List.replicate (N.length - ds.length) .no) (L2.start N vs) G H := by
  have hl := r.length
  unfold L2.start
  refine ⟨by simp [hl], gh, same_n (Same.refl _), Same.refl _, fun a h => .inl h, fun a z => (TC.ti.live tb a z).1, fun _ _ z => (by cases z), tb, fun _ h => h, rfl, fun _ h => h, fun _ _ => False, fun _ _ z => z.elim, fun _ _ _ z => z.elim, fun i s h => ?_⟩
  rcases start_get h with z | ⟨d, e1, rfl⟩
  · exact .inl z
  · obtain ⟨v, e2, e3⟩ := r.get i e1
    refine .inr (.inl ⟨v, ?_, .sh e3⟩)
    have hi : i < vs.length := (List.getElem?_eq_some_iff.mp e2).1
    rw [List.getElem?_append_left (by simpa using hi), List.getElem?_map, e2]
    rfl
section
variable {P : Program} {w : World} {K : PySem.W.Frag} {mg : Str → Option Value} {base : Heap}
theorem def_ok {x qual : Str} {st : Stmt} {f : Addr} {fd : FuncData} {N ps : List Str} {k : Nat} {B : Sm} (F : Fun K x qual st f fd) (S : FnScope N ps (defScope st))
    (hbody : ∀ (cdv : Value) (A : Around) (outer : List PySem.Env) (s : Shared) (H : Hp) (E : XK), Room k (A.deeper (PyProof.Rows.envOfC qual (defScope st) s.heap.objs.size f cdv)) →
      Ss (cxOf CX0 P w K mg base N qual (defScope st) f cdv A outer s H E).nox (defBody st) B) : FnOk P w K mg base CX0 (k + 1) f fd ps (spD K mg ps.length (runB N.length B)) := by
  refine F.ok S (fun vs H Q E h => ?_) (fun cdv A outer s H vs Q E hr h => ?_)
  · obtain ⟨G, ds, d, hl, _⟩ := h
    exact hl
  · obtain ⟨G, ds, d, hl, gh, tb, r, hf, k'⟩ := h
    obtain ⟨t, h1, h2⟩ := (hbody cdv A outer s H E hr).ex
    refine ⟨t, h1, ?_⟩
    obtain ⟨r1, e1, hf⟩ := obind hf
    refine h2 G H _ _ _ G H _ r1 (start_rel gh tb r) e1 ?_
    cases r1 with
    | rt d' => cases hf; exact fun G' H' v x r => k' G' H' v x r
    | nx Γ => cases hf; exact fun σ' G' H' R => k' G' H' _ R.end .non
    | rm d s => cases hf
    | ro s => cases hf
    | bk Γ => cases hf
    | ct Γ => cases hf
/-- the value said in another way -/
theorem spD_imp {n : Nat} {F F' : List D → Option D} {f : Addr} {fd : FuncData} {ps : List Str} {k : Nat} (h : FnOk P w K mg base CX0 k f fd ps (spD K mg n F)) (hF : ∀ ds d, F' ds = some d → F ds = some d) : FnOk P w K mg base CX0 k f fd ps (spD K mg n F') :=
  h.imp fun vs H Q E ⟨G, ds, d, h1, h2, h3, h3', h4, h5⟩ => ⟨G, ds, d, h1, h2, h3, h3', hF ds d h4, h5⟩
end
end DL

namespace DL
open PySem L2
variable [TC : TabCtx]

/-! ### words for callers -/
structure Cal (P : Program) (w : World) (K : PySem.W.Frag) (mg : Str → Option Value) (base : Heap) (x : Str) (L : Nat) (ps : List Str) (S : List D → Option D) : Prop where
  ex : ∃ f fd, FnOk P w K mg base CX0 L f fd ps (spD K mg ps.length S) ∧ mg x = some (.ref f) ∧ PySem.W.keepIn K (.ref f) = true ∧ Binds K fd ps []
structure Met (P : Program) (w : World) (K : PySem.W.Frag) (mg : Str → Option Value) (base : Heap) (c : Nat) (m : Str) (L : Nat) (ps : List Str) (S : List D → Option D) : Prop where
  ex : ∃ C f fd, CK K mg c C ∧ Meth K C m f ∧ FnOk P w K mg base CX0 L f fd ps (spD K mg ps.length S) ∧ Binds K fd ps []
section
variable {X : Cx} {e a b o : Expr} {es : List Expr} {f g : Ex} {fs : Ag} {pos : Pos} {n : Nat}
theorem e_callC {k L : Nat} {ps : List Str} {S : List D → Option D} {x : Str} {p : Pos} (c : Cal X.prog X.w X.K X.mg X.base x L ps S) (hr : Room k X.A) (hk : L ≤ k)
    (ha : AN X (a :: es) ps.length fs) (hg : Gl X x := by rfl) (hdb : (x == ("__debug__" : Str)) = false := by decide) (he : starEach (a :: es) X.env = (false, eval a X.env) :: starEach es X.env := by rfl) (hpl : (backTo pos (starEach es X.env)).any (·.1) = false := by rfl) :
    E X (.Call (.Name x p) (a :: es) [] pos) (gCall S fs) := by
  obtain ⟨f, fd, h1, h2, h3, h4⟩ := c.ex
  exact e_call h1 (hr.mono hk) h2 h3 h4 ha hg hdb he hpl
theorem e_callC0 {k L : Nat} {S : List D → Option D} {x : Str} {p : Pos} (c : Cal X.prog X.w X.K X.mg X.base x L [] S) (hr : Room k X.A) (hk : L ≤ k)
    (hg : Gl X x := by rfl) (hdb : (x == ("__debug__" : Str)) = false := by decide) : E X (.Call (.Name x p) [] [] pos) (gCall S aN) := by
  obtain ⟨f, fd, h1, h2, h3, h4⟩ := c.ex
  exact e_call0 h1 (hr.mono hk) h2 h3 h4 hg hdb
theorem e_metC {pl : Sem Bool} {c k L : Nat} {p0 : Str} {ps : List Str} {S : List D → Option D} {m : Str} {apos : Pos} (mt : Met X.prog X.w X.K X.mg X.base c m L (p0 :: ps) S) (hr : Room k X.A) (hk : L ≤ k)
    (ho : E X o f) (ha : AN X (a :: es) ps.length fs) (hno : m ∉ cF c := by decide +kernel)
    (hst : starEach (a :: es) X.env = (false, eval a X.env) :: starEach es X.env := by rfl) (hpl : (backTo pos (starEach es X.env)).any (·.1) = false := by rfl)
    (ht : eval (.Call (.Attribute o m apos) (a :: es) [] pos) X.env = (do
      let ov ← eval o X.env
      standAt apos.atName
      let (f, first) ← holding [ov] (getMethod ov m pl)
      callWith pos f first (backTo pos (starEach (a :: es) X.env)) (backToKw pos (keywordEach [] X.env))) := by rfl) : E X (.Call (.Attribute o m apos) (a :: es) [] pos) (gMeth c S f fs) := by
  obtain ⟨C, fa, fd, h1, h2, h3, h4⟩ := mt.ex
  exact e_meth h1 h2 h3 (hr.mono hk) h4 ho ha hno hst hpl ht
theorem e_metC0 {pl : Sem Bool} {c k L : Nat} {p0 : Str} {S : List D → Option D} {m : Str} {apos : Pos} (mt : Met X.prog X.w X.K X.mg X.base c m L [p0] S) (hr : Room k X.A) (hk : L ≤ k)
    (ho : E X o f) (hno : m ∉ cF c := by decide +kernel)
    (ht : eval (.Call (.Attribute o m apos) [] [] pos) X.env = (do
      let ov ← eval o X.env
      standAt apos.atName
      let (f, first) ← holding [ov] (getMethod ov m pl)
      callWith pos f first (backTo pos (starEach [] X.env)) (backToKw pos (keywordEach [] X.env))) := by rfl) : E X (.Call (.Attribute o m apos) [] [] pos) (gMeth c S f aN) := by
  obtain ⟨C, fa, fd, h1, h2, h3, h4⟩ := mt.ex
  exact e_meth0 h1 h2 h3 (hr.mono hk) h4 ho hno ht
/-- y = [..], known to all -/
theorem s_setLcS (i : Nat) {y : Str} {py : Pos} {elt iter tg : Expr} {ifs : List Expr} {scope : Scope} {own : List (Str × Nat)} {it : Ag} {spos : Pos} {ix : List Nat} {g : Gs} {p : Te} (hc : X.calm = true) (hN : X.N.Nodup) (hi : IC X tg iter it) (ok : BlkOk X.N X.env.scope scope own) (hix : ∀ i ∈ ix, i ∈ own.map (·.2))
    (hg : ∀ (s : Shared) (H : Hp) (C : Addr) (cl : List (Str × Addr)) (fp : List Addr), G (X.blk s H scope (compEnvC scope cl C X.env) fp) tg ix g)
    (ht : ∀ (s : Shared) (H : Hp) (C : Addr) (cl : List (Str × Addr)) (fp : List Addr), Ts (X.blk s H scope (compEnvC scope cl C X.env) fp) ifs p)
    (he : ∀ (s : Shared) (H : Hp) (C : Addr) (cl : List (Str × Addr)) (fp : List Addr), E (X.blk s H scope (compEnvC scope cl C X.env) fp) elt f)
    (hy : X.N[i]? = some y := by rfl) (hyl : X.env.scope.names.lookup y = some .local := by rfl) (hsw : swapsWith (.ListComp elt [⟨tg, iter, ifs, 0⟩] scope pos) (some (.Name y py)) spos.line X.env = pure true := by exact sw_true rfl rfl rfl (by decide +kernel)) (hs : ∀ x, foldedSetIterable iter X.env x = pure x := by intro _; rfl) (h0 : i ≠ 0 := by decide) :
    S X (.Assign [.Name y py] (.ListComp elt [⟨tg, iter, ifs, 0⟩] scope pos) spos) (sSet i (gL (gLc (own.map (·.2)) it g p f))) := by
  obtain ⟨t, h1, h2⟩ := (s_setLc (f := f) (py := py) (spos := spos) (pos := pos) i hc hN hi ok hix hg ht he hy hyl hsw hs h0).ex
  refine ⟨⟨t, h1, fun G0 H0 Z Γ σ G H D r R hf k => ?_⟩⟩
  obtain ⟨d, e1, hf⟩ := obind hf
  obtain ⟨ds, e2, e1⟩ := obind e1
  cases e1
  cases hf
  refine h2 G0 H0 Z Γ σ G H D (.nx (Γ.set i (.ow ds))) R (by show (gLc _ _ _ _ _ Γ).bind _ = _; rw [e2]; rfl) fun σ1 G1 H1 R1 => ?_
  by_cases hi : i < Γ.length
  · have q : (Γ.set i (.ow ds))[i]? = some (.ow ds) := by simp [hi]
    obtain ⟨G2, R2, _⟩ := R1.frzP (rp := []) (d := .lst ds) q rfl (by simp) (by simp [SlP]) rfl rfl
    rw [List.set_set] at R2
    exact k σ1 G2 H1 R2
  · have e : ∀ s, Γ.set i s = Γ := fun s => List.set_eq_of_length_le (by omega)
    rw [e] at R1
    refine k σ1 G1 H1 ?_
    rw [e]
    exact R1
theorem v_notT (h : B X e f) : V1 X (.UnaryOp .Not e pos) (gNot (gTru f)) := by
  obtain ⟨t, h1, h2⟩ := h.ex
  refine ⟨⟨⟨_, pe_notT h1, fun G0 H0 Z Γ σ G H Q c R hf k => ?_⟩⟩⟩
  obtain ⟨d0, e0, hf⟩ := obind hf
  cases hf
  obtain ⟨d1, e1, hf⟩ := obind e0
  cases hf
  obtain ⟨d2, e2, hf⟩ := obind e1
  refine h2 G0 H0 Z Γ σ G H _ _ R e2 fun G' H' v x r => ?_
  have z := dTru_ok x.gh hf r
  exact ⟨d1, z, k G' H' _ x (.bl _)⟩
end
theorem boot_len' : bootBuiltins "len" = some (.builtin "len") := PySem.boot_len
theorem boot_abs' : bootBuiltins "abs" = some (.builtin "abs") := by decide +kernel
theorem boot_max' : bootBuiltins "max" = some (.builtin "max") := by decide +kernel
theorem boot_min' : bootBuiltins "min" = some (.builtin "min") := by decide +kernel
theorem boot_sum' : bootBuiltins "sum" = some (.builtin "sum") := by decide +kernel
theorem boot_all' : bootBuiltins "all" = some (.builtin "all") := by decide +kernel
theorem boot_any' : bootBuiltins "any" = some (.builtin "any") := by decide +kernel
theorem boot_sorted' : bootBuiltins "sorted" = some (.builtin "sorted") := by decide +kernel
theorem boot_isinstance' : bootBuiltins "isinstance" = some (.builtin "isinstance") := by decide +kernel
theorem boot_int' : bootBuiltins "int" = some (.type "int") := by decide +kernel
theorem boot_list' : bootBuiltins "list" = some (.type "list") := by decide +kernel
theorem boot_bool' : bootBuiltins "bool" = some (.type "bool") := by decide +kernel
theorem boot_tuple' : bootBuiltins "tuple" = some (.type "tuple") := by decide +kernel
theorem boot_str' : bootBuiltins "str" = some (.type "str") := by decide +kernel
end DL

namespace DL
open PySem L2
variable [TC : TabCtx]

/-! ### reckoning a meaning step by step -/
section
variable {Γ Γ1 Γ2 : DEnv} {f g k : Ex} {fs : Ag} {p q : Te} {F F' F'' : Sm} {d x y z : D} {ds : List D} {b c : Bool} {r : Option Res} {o : D → D → Option D} {u : D → Option D} {i n : Nat} {m j : Int}
theorem ev_V (h : Γ[i]? = some (.sh d)) : gV i Γ = some d := by unfold gV; rw [h]
theorem ev_B (h : Γ[i]? = some (.sh d)) : gB i Γ = some d := by unfold gB; rw [h]
theorem ev_Bo {xs : List D} (h : Γ[i]? = some (.ow xs)) : gB i Γ = some (.lst xs) := by unfold gB; rw [h]
theorem ev_I : gI m Γ = some (.int m) := rfl
theorem ev_C : gC d Γ = some d := rfl
theorem ev_op (h1 : f Γ = some x) (h2 : g Γ = some y) (h3 : o x y = some d) : gOp o f g Γ = some d := by unfold gOp; rw [h1]; show (g Γ).bind _ = _; rw [h2]; exact h3
theorem ev_U (h1 : f Γ = some x) (h2 : u x = some d) : gU u f Γ = some d := by unfold gU; rw [h1]; exact h2
theorem ev_call {S : List D → Option D} (h1 : fs Γ = some ds) (h2 : S ds = some d) : gCall S fs Γ = some d := by unfold gCall; rw [h1]; exact h2
theorem ev_A {S : List D → Option D} (h1 : fs Γ = some ds) (h2 : S ds = some d) : gA S fs Γ = some d := by unfold gA; rw [h1]; exact h2
theorem ev_cs (h1 : f Γ = some d) (h2 : fs Γ = some ds) : aC f fs Γ = some (d :: ds) := by unfold aC; rw [h1]; show (fs Γ).bind _ = _; rw [h2]; rfl
theorem ev_nl : aN Γ = some [] := rfl
theorem ev_tu (h : fs Γ = some ds) : gTu n fs Γ = some (.tup ds) := by unfold gTu; rw [h]; rfl
theorem ev_L (h : fs Γ = some ds) : gL fs Γ = some (.lst ds) := by unfold gL; rw [h]; rfl
theorem ev_UL {u : D → Option (List D)} (h1 : f Γ = some x) (h2 : u x = some ds) : gUL u f Γ = some ds := by unfold gUL; rw [h1]; exact h2
theorem ev_Sl {fl fh : Op} {l h : Option Int} (h1 : f Γ = some x) (h2 : fl Γ = some l) (h3 : fh Γ = some h) (h4 : dCut x l h = some ds) : gSl f fl fh Γ = some ds := by unfold gSl; rw [h1]; show (fl Γ).bind _ = _; rw [h2]; show (fh Γ).bind _ = _; rw [h3]; exact h4
theorem ev_No : gNo Γ = some none := rfl
theorem ev_So (h : f Γ = some (.int m)) : gSo f Γ = some (some m) := by unfold gSo; rw [h]; rfl
theorem ev_meth {c : Nat} {S : List D → Option D} {vs : List D} (h1 : f Γ = some (.obj c vs)) (h2 : fs Γ = some ds) (h3 : S (.obj c vs :: ds) = some d) : gMeth c S f fs Γ = some d := by
  unfold gMeth; rw [h1]; show (if c = c then (fs Γ).bind fun ds => S (.obj c vs :: ds) else none) = _
  rw [if_pos rfl, h2]; exact h3
theorem ev_T (h : f Γ = some (.bl b)) : gT f Γ = some b := by unfold gT; rw [h]; rfl
theorem ev_Tru (h1 : f Γ = some x) (h2 : dTru x = some b) : gTru f Γ = some b := by unfold gTru; rw [h1]; exact h2
theorem ev_not (h : p Γ = some b) : gNot p Γ = some (!b) := by unfold gNot; rw [h]; rfl
theorem ev_and (h1 : p Γ = some b) (h2 : q Γ = some c) : gAnd p q Γ = some (b && c) := by unfold gAnd; rw [h1]; cases b <;> first | exact h2 | rfl
/-- the right one is asked only if the left one is true -/
theorem ev_andT (h1 : p Γ = some b) (h2 : b = true → q Γ = some c) : gAnd p q Γ = some (b && c) := by unfold gAnd; rw [h1]; cases b <;> first | exact h2 rfl | rfl
theorem ev_andF (h1 : p Γ = some false) : gAnd p q Γ = some false := by unfold gAnd; rw [h1]; rfl
theorem ev_or (h1 : p Γ = some b) (h2 : q Γ = some c) : gOr p q Γ = some (b || c) := by unfold gOr; rw [h1]; cases b <;> first | exact h2 | rfl
theorem ev_orF (h1 : p Γ = some b) (h2 : b = false → q Γ = some c) : gOr p q Γ = some (b || c) := by unfold gOr; rw [h1]; cases b <;> first | exact h2 rfl | rfl
theorem ev_orT (h1 : p Γ = some true) : gOr p q Γ = some true := by unfold gOr; rw [h1]; rfl
theorem ev_bl (h : p Γ = some b) : gBl p Γ = some (.bl b) := by unfold gBl; rw [h]; rfl
theorem ev_if (h1 : p Γ = some b) (h2 : b = true → f Γ = some d) (h3 : b = false → g Γ = some d) : gIf p f g Γ = some d := by unfold gIf; rw [h1]; cases b <;> first | exact h2 rfl | exact h3 rfl
theorem ev_ch {ch : D → Te} (h1 : f Γ = some x) (h2 : ch x Γ = some b) : gCh f ch Γ = some b := by unfold gCh; rw [h1]; exact h2
theorem ev_ch1 (h1 : f Γ = some y) (h2 : o x y = some (.bl b)) : gCh1 o f x Γ = some b := by unfold gCh1; rw [h1]; show dB (o x y) = _; rw [h2]; rfl
theorem ev_chn {ch : D → Te} (h1 : f Γ = some y) (h2 : o x y = some (.bl b)) (h3 : ch y Γ = some c) : gChn o f ch x Γ = some (b && c) := by
  unfold gChn; rw [h1]; show (dB (o x y)).bind _ = _; rw [h2]; show (if b = true then ch y Γ else some false) = _
  cases b <;> first | exact h3 | rfl
theorem ev_chnT {ch : D → Te} (h1 : f Γ = some y) (h2 : o x y = some (.bl b)) (h3 : b = true → ch y Γ = some c) : gChn o f ch x Γ = some (b && c) := by
  unfold gChn; rw [h1]; show (dB (o x y)).bind _ = _; rw [h2]; show (if b = true then ch y Γ else some false) = _
  cases b <;> first | exact h3 rfl | rfl
/-! statements -/
theorem sv_run {N : Nat} {B : Sm} (h : B (ds.map Sl.sh ++ List.replicate (N - ds.length) .no) = some (.rt d)) : runB N B ds = some d := by unfold runB; rw [h]; rfl
theorem sv_runN {N : Nat} {B : Sm} (h : B (ds.map Sl.sh ++ List.replicate (N - ds.length) .no) = some (.nx Γ)) : runB N B ds = some .non := by unfold runB; rw [h]; rfl
theorem sv_nx (h : F Γ = some (.nx Γ1)) (k : F' Γ1 = r) : sSeq F F' Γ = r := by unfold sSeq; rw [h]; exact k
theorem sv_rt (h : F Γ = some (.rt d)) : sSeq F F' Γ = some (.rt d) := by unfold sSeq; rw [h]; rfl
theorem sv_bk (h : F Γ = some (.bk Γ1)) : sSeq F F' Γ = some (.bk Γ1) := by unfold sSeq; rw [h]; rfl
theorem sv_ct (h : F Γ = some (.ct Γ1)) : sSeq F F' Γ = some (.ct Γ1) := by unfold sSeq; rw [h]; rfl
theorem sv_set (h : f Γ = some d) : sSet i f Γ = some (.nx (Γ.set i (.sh d))) := by unfold sSet; rw [h]; rfl
theorem sv_setO (h : fs Γ = some ds) : sSetO i fs Γ = some (.nx (Γ.set i (.ow ds))) := by unfold sSetO; rw [h]; rfl
theorem sv_exp (h : f Γ = some d) : sExp f Γ = some (.nx Γ) := by unfold sExp; rw [h]; rfl
theorem sv_ret (h : f Γ = some d) : sRet f Γ = some (.rt d) := by unfold sRet; rw [h]; rfl
theorem sv_unp {gs : Gs} (h : f Γ = some d) (h2 : gs d Γ = some Γ1) : sUnp gs f Γ = some (.nx Γ1) := by unfold sUnp; rw [h]; show (gs d Γ).bind _ = _; rw [h2]; rfl
theorem sv_par {is : List Nat} (h : fs Γ = some ds) : sPar is fs Γ = some (.nx ((is.zip ds).foldl (fun Γ p => Γ.set p.1 (.sh p.2)) Γ)) := by unfold sPar; rw [h]; rfl
theorem sv_if (h : p Γ = some b) (h1 : b = true → F Γ = r) (h2 : b = false → F' Γ = r) : sIf p F F' Γ = r := by unfold sIf; rw [h]; cases b <;> first | exact h1 rfl | exact h2 rfl
theorem sv_ifT (h : p Γ = some true) (h1 : F Γ = r) : sIf p F F' Γ = r := sv_if h (fun _ => h1) (fun e => nomatch e)
theorem sv_ifF (h : p Γ = some false) (h1 : F' Γ = r) : sIf p F F' Γ = r := sv_if h (fun e => nomatch e) (fun _ => h1)
/-- an if in a row of statements: both ways go on by themselves -/
theorem sv_ifS (h : p Γ = some b) (h1 : b = true → sSeq F F'' Γ = r) (h2 : b = false → sSeq F' F'' Γ = r) : sSeq (sIf p F F') F'' Γ = r := by
  unfold sSeq sIf; rw [h]
  cases b
  · exact h2 rfl
  · exact h1 rfl
theorem sv_nil : sNil Γ = some (.nx Γ) := rfl
theorem sv_nilS : sSeq sNil F Γ = F Γ := rfl
theorem sv_seqA : sSeq (sSeq F F') F'' Γ = sSeq F (sSeq F' F'') Γ := by
  unfold sSeq
  cases F Γ with
  | none => rfl
  | some r => cases r <;> rfl
theorem sv_app {rp : Pth} {xs : List D} {s s2 : Sl} (h : f Γ = some d) (h0 : Γ[i]? = some s) (h1 : getR rp s = some (.ow xs)) (h2 : xs.length < 1000000) (h3 : setR rp (.ow (xs ++ [d])) s = some s2) : sApp i rp f Γ = some (.nx (Γ.set i s2)) := by
  unfold sApp; rw [h]
  show (match gP i rp Γ with | some (.ow xs) => if xs.length < 1000000 then upP i rp (.ow (xs ++ [d])) Γ else none | _ => none) = _
  have e : gP i rp Γ = some (.ow xs) := by unfold gP; rw [h0]; exact h1
  rw [e]; show (if xs.length < 1000000 then upP i rp (.ow (xs ++ [d])) Γ else none) = _
  rw [if_pos h2]; unfold upP; rw [h0]; show (setR rp (.ow (xs ++ [d])) s).bind _ = _; rw [h3]; rfl
theorem sv_app0 {xs : List D} (h : f Γ = some d) (h1 : Γ[i]? = some (.ow xs)) (h2 : xs.length < 1000000) : sApp i [] f Γ = some (.nx (Γ.set i (.ow (xs ++ [d])))) := sv_app h h1 rfl h2 rfl
theorem sv_aug (h1 : Γ[i]? = some (.sh x)) (h2 : f Γ = some y) (h3 : o x y = some d) : sAug o i f Γ = some (.nx (Γ.set i (.sh d))) := by
  unfold sAug; rw [ev_V h1]; show (f Γ).bind _ = _; rw [h2]; show (o x y).bind _ = _; rw [h3]; rfl
theorem sv_frz (h : F (frzE i Γ) = r) : sFrz i F Γ = r := h
theorem sv_for {it : Ag} {gs : Gs} (h : it Γ = some ds) (h2 : forL gs F ds Γ = r) : sFor it gs F Γ = r := by unfold sFor; rw [h]; exact h2
/-! .. in a row -/
theorem sq_set (h : f Γ = some d) (k : F' (Γ.set i (.sh d)) = r) : sSeq (sSet i f) F' Γ = r := sv_nx (sv_set h) k
theorem sq_setO (h : fs Γ = some ds) (k : F' (Γ.set i (.ow ds)) = r) : sSeq (sSetO i fs) F' Γ = r := sv_nx (sv_setO h) k
theorem sq_exp (h : f Γ = some d) (k : F' Γ = r) : sSeq (sExp f) F' Γ = r := sv_nx (sv_exp h) k
theorem sq_unp {gs : Gs} (h : f Γ = some d) (h2 : gs d Γ = some Γ1) (k : F' Γ1 = r) : sSeq (sUnp gs f) F' Γ = r := sv_nx (sv_unp h h2) k
theorem sq_par {is : List Nat} (h : fs Γ = some ds) (k : F' ((is.zip ds).foldl (fun Γ p => Γ.set p.1 (.sh p.2)) Γ) = r) : sSeq (sPar is fs) F' Γ = r := sv_nx (sv_par h) k
theorem sq_app {xs : List D} (h : f Γ = some d) (h1 : Γ[i]? = some (.ow xs)) (h2 : xs.length < 1000000) (k : F' (Γ.set i (.ow (xs ++ [d]))) = r) : sSeq (sApp i [] f) F' Γ = r := sv_nx (sv_app0 h h1 h2) k
theorem sq_aug (h1 : Γ[i]? = some (.sh x)) (h2 : f Γ = some y) (h3 : o x y = some d) (k : F' (Γ.set i (.sh d)) = r) : sSeq (sAug o i f) F' Γ = r := sv_nx (sv_aug h1 h2 h3) k
theorem sq_frz (h : sSeq F F' (frzE i Γ) = r) : sSeq (sFrz i F) F' Γ = r := h
theorem sq_nil (h : F Γ = r) : sSeq sNil F Γ = r := h
theorem sq_ret (h : f Γ = some d) : sSeq (sRet f) F Γ = some (.rt d) := sv_rt (sv_ret h)
/-- an if that sets one name on each way -/
theorem sq_ifV {P : D → Prop} (h : p Γ = some b) (h1 : b = true → ∃ d, P d ∧ F Γ = some (.nx (Γ.set i (.sh d)))) (h2 : b = false → ∃ d, P d ∧ F' Γ = some (.nx (Γ.set i (.sh d)))) (k : ∀ d, P d → F'' (Γ.set i (.sh d)) = r) : sSeq (sIf p F F') F'' Γ = r := by
  cases b with
  | true => obtain ⟨d, hd, e⟩ := h1 rfl; exact sv_nx (sv_ifT h e) (k d hd)
  | false => obtain ⟨d, hd, e⟩ := h2 rfl; exact sv_nx (sv_ifF h e) (k d hd)
theorem sq_ifX {Q : DEnv → Prop} (h : p Γ = some b) (h1 : b = true → ∃ Γ', Q Γ' ∧ F Γ = some (.nx Γ')) (h2 : b = false → ∃ Γ', Q Γ' ∧ F' Γ = some (.nx Γ')) (k : ∀ Γ', Q Γ' → F'' Γ' = r) : sSeq (sIf p F F') F'' Γ = r := by
  cases b with
  | true => obtain ⟨d, hd, e⟩ := h1 rfl; exact sv_nx (sv_ifT h e) (k d hd)
  | false => obtain ⟨d, hd, e⟩ := h2 rfl; exact sv_nx (sv_ifF h e) (k d hd)
/-- a test that is false, nothing is done -/
theorem sq_ifN (h : p Γ = some b) (hb : b = false) (k : F'' Γ = r) : sSeq (sIf p F sNil) F'' Γ = r := sv_nx (sv_ifF (by rw [h, hb]) rfl) k
theorem sv_ifN (h : p Γ = some b) (hb : b = false) : sIf p F sNil Γ = some (.nx Γ) := sv_ifF (by rw [h, hb]) rfl
/-! loops -/
theorem forL_nil {gs : Gs} : forL gs F [] Γ = some (.nx Γ) := rfl
theorem forL_nx {gs : Gs} (h : gs d Γ = some Γ1) (h2 : F Γ1 = some (.nx Γ2)) (k : forL gs F ds Γ2 = r) : forL gs F (d :: ds) Γ = r := by
  show (gs d Γ).bind _ = _; rw [h]; show (F Γ1).bind _ = _; rw [h2]; exact k
theorem forL_ct {gs : Gs} (h : gs d Γ = some Γ1) (h2 : F Γ1 = some (.ct Γ2)) (k : forL gs F ds Γ2 = r) : forL gs F (d :: ds) Γ = r := by
  show (gs d Γ).bind _ = _; rw [h]; show (F Γ1).bind _ = _; rw [h2]; exact k
theorem forL_rt {gs : Gs} (h : gs d Γ = some Γ1) (h2 : F Γ1 = some (.rt x)) : forL gs F (d :: ds) Γ = some (.rt x) := by
  show (gs d Γ).bind _ = _; rw [h]; show (F Γ1).bind _ = _; rw [h2]; rfl
theorem forL_bk {gs : Gs} (h : gs d Γ = some Γ1) (h2 : F Γ1 = some (.bk Γ2)) : forL gs F (d :: ds) Γ = some (.nx Γ2) := by
  show (gs d Γ).bind _ = _; rw [h]; show (F Γ1).bind _ = _; rw [h2]; rfl
/-- a loop that is not left, by its invariant -/
theorem forL_inv {gs : Gs} (Iv : List D → DEnv → Prop) (hs : ∀ d ds Γ, Iv (d :: ds) Γ → ∃ Γ1 Γ2, gs d Γ = some Γ1 ∧ (F Γ1 = some (.nx Γ2) ∨ F Γ1 = some (.ct Γ2)) ∧ Iv ds Γ2) : ∀ (ds : List D) (Γ : DEnv), Iv ds Γ → ∃ Γ', forL gs F ds Γ = some (.nx Γ') ∧ Iv [] Γ'
  | [], Γ, h => ⟨Γ, rfl, h⟩
  | d :: ds, Γ, h => by
    obtain ⟨Γ1, Γ2, h1, h2, h3⟩ := hs d ds Γ h
    obtain ⟨Γ', h4, h5⟩ := forL_inv Iv hs ds Γ2 h3
    rcases h2 with h2 | h2
    · exact ⟨Γ', forL_nx h1 h2 h4, h5⟩
    · exact ⟨Γ', forL_ct h1 h2 h4, h5⟩
theorem compL_nil {gs : Gs} : compL gs p f [] Γ = some [] := rfl
/-- a comprehension without a test: each item by itself -/
theorem compL_map {gs : Gs} {α : Type} (xs : List α) (u v : α → D) (h : ∀ a ∈ xs, ∃ Γ1, gs (u a) Γ = some Γ1 ∧ f Γ1 = some (v a)) : compL gs gYes f (xs.map u) Γ = some (xs.map v) := by
  induction xs with
  | nil => rfl
  | cons a xs ih =>
    obtain ⟨Γ1, h1, h2⟩ := h a List.mem_cons_self
    rw [List.map_cons, List.map_cons]
    show (gs (u a) Γ).bind _ = _
    rw [h1]
    show (f Γ1).bind _ = _
    rw [h2]
    show (compL gs gYes f (xs.map u) Γ).bind _ = _
    rw [ih fun b hb => h b (List.mem_cons_of_mem _ hb)]
    rfl
/-- .. with a test -/
theorem compL_filter {gs : Gs} {α : Type} (xs : List α) (u v : α → D) (t : α → Bool) (h : ∀ a ∈ xs, ∃ Γ1, gs (u a) Γ = some Γ1 ∧ p Γ1 = some (t a) ∧ (t a = true → f Γ1 = some (v a))) : compL gs p f (xs.map u) Γ = some ((xs.filter t).map v) := by
  induction xs with
  | nil => rfl
  | cons a xs ih =>
    obtain ⟨Γ1, h1, h2, h3⟩ := h a List.mem_cons_self
    have ih := ih fun b hb => h b (List.mem_cons_of_mem _ hb)
    rw [List.map_cons]
    show (gs (u a) Γ).bind _ = _
    rw [h1]
    show (p Γ1).bind _ = _
    rw [h2]
    cases e : t a with
    | true =>
      show (f Γ1).bind _ = _
      rw [h3 e]
      show (compL gs p f (xs.map u) Γ).bind _ = _
      rw [ih, List.filter_cons_of_pos e]
      rfl
    | false =>
      show compL gs p f (xs.map u) Γ = _
      rw [ih, List.filter_cons_of_neg (by rw [e]; simp)]
theorem ev_lc {own : List Nat} {it : Ag} {gs : Gs} {ds' : List D} (h : it Γ = some ds) (hl : ds.length < 1000000) (h2 : compL gs p f ds (wipeE Γ own) = some ds') : gLc own it gs p f Γ = some ds' := by
  unfold gLc; rw [h]; show (if ds.length < 1000000 then compL gs p f ds (wipeE Γ own) else none) = _
  rw [if_pos hl]; exact h2
theorem ev_it (h : f Γ = some (.lst ds)) : gIt f Γ = some ds := by unfold gIt; rw [h]; rfl
theorem ev_itT (h : f Γ = some (.tup ds)) : gIt f Γ = some ds := by unfold gIt; rw [h]; rfl
theorem ev_itS {ns : List Int} (h : f Γ = some (.scr ns)) : gIt f Γ = some (ns.map D.int) := by unfold gIt; rw [h]; rfl
theorem ev_rng1 (h : fs Γ = some [.int m]) (h1 : -(2 ^ 62) ≤ m) (h2 : m < 2 ^ 62) : gRng fs Γ = some (rngD 0 m.toNat) := by
  unfold gRng; rw [h]; show (if -(2 ^ 62) ≤ m ∧ m < 2 ^ 62 then some (rngD 0 m.toNat) else none) = _; rw [if_pos ⟨h1, h2⟩]
theorem ev_rng2 (h : fs Γ = some [.int m, .int j]) (h1 : -(2 ^ 62) ≤ m) (h2 : m < 2 ^ 62) (h3 : -(2 ^ 62) ≤ j) (h4 : j < 2 ^ 62) : gRng fs Γ = some (rngD m (j - m).toNat) := by
  unfold gRng; rw [h]; show (if -(2 ^ 62) ≤ m ∧ m < 2 ^ 62 ∧ -(2 ^ 62) ≤ j ∧ j < 2 ^ 62 then some (rngD m (j - m).toNat) else none) = _; rw [if_pos ⟨h1, h2, h3, h4⟩]
theorem d_all {bs : List Bool} : dAll (.lst (bs.map D.bl)) = some (.bl (bs.all id)) := by show (bls? (bs.map D.bl)).bind _ = _; rw [bls?_map]; rfl
theorem d_any {bs : List Bool} : dAny (.lst (bs.map D.bl)) = some (.bl (bs.any id)) := by show (bls? (bs.map D.bl)).bind _ = _; rw [bls?_map]; rfl
theorem d_sum {ns : List Int} : dSum (.lst (ns.map D.int)) = some (.int ns.sum) := by show (ints? (ns.map D.int)).bind _ = _; rw [ints?_map]; rfl
theorem d_max {ns : List Int} (h : ns ≠ []) : dMax (.lst (ns.map D.int)) = some (.int (maxI ns)) := by show (ints? (ns.map D.int)).bind _ = _; rw [ints?_map]; cases ns with | nil => exact absurd rfl h | cons => rfl
theorem d_min {ns : List Int} (h : ns ≠ []) : dMin (.lst (ns.map D.int)) = some (.int (minI ns)) := by show (ints? (ns.map D.int)).bind _ = _; rw [ints?_map]; cases ns with | nil => exact absurd rfl h | cons => rfl
theorem d_sorted {ns : List Int} : dSorted (.lst (ns.map D.int)) = some ((srt ns).map D.int) := by show (ints? (ns.map D.int)).bind _ = _; rw [ints?_map]; rfl
/-! data -/
theorem d_add : dAdd (.int m) (.int j) = some (.int (m + j)) := rfl
theorem d_sub : dSub (.int m) (.int j) = some (.int (m - j)) := rfl
theorem mulOk_l (h1 : -(2 ^ 64) < m) (h2 : m < 2 ^ 64) : mulOk m j = true := by
  have h := intBits_le_64 h1 h2
  have h' : ¬ (Builtin.Int.intBits m > shortFactorBits) := Nat.not_lt.mpr h
  unfold mulOk
  rw [decide_eq_false h']
  rfl
theorem mulOk_r (h1 : -(2 ^ 64) < j) (h2 : j < 2 ^ 64) : mulOk m j = true := by
  have h := intBits_le_64 h1 h2
  have h' : ¬ (Builtin.Int.intBits j > shortFactorBits) := Nat.not_lt.mpr h
  unfold mulOk
  rw [decide_eq_false h', Bool.and_false]
  rfl
theorem d_mul (h : mulOk m j = true) : dMul (.int m) (.int j) = some (.int (m * j)) := by show (if mulOk m j = true then some (D.int (m * j)) else none) = _; rw [if_pos h]
theorem d_div (h : 0 < j) (h2 : j.natAbs.log2 < 9000) : dDiv (.int m) (.int j) = some (.int (m / j)) := by show (if 0 < j ∧ j.natAbs.log2 < 9000 then some (D.int (m / j)) else none) = _; rw [if_pos ⟨h, h2⟩]
theorem log_of {k : Nat} (h : j.natAbs < 2 ^ k) (hk : 0 < k) (h9 : k ≤ 9000) : j.natAbs.log2 < 9000 := Nat.lt_of_lt_of_le (PySem.Flt.log2_lt_of hk h) h9
theorem d_mod (h : 0 < j) : dMod (.int m) (.int j) = some (.int (m % j)) := by show (if 0 < j then some (D.int (m % j)) else none) = _; rw [if_pos h]
theorem d_pow (h : 0 ≤ j ∧ j ≤ 1000000 ∧ m.natAbs < 2 ^ 64) : dPow (.int m) (.int j) = some (.int (m ^ j.toNat)) := by show (if 0 ≤ j ∧ j ≤ 1000000 ∧ m.natAbs < 2 ^ 64 then some (D.int (m ^ j.toNat)) else none) = _; rw [if_pos h]
theorem d_eq {bb : Bool} (h1 : eqOk x = true) (h2 : eqOk y = true) (h : eqd x y = bb) : dEq x y = some (.bl bb) := by unfold dEq; rw [h1, h2]; show some (D.bl (eqd x y)) = _; rw [h]
theorem d_ne {bb : Bool} (h1 : eqOk x = true) (h2 : eqOk y = true) (h : eqd x y = bb) : dNe x y = some (.bl (!bb)) := by unfold dNe; rw [h1, h2]; show some (D.bl (!eqd x y)) = _; rw [h]
theorem eqd_int : eqd (.int m) (.int j) = (m == j) := by unfold eqd toPy; rfl
theorem eqd_bl {a b : Bool} : eqd (.bl a) (.bl b) = (a == b) := by unfold eqd toPy; rfl
theorem eqOk_int : eqOk (.int m) = true := by unfold eqOk pyOk toPy; rfl
theorem eqOk_bl : eqOk (.bl b) = true := by unfold eqOk pyOk toPy; rfl
theorem eqOk_non : eqOk .non = true := by unfold eqOk pyOk toPy; rfl
theorem d_lenL {xs : List D} : dLen (.lst xs) = some (.int xs.length) := rfl
theorem d_lenS {ns : List Int} : dLen (.scr ns) = some (.int ns.length) := rfl
theorem d_ixL {xs : List D} {k : Nat} (h : xs[k]? = some d) : dIx (.lst xs) (.int (k : Nat)) = some d := atI_nat h
end
end DL

namespace DL
open PySem L2
variable [TC : TabCtx]

/-! ### zip of three lists -/
def Itz3 (K : PySem.W.Frag) (a b c : Addr) : It :=
  ⟨fun i H => ∃ (xs ys zs : List V) (x y z : V), SqL K H a xs ∧ SqL K H b ys ∧ SqL K H c zs ∧ xs[i]? = some x ∧ ys[i]? = some y ∧ zs[i]? = some z,
    fun i H v H' => ∃ T x y z, v = .ref T ∧ H T = none ∧ H' = upd H T (.tup [x, y, z]) ∧ (∀ xs, SqL K H a xs → xs[i]? = some x) ∧ (∀ ys, SqL K H b ys → ys[i]? = some y) ∧ ∀ zs, SqL K H c zs → zs[i]? = some z,
    fun i H => ∃ xs ys zs : List V, SqL K H a xs ∧ SqL K H b ys ∧ SqL K H c zs ∧ (xs.length ≤ i ∨ ys.length ≤ i ∨ zs.length ≤ i)⟩
/-- a list's iterator at i, as one that draws: up to the list's end, or not at all -/
theorem draws_at {prog : Program} {w : World} {A : Around} (hh : A.handled = none) (it l : Addr) (hne : l ≠ it) (items : Array Value) (i : Nat) :
    ∃ n P St, Draws prog w A it [it, l] n P St ∧ i ≤ n ∧ (items.size ≤ i → i = n) ∧ ∀ h : Heap, h.IsListIter it l i → h.IsList l items → St i h := by
  by_cases hi : i < items.size
  · exact ⟨_, _, _, Draws.list hh it l hne items, by omega, fun z => by omega, fun h a b => ⟨a, b⟩⟩
  · refine ⟨i, fun _ _ => False, fun j h => j = i ∧ h.IsListIter it l i ∧ h.IsList l items, ⟨fun _ _ st => let ⟨o, ho, _⟩ := st.2.1; ⟨o, ho⟩, fun _ _ _ st hk => ⟨st.1, st.2.1.at fun o e => hk it (by simp) o e, st.2.2.at fun o e => hk l (by simp) o e⟩, fun j s Q E hj st hQ => absurd st.1 (by omega), fun s Q E st hE => ?_⟩, Nat.le_refl _, fun _ => rfl, fun h a b => ⟨rfl, a, b⟩⟩
    exact wpAny_nextOf_list_end hh st.2.1 st.2.2 (by simp; omega) hE
theorem turn_zip3 {P : Program} {w : World} {K : PySem.W.Frag} {elts : List Expr} {kk : Nat} {tpos : Pos} {a b c z TI TO i1 i2 i3 : Addr} (D : ZipSep3 z TI TO i1 i2 i3 [i1, a] [i2, b] [i3, c]) (na : a ≠ i1) (nb : b ≠ i2) (nc : c ≠ i3) :
    Turn P w K (.Tuple elts kk tpos) (Itz3 K a b c) [z, TI, TO, i1, i2, i3] z (fun i h => IsZip h z TI TO .none ∧ IsTupOf3 h TI (.ref i1) (.ref i2) (.ref i3) ∧ (∃ x y u, IsTupOf3 h TO x y u) ∧ h.IsListIter i1 a i ∧ h.IsListIter i2 b i ∧ h.IsListIter i3 c i) where
  mem := by simp
  obj := fun i h st q hq => by
    obtain ⟨hz, hTI, ⟨x, y, u, hTO⟩, ⟨o1, e1, _, d1⟩, ⟨o2, e2, _, d2⟩, ⟨o3, e3, _, d3⟩⟩ := st
    have e' : q = z ∨ q = TI ∨ q = TO ∨ q = i1 ∨ q = i2 ∨ q = i3 := by simpa using hq
    rcases e' with q | q | q | q | q | q
    · rw [q]; exact ⟨_, hz, fun v q => nomatch q⟩
    · rw [q]; exact ⟨_, hTI, fun v q => nomatch q⟩
    · rw [q]; exact ⟨_, hTO, fun v q => nomatch q⟩
    · rw [q]; exact ⟨o1, e1, fun v q => by rw [d1] at q; cases q⟩
    · rw [q]; exact ⟨o2, e2, fun v q => by rw [d2] at q; cases q⟩
    · rw [q]; exact ⟨o3, e3, fun v q => by rw [d3] at q; cases q⟩
  keep := fun i h h' st k => by
    obtain ⟨hz, hTI, ⟨x, y, u, hTO⟩, h1, h2, h3⟩ := st
    exact ⟨k z (by simp) _ hz, k TI (by simp) _ hTI, ⟨x, y, u, k TO (by simp) _ hTO⟩, h1.at fun o q => k i1 (by simp) o q, h2.at fun o q => k i2 (by simp) o q, h3.at fun o q => k i3 (by simp) o q⟩
  item := by
    intro X hP hw hK hc i pins s σ H E I hf st hg
    subst hP hw hK
    obtain ⟨hz, hTI, ⟨x0, y0, u0, hTO⟩, h1, h2, h3⟩ := st
    obtain ⟨xs, ys, zs, x, y, u, hqx, hqy, hqz, hx, hy, hu⟩ := hg
    obtain ⟨its, rv, p, _⟩ := I.list hqx
    obtain ⟨its2, rv2, p2, _⟩ := I.list hqy
    obtain ⟨its3, rv3, p3, _⟩ := I.list hqz
    obtain ⟨w1, hw1, rw1⟩ := rv.get hx
    obtain ⟨w2, hw2, rw2⟩ := rv2.get hy
    obtain ⟨w3, hw3, rw3⟩ := rv3.get hu
    have hzl : z < s.heap.objs.size := Heap.lt_size hz
    have hh := I.ok.hd hc
    have hh1 : (Around.in1 X.A).handled = none := hh
    have lt : ∀ {xs : List Value} {i : Nat} {x : Value}, xs[i]? = some x → i < xs.toArray.size := fun e => by simpa using (List.getElem?_eq_some_iff.mp e).1
    refine wpAny_pyNext_zipD3_item D (Draws.list hh1 i1 a na its.toArray) (Draws.list hh1 i2 b nb its2.toArray) (Draws.list hh1 i3 c nc its3.toArray) hz hTI hTO ⟨h1, p.isList⟩ ⟨h2, p2.isList⟩ ⟨h3, p3.isList⟩ (lt hw1) (lt hw2) (lt hw3) fun v1 v2 v3 h' tk y1 y2 y3 z' TO' d1 d2 d3 hT hsz hk => ?_
    obtain rfl : v1 = w1 := by have : its[i]? = some v1 := by simpa using y1
                               rw [hw1] at this; cases this; rfl
    obtain rfl : v2 = w2 := by have : its2[i]? = some v2 := by simpa using y2
                               rw [hw2] at this; cases this; rfl
    obtain rfl : v3 = w3 := by have : its3[i]? = some v3 := by simpa using y3
                               rw [hw3] at this; cases this; rfl
    refine ⟨_, rfl, wpAny_letOwnedTupleGo_zip (s := { s with heap := h', toks := tk }) z' fun h'' z'' sb => ?_⟩
    have hT2 : h''.get? s.heap.objs.size = some { cls := .type "tuple", data := .seq #[v1, v2, v3] } := (sb.2 _ (Nat.ne_of_gt hzl)).trans hT
    have new : ObjOk X.prog X.w (upd H s.heap.objs.size (.tup [x, y, u])) h'' s.heap.objs.size (.tup [x, y, u]) :=
      ⟨by show 3 ≤ sizeLine; decide, [v1, v2, v3], .cons rw1 (.cons rw2 (.cons rw3 .nil)), ⟨_, hT2, rfl, _, rfl⟩⟩
    have I1 : Inv X pins σ (upd H s.heap.objs.size (.tup [x, y, u])) { s with heap := h'', toks := tk } :=
      I.turnedNew (t' := tk) (ch := [z, TI, TO, i1, i2, i3]) (fun c o hb q => (sb.2 c (fun q' => hb (by simp [q']))).trans (hk c o (fun q' => hb (by simp [q'])) (fun q' => hb (by simp [q'])) (fun q' => hb (by simp [q'])) (fun q' => hb (by simp [q'])) (fun q' => hb (by simp [q'])) q)) hf (Nat.le_refl _) new
    refine ⟨.ref s.heap.objs.size, _, I1, rfl, ⟨_, x, y, u, rfl, I.hok.fresh (Nat.le_refl _), rfl, fun l hl => by rw [I.list_inj hl hqx]; exact hx, fun l hl => by rw [I.list_inj hl hqy]; exact hy, fun l hl => by rw [I.list_inj hl hqz]; exact hu⟩, ⟨z'', ?_, ⟨v1, v2, v3, ?_⟩, ?_, ?_, ?_⟩, fun c hcm => ?_⟩
    · exact (sb.2 _ D.TIz).trans (hk _ _ D.TIz D.TITO D.TIi1 D.TIi2 D.TIi3 hTI)
    · exact (sb.2 _ D.TOz).trans TO'
    · exact d1.1.at fun o q => (sb.2 _ D.zi1.symm).trans q
    · exact d2.1.at fun o q => (sb.2 _ D.zi2.symm).trans q
    · exact d3.1.at fun o q => (sb.2 _ D.zi3.symm).trans q
    · have hlt : c < s.heap.objs.size := by
        have e' : c = z ∨ c = TI ∨ c = TO ∨ c = i1 ∨ c = i2 ∨ c = i3 := by simpa using hcm
        rcases e' with q | q | q | q | q | q
        · rw [q]; exact hzl
        · rw [q]; exact Heap.lt_size hTI
        · rw [q]; exact Heap.lt_size hTO
        · rw [q]; obtain ⟨_, e1, _⟩ := h1; exact Heap.lt_size e1
        · rw [q]; obtain ⟨_, e2, _⟩ := h2; exact Heap.lt_size e2
        · rw [q]; obtain ⟨_, e3, _⟩ := h3; exact Heap.lt_size e3
      rw [upd_ne (Nat.ne_of_lt hlt)]
      exact (hf c hcm).1
  done := by
    intro X hP hw hK hc i pins s σ H E I hf st hg
    subst hP hw hK
    obtain ⟨hz, hTI, ⟨x0, y0, u0, hTO⟩, h1, h2, h3⟩ := st
    obtain ⟨xs, ys, zs, hqx, hqy, hqz, hend⟩ := hg
    obtain ⟨its, rv, p, _⟩ := I.list hqx
    obtain ⟨its2, rv2, p2, _⟩ := I.list hqy
    obtain ⟨its3, rv3, p3, _⟩ := I.list hqz
    have e1 := rv.length
    have e2 := rv2.length
    have e3 := rv3.length
    have hh : (Around.in1 X.A).handled = none := I.ok.hd hc
    obtain ⟨n1, P1, S1, D1, g1, f1, c1⟩ := draws_at (prog := X.prog) (w := X.w) hh i1 a na its.toArray i
    obtain ⟨n2, P2, S2, D2, g2, f2, c2⟩ := draws_at (prog := X.prog) (w := X.w) hh i2 b nb its2.toArray i
    obtain ⟨n3, P3, S3, D3, g3, f3, c3⟩ := draws_at (prog := X.prog) (w := X.w) hh i3 c nc its3.toArray i
    refine wpAny_pyNext_zipD3_end D D1 D2 D3 hz hTI hTO (c1 _ h1 p.isList) (c2 _ h2 p2.isList) (c3 _ h3 p3.isList) g1 g2 g3 (hend.imp (fun q => f1 (by simp; omega)) (Or.imp (fun q => f2 (by simp; omega)) fun q => f3 (by simp; omega))) fun h' tk hk => ⟨rfl, I.turnedL (t' := tk) (ch := [z, TI, TO, i1, i2, i3]) (fun c o hb q =>
      hk c o (fun q' => hb (by simp [q'])) (fun q' => hb (by simp [q'])) (fun q' => hb (by simp [q'])) (fun q' => hb (by simp [q'])) (fun q' => hb (by simp [q'])) q) hf⟩
  self := fun A i s Q E st h => wpAny_pyIter_zip st.1 h

theorem apart3 {n a b c : Nat} (ha : a < n) (hb : b < n) (hc : c < n) : ZipSep3 (n + 5) (n + 3) (n + 4) n (n + 1) (n + 2) [n, a] [n + 1, b] [n + 2, c] := by
  have f (x y : Nat) (h : x < y ∨ y < x) : (x : Addr) ≠ y := by
    intro e
    have e : (x : Nat) = y := e
    omega
  have m (x y z : Nat) (h : (x < y ∨ y < x) ∧ (x < z ∨ z < x)) : (x : Addr) ∉ ([y, z] : List Addr) := by
    intro e
    simp only [List.mem_cons, List.not_mem_nil, or_false] at e
    rcases e with e | e
    · exact f _ _ h.1 e
    · exact f _ _ h.2 e
  constructor
  all_goals first | (exact List.mem_cons_self ..) | (refine f _ _ ?_; omega) | (refine m _ _ _ ?_; omega)
def iZip3 (K : PySem.W.Frag) (ta : TA) : TI := fun σ H R => ta σ H fun vs H1 => ∃ a b c xs ys zs, vs = [.ref a, .ref b, .ref c] ∧ SqL K H1 a xs ∧ SqL K H1 b ys ∧ SqL K H1 c zs ∧ R (Itz3 K a b c) H1
theorem pi_zip3 {X : Cx} {e e2 e3 : Expr} {ta : TA} {p pos tpos : Pos} {elts : List Expr} {kk : Nat} (hg : Gl X "zip") (hm : X.mg "zip" = none) (ha : PA X [e, e2, e3] ta)
    (hs : starEach [e, e2, e3] X.env = (false, eval e X.env) :: starEach [e2, e3] X.env := by rfl) (hpl : (backTo pos (starEach [e2, e3] X.env)).any (·.1) = false := by rfl) :
    PI X (.Tuple elts kk tpos) (.Call (.Name "zip" p) [e, e2, e3] [] pos) (iZip3 X.K ta) := by
  refine ⟨fun pins s σ H R I h => ?_⟩
  refine PyProof.Rows.Call_ (ld_blt I hg hm PyProof.Rows.boot_zip (PyProof.Rows.callWith_type1 (thn (ha.run pos pins s σ H _ I h) fun us s1 ⟨vs, H1, I1, r1, q1⟩ => ?_) hs hpl))
  obtain ⟨a, b, c, xs, ys, zs, ex, hqx, hqy, hqz, q⟩ := q1
  subst ex
  cases r1 with
  | cons r rr =>
    cases rr with
    | cons r' rr =>
      cases rr with
      | cons r'' rr =>
        cases rr
        cases r
        cases r'
        cases r''
        obtain ⟨its, rv, p1, _⟩ := I1.list hqx
        obtain ⟨its2, rv2, p2, _⟩ := I1.list hqy
        obtain ⟨its3, rv3, p3, _⟩ := I1.list hqz
        have la : a < s1.heap.objs.size := p1.lt
        have lb : b < s1.heap.objs.size := p2.lt
        have lc : c < s1.heap.objs.size := p3.lt
        refine zip_begins3 (begins_list a its.toArray) (begins_list b its2.toArray) (begins_list c its3.toArray) p1.isList p2.isList p3.isList fun h' hz hTI hTO h1 h2 h3 hsz hk => wpAny_pyIter_zip hz ?_
        have I2 : Inv X pins σ H1 { s1 with heap := h' } := I1.kept (t' := s1.toks) hk
        refine ⟨s1.heap.objs.size + 5, [s1.heap.objs.size + 5, s1.heap.objs.size + 3, s1.heap.objs.size + 4, s1.heap.objs.size, s1.heap.objs.size + 1, s1.heap.objs.size + 2], _, _, H1, rfl, I2, turn_zip3 (apart3 la lb lc) (Nat.ne_of_lt la) (by show b ≠ _; exact Nat.ne_of_lt (Nat.lt_succ_of_lt lb)) (by show c ≠ _; exact Nat.ne_of_lt (Nat.lt_succ_of_lt (Nat.lt_succ_of_lt lc))), ⟨hz, hTI, ⟨_, _, _, hTO⟩, ⟨_, h1, rfl, rfl⟩, ⟨_, h2, rfl, rfl⟩, ⟨_, h3, rfl, rfl⟩⟩, fun d hd => ?_, q⟩
        have hle : s1.heap.objs.size ≤ d := by
          have e' : d = s1.heap.objs.size + 5 ∨ d = s1.heap.objs.size + 3 ∨ d = s1.heap.objs.size + 4 ∨ d = s1.heap.objs.size ∨ d = s1.heap.objs.size + 1 ∨ d = s1.heap.objs.size + 2 := by simpa using hd
          rcases e' with z | z | z | z | z | z <;> rw [z] <;> first | exact Nat.le_add_right _ _ | exact Nat.le_refl _
        exact I1.fpOk hle (I1.hok.fresh hle)

def zipD3 : List D → List D → List D → List D
  | x :: xs, y :: ys, z :: zs => .tup [x, y, z] :: zipD3 xs ys zs
  | _, _, _ => []
theorem zipD3_get : ∀ {xs ys zs : List D} {i : Nat} {d : D}, (zipD3 xs ys zs)[i]? = some d → ∃ x y z, xs[i]? = some x ∧ ys[i]? = some y ∧ zs[i]? = some z ∧ d = .tup [x, y, z]
  | [], _, _, _, _, h => by simp [zipD3] at h
  | _ :: _, [], _, _, _, h => by simp [zipD3] at h
  | _ :: _, _ :: _, [], _, _, h => by simp [zipD3] at h
  | x :: xs, y :: ys, z :: zs, 0, d, h => by simp [zipD3] at h; exact ⟨x, y, z, rfl, rfl, rfl, h.symm⟩
  | x :: xs, y :: ys, z :: zs, i + 1, d, h => by
    obtain ⟨x', y', z', h1, h2, h3, h4⟩ := zipD3_get (xs := xs) (ys := ys) (zs := zs) (i := i) (d := d) (by simpa [zipD3] using h)
    exact ⟨x', y', z', by simpa using h1, by simpa using h2, by simpa using h3, h4⟩
theorem zipD3_len : ∀ {xs ys zs : List D}, (zipD3 xs ys zs).length = min (min xs.length ys.length) zs.length
  | [], _, _ => by simp [zipD3]
  | _ :: _, [], _ => by simp [zipD3]
  | _ :: _, _ :: _, [] => by simp [zipD3]
  | x :: xs, y :: ys, z :: zs => by simp [zipD3, zipD3_len (xs := xs) (ys := ys) (zs := zs)]
def dZip3 : List D → Option (List D)
  | [x, y, z] => (dItems x).bind fun xs => (dItems y).bind fun ys => (dItems z).bind fun zs => some (zipD3 xs ys zs)
  | _ => none
def gZip3 (fs : Ag) : Ag := fun Γ => (fs Γ).bind dZip3
theorem i_zip3 {X : Cx} {a b c : Expr} {fs : Ag} {pos p tpos : Pos} {elts : List Expr} {kk : Nat} (hg : Gl X "zip") (hm : X.mg "zip" = none) (ha : AN X [a, b, c] 3 fs) (hs : starEach [a, b, c] X.env = (false, eval a X.env) :: starEach [b, c] X.env := by rfl) (hpl : (backTo pos (starEach [b, c] X.env)).any (·.1) = false := by rfl) :
    I X (.Tuple elts kk tpos) (.Call (.Name "zip" p) [a, b, c] [] pos) (gZip3 fs) := by
  obtain ⟨t, h1, h2⟩ := ha.a.ex
  refine ⟨⟨_, pi_zip3 hg hm h1 hs hpl, fun G0 H0 Z Γ σ G H R ds Rl hf k => ?_⟩⟩
  obtain ⟨xs, e1, hf⟩ := obind hf
  have hl := ha.n Γ xs e1
  refine h2 G0 H0 Z Γ σ G H _ _ Rl e1 fun G1 H1 vs x1 r1 => ?_
  match xs, hl, hf, r1 with
  | [x, y, z], _, hf, .cons r (.cons q (.cons o .nil)) =>
    replace hf : ((dItems x).bind fun xs => (dItems y).bind fun ys => (dItems z).bind fun zs => some (zipD3 xs ys zs)) = some ds := hf
    obtain ⟨as, a1, hf⟩ := obind hf
    obtain ⟨bs, a2, hf⟩ := obind hf
    obtain ⟨cs, a3, hf⟩ := obind hf
    cases hf
    obtain ⟨p1, v1, rfl, s1, r1⟩ := r.items a1
    obtain ⟨p2, v2, rfl, s2, r2⟩ := q.items a2
    obtain ⟨p3, v3, rfl, s3, r3⟩ := o.items a3
    refine ⟨p1, p2, p3, v1, v2, v3, rfl, x1.gh.seq s1, x1.gh.seq s2, x1.gh.seq s3, k G1 H1 _ x1 fun i G2 H2 t1 t2 => ?_⟩
    have q1 : SqL X.K H2 p1 v1 := (t1.trans t2).seq s1
    have q2 : SqL X.K H2 p2 v2 := (t1.trans t2).seq s2
    have q3 : SqL X.K H2 p3 v3 := (t1.trans t2).seq s3
    refine ⟨fun hi => ?_, fun d hd => ?_⟩
    · rw [zipD3_len] at hi
      refine ⟨v1, v2, v3, q1, q2, q3, ?_⟩
      rw [r1.length, r2.length, r3.length]
      omega
    · obtain ⟨x, y, z, g1, g2, g3, rfl⟩ := zipD3_get hd
      obtain ⟨w1, b1, c1⟩ := r1.get i g1
      obtain ⟨w2, b2, c2⟩ := r2.get i g2
      obtain ⟨w3, b3, c3⟩ := r3.get i g3
      refine ⟨⟨v1, v2, v3, w1, w2, w3, q1, q2, q3, b1, b2, b3⟩, fun u H3 yl => ?_⟩
      obtain ⟨T, z1, z2, z3, rfl, hT, rfl, f1, f2, f3⟩ := yl
      have y1 := f1 v1 q1
      have y2 := f2 v2 q2
      have y3 := f3 v3 q3
      rw [b1] at y1
      rw [b2] at y2
      rw [b3] at y3
      cases y1
      cases y2
      cases y3
      have x2 := Ext.new1 (o := .tup [w1, w2, w3]) t2 hT
      exact ⟨_, x2, .tup upd_same (.cons ((c1.mono t1).mono x2.gg) (.cons ((c2.mono t1).mono x2.gg) (.cons ((c3.mono t1).mono x2.gg) .nil)))⟩
end DL

namespace DL
open PySem L2
variable [TC : TabCtx]

/-! ### fields of an object of one's own -/
section
variable {K : PySem.W.Frag} {mg : Str → Option Value} {G H : Hp}
theorem HdL.setv : ∀ {vs : List V} {F : Addr → Prop} {ss : List Sl} (j : Nat) {v : V} {s : Sl} {F1 : Addr → Prop}, HdL K mg G H vs F ss → Hd K mg G H v F1 s → (∀ a, F1 a → ¬ F a) → HdL K mg G H (vs.set j v) (fun a => F a ∨ F1 a) (ss.set j s)
  | _, _, _, _, _, _, _, .nil, _, _ => .nil
  | _, _, _, 0, _, _, _, .cons (F := F) (F1 := Fh) (F2 := Ft) h r s1 s2 d, hv, dj => .cons hv r (fun _ x => .inr x) (fun a x => .inl (s2 a x)) fun a x y => dj a x (s2 a y)
  | _, _, _, j + 1, _, _, _, .cons (F := F) (F1 := Fh) (F2 := Ft) h r s1 s2 d, hv, dj =>
    .cons h (HdL.setv j r hv fun a x y => dj a x (s2 a y)) (fun a x => .inl (s1 a x)) (fun a x => x.elim (fun x => .inl (s2 a x)) .inr) fun a x y => y.elim (d a x) fun y => dj a y (s1 a x)
theorem HdL.snoc : ∀ {vs : List V} {F : Addr → Prop} {ss : List Sl} {v : V} {s : Sl} {F1 : Addr → Prop}, HdL K mg G H vs F ss → Hd K mg G H v F1 s → (∀ a, F1 a → ¬ F a) → HdL K mg G H (vs ++ [v]) (fun a => F a ∨ F1 a) (ss ++ [s])
  | _, F, _, v, s, F1, .nil, hv, dj => .cons (F1 := F1) (F2 := fun _ => False) hv .nil (fun _ x => .inr x) (fun _ x => x.elim) fun _ _ y => y
  | _, _, _, _, _, _, .cons (F := F) (F1 := Fh) (F2 := Ft) h r s1 s2 d, hv, dj =>
    .cons h (HdL.snoc r hv fun a x y => dj a x (s2 a y)) (fun a x => .inl (s1 a x)) (fun a x => x.elim (fun x => .inl (s2 a x)) .inr) fun a x y => y.elim (d a x) fun y => dj a y (s1 a x)
theorem putF_set : ∀ {ns : List Str} {vs : List V} {j : Nat} {f : Str} {v : V}, ns.Nodup → ns[j]? = some f → j < vs.length → putF f v (ns.zip vs) = ns.zip (vs.set j v)
  | [], _, _, _, _, _, h, _ => by simp at h
  | _ :: _, [], _, _, _, _, _, h => by simp at h
  | n :: ns, w :: vs, 0, f, v, nd, h, _ => by
    simp at h; subst h
    show (if n = n then (n, v) :: ns.zip vs else _) = _
    rw [if_pos rfl]; rfl
  | n :: ns, w :: vs, j + 1, f, v, nd, h, hl => by
    have hn : ¬ n = f := fun e => by
      subst e
      exact (List.nodup_cons.mp nd).1 (List.mem_of_getElem? (by simpa using h))
    show (if n = f then (n, v) :: ns.zip vs else (n, w) :: putF f v (ns.zip vs)) = _
    rw [if_neg hn, putF_set (List.nodup_cons.mp nd).2 (by simpa using h) (by simpa using hl)]
    rfl
theorem putF_snoc : ∀ {ns : List Str} {vs : List V} {f : Str} {v : V}, ns.Nodup → ns[vs.length]? = some f → putF f v (ns.zip vs) = ns.zip (vs ++ [v])
  | [], vs, _, _, _, h => by simp at h
  | n :: ns, [], f, v, nd, h => by
    simp at h; subst h; simp [putF]
  | n :: ns, w :: vs, f, v, nd, h => by
    have hn : ¬ n = f := fun e => by
      subst e
      exact (List.nodup_cons.mp nd).1 (List.mem_of_getElem? (by simpa using h))
    show (if n = f then (n, v) :: ns.zip vs else (n, w) :: putF f v (ns.zip vs)) = _
    rw [if_neg hn, putF_snoc (List.nodup_cons.mp nd).2 (by simpa using h)]
    rfl
end

/-! ### new things -/
abbrev Sx := DEnv → Option Sl
structure EN (X : Cx) (e : Expr) (f : Sx) : Prop where
  ex : ∃ t, PE X e t ∧ ∀ G0 H0 Z Γ σ G H Q s, Rel X.K X.mg G0 H0 Z Γ σ G H → f Γ = some s → (∀ G' H' v F, Ext G H G' H' → Hd X.K X.mg G' H' v F s → (∀ a, F a → G' a = none ∧ H a = none ∧ H' a ≠ none) → Q v H') → t σ H Q
def nSh (f : Ex) : Sx := fun Γ => (f Γ).bind fun d => some (.sh d)
def nOw (f : Ag) : Sx := fun Γ => (f Γ).bind fun d => some (.ow d)
def nD (f : Sx) : Ex := fun Γ => (f Γ).bind toD
section
variable {X : Cx} {e a b o tg : Expr} {es : List Expr} {f k : Ex} {fs : Ag} {st : Stmt} {sts : List Stmt} {F F' : Sm} {p : Te} {pos pos' : Pos} {n : Nat} {ix : List Nat} {g : Gs} {sx : Sx}
theorem E.nw (h : E X e f) : EN X e (nSh f) := by
  obtain ⟨t, h1, h2⟩ := h.ex
  refine ⟨⟨t, h1, fun G0 H0 Z Γ σ G H Q s R hf k => ?_⟩⟩
  obtain ⟨d, e1, hf⟩ := obind hf
  cases hf
  exact h2 G0 H0 Z Γ σ G H Q d R e1 fun G' H' v x r => k G' H' v (fun _ => False) x (.sh r) fun _ z => z.elim
theorem EL.nw (h : EL X e fs) : EN X e (nOw fs) := by
  obtain ⟨t, h1, h2⟩ := h.ex
  refine ⟨⟨t, h1, fun G0 H0 Z Γ σ G H Q s R hf k => ?_⟩⟩
  obtain ⟨d, e1, hf⟩ := obind hf
  cases hf
  exact h2 G0 H0 Z Γ σ G H Q d R e1 fun G' H' q vs x hq gq h r => k G' H' _ (fun a => a = q) x (.ow rfl h r) fun a e => by subst e; exact ⟨gq, hq, by rw [h]; simp⟩
theorem EN.fz (h : EN X e sx) : E X e (nD sx) := by
  obtain ⟨t, h1, h2⟩ := h.ex
  refine ⟨⟨t, h1, fun G0 H0 Z Γ σ G H Q d R hf k => ?_⟩⟩
  obtain ⟨s, e1, hf⟩ := obind hf
  refine h2 G0 H0 Z Γ σ G H Q s R e1 fun G' H' v F x hd hF => ?_
  obtain ⟨G2, y, r⟩ := hd.frz hf x.gh fun a z => (hF a z).1
  refine k G2 H' v ⟨x.gg.trans y.gg, x.hh, y.gh, fun a q => ?_, x.hn, fun t => TC.ti.keep (x.tb t) y.gg (fun _ _ => rfl) (fun a h g => by
    cases q : G2 a with
    | none => rfl
    | some u =>
      rcases y.new a (by rw [q]; simp) with z | z
      · exact absurd g z
      · exact absurd (hF a z).2.1 (TC.ti.live t a h).1)⟩ r
  rcases y.new a q with z | z
  · exact x.new a z
  · exact .inr (hF a z).2.1
def sSetN (i : Nat) (f : Sx) : Sm := fun Γ => (f Γ).bind fun s => some (.nx (Γ.set i s))
theorem s_setN (i : Nat) {x : Str} (hN : X.N.Nodup) (he : EN X e sx) (h0 : i ≠ 0 := by decide) (hi : X.N[i]? = some x := by rfl) (hx : Loc X.env.scope x := by first | exact Or.inl rfl | exact Or.inr rfl) (hs : swapsWith e (some (.Name x pos')) pos.line X.env = pure false := by rfl)
    (hf : X.fn x = true ∨ X.env.scope.names.lookup x = some .local := by first | exact .inl rfl | exact .inr rfl | assumption) : S X (.Assign [.Name x pos'] e pos) (sSetN i sx) := by
  obtain ⟨t, h1, h2⟩ := he.ex
  refine ⟨⟨_, ps_set hN hi hx h1 hs hf, fun G0 H0 Z Γ σ G H D r R hf k => ?_⟩⟩
  obtain ⟨d, e1, hf⟩ := obind hf
  cases hf
  exact h2 G0 H0 Z Γ σ G H _ d R e1 fun G1 H1 v F x1 hd hF => k _ G1 H1 (R.setNew x1 i hd hF (.inl h0))

/-! P.f = e -/
def sFld (i : Nat) (rp : Pth) (c j : Nat) (f : Sx) : Sm := fun Γ => (f Γ).bind fun sn => match gP i rp Γ with
  | some (.ob c' fs) => if c' = c then (if j < fs.length then upP i rp (.ob c (fs.set j sn)) Γ else if j = fs.length then upP i rp (.ob c (fs ++ [sn])) Γ else none) else none
  | _ => none
theorem cF_short (c : Nat) : (cF c).length < 1000 := by
  have h : ∀ x ∈ cTab, x.2.length < 1000 := by decide +kernel
  unfold cF
  rw [List.getD_eq_getElem?_getD]
  cases q : cTab[c]? with
  | none => simp
  | some x => exact h x (List.mem_of_getElem? q)
theorem zip_short {c : Nat} {vs : List V} : ((cF c).zip vs).length < 1000 := by
  have := cF_short c
  rw [List.length_zip]
  omega
theorem s_fld {i : Nat} {rp : Pth} {c j : Nat} {C : Addr} {x : Str} (ck : CK X.K X.mg c C) (hp : PL X o i rp) (he : EN X e sx) (hj : (cF c)[j]? = some x := by rfl) (nd : (cF c).Nodup := by decide +kernel) (hs : swapsWith e (some (.Attribute o x pos')) pos.line X.env = pure false := by rfl) :
    S X (.Assign [.Attribute o x pos'] e pos) (sFld i rp c j sx) := by
  obtain ⟨t, t1, t2⟩ := he.ex
  obtain ⟨u, u1, u2⟩ := hp.ex
  refine ⟨⟨_, ps_fld u1 t1 hs, fun G0 H0 Z Γ σ G H D r R hf k => ?_⟩⟩
  obtain ⟨sn, e1, hf⟩ := obind hf
  cases q : gP i rp Γ with
  | none => rw [q] at hf; cases hf
  | some par =>
    rw [q] at hf
    cases par with
    | ob c' fs =>
      replace hf : (if c' = c then (if j < fs.length then upP i rp (.ob c (fs.set j sn)) Γ else if j = fs.length then upP i rp (.ob c (fs ++ [sn])) Γ else none) else none) = some r := hf
      split at hf
      · rename_i hc
        subst hc
        obtain ⟨s, b1, b2, b3⟩ := gP_some q (by simp [SlP])
        refine t2 G0 H0 Z Γ σ G H _ sn R e1 fun G1 H1 v F x1 hd hF => ?_
        refine u2 G0 H0 Z Γ σ G H G1 H1 _ s _ R x1 b1 b2 b3 (by simp) fun v0 pk => ?_
        obtain ⟨F1, P⟩ := pk G1 H1 x1
        have hdP := P.hd
        cases hdP with
        | ob f hm ho n sF rr =>
          rename_i p C' dx vs F'
          rw [ck.hm] at hm
          cases hm
          refine ⟨p, C, dx, _, rfl, ho, ck.cl, ck.na x (List.mem_of_getElem? hj), zip_short, ?_⟩
          have gp := (P.fr p f).1
          have hlen := rr.length
          have dj : ∀ a, F a → ¬ F1 a := fun a y z => (P.fr a z).2.2.2.2 (hF a y).2.1
          have njF : ¬ F p := fun y => dj p y f
          -- the object as it is then
          have fin : ∀ (vs' : List V) (fs' : List Sl) (s2 : Sl), putF x v ((cF c').zip vs) = (cF c').zip vs' → (∀ {Hx : Hp}, HdL X.K X.mg G1 Hx vs F' fs → Hd X.K X.mg G1 Hx v F sn → HdL X.K X.mg G1 Hx vs' (fun a => F' a ∨ F a) fs') → setR rp (.ob c' fs') s = some s2 →
              Rel X.K X.mg G0 H0 Z (Γ.set i s2) σ G1 (upd H1 p (.ins C dx (putF x v ((cF c').zip vs)))) := fun vs' fs' s2 ez mk es => by
            rw [ez]
            have keep : ∀ (Y : Addr → Prop), ¬ Y p → ∀ a o, Y a → H1 a = some o → upd H1 p (.ins C dx ((cF c').zip vs')) a = some o := fun Y hy a o ya q => by
              rw [upd_ne]
              · exact q
              · intro e; subst e; exact hy ya
            refine P.up G1 _ (fun a => F1 a ∨ F a) (.ob c' fs') s2 (Same.refl _) (fun a o q => ?_) (fun a q => .inl q) (fun a o nf q => ?_) ?_ (fun a y => ?_) (fun _ => rfl) es
            · rw [upd_ne (ne_of_none q gp)]; exact x1.gh _ _ q
            · rw [upd_ne]
              · exact q
              · intro e; subst e; exact nf f
            · refine .ob (.inl f) ck.hm upd_same (F' := fun a => F' a ∨ F a) (fun y => y.elim n njF) (fun a y => y.elim (fun y => .inl (sF a y)) .inr) ?_
              exact mk (rr.mono (Same.refl _) (fun a o y q _ => keep F' n a o y q)) (hd.mono (Same.refl _) (fun a o y q _ => keep F njF a o y q))
            · have up : H1 a ≠ none → upd H1 p (.ins C dx ((cF c').zip vs')) a ≠ none := fun q => by
                by_cases e : a = p
                · subst e; rw [upd_same]; simp
                · rw [upd_ne e]; exact q
              rcases y with y | y
              · exact ⟨(P.fr a y).1, up (P.fr a y).2.2.1, .inl y⟩
              · exact ⟨(hF a y).1, up (hF a y).2.2, .inr (hF a y).2.1⟩
          have djL : ∀ a, F a → ¬ F' a := fun a y z => dj a y (sF a z)
          split at hf
          · rename_i hjl
            obtain ⟨s', s2, a1, a2, rfl⟩ := upP_some hf
            rw [b1] at a1
            cases a1
            exact k σ G1 _ (fin (vs.set j v) _ s2 (putF_set nd hj (by rw [hlen]; exact hjl)) (fun r h => r.setv j h djL) a2)
          · split at hf
            · rename_i hjl
              obtain ⟨s', s2, a1, a2, rfl⟩ := upP_some hf
              rw [b1] at a1
              cases a1
              exact k σ G1 _ (fin (vs ++ [v]) _ s2 (putF_snoc nd (by rw [hlen, ← hjl]; exact hj)) (fun r h => r.snoc h djL) a2)
            · cases hf
      · cases hf
    | _ => cases hf

/-! ### defs that change their first argument -/
def spM (K : PySem.W.Frag) (mg : Str → Option Value) (n : Nat) (F : Sl → List D → Option (D × Sl)) : Sp := fun vs H Q _ =>
  ∃ v0 args G s ds d s' Fp, vs = v0 :: args ∧ args.length = n ∧ Same G H ∧ TC.ti.t G H ∧ Hd K mg G H v0 Fp s ∧ (∀ a, Fp a → G a = none ∧ H a ≠ none ∧ ¬ TC.ti.tz a) ∧ RepL K mg G args ds ∧ F s ds = some (d, s') ∧
    ∀ G' H' v Fp', Same G G' → Same G' H' → TC.ti.t G' H' → (∀ a, ¬ Fp a → H a ≠ none → H' a ≠ none) → (∀ a, G' a ≠ none → G a ≠ none ∨ H a = none ∨ Fp a) → (∀ a o, ¬ Fp a → H a = some o → NT o → H' a = some o) → Rep K mg G' v d → Hd K mg G' H' v0 Fp' s' → (∀ a, Fp' a → G' a = none ∧ H' a ≠ none ∧ (Fp a ∨ H a = none)) → Q v H'
def runM (n : Nat) (B : Sm) : Sl → List D → Option (D × Sl) := fun s ds => (B (s :: ds.map Sl.sh ++ List.replicate (n - (ds.length + 1)) .no)).bind fun r => match r with
  | .rm d s' => if isOwn s' then some (d, s') else none
  | .nx Γ => (Γ[0]?).bind fun s' => if isOwn s' then some (.non, s') else none
  | _ => none
def sRetM (f : Ex) : Sm := fun Γ => (f Γ).bind fun d => (Γ[0]?).bind fun s => if isOwn s then some (.rm d s) else none
theorem s_retM (he : E X e f) : S X (.Return (some e) pos) (sRetM f) := by
  obtain ⟨t, h1, h2⟩ := he.ex
  refine ⟨⟨_, ps_ret h1, fun G0 H0 Z Γ σ G H D r R hf k => ?_⟩⟩
  obtain ⟨d, e1, hf⟩ := obind hf
  obtain ⟨s, e2, hf⟩ := obind hf
  split at hf
  · cases hf
    exact h2 G0 H0 Z Γ σ G H _ d R e1 fun G1 H1 v x1 r1 => k Γ σ G1 H1 v (R.ext x1) e2 r1
  · cases hf
def sRetMN : Sm := fun Γ => (Γ[0]?).bind fun s => if isOwn s then some (.rm .non s) else none
theorem s_retMN : S X (.Return none pos) sRetMN := ⟨⟨_, ps_retN, fun G0 H0 Z Γ σ G H D r R hf k => by
  obtain ⟨s, e2, hf⟩ := obind hf
  split at hf
  · cases hf
    exact k Γ σ G H _ R e2 .non
  · cases hf⟩⟩
end
section
variable {P : Program} {w : World} {K : PySem.W.Frag} {mg : Str → Option Value} {base : Heap}
/-- the slots at the entry -/
theorem startM_rel {G H : Hp} {N : List Str} {v0 : V} {vs : List V} {s : Sl} {ds : List D} {Fp : Addr → Prop} (gh : Same G H) (tb : TC.ti.t G H) (hd : Hd K mg G H v0 Fp s) (fr : ∀ a, Fp a → G a = none ∧ H a ≠ none ∧ ¬ TC.ti.tz a) (r : RepL K mg G vs ds) (dec : ∀ a, Decidable (Fp a)) :
    Rel K mg G (fun a => if Fp a then none else H a) ⟨TC.ti.tz, some v0, TC.ti⟩ (s :: ds.map Sl.sh ++ List.replicate (N.length - (ds.length + 1)) .no) (L2.start N (v0 :: vs)) G H := by
  have hl := r.length
  unfold L2.start
  refine ⟨by simp [hl], gh, fun a o q _ => ?_, Same.refl _, fun a h => .inl h, fun a z => (TC.ti.live tb a z).1, fun v s' e1 _ _ => by cases e1; simp, tb, fun _ h => h, rfl, fun a h => by
    by_cases x : Fp a
    · simp [x] at h
    · simpa [x] using h, fun i a => i = 0 ∧ Fp a, fun i a z => ⟨(fr a z.2).1, by simp [z.2], (fr a z.2).2.1, (fr a z.2).2.2⟩, fun i j a z1 z2 => z1.1.trans z2.1.symm, fun i s' h => ?_⟩
  · split at q
    · cases q
    · exact q
  · cases i with
    | zero =>
      simp at h
      subst h
      exact .inr (.inl ⟨v0, by simp, hd.wide fun a x => ⟨rfl, x⟩⟩)
    | succ i =>
      have e : N.length - (ds.length + 1) = (N.length - 1) - ds.length := by omega
      rw [List.cons_append, List.getElem?_cons_succ, e] at h
      rcases start_get h with z | ⟨d, e1, rfl⟩
      · exact .inl z
      · obtain ⟨v, e2, e3⟩ := r.get i e1
        refine .inr (.inl ⟨v, ?_, .sh e3⟩)
        have hi : i < vs.length := (List.getElem?_eq_some_iff.mp e2).1
        rw [List.map_cons, List.cons_append, List.getElem?_cons_succ, List.getElem?_append_left (by simpa using hi), List.getElem?_map, e2]
        rfl
open Classical in
theorem def_okM {x qual : Str} {st : Stmt} {f : Addr} {fd : FuncData} {N ps : List Str} {k : Nat} {B : Sm} (F : Fun K x qual st f fd) (S : FnScope N ps (defScope st)) {n : Nat} (hps : ps.length = n + 1)
    (hbody : ∀ (cdv : Value) (A : Around) (outer : List PySem.Env) (s : Shared) (H : Hp) (E : XK), Room k (A.deeper (PyProof.Rows.envOfC qual (defScope st) s.heap.objs.size f cdv)) →
      Ss (cxOf CX0 P w K mg base N qual (defScope st) f cdv A outer s H E).nox (defBody st) B) : FnOk P w K mg base CX0 (k + 1) f fd ps (spM K mg n (runM N.length B)) := by
  refine F.ok S (fun vs H Q E h => ?_) (fun cdv A outer s H vs Q E hr h => ?_)
  · obtain ⟨v0, args, G, s, ds, d, s', Fp, rfl, hl, _⟩ := h
    simp [hl, hps]
  · obtain ⟨v0, args, G, sl, ds, d, s', Fp, rfl, hl, gh, tb, hd, fr, r, hf, kk⟩ := h
    obtain ⟨t, h1, h2⟩ := (hbody cdv A outer s H E hr).ex
    refine ⟨t, h1, ?_⟩
    obtain ⟨r1, e1, hf⟩ := obind hf
    have R := startM_rel (N := N) gh tb hd fr r fun a => inferInstance
    have fin : ∀ (Γ : DEnv) (σ : L2.St) (G' H' : Hp) (v : V), Rel K mg G (fun a => if Fp a then none else H a) ⟨TC.ti.tz, some v0, TC.ti⟩ Γ σ G' H' → Γ[0]? = some s' → isOwn s' = true → Rep K mg G' v d → Q v H' := fun Γ σ G' H' v R' e0 ns rv => by
      have es := R'.an v0 s' rfl e0 ns
      obtain ⟨own, o1, o2, o3⟩ := R'.own
      rcases o3 0 s' e0 with z | ⟨v', z1, z2⟩ | ⟨_, _, z, _⟩
      · rw [z] at ns; cases ns
      rotate_left
      · rw [z] at ns; cases ns
      · rw [es] at z1
        cases z1
        refine kk G' H' v (own 0) R'.gg R'.gh R'.tbc (fun a nf h => R'.hn a (by simpa [nf] using h)) (fun a q => ?_) (fun a o nf q n => R'.hh a o (by simp [nf, q]) n) rv z2 fun a y => ?_
        · rcases R'.new a q with z | z
          · exact .inl z
          · by_cases fa : Fp a
            · exact .inr (.inr fa)
            · simp [fa] at z
              exact .inr (.inl z)
        · obtain ⟨w1, w2, w3, w4⟩ := o1 0 a y
          refine ⟨w1, w3, ?_⟩
          by_cases fa : Fp a
          · exact .inl fa
          · simp [fa] at w2
            exact .inr w2
    refine h2 G _ _ _ _ G H _ r1 R e1 ?_
    cases r1 with
    | rm d' s2 =>
      replace hf : (if isOwn s2 then some (d', s2) else none) = some (d, s') := hf
      split at hf
      · rename_i ns
        cases hf
        exact fun Γ σ G' H' v R' e0 rv => fin Γ σ G' H' v R' e0 ns rv
      · cases hf
    | nx Γ =>
      obtain ⟨s2, e2, hf⟩ := obind hf
      split at hf
      · rename_i ns
        cases hf
        exact fun σ' G' H' R' => fin Γ σ' G' H' _ R' e2 ns .non
      · cases hf
    | rt d => cases hf
    | ro s => cases hf
    | bk Γ => cases hf
    | ct Γ => cases hf
end

/-! ### objects that are made -/
structure Mak (P : Program) (w : World) (K : PySem.W.Frag) (mg : Str → Option Value) (base : Heap) (c L : Nat) (ps : List Str) (S : Sl → List D → Option (D × Sl)) : Prop where
  ex : ∃ C f fd p0 ps', ps = p0 :: ps' ∧ mg (cN c) = some (.ref C) ∧ Mk K C f ∧ FnOk P w K mg base CX0 L f fd ps (spM K mg ps'.length S) ∧ Binds K fd ps []
def gMk (c : Nat) (S : Sl → List D → Option (D × Sl)) (fs : Ag) : Sx := fun Γ => (fs Γ).bind fun ds => (S (.ob c []) ds).bind fun r => match r.1 with
  | .non => some r.2
  | _ => none
section
variable {X : Cx} {a : Expr} {es : List Expr} {fs : Ag} {pos p : Pos}
theorem make_ok {c : Nat} {C : Addr} {n : Nat} {S : Sl → List D → Option (D × Sl)} {t : TA} (hm : X.mg (cN c) = some (.ref C)) (hn : ∀ Γ ds, fs Γ = some ds → ds.length = n)
    (h2 : ∀ (G0 H0 : Hp) (Z : Zs) (Γ : DEnv) (σ : L2.St) (G H : Hp) (Q : List V → Hp → Prop) (ds : List D), Rel X.K X.mg G0 H0 Z Γ σ G H → fs Γ = some ds → (∀ G' H' vs, Ext G H G' H' → RepL X.K X.mg G' vs ds → Q vs H') → t σ H Q) :
    ∀ (G0 H0 : Hp) (Z : Zs) (Γ : DEnv) (σ : L2.St) (G H : Hp) (Q : VK) (s : Sl), Rel X.K X.mg G0 H0 Z Γ σ G H → gMk c S fs Γ = some s → (∀ G' H' v F, Ext G H G' H' → Hd X.K X.mg G' H' v F s → (∀ a, F a → G' a = none ∧ H a = none ∧ H' a ≠ none) → Q v H') → tMake C (spM X.K X.mg n S) [] E0 t σ H Q := by
  intro G0 H0 Z Γ σ G H Q s R hf k
  obtain ⟨ds, e1, hf⟩ := obind hf
  obtain ⟨⟨d, s'⟩, e2, hf⟩ := obind hf
  have hd : d = .non ∧ s' = s := by
    cases d with
    | non => cases hf; exact ⟨rfl, rfl⟩
    | _ => cases hf
  obtain ⟨rfl, rfl⟩ := hd
  refine h2 G0 H0 Z Γ σ G H _ ds R e1 fun G1 H1 vs x1 r1 => ?_
  intro x dx nx ndx ne
  have gx : G1 x = none := x1.gh.free nx
  have Hx : H x = none := x1.hf nx
  have T1 := (R.ext x1).tbc
  have keep : ∀ b o, H1 b = some o → upd (upd H1 dx (.own x)) x (.ins C dx []) b = some o := fun b o q => by
    rw [upd_ne (ne_of_none q nx), upd_ne (ne_of_none q ndx)]; exact q
  refine ⟨.ref x, vs, G1, .ob c [], ds, .non, s', fun b => b = x, by rw [List.append_nil], ?_, fun b o q => keep b o (x1.gh _ _ q), TC.ti.keep T1 (Same.refl _) (fun a h => same_at (fun b o q => keep b o q) (TC.ti.live T1 a h).1) (fun _ _ g => g), ?_, fun b e => by subst e; exact ⟨gx, by rw [upd_same]; simp, fun z => (TC.ti.live T1 _ z).1 nx⟩, r1, e2, ?_⟩
  · rw [r1.length, hn Γ ds e1]
  · exact .ob (F' := fun _ => False) (dx := dx) (vs := []) rfl hm (by rw [upd_same, List.zip_nil_right]) (fun z => z) (fun _ z => z.elim) .nil
  · intro G' H' v Fp' gg gh tb' hn' nw kp rv hv fr
    cases rv
    have keep' : ∀ b o, H b = some o → NT o → upd (upd H1 dx (.own x)) x (.ins C dx []) b = some o := fun b o q n => keep b o (x1.hh b o q n)
    have kn : ∀ b, H1 b ≠ none → upd (upd H1 dx (.own x)) x (.ins C dx []) b ≠ none := fun b h => nn (fun b o q => keep b o q) h
    refine ⟨rfl, k G' H' (.ref x) Fp' ⟨x1.gg.trans gg, fun b o q n => ?_, gh, fun b q => ?_, fun b h => hn' b (fun e => by subst e; exact h Hx) (kn b (x1.hn b h)), fun _ => tb'⟩ hv fun b y => ?_⟩
    · exact kp b o (fun e => by subst e; rw [Hx] at q; cases q) (keep' b o q n) n
    · rcases nw b q with z | z | z
      · exact x1.new b z
      · refine .inr ?_
        cases e : H b with
        | none => rfl
        | some o => exact absurd z (kn b (x1.hn b (by rw [e]; simp)))
      · subst z; exact .inr Hx
    · obtain ⟨w1, w2, w3⟩ := fr b y
      refine ⟨w1, ?_, w2⟩
      rcases w3 with z | z
      · subst z; exact Hx
      · cases e : H b with
        | none => rfl
        | some o => exact absurd z (kn b (x1.hn b (by rw [e]; simp)))
theorem e_mkC {c k L : Nat} {p0 : Str} {ps : List Str} {S : Sl → List D → Option (D × Sl)} (m : Mak X.prog X.w X.K X.mg X.base c L (p0 :: ps) S) (hr : Room k X.A) (hk : L + 1 ≤ k)
    (ha : AN X (a :: es) ps.length fs) (hg : Gl X (cN c) := by rfl) (hdb : (cN c == ("__debug__" : Str)) = false := by decide) (he : starEach (a :: es) X.env = (false, eval a X.env) :: starEach es X.env := by rfl) (hpl : (backTo pos (starEach es X.env)).any (·.1) = false := by rfl) :
    EN X (.Call (.Name (cN c) p) (a :: es) [] pos) (gMk c S fs) := by
  obtain ⟨C, f, fd, q0, ps', ep, h1, h2, h3, h4⟩ := m.ex
  cases ep
  obtain ⟨t, t1, t2⟩ := ha.a.ex
  exact ⟨⟨_, pe_make h2 h3 (hr.mono hk) hg h1 h4 .nil pass0 t1 hdb he hpl, make_ok h1 ha.n t2⟩⟩
theorem e_mkC0 {c k L : Nat} {p0 : Str} {S : Sl → List D → Option (D × Sl)} (m : Mak X.prog X.w X.K X.mg X.base c L [p0] S) (hr : Room k X.A) (hk : L + 1 ≤ k)
    (hg : Gl X (cN c) := by rfl) (hdb : (cN c == ("__debug__" : Str)) = false := by decide) : EN X (.Call (.Name (cN c) p) [] [] pos) (gMk c S aN) := by
  obtain ⟨C, f, fd, q0, ps', ep, h1, h2, h3, h4⟩ := m.ex
  cases ep
  exact ⟨⟨_, pe_make0 h2 h3 (hr.mono hk) hg h1 h4 .nil pass0 hdb, make_ok (fs := aN) (n := 0) h1 (fun _ _ h => by cases h; rfl) fun G0 H0 Z Γ σ G H Q ds R e kk => by cases e; exact kk G H [] (.refl R.gh) .nil⟩⟩
end

/-! ### defs that give a thing of the caller's own -/
def sRetO (i : Nat) (rp : Pth) : Sm := fun Γ => match gP i rp Γ with
  | some s => if isOwn s then some (.ro s) else none
  | none => none
section
variable {X : Cx} {a e : Expr} {es : List Expr} {fs : Ag} {pos p : Pos} {sx : Sx}
theorem isOwn_no : isOwn .no = false := rfl
theorem s_retO {i : Nat} {rp : Pth} (hp : PL X e i rp) : S X (.Return (some e) pos) (sRetO i rp) := by
  obtain ⟨t, h1, h2⟩ := hp.ex
  refine ⟨⟨_, ps_ret h1, fun G0 H0 Z Γ σ G H D r R hf k => ?_⟩⟩
  unfold sRetO at hf
  cases q : gP i rp Γ with
  | none => rw [q] at hf; cases hf
  | some s1 =>
    rw [q] at hf
    replace hf : (if isOwn s1 then some (Res.ro s1) else none) = some r := hf
    split at hf
    · rename_i ho
      cases hf
      have hn : SlP s1 := ⟨(fun z => by subst z; rw [isOwn_no] at ho; cases ho), (fun d z => by subst z; cases ho)⟩
      obtain ⟨s, b1, b2, b3⟩ := gP_some q hn
      refine h2 G0 H0 Z Γ σ G H G H _ s s1 R (Ext.refl R.gh) b1 b2 b3 hn.1 fun v pk => ?_
      obtain ⟨F1, P⟩ := pk G H (Ext.refl R.gh)
      exact k G H v F1 R.end P.hd fun a y => ⟨(P.fr a y).1, (P.fr a y).2.1, (P.fr a y).2.2.1⟩
    · cases hf
def sRetEN (sx : Sx) : Sm := fun Γ => (sx Γ).bind fun s => some (.ro s)
theorem s_retEN (he : EN X e sx) : S X (.Return (some e) pos) (sRetEN sx) := by
  obtain ⟨t, h1, h2⟩ := he.ex
  refine ⟨⟨_, ps_ret h1, fun G0 H0 Z Γ σ G H D r R hf k => ?_⟩⟩
  obtain ⟨s, e1, hf⟩ := obind hf
  cases hf
  exact h2 G0 H0 Z Γ σ G H _ s R e1 fun G1 H1 v F x1 hd hF => k G1 H1 v F (R.ext x1).end hd fun a y => ⟨(hF a y).1, R.hf (hF a y).2.1, (hF a y).2.2⟩
/-- the promise: something new -/
def spN (K : PySem.W.Frag) (mg : Str → Option Value) (n : Nat) (F : List D → Option Sl) : Sp := fun vs H Q _ =>
  ∃ G ds s, vs.length = n ∧ Same G H ∧ TC.ti.t G H ∧ RepL K mg G vs ds ∧ F ds = some s ∧ ∀ G' H' v F', Ext G H G' H' → Hd K mg G' H' v F' s → (∀ a, F' a → G' a = none ∧ H a = none ∧ H' a ≠ none) → Q v H'
def runN (n : Nat) (B : Sm) : List D → Option Sl := fun ds => (B (ds.map Sl.sh ++ List.replicate (n - ds.length) .no)).bind fun r => match r with
  | .rt d => some (.sh d)
  | .ro s => some s
  | .nx _ => some (.sh .non)
  | _ => none
structure CalN (P : Program) (w : World) (K : PySem.W.Frag) (mg : Str → Option Value) (base : Heap) (x : Str) (L : Nat) (ps : List Str) (S : List D → Option Sl) : Prop where
  ex : ∃ f fd, FnOk P w K mg base CX0 L f fd ps (spN K mg ps.length S) ∧ mg x = some (.ref f) ∧ PySem.W.keepIn K (.ref f) = true ∧ Binds K fd ps []
def gCallN (S : List D → Option Sl) (fs : Ag) : Sx := fun Γ => (fs Γ).bind S
theorem e_callN {k L : Nat} {ps : List Str} {S : List D → Option Sl} {x : Str} {p : Pos} (c : CalN X.prog X.w X.K X.mg X.base x L ps S) (hr : Room k X.A) (hk : L ≤ k)
    (ha : AN X (a :: es) ps.length fs) (hg : Gl X x := by rfl) (hdb : (x == ("__debug__" : Str)) = false := by decide) (he : starEach (a :: es) X.env = (false, eval a X.env) :: starEach es X.env := by rfl) (hpl : (backTo pos (starEach es X.env)).any (·.1) = false := by rfl) :
    EN X (.Call (.Name x p) (a :: es) [] pos) (gCallN S fs) := by
  obtain ⟨f, fd, f1, f2, f3, f4⟩ := c.ex
  obtain ⟨t, h1, h2⟩ := ha.a.ex
  refine ⟨⟨_, pe_call f1 (hr.mono hk) hg f2 f3 f4 .nil pass0 h1 hdb he hpl, fun G0 H0 Z Γ σ G H Q s R hf k => ?_⟩⟩
  obtain ⟨ds, e1, hf⟩ := obind hf
  refine h2 G0 H0 Z Γ σ G H _ _ R e1 fun G1 H1 vs x1 r1 => ?_
  refine ⟨G1, ds, s, ?_, x1.gh, (R.ext x1).tbc, ?_, hf, fun G' H' v F x2 r2 f2 => k G' H' v F (x1.trans x2) r2 fun b y => ?_⟩
  · rw [List.append_nil, r1.length, ha.n Γ ds e1]
  · rw [List.append_nil]; exact r1
  · obtain ⟨w1, w2, w3⟩ := f2 b y
    exact ⟨w1, x1.hf w2, w3⟩
end
section
variable {P : Program} {w : World} {K : PySem.W.Frag} {mg : Str → Option Value} {base : Heap}
theorem def_okN {x qual : Str} {st : Stmt} {f : Addr} {fd : FuncData} {N ps : List Str} {k : Nat} {B : Sm} (F : Fun K x qual st f fd) (S : FnScope N ps (defScope st))
    (hbody : ∀ (cdv : Value) (A : Around) (outer : List PySem.Env) (s : Shared) (H : Hp) (E : XK), Room k (A.deeper (PyProof.Rows.envOfC qual (defScope st) s.heap.objs.size f cdv)) →
      Ss (cxOf CX0 P w K mg base N qual (defScope st) f cdv A outer s H E).nox (defBody st) B) : FnOk P w K mg base CX0 (k + 1) f fd ps (spN K mg ps.length (runN N.length B)) := by
  refine F.ok S (fun vs H Q E h => ?_) (fun cdv A outer s H vs Q E hr h => ?_)
  · obtain ⟨G, ds, d, hl, _⟩ := h
    exact hl
  · obtain ⟨G, ds, sl, hl, gh, tb, r, hf, k'⟩ := h
    obtain ⟨t, h1, h2⟩ := (hbody cdv A outer s H E hr).ex
    refine ⟨t, h1, ?_⟩
    obtain ⟨r1, e1, hf⟩ := obind hf
    refine h2 G H _ _ _ G H _ r1 (start_rel gh tb r) e1 ?_
    cases r1 with
    | rt d' => cases hf; exact fun G' H' v x r => k' G' H' v (fun _ => False) x (.sh r) fun _ z => z.elim
    | ro s' => cases hf; exact fun G' H' v F' x h f => k' G' H' v F' x h f
    | nx Γ => cases hf; exact fun σ' G' H' R => k' G' H' _ (fun _ => False) R.end (.sh .non) fun _ z => z.elim
    | rm d s => cases hf
    | bk Γ => cases hf
    | ct Γ => cases hf
end
end DL

namespace DL
open PySem PySem.Spec PyProof.Rows L2
variable [TC : TabCtx]

/-! ### del xs[a:] of a list -/
theorem keep_take {α : Type} (p : Nat → Bool) (a : Nat) : ∀ (xs : List α) (m : Nat), (∀ k, m ≤ k → k < m + xs.length → p k = decide (a ≤ k)) → (xs.zipIdx m).filterMap (fun t : α × Nat => if p t.2 = true then none else some t.1) = xs.take (a - m)
  | [], m, _ => by simp
  | x :: xs, m, h => by
    rw [List.zipIdx_cons, List.filterMap_cons]
    have h0 := h m (Nat.le_refl _) (by simp)
    have ih := keep_take p a xs (m + 1) fun k h1 h2 => h k (by omega) (by simp at h2 ⊢; omega)
    by_cases e : a ≤ m
    · have e1 : p m = true := by rw [h0]; exact decide_eq_true e
      rw [e1]
      have z : a - m = 0 := by omega
      have z1 : a - (m + 1) = 0 := by omega
      rw [z1] at ih
      simp [z, ih]
    · have e1 : p m = false := by rw [h0]; exact decide_eq_false e
      rw [e1]
      have z : a - m = (a - (m + 1)) + 1 := by omega
      rw [z, List.take_succ_cons]
      simp [ih]
section
variable {prog : Program} {w : World} {A : Around} {E : Value → Shared → Prop} {s : Shared}
theorem bounds_from {a n : Nat} (h : a ≤ n) : sliceBounds (some (a : Int)) none none n = ((a : Int), (n : Int), 1) := by
  simp only [sliceBounds, Option.getD_none]
  have h1 : ¬ ((a : Int) < 0) := by omega
  simp only [h1, if_false, show (1 : Int) > 0 by decide, if_true]
  congr 1
  omega
theorem delItem_from {l sl : Addr} {items : Array Value} {n : Nat} {vl : Value} {a : Nat} {Q : Unit → Shared → Prop}
    (e : s.heap.get? l = some { cls := .type "list", data := .seq items n }) (hs : s.heap.IsSliceOf sl vl .none .none) (pl : IsPart vl (some (a : Int))) (ha : a ≤ items.size)
    (hsz : items.size ≤ sizeLine) (h : ∀ f : Array Value → Array Value, f items = items.extract 0 a → Q () { s with heap := s.heap.update l (Obj.mapSeq f) }) :
    wpAny (model prog w) A (delItem (.ref l) (.ref sl)) Q E s := by
  have hl : s.heap.IsList l items := PySem.IsL.isList e
  obtain ⟨os, hos, hcs, hds⟩ := id hs
  have hTs : s.TypeIs (.ref sl) "slice" := ⟨os, hos, hcs⟩
  have hstep : ¬ ((rawPart none == rawInt 0) = true) := Bool.false_ne_true
  refine wpAny_delItem_slot hl.typeIs (by decide) PySem.F.slot_list_delitem (wpAny_call_entry PySem.F.slot_list_delitem hl.typeIs PySem.F.entry_list_delitem ?_ (PySem.F.args_list_delitem_2 _ _))
  show wpAny _ _ (Builtin.List.listSubscript? (.ref sl) >>= _) _ _ s
  refine wpAny_bind ?_
  unfold Builtin.List.listSubscript?
  refine wpAny_bind (wpAny_specialOf hTs slice_no_index ?_)
  simp only [Option.isNone_none, if_true]
  refine wpAny_pure ?_
  show wpAny _ _ (typeOf (.ref sl) >>= _) _ _ s
  refine wpAny_bind (wpAny_typeOf hTs ?_)
  first
    | rw [if_neg (by decide)]
    | refine PySem.W.KFB.if_not (by decide) ?_
  rw [listSliceParts_eq]
  refine wpAny_bind (wpAny_bind (wpAny_field hos hds (x := .none) rfl (wpAny_bind (wpAny_listPart .none ?_))))
  rw [if_neg hstep]
  refine wpAny_bind (wpAny_field hos hds (x := vl) rfl (wpAny_bind (wpAny_listPart pl ?_)))
  refine wpAny_bind (wpAny_field hos hds (x := .none) rfl (wpAny_bind (wpAny_listPart .none (wpAny_pure ?_))))
  refine wpAny_bind ?_
  unfold Builtin.List.listItems
  refine wpAny_bind (wpAny_seqItems e rfl (wpAny_pure ?_))
  refine wpAny_bind (wpAny_of_eq ((sliceIndices_raw (some (a : Int)) none none items.size (by simp)).trans (congrArg (pure : Int × Int × Int → Sem (Int × Int × Int)) (bounds_from ha))) ?_)
  refine wpAny_bind (wpAny_rule ?_)
  have hf : (items.toList.zipIdx.filterMap fun (x, k) => if (if (1 : Int) > 0 then (decide ((a : Int) ≤ (k : Int)) && decide ((k : Int) < (items.size : Int)) && (((k : Int) - (a : Int)) % 1 == 0)) else (decide ((items.size : Int) < (k : Int)) && decide ((k : Int) ≤ (a : Int)) && (((a : Int) - (k : Int)) % (-1) == 0))) = true then none else some x).toArray = items.extract 0 a := by
    have := keep_take (α := Value) (fun k => if (1 : Int) > 0 then (decide ((a : Int) ≤ (k : Int)) && decide ((k : Int) < (items.size : Int)) && (((k : Int) - (a : Int)) % 1 == 0)) else (decide ((items.size : Int) < (k : Int)) && decide ((k : Int) ≤ (a : Int)) && (((a : Int) - (k : Int)) % (-1) == 0))) a items.toList 0 fun k h1 h2 => by
      have h3 : (k : Int) < items.size := by simp at h2; omega
      simp [h3, Int.emod_one]
    rw [Nat.sub_zero] at this
    refine (congrArg List.toArray this).trans ?_
    apply Array.toList_inj.mp
    simp
  refine wpAny_bind (wpAny_updateSeq (hz := hsz) (_hz' := ?_) e rfl ?_)
  rotate_left
  · show (List.toArray _).size ≤ _
    have h2 := congrArg Array.size hf
    rw [Array.size_extract] at h2
    refine Nat.le_trans (Nat.le_of_eq h2) ?_
    omega
  refine wpAny_bind (wpAny_letGo ?_)
  first
    | exact wpAny_pure ⟨.none, rfl, h _ hf⟩
    | exact wpAny_pure (h _ hf)
    | exact ⟨.none, rfl, h _ hf⟩
end
section
variable {X : Cx}
theorem del_from {pins : List (Addr × Obj)} {s : Shared} {σ : L2.St} {H : Hp} {l sl : Addr} {xs : List V} {a : Nat} {vl : Value} {Q : Unit → Shared → Prop} (I : Inv X pins σ H s) (hH : H l = some (.lst xs))
    (hs : s.heap.IsSliceOf sl vl .none .none) (pl : RelV (.int a) vl) (ha : a ≤ xs.length) (h : ∀ s', Inv X pins σ (upd H l (.lst (xs.take a))) s' → Q () s') :
    wpAny (model X.prog X.w) X.A (delItem (.ref l) (.ref sl)) Q X.xe s := by
  obtain ⟨ta, rfl⟩ := pl
  obtain ⟨z, its, n, r, hl, e⟩ := I.lstM hH
  refine delItem_from (a := a) e hs (.int _ _) (by rw [List.size_toArray]; omega) (by rw [List.size_toArray]; omega) fun f hf => h _ ?_
  refine I.lset (its' := its.take a) (t' := s.toks) hH e ?_ (r.take a) ?_
  · rw [hf]
    apply Array.toList_inj.mp
    simp
  · rw [List.length_take]; omega
def tDelF (to ti : TE) : TS := fun D σ H => to σ H fun x H1 => ti σ H1 fun y H2 => ∃ (l : Addr) (xs : List V) (k : Nat), x = .ref l ∧ y = .int k ∧ H2 l = some (.lst xs) ∧ k ≤ xs.length ∧ D.nx σ (upd H2 l (.lst (xs.take k)))
theorem ps_delF {o i : Expr} {to ti : TE} {tpos sp pos : Pos} (ho : PE X o to) (hi : PE X i ti) : PS X (.Delete [.Subscript o (.Slice (some i) none none sp) tpos] pos) (tDelF to ti) := by
  refine ⟨fun pins s σ H D I h => ?_⟩
  refine wpAny_Delete (wpAny_deleteEach_cons (wpAny_delete_Subscript (thn (ho.run pins s σ H _ I h) fun u s1 ⟨x, H1, I1, rx, q1⟩ => ?_)))
  refine wpAny_Slice (thn (hi.run pins s1 σ H1 _ I1 q1) fun vl s2 ⟨l, H2, I2, pl, q2⟩ => ?_)
  rw [evalPart_none]
  refine wpAny_pure (wpAny_pure ?_)
  have I4 : Inv X pins σ H2 { s2 with heap := s2.heap.push { cls := .type "slice", data := .fields #[vl, .none, .none] } } := I2.kept (t' := s2.toks) fun b ob q => Heap.get?_push_of_some _ q
  obtain ⟨l', xs, k, rfl, rfl, hH, hk, q3⟩ := q2
  cases rx
  exact del_from I4 hH (Heap.IsSliceOf.new ..) pl hk fun s3 I3 => wpAny_deleteEach_nil ⟨σ, _, I3, q3⟩
end
end DL

namespace DL
open PySem L2
variable [TC : TabCtx]

/-! ### arguments that are only looked at -/
inductive RepM (K : PySem.W.Frag) (mg : Str → Option Value) (G H : Hp) : List Bool → List V → List D → Prop
  | nil : RepM K mg G H [] [] []
  | sh {ms : List Bool} {v : V} {vs : List V} {d : D} {ds : List D} (h : Rep K mg G v d) (r : RepM K mg G H ms vs ds) : RepM K mg G H (false :: ms) (v :: vs) (d :: ds)
  | bo {ms : List Bool} {v : V} {vs : List V} {d : D} {ds : List D} (h : RepB K mg G H v d) (r : RepM K mg G H ms vs ds) : RepM K mg G H (true :: ms) (v :: vs) (d :: ds)
def mkS : Bool → D → Sl
  | true, d => .bo d
  | false, d => .sh d
def slM : List Bool → List D → List Sl
  | m :: ms, d :: ds => mkS m d :: slM ms ds
  | _, _ => []
section
variable {K : PySem.W.Frag} {mg : Str → Option Value} {G H G' H' : Hp}
theorem RepM.ext (e : Ext G H G' H') : ∀ {ms : List Bool} {vs : List V} {ds : List D}, RepM K mg G H ms vs ds → RepM K mg G' H' ms vs ds
  | _, _, _, .nil => .nil
  | _, _, _, .sh h r => .sh (h.mono e.gg) (r.ext e)
  | _, _, _, .bo h r => .bo (h.ext e) (r.ext e)
theorem RepM.len : ∀ {ms : List Bool} {vs : List V} {ds : List D}, RepM K mg G H ms vs ds → vs.length = ms.length ∧ ds.length = ms.length
  | _, _, _, .nil => ⟨rfl, rfl⟩
  | _, _, _, .sh _ r => by have := r.len; simp [this.1, this.2]
  | _, _, _, .bo _ r => by have := r.len; simp [this.1, this.2]
theorem RepM.get : ∀ {ms : List Bool} {vs : List V} {ds : List D} (i : Nat) {s : Sl}, RepM K mg G H ms vs ds → (slM ms ds)[i]? = some s → ∃ v d, vs[i]? = some v ∧ ((s = .sh d ∧ Rep K mg G v d) ∨ (s = .bo d ∧ RepB K mg G H v d))
  | _, _, _, _, _, .nil, e => by simp [slM] at e
  | _, _, _, 0, _, .sh h _, e => by simp [slM, mkS] at e; subst e; exact ⟨_, _, rfl, .inl ⟨rfl, h⟩⟩
  | _, _, _, 0, _, .bo h _, e => by simp [slM, mkS] at e; subst e; exact ⟨_, _, rfl, .inr ⟨rfl, h⟩⟩
  | _, _, _, i + 1, _, .sh _ r, e => by
    obtain ⟨v, d, h1, h2⟩ := r.get i (by simpa [slM] using e)
    exact ⟨v, d, by simpa using h1, h2⟩
  | _, _, _, i + 1, _, .bo _ r, e => by
    obtain ⟨v, d, h1, h2⟩ := r.get i (by simpa [slM] using e)
    exact ⟨v, d, by simpa using h1, h2⟩
theorem slM_len : ∀ {ms : List Bool} {ds : List D}, ds.length = ms.length → (slM ms ds).length = ms.length
  | [], [], _ => rfl
  | _ :: _, _ :: _, h => by simp [slM, slM_len (Nat.succ.inj h)]
  | [], _ :: _, h => by simp at h
  | _ :: _, [], h => by simp at h
end
def runK (ms : List Bool) (n : Nat) (F : Sm) : List D → Option D := fun ds => (F (slM ms ds ++ List.replicate (n - ms.length) .no)).bind fun r => match r with
  | .rt d => some d
  | .nx _ => some .non
  | _ => none
def spK (K : PySem.W.Frag) (mg : Str → Option Value) (ms : List Bool) (F : List D → Option D) : Sp := fun vs H Q _ =>
  ∃ G ds d, Same G H ∧ TC.ti.t G H ∧ RepM K mg G H ms vs ds ∧ F ds = some d ∧ ∀ G' H' v, Ext G H G' H' → Rep K mg G' v d → Q v H'
theorem startK_rel {K : PySem.W.Frag} {mg : Str → Option Value} {G H : Hp} {N : List Str} {ms : List Bool} {vs : List V} {ds : List D} (gh : Same G H) (tb : TC.ti.t G H) (r : RepM K mg G H ms vs ds) : Rel K mg G H ⟨TC.ti.tz, none, TC.ti⟩ (slM ms ds ++ List.replicate (N.length - ms.length) .no) (L2.start N vs) G H := by
  obtain ⟨hv, hd⟩ := r.len
  have hl := slM_len hd
  unfold L2.start
  refine ⟨by simp [hl, hv], gh, same_n (Same.refl _), Same.refl _, fun a h => .inl h, fun a z => (TC.ti.live tb a z).1, fun _ _ z => (by cases z), tb, fun _ h => h, rfl, fun _ h => h, fun _ _ => False, fun _ _ z => z.elim, fun _ _ _ z => z.elim, fun i s h => ?_⟩
  by_cases hi : i < ms.length
  · rw [List.getElem?_append_left (by omega)] at h
    obtain ⟨v, d, e1, e2⟩ := r.get i h
    have st : (vs.map some ++ List.replicate (N.length - vs.length) none)[i]? = some (some v) := by
      rw [List.getElem?_append_left (by simp; omega), List.getElem?_map, e1]
      rfl
    rcases e2 with ⟨rfl, e2⟩ | ⟨rfl, e2⟩
    · exact .inr (.inl ⟨v, st, .sh e2⟩)
    · exact .inr (.inr ⟨v, d, rfl, st, e2⟩)
  · rw [List.getElem?_append_right (by omega), List.getElem?_replicate] at h
    split at h
    · cases h; exact .inl rfl
    · cases h
section
variable {P : Program} {w : World} {K : PySem.W.Frag} {mg : Str → Option Value} {base : Heap}
theorem def_okK {x qual : Str} {st : Stmt} {f : Addr} {fd : FuncData} {N ps : List Str} {k : Nat} {B : Sm} {ms : List Bool} (F : Fun K x qual st f fd) (S : FnScope N ps (defScope st)) (hms : ms.length = ps.length)
    (hbody : ∀ (cdv : Value) (A : Around) (outer : List PySem.Env) (s : Shared) (H : Hp) (E : XK), Room k (A.deeper (PyProof.Rows.envOfC qual (defScope st) s.heap.objs.size f cdv)) →
      Ss (cxOf CX0 P w K mg base N qual (defScope st) f cdv A outer s H E).nox (defBody st) B) : FnOk P w K mg base CX0 (k + 1) f fd ps (spK K mg ms (runK ms N.length B)) := by
  refine F.ok S (fun vs H Q E h => ?_) (fun cdv A outer s H vs Q E hr h => ?_)
  · obtain ⟨G, ds, d, gh, _, r, _⟩ := h
    rw [r.len.1, hms]
  · obtain ⟨G, ds, d, gh, tb, r, hf, k'⟩ := h
    obtain ⟨t, h1, h2⟩ := (hbody cdv A outer s H E hr).ex
    refine ⟨t, h1, ?_⟩
    obtain ⟨r1, e1, hf⟩ := obind hf
    refine h2 G H _ _ _ G H _ r1 (startK_rel gh tb r) e1 ?_
    cases r1 with
    | rt d' => cases hf; exact fun G' H' v x r => k' G' H' v x r
    | nx Γ => cases hf; exact fun σ' G' H' R => k' G' H' _ R.end .non
    | rm d s => cases hf
    | ro s => cases hf
    | bk Γ => cases hf
    | ct Γ => cases hf
end
structure CalK (P : Program) (w : World) (K : PySem.W.Frag) (mg : Str → Option Value) (base : Heap) (x : Str) (L : Nat) (ps : List Str) (ms : List Bool) (S : List D → Option D) : Prop where
  ex : ∃ f fd, FnOk P w K mg base CX0 L f fd ps (spK K mg ms S) ∧ mg x = some (.ref f) ∧ PySem.W.keepIn K (.ref f) = true ∧ Binds K fd ps []
structure MetK (P : Program) (w : World) (K : PySem.W.Frag) (mg : Str → Option Value) (base : Heap) (c : Nat) (m : Str) (L : Nat) (ps : List Str) (ms : List Bool) (S : List D → Option D) : Prop where
  ex : ∃ C f fd, CK K mg c C ∧ Meth K C m f ∧ FnOk P w K mg base CX0 L f fd ps (spK K mg ms S) ∧ Binds K fd ps []
structure AM (X : Cx) (es : List Expr) (ms : List Bool) (f : Ag) : Prop where
  ex : ∃ t, PA X es t ∧ ∀ G0 H0 Z Γ σ G H Q ds, Rel X.K X.mg G0 H0 Z Γ σ G H → f Γ = some ds → (∀ G' H' vs, Ext G H G' H' → RepM X.K X.mg G' H' ms vs ds → Q vs H') → t σ H Q
section
variable {X : Cx} {e a b o : Expr} {es : List Expr} {f g : Ex} {fs : Ag} {pos : Pos} {ms : List Bool}
theorem m_nil : AM X [] [] aN := ⟨⟨_, pa_nil, fun G0 H0 Z Γ σ G H Q ds R hf k => by cases hf; exact k G H _ (Ext.refl R.gh) .nil⟩⟩
theorem m_sh (he : E X e f) (hr : AM X es ms fs) (hs : starEach (e :: es) X.env = (false, eval e X.env) :: starEach es X.env := by rfl) : AM X (e :: es) (false :: ms) (aC f fs) := by
  obtain ⟨t, h1, h2⟩ := he.ex
  obtain ⟨u, q1, q2⟩ := hr.ex
  refine ⟨⟨_, pa_cons h1 q1 hs, fun G0 H0 Z Γ σ G H Q ds R hf k => ?_⟩⟩
  obtain ⟨d, e1, hf⟩ := obind hf
  obtain ⟨ds', e2, hf⟩ := obind hf
  cases hf
  refine h2 G0 H0 Z Γ σ G H _ d R e1 fun G1 H1 v x1 r1 => ?_
  refine q2 G0 H0 Z Γ σ G1 H1 _ ds' (R.ext x1) e2 fun G2 H2 vs x2 r2 => ?_
  exact k G2 H2 _ (x1.trans x2) (.sh (r1.mono x2.gg) r2)
theorem m_bo (he : B X e f) (hr : AM X es ms fs) (hs : starEach (e :: es) X.env = (false, eval e X.env) :: starEach es X.env := by rfl) : AM X (e :: es) (true :: ms) (aC f fs) := by
  obtain ⟨t, h1, h2⟩ := he.ex
  obtain ⟨u, q1, q2⟩ := hr.ex
  refine ⟨⟨_, pa_cons h1 q1 hs, fun G0 H0 Z Γ σ G H Q ds R hf k => ?_⟩⟩
  obtain ⟨d, e1, hf⟩ := obind hf
  obtain ⟨ds', e2, hf⟩ := obind hf
  cases hf
  refine h2 G0 H0 Z Γ σ G H _ d R e1 fun G1 H1 v x1 r1 => ?_
  refine q2 G0 H0 Z Γ σ G1 H1 _ ds' (R.ext x1) e2 fun G2 H2 vs x2 r2 => ?_
  exact k G2 H2 _ (x1.trans x2) (.bo (r1.ext x2) r2)
theorem e_callK {k L : Nat} {ps : List Str} {S : List D → Option D} {x : Str} {p : Pos} (c : CalK X.prog X.w X.K X.mg X.base x L ps ms S) (hr : Room k X.A) (hk : L ≤ k)
    (ha : AM X (a :: es) ms fs) (hg : Gl X x := by rfl) (hdb : (x == ("__debug__" : Str)) = false := by decide) (he : starEach (a :: es) X.env = (false, eval a X.env) :: starEach es X.env := by rfl) (hpl : (backTo pos (starEach es X.env)).any (·.1) = false := by rfl) :
    E X (.Call (.Name x p) (a :: es) [] pos) (gCall S fs) := by
  obtain ⟨f, fd, f1, f2, f3, f4⟩ := c.ex
  obtain ⟨t, h1, h2⟩ := ha.ex
  refine ⟨⟨_, pe_call f1 (hr.mono hk) hg f2 f3 f4 .nil pass0 h1 hdb he hpl, fun G0 H0 Z Γ σ G H Q d R hf k => ?_⟩⟩
  obtain ⟨ds, e1, hf⟩ := obind hf
  refine h2 G0 H0 Z Γ σ G H _ _ R e1 fun G1 H1 vs x1 r1 => ?_
  refine ⟨G1, ds, d, x1.gh, (R.ext x1).tbc, ?_, hf, fun G' H' v x2 r2 => k G' H' v (x1.trans x2) r2⟩
  rw [List.append_nil]; exact r1
/-- the object that a value is, where it is only looked at -/
theorem RepB.objAt {K : PySem.W.Frag} {mg : Str → Option Value} {G H : Hp} {v : V} {c : Nat} {ds : List D} (gh : Same G H) (r : RepB K mg G H v (.obj c ds)) : ∃ p C dx vs, v = .ref p ∧ mg (cN c) = some (.ref C) ∧ H p = some (.ins C dx ((cF c).zip vs)) ∧ RepBL K mg G H vs ds := by
  cases r with
  | sh r => cases r with
    | obj hm h r => exact ⟨_, _, _, _, rfl, hm, gh _ _ h, r.bo⟩
  | obj hm h r => exact ⟨_, _, _, _, rfl, hm, h, r⟩
theorem e_metK {pl : Sem Bool} {c k L : Nat} {ps : List Str} {S : List D → Option D} {m : Str} {apos : Pos} (mt : MetK X.prog X.w X.K X.mg X.base c m L ps (true :: ms) S) (hr : Room k X.A) (hk : L ≤ k)
    (ho : B X o f) (ha : AM X (a :: es) ms fs) (hno : m ∉ cF c := by decide +kernel)
    (hst : starEach (a :: es) X.env = (false, eval a X.env) :: starEach es X.env := by rfl) (hpl : (backTo pos (starEach es X.env)).any (·.1) = false := by rfl)
    (ht : eval (.Call (.Attribute o m apos) (a :: es) [] pos) X.env = (do
      let ov ← eval o X.env
      standAt apos.atName
      let (f, first) ← holding [ov] (getMethod ov m pl)
      callWith pos f first (backTo pos (starEach (a :: es) X.env)) (backToKw pos (keywordEach [] X.env))) := by rfl) : E X (.Call (.Attribute o m apos) (a :: es) [] pos) (gMeth c S f fs) := by
  obtain ⟨C, fa, fd, ck, hme, FO, hb⟩ := mt.ex
  obtain ⟨t, h1, h2⟩ := ha.ex
  obtain ⟨u, q1, q2⟩ := ho.ex
  refine ⟨⟨_, pe_meth q1 ck.cl hme FO (hr.mono hk) hb .nil pass0 h1 hst hpl ht, fun G0 H0 Z Γ σ G H Q d R hf k => ?_⟩⟩
  obtain ⟨y, e1, hv⟩ := obind hf
  cases y with
  | obj c' vs' =>
    replace hv : (if c' = c then (fs Γ).bind fun ds => S (.obj c' vs' :: ds) else none) = some d := hv
    split at hv
    · rename_i cz
      subst cz
      obtain ⟨ds, e2, hv⟩ := obind hv
      refine q2 G0 H0 Z Γ σ G H _ _ R e1 fun G1 H1 v x1 r1 => ?_
      obtain ⟨p, C', dx, ws, rfl, hm', hp, _⟩ := r1.objAt x1.gh
      rw [ck.hm] at hm'
      cases hm'
      refine ⟨_, _, _, rfl, hp, zip_lookup_none hno, ?_⟩
      refine h2 G0 H0 Z Γ σ G1 H1 _ _ (R.ext x1) e2 fun G2 H2 vs x2 r2 => ?_
      exact ⟨G2, _, d, x2.gh, ((R.ext x1).ext x2).tbc, .bo (r1.ext x2) (by rw [List.append_nil]; exact r2), hv, fun G' H' v x3 r3 => k G' H' v ((x1.trans x2).trans x3) r3⟩
    · cases hv
  | _ => cases hv
theorem e_metK0 {pl : Sem Bool} {c k L : Nat} {ps : List Str} {S : List D → Option D} {m : Str} {apos : Pos} (mt : MetK X.prog X.w X.K X.mg X.base c m L ps [true] S) (hr : Room k X.A) (hk : L ≤ k)
    (ho : B X o f) (hno : m ∉ cF c := by decide +kernel)
    (ht : eval (.Call (.Attribute o m apos) [] [] pos) X.env = (do
      let ov ← eval o X.env
      standAt apos.atName
      let (f, first) ← holding [ov] (getMethod ov m pl)
      callWith pos f first (backTo pos (starEach [] X.env)) (backToKw pos (keywordEach [] X.env))) := by rfl) : E X (.Call (.Attribute o m apos) [] [] pos) (gMeth c S f aN) := by
  obtain ⟨C, fa, fd, ck, hme, FO, hb⟩ := mt.ex
  obtain ⟨u, q1, q2⟩ := ho.ex
  refine ⟨⟨_, pe_meth0 q1 ck.cl hme FO (hr.mono hk) hb .nil pass0 ht, fun G0 H0 Z Γ σ G H Q d R hf k => ?_⟩⟩
  obtain ⟨y, e1, hv⟩ := obind hf
  cases y with
  | obj c' vs' =>
    replace hv : (if c' = c then (aN Γ).bind fun ds => S (.obj c' vs' :: ds) else none) = some d := hv
    split at hv
    · rename_i cz
      subst cz
      obtain ⟨ds, e2, hv⟩ := obind hv
      cases e2
      refine q2 G0 H0 Z Γ σ G H _ _ R e1 fun G1 H1 v x1 r1 => ?_
      obtain ⟨p, C', dx, ws, rfl, hm', hp, _⟩ := r1.objAt x1.gh
      rw [ck.hm] at hm'
      cases hm'
      refine ⟨_, _, _, rfl, hp, zip_lookup_none hno, ?_⟩
      exact ⟨G1, _, d, x1.gh, (R.ext x1).tbc, .bo r1 .nil, hv, fun G' H' v x3 r3 => k G' H' v (x1.trans x3) r3⟩
    · cases hv
  | _ => cases hv
/-- o.f of what is only looked at -/
theorem b_fld {c j : Nat} {C : Addr} {x : Str} (ck : CK X.K X.mg c C) (he : B X o f) (hj : (cF c)[j]? = some x := by rfl) (nd : (cF c).Nodup := by decide +kernel) (hb : attributeBase o x X.env (eval o X.env) = eval o X.env := by rfl) : B X (.Attribute o x pos) (gU (dFld c j) f) := by
  obtain ⟨t, h1, h2⟩ := he.ex
  refine ⟨⟨_, pe_fld h1 hb, fun G0 H0 Z Γ σ G H Q d R hf k => ?_⟩⟩
  obtain ⟨y, e1, hv⟩ := obind hf
  cases y with
  | obj c' vs =>
    replace hv : (if c' = c then vs[j]? else none) = some d := hv
    split at hv
    · rename_i cz
      subst cz
      refine h2 G0 H0 Z Γ σ G H _ _ R e1 fun G1 H1 v x1 r1 => ?_
      obtain ⟨p, C', dx, ws, rfl, hm', hp, rl⟩ := r1.objAt x1.gh
      rw [ck.hm] at hm'
      cases hm'
      obtain ⟨w, g1, g2⟩ := rl.get j hv
      exact ⟨_, _, _, _, w, rfl, hp, ck.cl, ck.na x (List.mem_of_getElem? hj), zip_lookup nd hj g1, k G1 H1 w x1 g2⟩
    · cases hv
  | _ => cases hv
/-- neither a list nor an object: nothing can be changed in it -/
def isIm : D → Bool
  | .lst _ => false
  | .obj _ _ => false
  | .dic _ _ => false
  | _ => true
def gIm (f : Ex) : Ex := fun Γ => (f Γ).bind fun d => if isIm d then some d else none
theorem B.im (h : B X e f) : E X e (gIm f) := by
  obtain ⟨t, h1, h2⟩ := h.ex
  refine ⟨⟨t, h1, fun G0 H0 Z Γ σ G H Q d R hf k => ?_⟩⟩
  obtain ⟨y, e1, hv⟩ := obind hf
  split at hv
  · rename_i hi
    cases hv
    refine h2 G0 H0 Z Γ σ G H Q _ R e1 fun G1 H1 v x1 r1 => k G1 H1 v x1 ?_
    refine r1.flat (fun xs z => ?_) (fun c xs z => ?_) fun ks xs z => ?_
    · subst z; cases hi
    · subst z; cases hi
    · subst z; cases hi
  · cases hv
end

/-! ### calls that change a place of one's own -/
/-- an expression that changes slots' places (not the slots) and gives a datum -/
abbrev Mx := DEnv → Option (D × DEnv)
structure EM (X : Cx) (e : Expr) (f : Mx) : Prop where
  ex : ∃ t, PE X e t ∧ ∀ G0 H0 Z Γ σ G H Q d Γ', Rel X.K X.mg G0 H0 Z Γ σ G H → f Γ = some (d, Γ') → (∀ G' H' v, Rel X.K X.mg G0 H0 Z Γ' σ G' H' → Rep X.K X.mg G' v d → Q v H') → t σ H Q
structure CalM (P : Program) (w : World) (K : PySem.W.Frag) (mg : Str → Option Value) (base : Heap) (x : Str) (L : Nat) (ps : List Str) (S : Sl → List D → Option (D × Sl)) : Prop where
  ex : ∃ f fd n, ps.length = n + 1 ∧ FnOk P w K mg base CX0 L f fd ps (spM K mg n S) ∧ mg x = some (.ref f) ∧ PySem.W.keepIn K (.ref f) = true ∧ Binds K fd ps []
structure MetM (P : Program) (w : World) (K : PySem.W.Frag) (mg : Str → Option Value) (base : Heap) (c : Nat) (m : Str) (L : Nat) (ps : List Str) (S : Sl → List D → Option (D × Sl)) : Prop where
  ex : ∃ C f fd n, ps.length = n + 1 ∧ CK K mg c C ∧ Meth K C m f ∧ FnOk P w K mg base CX0 L f fd ps (spM K mg n S) ∧ Binds K fd ps []
/-- place i rp is changed by S -/
def gCM (i : Nat) (rp : Pth) (S : Sl → List D → Option (D × Sl)) (fs : Ag) : Mx := fun Γ => match gP i rp Γ with
  | some s1 => if isOwn s1 then (fs Γ).bind fun ds => (S s1 ds).bind fun r => (Γ[i]?).bind fun s => (setR rp r.2 s).bind fun s2 => some (r.1, Γ.set i s2) else none
  | none => none
theorem gCM_some {i : Nat} {rp : Pth} {S : Sl → List D → Option (D × Sl)} {fs : Ag} {Γ Γ' : DEnv} {d : D} (h : gCM i rp S fs Γ = some (d, Γ')) :
    ∃ s s1 ds s1' s2, Γ[i]? = some s ∧ getR rp s = some s1 ∧ SlP s ∧ SlP s1 ∧ isOwn s1 = true ∧ fs Γ = some ds ∧ S s1 ds = some (d, s1') ∧ setR rp s1' s = some s2 ∧ Γ' = Γ.set i s2 := by
  unfold gCM at h
  cases q : gP i rp Γ with
  | none => rw [q] at h; cases h
  | some s1 =>
    rw [q] at h
    replace h : (if isOwn s1 then (fs Γ).bind fun ds => (S s1 ds).bind fun r => (Γ[i]?).bind fun s => (setR rp r.2 s).bind fun s2 => some (r.1, Γ.set i s2) else none) = some (d, Γ') := h
    split at h
    · rename_i ho
      obtain ⟨ds, e1, h⟩ := obind h
      obtain ⟨⟨d', s1'⟩, e2, h⟩ := obind h
      obtain ⟨s, e3, h⟩ := obind h
      obtain ⟨s2, e4, h⟩ := obind h
      cases h
      have hP : SlP s1 := ⟨(fun z => by subst z; cases ho), (fun d z => by subst z; cases ho)⟩
      obtain ⟨s', b1, b2, b3⟩ := gP_some q hP
      rw [e3] at b1
      cases b1
      exact ⟨s, s1, ds, s1', s2, e3, b2, b3, hP, ho, e1, e2, e4, rfl⟩
    · cases h
section
variable {X : Cx} {e a b o : Expr} {es : List Expr} {f g : Ex} {fs : Ag} {pos : Pos} {n i : Nat} {rp : Pth} {S : Sl → List D → Option (D × Sl)} {mx : Mx}
/-- the callee's promise at a place -/
theorem change_ok {G0 H0 G H Hb : Hp} {Z : Zs} {Γ : DEnv} {σ : L2.St} {n : Nat} {Q : VK} {E : XK} {s s1 s1' s2 : Sl} {v : V} {F1 : Addr → Prop} {vs : List V} {ds : List D} {d : D} (P : Pack X.K X.mg G0 H0 Z Γ σ i rp s s1 v F1 Hb G H) (gh : Same G H) (hb : ∀ a, Hb a ≠ none → H a ≠ none) (r : RepL X.K X.mg G vs ds) (hn : ds.length = n) (ho : isOwn s1 = true)
    (hS : S s1 ds = some (d, s1')) (es : setR rp s1' s = some s2) (k : ∀ G' H' u, Rel X.K X.mg G0 H0 Z (Γ.set i s2) σ G' H' → Rep X.K X.mg G' u d → Q u H') : spM X.K X.mg n S (v :: vs) H Q E := by
  refine ⟨v, vs, G, s1, ds, d, s1', F1, rfl, by rw [r.length, hn], gh, P.tb, P.hd, fun a y => ⟨(P.fr a y).1, (P.fr a y).2.2.1, P.ntz a y⟩, r, hS, fun G' H' u Fp' gg gh' tb' hn' nw keep rv hd' fr => k G' H' u ?_ rv⟩
  have free : ∀ a, H a = none → Hb a = none := fun a z => by
    cases q : Hb a with
    | none => rfl
    | some o => exact absurd z (hb a (by rw [q]; simp))
  refine P.upC G' H' Fp' s1' s2 gg gh' tb' hn' (fun a q => ?_) keep hd' (fun a y => ?_) (fun _ => ho) es
  · rcases nw a q with z | z | z
    · exact .inl z
    · exact .inr (.inl (free a z))
    · exact .inr (.inr z)
  · obtain ⟨w1, w2, w3⟩ := fr a y
    exact ⟨w1, w2, w3.elim .inl fun z => .inr (free a z)⟩
theorem em_call {k L : Nat} {ps : List Str} {x : Str} {p : Pos} (c : CalM X.prog X.w X.K X.mg X.base x L ps S) (hr : Room k X.A) (hk : L ≤ k) (hp : PL X o i rp)
    (ha : AN X es n fs) (hn : ps.length = n + 1 := by rfl) (hg : Gl X x := by rfl) (hdb : (x == ("__debug__" : Str)) = false := by decide) (he : starEach (o :: es) X.env = (false, eval o X.env) :: starEach es X.env := by rfl) (hpl : (backTo pos (starEach es X.env)).any (·.1) = false := by rfl) :
    EM X (.Call (.Name x p) (o :: es) [] pos) (gCM i rp S fs) := by
  obtain ⟨f, fd, n', f0, f1, f2, f3, f4⟩ := c.ex
  have : n' = n := by omega
  subst this
  obtain ⟨t, t1, t2⟩ := ha.a.ex
  obtain ⟨u, u1, u2⟩ := hp.ex
  refine ⟨⟨_, pe_call f1 (hr.mono hk) hg f2 f3 f4 .nil pass0 (pa_cons u1 t1 he) hdb he hpl, fun G0 H0 Z Γ σ G H Q d Γ' R hf k => ?_⟩⟩
  obtain ⟨s, s1, ds, s1', s2, b1, b2, b3, b4, ho, e1, hS, es', rfl⟩ := gCM_some hf
  refine u2 G0 H0 Z Γ σ G H G H _ s s1 R (Ext.refl R.gh) b1 b2 b3 b4.1 fun v pk => ?_
  refine t2 G0 H0 Z Γ σ G H _ ds R e1 fun G1 H1 vs x1 r1 => ?_
  obtain ⟨F1, P⟩ := pk G1 H1 x1
  rw [List.append_nil]
  exact change_ok (E := E0) P x1.gh x1.hn r1 (ha.n Γ ds e1) ho hS es' k
theorem em_met {pl : Sem Bool} {c k L : Nat} {ps : List Str} {m : Str} {apos : Pos} (mt : MetM X.prog X.w X.K X.mg X.base c m L ps S) (hr : Room k X.A) (hk : L ≤ k) (hp : PL X o i rp)
    (ha : AN X (a :: es) n fs) (hn : ps.length = n + 1 := by rfl) (hno : m ∉ cF c := by decide +kernel)
    (hst : starEach (a :: es) X.env = (false, eval a X.env) :: starEach es X.env := by rfl) (hpl : (backTo pos (starEach es X.env)).any (·.1) = false := by rfl)
    (ht : eval (.Call (.Attribute o m apos) (a :: es) [] pos) X.env = (do
      let ov ← eval o X.env
      standAt apos.atName
      let (f, first) ← holding [ov] (getMethod ov m pl)
      callWith pos f first (backTo pos (starEach (a :: es) X.env)) (backToKw pos (keywordEach [] X.env))) := by rfl) :
    EM X (.Call (.Attribute o m apos) (a :: es) [] pos) (fun Γ => match gP i rp Γ with | some (.ob c' _) => if c' = c then gCM i rp S fs Γ else none | _ => none) := by
  obtain ⟨C, fa, fd, n', f0, ck, hme, FO, hb⟩ := mt.ex
  have : n' = n := by omega
  subst this
  obtain ⟨t, t1, t2⟩ := ha.a.ex
  obtain ⟨u, u1, u2⟩ := hp.ex
  refine ⟨⟨_, pe_meth u1 ck.cl hme FO (hr.mono hk) hb .nil pass0 t1 hst hpl ht, fun G0 H0 Z Γ σ G H Q d Γ' R hf k => ?_⟩⟩
  cases q : gP i rp Γ with
  | none => rw [q] at hf; cases hf
  | some s0 =>
    rw [q] at hf
    cases s0 with
    | ob c' fls =>
      replace hf : (if c' = c then gCM i rp S fs Γ else none) = some (d, Γ') := hf
      split at hf
      · rename_i cz
        subst cz
        obtain ⟨s, s1, ds, s1', s2, b1, b2, b3, b4, ho, e1, hS, es', rfl⟩ := gCM_some hf
        have e0 : s1 = .ob c' fls := by
          unfold gP at q
          rw [b1] at q
          exact Option.some.inj (b2.symm.trans q)
        subst e0
        refine u2 G0 H0 Z Γ σ G H G H _ s _ R (Ext.refl R.gh) b1 b2 b3 b4.1 fun v pk => ?_
        obtain ⟨F0, P0⟩ := pk G H (Ext.refl R.gh)
        have hd := P0.hd
        cases hd with
        | ob ff hm hh nn sF rr =>
          rw [ck.hm] at hm
          cases hm
          refine ⟨_, _, _, rfl, hh, zip_lookup_none hno, ?_⟩
          refine t2 G0 H0 Z Γ σ G H _ ds R e1 fun G1 H1 vs x1 r1 => ?_
          obtain ⟨F1, P⟩ := pk G1 H1 x1
          rw [List.append_nil]
          exact change_ok (E := E0) P x1.gh x1.hn r1 (ha.n Γ ds e1) ho hS es' k
      · cases hf
    | _ => cases hf
theorem em_met0 {pl : Sem Bool} {c k L : Nat} {ps : List Str} {m : Str} {apos : Pos} (mt : MetM X.prog X.w X.K X.mg X.base c m L ps S) (hr : Room k X.A) (hk : L ≤ k) (hp : PL X o i rp)
    (hn : ps.length = 1 := by rfl) (hno : m ∉ cF c := by decide +kernel)
    (ht : eval (.Call (.Attribute o m apos) [] [] pos) X.env = (do
      let ov ← eval o X.env
      standAt apos.atName
      let (f, first) ← holding [ov] (getMethod ov m pl)
      callWith pos f first (backTo pos (starEach [] X.env)) (backToKw pos (keywordEach [] X.env))) := by rfl) :
    EM X (.Call (.Attribute o m apos) [] [] pos) (fun Γ => match gP i rp Γ with | some (.ob c' _) => if c' = c then gCM i rp S aN Γ else none | _ => none) := by
  obtain ⟨C, fa, fd, n', f0, ck, hme, FO, hb⟩ := mt.ex
  have : n' = 0 := by omega
  subst this
  obtain ⟨u, u1, u2⟩ := hp.ex
  refine ⟨⟨_, pe_meth0 u1 ck.cl hme FO (hr.mono hk) hb .nil pass0 ht, fun G0 H0 Z Γ σ G H Q d Γ' R hf k => ?_⟩⟩
  cases q : gP i rp Γ with
  | none => rw [q] at hf; cases hf
  | some s0 =>
    rw [q] at hf
    cases s0 with
    | ob c' fls =>
      replace hf : (if c' = c then gCM i rp S aN Γ else none) = some (d, Γ') := hf
      split at hf
      · rename_i cz
        subst cz
        obtain ⟨s, s1, ds, s1', s2, b1, b2, b3, b4, ho, e1, hS, es', rfl⟩ := gCM_some hf
        have e0 : s1 = .ob c' fls := by
          unfold gP at q
          rw [b1] at q
          exact Option.some.inj (b2.symm.trans q)
        subst e0
        cases e1
        refine u2 G0 H0 Z Γ σ G H G H _ s _ R (Ext.refl R.gh) b1 b2 b3 b4.1 fun v pk => ?_
        obtain ⟨F0, P0⟩ := pk G H (Ext.refl R.gh)
        have hd := P0.hd
        cases hd with
        | ob ff hm hh nn sF rr =>
          rw [ck.hm] at hm
          cases hm
          refine ⟨_, _, _, rfl, hh, zip_lookup_none hno, ?_⟩
          obtain ⟨F1, P⟩ := pk G H (Ext.refl R.gh)
          exact change_ok (E := E0) (vs := []) (ds := []) P R.gh (fun _ h => h) .nil rfl ho hS es' k
      · cases hf
    | _ => cases hf
def gMM (i : Nat) (rp : Pth) (c : Nat) (S : Sl → List D → Option (D × Sl)) (fs : Ag) : Mx := fun Γ => match gP i rp Γ with | some (.ob c' _) => if c' = c then gCM i rp S fs Γ else none | _ => none
/-! statements of these -/
def sExpM (f : Mx) : Sm := fun Γ => (f Γ).bind fun r => some (.nx r.2)
theorem s_exprM (he : EM X e mx) (hs : swapsWith e none pos.line X.env = pure false := by rfl) : DL.S X (.Expr e pos) (sExpM mx) := by
  obtain ⟨t, h1, h2⟩ := he.ex
  refine ⟨⟨_, ps_expr h1 hs, fun G0 H0 Z Γ σ G H D r R hf k => ?_⟩⟩
  obtain ⟨⟨d, Γ'⟩, e1, hf⟩ := obind hf
  cases hf
  exact h2 G0 H0 Z Γ σ G H _ d Γ' R e1 fun G1 H1 v R1 r1 => k σ G1 H1 R1
def sSetM (j : Nat) (f : Mx) : Sm := fun Γ => (f Γ).bind fun r => some (.nx (r.2.set j (.sh r.1)))
theorem s_setM (j : Nat) {x : Str} {pos' : Pos} (hN : X.N.Nodup) (he : EM X e mx) (hi : X.N[j]? = some x := by rfl) (hx : Loc X.env.scope x := by first | exact Or.inl rfl | exact Or.inr rfl) (hs : swapsWith e (some (.Name x pos')) pos.line X.env = pure false := by rfl)
    (hf : X.fn x = true ∨ X.env.scope.names.lookup x = some .local := by first | exact .inl rfl | exact .inr rfl | assumption) : DL.S X (.Assign [.Name x pos'] e pos) (sSetM j mx) := by
  obtain ⟨t, h1, h2⟩ := he.ex
  refine ⟨⟨_, ps_set hN hi hx h1 hs hf, fun G0 H0 Z Γ σ G H D r R hf k => ?_⟩⟩
  obtain ⟨⟨d, Γ'⟩, e1, hf⟩ := obind hf
  cases hf
  exact h2 G0 H0 Z Γ σ G H _ d Γ' R e1 fun G1 H1 v R1 r1 => k _ G1 H1 (R1.set j r1)
def sRetCM (f : Mx) : Sm := fun Γ => (f Γ).bind fun r => (r.2[0]?).bind fun s => if isOwn s then some (.rm r.1 s) else none
theorem s_retCM (he : EM X e mx) : DL.S X (.Return (some e) pos) (sRetCM mx) := by
  obtain ⟨t, h1, h2⟩ := he.ex
  refine ⟨⟨_, ps_ret h1, fun G0 H0 Z Γ σ G H D r R hf k => ?_⟩⟩
  obtain ⟨⟨d, Γ'⟩, e1, hf⟩ := obind hf
  obtain ⟨s, e2, hf⟩ := obind hf
  split at hf
  · cases hf
    exact h2 G0 H0 Z Γ σ G H _ d Γ' R e1 fun G1 H1 v R1 r1 => k Γ' σ G1 H1 v R1 e2 r1
  · cases hf
/-- del P[k:] -/
def sDelF (i : Nat) (rp : Pth) (f : Ex) : Sm := fun Γ => match gP i rp Γ with
  | some (.ow xs) => (f Γ).bind fun d => match d with
    | .int k => if 0 ≤ k ∧ k.toNat ≤ xs.length then upP i rp (.ow (xs.take k.toNat)) Γ else none
    | _ => none
  | _ => none
theorem s_delF {sp tpos : Pos} (hp : PL X o i rp) (he : E X e f) : DL.S X (.Delete [.Subscript o (.Slice (some e) none none sp) tpos] pos) (sDelF i rp f) := by
  obtain ⟨t, t1, t2⟩ := he.ex
  obtain ⟨u, u1, u2⟩ := hp.ex
  refine ⟨⟨_, ps_delF u1 t1, fun G0 H0 Z Γ σ G H D r R hf k => ?_⟩⟩
  unfold sDelF at hf
  cases q : gP i rp Γ with
  | none => rw [q] at hf; cases hf
  | some par =>
    rw [q] at hf
    cases par with
    | ow xs =>
      obtain ⟨d, e1, hf⟩ := obind hf
      cases d with
      | int j =>
        replace hf : (if 0 ≤ j ∧ j.toNat ≤ xs.length then upP i rp (.ow (xs.take j.toNat)) Γ else none) = some r := hf
        split at hf
        · rename_i hj
          obtain ⟨s, s2, a1, a2, rfl⟩ := upP_some hf
          obtain ⟨s', b1, b2, b3⟩ := gP_some q (by simp [SlP])
          rw [a1] at b1
          cases b1
          refine u2 G0 H0 Z Γ σ G H G H _ s _ R (Ext.refl R.gh) a1 b2 b3 (by simp) fun v pk => ?_
          refine t2 G0 H0 Z Γ σ G H _ _ R e1 fun G1 H1 w x1 r1 => ?_
          obtain ⟨F1, p1⟩ := pk G1 H1 x1
          obtain ⟨l, vs, rfl, d1, d2, d3⟩ := p1.list x1.gh
          rw [r1.intv]
          refine ⟨l, vs, j.toNat, rfl, by rw [Int.toNat_of_nonneg hj.1], d1, by rw [d2.length]; exact hj.2, ?_⟩
          exact k σ G1 _ (d3 _ _ _ (d2.take _) a2)
        · cases hf
      | _ => cases hf
    | _ => cases hf
end
end DL

namespace DL
open PySem L2
variable [TC : TabCtx]

section
variable {X : Cx} {e a b o : Expr} {es : List Expr} {f g k : Ex} {fs : Ag} {pos pos' : Pos} {n i : Nat} {rp : Pth}
/-- a + b of lists that are looked at: a new list -/
def gCat (f g : Ex) : Ag := fun Γ => (f Γ).bind fun x => (g Γ).bind fun y => match x, y with
  | .lst xs, .lst ys => if xs.length + ys.length < 1000000 then some (xs ++ ys) else none
  | _, _ => none
theorem el_cat (ha : B X a f) (hb : B X b g) : EL X (.BinOp a .Add b pos) (gCat f g) := by
  obtain ⟨t, h1, h2⟩ := ha.ex
  obtain ⟨u, q1, q2⟩ := hb.ex
  refine ⟨⟨_, pe_op op_cat h1 q1, fun G0 H0 Z Γ σ G H Q ds R hf k => ?_⟩⟩
  obtain ⟨x, e1, hf⟩ := obind hf
  obtain ⟨y, e2, hf⟩ := obind hf
  cases x with
  | lst xs =>
    cases y with
    | lst ys =>
      replace hf : (if xs.length + ys.length < 1000000 then some (xs ++ ys) else none) = some ds := hf
      split at hf
      · rename_i hz
        cases hf
        refine h2 G0 H0 Z Γ σ G H _ _ R e1 fun G1 H1 v x1 r1 => ?_
        refine q2 G0 H0 Z Γ σ G1 H1 _ _ (R.ext x1) e2 fun G2 H2 w x2 r2 => ?_
        obtain ⟨p, vs, rfl, hp, rp⟩ := (r1.ext x2).lst x2.gh
        obtain ⟨q, ws, rfl, hq, rq⟩ := r2.lst x2.gh
        refine ⟨p, q, vs, ws, rfl, rfl, hp, hq, by rw [rp.length, rq.length]; exact Nat.le_trans (Nat.le_of_lt hz) line_big, fun l hl => ?_⟩
        exact k G2 _ l _ ((x1.trans x2).trans (Ext.own1 x2.gh hl)) ((x1.trans x2).hf hl) (x2.gh.free hl) upd_same (rp.append rq)
      · cases hf
    | _ => cases hf
  | _ => cases hf

/-! P.f += e -/
theorem Pack.setSh {K : PySem.W.Frag} {mg : Str → Option Value} {G0 H0 G H Hb : Hp} {Z : Zs} {Γ : DEnv} {σ : L2.St} {s s2 : Sl} {c j : Nat} {x : Str} {fs : List Sl} {v0 v : V} {F1 : Addr → Prop} {d : D} (P : Pack K mg G0 H0 Z Γ σ i rp s (.ob c fs) v0 F1 Hb G H) (gh : Same G H)
    (hj : (cF c)[j]? = some x) (nd : (cF c).Nodup) (r : Rep K mg G v d) (hl : j < fs.length) (es : setR rp (.ob c (fs.set j (.sh d))) s = some s2) :
    ∃ p C dx vs, v0 = .ref p ∧ mg (cN c) = some (.ref C) ∧ H p = some (.ins C dx ((cF c).zip vs)) ∧ Rel K mg G0 H0 Z (Γ.set i s2) σ G (upd H p (.ins C dx (putF x v ((cF c).zip vs)))) := by
  have hd := P.hd
  cases hd with
  | ob f hm ho n sF rr =>
    rename_i p C dx vs F'
    have gp := (P.fr p f).1
    have hlen := rr.length
    refine ⟨p, C, dx, vs, rfl, hm, ho, ?_⟩
    rw [putF_set nd hj (by rw [hlen]; exact hl)]
    have keep : ∀ (Y : Addr → Prop), ¬ Y p → ∀ a o, Y a → H a = some o → upd H p (.ins C dx ((cF c).zip (vs.set j v))) a = some o := fun Y hy a o ya q => by
      rw [upd_ne]
      · exact q
      · intro e; subst e; exact hy ya
    refine P.up G _ F1 (.ob c (fs.set j (.sh d))) s2 (Same.refl _) (fun a o q => ?_) (fun a q => .inl q) (fun a o nf q => ?_) ?_ (fun a y => ?_) (fun _ => rfl) es
    · rw [upd_ne (ne_of_none q gp)]; exact gh _ _ q
    · rw [upd_ne]
      · exact q
      · intro e; subst e; exact nf f
    · have hs := (rr.mono (H' := upd H p (.ins C dx ((cF c).zip (vs.set j v)))) (Same.refl _) (fun a o y q _ => keep F' n a o y q)).setv j (F1 := fun _ => False) (Hd.sh r) (fun _ z => z.elim)
      exact .ob f hm upd_same (F' := fun a => F' a ∨ False) (fun y => y.elim n id) (fun a y => y.elim (sF a) False.elim) hs
    · refine ⟨(P.fr a y).1, ?_, .inl y⟩
      by_cases e : a = p
      · subst e; rw [upd_same]; simp
      · rw [upd_ne e]; exact (P.fr a y).2.2.1
def sAugF (i : Nat) (rp : Pth) (c j : Nat) (f : Ex) : Sm := fun Γ => match gP i rp Γ with
  | some (.ob c' fs) => if c' = c then (match fs[j]? with
    | some (.sh (.int a)) => (f Γ).bind fun d => match d with
      | .int b => upP i rp (.ob c (fs.set j (.sh (.int (a + b))))) Γ
      | _ => none
    | _ => none) else none
  | _ => none
theorem s_augF {c j : Nat} {C : Addr} {x : Str} {tpos : Pos} (ck : CK X.K X.mg c C) (hp : PL X o i rp) (he : E X e f) (hj : (cF c)[j]? = some x := by rfl) (nd : (cF c).Nodup := by decide +kernel) :
    S X (.AugAssign (.Attribute o x tpos) .Add e pos) (sAugF i rp c j f) := by
  obtain ⟨t, t1, t2⟩ := he.ex
  obtain ⟨u, u1, u2⟩ := hp.ex
  refine ⟨⟨_, ps_fldaug u1 t1 in_add, fun G0 H0 Z Γ σ G H D r R hf k => ?_⟩⟩
  unfold sAugF at hf
  cases q : gP i rp Γ with
  | none => rw [q] at hf; cases hf
  | some par =>
    rw [q] at hf
    cases par with
    | ob c' fls =>
      replace hf : (if c' = c then (match fls[j]? with
        | some (.sh (.int a)) => (f Γ).bind fun d => match d with
          | .int b => upP i rp (.ob c (fls.set j (.sh (.int (a + b))))) Γ
          | _ => none
        | _ => none) else none) = some r := hf
      split at hf
      · rename_i hc
        subst hc
        split at hf
        · rename_i a0 hfa
          obtain ⟨d, e1, hf⟩ := obind hf
          cases d with
          | int b0 =>
            replace hf : upP i rp (.ob c' (fls.set j (.sh (.int (a0 + b0))))) Γ = some r := hf
            obtain ⟨s, s2, a1, a2, rfl⟩ := upP_some hf
            obtain ⟨s', b1, b2, b3⟩ := gP_some q (by simp [SlP])
            rw [a1] at b1
            cases b1
            refine u2 G0 H0 Z Γ σ G H G H _ s _ R (Ext.refl R.gh) a1 b2 b3 (by simp) fun v0 pk => ?_
            obtain ⟨F0, P0⟩ := pk G H (Ext.refl R.gh)
            obtain ⟨p, C1, dx, vs, v1, F2, rfl, hm, ho, e2, P1⟩ := P0.fld b2 hfa
            rw [ck.hm] at hm
            cases hm
            have hv1 := P1.hd
            cases hv1 with
            | sh rv =>
              rw [rv.intv] at e2
              refine ⟨p, _, dx, _, .int a0, rfl, ho, ck.cl, ck.na x (List.mem_of_getElem? hj), zip_lookup nd hj e2, ?_⟩
              refine t2 G0 H0 Z Γ σ G H _ _ R e1 fun G1 H1 w x1 r1 => ?_
              rw [r1.intv]
              refine ⟨a0, b0, rfl, rfl, ?_⟩
              obtain ⟨F3, P3⟩ := pk G1 H1 x1
              obtain ⟨p', C2, dx2, vs2, ep, hm2, ho2, RR⟩ := P3.setSh x1.gh hj nd (v := .int (a0 + b0)) (.int _) ((List.getElem?_eq_some_iff.mp hfa).1) a2
              cases ep
              rw [ck.hm] at hm2
              cases hm2
              exact ⟨dx2, _, ho2, zip_short, k σ G1 _ RR⟩
          | _ => cases hf
        · cases hf
      · cases hf
    | _ => cases hf

/-! del P[k] -/
def sDelI (i : Nat) (rp : Pth) (f : Ex) : Sm := fun Γ => match gP i rp Γ with
  | some (.ow xs) => (f Γ).bind fun d => match d with
    | .int k => if -(2 ^ 63) ≤ k ∧ k < 2 ^ 63 then (seqIndex? k xs.length).bind fun m => upP i rp (.ow (xs.eraseIdx m)) Γ else none
    | _ => none
  | _ => none
theorem RepL.eraseIdx {K : PySem.W.Frag} {mg : Str → Option Value} {G : Hp} : ∀ (i : Nat) {vs : List V} {ds : List D}, RepL K mg G vs ds → RepL K mg G (vs.eraseIdx i) (ds.eraseIdx i)
  | _, _, _, .nil => .nil
  | 0, _, _, .cons _ r => r
  | i + 1, _, _, .cons h r => .cons h (r.eraseIdx i)
theorem s_delI {tpos : Pos} (hp : PL X o i rp) (he : E X e f) : S X (.Delete [.Subscript o e tpos] pos) (sDelI i rp f) := by
  obtain ⟨t, t1, t2⟩ := he.ex
  obtain ⟨u, u1, u2⟩ := hp.ex
  refine ⟨⟨_, ps_delL u1 t1, fun G0 H0 Z Γ σ G H D r R hf k => ?_⟩⟩
  unfold sDelI at hf
  cases q : gP i rp Γ with
  | none => rw [q] at hf; cases hf
  | some par =>
    rw [q] at hf
    cases par with
    | ow xs =>
      obtain ⟨d, e1, hf⟩ := obind hf
      cases d with
      | int j =>
        replace hf : (if -(2 ^ 63) ≤ j ∧ j < 2 ^ 63 then (seqIndex? j xs.length).bind fun m => upP i rp (.ow (xs.eraseIdx m)) Γ else none) = some r := hf
        split at hf
        · rename_i hj
          obtain ⟨m, e3, hf⟩ := obind hf
          obtain ⟨s, s2, a1, a2, rfl⟩ := upP_some hf
          obtain ⟨s', b1, b2, b3⟩ := gP_some q (by simp [SlP])
          rw [a1] at b1
          cases b1
          refine u2 G0 H0 Z Γ σ G H G H _ s _ R (Ext.refl R.gh) a1 b2 b3 (by simp) fun v pk => ?_
          refine t2 G0 H0 Z Γ σ G H _ _ R e1 fun G1 H1 w x1 r1 => ?_
          obtain ⟨F1, p1⟩ := pk G1 H1 x1
          obtain ⟨l, vs, rfl, d1, d2, d3⟩ := p1.list x1.gh
          rw [r1.intv]
          refine ⟨l, vs, j, m, rfl, rfl, d1, hj.1, hj.2, by rw [d2.length]; exact e3, ?_⟩
          exact k σ G1 _ (d3 _ _ _ (RepL.eraseIdx m d2) a2)
        · cases hf
      | _ => cases hf
    | _ => cases hf

/-! P.insert(k, e), P.extend(e) -/
def sIns (i : Nat) (rp : Pth) (k f : Ex) : Sm := fun Γ => (k Γ).bind fun j => (f Γ).bind fun d => match gP i rp Γ, j with
  | some (.ow xs), .int j => if xs.length < 1000000 ∧ 0 ≤ j ∧ j < 2 ^ 63 then upP i rp (.ow (xs.take j.toNat ++ [d] ++ xs.drop j.toNat)) Γ else none
  | _, _ => none
theorem s_ins {ap : Pos} (hp : PL X o i rp) (hk : E X a k) (he : E X e f) (hst : starEach [a, e] X.env = (false, eval a X.env) :: starEach [e] X.env := by rfl) (hst2 : starEach [e] X.env = (false, eval e X.env) :: starEach [] X.env := by rfl)
    (hpe : ∀ {r : V → List V → Hp → VK → Prop} {to : TE} {ta : TA}, MtR X "list.insert" r → PE X o to → PA X [a, e] ta → PE X (.Call (.Attribute o "insert" ap) [a, e] [] pos) (tBM X.K "list" r to ta) := by intro r to ta hm ho hp; exact pe_bm PySem.F.plainAttrs_list PySem.F.slot_list_insert PySem.F.type_list_insert hm ho hp)
    (hs : swapsWith (.Call (.Attribute o "insert" ap) [a, e] [] pos) none pos'.line X.env = pure false := by rfl) : S X (.Expr (.Call (.Attribute o "insert" ap) [a, e] [] pos) pos') (sIns i rp k f) := by
  obtain ⟨t, h1, h2⟩ := he.ex
  obtain ⟨w, w1, w2⟩ := hk.ex
  obtain ⟨u, u1, u2⟩ := hp.ex
  refine ⟨⟨_, ps_expr (hpe mt_insert u1 (pa_cons w1 (pa_cons h1 pa_nil hst2) hst)) hs, fun G0 H0 Z Γ σ G H D r R hf kk => ?_⟩⟩
  obtain ⟨j, e1, hf⟩ := obind hf
  obtain ⟨d, e2, hf⟩ := obind hf
  cases q : gP i rp Γ with
  | none => rw [q] at hf; cases hf
  | some s1 =>
    rw [q] at hf
    cases s1 with
    | ow xs =>
      cases j with
      | int j =>
        replace hf : (if xs.length < 1000000 ∧ 0 ≤ j ∧ j < 2 ^ 63 then upP i rp (.ow (xs.take j.toNat ++ [d] ++ xs.drop j.toNat)) Γ else none) = some r := hf
        split at hf
        · rename_i hl
          obtain ⟨s, s2, a1, a2, rfl⟩ := upP_some hf
          obtain ⟨s', b1, b2, b3⟩ := gP_some q (by simp [SlP])
          rw [a1] at b1
          cases b1
          refine u2 G0 H0 Z Γ σ G H G H _ s _ R (Ext.refl R.gh) a1 b2 b3 (by simp) fun v pk => ?_
          obtain ⟨F0, p0⟩ := pk G H (Ext.refl R.gh)
          obtain ⟨l0, vs0, rfl, c1, c2, _⟩ := p0.list R.gh
          refine ⟨.inl ⟨rfl, _, SqL.of c1⟩, ?_⟩
          refine w2 G0 H0 Z Γ σ G H _ _ R e1 fun G1 H1 z x1 r1 => ?_
          refine h2 G0 H0 Z Γ σ G1 H1 _ _ (R.ext x1) e2 fun G2 H2 y x2 r2 => ?_
          obtain ⟨F1, p1⟩ := pk G2 H2 (x1.trans x2)
          obtain ⟨l, vs, el, d1, d2, d3⟩ := p1.list x2.gh
          cases el
          rw [r1.intv]
          refine ⟨_, vs, j, y, rfl, rfl, d1, by rw [d2.length]; exact Nat.lt_of_lt_of_le hl.1 line_big, hl.2.1, hl.2.2, ?_⟩
          exact kk σ G2 _ (d3 _ _ _ (((d2.take _).append (.cons r2 .nil)).append (d2.drop _)) a2)
        · cases hf
      | _ => cases hf
    | _ => cases hf
def sExt (i : Nat) (rp : Pth) (f : Ag) : Sm := fun Γ => (f Γ).bind fun ds => match gP i rp Γ with
  | some (.ow xs) => if xs.length + ds.length < 1000000 then upP i rp (.ow (xs ++ ds)) Γ else none
  | _ => none
theorem s_ext {ap : Pos} (hp : PL X o i rp) (he : EL X e fs) (hst : starEach [e] X.env = (false, eval e X.env) :: starEach [] X.env := by rfl)
    (hpe : ∀ {r : V → List V → Hp → VK → Prop} {to te : TE}, MtR X "list.extend" r → PE X o to → PE X e te → PE X (.Call (.Attribute o "extend" ap) [e] [] pos) (tBM X.K "list" r to (tCons te tNil)) := by intro r to te hm ho hp; exact pe_bm PySem.F.plainAttrs_list PySem.F.slot_list_extend PySem.F.type_list_extend hm ho (pa_cons hp pa_nil))
    (hs : swapsWith (.Call (.Attribute o "extend" ap) [e] [] pos) none pos'.line X.env = pure false := by rfl) : S X (.Expr (.Call (.Attribute o "extend" ap) [e] [] pos) pos') (sExt i rp fs) := by
  obtain ⟨t, h1, h2⟩ := he.ex
  obtain ⟨u, u1, u2⟩ := hp.ex
  refine ⟨⟨_, ps_expr (hpe mt_extend u1 h1) hs, fun G0 H0 Z Γ σ G H D r R hf k => ?_⟩⟩
  obtain ⟨ds, e1, hf⟩ := obind hf
  cases q : gP i rp Γ with
  | none => rw [q] at hf; cases hf
  | some s1 =>
    rw [q] at hf
    cases s1 with
    | ow xs =>
      replace hf : (if xs.length + ds.length < 1000000 then upP i rp (.ow (xs ++ ds)) Γ else none) = some r := hf
      split at hf
      · rename_i hl
        obtain ⟨s, s2, a1, a2, rfl⟩ := upP_some hf
        obtain ⟨s', b1, b2, b3⟩ := gP_some q (by simp [SlP])
        rw [a1] at b1
        cases b1
        refine u2 G0 H0 Z Γ σ G H G H _ s _ R (Ext.refl R.gh) a1 b2 b3 (by simp) fun v pk => ?_
        obtain ⟨F0, p0⟩ := pk G H (Ext.refl R.gh)
        obtain ⟨l0, vs0, rfl, c1, c2, _⟩ := p0.list R.gh
        refine ⟨.inl ⟨rfl, _, SqL.of c1⟩, ?_⟩
        refine h2 G0 H0 Z Γ σ G H _ _ R e1 fun G1 H1 q vs x1 hq gq hv rv => ?_
        obtain ⟨F1, p1⟩ := pk G1 H1 x1
        obtain ⟨l, ws, el, d1, d2, d3⟩ := p1.list x1.gh
        cases el
        refine ⟨_, q, ws, vs, rfl, rfl, d1, hv, by rw [d2.length, rv.length]; exact Nat.le_trans (Nat.le_of_lt hl) line_big, ?_⟩
        exact k σ G1 _ (d3 _ _ _ (d2.append rv) a2)
      · cases hf
    | _ => cases hf
end
end DL

namespace DL
open PySem L2
variable [TC : TabCtx]
/-- isinstance(x, C), C a class of the program -/
structure CI (K : PySem.W.Frag) (mg : Str → Option Value) (c : Nat) (C : Addr) : Prop where
  hm : mg (cN c) = some (.ref C)
  cl : Cls K C
  ha : PySem.W.findIn K (.ref C) "__class__" = some (some (.builtin "object.__class__"))
  hn : PySem.W.specialIn K (.builtin "object.__class__") "__get__" = some (some (.builtin "getset_descriptor.__get__"))
  ht : PySem.W.takesIn K (.builtin "object.__class__") = some true
  hr : PySem.W.mroIn K C (.type "object") = some true
def dIsiC (c : Nat) : D → Option D
  | .obj c' _ => if c' = c then some (.bl true) else none
  | _ => none
section
variable {X : Cx} {a : Expr} {f : Ex} {pos : Pos}
theorem e_isiC {c : Nat} {C : Addr} {x : Str} {p p2 : Pos} (ci : CI X.K X.mg c C) (hg : Gl X x) (hm : X.mg x = none) (hv : bootBuiltins x = some (.builtin "isinstance")) (ha : B X a f)
    (hgy : Gl X (cN c) := by rfl) (hn : x ≠ "__name__" := by decide) (hdb : (x == ("__debug__" : Str)) = false := by decide) (hdby : (cN c == ("__debug__" : Str)) = false := by decide)
    (he : starEach [a, .Name (cN c) p2] X.env = (false, eval a X.env) :: starEach [.Name (cN c) p2] X.env := by rfl) (hpl : (backTo pos (starEach [.Name (cN c) p2] X.env)).any (·.1) = false := by rfl) (he2 : starEach [.Name (cN c) p2] X.env = (false, eval (.Name (cN c) p2) X.env) :: starEach [] X.env := by rfl) :
    E X (.Call (.Name x p) [a, .Name (cN c) p2] [] pos) (gU (dIsiC c) f) := by
  obtain ⟨t, h1, h2⟩ := ha.ex
  refine ⟨⟨_, pe_callB call_isi hg hm hv (pa_cons h1 (pa_cons (pe_glob (v := .ref C) hgy ci.hm rfl hdby) pa_nil he2) he) hn hdb he hpl, fun G0 H0 Z Γ σ G H Q d R hf k => ?_⟩⟩
  obtain ⟨y, e1, hv'⟩ := obind hf
  clear hf
  refine h2 G0 H0 Z Γ σ G H _ y R e1 fun G1 H1 v x1 r1 => ?_
  cases y with
  | obj c' ds =>
    replace hv' : (if c' = c then some (D.bl true) else none) = some d := hv'
    split at hv'
    · rename_i cz
      subst cz
      cases hv'
      obtain ⟨q, C', dx, vs, rfl, hm', hp, _⟩ := r1.objAt x1.gh
      rw [ci.hm] at hm'
      cases hm'
      refine ⟨_, _, .ref C, .ref C, true, rfl, .own C, .base (.ins hp ci.cl ci.ha ci.hn ci.ht ci.hr), ?_, k G1 H1 _ x1 (.bl true)⟩
      unfold PySem.W.kitOne
      rw [if_pos (beq_self_eq_true _)]
    · cases hv'
  | _ => cases hv'
end
end DL

namespace DL
open PySem L2
variable [TC : TabCtx]

/-! ### objects that are made of things that are only looked at -/
open Classical in
noncomputable abbrev maskH (Fp : Addr → Prop) (H : Hp) : Hp := fun a => if Fp a then none else H a
def spMK (K : PySem.W.Frag) (mg : Str → Option Value) (ms : List Bool) (F : Sl → List D → Option (D × Sl)) : Sp := fun vs H Q _ =>
  ∃ v0 args G s ds d s' Fp, vs = v0 :: args ∧ Same G H ∧ TC.ti.t G H ∧ Hd K mg G H v0 Fp s ∧ (∀ a, Fp a → G a = none ∧ H a ≠ none ∧ ¬ TC.ti.tz a) ∧ RepM K mg G (maskH Fp H) ms args ds ∧ F s ds = some (d, s') ∧
    ∀ G' H' v Fp', Same G G' → Same G' H' → TC.ti.t G' H' → (∀ a, ¬ Fp a → H a ≠ none → H' a ≠ none) → (∀ a, G' a ≠ none → G a ≠ none ∨ H a = none ∨ Fp a) → (∀ a o, ¬ Fp a → H a = some o → NT o → H' a = some o) → Rep K mg G' v d → Hd K mg G' H' v0 Fp' s' → (∀ a, Fp' a → G' a = none ∧ H' a ≠ none ∧ (Fp a ∨ H a = none)) → Q v H'
def runMK (ms : List Bool) (n : Nat) (B : Sm) : Sl → List D → Option (D × Sl) := fun s ds => (B (s :: slM ms ds ++ List.replicate (n - (ms.length + 1)) .no)).bind fun r => match r with
  | .rm d s' => if isOwn s' then some (d, s') else none
  | .nx Γ => (Γ[0]?).bind fun s' => if isOwn s' then some (.non, s') else none
  | _ => none
section
variable {P : Program} {w : World} {K : PySem.W.Frag} {mg : Str → Option Value} {base : Heap}
theorem startMK_rel {G H : Hp} {N : List Str} {v0 : V} {vs : List V} {s : Sl} {ds : List D} {ms : List Bool} {Fp : Addr → Prop} (gh : Same G H) (tb : TC.ti.t G H) (hd : Hd K mg G H v0 Fp s) (fr : ∀ a, Fp a → G a = none ∧ H a ≠ none ∧ ¬ TC.ti.tz a) (r : RepM K mg G (maskH Fp H) ms vs ds) :
    Rel K mg G (maskH Fp H) ⟨TC.ti.tz, some v0, TC.ti⟩ (s :: slM ms ds ++ List.replicate (N.length - (ms.length + 1)) .no) (L2.start N (v0 :: vs)) G H := by
  obtain ⟨hv, hdl⟩ := r.len
  have hl := slM_len hdl
  unfold L2.start
  refine ⟨by simp [hl, hv], gh, fun a o q _ => ?_, Same.refl _, fun a h => .inl h, fun a z => (TC.ti.live tb a z).1, fun v s' e1 _ _ => by cases e1; simp, tb, fun _ h => h, rfl, fun a h => by
    by_cases x : Fp a
    · simp [maskH, x] at h
    · simpa [maskH, x] using h, fun i a => i = 0 ∧ Fp a, fun i a z => ⟨(fr a z.2).1, by simp [maskH, z.2], (fr a z.2).2.1, (fr a z.2).2.2⟩, fun i j a z1 z2 => z1.1.trans z2.1.symm, fun i s' h => ?_⟩
  · unfold maskH at q
    split at q
    · cases q
    · exact q
  · cases i with
    | zero =>
      simp at h
      subst h
      exact .inr (.inl ⟨v0, by simp, hd.wide fun a x => ⟨rfl, x⟩⟩)
    | succ i =>
      have e : N.length - (ms.length + 1) = (N.length - 1) - ms.length := by omega
      rw [List.cons_append, List.getElem?_cons_succ, e] at h
      by_cases hi : i < ms.length
      · rw [List.getElem?_append_left (by omega)] at h
        obtain ⟨v, d, e1, e2⟩ := r.get i h
        have st : ((v0 :: vs).map some ++ List.replicate (N.length - (v0 :: vs).length) none)[i + 1]? = some (some v) := by
          rw [List.map_cons, List.cons_append, List.getElem?_cons_succ, List.getElem?_append_left (by simp; omega), List.getElem?_map, e1]
          rfl
        rcases e2 with ⟨rfl, e2⟩ | ⟨rfl, e2⟩
        · exact .inr (.inl ⟨v, st, .sh e2⟩)
        · exact .inr (.inr ⟨v, d, rfl, st, e2⟩)
      · rw [List.getElem?_append_right (by omega), List.getElem?_replicate] at h
        split at h
        · cases h; exact .inl rfl
        · cases h
open Classical in
theorem def_okMK {x qual : Str} {st : Stmt} {f : Addr} {fd : FuncData} {N ps : List Str} {k : Nat} {B : Sm} {ms : List Bool} (F : Fun K x qual st f fd) (S : FnScope N ps (defScope st)) (hps : ps.length = ms.length + 1)
    (hbody : ∀ (cdv : Value) (A : Around) (outer : List PySem.Env) (s : Shared) (H : Hp) (E : XK), Room k (A.deeper (PyProof.Rows.envOfC qual (defScope st) s.heap.objs.size f cdv)) →
      Ss (cxOf CX0 P w K mg base N qual (defScope st) f cdv A outer s H E).nox (defBody st) B) : FnOk P w K mg base CX0 (k + 1) f fd ps (spMK K mg ms (runMK ms N.length B)) := by
  refine F.ok S (fun vs H Q E h => ?_) (fun cdv A outer s H vs Q E hr h => ?_)
  · obtain ⟨v0, args, G, s, ds, d, s', Fp, rfl, _, _, _, _, r, _⟩ := h
    simp [r.len.1, hps]
  · obtain ⟨v0, args, G, sl, ds, d, s', Fp, rfl, gh, tb, hd, fr, r, hf, kk⟩ := h
    obtain ⟨t, h1, h2⟩ := (hbody cdv A outer s H E hr).ex
    refine ⟨t, h1, ?_⟩
    obtain ⟨r1, e1, hf⟩ := obind hf
    have R := startMK_rel (N := N) gh tb hd fr r
    have fin : ∀ (Γ : DEnv) (σ : L2.St) (G' H' : Hp) (v : V), Rel K mg G (maskH Fp H) ⟨TC.ti.tz, some v0, TC.ti⟩ Γ σ G' H' → Γ[0]? = some s' → isOwn s' = true → Rep K mg G' v d → Q v H' := fun Γ σ G' H' v R' e0 ns rv => by
      have es := R'.an v0 s' rfl e0 ns
      obtain ⟨own, o1, o2, o3⟩ := R'.own
      rcases o3 0 s' e0 with z | ⟨v', z1, z2⟩ | ⟨_, _, z, _⟩
      · rw [z] at ns; cases ns
      rotate_left
      · rw [z] at ns; cases ns
      · rw [es] at z1
        cases z1
        refine kk G' H' v (own 0) R'.gg R'.gh R'.tbc (fun a nf h => R'.hn a (by simpa [nf] using h)) (fun a q => ?_) (fun a o nf q n => R'.hh a o (by simp [nf, q]) n) rv z2 fun a y => ?_
        · rcases R'.new a q with z | z
          · exact .inl z
          · by_cases fa : Fp a
            · exact .inr (.inr fa)
            · simp [fa] at z
              exact .inr (.inl z)
        · obtain ⟨w1, w2, w3, w4⟩ := o1 0 a y
          refine ⟨w1, w3, ?_⟩
          by_cases fa : Fp a
          · exact .inl fa
          · simp [fa] at w2
            exact .inr w2
    refine h2 G _ _ _ _ G H _ r1 R e1 ?_
    cases r1 with
    | rm d' s2 =>
      replace hf : (if isOwn s2 then some (d', s2) else none) = some (d, s') := hf
      split at hf
      · rename_i ns
        cases hf
        exact fun Γ σ G' H' v R' e0 rv => fin Γ σ G' H' v R' e0 ns rv
      · cases hf
    | nx Γ =>
      obtain ⟨s2, e2, hf⟩ := obind hf
      split at hf
      · rename_i ns
        cases hf
        exact fun σ' G' H' R' => fin Γ σ' G' H' _ R' e2 ns .non
      · cases hf
    | rt d => cases hf
    | ro s => cases hf
    | bk Γ => cases hf
    | ct Γ => cases hf
end
structure MakK (P : Program) (w : World) (K : PySem.W.Frag) (mg : Str → Option Value) (base : Heap) (c L : Nat) (ps : List Str) (ms : List Bool) (S : Sl → List D → Option (D × Sl)) : Prop where
  ex : ∃ C f fd p0 ps', ps = p0 :: ps' ∧ mg (cN c) = some (.ref C) ∧ Mk K C f ∧ FnOk P w K mg base CX0 L f fd ps (spMK K mg ms S) ∧ Binds K fd ps []
section
variable {X : Cx} {a : Expr} {es : List Expr} {fs : Ag} {pos p : Pos}
theorem make_okK {c : Nat} {C : Addr} {ms : List Bool} {S : Sl → List D → Option (D × Sl)} {t : TA} (hm : X.mg (cN c) = some (.ref C))
    (h2 : ∀ (G0 H0 : Hp) (Z : Zs) (Γ : DEnv) (σ : L2.St) (G H : Hp) (Q : List V → Hp → Prop) (ds : List D), Rel X.K X.mg G0 H0 Z Γ σ G H → fs Γ = some ds → (∀ G' H' vs, Ext G H G' H' → RepM X.K X.mg G' H' ms vs ds → Q vs H') → t σ H Q) :
    ∀ (G0 H0 : Hp) (Z : Zs) (Γ : DEnv) (σ : L2.St) (G H : Hp) (Q : VK) (s : Sl), Rel X.K X.mg G0 H0 Z Γ σ G H → gMk c S fs Γ = some s → (∀ G' H' v F, Ext G H G' H' → Hd X.K X.mg G' H' v F s → (∀ a, F a → G' a = none ∧ H a = none ∧ H' a ≠ none) → Q v H') → tMake C (spMK X.K X.mg ms S) [] E0 t σ H Q := by
  intro G0 H0 Z Γ σ G H Q s R hf k
  obtain ⟨ds, e1, hf⟩ := obind hf
  obtain ⟨⟨d, s'⟩, e2, hf⟩ := obind hf
  have hd : d = .non ∧ s' = s := by
    cases d with
    | non => cases hf; exact ⟨rfl, rfl⟩
    | _ => cases hf
  obtain ⟨rfl, rfl⟩ := hd
  refine h2 G0 H0 Z Γ σ G H _ ds R e1 fun G1 H1 vs x1 r1 => ?_
  intro x dx nx ndx ne
  have gx : G1 x = none := x1.gh.free nx
  have Hx : H x = none := x1.hf nx
  have T1 := (R.ext x1).tbc
  have keep : ∀ b o, H1 b = some o → upd (upd H1 dx (.own x)) x (.ins C dx []) b = some o := fun b o q => by
    rw [upd_ne (ne_of_none q nx), upd_ne (ne_of_none q ndx)]; exact q
  refine ⟨.ref x, vs, G1, .ob c [], ds, .non, s', fun b => b = x, by rw [List.append_nil], fun b o q => keep b o (x1.gh _ _ q), TC.ti.keep T1 (Same.refl _) (fun a h => same_at (fun b o q => keep b o q) (TC.ti.live T1 a h).1) (fun _ _ g => g), ?_, fun b e => by subst e; exact ⟨gx, by rw [upd_same]; simp, fun z => (TC.ti.live T1 _ z).1 nx⟩, r1.ext (Ext.same (Same.refl _) (fun b o q => ?_) (fun b o q => ?_) fun b q => .inl q), e2, ?_⟩
  · exact .ob (F' := fun _ => False) (dx := dx) (vs := []) rfl hm (by rw [upd_same, List.zip_nil_right]) (fun z => z) (fun _ z => z.elim) .nil
  · unfold maskH
    rw [if_neg (fun e => by subst e; rw [nx] at q; cases q)]
    exact keep b o q
  · unfold maskH
    rw [if_neg (fun e => by subst e; rw [gx] at q; cases q)]
    exact keep b o (x1.gh _ _ q)
  · intro G' H' v Fp' gg gh tb' hn' nw kp rv hv fr
    cases rv
    have keep' : ∀ b o, H b = some o → NT o → upd (upd H1 dx (.own x)) x (.ins C dx []) b = some o := fun b o q n => keep b o (x1.hh b o q n)
    have kn : ∀ b, H1 b ≠ none → upd (upd H1 dx (.own x)) x (.ins C dx []) b ≠ none := fun b h => nn (fun b o q => keep b o q) h
    refine ⟨rfl, k G' H' (.ref x) Fp' ⟨x1.gg.trans gg, fun b o q n => ?_, gh, fun b q => ?_, fun b h => hn' b (fun e => by subst e; exact h Hx) (kn b (x1.hn b h)), fun _ => tb'⟩ hv fun b y => ?_⟩
    · exact kp b o (fun e => by subst e; rw [Hx] at q; cases q) (keep' b o q n) n
    · rcases nw b q with z | z | z
      · exact x1.new b z
      · refine .inr ?_
        cases e : H b with
        | none => rfl
        | some o => exact absurd z (kn b (x1.hn b (by rw [e]; simp)))
      · subst z; exact .inr Hx
    · obtain ⟨w1, w2, w3⟩ := fr b y
      refine ⟨w1, ?_, w2⟩
      rcases w3 with z | z
      · subst z; exact Hx
      · cases e : H b with
        | none => rfl
        | some o => exact absurd z (kn b (x1.hn b (by rw [e]; simp)))
theorem e_mkCK {c k L : Nat} {ps : List Str} {ms : List Bool} {S : Sl → List D → Option (D × Sl)} (m : MakK X.prog X.w X.K X.mg X.base c L ps ms S) (hr : Room k X.A) (hk : L + 1 ≤ k)
    (ha : AM X (a :: es) ms fs) (hg : Gl X (cN c) := by rfl) (hdb : (cN c == ("__debug__" : Str)) = false := by decide) (he : starEach (a :: es) X.env = (false, eval a X.env) :: starEach es X.env := by rfl) (hpl : (backTo pos (starEach es X.env)).any (·.1) = false := by rfl) :
    EN X (.Call (.Name (cN c) p) (a :: es) [] pos) (gMk c S fs) := by
  obtain ⟨C, f, fd, q0, ps', rfl, h1, h2, h3, h4⟩ := m.ex
  obtain ⟨t, t1, t2⟩ := ha.ex
  exact ⟨⟨_, pe_make h2 h3 (hr.mono hk) hg h1 h4 .nil pass0 t1 hdb he hpl, make_okK h1 t2⟩⟩
end
end DL

namespace DL
open PySem PySem.Spec PyProof.Rows L2
variable [TC : TabCtx]

/-! ### list(enumerate(xs)) -/
def EnumAt (h : Heap) (e it : Addr) (i : Nat) : Prop := (∃ old, IsEnum h e it ((i : Nat) : Int) old) ∨ ∃ old T f oT, IsEnumHeld h e it ((i : Nat) : Int) old T f ∧ h.get? T = some oT ∧ T ≠ e ∧ T ≠ it
/-- the pairs that are made so far, in the list at q -/
structure Built (K : PySem.W.Frag) (H0 : Hp) (a q : Addr) (xs : List V) (i : Nat) (Ts : List Addr) (H : Hp) : Prop where
  len : Ts.length = i
  lst : H q = some (.lst (Ts.map V.ref))
  keep : ∀ b o, H0 b = some o → H b = some o
  new : ∀ b, H b ≠ none → H0 b ≠ none ∨ b = q ∨ b ∈ Ts
  tup : ∀ j T, Ts[j]? = some T → H0 T = none ∧ T ≠ q ∧ ∃ x, xs[j]? = some x ∧ H T = some (.tup [.int (j : Nat), x])
  q0 : H0 q = none
  src : SqL K H0 a xs
section
variable {X : Cx} {pins : List (Addr × Obj)} {σ : L2.St} {A1 : Around} {H0 : Hp} {a q e it : Addr} {xs : List V} {Rs : Result → Shared → Prop}
theorem enum_loop (hh : A1.in1.handled = none) (hne : e ≠ it) (hdone : ∀ Ts H s, Inv X pins σ H s → Built X.K H0 a q xs xs.length Ts H → Rs (.ok (.ret .none)) s) :
    ∀ (m i : Nat) (Ts : List Addr) (H : Hp) (s : Shared), i + m = xs.length → Inv X pins σ H s → Built X.K H0 a q xs i Ts H → EnumAt s.heap e it i → s.heap.IsListIter it a i → (∀ b ∈ [e, it], FpOk X pins H b) →
      codeAny (model X.prog X.w) A1 (.builtin "list.extend.loop" ⟨[.ref q, .ref e, .none], []⟩) Rs s := by
  intro m
  induction m with
  | zero =>
    intro i Ts H s hi I B st hit hf
    obtain ⟨its, rv, pl, hz⟩ := I.list ((show Same H0 H from B.keep).seq B.src)
    have hl := rv.length
    have hx : its.toArray[i]? = none := by rw [Array.getElem?_eq_none (by simp; omega)]
    obtain ⟨f0, f1, f2, f3, f4, f5⟩ := hf it (by simp)
    refine codeAny_builtin PySem.F.entry_extend_loop ?_
    rw [Around.under_plainId PySem.F.plain_extend_loop _]
    show wpAny _ A1.in1 (pyNext (.ref e) >>= _) _ _ s
    have fin : ∀ h' : Heap, Heap.ExtBut it s.heap h' → Rs (.ok (.ret .none)) { s with heap := h' } := fun h' eb => by
      have I1 := I.turned (t' := s.toks) (fun b o hb k => eb b o hb k) f0 f1 f3 f4 f5
      have e2 : i = xs.length := by omega
      rw [e2] at B
      exact hdone Ts H _ I1 B
    rcases st with ⟨old, he⟩ | ⟨old, T, f, oT, he, hT, r1, r2⟩
    · exact wpAny_bind (wpAny_pyNext_enum_end hh he hit pl.isList hx fun h' eb => wpAny_pure (fin h' eb))
    · exact wpAny_bind (wpAny_pyNext_enum_end_held hh he hit pl.isList hx fun h' eb => wpAny_pure (fin h' eb))
  | succ m ih =>
    intro i Ts H s hi I B st hit hf
    obtain ⟨its, rv, pl, hz⟩ := I.list ((show Same H0 H from B.keep).seq B.src)
    have hl := rv.length
    obtain ⟨x, hx⟩ : ∃ x, xs[i]? = some x := ⟨_, List.getElem?_eq_getElem (by omega)⟩
    obtain ⟨u, hu, ru⟩ := rv.get hx
    have hil : it < s.heap.objs.size := by obtain ⟨_, k, _⟩ := hit; exact Heap.lt_size k
    refine codeAny_builtin PySem.F.entry_extend_loop ?_
    rw [Around.under_plainId PySem.F.plain_extend_loop _]
    show wpAny _ A1.in1 (pyNext (.ref e) >>= _) _ _ s
    have go : ∀ h' : Heap, EnumAt h' e it (i + 1) → h'.IsListIter it a (i + 1) → h'.get? s.heap.objs.size = some { cls := .type "tuple", data := .seq #[.int i s.toks, u] } → e < s.heap.objs.size →
        (∀ b o, b ≠ e → b ≠ it → s.heap.get? b = some o → h'.get? b = some o) →
        wpAny (model X.prog X.w) A1.in1 (updateSeq q (·.push (.ref s.heap.objs.size)) >>= fun _ => again (.builtin "list.extend.loop" ⟨[.ref q, .ref e, .none], []⟩)) (fun fin s' => match fin with | .done f => Rs (.ok f) s' | .again c' => c'.quiet = true ∧ codeAny (model X.prog X.w) A1 c' Rs s') (fun e s' => Rs (.error e) s') { s with heap := h', toks := s.toks + 1 } := fun h' st' hit' hT hel hk => by
      have fr : H s.heap.objs.size = none := I.hok.fresh (Nat.le_refl _)
      have new : ObjOk X.prog X.w (upd H s.heap.objs.size (.tup [.int (i : Nat), x])) h' s.heap.objs.size (.tup [.int (i : Nat), x]) :=
        ⟨by show 2 ≤ sizeLine; decide, [.int i s.toks, u], .cons ⟨_, rfl⟩ (.cons ru .nil), ⟨_, hT, rfl, _, rfl⟩⟩
      have I1 : Inv X pins σ (upd H s.heap.objs.size (.tup [.int (i : Nat), x])) { s with heap := h', toks := s.toks + 1 } :=
        I.turnedNew (ch := [e, it]) (fun b ob hb k => hk b ob (fun z => hb (by simp [z])) (fun z => hb (by simp [z])) k) hf (Nat.le_refl _) new
      have qne : q ≠ s.heap.objs.size := ne_of_none B.lst fr
      have hq1 : upd H s.heap.objs.size (.tup [.int (i : Nat), x]) q = some (.lst (Ts.map V.ref)) := by rw [upd_ne qne]; exact B.lst
      obtain ⟨z, its2, k2, r2, hl2, e2⟩ := I1.lstM hq1
      have l2 : its2.length = i := by rw [← hl2, List.length_map, B.len]
      refine wpAny_bind (wpAny_updateSeq e2 rfl (wpAny_pure ⟨plainId_quiet PySem.F.plain_extend_loop _, ?_⟩) (by show (its2.toArray).size ≤ sizeLine; rw [List.size_toArray]; omega) (by show (its2.toArray.push _).size ≤ sizeLine + 1; rw [Array.size_push, List.size_toArray]; omega))
      have I2 := I1.lset (f := (·.push (Value.ref s.heap.objs.size))) (its' := its2 ++ [.ref s.heap.objs.size]) (ys := Ts.map V.ref ++ [V.ref s.heap.objs.size]) (t' := s.toks + 1) hq1 e2 (by simp) (r2.append (.cons (show L2.RelV (V.ref s.heap.objs.size) (Value.ref s.heap.objs.size) from rfl) .nil)) (by rw [List.length_append, List.length_singleton, List.length_map, B.len]; omega)
      refine ih (i + 1) (Ts ++ [s.heap.objs.size]) _ _ (by omega) I2 ?_ ?_ ?_ ?_
      · refine ⟨by simp [B.len], by rw [upd_same, List.map_append]; rfl, fun b o k => ?_, fun b k => ?_, fun j T k => ?_, B.q0, B.src⟩
        · rw [upd_ne (ne_of_none k B.q0), upd_ne (ne_of_none (B.keep b o k) fr)]
          exact B.keep b o k
        · by_cases c1 : b = q
          · exact .inr (.inl c1)
          · rw [upd_ne c1] at k
            by_cases c2 : b = s.heap.objs.size
            · exact .inr (.inr (by simp [c2]))
            · rw [upd_ne c2] at k
              rcases B.new b k with z | z | z
              · exact .inl z
              · exact .inr (.inl z)
              · exact .inr (.inr (by simp [z]))
        · by_cases c : j < Ts.length
          · rw [List.getElem?_append_left c] at k
            obtain ⟨t1, t2, y, t3, t4⟩ := B.tup j T k
            refine ⟨t1, t2, y, t3, ?_⟩
            rw [upd_ne t2, upd_ne (ne_of_none t4 fr)]
            exact t4
          · rw [List.getElem?_append_right (by omega)] at k
            have e3 : j - Ts.length = 0 := by
              have := (List.getElem?_eq_some_iff.mp k).1
              simp at this
              omega
            rw [e3] at k
            have e4 : T = s.heap.objs.size := by simpa using k.symm
            have e5 : j = i := by rw [← B.len]; omega
            subst e4
            subst e5
            refine ⟨?_, Ne.symm qne, x, hx, by rw [upd_ne (Ne.symm qne), upd_same]⟩
            cases w : H0 s.heap.objs.size with
            | none => rfl
            | some o => rw [B.keep _ _ w] at fr; cases fr
      · have keepq : ∀ b o, b ≠ q → h'.get? b = some o → (h'.update q (Obj.mapSeq (·.push (Value.ref s.heap.objs.size)))).get? b = some o := fun b o hb k => (Heap.get?_update_other h' _ (Ne.symm hb)).trans k
        have eq : e ≠ q := fun z => by have := (hf e (by simp)).1; rw [z, B.lst] at this; cases this
        rcases st' with ⟨old, he⟩ | ⟨old, T, f, oT, he, hTT, r1, r2⟩
        · exact .inl ⟨old, keepq _ _ eq he⟩
        · by_cases c : T = q
          · exact .inr ⟨old, T, f, _, keepq _ _ eq he, by rw [c]; exact PySem.IsL.update e2 _, r1, r2⟩
          · exact .inr ⟨old, T, f, oT, keepq _ _ eq he, keepq _ _ c hTT, r1, r2⟩
      · have iq : it ≠ q := fun z => by have := (hf it (by simp)).1; rw [z, B.lst] at this; cases this
        exact hit'.at fun o k => (Heap.get?_update_other h' _ (Ne.symm iq)).trans k
      · intro b hb
        obtain ⟨f0, f1, f2, f3, f4, f5⟩ := hf b hb
        have hbl : b < s.heap.objs.size := by
          have e' : b = e ∨ b = it := by simpa using hb
          rcases e' with z | z
          · rw [z]; exact hel
          · rw [z]; exact hil
        refine ⟨?_, f1, f2, f3, f4, f5⟩
        rw [upd_ne (fun z => by rw [z, B.lst] at f0; cases f0), upd_ne (Nat.ne_of_lt hbl)]
        exact f0
    have nit : s.heap.objs.size ≠ it := Nat.ne_of_gt hil
    have ec : ((i + 1 : Nat) : Int) = (i : Int) + 1 := by omega
    have hu' : its.toArray[i]? = some u := by simpa using hu
    rcases st with ⟨old, he⟩ | ⟨old, T, f, oT, he, hT, r1, r2⟩
    · have hel := Heap.lt_size he
      exact wpAny_bind (wpAny_pyNext_enum_item he hit pl.isList hu' hne fun h' ho hit' hT hsz hk => go h' (.inr ⟨_, s.heap.objs.size, false, _, by rw [ec]; exact ho, hT, Nat.ne_of_gt hel, nit⟩) hit' hT hel hk)
    · have hel := Heap.lt_size he
      exact wpAny_bind (wpAny_pyNext_enum_item_held he hT r1 r2 hit pl.isList hu' hne fun h' ho hit' hT' hsz hk => go h' (.inr ⟨old, T, true, oT, by rw [ec]; exact ho, hk _ _ r1 r2 hT, r1, r2⟩) hit' hT' hel hk)
theorem hint_enum {prog : Program} {w : World} {A : Around} {E : Value → Shared → Prop} {s : Shared} {r : Addr} {Q : Bool → Shared → Prop} (hT : s.TypeIs (.ref r) "enumerate") (h : Q true s) :
    wpAny (model prog w) A (Builtin.List.listLengthHint (.ref r)) Q E s := by
  have hl : typeLookup (.type "enumerate") "__len__" = pure none := by rw [typeLookup_type, builtinLookup_eq_fast]; kernel_rfl
  have hn0 : typeLookup (.type "enumerate") "__length_hint__" = pure none := by rw [typeLookup_type, builtinLookup_eq_fast]; kernel_rfl
  unfold Builtin.List.listLengthHint
  refine wpAny_bind (wpAny_specialOf hT hl ?_)
  show wpAny _ A (specialOf (Value.ref r) (Str.ofString "__length_hint__") >>= _) _ _ _
  refine wpAny_bind (wpAny_specialOf hT hn0 ?_)
  exact wpAny_pure h
/-- what list(enumerate(xs)) gives -/
def tLE (ta : TA) (K : PySem.W.Frag) : TE := fun σ H Q => ta σ H fun vs H1 => ∃ a xs, vs = [.ref a] ∧ SqL K H1 a xs ∧ ∀ q Ts H', Built K H1 a q xs xs.length Ts H' → Q (.ref q) H'
theorem pe_listEnum {o : Expr} {ta : TA} {p p2 pos pos2 : Pos} (hcm : X.calm = true) (hg : Gl X "list") (hm : X.mg "list" = none) (hge : Gl X "enumerate") (hme : X.mg "enumerate" = none) (ha : PA X [o] ta)
    (hs : starEach [o] X.env = [(false, eval o X.env)] := by rfl) (na : starEach [.Call (.Name "enumerate" p2) [o] [] pos2] X.env = (false, eval (.Call (.Name "enumerate" p2) [o] [] pos2) X.env) :: starEach [] X.env := by rfl) :
    PE X (.Call (.Name "list" p) [.Call (.Name "enumerate" p2) [o] [] pos2] [] pos) (tLE ta X.K) := by
  refine ⟨fun pins s σ H Q I h => ?_⟩
  refine Call_ (ld_blt I hg hm boot_list (PyProof.Rows.callWith_type1 (args_cons (Call_ (ld_blt I hge hme boot_enumerate (PyProof.Rows.callWith_type1 (thn (ha.run pos2 pins s σ H _ I h) fun us s1 ⟨vs, H1, I1, r1, q1⟩ => ?_) hs rfl))) na) na))
  obtain ⟨a, xs, ex, hq, q⟩ := q1
  subst ex
  cases r1 with
  | cons r rr =>
    cases rr
    cases r
    obtain ⟨its, rv, p', hz⟩ := I1.list hq
    refine call_enumerate_list p'.isList fun h' he hit hsz hk => args_nil ?_
    have I2 : Inv X pins σ H1 { s1 with heap := h' } := I1.kept (t' := s1.toks) hk
    have hfp : ∀ b ∈ [s1.heap.objs.size + 1, s1.heap.objs.size], FpOk X pins H1 b := fun b hb => by
      have e' : b = s1.heap.objs.size + 1 ∨ b = s1.heap.objs.size := by simpa using hb
      have hle : s1.heap.objs.size ≤ b := by
        rcases e' with z | z
        · rw [z]; exact Nat.le_add_right _ _
        · rw [z]; exact Nat.le_refl _
      exact I1.fpOk hle (I1.hok.fresh hle)
    -- list(..)
    refine callType_codes (Q₁ := fun obj s₁ => obj = .ref h'.objs.size ∧ s₁ = { s1 with heap := h'.push { cls := .type "list", data := .seq #[] } }) PySem.F.called_list (PySem.F.typeCall_list_1 _) PySem.F.entry_list_init
      (code_list_new _ ⟨rfl, rfl⟩) fun obj s₁ h₁ => ?_
    obtain ⟨rfl, rfl⟩ := h₁
    have hS : (h'.push { cls := .type "list", data := .seq #[] }).get? h'.objs.size = some { cls := .type "list", data := .seq #[] } := Heap.get?_push_size _ rfl
    refine ⟨⟨_, hS, rfl⟩, PySem.F.args_list_init_2 _ _, ?_⟩
    have fr : H1 h'.objs.size = none := I2.hok.fresh (Nat.le_refl _)
    have J1 : Inv X pins σ (upd H1 h'.objs.size (.lst [])) { s1 with heap := h'.push { cls := .type "list", data := .seq #[] } } := I2.lnew (its := []) (t' := s1.toks) .nil (Nat.zero_le _)
    show wpAny _ _ (do let old ← Builtin.List.listItems (.ref h'.objs.size); Builtin.List.listUpdate (.ref h'.objs.size) (fun _ => #[]); letGo old.toList.reverse; Builtin.List.listExtendWith (.ref h'.objs.size) (.ref (s1.heap.objs.size + 1)) .none) _ _ _
    refine wpAny_bind ?_
    unfold Builtin.List.listItems
    refine wpAny_bind (wpAny_seqItems hS rfl (wpAny_pure ?_))
    show wpAny _ _ (updateSeq h'.objs.size (fun _ => #[]) >>= fun _ => letGo (#[] : Array Value).toList.reverse >>= fun _ => Builtin.List.listExtendWith (.ref h'.objs.size) (.ref (s1.heap.objs.size + 1)) .none) _ _ _
    refine wpAny_bind (wpAny_updateSeq hS rfl ?_)
    have J2 := J1.lset (f := fun _ => #[]) (its := []) (its' := []) (ys := []) (t' := s1.toks) upd_same hS rfl .nil (Nat.zero_le _)
    rw [upd_upd] at J2
    refine wpAny_bind (wpAny_letGo ?_)
    have qe : h'.objs.size ≠ s1.heap.objs.size + 1 := by rw [hsz]; omega
    have qi : h'.objs.size ≠ s1.heap.objs.size := by rw [hsz]; omega
    have stay : ∀ b o, h'.get? b = some o → ((h'.push { cls := .type "list", data := .seq #[] }).update h'.objs.size (Obj.mapSeq fun _ => #[])).get? b = some o := fun b o k =>
      (Heap.get?_update_other _ _ (Nat.ne_of_gt (Heap.lt_size k))).trans (Heap.get?_push_of_some _ k)
    have he2 := stay _ _ he
    unfold Builtin.List.listExtendWith
    refine wpAny_bind (wpAny_typeOf (T := "enumerate") ⟨_, he2, rfl⟩ ?_)
    have h1 : Builtin.List.listSameRef (.ref h'.objs.size) (.ref (s1.heap.objs.size + 1)) = false := by simp [Builtin.List.listSameRef, qe]
    have h2 : (Value.type "enumerate" == Value.type "list") = false := by decide
    have h3 : (Value.type "enumerate" == Value.type "tuple") = false := by decide
    simp only [h1, h2, h3, Bool.or_false, Bool.false_eq_true, if_false]
    refine wpAny_bind (wpAny_pyIter_enum he2 ?_)
    refine wpAny_bind (wpAny_holding (hint_enum ⟨_, he2, rfl⟩ ?_))
    have B0 : Built X.K H1 a h'.objs.size xs 0 [] (upd H1 h'.objs.size (.lst [])) := ⟨rfl, upd_same, fun b o k => by rw [upd_ne (ne_of_none k fr)]; exact k, fun b k => by
      by_cases c : b = h'.objs.size
      · exact .inr (.inl c)
      · rw [upd_ne c] at k; exact .inl k, fun j T k => by simp at k, fr, hq⟩
    have fin := fun (Rs : Result → Shared → Prop) (J : Inv X pins σ (upd H1 h'.objs.size (.lst [])) { s1 with heap := ((h'.push { cls := .type "list", data := .seq #[] }).update h'.objs.size (Obj.mapSeq fun _ => #[])) }) (hd : ∀ Ts H s, Inv X pins σ H s → Built X.K H1 a h'.objs.size xs xs.length Ts H → Rs (.ok (.ret .none)) s) =>
      enum_loop (A1 := X.A.in1) (Rs := Rs) (I1.ok.hd hcm) (show s1.heap.objs.size + 1 ≠ s1.heap.objs.size by omega) hd xs.length 0 [] _ _ (by omega) J B0 (.inl ⟨_, he2⟩) (hit.at fun o k => stay _ o k) (fun b hb => by
        obtain ⟨f0, f1, f2, f3, f4, f5⟩ := hfp b hb
        refine ⟨?_, f1, f2, f3, f4, f5⟩
        have e' : b = s1.heap.objs.size + 1 ∨ b = s1.heap.objs.size := by simpa using hb
        have hbn : b ≠ h'.objs.size := by
          rw [hsz]
          rcases e' with z | z
          · rw [z]; exact Nat.ne_of_lt (Nat.lt_succ_self _)
          · rw [z]; exact Nat.ne_of_lt (Nat.lt_succ_of_lt (Nat.lt_succ_self _))
        rw [upd_ne hbn]
        exact f0)
    refine wpAny_ite_split (fun _ => ?_) (fun _ => wpAny_pure ⟨plainId_quiet PySem.F.plain_extend_loop _, fin _ J2 fun Ts H' s' I' B' => ⟨rfl, .ref h'.objs.size, H', I', rfl, q _ Ts H' B'⟩⟩)
    refine wpAny_bind (wpAny_rule ?_)
    refine wpAny_bind ?_
    show wpAny _ _ (updateSeq h'.objs.size (·.push .none) >>= fun _ => updateSeq h'.objs.size (·.pop)) _ _ _
    obtain ⟨z, its3, k3, r3, hl3, e3⟩ := J2.lstM upd_same
    cases r3
    refine wpAny_bind (wpAny_updateSeq e3 rfl ?_)
    have J3 := J2.lset (f := (·.push Value.none)) (its' := [Value.none]) (ys := [.non]) (t' := s1.toks) upd_same e3 (by simp) (.cons rfl .nil) (by rw [List.length_singleton, sizeLine_eq]; decide)
    obtain ⟨z4, its4, k4, r4, hl4, e4⟩ := J3.lstM upd_same
    obtain ⟨u4, rfl, ru4⟩ := r4.one
    refine wpAny_updateSeq e4 rfl ?_ (by show 1 ≤ sizeLine; rw [sizeLine_eq]; decide) (by show 0 ≤ sizeLine + 1; exact Nat.zero_le _)
    have J4 := J3.lset (f := (·.pop)) (its := [u4]) (its' := []) (ys := []) (t' := s1.toks) upd_same e4 (by rfl) .nil (Nat.zero_le _)
    rw [upd_upd, upd_upd] at J4
    refine wpAny_pure ⟨plainId_quiet PySem.F.plain_extend_loop _, ?_⟩
    have stay2 : ∀ (h2 : Heap) (f : Array Value → Array Value) b o, b ≠ h'.objs.size → h2.get? b = some o → (h2.update h'.objs.size (Obj.mapSeq f)).get? b = some o := fun h2 f b o hb k => (Heap.get?_update_other _ _ (Ne.symm hb)).trans k
    exact enum_loop (A1 := X.A.in1) (I1.ok.hd hcm) (show s1.heap.objs.size + 1 ≠ s1.heap.objs.size by omega) (fun Ts H' s' I' B' => ⟨rfl, .ref h'.objs.size, H', I', rfl, q _ Ts H' B'⟩) xs.length 0 [] _ _ (by omega) J4 B0
      (.inl ⟨_, stay2 _ _ _ _ (Ne.symm qe) (stay2 _ _ _ _ (Ne.symm qe) he2)⟩) (hit.at fun o k => stay2 _ _ _ o (Ne.symm qi) (stay2 _ _ _ o (Ne.symm qi) (stay _ o k))) (fun b hb => by
        obtain ⟨f0, f1, f2, f3, f4, f5⟩ := hfp b hb
        refine ⟨?_, f1, f2, f3, f4, f5⟩
        have e' : b = s1.heap.objs.size + 1 ∨ b = s1.heap.objs.size := by simpa using hb
        have hbn : b ≠ h'.objs.size := by
          rw [hsz]
          rcases e' with z | z
          · rw [z]; exact Nat.ne_of_lt (Nat.lt_succ_self _)
          · rw [z]; exact Nat.ne_of_lt (Nat.lt_succ_of_lt (Nat.lt_succ_self _))
        rw [upd_ne hbn]
        exact f0)
/-- list(enumerate(xs)), a new list -/
theorem el_enum {o : Expr} {fs : Ag} {p p2 pos pos2 : Pos} (hcm : X.calm = true) (hg : Gl X "list") (hm : X.mg "list" = none) (hge : Gl X "enumerate") (hme : X.mg "enumerate" = none) (ha : AN X [o] 1 fs)
    (hs : starEach [o] X.env = [(false, eval o X.env)] := by rfl) (na : starEach [.Call (.Name "enumerate" p2) [o] [] pos2] X.env = (false, eval (.Call (.Name "enumerate" p2) [o] [] pos2) X.env) :: starEach [] X.env := by rfl) :
    EL X (.Call (.Name "list" p) [.Call (.Name "enumerate" p2) [o] [] pos2] [] pos) (gEnum fs) := by
  obtain ⟨t, h1, h2⟩ := ha.a.ex
  refine ⟨⟨_, pe_listEnum hcm hg hm hge hme h1 hs na, fun G0 H0 Z Γ σ G H Q ds R hf k => ?_⟩⟩
  obtain ⟨xs, e1, hf⟩ := obind hf
  have hl := ha.n Γ xs e1
  refine h2 G0 H0 Z Γ σ G H _ _ R e1 fun G1 H1 vs x1 r1 => ?_
  match xs, hl, hf, r1 with
  | [x], _, hf, .cons r .nil =>
    replace hf : ((dItems x).bind fun xs => some (enumD 0 xs)) = some ds := hf
    obtain ⟨as, a1, hf⟩ := obind hf
    cases hf
    obtain ⟨p1, vs1, rfl, s1, r1⟩ := r.items a1
    refine ⟨p1, vs1, rfl, x1.gh.seq s1, fun q Ts H' B => ?_⟩
    have lv := r1.length
    -- what is known now: the pairs too
    have hmem : ∀ T, T ∈ Ts → ∃ j, Ts[j]? = some T := fun T hT => List.mem_iff_getElem?.mp hT
    classical
    let G2 : Hp := fun b => if b ∈ Ts then H' b else G1 b
    have gT : ∀ T, T ∈ Ts → H1 T = none ∧ T ≠ q ∧ H' T ≠ none := fun T hT => by
      obtain ⟨j, hj⟩ := hmem T hT
      obtain ⟨t1, t2, y, t3, t4⟩ := B.tup j T hj
      exact ⟨t1, t2, by rw [t4]; simp⟩
    have qT : q ∉ Ts := fun z => (gT q z).2.1 rfl
    have sg : Same G1 G2 := fun b u z => by
      show (if b ∈ Ts then H' b else G1 b) = some u
      rw [if_neg (fun w => by have := (gT b w).1; rw [x1.gh b u z] at this; cases this)]
      exact z
    have e : Ext G1 H1 G2 H' := Ext.same sg B.keep (fun b u z => by
      have z : (if b ∈ Ts then H' b else G1 b) = some u := z
      split at z
      · exact z
      · exact B.keep _ _ (x1.gh b u z)) fun b z => by
      have z : (if b ∈ Ts then H' b else G1 b) ≠ none := z
      split at z
      · rename_i w; exact .inr (gT b w).1
      · exact .inl z
    have q2 : G2 q = none := by
      show (if q ∈ Ts then H' q else G1 q) = none
      rw [if_neg qT]
      exact x1.gh.free B.q0
    refine k G2 H' q _ (x1.trans e) (x1.hf B.q0) q2 B.lst ?_
    -- the items
    have items : ∀ (Us : List Addr) (vs2 : List V) (ds2 : List D) (j : Nat), Us.length = vs2.length → RepL X.K X.mg G1 vs2 ds2 → (∀ i T, Us[i]? = some T → ∃ x, vs2[i]? = some x ∧ G2 T = some (.tup [.int ((j + i : Nat) : Int), x])) → RepL X.K X.mg G2 (Us.map V.ref) (enumD j ds2) := by
      intro Us
      induction Us with
      | nil =>
        intro vs2 ds2 j hl hr _
        cases vs2 with
        | nil => cases hr; exact .nil
        | cons => simp at hl
      | cons U Us ih =>
        intro vs2 ds2 j hl hr hg
        cases hr with
        | nil => simp at hl
        | cons h r =>
          obtain ⟨y, y1, y2⟩ := hg 0 U rfl
          cases y1
          refine .cons (.tup y2 (.cons (.int _) (.cons (h.mono sg) .nil))) (ih _ _ (j + 1) (by simpa using hl) r fun i T hT => ?_)
          obtain ⟨w, w1, w2⟩ := hg (i + 1) T (by simpa using hT)
          refine ⟨w, by simpa using w1, ?_⟩
          have e5 : j + 1 + i = j + (i + 1) := by omega
          rw [e5]
          exact w2
    refine items Ts vs1 as 0 B.len r1 fun i T hT => ?_
    obtain ⟨t1, t2, y, t3, t4⟩ := B.tup i T hT
    refine ⟨y, t3, ?_⟩
    show (if T ∈ Ts then H' T else G1 T) = _
    rw [if_pos (List.mem_of_getElem? hT), t4]
    simp
end
end DL

namespace DL
open PySem L2
variable [TC : TabCtx]

def dShl : D → D → Option D
  | .int i, .int j => if 0 ≤ j ∧ j ≤ 1000000 ∧ i.natAbs < 2 ^ 64 then some (.int (i * 2 ^ j.toNat)) else none
  | _, _ => none
section
variable {X : Cx} {e a b o : Expr} {f g k : Ex} {fs : Ag} {pos pos' : Pos} {n i : Nat} {rp : Pth}
theorem od_shl : OpD X (binaryOp .LShift) dShl := opd_i op_shl fun x y d e => by
  unfold dShl at e
  split at e
  · split at e
    · cases e; rename_i z; exact ⟨_, _, rfl, rfl, z, fun _ _ _ => .int _⟩
    · cases e
  · cases e
/-- a global name that is an int -/
def GlI (mg : Str → Option Value) (x : Str) (n : Int) : Prop := ∃ t, mg x = some (.int n t)
theorem e_gint {x : Str} {n : Int} (hm : GlI X.mg x n) (hg : Gl X x := by rfl) (hd : (x == ("__debug__" : Str)) = false := by decide) : E X (.Name x pos) (gI n) := by
  obtain ⟨t, hm⟩ := hm
  exact ⟨⟨_, pe_glob hg hm (v := .int n) ⟨t, rfl⟩ hd, fun G0 H0 Z Γ σ G H Q d R hf k => by cases hf; exact k G H _ (Ext.refl R.gh) (.int n)⟩⟩
/-- xs[::-1] -/
def gRevL (f : Ex) : Ag := fun Γ => (f Γ).bind fun x => match x with
  | .lst xs => some xs.reverse
  | _ => none
theorem el_revL {kk : Nat} {p1 p2 p3 : Pos} (he : B X e f) : EL X (.Subscript e (.Slice none none (some (.UnaryOp .USub (.Constant (.int 1) kk p1) p2)) p3) pos) (gRevL f) := by
  obtain ⟨t, h1, h2⟩ := he.ex
  refine ⟨⟨_, pe_revL h1, fun G0 H0 Z Γ σ G H Q ds R hf k => ?_⟩⟩
  obtain ⟨x, e1, hf⟩ := obind hf
  cases x with
  | lst xs =>
    cases hf
    refine h2 G0 H0 Z Γ σ G H _ _ R e1 fun G1 H1 v x1 r1 => ?_
    obtain ⟨p, vs, rfl, hp, rp⟩ := r1.lst x1.gh
    refine ⟨p, vs, rfl, SqL.of hp, fun q hq => ?_⟩
    exact k G1 _ q _ (x1.trans (Ext.own1 x1.gh hq)) (x1.hf hq) (x1.gh.free hq) upd_same rp.reverse
  | _ => cases hf
/-- P.pop() -/
def sPop (i : Nat) (rp : Pth) : Sm := fun Γ => match gP i rp Γ with
  | some (.ow xs) => if xs = [] then none else upP i rp (.ow xs.dropLast) Γ
  | _ => none
theorem RepL.dropLast {K : PySem.W.Frag} {mg : Str → Option Value} {G : Hp} {vs : List V} {ds : List D} (r : RepL K mg G vs ds) : RepL K mg G vs.dropLast ds.dropLast := by
  rw [List.dropLast_eq_take, List.dropLast_eq_take, r.length]
  exact r.take _
theorem s_pop {ap : Pos} (hp : PL X o i rp)
    (hpe : ∀ {r : V → List V → Hp → VK → Prop} {to : TE}, MtR X "list.pop" r → PE X o to → PE X (.Call (.Attribute o "pop" ap) [] [] pos) (tBM0 X.K "list" r to) := by intro r to hm ho; exact pe_bm0 PySem.F.plainAttrs_list PySem.F.slot_list_pop PySem.F.type_list_pop hm ho)
    (hs : swapsWith (.Call (.Attribute o "pop" ap) [] [] pos) none pos'.line X.env = pure false := by rfl) : S X (.Expr (.Call (.Attribute o "pop" ap) [] [] pos) pos') (sPop i rp) := by
  obtain ⟨u, u1, u2⟩ := hp.ex
  refine ⟨⟨_, ps_expr (hpe mt_pop u1) hs, fun G0 H0 Z Γ σ G H D r R hf k => ?_⟩⟩
  unfold sPop at hf
  cases q : gP i rp Γ with
  | none => rw [q] at hf; cases hf
  | some s1 =>
    rw [q] at hf
    cases s1 with
    | ow xs =>
      replace hf : (if xs = [] then none else upP i rp (.ow xs.dropLast) Γ) = some r := hf
      split at hf
      · cases hf
      · rename_i hl
        obtain ⟨s, s2, a1, a2, rfl⟩ := upP_some hf
        obtain ⟨s', b1, b2, b3⟩ := gP_some q (by simp [SlP])
        rw [a1] at b1
        cases b1
        refine u2 G0 H0 Z Γ σ G H G H _ s _ R (Ext.refl R.gh) a1 b2 b3 (by simp) fun v pk => ?_
        obtain ⟨F0, p0⟩ := pk G H (Ext.refl R.gh)
        obtain ⟨l, ws, rfl, d1, d2, d3⟩ := p0.list R.gh
        refine ⟨.inl ⟨rfl, _, SqL.of d1⟩, ?_⟩
        have hlen := d2.length
        have hpos : 0 < xs.length := List.length_pos_iff.mpr hl
        refine ⟨_, ws, ws[ws.length - 1]'(by omega), rfl, rfl, d1, List.getElem?_eq_getElem _, ?_⟩
        exact k σ G _ (d3 _ _ _ d2.dropLast a2)
    | _ => cases hf
end
end DL

namespace DL
open PySem L2
variable [TC : TabCtx]
/-! ### P.f, a, b = e -/
/-- an attribute as a target -/
def gAttr (K : PySem.W.Frag) (ta : TE) (f : Str) : TG := fun v σ H Q => ta σ H fun x H1 => ∃ a C dx fs, x = .ref a ∧ H1 a = some (.ins C dx fs) ∧ Cls K C ∧ NoAttr K C f ∧ fs.length < 1000 ∧ Q σ (L2.upd H1 a (.ins C dx (putF f v fs)))
theorem pg_attr {X : Cx} {o : Expr} {ta : TE} {f : Str} {pos : Pos} (ha : PE X o ta) : PG X (.Attribute o f pos) (gAttr X.K ta f) := by
  refine ⟨fun pins s σ H v u Q I r h => ?_⟩
  rw [PySem.assign_Attribute]
  refine wpAny_bind (wpAny_holding (thn (ha.run pins s σ H _ I h) fun ov s1 ⟨x, H1, I1, rx, a, C, dx, fs, ex, ea, c, n, l, q⟩ => ?_))
  subst ex
  obtain rfl : ov = Value.ref a := rx
  refine wpAny_bind (wpAny_standAt (wpAny_bind (wpAny_holding (setattr_ok I1 ea c n l r fun s3 I3 => ?_))))
  exact wpAny_release ⟨σ, _, I3, q⟩
def sUnpF (i : Nat) (rp : Pth) (c j n : Nat) (gs : Gss) (f : Ex) : Sm := fun Γ => (f Γ).bind fun d => match d with
  | .tup (d0 :: ds) => if ds.length + 1 = n then (DL.sFld i rp c j (fun _ => some (.sh d0)) Γ).bind fun r => match r with
      | .nx Γ1 => (gs ds Γ1).bind fun Γ' => some (.nx Γ')
      | _ => none
    else none
  | _ => none
section
variable {X : Cx} {e o : Expr} {es : List Expr} {f : Ex} {pos pos' pt : Pos} {n k : Nat} {ix : List Nat} {gs : Gss}
theorem s_unpF {i : Nat} {rp : Pth} {c j : Nat} {C : Addr} {x : Str} (ck : CK X.K X.mg c C) (hp : PL X o i rp) (he : E X e f) (hl : GL X es ix gs) (hc : X.calm = true) (hj : (cF c)[j]? = some x := by rfl) (nd : (cF c).Nodup := by decide +kernel)
    (hn : (assignEach (.Attribute o x pos' :: es) X.env).length = n := by rfl) (hst : (assignEach (.Attribute o x pos' :: es) X.env).findIdx? (·.1) = none := by rfl)
    (hcs : (assignEach (.Attribute o x pos' :: es) X.env).map (·.2) = assign (.Attribute o x pos') X.env :: (assignEach es X.env).map (·.2) := by rfl)
    (hs : swapsWithSole [.Tuple (.Attribute o x pos' :: es) k pt] e pos.line X.env = pure false := by rfl) (hw : swappedStores [.Tuple (.Attribute o x pos' :: es) k pt] e X.env = pure none := by rfl)
    (h1 : (assignEach [.Tuple (.Attribute o x pos' :: es) k pt] X.env).map (·.2) = [assign (.Tuple (.Attribute o x pos' :: es) k pt) X.env] := by rfl) :
    S X (.Assign [.Tuple (.Attribute o x pos' :: es) k pt] e pos) (sUnpF i rp c j n gs f) := by
  obtain ⟨t, t1, t2⟩ := he.ex
  obtain ⟨u, u1, u2⟩ := hp.ex
  obtain ⟨w, w1, w2⟩ := hl.ex
  refine ⟨⟨_, ps_asg t1 (pg_tup hc (pgs_cons (pg_attr u1) w1 hcs) hn hst) hs hw h1, fun G0 H0 Z Γ σ G H D r R hf kk => ?_⟩⟩
  obtain ⟨d, e1, hf⟩ := obind hf
  refine t2 G0 H0 Z Γ σ G H _ d R e1 fun G1 H1 v x1 hd => ?_
  cases d with
  | tup dd =>
    cases dd with
    | nil => cases hf
    | cons d0 ds =>
      replace hf : (if ds.length + 1 = n then (DL.sFld i rp c j (fun _ => some (.sh d0)) Γ).bind fun r => match r with
        | .nx Γ1 => (gs ds Γ1).bind fun Γ' => some (.nx Γ')
        | _ => none else none) = some r := hf
      split at hf
      · rename_i hlen
        obtain ⟨r1, e2, hf⟩ := obind hf
        cases hd with
        | tup hT rr =>
          have hvl := rr.length
          cases rr with
          | cons r0 rr =>
            rename_i pa v0 vs
            refine ⟨_, _, rfl, SqT.of (x1.gh _ _ hT), by rw [hvl]; simpa using hlen, _, _, rfl, ?_⟩
            have go : ∀ Γ1 H', Rel X.K X.mg G0 H0 Z Γ1 σ G1 H' → r1 = .nx Γ1 → w vs σ H' D.nx := fun Γ1 H' R1 e3 => by
              subst e3
              obtain ⟨Γ', e4, hf⟩ := obind hf
              cases hf
              exact w2 G0 H0 Z Γ1 σ G1 H' _ ds vs Γ' R1 rr e4 fun σ' R' _ => kk σ' G1 H' R'
            clear hf
            replace e2 : (match gP i rp Γ with
              | some (.ob c' fs) => if c' = c then (if j < fs.length then upP i rp (.ob c (fs.set j (.sh d0))) Γ else if j = fs.length then upP i rp (.ob c (fs ++ [.sh d0])) Γ else none) else none
              | _ => none) = some r1 := e2
            cases q : gP i rp Γ with
            | none => rw [q] at e2; cases e2
            | some par =>
              rw [q] at e2
              cases par with
              | ob c' fs =>
                replace e2 : (if c' = c then (if j < fs.length then upP i rp (.ob c (fs.set j (.sh d0))) Γ else if j = fs.length then upP i rp (.ob c (fs ++ [.sh d0])) Γ else none) else none) = some r1 := e2
                split at e2
                · rename_i hcc
                  subst hcc
                  obtain ⟨s, b1, b2, b3⟩ := gP_some q (by simp [SlP])
                  refine u2 G0 H0 Z Γ σ G H G1 H1 _ s _ R x1 b1 b2 b3 (by simp) fun vq pk => ?_
                  obtain ⟨F1, P⟩ := pk G1 H1 x1
                  have hdP := P.hd
                  cases hdP with
                  | ob f hm ho nn sF rs =>
                    rename_i p C' dx vf F'
                    rw [ck.hm] at hm
                    cases hm
                    refine ⟨p, C, dx, _, rfl, ho, ck.cl, ck.na x (List.mem_of_getElem? hj), zip_short, ?_⟩
                    have gp := (P.fr p f).1
                    have hlen2 := rs.length
                    have fin : ∀ (vs' : List V) (fs' : List Sl) (s2 : Sl), putF x v0 ((cF c').zip vf) = (cF c').zip vs' → (∀ {Hx : Hp}, HdL X.K X.mg G1 Hx vf F' fs → Hd X.K X.mg G1 Hx v0 (fun _ => False) (.sh d0) → HdL X.K X.mg G1 Hx vs' (fun a => F' a ∨ False) fs') → setR rp (.ob c' fs') s = some s2 →
                        Rel X.K X.mg G0 H0 Z (Γ.set i s2) σ G1 (upd H1 p (.ins C dx (putF x v0 ((cF c').zip vf)))) := fun vs' fs' s2 ez mk es => by
                      rw [ez]
                      have keep : ∀ (Y : Addr → Prop), ¬ Y p → ∀ a o, Y a → H1 a = some o → upd H1 p (.ins C dx ((cF c').zip vs')) a = some o := fun Y hy a o ya q => by
                        rw [upd_ne]
                        · exact q
                        · intro e; subst e; exact hy ya
                      refine P.up G1 _ (fun a => F1 a ∨ False) (.ob c' fs') s2 (Same.refl _) (fun a o q => ?_) (fun a q => .inl q) (fun a o nf q => ?_) ?_ (fun a y => ?_) (fun _ => rfl) es
                      · rw [upd_ne (ne_of_none q gp)]; exact x1.gh _ _ q
                      · rw [upd_ne]
                        · exact q
                        · intro e; subst e; exact nf f
                      · refine .ob (.inl f) ck.hm upd_same (F' := fun a => F' a ∨ False) (fun y => y.elim nn (fun y => y.elim)) (fun a y => y.elim (fun y => .inl (sF a y)) .inr) ?_
                        exact mk (rs.mono (Same.refl _) (fun a o y q _ => keep F' nn a o y q)) (.sh r0)
                      · have up : H1 a ≠ none → upd H1 p (.ins C dx ((cF c').zip vs')) a ≠ none := fun q => by
                          by_cases e : a = p
                          · subst e; rw [upd_same]; simp
                          · rw [upd_ne e]; exact q
                        rcases y with y | y
                        · exact ⟨(P.fr a y).1, up (P.fr a y).2.2.1, .inl y⟩
                        · exact y.elim
                    have djL : ∀ a, (fun _ : Addr => False) a → ¬ F' a := fun a y _ => y.elim
                    split at e2
                    · rename_i hjl
                      obtain ⟨s', s2, a1, a2, rfl⟩ := upP_some e2
                      rw [b1] at a1
                      cases a1
                      exact go _ _ (fin (vf.set j v0) _ s2 (putF_set nd hj (by rw [hlen2]; exact hjl)) (fun r h => r.setv j h djL) a2) rfl
                    · split at e2
                      · rename_i hjl
                        obtain ⟨s', s2, a1, a2, rfl⟩ := upP_some e2
                        rw [b1] at a1
                        cases a1
                        exact go _ _ (fin (vf ++ [v0]) _ s2 (putF_snoc nd (by rw [hlen2, ← hjl]; exact hj)) (fun r h => r.snoc h djL) a2) rfl
                      · cases e2
                · cases e2
              | _ => cases e2
      · cases hf
  | _ => cases hf
end
end DL

namespace DL
open PySem L2 LamX PySem.Spec PyProof.Rows
/-! ### a lambda with parameters -/
/-- parameters, no other name of its own: captured ones and globals -/
structure LamS1 (sc scope : Scope) (prs : List Str) : Prop where
  kind : scope.kind = .function
  co : scope.isCoroutine = false
  gen : scope.isGenerator = false
  own : ∀ y ∈ scope.names, (y.2 = .local → y.1 ∈ prs) ∧ y.2 ≠ .cell
  par : ∀ p ∈ prs, scope.names.lookup p = some .local
  nd : prs.Nodup
  free : ∀ y ∈ scope.names, y.2 = .free → sc.names.lookup y.1 = some .cell ∨ sc.names.lookup y.1 = some .free
def lamS1B (sc scope : Scope) (prs : List Str) : Bool :=
  decide (scope.kind = .function) && !scope.isCoroutine && !scope.isGenerator && (prs.all fun p => decide (scope.names.lookup p = some .local)) && decide prs.Nodup && scope.names.all fun y => (!decide (y.2 = .local) || decide (y.1 ∈ prs)) && !decide (y.2 = .cell) && (!decide (y.2 = .free) || decide (sc.names.lookup y.1 = some .cell) || decide (sc.names.lookup y.1 = some .free))
theorem lamS1_by {sc scope : Scope} {prs : List Str} (h : lamS1B sc scope prs = true) : LamS1 sc scope prs := by
  unfold lamS1B at h
  simp only [Bool.and_eq_true, Bool.or_eq_true, Bool.not_eq_true', decide_eq_true_eq, decide_eq_false_iff_not, List.all_eq_true] at h
  obtain ⟨⟨⟨⟨⟨h1, h2⟩, h3⟩, h5⟩, h6⟩, h4⟩ := h
  refine ⟨h1, h2, h3, fun y hy => ⟨fun e => ?_, (h4 y hy).1.2⟩, h5, h6, fun y hy e => ?_⟩
  · rcases (h4 y hy).1.1 with z | z
    · exact absurd e z
    · exact z
  · rcases (h4 y hy).2 with (z | z) | z
    · exact absurd e z
    · exact .inl z
    · exact .inr z
theorem LamS1.has {X : Cx} {scope : Scope} {prs : List Str} (L : LamS1 X.env.scope scope prs) (ok : X.Ok) : ∀ y ∈ scope.names, y.2 = .free → ∃ c, X.env.cells.lookup y.1 = some c := fun y hy e => by
  rcases L.free y hy e with k | k
  · exact ok.has _ (.inl k)
  · exact ok.has _ (.inr k)
/-- the context of the lambda's body: the maker's slots and the parameters' -/
def lamCx1 (X : Cx) (A : Around) (outer : List Env) (s : Shared) (H : Hp) (E : XK) (scope : Scope) (prs : List Str) (f c' : Addr) : Cx :=
  { lamCx X A outer s H E scope f c' with N := X.N ++ prs }
section
variable {X : Cx} {pins : List (Addr × Obj)} {σ : L2.St} {H HZ : Hp} {s s1 : Shared}
theorem lam_start1 {A : Around} {outer : List Env} {E : XK} {scope : Scope} {prs : List Str} {vs : List V} {us : List Value} {f c' : Addr} {h₁ : Heap} {tk : Nat} (I : Inv X pins σ H s) (L : LamS1 X.env.scope scope prs) (hp : ∀ p ∈ prs, p ∉ X.N) (rv : Vals vs us) (hl : vs.length = prs.length) (e0 : Env0 X.prog X.w X.K X.mg X.base A outer s1 HZ) (hd : A.handled = none)
    (un : Un (frs X.stack) [] H HZ s.heap s1.heap) (hns : h₁.Ns s1.heap.objs.size fun y => (prs.zip us).reverse.lookup y) (kp : ∀ b o, s1.heap.get? b = some o → h₁.get? b = some o) :
    Inv (lamCx1 X A outer s1 HZ E scope prs f c') [] (σ ++ vs.map some) HZ { s1 with heap := h₁, toks := tk } := by
  have hfree := L.has I.ok
  have cm : ∀ {y c}, (cloFrom X.env.cells scope.names []).lookup y = some c → X.env.cells.lookup y = some c := fun {y c} e => by
    rcases cloFrom_mem (PySem.mem_of_lookup e) with hm | ⟨h1, h2⟩
    · cases hm
    · obtain ⟨c1, hc⟩ := hfree _ h1 rfl
      have hc : X.env.cells.lookup y = some c1 := hc
      have e2 : c = c1 := by
        rw [h2, hc] <;> rfl
      rw [e2]
      exact hc
  have look : ∀ {y}, scope.names.lookup y = some .free → ∃ c, (cloFrom X.env.cells scope.names []).lookup y = some c := fun {y} hl => by
    have hy : (y, NameKind.free) ∈ scope.names := PySem.mem_of_lookup hl
    exact mem_lookup (cloFrom_has (cells := X.env.cells) (acc := []) hy)
  have cellK : ∀ {c : Addr} {v : Option Value}, H c = none → s.heap.IsCell c v → h₁.IsCell c v := fun {c v} n ⟨o, ho, hd⟩ => by
    obtain ⟨sl, q⟩ := un.any ho n (by simp)
    exact ⟨_, kp _ _ q, hd⟩
  have noA : ∀ b : Addr, b ∉ (lamCx1 X A outer s1 HZ E scope prs f c').ex := fun b z => absurd (show b ∈ ([] : List Addr) from z) (by simp)
  refine ⟨⟨e0.mod, L.kind, rfl, rfl, Nat.le_refl _, fun y z c e1 e2 => I.ok.inj y z c (cm e1) (cm e2), fun y hy => ?_, fun y c z _ => ?_, fun _ => hd, Around.frames_deeper e0.frames, .inr ⟨rfl, rfl⟩, fun b z => absurd z (noA b), e0.bs, e0.bsz, fun b _ _ => noA b,
      fun b z => absurd z (noA b), e0.funs, e0.frf⟩,
    rfl, e0.bare, Un.kept kp, ⟨_, hns, fun i y v' e1 e2 e3 => ?_⟩, fun y c e => ?_, e0.hok.fresh (Nat.le_refl _), fun y c e => ?_, fun q hq => absurd (show q ∈ ([] : List (Addr × Obj)) ++ [] from hq) (by simp), e0.hok.kept kp, ?_⟩
  · have hy : scope.names.lookup y = some .cell ∨ scope.names.lookup y = some .free := hy
    rcases hy with hy | hy
    · exact absurd rfl (L.own _ (PySem.mem_of_lookup hy)).2
    · exact look hy
  · have z : false = true := z
    cases z
  · have e1 : (X.N ++ prs)[i]? = some y := e1
    have e3 : Vis scope y := e3
    by_cases hi : i < X.N.length
    · rw [List.getElem?_append_left hi] at e1
      rw [List.getElem?_append_left (by rw [I.len]; exact hi)] at e2
      have yp : y ∉ prs := fun z => hp y z (List.mem_of_getElem? e1)
      rcases e3 with k | k | k
      · exact absurd ((L.own _ (PySem.mem_of_lookup k)).1 rfl) yp
      · exact absurd rfl (L.own _ (PySem.mem_of_lookup k)).2
      · obtain ⟨m, hn, hl⟩ := I.loc
        have hvis : Vis X.env.scope y := (L.free _ (PySem.mem_of_lookup k) rfl).elim (fun k => .inr (.inl k)) (fun k => .inr (.inr k))
        obtain ⟨w', r, q⟩ := hl i y v' e1 e2 hvis
        obtain ⟨c2, h2⟩ := look k
        refine ⟨w', r, .inr ⟨.inr k, c2, h2, ?_⟩⟩
        have c1 := cm h2
        rcases q with ⟨k', _⟩ | ⟨_, c3, e', z⟩
        · have k' : X.env.scope.names.lookup y = some .local := k'
          rcases L.free _ (PySem.mem_of_lookup k) rfl with k2 | k2 <;> rw [show X.env.scope.names.lookup y = _ from k2] at k' <;> cases k'
        · rw [c1] at e'
          cases e'
          exact cellK (I.freeC y _ c1) z
    · have hi : X.N.length ≤ i := Nat.le_of_not_lt hi
      rw [List.getElem?_append_right hi] at e1
      rw [List.getElem?_append_right (by rw [I.len]; exact hi), I.len, List.getElem?_map] at e2
      cases q : vs[i - X.N.length]? with
      | none => rw [q] at e2; cases e2
      | some w =>
        rw [q] at e2
        have ev : w = v' := by simpa using e2
        subst ev
        obtain ⟨u, hu, ru⟩ := rv.get q
        exact ⟨u, ru, .inl ⟨L.par y (List.mem_of_getElem? e1), NdefX.zip_look L.nd e1 hu⟩⟩
  · obtain ⟨w', z⟩ := I.cell y c (cm e)
    exact ⟨w', cellK (I.freeC y c (cm e)) z⟩
  · obtain ⟨v, o, ho, hd⟩ := I.cell y c (cm e)
    exact un.free c o ho (I.freeC y c (cm e)) (by simp)
  · show (σ ++ vs.map some).length = (X.N ++ prs).length
    rw [List.length_append, List.length_append, I.len, List.length_map, hl]
/-- x(e, ..), in the def that got the lambda -/
theorem pe_act1 {CXg : CXT} {Eg : XK} {Ng : List Str} {qg : Str} {sg : Scope} {g f c' : Addr} {cdg pm ctv : Value} {params : Arguments} {body : Expr} {scope : Scope} {prs : List Str} {k i : Nat} {a : Str} {e : Expr} {es : List Expr} {ta : TA} {pn : List (Addr × Obj)} {xe : Value → Shared → Prop} {W : WX} {E : XK} {tb : TE} {p1 p2 : Pos}
    (I : Inv X pins σ H s) (L : LamS1 X.env.scope scope prs) (hp : ∀ p ∈ prs, p ∉ X.N) (hf : s.heap.get? f = some (PySem.W.kla_obj "<lambda>" (X.env.qual ++ "<lambda>") params body scope (cloFrom X.env.cells scope.names []) pm c' ctv)) (hfn : H f = none) (hfr : f ∉ frs X.stack)
    (hbind : ∀ us : List Value, us.length = prs.length → bindArgs (PySem.W.kla_fn "<lambda>" (X.env.qual ++ "<lambda>") params body scope (cloFrom X.env.cells scope.names []) pm (.ref c') ctv) ⟨us, []⟩ = pure (prs.zip us))
    (tk : Takes ((cxOf CXg X.prog X.w X.K X.mg X.base Ng qg sg g cdg X.A X.stack s H Eg).tr pn xe) W) (hW : ∀ cls d σ' H', E cls d H' → W cls d σ' H') (hr : Room (k + 1) (X.A.deeper (envOfC qg sg s.heap.objs.size g cdg)))
    (hbody : ∀ (A : Around) (outer : List Env) (s : Shared) (H : Hp), Room k (A.deeper (lamEnv X scope s.heap.objs.size f c')) → PE (lamCx1 X A outer s H E scope prs f c') body tb)
    (hN : Ng[i]? = some a) (hv : Vis sg a) (ha : PA ((cxOf CXg X.prog X.w X.K X.mg X.base Ng qg sg g cdg X.A X.stack s H Eg).tr pn xe) (e :: es) ta)
    (he : starEach (e :: es) ((cxOf CXg X.prog X.w X.K X.mg X.base Ng qg sg g cdg X.A X.stack s H Eg).tr pn xe).env = (false, eval e ((cxOf CXg X.prog X.w X.K X.mg X.base Ng qg sg g cdg X.A X.stack s H Eg).tr pn xe).env) :: starEach es ((cxOf CXg X.prog X.w X.K X.mg X.base Ng qg sg g cdg X.A X.stack s H Eg).tr pn xe).env)
    (hpl : (backTo p2 (starEach es ((cxOf CXg X.prog X.w X.K X.mg X.base Ng qg sg g cdg X.A X.stack s H Eg).tr pn xe).env)).any (·.1) = false)
    (hd : (a == ("__debug__" : Str)) = false := by decide) (hcd : (a == ("__classdict__" : Str)) = false := by decide) :
    PE ((cxOf CXg X.prog X.w X.K X.mg X.base Ng qg sg g cdg X.A X.stack s H Eg).tr pn xe) (.Call (.Name a p1) (e :: es) [] p2)
      (fun σZ HZ Q => σZ[i]? = some (some (.ref f)) ∧ ta σZ HZ fun ws H2 => ws.length = prs.length ∧ H2 c' = some (CodeO c' (X.env.qual ++ "<lambda>")) ∧ tb (σ ++ ws.map some) H2 Q) := by
  refine ⟨fun pinsZ sZ σZ HZ Q IZ h => ?_⟩
  obtain ⟨hs, ht⟩ := h
  refine wpAny_Call_Name_kw (thn ((pe_var (pos := p1) (i := i) hN hv hd hcd).run pinsZ sZ σZ HZ (fun v H1 => v = .ref f ∧ H1 = HZ) IZ ⟨.ref f, hs, rfl, rfl⟩) fun u s0 ⟨v0, H1, I1, r1, q1⟩ => ?_)
  obtain ⟨ev, eH⟩ := q1
  subst ev
  rw [eH] at I1
  obtain rfl : u = Value.ref f := r1
  have of0 : s0.heap.get? f = some (PySem.W.kla_obj "<lambda>" (X.env.qual ++ "<lambda>") params body scope (cloFrom X.env.cells scope.names []) pm c' ctv) := I1.base.keep f _ hf hfn hfr (fun z => nomatch (show f ∈ ([] : List Addr) from z))
  refine PySem.W.callWith_F ⟨_, _, _, _, of0⟩ (thn (ha.run p2 pinsZ s0 σZ HZ _ I1 ht) fun us s1 ⟨ws, H2, I2, r2, hlen, hc, hq⟩ => ?_) he hpl
  have of1 : s1.heap.get? f = some (PySem.W.kla_obj "<lambda>" (X.env.qual ++ "<lambda>") params body scope (cloFrom X.env.cells scope.names []) pm c' ctv) := I2.base.keep f _ hf hfn hfr (fun z => nomatch (show f ∈ ([] : List Addr) from z))
  refine ⟨⟨_, _, _, _, of1⟩, ?_⟩
  have un : Un (frs X.stack) [] H H2 s.heap s1.heap := I2.base
  obtain ⟨⟨oc, vs, t, hoc, hdc, hvc⟩, _, _⟩ := I2.hok c' _ hc
  have hul : us.length = prs.length := by rw [← hlen]; exact r2.length.symm
  have rc : codeAny (model X.prog X.w) (X.A.deeper (envOfC qg sg s.heap.objs.size g cdg)) (.call (.ref f) ⟨us, []⟩) (CR (L2.CX X.prog X.w) (envOfC qg sg s.heap.objs.size g cdg :: X.stack) X.prog X.w H2 s1 Q E) s1 := by
    refine PySem.W.kla_callFunE hr.depth of1 rfl L.co L.gen rfl ⟨c', oc, vs, t, rfl, hoc, hdc, hvc⟩ ?_
    rw [hbind us hul]
    refine wpAny_pure (wpAny_newFunctionEnv (fun y hy => (L.own y hy).2) (fun y hy => L.par _ (List.of_mem_zip hy).1) (fun h₁ hns hsb => ⟨I2.nolimit.fresh _ hsb, ?_⟩) L.kind)
    show codeAny _ _ (.expr body (lamEnv X scope s1.heap.objs.size f c')) _ _
    have kp : ∀ b o, s1.heap.get? b = some o → h₁.get? b = some o := fun b o e => hsb.extBut b o (Nat.ne_of_lt (Heap.lt_size e)) (Heap.get?_push_of_some _ e)
    have J : Inv (lamCx1 X (X.A.deeper (envOfC qg sg s.heap.objs.size g cdg)) (envOfC qg sg s.heap.objs.size g cdg :: X.stack) s1 H2 E scope prs f c') [] (σ ++ ws.map some) H2 { s1 with heap := h₁, toks := s1.toks + (prs.zip us).length } :=
      lam_start1 I L hp r2 hlen I2.env0 hr.hd un hns kp
    refine PySem.W.kla_codeExpr (wpAny_mono ((hbody _ _ s1 H2 (hr.deeper _)).run [] _ _ H2 Q J hq) (fun v s' hq => ?_) fun e s' hq => hq)
    obtain ⟨w', H', J', rv, q⟩ := hq
    exact ⟨w', H', J'.os, J'.bare, J'.base, J'.hok, rv, q⟩
  have hx : Passes (L2.CX X.prog X.w) ((cxOf CXg X.prog X.w X.K X.mg X.base Ng qg sg g cdg X.A X.stack s H Eg).tr pn xe) E := passes_call tk hW
  refine wpAny_call (codeAny_mono rc fun r s' hq => ?_)
  cases r with
  | error e => exact hx pinsZ σZ H2 s1 e s' I2 hq
  | ok fl =>
    cases fl with
    | ret u => exact I2.after hq
    | next => exact False.elim hq
    | brk => exact False.elim hq
    | cont => exact False.elim hq
end
end DL

namespace DL
open PySem L2 LamX PySem.Spec PyProof.Rows
/-! ### x(lambda ps: b, e2), x(e2, lambda ps: b) -/
/-- the def that calls what it got: the parameter a in the slot fi; mk: how it starts; TT: what it makes of the lambda's reading and of its other argument -/
def GivesTo1 (X : Cx) (Ng : List Str) (x : Str) (sg : Scope) (g : Addr) (cdg : Value) (bg : List Stmt) (a : Str) (fi : Nat) (q : Str) (n : Nat) (mk : V → V → List V) (TT : (XK → List V → Hp → VK → Prop) → Addr → Addr → V → Hp → VK → Prop) : Prop :=
  ∀ (f c' : Addr) (s : Shared) (H : Hp) (Q : VK) (w : V) (tl : XK → List V → Hp → VK → Prop),
    (∀ (W : WX) (pn : List (Addr × Obj)) (xe : Value → Shared → Prop) (E : XK) (e : Expr) (es : List Expr) (ta : TA) (p1 p2 : Pos), Takes ((cxOf C8.CX0 X.prog X.w X.K X.mg X.base Ng x sg g cdg X.A X.stack s H C8.E0).tr pn xe) W → (∀ cls d σ' H', E cls d H' → W cls d σ' H') →
      PA ((cxOf C8.CX0 X.prog X.w X.K X.mg X.base Ng x sg g cdg X.A X.stack s H C8.E0).tr pn xe) (e :: es) ta →
      starEach (e :: es) ((cxOf C8.CX0 X.prog X.w X.K X.mg X.base Ng x sg g cdg X.A X.stack s H C8.E0).tr pn xe).env = (false, eval e ((cxOf C8.CX0 X.prog X.w X.K X.mg X.base Ng x sg g cdg X.A X.stack s H C8.E0).tr pn xe).env) :: starEach es ((cxOf C8.CX0 X.prog X.w X.K X.mg X.base Ng x sg g cdg X.A X.stack s H C8.E0).tr pn xe).env →
      (backTo p2 (starEach es ((cxOf C8.CX0 X.prog X.w X.K X.mg X.base Ng x sg g cdg X.A X.stack s H C8.E0).tr pn xe).env)).any (·.1) = false →
      PE ((cxOf C8.CX0 X.prog X.w X.K X.mg X.base Ng x sg g cdg X.A X.stack s H C8.E0).tr pn xe) (.Call (.Name a p1) (e :: es) [] p2) (fun σZ HZ Q => σZ[fi]? = some (some (.ref f)) ∧ ta σZ HZ fun ws H2 => ws.length = n ∧ H2 c' = some (CodeO c' q) ∧ tl E ws H2 Q)) →
    H c' = some (CodeO c' q) → TT tl f c' w H Q →
    ∃ t, PSs (cxOf C8.CX0 X.prog X.w X.K X.mg X.base Ng x sg g cdg X.A X.stack s H C8.E0).nox bg t ∧ t { nx := fun _ H' => Q .non H', rt := Q } (L2.start Ng (mk (.ref f) w)) H
/-- the heap after a lambda is made: as it was, its code object told by the table; or the table has grown by a new code object -/
def Grown (H : Hp) (P : Addr) (q : Str) (ps : Array Value) (H1 : Hp) (c' : Addr) : Prop :=
  (H1 = H ∧ ∃ pos, codeAmong pos ps.toList = some (.ref c')) ∨ (H c' = none ∧ ∃ pos : Pos, H1 = L2.upd (L2.upd H P (.tbl (ps ++ #[rawInt pos.line, rawInt pos.col, .ref c']))) c' (CodeO c' q))
/-- the table at P: what it tells is known -/
structure TabAt (H : Hp) (P : Addr) (q : Str) (ps : Array Value) : Prop where
  at_ : H P = some (.tbl ps)
  tri : TriplesOk ps.toList
  known : ∀ (pos : Pos) (cv : Value), codeAmong pos ps.toList = some cv → ∃ c, cv = .ref c ∧ H c = some (CodeO c q)
def tLam1 (P : Addr) (q : Str) (TT : (XK → List V → Hp → VK → Prop) → Addr → Addr → V → Hp → VK → Prop) (t : XK → TE) (t2 : TA) : TE := fun σ H Q => ∃ ps, TabAt H P q ps ∧ ∀ H1 c' f, Grown H P q ps H1 c' → H1 c' = some (CodeO c' q) →
  t2 σ H1 fun ws H2 => ∃ w, ws = [w] ∧ H2 c' = some (CodeO c' q) ∧ TT (fun E vs H' Q' => t E (σ ++ vs.map some) H' Q') f c' w H2 Q
def tLam2 (P : Addr) (q : Str) (TT : (XK → List V → Hp → VK → Prop) → Addr → Addr → V → Hp → VK → Prop) (t : XK → TE) (t2 : TE) : TE := fun σ H Q => t2 σ H fun w H0 => ∃ ps, TabAt H0 P q ps ∧ ∀ H1 c' f, Grown H0 P q ps H1 c' → H1 c' = some (CodeO c' q) →
  TT (fun E vs H' Q' => t E (σ ++ vs.map some) H' Q') f c' w H1 Q
section
variable {X : Cx} {pins : List (Addr × Obj)} {σ : L2.St} {H : Hp} {s : Shared}
/-- the lambda is made: its code object is new, or told by the table -/
theorem lam_make3 {c P : Addr} {ps : Array Value} {params : Arguments} {body : Expr} {scope : Scope} {pos : Pos} {E : Value → Shared → Prop} {Q : Value → Shared → Prop} (I : Inv X pins σ H s) (TB : TabB X.base X.mg c P) (hcode : X.env.code = .ref c)
    (hT : TabAt H P (X.env.qual ++ "<lambda>") ps) (hdef : defaultsOf params X.env = ([], [])) (hfree : ∀ y ∈ scope.names, y.2 = .free → ∃ c, X.env.cells.lookup y.1 = some c)
    (h : ∀ (f c' : Addr) (pm ctv : Value) (H1 : Hp) (s' : Shared), Inv X pins σ H1 s' → Grown H P (X.env.qual ++ "<lambda>") ps H1 c' →
      s'.heap.get? f = some (PySem.W.kla_obj "<lambda>" (X.env.qual ++ "<lambda>") params body scope (cloFrom X.env.cells scope.names []) pm c' ctv) → H1 f = none → f ∉ frs X.stack → H1 c' = some (CodeO c' (X.env.qual ++ "<lambda>")) → Q (.ref f) s') :
    wpAny (model X.prog X.w) X.A (eval (.Lambda params body scope pos) X.env) Q E s := by
  obtain ⟨hP, ht, ha⟩ := hT
  refine PySem.W.kla_eval hdef ?_
  have bP : s.heap.BuiltinsAt X.mg P := TB.bm.keeps I.bk
  have hP' : s.heap.get? P = some { cls := .none, data := .fields ps } := I.hok P _ hP
  have nofr : ∀ f, s.heap.objs.size ≤ f → f ∉ frs X.stack := fun f hf z => by
    rcases List.mem_cons.mp (I.stkSub _ z) with e | e
    · have h1 := I.lt
      rw [← e] at h1
      exact Nat.lt_irrefl _ (Nat.lt_of_lt_of_le h1 hf)
    · exact I.nofs hf e
  cases hc : codeAmong pos ps.toList with
  | none =>
    refine PySem.W.kla_makeFunction (mg := X.mg) (c := c) (P := P) (ps := ps) (closure_ok hfree) I.ok.glob (I.mod.glob.keeps I.bk) hcode (TB.code.keeps I.bk) hP' ht hc TB.gP bP fun c' ctv h' tk hx hge hlt hrec htb => ?_
    obtain ⟨c2, oc, vs, t, e2, hoc, hd, hv⟩ := hrec
    cases e2
    have hsz : s.heap.objs.size ≤ h'.objs.size := Nat.le_trans hge (Nat.le_of_lt hlt)
    have nC : H c' = none := I.hok.fresh hge
    have I1 := inv_table (t' := tk) (more := #[rawInt pos.line, rawInt pos.col, .ref c']) (h' := h'.push (PySem.W.kla_obj "<lambda>" (X.env.qual ++ "<lambda>") params body scope (cloFrom X.env.cells scope.names []) ((X.mg "__name__").getD .none) c' ctv)) I hP
      (fun b o hb e => Heap.get?_push_of_some _ (hx b o hb e)) (Heap.get?_push_of_some _ htb) hge ⟨oc, vs, t, Heap.get?_push_of_some _ hoc, hd, hv⟩
    refine h h'.objs.size c' ((X.mg "__name__").getD .none) ctv _ _ I1 (.inr ⟨nC, pos, rfl⟩) (Heap.get?_push_size _ rfl) ?_ (nofr _ hsz) upd_same
    have n1 : h'.objs.size ≠ c' := Nat.ne_of_gt hlt
    have n2 : h'.objs.size ≠ P := Nat.ne_of_gt (Nat.lt_of_lt_of_le (Heap.lt_size hP') hsz)
    rw [upd_ne n1, upd_ne n2]
    exact I.hok.fresh hsz
  | some cv =>
    obtain ⟨c', e, hco⟩ := ha pos cv hc
    subst e
    refine PySem.W.kla_makeFunctionHit (mg := X.mg) (c := c) (P := P) (ps := ps) (closure_ok hfree) I.ok.glob (I.mod.glob.keeps I.bk) hcode (TB.code.keeps I.bk) hP' ht hc bP fun ctv h' tk hx hsz => ?_
    have I1 : Inv X pins σ H { s with heap := h'.push (PySem.W.kla_obj "<lambda>" (X.env.qual ++ "<lambda>") params body scope (cloFrom X.env.cells scope.names []) ((X.mg "__name__").getD .none) c' ctv), toks := tk } := I.kept fun b o e => Heap.get?_push_of_some _ (hx b o e)
    exact h h'.objs.size c' ((X.mg "__name__").getD .none) ctv H _ I1 (.inl ⟨rfl, pos, hc⟩) (Heap.get?_push_size _ rfl) (I.hok.fresh hsz) (nofr _ hsz) hco
end
section
variable {X : Cx}
theorem frs_sub {e : Env} {es : List Env} {a : Addr} (h : a ∈ frs es) : a ∈ frs (e :: es) := by
  unfold frs at h ⊢
  rw [List.filterMap_cons]
  split
  · exact h
  · exact List.mem_cons_of_mem _ h
theorem pe_lamcall1 {TT : (XK → List V → Hp → VK → Prop) → Addr → Addr → V → Hp → VK → Prop} {x a : Str} {ps : List Str} {g c P : Addr} {k fi : Nat} {pg : Arguments} {bg : List Stmt} {sg : Scope} {dV kV doc pm cdv ct oc : Value} {an od : Option Addr} {osl : Array (Option Value)} {Ng : List Str}
    {params : Arguments} {body e2 : Expr} {scope : Scope} {prs : List Str} {t : XK → TE} {t2 : TA} {p lpos pos : Pos} (hg : Gl X x) (hm : X.mg x = some (.ref g)) (hk : PySem.W.keepIn X.K (.ref g) = true)
    (lk : X.K.lookup g = some ⟨oc, od, .func (PySem.W.fnOf x x pg bg sg dV kV doc pm an cdv ct), osl⟩) (hcg : PySem.W.codeIn X.K cdv x = true) (hb : L2.Binds X.K (PySem.W.fnOf x x pg bg sg dV kV doc pm an cdv ct) ps []) (hps : ps.length = 2) (Sg : FnScope Ng ps sg) (hNg : Ng[fi]? = some a) (hva : Vis sg a)
    (hG : GivesTo1 X Ng x sg g cdv bg a fi (X.env.qual ++ "<lambda>") prs.length (fun f w => [f, w]) TT)
    (TB : TabB X.base X.mg c P) (hcode : X.env.code = .ref c) (hr : Room (k + 2) X.A) (L : LamS1 X.env.scope scope prs) (hpr : ∀ p ∈ prs, p ∉ X.N) (hdef : defaultsOf params X.env = ([], []))
    (hbind : ∀ (q : Str) (cl : List (Str × Addr)) (pm cv ctv : Value) (us : List Value), us.length = prs.length → bindArgs (PySem.W.kla_fn "<lambda>" q params body scope cl pm cv ctv) ⟨us, []⟩ = pure (prs.zip us))
    (hbody : ∀ (A : Around) (outer : List Env) (s : Shared) (H : Hp) (E : XK) (f c' : Addr), Room k (A.deeper (lamEnv X scope s.heap.objs.size f c')) → PE (lamCx1 X A outer s H E scope prs f c') body (t E))
    (h2 : PA X [e2] t2) (hpl : (backTo pos (starEach [e2] X.env)).any (·.1) = false := by rfl)
    (hdb : (x == ("__debug__" : Str)) = false := by decide) (hd : (a == ("__debug__" : Str)) = false := by decide) (hcd : (a == ("__classdict__" : Str)) = false := by decide) :
    PE X (.Call (.Name x p) [.Lambda params body scope lpos, e2] [] pos) (tLam1 P (X.env.qual ++ "<lambda>") TT t t2) := by
  refine ⟨fun pins s σ H Q I h => ?_⟩
  obtain ⟨ts, hT, h⟩ := h
  refine wpAny_Call_Name_kw (ld_glob I hg hm ?_ hdb)
  refine PySem.W.callWith_K (h₀ := X.base) I.ok.mod.kin hk ?_ (by rfl) hpl
  show wpAny _ _ (spliced ((false, eval (.Lambda params body scope lpos) X.env) :: backTo pos (starEach [e2] X.env))) _ _ s
  refine Calls.spliced_cons (lam_make3 I TB hcode hT hdef (L.has I.ok) fun f c' pm' ctv H1 s' I1 gr hf hfn hfr hco => ?_)
  have hfl : f ≠ X.env.locals := fun z => by
    obtain ⟨m, ⟨o, es, ep, ho, hdd, _⟩, _⟩ := I1.loc
    rw [← z, hf] at ho
    cases ho
    cases hdd
  have hfs : f ∉ X.fs := fun z => hfr (by
    rcases I1.ok.stk with e | ⟨e, _⟩
    · rw [e]; exact z
    · rw [e]
      exact frs_sub z)
  have I2 : Inv X ((f, PySem.W.kla_obj "<lambda>" (X.env.qual ++ "<lambda>") params body scope (cloFrom X.env.cells scope.names []) pm' c' ctv) :: pins) σ H1 s' := I1.pins_of fun p hp => by
    rcases List.mem_cons.mp hp with e | e
    · rw [e]
      exact ⟨hf, hfn, hfl, hfs, fun v z => by cases z⟩
    · exact I1.pin p (List.mem_append_right _ e)
  refine thn (h2.run pos _ s' σ H1 _ I2 (h H1 c' f gr hco)) fun us s2 ⟨vs, H2, I3, r, w, ew, hco2, hTT⟩ => ?_
  subst ew
  obtain ⟨hf2, hfn2, _⟩ := I3.pin (f, _) (List.mem_append_right _ List.mem_cons_self)
  have I4 : Inv X pins σ H2 s2 := I3.pins_of fun p hp => I3.pin p (List.mem_append_right _ (List.mem_cons_of_mem _ hp))
  cases r with
  | cons r0 rr =>
    cases rr with
    | nil =>
      rename_i u _
      refine ⟨I4.kIn, ?_⟩
      have rc : codeAny (model X.prog X.w) X.A (.call (.ref g) ⟨[.ref f, u], []⟩) (CR C8.CX0 X.stack X.prog X.w H2 s2 Q C8.E0) s2 := by
        refine run_ofS (N := Ng) (ps := ps) (us := [.ref f, u]) (vs := [.ref f, w]) lk hcg Sg hr I4.env0 (hb s2 [.ref f, u] I4.kIn hps.symm) (.cons rfl (.cons r0 .nil)) hps.symm fun hr' => ?_
        obtain ⟨t', ht', hq'⟩ := hG f c' s2 H2 Q w (fun E vs H' Q' => t E (σ ++ vs.map some) H' Q') (fun W pn xe E e es ta p1 p2 tk hW hpa he hpl2 => pe_act1 (i := fi) I4 L hpr hf2 hfn2 hfr (fun us hl => hbind _ _ _ _ _ us hl) tk hW hr' (fun A outer s H hr2 => hbody A outer s H E f c' hr2) hNg hva hpa he hpl2 hd hcd) hco2 hTT
        exact ⟨t', ht'.nox, hq'⟩
      refine wpAny_call (codeAny_mono rc fun r s3 hq => ?_)
      cases r with
      | error e => exact (show False from hq).elim
      | ok fl =>
        cases fl with
        | ret u => exact I4.after hq
        | next => exact False.elim hq
        | brk => exact False.elim hq
        | cont => exact False.elim hq
theorem pe_lamcall2 {TT : (XK → List V → Hp → VK → Prop) → Addr → Addr → V → Hp → VK → Prop} {x a : Str} {ps : List Str} {g c P : Addr} {k fi : Nat} {pg : Arguments} {bg : List Stmt} {sg : Scope} {dV kV doc pm cdv ct oc : Value} {an od : Option Addr} {osl : Array (Option Value)} {Ng : List Str}
    {params : Arguments} {body e2 : Expr} {scope : Scope} {prs : List Str} {t : XK → TE} {t2 : TE} {p lpos pos : Pos} (hg : Gl X x) (hm : X.mg x = some (.ref g)) (hk : PySem.W.keepIn X.K (.ref g) = true)
    (lk : X.K.lookup g = some ⟨oc, od, .func (PySem.W.fnOf x x pg bg sg dV kV doc pm an cdv ct), osl⟩) (hcg : PySem.W.codeIn X.K cdv x = true) (hb : L2.Binds X.K (PySem.W.fnOf x x pg bg sg dV kV doc pm an cdv ct) ps []) (hps : ps.length = 2) (Sg : FnScope Ng ps sg) (hNg : Ng[fi]? = some a) (hva : Vis sg a)
    (hG : GivesTo1 X Ng x sg g cdv bg a fi (X.env.qual ++ "<lambda>") prs.length (fun f w => [w, f]) TT)
    (TB : TabB X.base X.mg c P) (hcode : X.env.code = .ref c) (hr : Room (k + 2) X.A) (L : LamS1 X.env.scope scope prs) (hpr : ∀ p ∈ prs, p ∉ X.N) (hdef : defaultsOf params X.env = ([], []))
    (hbind : ∀ (q : Str) (cl : List (Str × Addr)) (pm cv ctv : Value) (us : List Value), us.length = prs.length → bindArgs (PySem.W.kla_fn "<lambda>" q params body scope cl pm cv ctv) ⟨us, []⟩ = pure (prs.zip us))
    (hbody : ∀ (A : Around) (outer : List Env) (s : Shared) (H : Hp) (E : XK) (f c' : Addr), Room k (A.deeper (lamEnv X scope s.heap.objs.size f c')) → PE (lamCx1 X A outer s H E scope prs f c') body (t E))
    (h2 : PE X e2 t2) (he2 : starEach [e2, .Lambda params body scope lpos] X.env = (false, eval e2 X.env) :: starEach [.Lambda params body scope lpos] X.env := by rfl)
    (hdb : (x == ("__debug__" : Str)) = false := by decide) (hd : (a == ("__debug__" : Str)) = false := by decide) (hcd : (a == ("__classdict__" : Str)) = false := by decide) :
    PE X (.Call (.Name x p) [e2, .Lambda params body scope lpos] [] pos) (tLam2 P (X.env.qual ++ "<lambda>") TT t t2) := by
  refine ⟨fun pins s σ H Q I h => ?_⟩
  refine wpAny_Call_Name_kw (ld_glob I hg hm ?_ hdb)
  refine PySem.W.callWith_K (h₀ := X.base) I.ok.mod.kin hk ?_ he2 (by rfl)
  rw [he2]
  show wpAny _ _ (spliced ((false, eval e2 X.env) :: backTo pos (starEach [.Lambda params body scope lpos] X.env))) _ _ s
  refine Calls.spliced_cons (thn (h2.run pins s σ H _ I h) fun u s0 ⟨w, H0, I0, r0, ts, hT, h⟩ => ?_)
  show wpAny _ _ (spliced ((false, eval (.Lambda params body scope lpos) X.env) :: backTo pos (starEach [] X.env))) _ _ s0
  refine Calls.spliced_cons (lam_make3 I0 TB hcode hT hdef (L.has I0.ok) fun f c' pm' ctv H1 s' I1 gr hf hfn hfr hco => ?_)
  refine Calls.spliced_nil ⟨I1.kIn, ?_⟩
  have rc : codeAny (model X.prog X.w) X.A (.call (.ref g) ⟨[u, .ref f], []⟩) (CR C8.CX0 X.stack X.prog X.w H1 s' Q C8.E0) s' := by
    refine run_ofS (N := Ng) (ps := ps) (us := [u, .ref f]) (vs := [w, .ref f]) lk hcg Sg hr I1.env0 (hb s' [u, .ref f] I1.kIn hps.symm) (.cons r0 (.cons rfl .nil)) hps.symm fun hr' => ?_
    obtain ⟨t', ht', hq'⟩ := hG f c' s' H1 Q w (fun E vs H' Q' => t E (σ ++ vs.map some) H' Q') (fun W pn xe E e es ta p1 p2 tk hW hpa he hpl2 => pe_act1 (i := fi) I1 L hpr hf hfn hfr (fun us hl => hbind _ _ _ _ _ us hl) tk hW hr' (fun A outer s H hr2 => hbody A outer s H E f c' hr2) hNg hva hpa he hpl2 hd hcd) hco (h H1 c' f gr hco)
    exact ⟨t', ht'.nox, hq'⟩
  refine wpAny_call (codeAny_mono rc fun r s3 hq => ?_)
  cases r with
  | error e => exact (show False from hq).elim
  | ok fl =>
    cases fl with
    | ret u => exact I1.after hq
    | next => exact False.elim hq
    | brk => exact False.elim hq
    | cont => exact False.elim hq
end
end DL

namespace DL
open PySem L2 LamX PySem.Spec PyProof.Rows
variable [TC : TabCtx]
/-! ### functions as data -/
open Classical in
noncomputable def gFn (d0 : D) (F : List D → Option D) (fi : Nat) (fs : Ag) : Ex := fun Γ => if Γ[fi]? = some (.sh d0) then (fs Γ).bind F else none
theorem ev_fn {d0 : D} {F : List D → Option D} {fi : Nat} {fs : Ag} {Γ : DEnv} {es : List D} {d : D} (h1 : Γ[fi]? = some (.sh d0)) (h2 : fs Γ = some es) (h3 : F es = some d) : gFn d0 F fi fs Γ = some d := by
  unfold gFn
  rw [if_pos h1, h2]
  exact h3
/-- a call of what was got: a, in the slot fi, with n arguments -/
structure Acts (X : Cx) (a : Str) (fi n : Nat) (d0 : D) (F : List D → Option D) : Prop where
  run : ∀ {e : Expr} {es : List Expr} {fs : Ag} {p1 p2 : Pos}, AN X (e :: es) n fs → starEach (e :: es) X.env = (false, eval e X.env) :: starEach es X.env → (backTo p2 (starEach es X.env)).any (·.1) = false → E X (.Call (.Name a p1) (e :: es) [] p2) (gFn d0 F fi fs)
theorem e_act {X : Cx} {a : Str} {fi n : Nat} {d0 : D} {F : List D → Option D} {e : Expr} {es : List Expr} {fs : Ag} {p1 p2 : Pos} (ac : Acts X a fi n d0 F) (h : AN X (e :: es) n fs) (he : starEach (e :: es) X.env = (false, eval e X.env) :: starEach es X.env := by rfl) (hpl : (backTo p2 (starEach es X.env)).any (·.1) = false := by rfl) :
    E X (.Call (.Name a p1) (e :: es) [] p2) (gFn d0 F fi fs) := ac.run h he hpl
/-- what the making of a lambda asks of the tables -/
structure TabHas (P : Addr) (q : Str) : Prop where
  get : ∀ G H, TC.ti.t G H → ∃ ps : Array Value, H P = some (.tbl ps) ∧ TriplesOk ps.toList ∧ ∀ (pos : Pos) (cv : Value), codeAmong pos ps.toList = some cv → ∃ c, cv = .ref c ∧ G c = some (CodeO c q)
  gn : ∀ G H, TC.ti.t G H → G P = none
  grow : ∀ (G H : Hp) (ps : Array Value) (c' : Addr) (pos : Pos), Same G H → TC.ti.t G H → H P = some (.tbl ps) → H c' = none → TC.ti.t (upd G c' (CodeO c' q)) (upd (upd H P (.tbl (ps ++ #[rawInt pos.line, rawInt pos.col, .ref c']))) c' (CodeO c' q))
/-- the heap after a lambda is made -/
theorem TabHas.ext {P : Addr} {q : Str} (T : TabHas P q) {G H H1 : Hp} {ps : Array Value} {c' : Addr} (gh : Same G H) (t : TC.ti.t G H) (hP : H P = some (.tbl ps)) (kn : ∀ (pos : Pos) (cv : Value), codeAmong pos ps.toList = some cv → ∃ c, cv = .ref c ∧ G c = some (CodeO c q)) (g : Grown H P q ps H1 c') : ∃ G1, Ext G H G1 H1 ∧ G1 c' = some (CodeO c' q) := by
  rcases g with ⟨rfl, pos, hc⟩ | ⟨hn, pos, rfl⟩
  · obtain ⟨c, e, hg⟩ := kn pos _ hc
    cases e
    exact ⟨G, Ext.refl gh, hg⟩
  · have gn : G c' = none := gh.free hn
    have gP := T.gn G H t
    have nPc : P ≠ c' := ne_of_none hP hn
    refine ⟨upd G c' (CodeO c' q), ⟨same_upd gn, fun a o e n => ?_, fun a o e => ?_, fun a e => ?_, fun a e => ?_, fun t => T.grow G H ps c' pos gh t hP hn⟩, upd_same⟩
    · rw [upd_ne (ne_of_none e hn), upd_ne (fun z => n ps (Option.some.inj (e.symm.trans (by rw [z]; exact hP))))]
      exact e
    · by_cases z : a = c'
      · subst z; rw [upd_same] at e ⊢; exact e
      · rw [upd_ne z] at e
        rw [upd_ne z, upd_ne (ne_of_none e gP)]
        exact gh _ _ e
    · by_cases z : a = c'
      · subst z; exact .inr hn
      · rw [upd_ne z] at e; exact .inl e
    · by_cases z : a = c'
      · subst z; rw [upd_same]; simp
      · rw [upd_ne z]
        by_cases z2 : a = P
        · subst z2; rw [upd_same]; simp
        · rw [upd_ne z2]; exact e
/-! the slots that a lambda catches -/
def caps : List Nat → DEnv → Option (List D)
  | [], _ => some []
  | i :: is, Γ => (gV i Γ).bind fun d => (caps is Γ).bind fun ds => some (d :: ds)
def capE (n : Nat) : List Nat → List D → DEnv
  | i :: is, d :: ds => (capE n is ds).set i (.sh d)
  | _, _ => List.replicate n .no
theorem capE_len (n : Nat) : ∀ (is : List Nat) (ds : List D), (capE n is ds).length = n
  | [], _ => by simp [capE]
  | _ :: _, [] => by simp [capE]
  | i :: is, d :: ds => by simp [capE, capE_len n is ds]
theorem caps_len : ∀ {is : List Nat} {Γ : DEnv} {ds : List D}, caps is Γ = some ds → ds.length = is.length
  | [], _, _, h => by cases h; rfl
  | i :: is, Γ, _, h => by
    obtain ⟨d, e1, h⟩ := obind h
    obtain ⟨ds, e2, h⟩ := obind h
    cases h
    simp [caps_len e2]
/-- what the caught slots hold -/
structure Caught (is : List Nat) (σ : L2.St) (vs : List V) : Prop where
  len : vs.length = is.length
  at_ : ∀ (k i : Nat) (v : V), is[k]? = some i → vs[k]? = some v → σ[i]? = some (some v)
theorem Rel.caught {K : PySem.W.Frag} {mg : Str → Option Value} {G0 H0 : Hp} {Z : Zs} {Γ : DEnv} {σ : L2.St} {G H : Hp} (R : Rel K mg G0 H0 Z Γ σ G H) : ∀ {is : List Nat} {ds : List D}, caps is Γ = some ds → ∃ vs, Caught is σ vs ∧ RepL K mg G vs ds
  | [], _, h => by cases h; exact ⟨[], ⟨rfl, fun k i v z => by simp at z⟩, .nil⟩
  | i :: is, _, h => by
    obtain ⟨d, e1, h⟩ := obind h
    obtain ⟨ds, e2, h⟩ := obind h
    cases h
    obtain ⟨vs, c, r⟩ := R.caught e2
    have q : Γ[i]? = some (.sh d) := by
      unfold gV at e1
      split at e1
      · cases e1; assumption
      · cases e1
    obtain ⟨v, h1, h2⟩ := R.sh q
    refine ⟨v :: vs, ⟨by simp [c.len], fun k j w a b => ?_⟩, .cons h2 r⟩
    cases k with
    | zero => simp at a b; subst a; subst b; exact h1
    | succ k => exact c.at_ k j w (by simpa using a) (by simpa using b)
theorem capE_get {n : Nat} : ∀ {is : List Nat} {ds : List D} {j : Nat} {s : Sl}, (capE n is ds)[j]? = some s → s = .no ∨ ∃ (k : Nat) (d : D), is[k]? = some j ∧ ds[k]? = some d ∧ s = .sh d
  | [], _, j, s, h => by
    simp only [capE, List.getElem?_replicate] at h
    split at h
    · cases h; exact .inl rfl
    · cases h
  | _ :: _, [], j, s, h => by
    simp only [capE, List.getElem?_replicate] at h
    split at h
    · cases h; exact .inl rfl
    · cases h
  | i :: is, d :: ds, j, s, h => by
    rw [capE] at h
    rcases set_get h with ⟨e, _, rfl⟩ | ⟨_, q⟩
    · exact .inr ⟨0, d, by simp [e], by simp, rfl⟩
    · rcases capE_get q with z | ⟨k, d', h1, h2, h3⟩
      · exact .inl z
      · exact .inr ⟨k + 1, d', by simpa using h1, by simpa using h2, h3⟩
/-- the slots of a lambda's body: what was caught, and the arguments -/
theorem body_rel {K : PySem.W.Frag} {mg : Str → Option Value} {G H : Hp} {is : List Nat} {σ : L2.St} {vs ws : List V} {ds es : List D} (gh : Same G H) (tb : TC.ti.t G H) (c : Caught is σ vs) (r : RepL K mg G vs ds) (r2 : RepL K mg G ws es) :
    Rel K mg G H ⟨TC.ti.tz, none, TC.ti⟩ (capE σ.length is ds ++ es.map Sl.sh) (σ ++ ws.map some) G H := by
  refine ⟨by simp [capE_len, r2.length], gh, same_n (Same.refl _), Same.refl _, fun a h => .inl h, fun a z => (TC.ti.live tb a z).1, fun _ _ z => (by cases z), tb, fun _ h => h, rfl, fun _ h => h, fun _ _ => False, fun _ _ z => z.elim, fun _ _ _ z => z.elim, fun i s h => ?_⟩
  by_cases hi : i < σ.length
  · rw [List.getElem?_append_left (by rw [capE_len]; exact hi)] at h
    rw [List.getElem?_append_left hi]
    rcases capE_get h with z | ⟨k, d, h1, h2, rfl⟩
    · exact .inl z
    · obtain ⟨v, h3, h4⟩ := r.get k h2
      exact .inr (.inl ⟨v, c.at_ k i v h1 h3, .sh h4⟩)
  · have hi : σ.length ≤ i := Nat.le_of_not_lt hi
    rw [List.getElem?_append_right (by rw [capE_len]; exact hi), capE_len, List.getElem?_map] at h
    rw [List.getElem?_append_right hi, List.getElem?_map]
    cases q : es[i - σ.length]? with
    | none => rw [q] at h; cases h
    | some d =>
      rw [q] at h
      cases h
      obtain ⟨v, h3, h4⟩ := r2.get _ q
      exact .inr (.inl ⟨v, by rw [h3]; rfl, .sh h4⟩)
open Classical in
noncomputable def allF (g : D → Option D) : Option D := if h : ∃ r, ∀ a c q vs ds, g (.fn a c q vs ds) = some r then some h.choose else none
theorem allF_of {g : D → Option D} {r : D} (h : ∀ a c q vs ds, g (.fn a c q vs ds) = some r) : allF g = some r := by
  have ex : ∃ r, ∀ a c q vs ds, g (.fn a c q vs ds) = some r := ⟨r, h⟩
  unfold allF
  rw [dif_pos ex]
  have h1 := ex.choose_spec 0 0 Str.empty [] []
  rw [h 0 0 Str.empty [] []] at h1
  exact h1.symm
theorem allF_some {g : D → Option D} {r : D} (h : allF g = some r) : ∀ a c q vs ds, g (.fn a c q vs ds) = some r := by
  unfold allF at h
  split at h
  · rename_i ex
    cases h
    exact ex.choose_spec
  · cases h
/-- x(lambda ..: b, e2); S: the meaning of x, F what the lambda means -/
noncomputable def gLam1 (S : D → (List D → Option D) → List D → Option D) (is : List Nat) (fb : Ex) (f2 : Ex) : Ex := fun Γ => (caps is Γ).bind fun ds => (f2 Γ).bind fun w => allF fun d0 => S d0 (fun es => fb (capE Γ.length is ds ++ es.map Sl.sh)) [d0, w]
/-- x(e2, lambda ..: b) -/
noncomputable def gLam2 (S : D → (List D → Option D) → List D → Option D) (is : List Nat) (fb : Ex) (f2 : Ex) : Ex := fun Γ => (caps is Γ).bind fun ds => (f2 Γ).bind fun w => allF fun d0 => S d0 (fun es => fb (capE Γ.length is ds ++ es.map Sl.sh)) [w, d0]
theorem ev_lam1 {S : D → (List D → Option D) → List D → Option D} {is : List Nat} {fb f2 : Ex} {Γ : DEnv} {ds : List D} {w r : D} (h1 : caps is Γ = some ds) (h2 : f2 Γ = some w) (h3 : ∀ d0, S d0 (fun es => fb (capE Γ.length is ds ++ es.map Sl.sh)) [d0, w] = some r) : gLam1 S is fb f2 Γ = some r := by
  unfold gLam1
  rw [h1, Option.bind_some, h2, Option.bind_some]
  exact allF_of fun _ _ _ _ _ => h3 _
theorem ev_lam2 {S : D → (List D → Option D) → List D → Option D} {is : List Nat} {fb f2 : Ex} {Γ : DEnv} {ds : List D} {w r : D} (h1 : caps is Γ = some ds) (h2 : f2 Γ = some w) (h3 : ∀ d0, S d0 (fun es => fb (capE Γ.length is ds ++ es.map Sl.sh)) [w, d0] = some r) : gLam2 S is fb f2 Γ = some r := by
  unfold gLam2
  rw [h1, Option.bind_some, h2, Option.bind_some]
  exact allF_of fun _ _ _ _ _ => h3 _
/-- a def that gets a function: the parameter a, in the slot fi, called with n arguments -/
structure CalF (P : Program) (w : World) (K : PySem.W.Frag) (mg : Str → Option Value) (base : Heap) (x : Str) (L : Nat) (Ng ps : List Str) (a : Str) (fi n : Nat) (st : Stmt) (B : D → (List D → Option D) → Sm) : Prop where
  ex : ∃ g fd, Fun K x x st g fd ∧ mg x = some (.ref g) ∧ PySem.W.keepIn K (.ref g) = true ∧ Binds K fd ps [] ∧ FnScope Ng ps (defScope st) ∧ Ng[fi]? = some a ∧ Vis (defScope st) a ∧ ps.length = 2 ∧
    ∀ (cdv : Value) (A : Around) (outer : List PySem.Env) (s : Shared) (H : Hp) (E : XK) (d0 : D) (F : List D → Option D), Room L (A.deeper (envOfC x (defScope st) s.heap.objs.size g cdv)) →
      Acts (cxOf CX0 P w K mg base Ng x (defScope st) g cdv A outer s H E).nox a fi n d0 F → Ss (cxOf CX0 P w K mg base Ng x (defScope st) g cdv A outer s H E).nox (defBody st) (B d0 F)
/-- what such a def makes of the lambda's reading -/
def TTd (K : PySem.W.Frag) (mg : Str → Option Value) (q : Str) (mkD : D → D → List D) (N : Nat) (B : D → (List D → Option D) → Sm) : (XK → List V → Hp → VK → Prop) → Addr → Addr → V → Hp → VK → Prop := fun tl f c' w H Q =>
  ∃ (G : Hp) (vs : List V) (ds : List D) (dw r : D) (F : List D → Option D), Same G H ∧ TC.ti.t G H ∧ G c' = some (CodeO c' q) ∧ RepL K mg G vs ds ∧ Rep K mg G w dw ∧
    (∀ (G' H' : Hp) (ws : List V) (es : List D) (r' : D) (Q' : VK), Same G' H' → TC.ti.t G' H' → RepL K mg G' vs ds → RepL K mg G' ws es → F es = some r' → (∀ G'' H'' v, Ext G' H' G'' H'' → Rep K mg G'' v r' → Q' v H'') → tl C8.E0 ws H' Q') ∧
    runB N (B (.fn f c' q vs ds) F) (mkD (.fn f c' q vs ds) dw) = some r ∧ ∀ G' H' v, Ext G H G' H' → Rep K mg G' v r → Q v H'
theorem gives_of {X : Cx} {Ng : List Str} {x a q : Str} {st : Stmt} {g : Addr} {cdg : Value} {fi n : Nat} {mk : V → V → List V} {mkD : D → D → List D} {B : D → (List D → Option D) → Sm} {k : Nat}
    (hmk : ∀ {K : PySem.W.Frag} {mg : Str → Option Value} {G : Hp} {f w : V} {d e : D}, Rep K mg G f d → Rep K mg G w e → RepL K mg G (mk f w) (mkD d e))
    (hr : ∀ s : Shared, Room k (X.A.deeper (envOfC x (defScope st) s.heap.objs.size g cdg)))
    (h : ∀ (cdv : Value) (A : Around) (outer : List PySem.Env) (s : Shared) (H : Hp) (E : XK) (d0 : D) (F : List D → Option D), Room k (A.deeper (envOfC x (defScope st) s.heap.objs.size g cdv)) →
      Acts (cxOf CX0 X.prog X.w X.K X.mg X.base Ng x (defScope st) g cdv A outer s H E).nox a fi n d0 F → Ss (cxOf CX0 X.prog X.w X.K X.mg X.base Ng x (defScope st) g cdv A outer s H E).nox (defBody st) (B d0 F)) :
    GivesTo1 X Ng x (defScope st) g cdg (defBody st) a fi q n mk (TTd X.K X.mg q mkD Ng.length B) := by
  intro f c' s H Q w tl act hc hT
  obtain ⟨G, vs, ds, dw, r, F, gh, tb, gc, rl, rw', hl, hB, k'⟩ := hT
  have rf : Rep X.K X.mg G (.ref f) (.fn f c' q vs ds) := .fn gc rl
  have ac : Acts (cxOf CX0 X.prog X.w X.K X.mg X.base Ng x (defScope st) g cdg X.A X.stack s H C8.E0).nox a fi n (.fn f c' q vs ds) F := by
    refine ⟨fun {e es fs p1 p2} ha he hpl => ?_⟩
    obtain ⟨ta, h1, h2⟩ := ha.a.ex
    have pe := act (fun _ _ _ _ => False) [] (fun _ _ => False) C8.E0 e es ta p1 p2 takes0 (fun _ _ _ _ z => z) h1 he hpl
    refine ⟨⟨_, pe, fun G0 H0 Z Γ σ G1 H1 Q1 d R hf k1 => ?_⟩⟩
    unfold gFn at hf
    split at hf
    · rename_i hd0
      obtain ⟨es', e1, hf⟩ := obind hf
      obtain ⟨v0, e2, r2⟩ := R.sh hd0
      cases r2 with
      | fn hc2 rl2 =>
        refine ⟨e2, h2 G0 H0 Z Γ σ G1 H1 _ es' R e1 fun G2 H2 ws x2 r3 => ⟨by rw [r3.length, ha.n Γ es' e1], x2.gh _ _ (x2.gg _ _ hc2), ?_⟩⟩
        exact hl G2 H2 ws es' d _ x2.gh ((R.ext x2).tbc) (rl2.mono x2.gg) r3 hf fun G3 H3 v x3 r4 => k1 G3 H3 v (x2.trans x3) r4
    · cases hf
  obtain ⟨t, h1, h2⟩ := (h cdg X.A X.stack s H C8.E0 (.fn f c' q vs ds) F (hr s) ac).ex
  refine ⟨t, h1, ?_⟩
  obtain ⟨r1, e1, hf⟩ := obind hB
  refine h2 G H _ _ _ G H _ r1 (start_rel gh tb (hmk rf rw')) e1 ?_
  cases r1 with
  | rt d' => cases hf; exact fun G' H' v x r => k' G' H' v x r
  | nx Γ => cases hf; exact fun σ' G' H' R => k' G' H' _ R.end .non
  | rm d s => cases hf
  | ro s => cases hf
  | bk Γ => cases hf
  | ct Γ => cases hf
/-- the name of a lambda in the def x -/
@[irreducible] def lamQ (x : Str) : Str := x ++ ".<locals>." ++ "<lambda>"
theorem lamq_of {CX : CXT} {P : Program} {w : World} {K : PySem.W.Frag} {mg : Str → Option Value} {base : Heap} {N : List Str} {x : Str} {sc : Scope} {f : Addr} {cd : Value} {A : Around} {outer : List Env} {s : Shared} {H : Hp} {E : XK} : (cxOf CX P w K mg base N x sc f cd A outer s H E).nox.env.qual ++ "<lambda>" = lamQ x := by
  unfold lamQ
  rfl
theorem e_lam1 {X : Cx} {x a : Str} {ps : List Str} {P c : Addr} {L k fi : Nat} {Ng : List Str} {st : Stmt} {B : D → (List D → Option D) → Sm} {params : Arguments} {body e2 : Expr} {scope : Scope} {prs : List Str} {fb f2 : Ex} {p lpos pos : Pos} (is : List Nat)
    (cf : CalF X.prog X.w X.K X.mg X.base x L Ng ps a fi prs.length st B) (TB : TabB X.base X.mg c P) (hcode : X.env.code = .ref c) {q : Str} (hq : X.env.qual ++ "<lambda>" = q) (T : TabHas P q) (hr : Room (k + 2) X.A) (hk : L ≤ k) (L1 : LamS1 X.env.scope scope prs)
    (hbody : ∀ (A : Around) (outer : List Env) (s : Shared) (H : Hp) (E' : XK) (f c' : Addr), Room k (A.deeper (lamEnv X scope s.heap.objs.size f c')) → E (lamCx1 X A outer s H E' scope prs f c') body fb)
    (h2 : E X e2 f2) (hpr : ∀ p ∈ prs, p ∉ X.N := by decide) (hdef : defaultsOf params X.env = ([], []) := by rfl)
    (hbind : ∀ (q : Str) (cl : List (Str × Addr)) (pm cv ctv : Value) (us : List Value), us.length = prs.length → bindArgs (PySem.W.kla_fn "<lambda>" q params body scope cl pm cv ctv) ⟨us, []⟩ = pure (prs.zip us))
    (hg : Gl X x := by rfl) (hs2 : starEach [e2] X.env = (false, eval e2 X.env) :: starEach [] X.env := by rfl) (hpl : (backTo pos (starEach [e2] X.env)).any (·.1) = false := by rfl)
    (hdb : (x == ("__debug__" : Str)) = false := by decide) (hd : (a == ("__debug__" : Str)) = false := by decide) (hcd : (a == ("__classdict__" : Str)) = false := by decide) :
    E X (.Call (.Name x p) [.Lambda params body scope lpos, e2] [] pos) (gLam1 (fun d0 F => runB Ng.length (B d0 F)) is fb f2) := by
  subst hq
  obtain ⟨g, fd, F, hm, hkp, hb, Sg, hNg, hva, hps, hB⟩ := cf.ex
  obtain ⟨⟨oc, od, kV, doc, pm, an, cdv, ct, osl, rfl, lk, hcd'⟩, _⟩ := F
  obtain ⟨t, t1, t2⟩ := h2.ex
  have hr2 : Room (k + 1 + 1) X.A := hr
  have pe := pe_lamcall1 (p := p) (lpos := lpos) (t := fun _ => tEx X.K X.mg fb) (t2 := tCons t tNil) hg hm hkp lk hcd' hb hps Sg hNg hva (gives_of (q := X.env.qual ++ "<lambda>") (mk := fun f w => [f, w]) (mkD := fun d e => [d, e]) (fun a b => .cons a (.cons b .nil)) (fun s => (hr2.deeper _).mono (Nat.le_succ_of_le hk)) hB) TB hcode hr L1 hpr hdef hbind (fun A outer s H E' f c' hr' => (hbody A outer s H E' f c' hr').pe) (pa_cons t1 pa_nil hs2) hpl hdb hd hcd
  refine ⟨⟨_, pe, fun G0 H0 Z Γ σ G H Q r R hf kk => ?_⟩⟩
  obtain ⟨ds, e1, hf⟩ := obind hf
  obtain ⟨w, e2, hf⟩ := obind hf
  have hall := allF_some hf
  obtain ⟨ts, hP, tri, kn⟩ := T.get G H R.tbc
  obtain ⟨vs, ca, rl⟩ := R.caught e1
  refine ⟨ts, ⟨hP, tri, fun pos cv hc => ?_⟩, fun H1 c' f gr _ => ?_⟩
  · obtain ⟨c0, a1, a2⟩ := kn pos cv hc
    exact ⟨c0, a1, R.gh _ _ a2⟩
  · obtain ⟨G1, x1, gc⟩ := T.ext R.gh R.tbc hP kn gr
    refine t2 G0 H0 Z Γ σ G1 H1 _ w (R.ext x1) e2 fun G2 H2 v x2 r2 => ?_
    refine ⟨v, rfl, x2.gh _ _ (x2.gg _ _ gc), G2, vs, ds, w, r, _, x2.gh, ((R.ext x1).ext x2).tbc, x2.gg _ _ gc, (rl.mono x1.gg).mono x2.gg, r2, fun G' H' ws es r' Q' gh tb rl' re hF k => ?_, hall _ _ _ _ _, fun G' H' v x3 r3 => kk G' H' v ((x1.trans x2).trans x3) r3⟩
    refine ⟨G', H', _, _, G', r', body_rel gh tb ca rl' re, ?_, k⟩
    rw [R.len]
    exact hF
theorem e_lam2 {X : Cx} {x a : Str} {ps : List Str} {P c : Addr} {L k fi : Nat} {Ng : List Str} {st : Stmt} {B : D → (List D → Option D) → Sm} {params : Arguments} {body e2 : Expr} {scope : Scope} {prs : List Str} {fb f2 : Ex} {p lpos pos : Pos} (is : List Nat)
    (cf : CalF X.prog X.w X.K X.mg X.base x L Ng ps a fi prs.length st B) (TB : TabB X.base X.mg c P) (hcode : X.env.code = .ref c) {q : Str} (hq : X.env.qual ++ "<lambda>" = q) (T : TabHas P q) (hr : Room (k + 2) X.A) (hk : L ≤ k) (L1 : LamS1 X.env.scope scope prs)
    (hbody : ∀ (A : Around) (outer : List Env) (s : Shared) (H : Hp) (E' : XK) (f c' : Addr), Room k (A.deeper (lamEnv X scope s.heap.objs.size f c')) → E (lamCx1 X A outer s H E' scope prs f c') body fb)
    (h2 : E X e2 f2) (hpr : ∀ p ∈ prs, p ∉ X.N := by decide) (hdef : defaultsOf params X.env = ([], []) := by rfl)
    (hbind : ∀ (q : Str) (cl : List (Str × Addr)) (pm cv ctv : Value) (us : List Value), us.length = prs.length → bindArgs (PySem.W.kla_fn "<lambda>" q params body scope cl pm cv ctv) ⟨us, []⟩ = pure (prs.zip us))
    (hg : Gl X x := by rfl) (hs2 : starEach [e2, .Lambda params body scope lpos] X.env = (false, eval e2 X.env) :: starEach [.Lambda params body scope lpos] X.env := by rfl)
    (hdb : (x == ("__debug__" : Str)) = false := by decide) (hd : (a == ("__debug__" : Str)) = false := by decide) (hcd : (a == ("__classdict__" : Str)) = false := by decide) :
    E X (.Call (.Name x p) [e2, .Lambda params body scope lpos] [] pos) (gLam2 (fun d0 F => runB Ng.length (B d0 F)) is fb f2) := by
  subst hq
  obtain ⟨g, fd, F, hm, hkp, hb, Sg, hNg, hva, hps, hB⟩ := cf.ex
  obtain ⟨⟨oc, od, kV, doc, pm, an, cdv, ct, osl, rfl, lk, hcd'⟩, _⟩ := F
  obtain ⟨t, t1, t2⟩ := h2.ex
  have hr2 : Room (k + 1 + 1) X.A := hr
  have pe := pe_lamcall2 (p := p) (lpos := lpos) (pos := pos) (t := fun _ => tEx X.K X.mg fb) hg hm hkp lk hcd' hb hps Sg hNg hva (gives_of (q := X.env.qual ++ "<lambda>") (mk := fun f w => [w, f]) (mkD := fun d e => [e, d]) (fun a b => .cons b (.cons a .nil)) (fun s => (hr2.deeper _).mono (Nat.le_succ_of_le hk)) hB) TB hcode hr L1 hpr hdef hbind (fun A outer s H E' f c' hr' => (hbody A outer s H E' f c' hr').pe) t1 hs2 hdb hd hcd
  refine ⟨⟨_, pe, fun G0 H0 Z Γ σ G H Q r R hf kk => ?_⟩⟩
  obtain ⟨ds, e1, hf⟩ := obind hf
  obtain ⟨w, e2, hf⟩ := obind hf
  have hall := allF_some hf
  refine t2 G0 H0 Z Γ σ G H _ w R e2 fun Ga Ha v x0 r2 => ?_
  have R0 := R.ext x0
  obtain ⟨ts, hP, tri, kn⟩ := T.get Ga Ha R0.tbc
  obtain ⟨vs, ca, rl⟩ := R0.caught e1
  refine ⟨ts, ⟨hP, tri, fun pos cv hc => ?_⟩, fun H1 c' f gr _ => ?_⟩
  · obtain ⟨c0, a1, a2⟩ := kn pos cv hc
    exact ⟨c0, a1, R0.gh _ _ a2⟩
  · obtain ⟨G1, x1, gc⟩ := T.ext R0.gh R0.tbc hP kn gr
    refine ⟨G1, vs, ds, w, r, _, x1.gh, (R0.ext x1).tbc, gc, rl.mono x1.gg, r2.mono x1.gg, fun G' H' ws es r' Q' gh tb rl' re hF k => ?_, hall _ _ _ _ _, fun G' H' v x3 r3 => kk G' H' v ((x0.trans x1).trans x3) r3⟩
    refine ⟨G', H', _, _, G', r', body_rel gh tb ca rl' re, ?_, k⟩
    rw [R.len]
    exact hF
end DL

namespace DL
open PySem L2 LamX PySem.Spec PyProof.Rows
/-! ### the tables of a program's lambdas -/
def tabI (T : List (Addr × Str)) : TabI where
  tz := fun a => ∃ p ∈ T, p.1 = a
  t := fun G H => ∀ p ∈ T, G p.1 = none ∧ ∃ ps : Array Value, H p.1 = some (.tbl ps) ∧ TriplesOk ps.toList ∧ ∀ (pos : Pos) (cv : Value), codeAmong pos ps.toList = some cv → ∃ c, cv = .ref c ∧ G c = some (CodeO c p.2)
  keep := fun {G H G' H'} t g k n p hp => by
    obtain ⟨h0, ps, h1, h2, h3⟩ := t p hp
    refine ⟨n _ ⟨p, hp, rfl⟩ h0, ps, by rw [k _ ⟨p, hp, rfl⟩]; exact h1, h2, fun pos cv hc => ?_⟩
    obtain ⟨c, e1, e2⟩ := h3 pos cv hc
    exact ⟨c, e1, g _ _ e2⟩
  live := fun {G H} t a ⟨p, hp, e⟩ => by
    obtain ⟨h0, ps, h1, _⟩ := t p hp
    subst e
    exact ⟨by rw [h1]; simp, h0⟩
  tbl := fun {G H} t a ⟨p, hp, e⟩ => by
    obtain ⟨h0, ps, h1, _⟩ := t p hp
    subst e
    exact ⟨ps, h1⟩
  less := fun {G G' H} t s k p hp => by
    obtain ⟨h0, ps, h1, h2, h3⟩ := t p hp
    refine ⟨?_, ps, h1, h2, fun pos cv hc => ?_⟩
    · cases q : G' p.1 with
      | none => rfl
      | some o => rw [s _ _ q] at h0; cases h0
    · obtain ⟨c, e1, e2⟩ := h3 pos cv hc
      refine ⟨c, e1, ?_⟩
      rcases k _ _ e2 with z | z
      · exact z
      · rcases z with ⟨vs, z⟩ | ⟨C, dx, fs, z⟩ | ⟨kvs, z⟩ <;> cases z
abbrev tabCx (T : List (Addr × Str)) : TabCtx := ⟨tabI T⟩
theorem tabHas {T : List (Addr × Str)} {P : Addr} {q : Str} (hm : (P, q) ∈ T) (nd : (T.map (·.1)).Nodup) : @TabHas (tabCx T) P q := by
  have uniq : ∀ p ∈ T, p.1 = P → p.2 = q := fun p hp e => by
    have key : ∀ (T : List (Addr × Str)), (T.map (·.1)).Nodup → ∀ p1 ∈ T, ∀ p2 ∈ T, p1.1 = p2.1 → p1 = p2 := fun T => by
      induction T with
      | nil => intro _ p1 h; cases h
      | cons x T ih =>
        intro nd p1 h1 p2 h2 e
        rw [List.map_cons, List.nodup_cons] at nd
        rcases List.mem_cons.mp h1 with a | a <;> rcases List.mem_cons.mp h2 with b | b
        · rw [a, b]
        · subst a; exact absurd (List.mem_map.mpr ⟨p2, b, e.symm⟩) nd.1
        · subst b; exact absurd (List.mem_map.mpr ⟨p1, a, e⟩) nd.1
        · exact ih nd.2 p1 a p2 b e
    rw [key T nd p hp (P, q) hm e]
  refine @TabHas.mk (tabCx T) P q (fun G H t => ?_) (fun G H t => (t _ hm).1) fun G H ps c' pos gh t hP hn p hp => ?_
  · obtain ⟨_, ps, h⟩ := t _ hm
    exact ⟨ps, h⟩
  · obtain ⟨g0, ps1, h1, h2, h3⟩ := t p hp
    have gn : G c' = none := gh.free hn
    have nc : p.1 ≠ c' := ne_of_none h1 hn
    by_cases e : p.1 = P
    · rw [e] at h1 g0 nc ⊢
      rw [hP] at h1
      cases h1
      have eL : (ps ++ #[rawInt pos.line, rawInt pos.col, .ref c']).toList = ps.toList ++ [rawInt pos.line, rawInt pos.col, .ref c'] := by simp
      refine ⟨by rw [upd_ne nc]; exact g0, _, by rw [upd_ne nc, upd_same], by rw [eL]; exact PySem.TriplesOk_snoc _ _ _ _ h2, fun p' cv hc => ?_⟩
      rw [eL] at hc
      rcases among_app _ h2 hc with z | z
      · obtain ⟨c0, e1, e2⟩ := h3 p' cv z
        exact ⟨c0, e1, by rw [upd_ne (ne_of_none e2 gn)]; exact e2⟩
      · exact ⟨c', z, by rw [upd_same, uniq p hp e]⟩
    · refine ⟨by rw [upd_ne nc]; exact g0, ps1, by rw [upd_ne nc, upd_ne e]; exact h1, h2, fun p' cv hc => ?_⟩
      obtain ⟨c0, e1, e2⟩ := h3 p' cv hc
      exact ⟨c0, e1, by rw [upd_ne (ne_of_none e2 gn)]; exact e2⟩
/-! ### a def whose code object is known -/
section
variable {P : Program} {w : World} {K : PySem.W.Frag} {mg : Str → Option Value} {base : Heap}
theorem Fun.okC {x qual : Str} {st : Stmt} {f c : Addr} {fd : FuncData} {N ps : List Str} {k : Nat} {sp : Sp} (F : Fun K x qual st f fd) (hcode : fd.code = .ref c) (S : FnScope N ps (defScope st)) (len : ∀ vs H Q E, sp vs H Q E → vs.length = ps.length)
    (hbody : ∀ (A : Around) (outer : List Env) (s : Shared) (H : Hp) (vs : List V) (Q : VK) (E : XK), Room k (A.deeper (envOfC qual (defScope st) s.heap.objs.size f (.ref c))) → sp vs H Q E →
      ∃ t, PSs (cxOf CX0 P w K mg base N qual (defScope st) f (.ref c) A outer s H E).nox (defBody st) t ∧ t { nx := fun _ H' => Q .non H', rt := Q } (start N vs) H) : FnOk P w K mg base CX0 (k + 1) f fd ps sp := by
  obtain ⟨⟨oc, od, kV, doc, pm, an, cdv, ct, osl, rfl, lk, hcd⟩, _⟩ := F
  have e : cdv = .ref c := hcode
  subst e
  refine fn_of lk hcd S len fun A outer s H vs Q E hr hsp => ?_
  obtain ⟨t, h, q⟩ := hbody A outer s H vs Q E hr hsp
  exact ⟨t, h.nox, q⟩
variable [TC : TabCtx]
theorem def_okC {x qual : Str} {st : Stmt} {f c : Addr} {fd : FuncData} {N ps : List Str} {k : Nat} {B : Sm} (F : Fun K x qual st f fd) (hcode : fd.code = .ref c) (S : FnScope N ps (defScope st))
    (hbody : ∀ (A : Around) (outer : List PySem.Env) (s : Shared) (H : Hp) (E : XK), Room k (A.deeper (PyProof.Rows.envOfC qual (defScope st) s.heap.objs.size f (.ref c))) →
      Ss (cxOf CX0 P w K mg base N qual (defScope st) f (.ref c) A outer s H E).nox (defBody st) B) : FnOk P w K mg base CX0 (k + 1) f fd ps (spD K mg ps.length (runB N.length B)) := by
  refine Fun.okC F hcode S (fun vs H Q E h => ?_) (fun A outer s H vs Q E hr h => ?_)
  · obtain ⟨G, ds, d, hl, _⟩ := h
    exact hl
  · obtain ⟨G, ds, d, hl, gh, tb, r, hf, k'⟩ := h
    obtain ⟨t, h1, h2⟩ := (hbody A outer s H E hr).ex
    refine ⟨t, h1, ?_⟩
    obtain ⟨r1, e1, hf⟩ := obind hf
    refine h2 G H _ _ _ G H _ r1 (start_rel gh tb r) e1 ?_
    cases r1 with
    | rt d' => cases hf; exact fun G' H' v x r => k' G' H' v x r
    | nx Γ => cases hf; exact fun σ' G' H' R => k' G' H' _ R.end .non
    | rm d s => cases hf
    | ro s => cases hf
    | bk Γ => cases hf
    | ct Γ => cases hf
theorem def_okNC {x qual : Str} {st : Stmt} {f c : Addr} {fd : FuncData} {N ps : List Str} {k : Nat} {B : Sm} (F : Fun K x qual st f fd) (hcode : fd.code = .ref c) (S : FnScope N ps (defScope st))
    (hbody : ∀ (A : Around) (outer : List PySem.Env) (s : Shared) (H : Hp) (E : XK), Room k (A.deeper (PyProof.Rows.envOfC qual (defScope st) s.heap.objs.size f (.ref c))) →
      Ss (cxOf CX0 P w K mg base N qual (defScope st) f (.ref c) A outer s H E).nox (defBody st) B) : FnOk P w K mg base CX0 (k + 1) f fd ps (spN K mg ps.length (runN N.length B)) := by
  refine Fun.okC F hcode S (fun vs H Q E h => ?_) (fun A outer s H vs Q E hr h => ?_)
  · obtain ⟨G, ds, d, hl, _⟩ := h
    exact hl
  · obtain ⟨G, ds, sl, hl, gh, tb, r, hf, k'⟩ := h
    obtain ⟨t, h1, h2⟩ := (hbody A outer s H E hr).ex
    refine ⟨t, h1, ?_⟩
    obtain ⟨r1, e1, hf⟩ := obind hf
    refine h2 G H _ _ _ G H _ r1 (start_rel gh tb r) e1 ?_
    cases r1 with
    | rt d' => cases hf; exact fun G' H' v x r => k' G' H' v (fun _ => False) x (.sh r) fun _ z => z.elim
    | ro s' => cases hf; exact fun G' H' v F' x h f => k' G' H' v F' x h f
    | nx Γ => cases hf; exact fun σ' G' H' R => k' G' H' _ (fun _ => False) R.end (.sh .non) fun _ z => z.elim
    | rm d s => cases hf
    | bk Γ => cases hf
    | ct Γ => cases hf
end
/-! ### the law's own start, with tables -/
def spLawT (K : PySem.W.Frag) (T : List (Addr × Str)) : Sp := fun vs H Q _ => ∃ (a : Addr) (ns : List Int), vs = [.ref a] ∧ SqL K H a (ns.map V.int) ∧ ns.length ≤ 63 ∧ (∀ p ∈ T, H p.1 = some (.tbl #[])) ∧ ∀ H', Q (.bl true) H'
theorem law_startT {P : Program} {w : World} {K : PySem.W.Frag} {mg : Str → Option Value} {base : Heap} {k : Nat} {fa : Addr} {fd : FuncData} {x : Str} {S : List D → Option D} (T : List (Addr × Str))
    (h : @FnOk P w K mg base CX0 k fa fd [x] (@spD (tabCx T) K mg 1 S)) (hS : ∀ ns : List Int, ns.length ≤ 63 → S [.scr ns] = some (.bl true)) : FnOk P w K mg base CX0 k fa fd [x] (spLawT K T) := by
  refine h.imp fun vs H Q E ⟨a, ns, e, hs, hl, hT, kk⟩ => ?_
  subst e
  let G : Hp := fun b => if b ∈ T.map (·.1) then none else H b
  have gh : Same G H := fun b o e => by
    have e : (if b ∈ T.map (·.1) then none else H b) = some o := e
    split at e
    · cases e
    · exact e
  have gt : ∀ p ∈ T, G p.1 = none := fun p hp => if_pos (List.mem_map.mpr ⟨p, hp, rfl⟩)
  have go : ∀ b o, H b = some o → (∀ ps, o ≠ .tbl ps) → G b = some o := fun b o e n => by
    refine (if_neg fun z => ?_).trans e
    obtain ⟨p, hp, ep⟩ := List.mem_map.mp z
    have := hT p hp
    rw [ep, e] at this
    cases this
    exact n _ rfl
  have hs' : SqL K G a (ns.map V.int) := by
    rcases hs with (q | ⟨o, q⟩) | q
    · exact .inl (.inl (go _ _ q nofun))
    · exact .inl (.inr ⟨o, go _ _ q nofun⟩)
    · exact .inr q
  refine ⟨G, [.scr ns], .bl true, rfl, gh, fun p hp => ⟨gt p hp, #[], hT p hp, True.intro, fun pos cv hc => ?_⟩, .cons (.scr hs') .nil, hS ns hl, fun G' H' v x r => by cases r; exact kk H'⟩
  have z : codeAmong pos [] = some cv := hc
  simp [codeAmong] at z
end DL

namespace DL
open PySem L2
variable [TC : TabCtx]
/-! ### an object that is new is written, and forgotten -/
theorem Ext.put {G H G1 H1 : Hp} {p : Addr} {o : HO} (x : Ext G H G1 H1) (hp : H p = Option.none) (gp : G1 p = Option.none) : Ext G H G1 (upd H1 p o) :=
  ⟨x.gg, fun a u q n => by rw [upd_ne (ne_of_none q hp)]; exact x.hh a u q n, fun a u q => by rw [upd_ne (ne_of_none q gp)]; exact x.gh a u q, x.new, fun a h => by
    by_cases z : a = p
    · subst z; rw [upd_same]; simp
    · rw [upd_ne z]; exact x.hn a h, fun t => TC.ti.keep (x.tb t) (Same.refl _) (fun a h => upd_ne (fun z => (TC.ti.live t a h).1 (by rw [z]; exact hp))) (fun _ _ g => g)⟩
section
variable {K : PySem.W.Frag} {mg : Str → Option Value} {G H : Hp}
theorem HdL.get : ∀ {vs : List V} {F : Addr → Prop} {ss : List Sl} (i : Nat) {s : Sl}, HdL K mg G H vs F ss → ss[i]? = some s → ∃ v F1, vs[i]? = some v ∧ Hd K mg G H v F1 s ∧ ∀ a, F1 a → F a
  | _, _, _, _, _, .nil, h => by simp at h
  | _, _, _, 0, _, .cons h r s1 s2 d, e => by simp at e; subst e; exact ⟨_, _, rfl, h, s1⟩
  | _, _, _, i + 1, _, .cons h r s1 s2 d, e => by
    obtain ⟨v, F1, e1, e2, e3⟩ := HdL.get i r (by simpa using e)
    exact ⟨v, F1, by simpa using e1, e2, fun a x => s2 a (e3 a x)⟩
theorem HdL.snocU : ∀ {vs : List V} {F F1 : Addr → Prop} {ss : List Sl} {v : V} {s : Sl}, HdL K mg G H vs F ss → Hd K mg G H v F1 s → (∀ a, F1 a → ¬ F a) → HdL K mg G H (vs ++ [v]) (fun a => F a ∨ F1 a) (ss ++ [s])
  | _, _, _, _, _, _, .nil, q, _ => .cons q (HdL.nil (F := fun _ => False)) (fun _ x => .inr x) (fun _ x => x.elim) (fun _ _ x => x)
  | _, _, _, _, _, _, .cons h r s1 s2 d, q, dj => by
    refine .cons h (HdL.snocU r q fun a x y => dj a x (s2 a y)) (fun a x => .inl (s1 a x)) (fun a x => ?_) fun a x y => ?_
    · rcases x with x | x
      · exact .inl (s2 a x)
      · exact .inr x
    · rcases y with y | y
      · exact d a x y
      · exact dj a y (s1 a x)
end
section
variable {X : Cx} {e o : Expr} {f : Ex} {sx : Sx} {pos pos' : Pos}
def sAppX (sx : Sx) (f : Ex) : Sm := fun Γ => (sx Γ).bind fun s => match s with
  | .ow xs => (f Γ).bind fun _ => if xs.length < 1000000 then some (.nx Γ) else none
  | _ => none
/-- o.append(e), o being new -/
theorem s_appX {ap : Pos} (ho : EN X o sx) (he : E X e f) (hst : starEach [e] X.env = (false, eval e X.env) :: starEach [] X.env := by rfl)
    (hpe : ∀ {r : V → List V → Hp → VK → Prop} {to te : TE}, MtR X "list.append" r → PE X o to → PE X e te → PE X (.Call (.Attribute o "append" ap) [e] [] pos) (tBM X.K "list" r to (tCons te tNil)) := by intro r to te hm ho hp; exact pe_bm PySem.F.plainAttrs_list PySem.F.slot_list_append PySem.F.type_list_append hm ho (pa_cons hp pa_nil))
    (hs : swapsWith (.Call (.Attribute o "append" ap) [e] [] pos) none pos'.line X.env = pure false := by rfl) : S X (.Expr (.Call (.Attribute o "append" ap) [e] [] pos) pos') (sAppX sx f) := by
  obtain ⟨t, h1, h2⟩ := he.ex
  obtain ⟨u, u1, u2⟩ := ho.ex
  refine ⟨⟨_, ps_expr (hpe mt_append u1 h1) hs, fun G0 H0 Z Γ σ G H D r R hf k => ?_⟩⟩
  obtain ⟨s, e1, hf⟩ := obind hf
  cases s with
  | ow xs =>
    obtain ⟨d, e2, hf⟩ := obind hf
    split at hf
    · rename_i hl
      cases hf
      refine u2 G0 H0 Z Γ σ G H _ _ R e1 fun G1 H1 v F x1 r1 fr => ?_
      cases r1 with
      | ow fp hp rl =>
        rename_i p vs
        obtain ⟨g1, g2, g3⟩ := fr p fp
        refine ⟨.inl ⟨rfl, _, SqL.of hp⟩, ?_⟩
        refine h2 G0 H0 Z Γ σ G1 H1 _ d (R.ext x1) e2 fun G2 H2 w x2 r2 => ?_
        refine ⟨p, vs, w, rfl, rfl, x2.hh _ _ hp nofun, ?_, ?_⟩
        · rw [rl.length]; exact Nat.lt_of_lt_of_le hl line_big
        · exact k σ G2 _ (R.ext ((x1.trans x2).put g2 (x2.none g1 g3)))
    · cases hf
  | _ => cases hf
def sAppXi (sx : Sx) (i : Int) (f : Ex) : Sm := fun Γ => (sx Γ).bind fun s => match s with
  | .ol ss => (atI ss i).bind fun s => match s with
    | .ow xs => (f Γ).bind fun _ => if xs.length < 1000000 then some (.nx Γ) else none
    | _ => none
  | _ => none
theorem atI_nth {α β : Type} {xs : List α} {ys : List β} (hl : xs.length = ys.length) {i : Int} {y : β} (h : atI ys i = some y) : ∃ n : Nat, ys[n]? = some y ∧ atI xs i = xs[n]? := by
  unfold atI at h ⊢
  rw [← hl] at h
  obtain ⟨n, e, h⟩ := obind h
  exact ⟨n, h, by rw [e]; rfl⟩
/-- o[i].append(e), o being new -/
theorem s_appXi {ap sp : Pos} {i : Int} {b : Expr} (ho : EN X o sx) (hb : E X b (gI i)) (he : E X e f) (hs2 : PlainIx b := by exact fun _ _ => rfl) (hst : starEach [e] X.env = (false, eval e X.env) :: starEach [] X.env := by rfl)
    (hpe : ∀ {r : V → List V → Hp → VK → Prop} {to te : TE}, MtR X "list.append" r → PE X (.Subscript o b sp) to → PE X e te → PE X (.Call (.Attribute (.Subscript o b sp) "append" ap) [e] [] pos) (tBM X.K "list" r to (tCons te tNil)) := by intro r to te hm ho hp; exact pe_bm PySem.F.plainAttrs_list PySem.F.slot_list_append PySem.F.type_list_append hm ho (pa_cons hp pa_nil))
    (hs : swapsWith (.Call (.Attribute (.Subscript o b sp) "append" ap) [e] [] pos) none pos'.line X.env = pure false := by rfl) : S X (.Expr (.Call (.Attribute (.Subscript o b sp) "append" ap) [e] [] pos) pos') (sAppXi sx i f) := by
  obtain ⟨t, h1, h2⟩ := he.ex
  obtain ⟨u, u1, u2⟩ := ho.ex
  obtain ⟨y, y1, y2⟩ := hb.ex
  refine ⟨⟨_, ps_expr (hpe mt_append (pe_ix ix_seq u1 y1 hs2) h1) hs, fun G0 H0 Z Γ σ G H D r R hf k => ?_⟩⟩
  obtain ⟨s, e1, hf⟩ := obind hf
  cases s with
  | ol ss =>
    obtain ⟨s1, e3, hf⟩ := obind hf
    cases s1 with
    | ow xs =>
      obtain ⟨d, e2, hf⟩ := obind hf
      split at hf
      · rename_i hl
        cases hf
        refine u2 G0 H0 Z Γ σ G H _ _ R e1 fun G1 H1 v F x1 r1 fr => ?_
        cases r1 with
        | ol fp hp n sF rl =>
          rename_i p vs F'
          refine y2 G0 H0 Z Γ σ G1 H1 _ _ (R.ext x1) rfl fun G2 H2 w x2 r2 => ?_
          have ew : w = .int i := by cases r2; rfl
          subst ew
          obtain ⟨n, n1, n2⟩ := atI_nth rl.length e3
          obtain ⟨v1, F1, w1, w2, w3⟩ := rl.get n n1
          have hp2 := x2.hh _ _ hp nofun
          refine .inl ⟨p, vs, i, v1, rfl, rfl, SqL.of hp2, n2.trans w1, ?_⟩
          have w2' := w2.mono x2.gg (fun a o _ q n => x2.hh a o q n)
          cases w2' with
          | ow fq hq rq =>
            rename_i q ws
            obtain ⟨g1, g2, g3⟩ := fr q (sF q (w3 q fq))
            have g1' := x2.none g1 g3
            refine ⟨.inl ⟨rfl, _, SqL.of hq⟩, ?_⟩
            refine h2 G0 H0 Z Γ σ G2 H2 _ d ((R.ext x1).ext x2) e2 fun G3 H3 w x3 r3 => ?_
            refine ⟨q, ws, w, rfl, rfl, x3.hh _ _ hq nofun, ?_, ?_⟩
            · rw [rq.length]; exact Nat.lt_of_lt_of_le hl line_big
            · exact k σ G3 _ (R.ext (((x1.trans x2).trans x3).put g2 (x3.none g1' (by rw [hq]; simp))))
      · cases hf
    | _ => cases hf
  | _ => cases hf
end
/-! ### methods that give a new thing; their arguments looked at or data -/
def spKN (K : PySem.W.Frag) (mg : Str → Option Value) (ms : List Bool) (F : List D → Option Sl) : Sp := fun vs H Q _ =>
  ∃ G ds s, Same G H ∧ TC.ti.t G H ∧ RepM K mg G H ms vs ds ∧ F ds = some s ∧ ∀ G' H' v F', Ext G H G' H' → Hd K mg G' H' v F' s → (∀ a, F' a → G' a = none ∧ H a = none ∧ H' a ≠ none) → Q v H'
def runKN (ms : List Bool) (n : Nat) (F : Sm) : List D → Option Sl := fun ds => (F (slM ms ds ++ List.replicate (n - ms.length) .no)).bind fun r => match r with
  | .rt d => some (.sh d)
  | .ro s => some s
  | .nx _ => some (.sh .non)
  | _ => none
section
variable {P : Program} {w : World} {K : PySem.W.Frag} {mg : Str → Option Value} {base : Heap}
theorem def_okKN {x qual : Str} {st : Stmt} {f : Addr} {fd : FuncData} {N ps : List Str} {k : Nat} {B : Sm} {ms : List Bool} (F : Fun K x qual st f fd) (S : FnScope N ps (defScope st)) (hms : ms.length = ps.length)
    (hbody : ∀ (cdv : Value) (A : Around) (outer : List PySem.Env) (s : Shared) (H : Hp) (E : XK), Room k (A.deeper (PyProof.Rows.envOfC qual (defScope st) s.heap.objs.size f cdv)) →
      Ss (cxOf CX0 P w K mg base N qual (defScope st) f cdv A outer s H E).nox (defBody st) B) : FnOk P w K mg base CX0 (k + 1) f fd ps (spKN K mg ms (runKN ms N.length B)) := by
  refine F.ok S (fun vs H Q E h => ?_) (fun cdv A outer s H vs Q E hr h => ?_)
  · obtain ⟨G, ds, d, gh, _, r, _⟩ := h
    rw [r.len.1, hms]
  · obtain ⟨G, ds, sl, gh, tb, r, hf, k'⟩ := h
    obtain ⟨t, h1, h2⟩ := (hbody cdv A outer s H E hr).ex
    refine ⟨t, h1, ?_⟩
    obtain ⟨r1, e1, hf⟩ := obind hf
    refine h2 G H _ _ _ G H _ r1 (startK_rel gh tb r) e1 ?_
    cases r1 with
    | rt d' => cases hf; exact fun G' H' v x r => k' G' H' v (fun _ => False) x (.sh r) fun _ z => z.elim
    | ro s' => cases hf; exact fun G' H' v F' x h f => k' G' H' v F' x h f
    | nx Γ => cases hf; exact fun σ' G' H' R => k' G' H' _ (fun _ => False) R.end (.sh .non) fun _ z => z.elim
    | rm d s => cases hf
    | bk Γ => cases hf
    | ct Γ => cases hf
end
structure MetKN (P : Program) (w : World) (K : PySem.W.Frag) (mg : Str → Option Value) (base : Heap) (c : Nat) (m : Str) (L : Nat) (ps : List Str) (ms : List Bool) (S : List D → Option Sl) : Prop where
  ex : ∃ C f fd, CK K mg c C ∧ Meth K C m f ∧ FnOk P w K mg base CX0 L f fd ps (spKN K mg ms S) ∧ Binds K fd ps []
def gMethN (c : Nat) (F : List D → Option Sl) (f : Ex) (fs : Ag) : Sx := fun Γ => (f Γ).bind fun d => match d with
  | .obj c' vs => if c' = c then (fs Γ).bind fun ds => F (.obj c' vs :: ds) else none
  | _ => none
section
variable {X : Cx} {e a b o : Expr} {es : List Expr} {f g : Ex} {fs : Ag} {pos : Pos} {ms : List Bool}
theorem e_metKN {pl : Sem Bool} {c k L : Nat} {ps : List Str} {S : List D → Option Sl} {m : Str} {apos : Pos} (mt : MetKN X.prog X.w X.K X.mg X.base c m L ps (true :: ms) S) (hr : Room k X.A) (hk : L ≤ k)
    (ho : B X o f) (ha : AM X (a :: es) ms fs) (hno : m ∉ cF c := by decide +kernel)
    (hst : starEach (a :: es) X.env = (false, eval a X.env) :: starEach es X.env := by rfl) (hpl : (backTo pos (starEach es X.env)).any (·.1) = false := by rfl)
    (ht : eval (.Call (.Attribute o m apos) (a :: es) [] pos) X.env = (do
      let ov ← eval o X.env
      standAt apos.atName
      let (f, first) ← holding [ov] (getMethod ov m pl)
      callWith pos f first (backTo pos (starEach (a :: es) X.env)) (backToKw pos (keywordEach [] X.env))) := by rfl) : EN X (.Call (.Attribute o m apos) (a :: es) [] pos) (gMethN c S f fs) := by
  obtain ⟨C, fa, fd, ck, hme, FO, hb⟩ := mt.ex
  obtain ⟨t, h1, h2⟩ := ha.ex
  obtain ⟨u, q1, q2⟩ := ho.ex
  refine ⟨⟨_, pe_meth q1 ck.cl hme FO (hr.mono hk) hb .nil pass0 h1 hst hpl ht, fun G0 H0 Z Γ σ G H Q d R hf k => ?_⟩⟩
  obtain ⟨y, e1, hv⟩ := obind hf
  cases y with
  | obj c' vs' =>
    replace hv : (if c' = c then (fs Γ).bind fun ds => S (.obj c' vs' :: ds) else none) = some d := hv
    split at hv
    · rename_i cz
      subst cz
      obtain ⟨ds, e2, hv⟩ := obind hv
      refine q2 G0 H0 Z Γ σ G H _ _ R e1 fun G1 H1 v x1 r1 => ?_
      obtain ⟨p, C', dx, ws, rfl, hm', hp, _⟩ := r1.objAt x1.gh
      rw [ck.hm] at hm'
      cases hm'
      refine ⟨_, _, _, rfl, hp, zip_lookup_none hno, ?_⟩
      refine h2 G0 H0 Z Γ σ G1 H1 _ _ (R.ext x1) e2 fun G2 H2 vs x2 r2 => ?_
      refine ⟨G2, _, d, x2.gh, ((R.ext x1).ext x2).tbc, .bo (r1.ext x2) (by rw [List.append_nil]; exact r2), hv, fun G' H' v F' x3 r3 f3 => k G' H' v F' ((x1.trans x2).trans x3) r3 fun b y => ?_⟩
      obtain ⟨w1, w2, w3⟩ := f3 b y
      exact ⟨w1, (x1.trans x2).hf w2, w3⟩
    · cases hv
  | _ => cases hv
theorem e_metKN0 {pl : Sem Bool} {c k L : Nat} {ps : List Str} {S : List D → Option Sl} {m : Str} {apos : Pos} (mt : MetKN X.prog X.w X.K X.mg X.base c m L ps [true] S) (hr : Room k X.A) (hk : L ≤ k)
    (ho : B X o f) (hno : m ∉ cF c := by decide +kernel)
    (ht : eval (.Call (.Attribute o m apos) [] [] pos) X.env = (do
      let ov ← eval o X.env
      standAt apos.atName
      let (f, first) ← holding [ov] (getMethod ov m pl)
      callWith pos f first (backTo pos (starEach [] X.env)) (backToKw pos (keywordEach [] X.env))) := by rfl) : EN X (.Call (.Attribute o m apos) [] [] pos) (gMethN c S f aN) := by
  obtain ⟨C, fa, fd, ck, hme, FO, hb⟩ := mt.ex
  obtain ⟨u, q1, q2⟩ := ho.ex
  refine ⟨⟨_, pe_meth0 q1 ck.cl hme FO (hr.mono hk) hb .nil pass0 ht, fun G0 H0 Z Γ σ G H Q d R hf k => ?_⟩⟩
  obtain ⟨y, e1, hv⟩ := obind hf
  cases y with
  | obj c' vs' =>
    replace hv : (if c' = c then (aN Γ).bind fun ds => S (.obj c' vs' :: ds) else none) = some d := hv
    split at hv
    · rename_i cz
      subst cz
      obtain ⟨ds, e2, hv⟩ := obind hv
      cases e2
      refine q2 G0 H0 Z Γ σ G H _ _ R e1 fun G1 H1 v x1 r1 => ?_
      obtain ⟨p, C', dx, ws, rfl, hm', hp, _⟩ := r1.objAt x1.gh
      rw [ck.hm] at hm'
      cases hm'
      refine ⟨_, _, _, rfl, hp, zip_lookup_none hno, ?_⟩
      refine ⟨G1, _, d, x1.gh, (R.ext x1).tbc, .bo r1 .nil, hv, fun G' H' v F' x3 r3 f3 => k G' H' v F' (x1.trans x3) r3 fun b y => ?_⟩
      obtain ⟨w1, w2, w3⟩ := f3 b y
      exact ⟨w1, x1.hf w2, w3⟩
    · cases hv
  | _ => cases hv
end
/-! ### a list of new things -/
def tNx (K : PySem.W.Frag) (mg : Str → Option Value) (f : Sx) : TE := fun σ H Q => ∃ G0 H0 Z Γ G s, Rel K mg G0 H0 Z Γ σ G H ∧ f Γ = some s ∧ ∀ G' H' v F, Ext G H G' H' → Hd K mg G' H' v F s → (∀ a, F a → G' a = none ∧ H a = none ∧ H' a ≠ none) → Q v H'
theorem EN.pe {X : Cx} {e : Expr} {f : Sx} (h : EN X e f) : PE X e (tNx X.K X.mg f) := by
  obtain ⟨t, h1, h2⟩ := h.ex
  exact ⟨fun pins s σ H Q I ⟨G0, H0, Z, Γ, G, d, R, hf, k⟩ => h1.run pins s σ H Q I (h2 G0 H0 Z Γ σ G H Q d R hf k)⟩
def compLN (g : Gs) (t : Te) (e : Sx) : List D → DEnv → Option (List Sl)
  | [], _ => some []
  | d :: ds, Γ => (g d Γ).bind fun Γ1 => (t Γ1).bind fun b => if b then (e Γ1).bind fun y => (compLN g t e ds Γ).bind fun r => some (y :: r) else compLN g t e ds Γ
def gLcN (own : List Nat) (it : Ag) (g : Gs) (t : Te) (e : Sx) : Sx := fun Γ => (it Γ).bind fun ds => if ds.length < 1000000 then (compLN g t e ds (wipeE Γ own)).bind fun ss => some (.ol ss) else none
theorem lc_runN {K : PySem.W.Frag} {mg : Str → Option Value} {own : List (Str × Nat)} {it : Ag} {p : Te} {wi : TI} {ix : List Nat} {g : Gs} {f : Sx} (hix : ∀ i ∈ ix, i ∈ own.map (·.2))
    (hw : ∀ G0 H0 Z Γ σ G H R ds, Rel K mg G0 H0 Z Γ σ G H → it Γ = some ds → (∀ G' H' J, Ext G H G' H' → ItmB K mg J G' H' ds → R J H') → wi σ H R)
    {G0 H0 : Hp} {Z : Zs} {Γ : DEnv} {σ : L2.St} {G H : Hp} {Q : VK} {sl : Sl} (R : Rel K mg G0 H0 Z Γ σ G H) (hf : gLcN (own.map (·.2)) it g p f Γ = some sl)
    (k : ∀ G' H' v F, Ext G H G' H' → Hd K mg G' H' v F sl → (∀ a, F a → G' a = none ∧ H a = none ∧ H' a ≠ none) → Q v H') :
    tLc wi (tGx K mg ix g) (tTx K mg p) (tNx K mg f) (own.map (·.2)) σ H Q := by
  obtain ⟨items, e1, hf⟩ := obind hf
  split at hf
  · rename_i hlen
    obtain ⟨ds, hf2, es⟩ := obind hf
    cases es
    refine hw G0 H0 Z Γ σ G H _ items R e1 fun G1 H1 J x1 hJ D hD => ?_
    have R1 := R.ext x1
    have ntD : ¬ Z.t.tz D := fun h => R1.zz _ (R1.tz _ h) hD
    refine ⟨fun i m Hc => m = items.length - i ∧ i ≤ items.length ∧ ∃ Gc acc dacc rest Fa, Ext G1 H1 Gc Hc ∧ Gc D = none ∧ Hc D = some (.lst acc) ∧ acc.length ≤ i ∧ HdL K mg Gc Hc acc Fa dacc ∧ (∀ a, Fa a → Gc a = none ∧ H1 a = none ∧ Hc a ≠ none ∧ a ≠ D) ∧ Rel K mg G0 H0 ⟨fun a => Z.z a ∨ a = D, Z.a, Z.t⟩ (wipeE Γ (own.map (·.2))) (L2.wipe σ (own.map (·.2))) Gc Hc ∧
      compLN g p f (items.drop i) (wipeE Γ (own.map (·.2))) = some rest ∧ dacc ++ rest = ds, ⟨items.length, ?_⟩, ?_⟩
    · exact ⟨by simp, Nat.zero_le _, G1, [], [], ds, fun _ => False, Ext.own1 x1.gh hD, x1.gh.free hD, upd_same, Nat.le_refl _, .nil, fun _ z => z.elim, (R1.wipe (own.map (·.2))).zput hD, by simpa using hf2, rfl⟩
    · rintro i m Hc ⟨rfl, hi, Gc, acc, dacc, rest, Fa, xc, gD, hcD, la, ra, fa, Rc, hr, hds⟩
      obtain ⟨st, go⟩ := hJ i Gc Hc xc.gg xc.gh xc.hh
      have nn : ∀ {H : Hp}, H D = some (.lst acc) → H D ≠ none := fun e => by rw [e]; simp
      by_cases hlt : i < items.length
      · have hd : items.drop i = items[i] :: items.drop (i + 1) := List.drop_eq_getElem_cons hlt
        obtain ⟨g1, g2⟩ := go items[i] (List.getElem?_eq_getElem hlt)
        rw [hd] at hr
        obtain ⟨Γ1, c1, hr⟩ := obind hr
        obtain ⟨b, c2, hr⟩ := obind hr
        refine .inr ⟨g1, fun H' => ∃ m', (m' = items.length - (i + 1) ∧ i + 1 ≤ items.length ∧ ∃ Gc acc dacc rest Fa, Ext G1 H1 Gc H' ∧ Gc D = none ∧ H' D = some (.lst acc) ∧ acc.length ≤ i + 1 ∧ HdL K mg Gc H' acc Fa dacc ∧ (∀ a, Fa a → Gc a = none ∧ H1 a = none ∧ H' a ≠ none ∧ a ≠ D) ∧ Rel K mg G0 H0 ⟨fun a => Z.z a ∨ a = D, Z.a, Z.t⟩ (wipeE Γ (own.map (·.2))) (L2.wipe σ (own.map (·.2))) Gc H' ∧
          compLN g p f (items.drop (i + 1)) (wipeE Γ (own.map (·.2))) = some rest ∧ dacc ++ rest = ds), fun H' ⟨m', h⟩ => ⟨m', by have := h.1; omega, h⟩, fun x H2 y => ?_⟩
        obtain ⟨G2, x2, r2⟩ := g2 x H2 y
        have xc2 := xc.trans x2
        have R2 := Rc.ext x2
        have gD2 : G2 D = none := x2.none gD (nn hcD)
        have hD2 := x2.hh _ _ hcD nofun
        have step : ∀ {Ga Ha Gb Hb : Hp}, Ext Ga Ha Gb Hb → (∀ a, Fa a → Ga a = none ∧ H1 a = none ∧ Ha a ≠ none ∧ a ≠ D) → HdL K mg Ga Ha acc Fa dacc → (∀ a, Fa a → Gb a = none ∧ H1 a = none ∧ Hb a ≠ none ∧ a ≠ D) ∧ HdL K mg Gb Hb acc Fa dacc := fun x fa ra =>
          ⟨fun a y => by
            obtain ⟨z1, z2, z3, z4⟩ := fa a y
            exact ⟨x.none z1 z3, z2, x.hn _ z3, z4⟩, ra.mono x.gg fun a o _ q n => x.hh a o q n⟩
        obtain ⟨fa2, ra2⟩ := step x2 fa ra
        refine ⟨G0, H0, _, _, G2, items[i], Γ1, R2, r2, c1, fun σ3 R3 w3 => ⟨(w3 _ hix).trans (wipe_sub _ fun _ h => h), ?_⟩⟩
        refine ⟨G0, H0, _, Γ1, G2, b, R3, c2, fun G4 H4 x4 => ?_⟩
        have gD4 : G4 D = none := x4.none gD2 (nn hD2)
        have hD4 := x4.hh _ _ hD2 nofun
        obtain ⟨fa4, ra4⟩ := step x4 fa2 ra2
        cases b with
        | false =>
          refine iteF ⟨_, rfl, hlt, G4, acc, dacc, rest, Fa, xc2.trans x4, gD4, hD4, by omega, ra4, fa4, R2.ext x4, hr, hds⟩
        | true =>
          refine iteT ⟨G0, H0, ⟨fun a => Z.z a ∨ a = D, Z.a, Z.t⟩, Γ1, G4, ?_⟩
          replace hr : ((f Γ1).bind fun y => (compLN g p f (items.drop (i + 1)) (wipeE Γ (own.map (·.2)))).bind fun r => some (y :: r)) = some rest := hr
          obtain ⟨yv, c3, hr⟩ := obind hr
          obtain ⟨rr, c4, hr⟩ := obind hr
          cases hr
          refine ⟨yv, R3.ext x4, c3, fun G5 H5 v Fv x5 r5 f5 => ?_⟩
          have gD5 : G5 D = none := x5.none gD4 (nn hD4)
          have hD5 : H5 D = some (.lst acc) := x5.hh _ _ hD4 nofun
          obtain ⟨fa5, ra5⟩ := step x5 fa4 ra4
          have nD : ∀ a, Fv a → a ≠ D := fun a y z => by
            subst z
            have := (f5 a y).2.1
            rw [hD4] at this
            cases this
          have dj : ∀ a, Fv a → ¬ Fa a := fun a y z => (fa4 a z).2.2.1 (f5 a y).2.1
          have up : ∀ a, H5 a ≠ none → upd H5 D (.lst (acc ++ [v])) a ≠ none := fun a h => by
            by_cases z : a = D
            · subst z; rw [upd_same]; simp
            · rw [upd_ne z]; exact h
          have xx := (xc2.trans x4).trans x5
          refine ⟨acc, hD5, Nat.lt_of_lt_of_le (Nat.lt_of_le_of_lt la (Nat.lt_trans hlt hlen)) line_big, _, rfl, hlt, G5, acc ++ [v], dacc ++ [yv], rr, fun a => Fa a ∨ Fv a, ?_, gD5, upd_same, by simp; omega, ?_, ?_, ((R2.ext x4).ext x5).aside (.inr rfl) ntD gD5 (R1.hf hD), c4, by rw [← hds]; simp⟩
          · exact xx.put hD gD5
          · refine (ra5.snocU r5 dj).mono (Same.refl _) fun a o h q _ => ?_
            rw [upd_ne]
            · exact q
            · rcases h with h | h
              · exact (fa5 a h).2.2.2
              · exact nD a h
          · intro a h
            rcases h with h | h
            · obtain ⟨z1, z2, z3, z4⟩ := fa5 a h
              exact ⟨z1, z2, up a z3, z4⟩
            · obtain ⟨z1, z2, z3⟩ := f5 a h
              exact ⟨z1, (xc2.trans x4).hf z2, up a z3, nD a h⟩
      · have e : i = items.length := by omega
        subst e
        refine .inl ⟨st (Nat.le_refl _), ?_⟩
        rw [List.drop_length] at hr
        cases hr
        rw [List.append_nil] at hds
        subst hds
        refine k Gc Hc (.ref D) (fun a => a = D ∨ Fa a) (x1.trans xc) (.ol (F' := Fa) (.inl rfl) hcD (fun y => (fa D y).2.2.2 rfl) (fun a y => .inr y) ra) fun a y => ?_
        rcases y with y | y
        · subst y; exact ⟨gD, x1.hf hD, nn hcD⟩
        · obtain ⟨z1, z2, z3, z4⟩ := fa a y
          exact ⟨z1, x1.hf z2, z3⟩
  · cases hf
theorem en_lc {X : Cx} {elt tg iter : Expr} {ifs : List Expr} {scope : Scope} {own : List (Str × Nat)} {it : Ag} {p : Te} {ix : List Nat} {g : Gs} {f : Sx} {pos : Pos} (hc : X.calm = true) (hN : X.N.Nodup) (hi : IC X tg iter it) (ok : BlkOk X.N X.env.scope scope own) (hix : ∀ i ∈ ix, i ∈ own.map (·.2))
    (hg : ∀ (s : Shared) (H : Hp) (C : Addr) (cl : List (Str × Addr)) (fp : List Addr), G (X.blk s H scope (compEnvC scope cl C X.env) fp) tg ix g)
    (ht : ∀ (s : Shared) (H : Hp) (C : Addr) (cl : List (Str × Addr)) (fp : List Addr), Ts (X.blk s H scope (compEnvC scope cl C X.env) fp) ifs p)
    (he : ∀ (s : Shared) (H : Hp) (C : Addr) (cl : List (Str × Addr)) (fp : List Addr), EN (X.blk s H scope (compEnvC scope cl C X.env) fp) elt f)
    (hs : ∀ x, foldedSetIterable iter X.env x = pure x := by intro _; rfl) : EN X (.ListComp elt [⟨tg, iter, ifs, 0⟩] scope pos) (gLcN (own.map (·.2)) it g p f) := by
  obtain ⟨wi, w1, w2⟩ := hi.ex
  exact ⟨⟨_, pe_lc hc hN w1 ok (fun s H C cl fp => (hg s H C cl fp).pg) (fun s H C cl fp => (ht s H C cl fp).pt) (fun s H C cl fp => (he s H C cl fp).pe) hs, fun G0 H0 Z Γ σ G H Q ds R hf k => lc_runN hix w2 R hf k⟩⟩
end DL

namespace DL
open PySem L2
variable [TC : TabCtx]
/-! ### a comprehension of two walks -/
def tIx (K : PySem.W.Frag) (mg : Str → Option Value) (it : Ag) : TI := fun σ H R => ∃ G0 H0 Z Γ G ds, Rel K mg G0 H0 Z Γ σ G H ∧ it Γ = some ds ∧ ∀ G' H' J, Ext G H G' H' → Itm K mg J G' ds → R J H'
theorem I.pi {X : Cx} {tg iter : Expr} {it : Ag} (h : I X tg iter it) : PI X tg iter (tIx X.K X.mg it) := by
  obtain ⟨t, h1, h2⟩ := h.ex
  exact ⟨fun pins s σ H R I ⟨G0, H0, Z, Γ, G, ds, Rl, hf, k⟩ => h1.run pins s σ H R I (h2 G0 H0 Z Γ σ G H R ds Rl hf k)⟩
def compL2 (g : Gs) (t : Te) (it1 : Ag) (g1 : Gs) (t1 : Te) (e : Ex) (vs1 : List Nat) : List D → DEnv → Option (List D)
  | [], _ => some []
  | d :: ds, Γ => (g d Γ).bind fun Γ1 => (t Γ1).bind fun b => if b then (it1 Γ1).bind fun ds1 => (compL g1 t1 e ds1 (wipeE Γ1 vs1)).bind fun r1 => (compL2 g t it1 g1 t1 e vs1 ds Γ).bind fun r => some (r1 ++ r) else compL2 g t it1 g1 t1 e vs1 ds Γ
def gLc2 (own vs1 : List Nat) (it : Ag) (g : Gs) (t : Te) (it1 : Ag) (g1 : Gs) (t1 : Te) (e : Ex) : Ag := fun Γ => (it Γ).bind fun ds => (compL2 g t it1 g1 t1 e vs1 ds (wipeE Γ own)).bind fun r => if r.length < 1000000 then some r else none
theorem lc_run2 {K : PySem.W.Frag} {mg : Str → Option Value} {own : List (Str × Nat)} {vs1 ix ix1 : List Nat} {it it1 : Ag} {p p1 : Te} {g g1 : Gs} {f : Ex} {wi : TI} (hix : ∀ i ∈ ix, i ∈ own.map (·.2)) (hv : ∀ i ∈ vs1, i ∈ own.map (·.2)) (hix1 : ∀ i ∈ ix1, i ∈ vs1)
    (hw : ∀ G0 H0 Z Γ σ G H R ds, Rel K mg G0 H0 Z Γ σ G H → it Γ = some ds → (∀ G' H' J, Ext G H G' H' → ItmB K mg J G' H' ds → R J H') → wi σ H R)
    {G0 H0 : Hp} {Z : Zs} {Γ : DEnv} {σ : L2.St} {G H : Hp} {Q : VK} {ds : List D} (R : Rel K mg G0 H0 Z Γ σ G H) (hf : gLc2 (own.map (·.2)) vs1 it g p it1 g1 p1 f Γ = some ds)
    (k : ∀ G' H' D vs, Ext G H G' H' → H D = none → G' D = none → H' D = some (.lst vs) → RepL K mg G' vs ds → Q (.ref D) H') :
    tLc2 wi (tGx K mg ix g) (tTx K mg p) (tIx K mg it1) (tGx K mg ix1 g1) (tTx K mg p1) (tEx K mg f) (own.map (·.2)) vs1 σ H Q := by
  obtain ⟨items, e1, hf⟩ := obind hf
  obtain ⟨r0, hf2, hf⟩ := obind hf
  split at hf
  · rename_i hlen
    cases hf
    refine hw G0 H0 Z Γ σ G H _ items R e1 fun G1 H1 J x1 hJ D hD => ?_
    have R1 := R.ext x1
    have ntD : ¬ Z.t.tz D := fun h => R1.zz _ (R1.tz _ h) hD
    -- the state within: the list so far at D
    let St : Hp → List DL.D → Prop := fun Hc rest => ∃ Gc acc dacc, Ext G1 H1 Gc Hc ∧ Gc D = none ∧ Hc D = some (.lst acc) ∧ RepL K mg Gc acc dacc ∧ Rel K mg G0 H0 ⟨fun a => Z.z a ∨ a = D, Z.a, Z.t⟩ (wipeE Γ (own.map (·.2))) (L2.wipe σ (own.map (·.2))) Gc Hc ∧ dacc ++ rest = ds
    refine ⟨fun i m Hc => m = items.length - i ∧ i ≤ items.length ∧ ∃ rest, St Hc rest ∧ compL2 g p it1 g1 p1 f vs1 (items.drop i) (wipeE Γ (own.map (·.2))) = some rest, ⟨items.length, ?_⟩, ?_⟩
    · exact ⟨by simp, Nat.zero_le _, ds, ⟨G1, [], [], Ext.own1 x1.gh hD, x1.gh.free hD, upd_same, .nil, (R1.wipe (own.map (·.2))).zput hD, rfl⟩, by simpa using hf2⟩
    · rintro i m Hc ⟨rfl, hi, rest, ⟨Gc, acc, dacc, xc, gD, hcD, ra, Rc, hds⟩, hr⟩
      obtain ⟨st, go⟩ := hJ i Gc Hc xc.gg xc.gh xc.hh
      have nn : ∀ {H : Hp} {acc : List V}, H D = some (.lst acc) → H D ≠ none := fun e => by rw [e]; simp
      by_cases hlt : i < items.length
      · have hd : items.drop i = items[i] :: items.drop (i + 1) := List.drop_eq_getElem_cons hlt
        obtain ⟨g1', g2⟩ := go items[i] (List.getElem?_eq_getElem hlt)
        rw [hd] at hr
        obtain ⟨Γ1, c1, hr⟩ := obind hr
        obtain ⟨b, c2, hr⟩ := obind hr
        refine .inr ⟨g1', fun H' => ∃ m', (m' = items.length - (i + 1) ∧ i + 1 ≤ items.length ∧ ∃ rest, St H' rest ∧ compL2 g p it1 g1 p1 f vs1 (items.drop (i + 1)) (wipeE Γ (own.map (·.2))) = some rest), fun H' ⟨m', h⟩ => ⟨m', by have := h.1; omega, h⟩, fun x H2 y => ?_⟩
        obtain ⟨G2, x2, r2⟩ := g2 x H2 y
        have xc2 := xc.trans x2
        have R2 := Rc.ext x2
        have gD2 : G2 D = none := x2.none gD (nn hcD)
        have hD2 := x2.hh _ _ hcD nofun
        refine ⟨G0, H0, _, _, G2, items[i], Γ1, R2, r2, c1, fun σ3 R3 w3 => ⟨(w3 _ hix).trans (wipe_sub _ fun _ h => h), ?_⟩⟩
        refine ⟨G0, H0, _, Γ1, G2, b, R3, c2, fun G4 H4 x4 => ?_⟩
        have gD4 : G4 D = none := x4.none gD2 (nn hD2)
        have hD4 := x4.hh _ _ hD2 nofun
        cases b with
        | false =>
          exact iteF ⟨_, rfl, hlt, rest, ⟨G4, acc, dacc, xc2.trans x4, gD4, hD4, (ra.mono x2.gg).mono x4.gg, R2.ext x4, hds⟩, hr⟩
        | true =>
          replace hr : ((it1 Γ1).bind fun ds1 => (compL g1 p1 f ds1 (wipeE Γ1 vs1)).bind fun r1 => (compL2 g p it1 g1 p1 f vs1 (items.drop (i + 1)) (wipeE Γ (own.map (·.2)))).bind fun r => some (r1 ++ r)) = some rest := hr
          obtain ⟨ds1, d1, hr⟩ := obind hr
          obtain ⟨r1, d2, hr⟩ := obind hr
          obtain ⟨rr, d3, hr⟩ := obind hr
          cases hr
          refine iteT ⟨G0, H0, ⟨fun a => Z.z a ∨ a = D, Z.a, Z.t⟩, Γ1, G4, ds1, R3.ext x4, d1, fun G5 H5 J1 x5 hJ1 => ?_⟩
          have gD5 : G5 D = none := x5.none gD4 (nn hD4)
          have hD5 := x5.hh _ _ hD4 nofun
          have xc5 := (xc2.trans x4).trans x5
          have Ra5 := (R2.ext x4).ext x5
          have Rb5 := ((R3.ext x4).ext x5).wipe vs1
          have ra5 := ((ra.mono x2.gg).mono x4.gg).mono x5.gg
          refine ⟨fun j k Hc => k = ds1.length - j ∧ j ≤ ds1.length ∧ ∃ Gc acc dacc rest1, Same G5 Gc ∧ Ext G1 H1 Gc Hc ∧ Gc D = none ∧ Hc D = some (.lst acc) ∧ RepL K mg Gc acc dacc ∧
            Rel K mg G0 H0 ⟨fun a => Z.z a ∨ a = D, Z.a, Z.t⟩ (wipeE Γ (own.map (·.2))) (L2.wipe σ (own.map (·.2))) Gc Hc ∧ Rel K mg G0 H0 ⟨fun a => Z.z a ∨ a = D, Z.a, Z.t⟩ (wipeE Γ1 vs1) (L2.wipe σ3 vs1) Gc Hc ∧
            compL g1 p1 f (ds1.drop j) (wipeE Γ1 vs1) = some rest1 ∧ dacc ++ (rest1 ++ rr) = ds, ⟨ds1.length, ?_⟩, ?_⟩
          · exact ⟨by simp, Nat.zero_le _, G5, acc, dacc, r1, Same.refl _, xc5, gD5, hD5, ra5, Ra5, Rb5, by simpa using d2, hds⟩
          · rintro j k1 Hj ⟨rfl, hj, Gj, accj, daccj, restj, sG, xj, gDj, hDj, raj, Raj, Rbj, hrj, hdj⟩
            obtain ⟨st1, go1⟩ := hJ1 j Gj Hj sG xj.gh
            by_cases hlt1 : j < ds1.length
            · have hd1 : ds1.drop j = ds1[j] :: ds1.drop (j + 1) := List.drop_eq_getElem_cons hlt1
              obtain ⟨q1, q2⟩ := go1 ds1[j] (List.getElem?_eq_getElem hlt1)
              rw [hd1] at hrj
              obtain ⟨Γ2, y1, hrj⟩ := obind hrj
              obtain ⟨b1, y2, hrj⟩ := obind hrj
              refine .inr ⟨q1, fun H' => ∃ k', (k' = ds1.length - (j + 1) ∧ j + 1 ≤ ds1.length ∧ ∃ Gc acc dacc rest1, Same G5 Gc ∧ Ext G1 H1 Gc H' ∧ Gc D = none ∧ H' D = some (.lst acc) ∧ RepL K mg Gc acc dacc ∧
                Rel K mg G0 H0 ⟨fun a => Z.z a ∨ a = D, Z.a, Z.t⟩ (wipeE Γ (own.map (·.2))) (L2.wipe σ (own.map (·.2))) Gc H' ∧ Rel K mg G0 H0 ⟨fun a => Z.z a ∨ a = D, Z.a, Z.t⟩ (wipeE Γ1 vs1) (L2.wipe σ3 vs1) Gc H' ∧
                compL g1 p1 f (ds1.drop (j + 1)) (wipeE Γ1 vs1) = some rest1 ∧ dacc ++ (rest1 ++ rr) = ds), fun H' ⟨k', h⟩ => ⟨k', by have := h.1; omega, h⟩, fun x H6 y6 => ?_⟩
              obtain ⟨G6, x6, r6⟩ := q2 x H6 y6
              have gD6 : G6 D = none := x6.none gDj (nn hDj)
              have hD6 := x6.hh _ _ hDj nofun
              have Ra6 := Raj.ext x6
              have Rb6 := Rbj.ext x6
              refine ⟨G0, H0, _, _, G6, ds1[j], Γ2, Rb6, r6, y1, fun σ4 R4 w4 => ⟨(w4 _ hix1).trans (wipe_sub _ fun _ h => h), ?_⟩⟩
              refine ⟨G0, H0, _, Γ2, G6, b1, R4, y2, fun G7 H7 x7 => ?_⟩
              have gD7 : G7 D = none := x7.none gD6 (nn hD6)
              have hD7 := x7.hh _ _ hD6 nofun
              have x67 := (xj.trans x6).trans x7
              cases b1 with
              | false =>
                exact iteF ⟨_, rfl, hlt1, G7, accj, daccj, restj, (sG.trans x6.gg).trans x7.gg, x67, gD7, hD7, (raj.mono x6.gg).mono x7.gg, Ra6.ext x7, Rb6.ext x7, hrj, hdj⟩
              | true =>
                refine iteT ⟨G0, H0, ⟨fun a => Z.z a ∨ a = D, Z.a, Z.t⟩, Γ2, G7, ?_⟩
                replace hrj : ((f Γ2).bind fun y => (compL g1 p1 f (ds1.drop (j + 1)) (wipeE Γ1 vs1)).bind fun r => some (y :: r)) = some restj := hrj
                obtain ⟨yv, c3, hrj⟩ := obind hrj
                obtain ⟨rj, c4, hrj⟩ := obind hrj
                cases hrj
                refine ⟨yv, R4.ext x7, c3, fun G8 H8 v x8 r8 => ?_⟩
                have gD8 : G8 D = none := x8.none gD7 (nn hD7)
                have hD8 := x8.hh _ _ hD7 nofun
                have la : accj.length < sizeLine := by
                  rw [raj.length]
                  refine Nat.lt_of_lt_of_le ?_ line_big
                  have := congrArg List.length hdj
                  simp at this
                  omega
                refine ⟨accj, hD8, la, _, rfl, hlt1, G8, accj ++ [v], daccj ++ [yv], rj, ((sG.trans x6.gg).trans x7.gg).trans x8.gg, (x67.trans x8).put hD gD8, gD8, upd_same, (((raj.mono x6.gg).mono x7.gg).mono x8.gg).append (.cons r8 .nil), ((Ra6.ext x7).ext x8).aside (.inr rfl) ntD gD8 (R1.hf hD), ((Rb6.ext x7).ext x8).aside (.inr rfl) ntD gD8 (R1.hf hD), c4, by rw [← hdj]; simp⟩
            · have e : j = ds1.length := by omega
              subst e
              refine .inl ⟨st1 (Nat.le_refl _), ?_⟩
              rw [List.drop_length] at hrj
              cases hrj
              exact ⟨_, rfl, hlt, rr, ⟨Gj, accj, daccj, xj, gDj, hDj, raj, Raj, by simpa using hdj⟩, d3⟩
      · have e : i = items.length := by omega
        subst e
        refine .inl ⟨st (Nat.le_refl _), ?_⟩
        rw [List.drop_length] at hr
        cases hr
        rw [List.append_nil] at hds
        subst hds
        exact k Gc Hc D acc (x1.trans xc) (x1.hf hD) gD hcD ra
  · cases hf
theorem el_lc2 {X : Cx} {elt tg iter tg1 iter1 : Expr} {ifs ifs1 : List Expr} {scope : Scope} {own : List (Str × Nat)} {vs1 ix ix1 : List Nat} {it it1 : Ag} {p p1 : Te} {g g1 : Gs} {f : Ex} {pos : Pos} (hc : X.calm = true) (hN : X.N.Nodup) (hi : IC X tg iter it) (ok : BlkOk X.N X.env.scope scope own) (hv : ∀ i ∈ vs1, i ∈ own.map (·.2)) (hix : ∀ i ∈ ix, i ∈ own.map (·.2)) (hix1 : ∀ i ∈ ix1, i ∈ vs1)
    (hg : ∀ (s : Shared) (H : Hp) (C : Addr) (cl : List (Str × Addr)) (fp : List Addr), G (X.blk s H scope (compEnvC scope cl C X.env) fp) tg ix g)
    (ht : ∀ (s : Shared) (H : Hp) (C : Addr) (cl : List (Str × Addr)) (fp : List Addr), Ts (X.blk s H scope (compEnvC scope cl C X.env) fp) ifs p)
    (hi1 : ∀ (s : Shared) (H : Hp) (C : Addr) (cl : List (Str × Addr)) (fp : List Addr), I (X.blk s H scope (compEnvC scope cl C X.env) fp) tg1 iter1 it1)
    (hg1 : ∀ (s : Shared) (H : Hp) (C : Addr) (cl : List (Str × Addr)) (fp : List Addr), G (X.blk s H scope (compEnvC scope cl C X.env) fp) tg1 ix1 g1)
    (ht1 : ∀ (s : Shared) (H : Hp) (C : Addr) (cl : List (Str × Addr)) (fp : List Addr), Ts (X.blk s H scope (compEnvC scope cl C X.env) fp) ifs1 p1)
    (he : ∀ (s : Shared) (H : Hp) (C : Addr) (cl : List (Str × Addr)) (fp : List Addr), E (X.blk s H scope (compEnvC scope cl C X.env) fp) elt f)
    (hs : ∀ x, foldedSetIterable iter X.env x = pure x := by intro _; rfl) (hs1 : ∀ env x, foldedSetIterable iter1 env x = pure x := by intro _ _; rfl) : EL X (.ListComp elt [⟨tg, iter, ifs, 0⟩, ⟨tg1, iter1, ifs1, 0⟩] scope pos) (gLc2 (own.map (·.2)) vs1 it g p it1 g1 p1 f) := by
  obtain ⟨wi, w1, w2⟩ := hi.ex
  exact ⟨⟨_, pe_lc2 hc hN w1 ok hv (fun s H C cl fp => (hg s H C cl fp).pg) (fun s H C cl fp => (ht s H C cl fp).pt) (fun s H C cl fp => (hi1 s H C cl fp).pi) (fun s H C cl fp => (hg1 s H C cl fp).pg) (fun s H C cl fp => (ht1 s H C cl fp).pt) (fun s H C cl fp => (he s H C cl fp).pe) hs hs1, fun G0 H0 Z Γ σ G H Q ds R hf k => lc_run2 hix hv hix1 w2 R hf k⟩⟩
end DL

/-! DL25: dicts of one's own and dicts as data; a place's list or dict becomes known -/
namespace DL
open PySem L2
variable [TC : TabCtx]
theorem _root_.L2.Room.u1 {k : Nat} {A : Around} (r : Room k A) : A.units + 1 < cLine := by have := r.un; omega
/-! ### dicts: keys and data side by side -/
def dKey : D → Option Key
  | .int i => some (.inl i)
  | .str s => some (.inr s)
  | _ => none
def keyD0 : Key → D
  | .inl i => .int i
  | .inr s => .str s
def valX {α : Type} (ks : List Key) (xs : List α) (k : Key) : Option α := ((ks.zip xs).find? fun kv => decide (kv.1 = k)).map (·.2)
def hasK (ks : List Key) (k : Key) : Bool := ks.any fun k' => decide (k' = k)
def putKs (ks : List Key) (k : Key) : List Key := if hasK ks k = true then ks else ks ++ [k]
def putXs {α : Type} (ks : List Key) (xs : List α) (k : Key) (d : α) : List α := if hasK ks k = true then (ks.zip xs).map (fun kv => if kv.1 = k then d else kv.2) else xs ++ [d]
section
variable {K : PySem.W.Frag} {mg : Str → Option Value} {G G' H H' : Hp}
theorem kV_rep (k : Key) : Rep K mg G (kV k) (keyD0 k) := by
  cases k with
  | inl i => exact .int i
  | inr s => exact .str s
theorem dKey_rep {v : V} {d : D} {k : Key} (h : dKey d = some k) (r : Rep K mg G v d) : v = kV k := by
  cases d with
  | int i => cases h; cases r; rfl
  | str s => cases h; cases r; rfl
  | _ => cases h
theorem valV_zip {vs : List V} (k : Key) (ks : List Key) : valV (ks.zip vs) k = valX ks vs k := rfl
theorem valX_rep {k : Key} {d : D} : ∀ {ks : List Key} {vs : List V} {xs : List D}, RepL K mg G vs xs → valX ks xs k = some d → ∃ v, valX ks vs k = some v ∧ Rep K mg G v d
  | [], vs, xs, r, h => by simp [valX] at h
  | k' :: ks, _, _, .nil, h => by simp [valX] at h
  | k' :: ks, _, _, .cons (v := v0) (d := d0) h0 r, h => by
    unfold valX at h ⊢
    rw [List.zip_cons_cons, List.find?_cons] at h ⊢
    by_cases e : k' = k
    · rw [decide_eq_true e] at h ⊢
      cases h
      exact ⟨_, rfl, h0⟩
    · rw [decide_eq_false e] at h ⊢
      exact valX_rep r h
theorem valX_none {k : Key} : ∀ {ks : List Key} {vs : List V} {xs : List D}, RepL K mg G vs xs → valX ks xs k = none → valX ks vs k = none
  | [], vs, xs, r, h => by simp [valX]
  | k' :: ks, _, _, .nil, h => by simp [valX]
  | k' :: ks, _, _, .cons (v := v0) (d := d0) h0 r, h => by
    unfold valX at h ⊢
    rw [List.zip_cons_cons, List.find?_cons] at h ⊢
    by_cases e : k' = k
    · rw [decide_eq_true e] at h
      cases h
    · rw [decide_eq_false e] at h ⊢
      exact valX_none r h
theorem valX_some {α : Type} {k : Key} : ∀ {ks : List Key} {xs : List α}, ks.length = xs.length → ((valX ks xs k).isSome = hasK ks k)
  | [], [], _ => rfl
  | [], _ :: _, h => by simp at h
  | _ :: _, [], h => by simp at h
  | k' :: ks, x :: xs, h => by
    have ih := valX_some (k := k) (ks := ks) (xs := xs) (by simpa using h)
    unfold valX hasK at ih ⊢
    rw [List.zip_cons_cons, List.find?_cons, List.any_cons]
    by_cases e : k' = k
    · rw [decide_eq_true e]
      rfl
    · rw [decide_eq_false e, Bool.false_or]
      exact ih
theorem any_zip {α : Type} (k : Key) : ∀ {ks : List Key} {vs : List α}, ks.length = vs.length → ((ks.zip vs).any fun kv => decide (kv.1 = k)) = hasK ks k
  | [], [], _ => rfl
  | [], _ :: _, h => by simp at h
  | _ :: _, [], h => by simp at h
  | k' :: ks, v :: vs, h => by
    have ih := any_zip k (ks := ks) (vs := vs) (by simpa using h)
    unfold hasK at ih ⊢
    rw [List.zip_cons_cons, List.any_cons, List.any_cons, ih]
theorem zip_rep {α : Type} (k : Key) (d : α) : ∀ {ks : List Key} {vs : List α}, ks.length = vs.length → (ks.zip vs).map (fun kv => if kv.1 = k then (kv.1, d) else kv) = ks.zip ((ks.zip vs).map fun kv => if kv.1 = k then d else kv.2)
  | [], [], _ => rfl
  | [], _ :: _, h => by simp at h
  | _ :: _, [], h => by simp at h
  | k' :: ks, v :: vs, h => by
    rw [List.zip_cons_cons, List.map_cons, List.map_cons, List.zip_cons_cons, zip_rep k d (by simpa using h)]
    by_cases e : k' = k
    · simp [e]
    · simp [e]
theorem putK_zip {vs : List V} {ks : List Key} (k : Key) (v : V) (h : ks.length = vs.length) : putK (ks.zip vs) k v = (putKs ks k).zip (putXs ks vs k v) := by
  unfold putK putKs putXs
  rw [any_zip k h]
  by_cases e : hasK ks k = true
  · rw [if_pos e, if_pos e, if_pos e, zip_rep k v h]
  · rw [if_neg e, if_neg e, if_neg e, List.zip_append h]
    rfl
theorem putKs_len {α : Type} {ks : List Key} {xs : List α} (k : Key) (d : α) (h : ks.length = xs.length) : (putKs ks k).length = (putXs ks xs k d).length := by
  unfold putKs putXs
  by_cases e : hasK ks k = true
  · rw [if_pos e, if_pos e, List.length_map, List.length_zip]; omega
  · rw [if_neg e, if_neg e, List.length_append, List.length_append, h]; rfl
theorem repX_rep {k : Key} {v : V} {d : D} (hv : Rep K mg G v d) : ∀ {ks : List Key} {vs : List V} {xs : List D}, RepL K mg G vs xs → RepL K mg G ((ks.zip vs).map fun kv => if kv.1 = k then v else kv.2) ((ks.zip xs).map fun kv => if kv.1 = k then d else kv.2)
  | [], _, _, _ => by simp; exact .nil
  | _ :: _, _, _, .nil => by simp; exact .nil
  | k' :: ks, _, _, .cons h0 r => by
    rw [List.zip_cons_cons, List.zip_cons_cons, List.map_cons, List.map_cons]
    refine .cons ?_ (repX_rep hv r)
    by_cases e : k' = k
    · simp only [e, if_true]; exact hv
    · simp only [e, if_false]; exact h0
theorem putXs_rep {k : Key} {v : V} {d : D} {ks : List Key} {vs : List V} {xs : List D} (hv : Rep K mg G v d) (r : RepL K mg G vs xs) : RepL K mg G (putXs ks vs k v) (putXs ks xs k d) := by
  unfold putXs
  by_cases e : hasK ks k = true
  · rw [if_pos e, if_pos e]; exact repX_rep hv r
  · rw [if_neg e, if_neg e]; exact r.append (.cons hv .nil)
/-- a dict that is looked at -/
theorem RepB.dict {ks : List Key} {xs : List D} {v : V} (gh : Same G H) (r : RepB K mg G H v (.dic ks xs)) : ∃ p vs, v = .ref p ∧ H p = some (.dK (ks.zip vs)) ∧ ks.length = vs.length ∧ RepL K mg G vs xs := by
  cases r with
  | sh r => cases r with
    | dic h l r => exact ⟨_, _, rfl, gh _ _ h, l, r⟩
  | dic h l r => exact ⟨_, _, rfl, h, l, r⟩
end
/-! ### {} -/
def nDict : Sx := fun _ => some (.dk [] [])
section
variable {X : Cx} {e a b o : Expr} {f g : Ex} {pos pos' : Pos} {st : Stmt} {F : Sm} {i : Nat} {rp : Pth}
theorem en_dnew : EN X (.Dict [] [] pos) nDict := ⟨⟨_, pe_dnewK, fun G0 H0 Z Γ σ G H Q s R hf k => by
  cases hf
  intro p hp
  exact k G _ _ (fun a => a = p) (Ext.own1 R.gh hp) (.dk (ks := []) (vs := []) rfl upd_same rfl .nil) fun a e => by subst e; exact ⟨R.gh.free hp, hp, by rw [upd_same]; simp⟩⟩⟩
/-! ### d[k], k in d -/
def dDget : D → D → Option D
  | .dic ks xs, j => (dKey j).bind fun k => valX ks xs k
  | _, _ => none
theorem e_dgt (hu : X.A.units + 1 < cLine) (ho : B X o f) (hi : E X e g) (hs : NoSl e := by intro _ _; rfl) : E X (.Subscript o e pos) (gOp dDget f g) := by
  obtain ⟨t, h1, h2⟩ := ho.ex
  obtain ⟨u, q1, q2⟩ := hi.ex
  refine ⟨⟨_, pe_dget hu h1 q1 hs, fun G0 H0 Z Γ σ G H Q d R hf k => ?_⟩⟩
  obtain ⟨x, e1, hf⟩ := obind hf
  obtain ⟨y, e2, hf⟩ := obind hf
  refine h2 G0 H0 Z Γ σ G H _ x R e1 fun G1 H1 v x1 r1 => ?_
  refine q2 G0 H0 Z Γ σ G1 H1 _ y (R.ext x1) e2 fun G2 H2 w x2 r2 => ?_
  cases x with
  | dic ks xs =>
    obtain ⟨ky, e3, hf⟩ := obind hf
    obtain ⟨p, vs, rfl, hp, hl, rl⟩ := (r1.ext x2).dict x2.gh
    obtain ⟨v, ev, rv⟩ := valX_rep rl hf
    refine ⟨p, v, rfl, ?_, k G2 H2 v (x1.trans x2) rv⟩
    rw [dKey_rep e3 r2, ← ev]
    exact DGet.k hp
  | _ => cases hf
def dDin : D → D → Option D
  | j, .dic ks _ => (dKey j).map fun k => .bl (hasK ks k)
  | _, _ => none
def dDnin : D → D → Option D
  | j, .dic ks _ => (dKey j).map fun k => .bl (!hasK ks k)
  | _, _ => none
theorem din_run {t u : TE} (h2 : ∀ G0 H0 Z Γ σ G H Q d, Rel X.K X.mg G0 H0 Z Γ σ G H → g Γ = some d → (∀ G' H' v, Ext G H G' H' → Rep X.K X.mg G' v d → Q v H') → t σ H Q)
    (q2 : ∀ G0 H0 Z Γ σ G H Q d, Rel X.K X.mg G0 H0 Z Γ σ G H → f Γ = some d → (∀ G' H' v, Ext G H G' H' → RepB X.K X.mg G' H' v d → Q v H') → u σ H Q)
    {G0 H0 Z Γ σ G H} {Q : V → Hp → Prop} {x y : D} {ks : List Key} {xs : List D} {ky : Key} (R : Rel X.K X.mg G0 H0 Z Γ σ G H) (e1 : g Γ = some x) (e2 : f Γ = some (.dic ks xs)) (e3 : dKey x = some ky) (k : ∀ G' H', Ext G H G' H' → ∀ b, b = hasK ks ky → Q (.bl b) H') : tDIn t u σ H Q ∧ tDNotIn t u σ H (fun v H' => ∀ c, v = .bl c → Q (.bl (!c)) H') := by
  constructor
  · refine h2 G0 H0 Z Γ σ G H _ x R e1 fun G1 H1 w x1 r1 => ?_
    refine q2 G0 H0 Z Γ σ G1 H1 _ _ (R.ext x1) e2 fun G2 H2 v x2 r2 => ?_
    obtain ⟨p, vs, rfl, hp, hl, rl⟩ := r2.dict x2.gh
    refine ⟨p, valV (ks.zip vs) ky, rfl, ?_, k G2 H2 (x1.trans x2) _ (by rw [valV_zip, valX_some hl])⟩
    rw [dKey_rep e3 r1]
    exact DGet.k hp
  · refine h2 G0 H0 Z Γ σ G H _ x R e1 fun G1 H1 w x1 r1 => ?_
    refine q2 G0 H0 Z Γ σ G1 H1 _ _ (R.ext x1) e2 fun G2 H2 v x2 r2 => ?_
    obtain ⟨p, vs, rfl, hp, hl, rl⟩ := r2.dict x2.gh
    refine ⟨p, valV (ks.zip vs) ky, rfl, ?_, fun c e => ?_⟩
    · rw [dKey_rep e3 r1]
      exact DGet.k hp
    · cases e
      rw [Bool.not_not]
      exact k G2 H2 (x1.trans x2) _ (by rw [valV_zip, valX_some hl])
theorem e_din (hu : X.A.units + 1 < cLine) (hi : E X e g) (ho : B X o f) (hm : behindInMarks .In o = false := by rfl) : E X (.Compare e [.In] [o] pos) (gOp dDin g f) := by
  obtain ⟨t, h1, h2⟩ := hi.ex
  obtain ⟨u, q1, q2⟩ := ho.ex
  refine ⟨⟨_, pe_cmp (pc_din hu h1 q1) hm, fun G0 H0 Z Γ σ G H Q d R hf k => ?_⟩⟩
  obtain ⟨x, e1, hf⟩ := obind hf
  obtain ⟨y, e2, hf⟩ := obind hf
  cases y with
  | dic ks xs =>
    obtain ⟨ky, e3, e4⟩ := Option.map_eq_some_iff.mp hf
    subst e4
    exact (din_run h2 q2 (y := .non) R e1 e2 e3 fun G' H' x b hb => k G' H' _ x (by rw [hb]; exact .bl _)).1
  | _ => cases hf
theorem t_din (hu : X.A.units + 1 < cLine) (hi : E X e g) (ho : B X o f) (hm : behindInMarks .In o = false := by rfl) : T X (.Compare e [.In] [o] pos) (gT (gOp dDin g f)) := by
  obtain ⟨t, h1, h2⟩ := hi.ex
  obtain ⟨u, q1, q2⟩ := ho.ex
  refine ⟨⟨_, pt_cmp (pc_din hu h1 q1) hm, fun G0 H0 Z Γ σ G H Q c R hf k => ?_⟩⟩
  obtain ⟨x, e1, hf⟩ := obind (gT_some hf)
  obtain ⟨y, e2, hf⟩ := obind hf
  cases y with
  | dic ks xs =>
    obtain ⟨ky, e3, e4⟩ := Option.map_eq_some_iff.mp hf
    cases e4
    exact (din_run h2 q2 (y := .non) R e1 e2 e3 fun G' H' x b hb => ⟨b, rfl, by rw [hb]; exact k G' H' x⟩).1
  | _ => cases hf
theorem e_dnin (hu : X.A.units + 1 < cLine) (hi : E X e g) (ho : B X o f) (hm : behindInMarks .NotIn o = false := by rfl) : E X (.Compare e [.NotIn] [o] pos) (gOp dDnin g f) := by
  obtain ⟨t, h1, h2⟩ := hi.ex
  obtain ⟨u, q1, q2⟩ := ho.ex
  refine ⟨⟨_, pe_cmp (pc_dnotin hu h1 q1) hm, fun G0 H0 Z Γ σ G H Q d R hf k => ?_⟩⟩
  obtain ⟨x, e1, hf⟩ := obind hf
  obtain ⟨y, e2, hf⟩ := obind hf
  cases y with
  | dic ks xs =>
    obtain ⟨ky, e3, e4⟩ := Option.map_eq_some_iff.mp hf
    subst e4
    refine h2 G0 H0 Z Γ σ G H _ x R e1 fun G1 H1 w x1 r1 => ?_
    refine q2 G0 H0 Z Γ σ G1 H1 _ _ (R.ext x1) e2 fun G2 H2 v x2 r2 => ?_
    obtain ⟨p, vs, rfl, hp, hl, rl⟩ := r2.dict x2.gh
    refine ⟨p, valV (ks.zip vs) ky, rfl, ?_, k G2 H2 _ (x1.trans x2) (by rw [valV_zip, valX_some hl]; exact .bl _)⟩
    rw [dKey_rep e3 r1]
    exact DGet.k hp
  | _ => cases hf
theorem t_dnin (hu : X.A.units + 1 < cLine) (hi : E X e g) (ho : B X o f) (hm : behindInMarks .NotIn o = false := by rfl) : T X (.Compare e [.NotIn] [o] pos) (gT (gOp dDnin g f)) := by
  obtain ⟨t, h1, h2⟩ := hi.ex
  obtain ⟨u, q1, q2⟩ := ho.ex
  refine ⟨⟨_, pt_cmp (pc_dnotin hu h1 q1) hm, fun G0 H0 Z Γ σ G H Q c R hf k => ?_⟩⟩
  obtain ⟨x, e1, hf⟩ := obind (gT_some hf)
  obtain ⟨y, e2, hf⟩ := obind hf
  cases y with
  | dic ks xs =>
    obtain ⟨ky, e3, e4⟩ := Option.map_eq_some_iff.mp hf
    cases e4
    refine h2 G0 H0 Z Γ σ G H _ x R e1 fun G1 H1 w x1 r1 => ?_
    refine q2 G0 H0 Z Γ σ G1 H1 _ _ (R.ext x1) e2 fun G2 H2 v x2 r2 => ?_
    obtain ⟨p, vs, rfl, hp, hl, rl⟩ := r2.dict x2.gh
    refine ⟨p, valV (ks.zip vs) ky, rfl, ?_, _, rfl, by rw [valV_zip, valX_some hl]; exact k G2 H2 (x1.trans x2)⟩
    rw [dKey_rep e3 r1]
    exact DGet.k hp
  | _ => cases hf
/-! ### list(d), sorted(d) -/
def dListK : D → Option (List D)
  | .dic ks _ => some (ks.map keyD0)
  | _ => none
theorem cb_listK (hc : X.calm = true) : CbL X (.type "list") dListK := by
  refine ⟨_, call_listD hc, fun x d v G H Q gh e r k => ?_⟩
  cases x with
  | dic ks xs =>
    cases e
    obtain ⟨p, vs, rfl, h, hl, rl⟩ := r.dict gh
    refine ⟨p, _, rfl, .inl h, fun q hq => ?_⟩
    have key : ∀ {ks : List Key} {vs : List V}, ks.length = vs.length → ((ks.zip vs).map fun kv => kV kv.1) = ks.map kV := fun {ks} => by
      induction ks with
      | nil => intro vs _; rfl
      | cons k' ks ih =>
        intro vs hl
        cases vs with
        | nil => simp at hl
        | cons v vs => rw [List.zip_cons_cons, List.map_cons, List.map_cons, ih (by simpa using hl)]
    rw [key hl]
    refine k q _ hq ?_
    clear h hl rl r k key
    induction ks with
    | nil => exact .nil
    | cons k' ks ih => exact .cons (kV_rep k') ih
  | _ => cases e
def intKs : List Key → Option (List Int)
  | [] => some []
  | .inl i :: ks => (intKs ks).map (i :: ·)
  | .inr _ :: _ => none
theorem intKs_map : ∀ {ks : List Key} {ns : List Int}, intKs ks = some ns → ks = ns.map Sum.inl
  | [], _, h => by cases h; rfl
  | .inl i :: ks, ns, h => by
    unfold intKs at h
    obtain ⟨ms, h1, h2⟩ := Option.map_eq_some_iff.mp h
    subst h2
    rw [List.map_cons, ← intKs_map h1]
  | .inr _ :: _, _, h => by cases h
theorem intKs_inl : ∀ ns : List Int, intKs (ns.map Sum.inl) = some ns
  | [] => rfl
  | n :: ns => by rw [List.map_cons, intKs, intKs_inl ns]; rfl
def dSortedK : D → Option (List D)
  | .dic ks _ => (intKs ks).bind fun ns => some ((srt ns).map D.int)
  | _ => none
end
end DL
namespace L2
open PySem PySem.Spec PyProof.Rows
section
variable {X : Cx}
/-- sorted(d) of a dict, all keys ints, any number of them -/
theorem call_sortedDA (calm : X.calm = true) : CallR X (.builtin "sorted") (fun args H Q => ∃ (d : Addr) (kvs : List (Key × V)) (ns : List Int), args = [.ref d] ∧ Rd H d (.dK kvs) ∧ kvs.map (·.1) = ns.map Sum.inl ∧
    ∀ (out : List Int) (q : Addr), out.Perm ns → out.Pairwise (· ≤ ·) → H q = none → Q (.ref q) (upd H q (.lst (out.map V.int)))) := by
  intro pins st sl H args vals Q inv rel hyp
  obtain ⟨d, kvs, ns, rfl, std, keys, fin⟩ := hyp
  obtain ⟨w, rfl, rw0⟩ := vals1 rel
  cases rw0
  obtain ⟨small, noMod, prs, both, isD⟩ := dk_rd inv.hok std
  obtain ⟨epoch, found⟩ := isD.dictAt
  have keys2 : prs.map (·.1) = ns.map Sum.inl := both.keys ▸ keys
  have many : prs.length = ns.length := by simpa using congrArg List.length keys2
  have few : prs.length ≤ sizeLine := both.length ▸ small
  refine Calls.call_function_entry PyProof.Rows.kind_sorted PyProof.Rows.plain_sorted PyProof.Rows.entry_sorted (PyProof.Rows.args_sorted1 _) ?_
  unfold Builtin.«sorted»
  refine wpAny_bind (m := checkCount "sorted" 1 1 _) (wpAny_pure (wpAny_bind (PySem.W.kdu_collect (A := X.A.in1) (PySem.W.kdl_dict (knd := mixKind X.prog X.w) (kvs := prs) (ep := epoch) noMod) (inv.ok.hd calm) found few fun heap2 tok2 got stays told => ?_)))
  have num : got.toList.length = ns.length := by rw [Array.length_toList, told.1, many]
  -- what was collected are the keys, all of them whole numbers
  have whole : IntsAre got.toList ns := ints_each num fun place u at0 => by
    obtain ⟨key, y, there, isKey⟩ := told.2 place u (by rw [← Array.getElem?_toList]; exact at0)
    have same : (ns.map Sum.inl)[place]? = some key := by rw [← keys2, List.getElem?_map, there]; rfl
    obtain ⟨n, hn, rfl⟩ := Option.map_eq_some_iff.mp ((List.getElem?_map ..).symm.trans same)
    rcases keyIs_shape (show keyIs (Sum.inl n) u = true from isKey) with ⟨m, tk, e, eu⟩ | ⟨x, tk, e, eu⟩
    · cases e; exact ⟨n, tk, hn, eu⟩
    · cases e
  have inv2 : Inv X pins sl H { st with heap := heap2, toks := tok2 } := inv.kept stays
  have line : got.toList.length ≤ sizeLine := by rw [num, ← many]; exact few
  refine wpAny_bind (wpAny_newList ?_ line)
  have laid : (heap2.push (seqObj "list" got.toList.toArray 0)).get? heap2.objs.size = some (seqObj "list" got.toList.toArray 0) := Heap.get?_push_size _ rfl
  show wpAny _ _ _ _ _ { st with heap := heap2.push (seqObj "list" got.toList.toArray 0), toks := tok2 }
  refine wpAny_bind (wpAny_holding (wpAny_call_entry PyProof.Rows.slot_list_sort ⟨_, laid, rfl⟩ PyProof.Rows.entry_list_sort (SrtO.list_sort_ord (s := { st with heap := heap2.push (seqObj "list" got.toList.toArray 0), toks := tok2 }) SrtO.swo_int laid line (fun two => SrtO.ints_sortable whole two) fun out up stable => ⟨_, rfl, ?_⟩) (PyProof.Rows.args_list_sort _)))
  obtain ⟨isI, perm, rising⟩ := SrtO.ints_out whole up stable
  obtain ⟨ep2, end2⟩ := PyProof.Rows.sortedHeap_at (vs := got.toList) (out := out.toArray) laid
  have line2 : ((out.map SrtO.iv).map V.int).length ≤ sizeLine := by rw [List.length_map, perm.length_eq, ← num]; exact line
  have ok : ObjOk X.prog X.w (upd H heap2.objs.size (.lst ((out.map SrtO.iv).map V.int))) _ heap2.objs.size (.lst ((out.map SrtO.iv).map V.int)) := ⟨line2, out, ep2, vals_of_ints isI, end2⟩
  refine wpAny_pure ⟨_, rfl, .ref heap2.objs.size, _, inv2.laid (t' := tok2) (fun b u there => ?_) (Nat.le_refl _) ok, rfl, fin _ _ perm rising (inv2.hok.fresh (Nat.le_refl _))⟩
  have below : b < heap2.objs.size := Heap.lt_size there
  rw [PyProof.Rows.sortedHeap_old (Nat.ne_of_lt below) (size_push' .. ▸ Nat.lt_succ_of_lt below)]
  exact Heap.get?_push_of_some _ there
end
end L2
namespace DL
open PySem L2
variable [TC : TabCtx]
section
variable {X : Cx} {e a b o : Expr} {f g : Ex} {pos pos' : Pos} {st : Stmt} {F : Sm} {i : Nat} {rp : Pth}
theorem cb_sortedK (hc : X.calm = true) : CbL X (.builtin "sorted") dSortedK := by
  refine ⟨_, call_sortedDA hc, fun x d v G H Q gh e r k => ?_⟩
  cases x with
  | dic ks xs =>
    obtain ⟨ns, e1, e2⟩ := obind e
    cases e2
    obtain ⟨p, vs, rfl, h, hl, rl⟩ := r.dict gh
    have e3 := intKs_map e1
    refine ⟨p, _, ns, rfl, .inl h, ?_, fun ys q hp ho hq => ?_⟩
    · rw [← e3, List.map_fst_zip (by omega)]
    · rw [srt_unique (hp.trans (srt_perm ns).symm) ho (srt_le ns)]
      exact k q _ hq .ofInts
  | _ => cases e
/-! ### d.get(k), d.get(k, x) -/
def dDget1 : D → D → Option D
  | .dic ks xs, j => (dKey j).map fun k => (valX ks xs k).getD .non
  | _, _ => none
theorem e_dget1 {apos cpos : Pos} (hu : X.A.units + 1 < cLine) (ho : B X o f) (hi : E X e g) (m : M1 X o "get" apos e cpos := by exact ⟨rfl, rfl, rfl, rfl⟩) : E X (.Call (.Attribute o "get" apos) [e] [] cpos) (gOp dDget1 f g) := by
  obtain ⟨t, h1, h2⟩ := ho.ex
  obtain ⟨u, q1, q2⟩ := hi.ex
  refine ⟨⟨_, pe_dget1 hu h1 q1 m, fun G0 H0 Z Γ σ G H Q d R hf k => ?_⟩⟩
  obtain ⟨x, e1, hf⟩ := obind hf
  obtain ⟨y, e2, hf⟩ := obind hf
  refine h2 G0 H0 Z Γ σ G H _ x R e1 fun G1 H1 v x1 r1 => ?_
  cases x with
  | dic ks xs =>
    obtain ⟨ky, e3, e4⟩ := Option.map_eq_some_iff.mp hf
    subst e4
    obtain ⟨p, vs, rfl, hp, hl, rl⟩ := r1.dict x1.gh
    refine ⟨p, rfl, .inl ⟨_, .inl hp⟩, ?_⟩
    refine q2 G0 H0 Z Γ σ G1 H1 _ y (R.ext x1) e2 fun G2 H2 w x2 r2 => ?_
    obtain ⟨p', vs', ep, hp, hl, rl⟩ := (r1.ext x2).dict x2.gh
    cases ep
    refine ⟨valV (ks.zip vs') ky, ?_, ?_⟩
    · rw [dKey_rep e3 r2]
      exact DGet.k hp
    · rw [valV_zip]
      cases q : valX ks xs ky with
      | none => rw [valX_none rl q]; rw [q] at k; exact k G2 H2 _ (x1.trans x2) .non
      | some d =>
        obtain ⟨v, ev, rv⟩ := valX_rep rl q
        rw [ev]
        rw [q] at k
        exact k G2 H2 _ (x1.trans x2) rv
  | _ => cases hf
/-! ### d[k] = v -/
def sDPut' (i : Nat) (rp : Pth) (k f : Ex) : Sm := fun Γ => (f Γ).bind fun d => (k Γ).bind fun j => match gP i rp Γ with
  | some (.dk ks xs) => (dKey j).bind fun ky => if ks.length < 1000000 then upP i rp (.dk (putKs ks ky) (putXs ks xs ky d)) Γ else none
  | _ => none
theorem Pack.dict {K : PySem.W.Frag} {mg : Str → Option Value} {G0 H0 : Hp} {Z : Zs} {Γ : DEnv} {σ : L2.St} {G H : Hp} {i : Nat} {rp : Pth} {s : Sl} {ks : List Key} {xs : List D} {v : V} {F1 : Addr → Prop} (gh : Same G H) {Hb : Hp} (P : Pack K mg G0 H0 Z Γ σ i rp s (.dk ks xs) v F1 Hb G H) :
    ∃ l vs, v = .ref l ∧ H l = some (.dK (ks.zip vs)) ∧ ks.length = vs.length ∧ RepL K mg G vs xs ∧ ∀ ks' vs' ys s', ks'.length = vs'.length → RepL K mg G vs' ys → setR rp (.dk ks' ys) s = some s' → Rel K mg G0 H0 Z (Γ.set i s') σ G (upd H l (.dK (ks'.zip vs'))) := by
  have hd := P.hd
  cases hd with
  | dk f h hl r =>
    rename_i l vs
    refine ⟨l, vs, rfl, h, hl, r, fun ks' vs' ys s' hl' r' es => ?_⟩
    have gl := (P.fr l f).1
    refine P.up G _ (fun a => a = l) (.dk ks' ys) s' (Same.refl _) (fun a o q => ?_) (fun a q => .inl q) (fun a o nf q => ?_) (.dk rfl upd_same hl' r') (fun a e => ?_) (fun _ => rfl) es
    · rw [upd_ne (ne_of_none q gl)]; exact gh _ _ q
    · rw [upd_ne]
      · exact q
      · intro e; subst e; exact nf f
    · subst e
      exact ⟨gl, by rw [upd_same]; simp, .inl f⟩
theorem s_dput {sp : Pos} {value : Expr} (hu : X.A.units + 1 < cLine) (hp : PL X o i rp) (he : E X value f) (hk : E X e g)
    (hs : swapsWith value (some (.Subscript o e sp)) pos.line X.env = pure false := by rfl) : S X (.Assign [.Subscript o e sp] value pos) (sDPut' i rp g f) := by
  obtain ⟨t, t1, t2⟩ := he.ex
  obtain ⟨u, u1, u2⟩ := hk.ex
  obtain ⟨w, w1, w2⟩ := hp.ex
  refine ⟨⟨_, ps_dput hu w1 u1 t1 hs, fun G0 H0 Z Γ σ G H D r R hf kk => ?_⟩⟩
  obtain ⟨d, e1, hf⟩ := obind hf
  obtain ⟨j, e2, hf⟩ := obind hf
  refine t2 G0 H0 Z Γ σ G H _ d R e1 fun G1 H1 v x1 r1 => ?_
  have R1 := R.ext x1
  cases q : gP i rp Γ with
  | none => rw [q] at hf; cases hf
  | some s1 =>
    rw [q] at hf
    cases s1 with
    | dk ks xs =>
      obtain ⟨ky, e3, hf⟩ := obind hf
      split at hf
      · rename_i hlen
        obtain ⟨s, s2, a1, a2, rfl⟩ := upP_some hf
        obtain ⟨s', b1, b2, b3⟩ := gP_some q (by simp [SlP])
        rw [a1] at b1
        cases b1
        refine w2 G0 H0 Z Γ σ G1 H1 G1 H1 _ s _ R1 (Ext.refl x1.gh) a1 b2 b3 (by simp) fun v0 pk => ?_
        refine u2 G0 H0 Z Γ σ G1 H1 _ _ R1 e2 fun G2 H2 w x2 r2 => ?_
        obtain ⟨F1, p1⟩ := pk G2 H2 x2
        obtain ⟨l, vs, rfl, d1, dl, d2, d3⟩ := p1.dict x2.gh
        refine ⟨l, _, rfl, ?_, kk σ G2 _ (d3 (putKs ks ky) (putXs ks vs ky v) _ _ (putKs_len _ _ dl) (putXs_rep (r1.mono x2.gg) d2) a2)⟩
        rw [dKey_rep e3 r2, ← putK_zip ky v dl]
        refine DPut.k d1 ?_
        rw [List.length_zip, ← dl, Nat.min_self]
        exact Nat.lt_of_lt_of_le hlen line_big
      · cases hf
    | _ => cases hf
/-! ### what stands at a place becomes known -/
def frzPE (i : Nat) (rp : Pth) (Γ : DEnv) : DEnv := match Γ[i]? with
  | none => Γ
  | some s => match getR rp s with
    | some (.ow xs) => (match setR rp (.sh (.lst xs)) s with | some s' => Γ.set i s' | none => Γ)
    | some (.dk ks xs) => (match setR rp (.sh (.dic ks xs)) s with | some s' => Γ.set i s' | none => Γ)
    | _ => Γ
def sFrzP (i : Nat) (rp : Pth) (f : Sm) : Sm := fun Γ => f (frzPE i rp Γ)
theorem Rel.frzPE {K : PySem.W.Frag} {mg : Str → Option Value} {G0 H0 : Hp} {Z : Zs} {Γ : DEnv} {σ : L2.St} {G H : Hp} (R : Rel K mg G0 H0 Z Γ σ G H) (i : Nat) (rp : Pth) : ∃ G', Rel K mg G0 H0 Z (frzPE i rp Γ) σ G' H := by
  unfold DL.frzPE
  split
  · exact ⟨G, R⟩
  · rename_i s hs
    split
    · rename_i xs q
      split
      · rename_i s' es
        obtain ⟨s0, b1, b2, b3⟩ := gP_some (i := i) (rp := rp) (Γ := Γ) (s1 := .ow xs) (by unfold gP; rw [hs]; exact q) (by simp [SlP])
        rw [hs] at b1
        cases b1
        obtain ⟨G', R', _⟩ := R.frzP (rp := rp) (d := .lst xs) hs q (by simp) b3 (by simp only [toD]) es
        exact ⟨G', R'⟩
      · exact ⟨G, R⟩
    · rename_i ks xs q
      split
      · rename_i s' es
        obtain ⟨s0, b1, b2, b3⟩ := gP_some (i := i) (rp := rp) (Γ := Γ) (s1 := .dk ks xs) (by unfold gP; rw [hs]; exact q) (by simp [SlP])
        rw [hs] at b1
        cases b1
        obtain ⟨G', R', _⟩ := R.frzP (rp := rp) (d := .dic ks xs) hs q (by simp) b3 (by simp only [toD]) es
        exact ⟨G', R'⟩
      · exact ⟨G, R⟩
    · exact ⟨G, R⟩
theorem s_frzP (i : Nat) (rp : Pth) (h : S X st F) : S X st (sFrzP i rp F) := by
  obtain ⟨t, h1, h2⟩ := h.ex
  refine ⟨⟨t, h1, fun G0 H0 Z Γ σ G H D r R hf k => ?_⟩⟩
  obtain ⟨G', R'⟩ := R.frzPE i rp
  exact h2 G0 H0 _ _ σ G' H D r R' hf k
end
end DL

namespace K41
open PySem L2 DL
def topS (i : Nat) : Stmt := PySem.Challenge.pw_fewestlines_k41_runs_of_a_store.main.body.getD i (.Pass ⟨0, 0, 0, 0⟩)
section
variable {P : Program} {w : World} {K : PySem.W.Frag} {mg : Str → Option Value} {base : Heap} [TC : TabCtx]
/-! _wall -/
abbrev s__wall : Stmt := topS 1
abbrev N__wall : List Str := ["k"]
theorem sc__wall : FnScope N__wall ["k"] (defScope s__wall) := ⟨rfl, rfl, rfl, by decide +kernel, rfl, by decide +kernel, by decide +kernel⟩
noncomputable def B__wall : Sm :=
  (sWhile (gTru (gC (.bl true)))
  sNil)
noncomputable def S__wall : List D → Option D := runB 1 B__wall
theorem ok__wall {f : Addr} {fd : FuncData} (F : Fun K "_wall" "_wall" s__wall f fd) : FnOk P w K mg base CX0 1 f fd ["k"] (spD K mg 1 S__wall) :=
  def_ok F sc__wall fun cdv A outer s H E hr =>
  (ss_one (s_while PassesOwn.never (t_tru e_bl.bo)
  (ss_one s_pass)))
/-! kept -/
abbrev s_kept : Stmt := topS 3
abbrev N_kept : List Str := ["chain", "vertex", "side", "place", "height", "_", "count", "back", "low", "near", "high"]
theorem sc_kept : FnScope N_kept ["chain", "vertex", "side"] (defScope s_kept) := ⟨rfl, rfl, rfl, by decide +kernel, rfl, by decide +kernel, by decide +kernel⟩
noncomputable def B_kept : Sm :=
  (sSeq (sUnp (gTg 3 (gTo (gN 3) (gTo (gN 4) (gTo (gN 5) gEnd)))) (gV 1))
  (sSeq (sSet 6 (gU dLen (gB 0)))
  (sSeq (sWhile (gT (gOp dGt (gV 6) (gI 1)))
  (sSeq (sUnp (gTg 3 (gTo (gN 7) (gTo (gN 8) (gTo (gN 5) gEnd)))) (gIx (gB 0) (gOp dSub (gV 6) (gI 2))))
  (sSeq (sUnp (gTg 3 (gTo (gN 9) (gTo (gN 10) (gTo (gN 5) gEnd)))) (gIx (gB 0) (gOp dSub (gV 6) (gI 1))))
  (sSeq (sIf (gT (gOp dGt (gOp dMul (gV 2) (gOp dSub (gOp dMul (gOp dSub (gV 10) (gV 8)) (gOp dSub (gV 3) (gV 7))) (gOp dMul (gOp dSub (gV 4) (gV 8)) (gOp dSub (gV 9) (gV 7))))) (gI 0)))
  sBrk
  sNil)
  (sAug dSub 6 (gI 1))))))
  (sRet (gV 6)))))
noncomputable def S_kept : List D → Option D := runK [true, false, false] 11 B_kept
theorem ok_kept {f : Addr} {fd : FuncData} (F : Fun K "kept" "kept" s_kept f fd) (m_len : mg "len" = none) : FnOk P w K mg base CX0 1 f fd ["chain", "vertex", "side"] (spK K mg [true, false, false] S_kept) :=
  def_okK F sc_kept rfl fun cdv A outer s H E hr =>
  (ss_cons (s_unp (e_var 1) (g_tup rfl (gl_cons (g_name 3 sc_kept.nd) (gl_cons (g_name 4 sc_kept.nd) (gl_cons (g_name 5 sc_kept.nd) gl_nil)))))
  (ss_cons (s_set 6 sc_kept.nd (e_cb cb_len (by rfl) m_len boot_len' (b_var 0)))
  (ss_cons (s_while PassesOwn.never (t_cmp od_gt (e_var 6) e_int)
  (ss_cons (s_unp (e_ix (b_var 0) (e_op od_sub (e_var 6) e_int)) (g_tup rfl (gl_cons (g_name 7 sc_kept.nd) (gl_cons (g_name 8 sc_kept.nd) (gl_cons (g_name 5 sc_kept.nd) gl_nil)))))
  (ss_cons (s_unp (e_ix (b_var 0) (e_op od_sub (e_var 6) e_int)) (g_tup rfl (gl_cons (g_name 9 sc_kept.nd) (gl_cons (g_name 10 sc_kept.nd) (gl_cons (g_name 5 sc_kept.nd) gl_nil)))))
  (ss_cons (s_if (t_cmp od_gt (e_op od_mul (e_var 2) (e_op od_sub (e_op od_mul (e_op od_sub (e_var 10) (e_var 8)) (e_op od_sub (e_var 3) (e_var 7))) (e_op od_mul (e_op od_sub (e_var 4) (e_var 8)) (e_op od_sub (e_var 9) (e_var 7))))) e_int)
  (ss_one s_break)
  ss_nil)
  (ss_one (s_augS 6 sc_kept.nd e_int))))))
  (ss_one (s_ret (e_var 6))))))
/-! farthest -/
abbrev s_farthest : Stmt := topS 4
abbrev N_farthest : List Str := ["chain", "rise", "run", "first", "last", "middle", "place", "height", "_", "farther", "other"]
theorem sc_farthest : FnScope N_farthest ["chain", "rise", "run"] (defScope s_farthest) := ⟨rfl, rfl, rfl, by decide +kernel, rfl, by decide +kernel, by decide +kernel⟩
noncomputable def B_farthest : Sm :=
  (sSeq (sPar [3, 4] (aC (gI 0) (aC (gOp dSub (gU dLen (gB 0)) (gI 1)) aN)))
  (sSeq (sWhile (gT (gOp dLt (gV 3) (gV 4)))
  (sSeq (sSet 5 (gOp dDiv (gOp dAdd (gV 3) (gV 4)) (gI 2)))
  (sSeq (sUnp (gTg 3 (gTo (gN 6) (gTo (gN 7) (gTo (gN 8) gEnd)))) (gIx (gB 0) (gV 5)))
  (sSeq (sUnp (gTg 3 (gTo (gN 9) (gTo (gN 10) (gTo (gN 8) gEnd)))) (gIx (gB 0) (gOp dAdd (gV 5) (gI 1))))
  (sIf (gT (gOp dGt (gOp dMul (gV 1) (gOp dSub (gV 9) (gV 6))) (gOp dMul (gV 2) (gOp dSub (gV 10) (gV 7)))))
  (sSet 3 (gOp dAdd (gV 5) (gI 1)))
  (sSet 4 (gV 5)))))))
  (sRet (gIx (gB 0) (gV 3)))))
noncomputable def S_farthest : List D → Option D := runK [true, false, false] 11 B_farthest
theorem ok_farthest {f : Addr} {fd : FuncData} (F : Fun K "farthest" "farthest" s_farthest f fd) (m_len : mg "len" = none) : FnOk P w K mg base CX0 1 f fd ["chain", "rise", "run"] (spK K mg [true, false, false] S_farthest) :=
  def_okK F sc_farthest rfl fun cdv A outer s H E hr =>
  (ss_cons (s_par rfl sc_farthest.nd (n_cons e_int (n_cons (e_op od_sub (e_cb cb_len (by rfl) m_len boot_len' (b_var 0)) e_int) n_nil)))
  (ss_cons (s_while PassesOwn.never (t_cmp od_lt (e_var 3) (e_var 4))
  (ss_cons (s_set 5 sc_farthest.nd (e_op od_div (e_op od_add (e_var 3) (e_var 4)) e_int))
  (ss_cons (s_unp (e_ix (b_var 0) (e_var 5)) (g_tup rfl (gl_cons (g_name 6 sc_farthest.nd) (gl_cons (g_name 7 sc_farthest.nd) (gl_cons (g_name 8 sc_farthest.nd) gl_nil)))))
  (ss_cons (s_unp (e_ix (b_var 0) (e_op od_add (e_var 5) e_int)) (g_tup rfl (gl_cons (g_name 9 sc_farthest.nd) (gl_cons (g_name 10 sc_farthest.nd) (gl_cons (g_name 8 sc_farthest.nd) gl_nil)))))
  (ss_one (s_if (t_cmp od_gt (e_op od_mul (e_var 1) (e_op od_sub (e_var 9) (e_var 6))) (e_op od_mul (e_var 2) (e_op od_sub (e_var 10) (e_var 7))))
  (ss_one (s_set 3 sc_farthest.nd (e_op od_add (e_var 5) e_int)))
  (ss_one (s_set 4 sc_farthest.nd (e_var 5)))))))))
  (ss_one (s_ret (e_ix (b_var 0) (e_var 3))))))
/-! reduced -/
abbrev s_reduced : Stmt := topS 6
abbrev N_reduced : List Str := ["line", "p", "q", "d", "divisor"]
theorem sc_reduced : FnScope N_reduced ["line"] (defScope s_reduced) := ⟨rfl, rfl, rfl, by decide +kernel, rfl, by decide +kernel, by decide +kernel⟩
noncomputable def B_reduced : Sm :=
  (sSeq (sUnp (gTg 3 (gTo (gN 1) (gTo (gN 2) (gTo (gN 3) gEnd)))) (gV 0))
  (sSeq (sSet 4 (gA dGcd (aC (gA dGcd (aC (gV 1) (aC (gV 2) aN))) (aC (gV 3) aN))))
  (sRet (gTu 3 (aC (gOp dDiv (gV 1) (gV 4)) (aC (gOp dDiv (gV 2) (gV 4)) (aC (gOp dDiv (gV 3) (gV 4)) aN)))))))
noncomputable def S_reduced : List D → Option D := runB 5 B_reduced
theorem ok_reduced {f : Addr} {fd : FuncData} (F : Fun K "reduced" "reduced" s_reduced f fd) (m_gcd : mg "gcd" = some (.builtin "math.gcd")) : FnOk P w K mg base CX0 1 f fd ["line"] (spD K mg 1 S_reduced) :=
  def_ok F sc_reduced fun cdv A outer s H E hr =>
  (ss_cons (s_unp (e_var 0) (g_tup rfl (gl_cons (g_name 1 sc_reduced.nd) (gl_cons (g_name 2 sc_reduced.nd) (gl_cons (g_name 3 sc_reduced.nd) gl_nil)))))
  (ss_cons (s_set 4 sc_reduced.nd (e_cbf cb_gcd (by rfl) m_gcd (n_cons (e_cbf cb_gcd (by rfl) m_gcd (n_cons (e_var 1) (n_cons (e_var 2) n_nil)).a) (n_cons (e_var 3) n_nil)).a))
  (ss_one (s_ret (e_tup (n_cons (e_op od_div (e_var 1) (e_var 4)) (n_cons (e_op od_div (e_var 2) (e_var 4)) (n_cons (e_op od_div (e_var 3) (e_var 4)) n_nil))))))))
/-! floor_at -/
abbrev s_floor_at : Stmt := topS 7
abbrev N_floor_at : List Str := ["line", "place", "p", "q", "d"]
theorem sc_floor_at : FnScope N_floor_at ["line", "place"] (defScope s_floor_at) := ⟨rfl, rfl, rfl, by decide +kernel, rfl, by decide +kernel, by decide +kernel⟩
noncomputable def B_floor_at : Sm :=
  (sSeq (sUnp (gTg 3 (gTo (gN 2) (gTo (gN 3) (gTo (gN 4) gEnd)))) (gV 0))
  (sRet (gOp dDiv (gOp dAdd (gOp dMul (gV 2) (gV 1)) (gV 3)) (gV 4))))
noncomputable def S_floor_at : List D → Option D := runB 5 B_floor_at
theorem ok_floor_at {f : Addr} {fd : FuncData} (F : Fun K "floor_at" "floor_at" s_floor_at f fd) : FnOk P w K mg base CX0 1 f fd ["line", "place"] (spD K mg 2 S_floor_at) :=
  def_ok F sc_floor_at fun cdv A outer s H E hr =>
  (ss_cons (s_unp (e_var 0) (g_tup rfl (gl_cons (g_name 2 sc_floor_at.nd) (gl_cons (g_name 3 sc_floor_at.nd) (gl_cons (g_name 4 sc_floor_at.nd) gl_nil)))))
  (ss_one (s_ret (e_op od_div (e_op od_add (e_op od_mul (e_var 2) (e_var 1)) (e_var 3)) (e_var 4)))))
/-! ceiling_at -/
abbrev s_ceiling_at : Stmt := topS 8
abbrev N_ceiling_at : List Str := ["line", "place", "p", "q", "d"]
theorem sc_ceiling_at : FnScope N_ceiling_at ["line", "place"] (defScope s_ceiling_at) := ⟨rfl, rfl, rfl, by decide +kernel, rfl, by decide +kernel, by decide +kernel⟩
noncomputable def B_ceiling_at : Sm :=
  (sSeq (sUnp (gTg 3 (gTo (gN 2) (gTo (gN 3) (gTo (gN 4) gEnd)))) (gV 0))
  (sRet (gU dNeg (gOp dDiv (gOp dSub (gOp dMul (gU dNeg (gV 2)) (gV 1)) (gV 3)) (gV 4)))))
noncomputable def S_ceiling_at : List D → Option D := runB 5 B_ceiling_at
theorem ok_ceiling_at {f : Addr} {fd : FuncData} (F : Fun K "ceiling_at" "ceiling_at" s_ceiling_at f fd) : FnOk P w K mg base CX0 1 f fd ["line", "place"] (spD K mg 2 S_ceiling_at) :=
  def_ok F sc_ceiling_at fun cdv A outer s H E hr =>
  (ss_cons (s_unp (e_var 0) (g_tup rfl (gl_cons (g_name 2 sc_ceiling_at.nd) (gl_cons (g_name 3 sc_ceiling_at.nd) (gl_cons (g_name 4 sc_ceiling_at.nd) gl_nil)))))
  (ss_one (s_ret (e_neg (e_op od_div (e_op od_sub (e_op od_mul (e_neg (e_var 2)) (e_var 1)) (e_var 3)) (e_var 4))))))
/-! exceeds -/
abbrev s_exceeds : Stmt := topS 10
abbrev N_exceeds : List Str := ["deviation", "error"]
theorem sc_exceeds : FnScope N_exceeds ["deviation", "error"] (defScope s_exceeds) := ⟨rfl, rfl, rfl, by decide +kernel, rfl, by decide +kernel, by decide +kernel⟩
noncomputable def B_exceeds : Sm :=
  (sRet (gOp dGt (gIx (gB 0) (gI 0)) (gOp dMul (gOp dMul (gI 2) (gV 1)) (gIx (gB 0) (gI 1)))))
noncomputable def S_exceeds : List D → Option D := runB 2 B_exceeds
theorem ok_exceeds {f : Addr} {fd : FuncData} (F : Fun K "exceeds" "exceeds" s_exceeds f fd) : FnOk P w K mg base CX0 1 f fd ["deviation", "error"] (spD K mg 2 S_exceeds) :=
  def_ok F sc_exceeds fun cdv A outer s H E hr =>
  (ss_one (s_ret (e_cmp od_gt (e_ix (b_var 0) e_int) (e_op od_mul (e_op od_mul e_int (e_var 1)) (e_ix (b_var 0) e_int)))))
/-! middle_line -/
abbrev s_middle_line : Stmt := topS 11
abbrev N_middle_line : List Str := ["deviation", "run", "place", "height", "_", "between", "level", "rise", "above"]
theorem sc_middle_line : FnScope N_middle_line ["deviation"] (defScope s_middle_line) := ⟨rfl, rfl, rfl, by decide +kernel, rfl, by decide +kernel, by decide +kernel⟩
noncomputable def B_middle_line : Sm :=
  (sSeq (sSet 1 (gIx (gB 0) (gI 1)))
  (sSeq (sUnp (gTg 3 (gTo (gN 2) (gTo (gN 3) (gTo (gN 4) gEnd)))) (gIx (gB 0) (gI 2)))
  (sSeq (sUnp (gTg 3 (gTo (gN 5) (gTo (gN 6) (gTo (gN 4) gEnd)))) (gIx (gB 0) (gI 3)))
  (sSeq (sSet 7 (gOp dSub (gIx (gIx (gB 0) (gI 4)) (gI 1)) (gV 3)))
  (sSeq (sSet 8 (gOp dAdd (gOp dMul (gV 1) (gOp dSub (gV 3) (gV 6))) (gOp dMul (gV 7) (gOp dSub (gV 5) (gV 2)))))
  (sRet (gCall S_reduced (aC (gTu 3 (aC (gOp dMul (gI 2) (gV 7)) (aC (gOp dSub (gOp dMul (gI 2) (gOp dSub (gOp dMul (gV 1) (gV 3)) (gOp dMul (gV 7) (gV 2)))) (gV 8)) (aC (gOp dMul (gI 2) (gV 1)) aN)))) aN))))))))
noncomputable def S_middle_line : List D → Option D := runB 9 B_middle_line
theorem ok_middle_line {f : Addr} {fd : FuncData} (F : Fun K "middle_line" "middle_line" s_middle_line f fd) (c_reduced : Cal P w K mg base "reduced" 1 ["line"] S_reduced) : FnOk P w K mg base CX0 2 f fd ["deviation"] (spD K mg 1 S_middle_line) :=
  def_ok F sc_middle_line fun cdv A outer s H E hr =>
  (ss_cons (s_set 1 sc_middle_line.nd (e_ix (b_var 0) e_int))
  (ss_cons (s_unp (e_ix (b_var 0) e_int) (g_tup rfl (gl_cons (g_name 2 sc_middle_line.nd) (gl_cons (g_name 3 sc_middle_line.nd) (gl_cons (g_name 4 sc_middle_line.nd) gl_nil)))))
  (ss_cons (s_unp (e_ix (b_var 0) e_int) (g_tup rfl (gl_cons (g_name 5 sc_middle_line.nd) (gl_cons (g_name 6 sc_middle_line.nd) (gl_cons (g_name 4 sc_middle_line.nd) gl_nil)))))
  (ss_cons (s_set 7 sc_middle_line.nd (e_op od_sub (e_ix (e_ix (b_var 0) e_int).bo e_int) (e_var 3)))
  (ss_cons (s_set 8 sc_middle_line.nd (e_op od_add (e_op od_mul (e_var 1) (e_op od_sub (e_var 3) (e_var 6))) (e_op od_mul (e_var 7) (e_op od_sub (e_var 5) (e_var 2)))))
  (ss_one (s_ret (e_callC c_reduced hr (by decide) (n_cons (e_tup (n_cons (e_op od_mul e_int (e_var 7)) (n_cons (e_op od_sub (e_op od_mul e_int (e_op od_sub (e_op od_mul (e_var 1) (e_var 3)) (e_op od_mul (e_var 7) (e_var 2)))) (e_var 8)) (n_cons (e_op od_mul e_int (e_var 1)) n_nil)))) n_nil)))))))))
/-! indexes_of -/
abbrev s_indexes_of : Stmt := topS 12
abbrev N_indexes_of : List Str := ["deviation"]
theorem sc_indexes_of : FnScope N_indexes_of ["deviation"] (defScope s_indexes_of) := ⟨rfl, rfl, rfl, by decide +kernel, rfl, by decide +kernel, by decide +kernel⟩
noncomputable def B_indexes_of : Sm :=
  (sRet (gTu 3 (aC (gIx (gIx (gB 0) (gI 2)) (gI 2)) (aC (gIx (gIx (gB 0) (gI 3)) (gI 2)) (aC (gIx (gIx (gB 0) (gI 4)) (gI 2)) aN)))))
noncomputable def S_indexes_of : List D → Option D := runB 1 B_indexes_of
theorem ok_indexes_of {f : Addr} {fd : FuncData} (F : Fun K "indexes_of" "indexes_of" s_indexes_of f fd) : FnOk P w K mg base CX0 1 f fd ["deviation"] (spD K mg 1 S_indexes_of) :=
  def_ok F sc_indexes_of fun cdv A outer s H E hr =>
  (ss_one (s_ret (e_tup (n_cons (e_ix (e_ix (b_var 0) e_int).bo e_int) (n_cons (e_ix (e_ix (b_var 0) e_int).bo e_int) (n_cons (e_ix (e_ix (b_var 0) e_int).bo e_int) n_nil))))))
/-! deviation_under -/
abbrev s_deviation_under : Stmt := topS 14
abbrev N_deviation_under : List Str := ["first", "vertex", "other", "side", "run", "rise", "middle", "over"]
theorem sc_deviation_under : FnScope N_deviation_under ["first", "vertex", "other", "side"] (defScope s_deviation_under) := ⟨rfl, rfl, rfl, by decide +kernel, rfl, by decide +kernel, by decide +kernel⟩
noncomputable def B_deviation_under : Sm :=
  (sSeq (sSet 4 (gOp dSub (gIx (gB 1) (gI 0)) (gIx (gB 0) (gI 0))))
  (sSeq (sSet 5 (gOp dSub (gIx (gB 1) (gI 1)) (gIx (gB 0) (gI 1))))
  (sSeq (sSet 6 (gCall S_farthest (aC (gB 2) (aC (gOp dMul (gV 3) (gV 5)) (aC (gOp dMul (gV 3) (gV 4)) aN)))))
  (sSeq (sIf (gT (gOp dLt (gIx (gB 6) (gI 0)) (gIx (gB 0) (gI 0))))
  (sRet (gC .non))
  sNil)
  (sSeq (sSet 7 (gOp dMul (gV 3) (gOp dAdd (gOp dMul (gV 4) (gOp dSub (gIx (gB 0) (gI 1)) (gIx (gB 6) (gI 1)))) (gOp dMul (gV 5) (gOp dSub (gIx (gB 6) (gI 0)) (gIx (gB 0) (gI 0)))))))
  (sRet (gTu 5 (aC (gV 7) (aC (gV 4) (aC (gV 0) (aC (gV 6) (aC (gV 1) aN))))))))))))
noncomputable def S_deviation_under : List D → Option D := runK [false, false, true, false] 8 B_deviation_under
theorem ok_deviation_under {f : Addr} {fd : FuncData} (F : Fun K "deviation_under" "deviation_under" s_deviation_under f fd) (c_farthest : CalK P w K mg base "farthest" 1 ["chain", "rise", "run"] [true, false, false] S_farthest) : FnOk P w K mg base CX0 2 f fd ["first", "vertex", "other", "side"] (spK K mg [false, false, true, false] S_deviation_under) :=
  def_okK F sc_deviation_under rfl fun cdv A outer s H E hr =>
  (ss_cons (s_set 4 sc_deviation_under.nd (e_op od_sub (e_ix (b_var 1) e_int) (e_ix (b_var 0) e_int)))
  (ss_cons (s_set 5 sc_deviation_under.nd (e_op od_sub (e_ix (b_var 1) e_int) (e_ix (b_var 0) e_int)))
  (ss_cons (s_set 6 sc_deviation_under.nd (e_callK c_farthest hr (by decide) (m_bo (b_var 2) (m_sh (e_op od_mul (e_var 3) (e_var 5)) (m_sh (e_op od_mul (e_var 3) (e_var 4)) m_nil)))))
  (ss_cons (s_if (t_cmp od_lt (e_ix (b_var 6) e_int) (e_ix (b_var 0) e_int))
  (ss_one (s_ret e_non))
  ss_nil)
  (ss_cons (s_set 7 sc_deviation_under.nd (e_op od_mul (e_var 3) (e_op od_add (e_op od_mul (e_var 4) (e_op od_sub (e_ix (b_var 0) e_int) (e_ix (b_var 6) e_int))) (e_op od_mul (e_var 5) (e_op od_sub (e_ix (b_var 6) e_int) (e_ix (b_var 0) e_int))))))
  (ss_one (s_ret (e_tup (n_cons (e_var 7) (n_cons (e_var 4) (n_cons (e_var 0) (n_cons (e_var 6) (n_cons (e_var 1) n_nil)))))))))))))
/-! Strip.__init__ -/
abbrev s_Strip___init__ : Stmt := inClass (topS 13) 0
abbrev N_Strip___init__ : List Str := ["self"]
theorem sc_Strip___init__ : FnScope N_Strip___init__ ["self"] (defScope s_Strip___init__) := ⟨rfl, rfl, rfl, by decide +kernel, rfl, by decide +kernel, by decide +kernel⟩
noncomputable def B_Strip___init__ : Sm :=
  (sSeq (sFld 0 [] 4 0 (nOw aN))
  (sSeq (sFld 0 [] 4 1 (nOw aN))
  (sFld 0 [] 4 2 (nSh (gC .non)))))
noncomputable def S_Strip___init__ : Sl → List D → Option (D × Sl) := runM 1 B_Strip___init__
theorem ok_Strip___init__ {f : Addr} {fd : FuncData} {C4 : Addr} (F : Fun K "__init__" "Strip.__init__" s_Strip___init__ f fd) (ck4 : CK K mg 4 C4) : FnOk P w K mg base CX0 1 f fd ["self"] (spM K mg 0 S_Strip___init__) :=
  def_okM F sc_Strip___init__ rfl fun cdv A outer s H E hr =>
  (ss_cons (s_fld (c := 4) (j := 0) ck4 (pl_var 0) (el_lst n_nil).nw)
  (ss_cons (s_fld (c := 4) (j := 1) ck4 (pl_var 0) (el_lst n_nil).nw)
  (ss_one (s_fld (c := 4) (j := 2) ck4 (pl_var 0) e_non.nw))))
/-! Strip.step_with -/
abbrev s_Strip_step_with : Stmt := inClass (topS 13) 1
abbrev N_Strip_step_with : List Str := ["self", "vertex", "above", "below", "found"]
theorem sc_Strip_step_with : FnScope N_Strip_step_with ["self", "vertex"] (defScope s_Strip_step_with) := ⟨rfl, rfl, rfl, by decide +kernel, rfl, by decide +kernel, by decide +kernel⟩
noncomputable def B_Strip_step_with : Sm :=
  (sSeq (sIf (gNot (gTru (gU (dFld 4 0) (gB 0))))
  (sRet (gTu 3 (aC (gTu 5 (aC (gI 0) (aC (gI 1) (aC (gV 1) (aC (gV 1) (aC (gV 1) aN)))))) (aC (gI 0) (aC (gI 0) aN)))))
  sNil)
  (sSeq (sSet 2 (gCall S_kept (aC (gU (dFld 4 0) (gB 0)) (aC (gV 1) (aC (gI 1) aN)))))
  (sSeq (sSet 3 (gCall S_kept (aC (gU (dFld 4 1) (gB 0)) (aC (gV 1) (aC (gU dNeg (gI 1)) aN)))))
  (sSeq (sSet 4 (gCall S_deviation_under (aC (gIx (gU (dFld 4 0) (gB 0)) (gOp dSub (gV 2) (gI 1))) (aC (gV 1) (aC (gU (dFld 4 1) (gB 0)) (aC (gI 1) aN))))))
  (sSeq (sIf (gT (gOp dIsN (gB 4) (gC .non)))
  (sSet 4 (gCall S_deviation_under (aC (gIx (gU (dFld 4 1) (gB 0)) (gOp dSub (gV 3) (gI 1))) (aC (gV 1) (aC (gU (dFld 4 0) (gB 0)) (aC (gU dNeg (gI 1)) aN))))))
  sNil)
  (sSeq (sIf (gT (gOp dIsN (gB 4) (gC .non)))
  (sSet 4 (gIm (gU (dFld 4 2) (gB 0))))
  sNil)
  (sRet (gTu 3 (aC (gV 4) (aC (gV 2) (aC (gV 3) aN)))))))))))
noncomputable def S_Strip_step_with : List D → Option D := runK [true, false] 5 B_Strip_step_with
theorem ok_Strip_step_with {f : Addr} {fd : FuncData} {C4 : Addr} (F : Fun K "step_with" "Strip.step_with" s_Strip_step_with f fd) (ck4 : CK K mg 4 C4) (c_kept : CalK P w K mg base "kept" 1 ["chain", "vertex", "side"] [true, false, false] S_kept) (c_deviation_under : CalK P w K mg base "deviation_under" 2 ["first", "vertex", "other", "side"] [false, false, true, false] S_deviation_under) : FnOk P w K mg base CX0 3 f fd ["self", "vertex"] (spK K mg [true, false] S_Strip_step_with) :=
  def_okK F sc_Strip_step_with rfl fun cdv A outer s H E hr =>
  (ss_cons (s_if (t_not (t_tru (b_fld (c := 4) (j := 0) ck4 (b_var 0))))
  (ss_one (s_ret (e_tup (n_cons (e_tup (n_cons e_int (n_cons e_int (n_cons (e_var 1) (n_cons (e_var 1) (n_cons (e_var 1) n_nil)))))) (n_cons e_int (n_cons e_int n_nil))))))
  ss_nil)
  (ss_cons (s_set 2 sc_Strip_step_with.nd (e_callK c_kept hr (by decide) (m_bo (b_fld (c := 4) (j := 0) ck4 (b_var 0)) (m_sh (e_var 1) (m_sh e_int m_nil)))))
  (ss_cons (s_set 3 sc_Strip_step_with.nd (e_callK c_kept hr (by decide) (m_bo (b_fld (c := 4) (j := 1) ck4 (b_var 0)) (m_sh (e_var 1) (m_sh (e_neg e_int) m_nil)))))
  (ss_cons (s_set 4 sc_Strip_step_with.nd (e_callK c_deviation_under hr (by decide) (m_sh (e_ix (b_fld (c := 4) (j := 0) ck4 (b_var 0)) (e_op od_sub (e_var 2) e_int)) (m_sh (e_var 1) (m_bo (b_fld (c := 4) (j := 1) ck4 (b_var 0)) (m_sh e_int m_nil))))))
  (ss_cons (s_if (t_cmpB ob_isN (b_var 4) e_non.bo)
  (ss_one (s_set 4 sc_Strip_step_with.nd (e_callK c_deviation_under hr (by decide) (m_sh (e_ix (b_fld (c := 4) (j := 1) ck4 (b_var 0)) (e_op od_sub (e_var 3) e_int)) (m_sh (e_var 1) (m_bo (b_fld (c := 4) (j := 0) ck4 (b_var 0)) (m_sh (e_neg e_int) m_nil)))))))
  ss_nil)
  (ss_cons (s_if (t_cmpB ob_isN (b_var 4) e_non.bo)
  (ss_one (s_set 4 sc_Strip_step_with.nd (b_fld (c := 4) (j := 2) ck4 (b_var 0)).im))
  ss_nil)
  (ss_one (s_ret (e_tup (n_cons (e_var 4) (n_cons (e_var 2) (n_cons (e_var 3) n_nil))))))))))))
/-! Strip.take -/
abbrev s_Strip_take : Stmt := inClass (topS 13) 2
abbrev N_Strip_take : List Str := ["self", "vertex", "step", "above", "below"]
theorem sc_Strip_take : FnScope N_Strip_take ["self", "vertex", "step"] (defScope s_Strip_take) := ⟨rfl, rfl, rfl, by decide +kernel, rfl, by decide +kernel, by decide +kernel⟩
noncomputable def B_Strip_take : Sm :=
  (sSeq (sUnpF 0 [] 4 2 3 (gTo (gN 3) (gTo (gN 4) gEnd)) (gV 2))
  (sSeq (sDelF 0 [(4, 0)] (gV 3))
  (sSeq (sApp 0 [(4, 0)] (gV 1))
  (sSeq (sDelF 0 [(4, 1)] (gV 4))
  (sApp 0 [(4, 1)] (gV 1))))))
noncomputable def S_Strip_take : Sl → List D → Option (D × Sl) := runM 5 B_Strip_take
theorem ok_Strip_take {f : Addr} {fd : FuncData} {C4 : Addr} (F : Fun K "take" "Strip.take" s_Strip_take f fd) (ck4 : CK K mg 4 C4) : FnOk P w K mg base CX0 1 f fd ["self", "vertex", "step"] (spM K mg 2 S_Strip_take) :=
  def_okM F sc_Strip_take rfl fun cdv A outer s H E hr =>
  (ss_cons (s_unpF (c := 4) (j := 2) ck4 (pl_var 0) (e_var 2) (gl_cons (g_name 3 sc_Strip_take.nd) (gl_cons (g_name 4 sc_Strip_take.nd) gl_nil)) rfl)
  (ss_cons (s_delF (pl_fld (c := 4) (j := 0) ck4 (pl_var 0)) (e_var 3))
  (ss_cons (s_app (pl_fld (c := 4) (j := 0) ck4 (pl_var 0)) (e_var 1))
  (ss_cons (s_delF (pl_fld (c := 4) (j := 1) ck4 (pl_var 0)) (e_var 4))
  (ss_one (s_app (pl_fld (c := 4) (j := 1) ck4 (pl_var 0)) (e_var 1)))))))
/-! Strip.line -/
abbrev s_Strip_line : Stmt := inClass (topS 13) 3
abbrev N_Strip_line : List Str := ["self"]
theorem sc_Strip_line : FnScope N_Strip_line ["self"] (defScope s_Strip_line) := ⟨rfl, rfl, rfl, by decide +kernel, rfl, by decide +kernel, by decide +kernel⟩
noncomputable def B_Strip_line : Sm :=
  (sSeq (sIf (gNot (gTru (gU (dFld 4 0) (gB 0))))
  (sRet (gTu 3 (aC (gI 0) (aC (gI 0) (aC (gI 1) aN)))))
  sNil)
  (sRet (gCall S_middle_line (aC (gIm (gU (dFld 4 2) (gB 0))) aN))))
noncomputable def S_Strip_line : List D → Option D := runK [true] 1 B_Strip_line
theorem ok_Strip_line {f : Addr} {fd : FuncData} {C4 : Addr} (F : Fun K "line" "Strip.line" s_Strip_line f fd) (ck4 : CK K mg 4 C4) (c_middle_line : Cal P w K mg base "middle_line" 2 ["deviation"] S_middle_line) : FnOk P w K mg base CX0 3 f fd ["self"] (spK K mg [true] S_Strip_line) :=
  def_okK F sc_Strip_line rfl fun cdv A outer s H E hr =>
  (ss_cons (s_if (t_not (t_tru (b_fld (c := 4) (j := 0) ck4 (b_var 0))))
  (ss_one (s_ret (e_tup (n_cons e_int (n_cons e_int (n_cons e_int n_nil))))))
  ss_nil)
  (ss_one (s_ret (e_callC c_middle_line hr (by decide) (n_cons (b_fld (c := 4) (j := 2) ck4 (b_var 0)).im n_nil)))))
/-! longest_piece -/
abbrev s_longest_piece : Stmt := topS 15
abbrev N_longest_piece : List Str := ["points", "start", "error", "strip", "index", "place", "height", "vertex", "step"]
theorem sc_longest_piece : FnScope N_longest_piece ["points", "start", "error"] (defScope s_longest_piece) := ⟨rfl, rfl, rfl, by decide +kernel, rfl, by decide +kernel, by decide +kernel⟩
noncomputable def B_longest_piece : Sm :=
  (sSeq (sSetN 3 (gMk 4 S_Strip___init__ aN))
  (sSeq (sFor (gRng (aC (gV 1) (aC (gU dLen (gB 0)) aN))) (gN 4)
  (sSeq (sUnp (gTg 2 (gTo (gN 5) (gTo (gN 6) gEnd))) (gIx (gB 0) (gV 4)))
  (sSeq (sSet 7 (gTu 3 (aC (gV 5) (aC (gV 6) (aC (gV 4) aN)))))
  (sSeq (sSet 8 (gMeth 4 S_Strip_step_with (gB 3) (aC (gV 7) aN)))
  (sSeq (sIf (gTru (gCall S_exceeds (aC (gIx (gB 8) (gI 0)) (aC (gV 2) aN))))
  (sRet (gTu 3 (aC (gV 4) (aC (gMeth 4 S_Strip_line (gB 3) aN) (aC (gCall S_indexes_of (aC (gIx (gB 8) (gI 0)) aN)) aN)))))
  sNil)
  (sExpM (gMM 3 [] 4 S_Strip_take (aC (gV 7) (aC (gV 8) aN)))))))))
  (sRet (gTu 3 (aC (gU dLen (gB 0)) (aC (gMeth 4 S_Strip_line (gB 3) aN) (aC (gC .non) aN)))))))
noncomputable def S_longest_piece : List D → Option D := runB 9 B_longest_piece
theorem ok_longest_piece {f : Addr} {fd : FuncData} (F : Fun K "longest_piece" "longest_piece" s_longest_piece f fd) (k_Strip : Mak P w K mg base 4 1 ["self"] S_Strip___init__) (m_len : mg "len" = none) (m_range : mg "range" = none) (c_Strip_step_with : MetK P w K mg base 4 "step_with" 3 ["self", "vertex"] [true, false] S_Strip_step_with) (c_exceeds : Cal P w K mg base "exceeds" 1 ["deviation", "error"] S_exceeds) (c_indexes_of : Cal P w K mg base "indexes_of" 1 ["deviation"] S_indexes_of) (c_Strip_line : MetK P w K mg base 4 "line" 3 ["self"] [true] S_Strip_line) (c_Strip_take : MetM P w K mg base 4 "take" 1 ["self", "vertex", "step"] S_Strip_take) : FnOk P w K mg base CX0 4 f fd ["points", "start", "error"] (spD K mg 3 S_longest_piece) :=
  def_ok F sc_longest_piece fun cdv A outer s H E hr =>
  (ss_cons (s_setN 3 sc_longest_piece.nd (e_mkC0 (c := 4) k_Strip hr (by decide)))
  (ss_cons (s_for PassesOwn.never rfl (i_rng2 (by rfl) m_range (n_cons (e_var 1) (n_cons (e_cb cb_len (by rfl) m_len boot_len' (b_var 0)) n_nil))).fb (g_name 4 sc_longest_piece.nd)
  (ss_cons (s_unp (e_ix (b_var 0) (e_var 4)) (g_tup rfl (gl_cons (g_name 5 sc_longest_piece.nd) (gl_cons (g_name 6 sc_longest_piece.nd) gl_nil))))
  (ss_cons (s_set 7 sc_longest_piece.nd (e_tup (n_cons (e_var 5) (n_cons (e_var 6) (n_cons (e_var 4) n_nil)))))
  (ss_cons (s_set 8 sc_longest_piece.nd (e_metK c_Strip_step_with hr (by decide) (b_var 3) (m_sh (e_var 7) m_nil)))
  (ss_cons (s_if (t_tru (e_callC c_exceeds hr (by decide) (n_cons (e_ix (b_var 8) e_int) (n_cons (e_var 2) n_nil))).bo)
  (ss_one (s_ret (e_tup (n_cons (e_var 4) (n_cons (e_metK0 c_Strip_line hr (by decide) (b_var 3)) (n_cons (e_callC c_indexes_of hr (by decide) (n_cons (e_ix (b_var 8) e_int) n_nil)) n_nil))))))
  ss_nil)
  (ss_one (s_exprM (em_met c_Strip_take hr (by decide) (pl_var 3) (n_cons (e_var 7) (n_cons (e_var 8) n_nil))))))))))
  (ss_one (s_ret (e_tup (n_cons (e_cb cb_len (by rfl) m_len boot_len' (b_var 0)) (n_cons (e_metK0 c_Strip_line hr (by decide) (b_var 3)) (n_cons e_non n_nil))))))))
/-! taken_in_turn -/
abbrev s_taken_in_turn : Stmt := topS 19
abbrev N_taken_in_turn : List Str := ["longest", "length", "pieces", "reasons", "start", "end", "shape", "why"]
theorem sc_taken_in_turn : FnScope N_taken_in_turn ["longest", "length"] (defScope s_taken_in_turn) := ⟨rfl, rfl, rfl, by decide +kernel, rfl, by decide +kernel, by decide +kernel⟩
noncomputable def B_taken_in_turn : D → (List D → Option D) → Sm := fun d0 F =>
  (sSeq (sSetO 2 aN)
  (sSeq (sSetO 3 aN)
  (sSeq (sSet 4 (gI 0))
  (sSeq (sWhile (gT (gOp dLt (gV 4) (gV 1)))
  (sSeq (sUnp (gTg 3 (gTo (gN 5) (gTo (gN 6) (gTo (gN 7) gEnd)))) (gFn d0 F 0 (aC (gV 4) aN)))
  (sSeq (sApp 2 [] (gTu 2 (aC (gV 4) (aC (gV 6) aN))))
  (sSeq (sIf (gT (gOp dNoN (gB 7) (gC .non)))
  (sApp 3 [] (gV 7))
  sNil)
  (sSet 4 (gV 5))))))
  (sFrz 3 (sFrz 2 (sRet (gTu 2 (aC (gV 2) (aC (gV 3) aN))))))))))
noncomputable def S_taken_in_turn : D → (List D → Option D) → List D → Option D := fun d0 F => runB 8 (B_taken_in_turn d0 F)
theorem ok_taken_in_turn {f : Addr} : ∀ (cdv : Value) (A : Around) (outer : List PySem.Env) (s : Shared) (H : Hp) (E : XK) (d0 : D) (F : List D → Option D), Room 0 (A.deeper (PyProof.Rows.envOfC "taken_in_turn" (defScope s_taken_in_turn) s.heap.objs.size f cdv)) → Acts (cxOf CX0 P w K mg base N_taken_in_turn "taken_in_turn" (defScope s_taken_in_turn) f cdv A outer s H E).nox "longest" 0 1 d0 F → Ss (cxOf CX0 P w K mg base N_taken_in_turn "taken_in_turn" (defScope s_taken_in_turn) f cdv A outer s H E).nox (defBody s_taken_in_turn) (B_taken_in_turn d0 F) := fun cdv A outer s H E d0 F hr ac =>
  (ss_cons (s_setO 2 sc_taken_in_turn.nd (el_lst n_nil))
  (ss_cons (s_setO 3 sc_taken_in_turn.nd (el_lst n_nil))
  (ss_cons (s_set 4 sc_taken_in_turn.nd e_int)
  (ss_cons (s_while PassesOwn.never (t_cmp od_lt (e_var 4) (e_var 1))
  (ss_cons (s_unp (e_act ac (n_cons (e_var 4) n_nil)) (g_tup rfl (gl_cons (g_name 5 sc_taken_in_turn.nd) (gl_cons (g_name 6 sc_taken_in_turn.nd) (gl_cons (g_name 7 sc_taken_in_turn.nd) gl_nil)))))
  (ss_cons (s_app (pl_var 2) (e_tup (n_cons (e_var 4) (n_cons (e_var 6) n_nil))))
  (ss_cons (s_if (t_cmpB ob_noN (b_var 7) e_non.bo)
  (ss_one (s_app (pl_var 3) (e_var 7)))
  ss_nil)
  (ss_one (s_set 4 sc_taken_in_turn.nd (e_var 5)))))))
  (ss_one (s_frz 3 (s_frz 2 (s_ret (e_tup (n_cons (e_var 2) (n_cons (e_var 3) n_nil)))))))))))
/-! Cutting.__init__ -/
abbrev s_Cutting___init__ : Stmt := inClass (topS 17) 0
abbrev N_Cutting___init__ : List Str := ["self", "pieces", "reasons"]
theorem sc_Cutting___init__ : FnScope N_Cutting___init__ ["self", "pieces", "reasons"] (defScope s_Cutting___init__) := ⟨rfl, rfl, rfl, by decide +kernel, rfl, by decide +kernel, by decide +kernel⟩
noncomputable def B_Cutting___init__ : Sm :=
  (sSeq (sFld 0 [] 0 0 (nSh (gL (gUL dList (gB 1)))))
  (sFld 0 [] 0 1 (nSh (gL (gUL dList (gB 2))))))
noncomputable def S_Cutting___init__ : Sl → List D → Option (D × Sl) := runM 3 B_Cutting___init__
theorem ok_Cutting___init__ {f : Addr} {fd : FuncData} {C0 : Addr} (F : Fun K "__init__" "Cutting.__init__" s_Cutting___init__ f fd) (m_list : mg "list" = none) (ck0 : CK K mg 0 C0) : FnOk P w K mg base CX0 1 f fd ["self", "pieces", "reasons"] (spM K mg 2 S_Cutting___init__) :=
  def_okM F sc_Cutting___init__ rfl fun cdv A outer s H E hr =>
  (ss_cons (s_fld (c := 0) (j := 0) ck0 (pl_var 0) (el_cty cb_list (by rfl) m_list boot_list' (b_var 1)).fz.nw)
  (ss_one (s_fld (c := 0) (j := 1) ck0 (pl_var 0) (el_cty cb_list (by rfl) m_list boot_list' (b_var 2)).fz.nw)))
/-! cut -/
abbrev s_cut : Stmt := topS 18
abbrev N_cut : List Str := ["points", "error", "pieces", "reasons"]
theorem sc_cut : FnScope N_cut ["points", "error"] (defScope s_cut) := ⟨rfl, rfl, rfl, by decide +kernel, rfl, by decide +kernel, by decide +kernel⟩
noncomputable def B_cut : Sm :=
  (sSeq (sUnp (gTg 2 (gTo (gN 2) (gTo (gN 3) gEnd))) (gLam1 S_taken_in_turn [0, 1] (gCall S_longest_piece (aC (gV 0) (aC (gV 4) (aC (gV 1) aN)))) (gU dLen (gB 0))))
  (sRet (nD (gMk 0 S_Cutting___init__ (aC (gV 2) (aC (gV 3) aN))))))
noncomputable def S_cut : List D → Option D := runB 4 B_cut
theorem ok_cut {f : Addr} {fd : FuncData} {cL PL : Addr} (F : Fun K "cut" "cut" s_cut f fd) (hcode : fd.code = .ref cL) (TB : LamX.TabB base mg cL PL) (TH : TabHas PL (lamQ "cut")) (m_len : mg "len" = none) (c_longest_piece : Cal P w K mg base "longest_piece" 4 ["points", "start", "error"] S_longest_piece) (c_taken_in_turn : CalF P w K mg base "taken_in_turn" 0 N_taken_in_turn ["longest", "length"] "longest" 0 1 s_taken_in_turn B_taken_in_turn) (k_Cutting : Mak P w K mg base 0 1 ["self", "pieces", "reasons"] S_Cutting___init__) : FnOk P w K mg base CX0 7 f fd ["points", "error"] (spD K mg 2 S_cut) :=
  def_okC F hcode sc_cut fun A outer s H E hr =>
  (ss_cons (s_unp (e_lam1 (prs := ["start"]) [0, 1] c_taken_in_turn TB rfl lamq_of TH hr (by decide) (show LamS1 (defScope s_cut) _ _ from lamS1_by (by decide +kernel)) (fun A outer s H E' f c' hr => (e_callC c_longest_piece hr (by decide) (n_cons (e_var 0) (n_cons (e_var 4) (n_cons (e_var 1) n_nil))))) (e_cb cb_len (by rfl) m_len boot_len' (b_var 0)) (hpr := show ∀ p ∈ (["start"] : List Str), p ∉ N_cut from by decide +kernel) (hbind := fun _ _ _ _ _ us hl => match us, hl with | [_], _ => rfl)) (g_tup rfl (gl_cons (g_name 2 sc_cut.nd) (gl_cons (g_name 3 sc_cut.nd) gl_nil))))
  (ss_one (s_ret (e_mkC (c := 0) k_Cutting hr (by decide) (n_cons (e_var 2) (n_cons (e_var 3) n_nil))).fz)))
/-! place_of -/
abbrev s_place_of : Stmt := topS 26
abbrev N_place_of : List Str := ["entries", "key", "first", "last", "middle"]
theorem sc_place_of : FnScope N_place_of ["entries", "key"] (defScope s_place_of) := ⟨rfl, rfl, rfl, by decide +kernel, rfl, by decide +kernel, by decide +kernel⟩
noncomputable def B_place_of : Sm :=
  (sSeq (sPar [2, 3] (aC (gI 0) (aC (gU dLen (gB 0)) aN)))
  (sSeq (sWhile (gT (gOp dLt (gV 2) (gV 3)))
  (sSeq (sSet 4 (gOp dDiv (gOp dAdd (gV 2) (gV 3)) (gI 2)))
  (sIf (gT (gOp dLt (gIx (gIx (gB 0) (gV 4)) (gI 0)) (gV 1)))
  (sSet 2 (gOp dAdd (gV 4) (gI 1)))
  (sSet 3 (gV 4)))))
  (sRet (gV 2))))
noncomputable def S_place_of : List D → Option D := runK [true, false] 5 B_place_of
theorem ok_place_of {f : Addr} {fd : FuncData} (F : Fun K "place_of" "place_of" s_place_of f fd) (m_len : mg "len" = none) : FnOk P w K mg base CX0 1 f fd ["entries", "key"] (spK K mg [true, false] S_place_of) :=
  def_okK F sc_place_of rfl fun cdv A outer s H E hr =>
  (ss_cons (s_par rfl sc_place_of.nd (n_cons e_int (n_cons (e_cb cb_len (by rfl) m_len boot_len' (b_var 0)) n_nil)))
  (ss_cons (s_while PassesOwn.never (t_cmp od_lt (e_var 2) (e_var 3))
  (ss_cons (s_set 4 sc_place_of.nd (e_op od_div (e_op od_add (e_var 2) (e_var 3)) e_int))
  (ss_one (s_if (t_cmp od_lt (e_ix (e_ix (b_var 0) (e_var 4)).bo e_int) (e_var 1))
  (ss_one (s_set 2 sc_place_of.nd (e_op od_add (e_var 4) e_int)))
  (ss_one (s_set 3 sc_place_of.nd (e_var 4)))))))
  (ss_one (s_ret (e_var 2)))))
/-! holds -/
abbrev s_holds : Stmt := topS 27
abbrev N_holds : List Str := ["entries", "place", "key"]
theorem sc_holds : FnScope N_holds ["entries", "place", "key"] (defScope s_holds) := ⟨rfl, rfl, rfl, by decide +kernel, rfl, by decide +kernel, by decide +kernel⟩
noncomputable def B_holds : Sm :=
  (sRet (gBl (gAnd (gT (gOp dLt (gV 1) (gU dLen (gB 0)))) (gT (gOp dEq (gIx (gIx (gB 0) (gV 1)) (gI 0)) (gB 2))))))
noncomputable def S_holds : List D → Option D := runK [true, false, false] 3 B_holds
theorem ok_holds {f : Addr} {fd : FuncData} (F : Fun K "holds" "holds" s_holds f fd) (m_len : mg "len" = none) : FnOk P w K mg base CX0 1 f fd ["entries", "place", "key"] (spK K mg [true, false, false] S_holds) :=
  def_okK F sc_holds rfl fun cdv A outer s H E hr =>
  (ss_one (s_ret (v_and (e_cmp od_lt (e_var 1) (e_cb cb_len (by rfl) m_len boot_len' (b_var 0))).v (v_one (e_cmpB (ob_eq hr.units) (e_ix (e_ix (b_var 0) (e_var 1)).bo e_int).bo (b_var 2)).v)).e))
/-! merged -/
abbrev s_merged : Stmt := topS 28
abbrev N_merged : List Str := ["parts", "newest", "part", "key", "value"]
theorem sc_merged : FnScope N_merged ["parts"] (defScope s_merged) := ⟨rfl, rfl, rfl, by decide +kernel, rfl, by decide +kernel, by decide +kernel⟩
noncomputable def B_merged : Sm :=
  (sSeq (sSetN 1 nDict)
  (sSeq (sFor (gIt (gV 0)) (gN 2)
  (sFor (gIt (gV 2)) (gTg 2 (gTo (gN 3) (gTo (gN 4) gEnd)))
  (sIf (gT (gOp dDnin (gV 3) (gB 1)))
  (sDPut' 1 [] (gV 3) (gV 4))
  sNil)))
  (sRet (gL (gLc [3] (gIt (gL (gUL dSortedK (gB 1)))) (gN 3) gYes (gTu 2 (aC (gV 3) (aC (gOp dDget (gB 1) (gV 3)) aN))))))))
noncomputable def S_merged : List D → Option D := runB 5 B_merged
theorem ok_merged {f : Addr} {fd : FuncData} (F : Fun K "merged" "merged" s_merged f fd) (m_sorted : mg "sorted" = none) : FnOk P w K mg base CX0 1 f fd ["parts"] (spD K mg 1 S_merged) :=
  def_ok F sc_merged fun cdv A outer s H E hr =>
  (ss_cons (s_setN 1 sc_merged.nd en_dnew)
  (ss_cons (s_for PassesOwn.never rfl (i_list (e_var 0)).fb (g_name 2 sc_merged.nd)
  (ss_one (s_for PassesOwn.never rfl (i_list (e_var 2)).fb (g_tup rfl (gl_cons (g_name 3 sc_merged.nd) (gl_cons (g_name 4 sc_merged.nd) gl_nil)))
  (ss_one (s_if (t_dnin hr.u1 (e_var 3) (b_var 1))
  (ss_one (s_dput hr.u1 (pl_var 1) (e_var 4) (e_var 3)))
  ss_nil)))))
  (ss_one (s_ret (el_lc (own := [("key", 3)]) rfl sc_merged.nd (i_list (el_cb (cb_sortedK rfl) (by rfl) m_sorted boot_sorted' (b_var 1)).fz).c (blkOk_by (own := [("key", 3)]) (N := N_merged) (sc := defScope s_merged) (by decide +kernel)) (by decide) (fun _ _ _ _ _ => (g_name 3 sc_merged.nd)) (fun _ _ _ _ _ => ts_nil) (fun _ _ _ _ _ => (e_tup (n_cons (e_var 3) (n_cons (e_dgt hr.u1 (b_var 1) (e_var 3)) n_nil))))).fz))))
/-! without_removed -/
abbrev s_without_removed : Stmt := topS 29
abbrev N_without_removed : List Str := ["entries", "key", "value"]
theorem sc_without_removed : FnScope N_without_removed ["entries"] (defScope s_without_removed) := ⟨rfl, rfl, rfl, by decide +kernel, rfl, by decide +kernel, by decide +kernel⟩
noncomputable def B_without_removed : Sm :=
  (sRet (gL (gLc [1, 2] (gIt (gV 0)) (gTg 2 (gTo (gN 1) (gTo (gN 2) gEnd))) (gT (gOp dNoN (gB 2) (gC .non))) (gTu 2 (aC (gV 1) (aC (gV 2) aN))))))
noncomputable def S_without_removed : List D → Option D := runB 3 B_without_removed
theorem ok_without_removed {f : Addr} {fd : FuncData} (F : Fun K "without_removed" "without_removed" s_without_removed f fd) : FnOk P w K mg base CX0 1 f fd ["entries"] (spD K mg 1 S_without_removed) :=
  def_ok F sc_without_removed fun cdv A outer s H E hr =>
  (ss_one (s_ret (el_lc (own := [("key", 1), ("value", 2)]) rfl sc_without_removed.nd (i_list (e_var 0)).c (blkOk_by (own := [("key", 1), ("value", 2)]) (N := N_without_removed) (sc := defScope s_without_removed) (by decide +kernel)) (by decide) (fun _ _ _ _ _ => (g_tup rfl (gl_cons (g_name 1 sc_without_removed.nd) (gl_cons (g_name 2 sc_without_removed.nd) gl_nil)))) (fun _ _ _ _ _ => (ts_one (t_cmpB ob_noN (b_var 2) e_non.bo))) (fun _ _ _ _ _ => (e_tup (n_cons (e_var 1) (n_cons (e_var 2) n_nil))))).fz))
/-! _law_cell -/
abbrev s__law_cell : Stmt := topS 31
abbrev N__law_cell : List Str := ["script", "k"]
theorem sc__law_cell : FnScope N__law_cell ["script", "k"] (defScope s__law_cell) := ⟨rfl, rfl, rfl, by decide +kernel, rfl, by decide +kernel, by decide +kernel⟩
noncomputable def B__law_cell : Sm :=
  (sSeq (sIf (gT (gOp dLt (gV 1) (gU dLen (gB 0))))
  (sRet (gIx (gB 0) (gV 1)))
  sNil)
  (sRet (gI 0)))
noncomputable def S__law_cell : List D → Option D := runB 2 B__law_cell
theorem ok__law_cell {f : Addr} {fd : FuncData} (F : Fun K "_law_cell" "_law_cell" s__law_cell f fd) (m_len : mg "len" = none) : FnOk P w K mg base CX0 1 f fd ["script", "k"] (spD K mg 2 S__law_cell) :=
  def_ok F sc__law_cell fun cdv A outer s H E hr =>
  (ss_cons (s_if (t_cmp od_lt (e_var 1) (e_cb cb_len (by rfl) m_len boot_len' (b_var 0)))
  (ss_one (s_ret (e_ix (b_var 0) (e_var 1))))
  ss_nil)
  (ss_one (s_ret e_int)))
/-! _law_digits -/
abbrev s__law_digits : Stmt := topS 32
abbrev N__law_digits : List Str := ["cell", "many", "count", "digits", "rest", "k", "mixed"]
theorem sc__law_digits : FnScope N__law_digits ["cell", "many", "count"] (defScope s__law_digits) := ⟨rfl, rfl, rfl, by decide +kernel, rfl, by decide +kernel, by decide +kernel⟩
noncomputable def B__law_digits : Sm :=
  (sSeq (sSetO 3 aN)
  (sSeq (sSet 4 (gV 0))
  (sSeq (sFor (gRng (aC (gV 2) aN)) (gN 5)
  (sIf (gT (gOp dGe (gV 0) (gOp dPow (gI 10) (gI 18))))
  (sSeq (sApp 3 [] (gOp dMod (gU dInt (gB 4)) (gV 1)))
  (sSet 4 (gOp dDiv (gV 4) (gV 1))))
  (sSeq (sSet 6 (gOp dMod (gU dInt (gOp dAdd (gOp dAdd (gOp dMul (gV 0) (gI 48271)) (gOp dMul (gV 5) (gI 69621))) (gI 1013))) (gI 2147483647)))
  (sSeq (sSet 6 (gOp dMod (gU dInt (gOp dAdd (gOp dAdd (gOp dMul (gV 6) (gV 6)) (gOp dMul (gI 7) (gV 6))) (gV 5))) (gI 2147483629)))
  (sApp 3 [] (gOp dMod (gU dInt (gOp dDiv (gV 6) (gI 31))) (gV 1)))))))
  (sFrz 3 (sRet (gV 3))))))
noncomputable def S__law_digits : List D → Option D := runB 7 B__law_digits
theorem ok__law_digits {f : Addr} {fd : FuncData} (F : Fun K "_law_digits" "_law_digits" s__law_digits f fd) (m_range : mg "range" = none) (m_int : mg "int" = none) : FnOk P w K mg base CX0 1 f fd ["cell", "many", "count"] (spD K mg 3 S__law_digits) :=
  def_ok F sc__law_digits fun cdv A outer s H E hr =>
  (ss_cons (s_setO 3 sc__law_digits.nd (el_lst n_nil))
  (ss_cons (s_set 4 sc__law_digits.nd (e_var 0))
  (ss_cons (s_for PassesOwn.never rfl (i_rng1 (by rfl) m_range (n_cons (e_var 2) n_nil)).fb (g_name 5 sc__law_digits.nd)
  (ss_one (s_if (t_cmp od_ge (e_var 0) (e_op od_pow e_int e_int))
  (ss_cons (s_app (pl_var 3) (e_op od_mod (e_cty cb_int (by rfl) m_int boot_int' (b_var 4)) (e_var 1)))
  (ss_one (s_set 4 sc__law_digits.nd (e_op od_div (e_var 4) (e_var 1)))))
  (ss_cons (s_set 6 sc__law_digits.nd (e_op od_mod (e_cty cb_int (by rfl) m_int boot_int' (e_op od_add (e_op od_add (e_op od_mul (e_var 0) e_int) (e_op od_mul (e_var 5) e_int)) e_int).bo) e_int))
  (ss_cons (s_set 6 sc__law_digits.nd (e_op od_mod (e_cty cb_int (by rfl) m_int boot_int' (e_op od_add (e_op od_add (e_op od_mul (e_var 6) (e_var 6)) (e_op od_mul e_int (e_var 6))) (e_var 5)).bo) e_int))
  (ss_one (s_app (pl_var 3) (e_op od_mod (e_cty cb_int (by rfl) m_int boot_int' (e_op od_div (e_var 6) e_int).bo) (e_var 1)))))))))
  (ss_one (s_frz 3 (s_ret (e_var 3)))))))
/-! _law_edits -/
abbrev s__law_edits : Stmt := topS 33
abbrev N__law_edits : List Str := ["script", "place", "most", "cell", "count", "many", "rows", "edits", "k", "key", "value"]
theorem sc__law_edits : FnScope N__law_edits ["script", "place", "most"] (defScope s__law_edits) := ⟨rfl, rfl, rfl, by decide +kernel, rfl, by decide +kernel, by decide +kernel⟩
noncomputable def B__law_edits : Sm :=
  (sSeq (sSet 3 (gCall S__law_cell (aC (gV 0) (aC (gV 1) aN))))
  (sSeq (sSet 4 (gOp dMod (gU dInt (gB 3)) (gOp dAdd (gV 2) (gI 1))))
  (sSeq (sSet 5 (gIx (gL (aC (gI 3) (aC (gI 8) (aC (gI 30) (aC (gOp dPow (gI 10) (gI 6)) aN))))) (gOp dMod (gU dInt (gOp dDiv (gV 3) (gOp dAdd (gV 2) (gI 1)))) (gI 4))))
  (sSeq (sSet 6 (gCall S__law_digits (aC (gCall S__law_cell (aC (gV 0) (aC (gOp dAdd (gV 1) (gI 1)) aN))) (aC (gOp dPow (gI 10) (gI 7)) (aC (gV 4) aN)))))
  (sSeq (sSetO 7 aN)
  (sSeq (sFor (gRng (aC (gV 4) aN)) (gN 8)
  (sSeq (sSet 9 (gOp dSub (gOp dMod (gU dInt (gIx (gB 6) (gV 8))) (gV 5)) (gIx (gL (aC (gI 1) (aC (gI 3) (aC (gI 9) (aC (gI 500000) aN))))) (gOp dMod (gU dInt (gOp dDiv (gV 3) (gOp dAdd (gV 2) (gI 1)))) (gI 4)))))
  (sSeq (sSet 10 (gOp dSub (gOp dMod (gU dInt (gOp dDiv (gIx (gB 6) (gV 8)) (gI 7))) (gI 19)) (gI 9)))
  (sIf (gT (gOp dEq (gOp dMod (gU dInt (gOp dDiv (gIx (gB 6) (gV 8)) (gI 1000))) (gI 4)) (gI 0)))
  (sApp 7 [] (gTu 2 (aC (gV 9) (aC (gC .non) aN))))
  (sApp 7 [] (gTu 2 (aC (gV 9) (aC (gV 10) aN))))))))
  (sFrz 7 (sRet (gV 7)))))))))
noncomputable def S__law_edits : List D → Option D := runB 11 B__law_edits
theorem ok__law_edits {f : Addr} {fd : FuncData} (F : Fun K "_law_edits" "_law_edits" s__law_edits f fd) (c__law_cell : Cal P w K mg base "_law_cell" 1 ["script", "k"] S__law_cell) (m_int : mg "int" = none) (c__law_digits : Cal P w K mg base "_law_digits" 1 ["cell", "many", "count"] S__law_digits) (m_range : mg "range" = none) : FnOk P w K mg base CX0 2 f fd ["script", "place", "most"] (spD K mg 3 S__law_edits) :=
  def_ok F sc__law_edits fun cdv A outer s H E hr =>
  (ss_cons (s_set 3 sc__law_edits.nd (e_callC c__law_cell hr (by decide) (n_cons (e_var 0) (n_cons (e_var 1) n_nil))))
  (ss_cons (s_set 4 sc__law_edits.nd (e_op od_mod (e_cty cb_int (by rfl) m_int boot_int' (b_var 3)) (e_op od_add (e_var 2) e_int)))
  (ss_cons (s_set 5 sc__law_edits.nd (e_ix (el_lst (n_cons e_int (n_cons e_int (n_cons e_int (n_cons (e_op od_pow e_int e_int) n_nil))))).fz.bo (e_op od_mod (e_cty cb_int (by rfl) m_int boot_int' (e_op od_div (e_var 3) (e_op od_add (e_var 2) e_int)).bo) e_int)))
  (ss_cons (s_set 6 sc__law_edits.nd (e_callC c__law_digits hr (by decide) (n_cons (e_callC c__law_cell hr (by decide) (n_cons (e_var 0) (n_cons (e_op od_add (e_var 1) e_int) n_nil))) (n_cons (e_op od_pow e_int e_int) (n_cons (e_var 4) n_nil)))))
  (ss_cons (s_setO 7 sc__law_edits.nd (el_lst n_nil))
  (ss_cons (s_for PassesOwn.never rfl (i_rng1 (by rfl) m_range (n_cons (e_var 4) n_nil)).fb (g_name 8 sc__law_edits.nd)
  (ss_cons (s_set 9 sc__law_edits.nd (e_op od_sub (e_op od_mod (e_cty cb_int (by rfl) m_int boot_int' (e_ix (b_var 6) (e_var 8)).bo) (e_var 5)) (e_ix (el_lst (n_cons e_int (n_cons e_int (n_cons e_int (n_cons e_int n_nil))))).fz.bo (e_op od_mod (e_cty cb_int (by rfl) m_int boot_int' (e_op od_div (e_var 3) (e_op od_add (e_var 2) e_int)).bo) e_int))))
  (ss_cons (s_set 10 sc__law_edits.nd (e_op od_sub (e_op od_mod (e_cty cb_int (by rfl) m_int boot_int' (e_op od_div (e_ix (b_var 6) (e_var 8)) e_int).bo) e_int) e_int))
  (ss_one (s_if (t_cmpB (ob_eq hr.units) (e_op od_mod (e_cty cb_int (by rfl) m_int boot_int' (e_op od_div (e_ix (b_var 6) (e_var 8)) e_int).bo) e_int).bo e_int.bo)
  (ss_one (s_app (pl_var 7) (e_tup (n_cons (e_var 9) (n_cons e_non n_nil)))))
  (ss_one (s_app (pl_var 7) (e_tup (n_cons (e_var 9) (n_cons (e_var 10) n_nil))))))))))
  (ss_one (s_frz 7 (s_ret (e_var 7))))))))))
/-! Store._present_runs -/
abbrev s_Store__present_runs : Stmt := inClass (topS 25) 12
abbrev N_Store__present_runs : List Str := ["self", "run"]
theorem sc_Store__present_runs : FnScope N_Store__present_runs ["self"] (defScope s_Store__present_runs) := ⟨rfl, rfl, rfl, by decide +kernel, rfl, by decide +kernel, by decide +kernel⟩
noncomputable def B_Store__present_runs : Sm :=
  (sRet (gL (gLc [1] (gIt (gU (dFld 16 5) (gB 0))) (gN 1) (gT (gOp dNoN (gB 1) (gC .non))) (gV 1))))
noncomputable def S_Store__present_runs : List D → Option D := runK [true] 2 B_Store__present_runs
theorem ok_Store__present_runs {f : Addr} {fd : FuncData} {C16 : Addr} (F : Fun K "_present_runs" "Store._present_runs" s_Store__present_runs f fd) (ck16 : CK K mg 16 C16) : FnOk P w K mg base CX0 1 f fd ["self"] (spK K mg [true] S_Store__present_runs) :=
  def_okK F sc_Store__present_runs rfl fun cdv A outer s H E hr =>
  (ss_one (s_ret (el_lc (own := [("run", 1)]) rfl sc_Store__present_runs.nd (ic_b (b_fld (c := 16) (j := 5) ck16 (b_var 0))) (blkOk_by (own := [("run", 1)]) (N := N_Store__present_runs) (sc := defScope s_Store__present_runs) (by decide +kernel)) (by decide) (fun _ _ _ _ _ => (g_name 1 sc_Store__present_runs.nd)) (fun _ _ _ _ _ => (ts_one (t_cmpB ob_noN (b_var 1) e_non.bo))) (fun _ _ _ _ _ => (e_var 1))).fz))
/-! Level.__init__ -/
abbrev s_Level___init__ : Stmt := inClass (topS 21) 0
abbrev N_Level___init__ : List Str := ["self", "stored", "error", "index", "key"]
theorem sc_Level___init__ : FnScope N_Level___init__ ["self", "stored", "error"] (defScope s_Level___init__) := ⟨rfl, rfl, rfl, by decide +kernel, rfl, by decide +kernel, by decide +kernel⟩
noncomputable def B_Level___init__ : Sm :=
  (sSeq (sFld 0 [] 1 0 (nSh (gL (gUL dList (gB 1)))))
  (sSeq (sFld 0 [] 1 1 (nSh (gV 2)))
  (sFld 0 [] 1 2 (nSh (gU (dFld 0 0) (gCall S_cut (aC (gL (gLc [3, 4] (gEnum (aC (gPE 0 [(1, 0)]) aN)) (gTg 2 (gTo (gN 3) (gTo (gN 4) gEnd))) gYes (gTu 2 (aC (gV 4) (aC (gV 3) aN))))) (aC (gV 2) aN))))))))
noncomputable def S_Level___init__ : Sl → List D → Option (D × Sl) := runM 5 B_Level___init__
theorem ok_Level___init__ {f : Addr} {fd : FuncData} {C0 : Addr} {C1 : Addr} (F : Fun K "__init__" "Level.__init__" s_Level___init__ f fd) (m_list : mg "list" = none) (ck1 : CK K mg 1 C1) (m_enumerate : mg "enumerate" = none) (c_cut : Cal P w K mg base "cut" 7 ["points", "error"] S_cut) (ck0 : CK K mg 0 C0) : FnOk P w K mg base CX0 8 f fd ["self", "stored", "error"] (spM K mg 2 S_Level___init__) :=
  def_okM F sc_Level___init__ rfl fun cdv A outer s H E hr =>
  (ss_cons (s_fld (c := 1) (j := 0) ck1 (pl_var 0) (el_cty cb_list (by rfl) m_list boot_list' (b_var 1)).fz.nw)
  (ss_cons (s_fld (c := 1) (j := 1) ck1 (pl_var 0) (e_var 2).nw)
  (ss_one (s_fld (c := 1) (j := 2) ck1 (pl_var 0) (e_fld (c := 0) (j := 0) ck0 (e_callC c_cut hr (by decide) (n_cons (el_lc (own := [("index", 3), ("key", 4)]) rfl sc_Level___init__.nd (i_enum (by rfl) m_enumerate (n_cons ((pl_fld (c := 1) (j := 0) ck1 (pl_var 0))).er n_nil)).c (blkOk_by (own := [("index", 3), ("key", 4)]) (N := N_Level___init__) (sc := defScope s_Level___init__) (by decide +kernel)) (by decide) (fun _ _ _ _ _ => (g_tup rfl (gl_cons (g_name 3 sc_Level___init__.nd) (gl_cons (g_name 4 sc_Level___init__.nd) gl_nil)))) (fun _ _ _ _ _ => ts_nil) (fun _ _ _ _ _ => (e_tup (n_cons (e_var 4) (n_cons (e_var 3) n_nil))))).fz (n_cons (e_var 2) n_nil)))).nw))))
/-! Level.first_keys -/
abbrev s_Level_first_keys : Stmt := inClass (topS 21) 1
abbrev N_Level_first_keys : List Str := ["self", "start", "_"]
theorem sc_Level_first_keys : FnScope N_Level_first_keys ["self"] (defScope s_Level_first_keys) := ⟨rfl, rfl, rfl, by decide +kernel, rfl, by decide +kernel, by decide +kernel⟩
noncomputable def B_Level_first_keys : Sm :=
  (sRet (gL (gLc [1, 2] (gIt (gU (dFld 1 2) (gV 0))) (gTg 2 (gTo (gN 1) (gTo (gN 2) gEnd))) gYes (gIx (gU (dFld 1 0) (gV 0)) (gV 1)))))
noncomputable def S_Level_first_keys : List D → Option D := runB 3 B_Level_first_keys
theorem ok_Level_first_keys {f : Addr} {fd : FuncData} {C1 : Addr} (F : Fun K "first_keys" "Level.first_keys" s_Level_first_keys f fd) (ck1 : CK K mg 1 C1) : FnOk P w K mg base CX0 1 f fd ["self"] (spD K mg 1 S_Level_first_keys) :=
  def_ok F sc_Level_first_keys fun cdv A outer s H E hr =>
  (ss_one (s_ret (el_lc (own := [("start", 1), ("_", 2)]) rfl sc_Level_first_keys.nd (i_list (e_fld (c := 1) (j := 2) ck1 (e_var 0))).c (blkOk_by (own := [("start", 1), ("_", 2)]) (N := N_Level_first_keys) (sc := defScope s_Level_first_keys) (by decide +kernel)) (by decide) (fun _ _ _ _ _ => (g_tup rfl (gl_cons (g_name 1 sc_Level_first_keys.nd) (gl_cons (g_name 2 sc_Level_first_keys.nd) gl_nil)))) (fun _ _ _ _ _ => ts_nil) (fun _ _ _ _ _ => (e_ix (e_fld (c := 1) (j := 0) ck1 (e_var 0)).bo (e_var 1)))).fz))
/-! Index.__init__ -/
abbrev s_Index___init__ : Stmt := inClass (topS 22) 0
abbrev N_Index___init__ : List Str := ["self", "stored", "error", "upper"]
theorem sc_Index___init__ : FnScope N_Index___init__ ["self", "stored", "error", "upper"] (defScope s_Index___init__) := ⟨rfl, rfl, rfl, by decide +kernel, rfl, by decide +kernel, by decide +kernel⟩
noncomputable def B_Index___init__ : Sm :=
  (sSeq (sFld 0 [] 2 0 (nSh (gL (gUL dList (gB 1)))))
  (sSeq (sFld 0 [] 2 1 (nOw (aC (nD (gMk 1 S_Level___init__ (aC (gPE 0 [(2, 0)]) (aC (gV 2) aN)))) aN)))
  (sWhile (gT (gOp dGt (gU dLen (gU (dFld 1 2) (gIx (gPB 0 [(2, 1)]) (gU dNeg (gI 1))))) (gI 1)))
  (sApp 0 [(2, 1)] (nD (gMk 1 S_Level___init__ (aC (gMeth 1 S_Level_first_keys (gIx (gPB 0 [(2, 1)]) (gU dNeg (gI 1))) aN) (aC (gV 3) aN))))))))
noncomputable def S_Index___init__ : Sl → List D → Option (D × Sl) := runM 4 B_Index___init__
theorem ok_Index___init__ {f : Addr} {fd : FuncData} {C1 : Addr} {C2 : Addr} (F : Fun K "__init__" "Index.__init__" s_Index___init__ f fd) (m_list : mg "list" = none) (ck2 : CK K mg 2 C2) (k_Level : Mak P w K mg base 1 8 ["self", "stored", "error"] S_Level___init__) (ck1 : CK K mg 1 C1) (m_len : mg "len" = none) (c_Level_first_keys : Met P w K mg base 1 "first_keys" 1 ["self"] S_Level_first_keys) : FnOk P w K mg base CX0 10 f fd ["self", "stored", "error", "upper"] (spM K mg 3 S_Index___init__) :=
  def_okM F sc_Index___init__ rfl fun cdv A outer s H E hr =>
  (ss_cons (s_fld (c := 2) (j := 0) ck2 (pl_var 0) (el_cty cb_list (by rfl) m_list boot_list' (b_var 1)).fz.nw)
  (ss_cons (s_fld (c := 2) (j := 1) ck2 (pl_var 0) (el_lst (n_cons (e_mkC (c := 1) k_Level hr (by decide) (n_cons ((pl_fld (c := 2) (j := 0) ck2 (pl_var 0))).er (n_cons (e_var 2) n_nil))).fz n_nil)).nw)
  (ss_one (s_while PassesOwn.never (t_cmp od_gt (e_cb cb_len (by rfl) m_len boot_len' (e_fld (c := 1) (j := 2) ck1 (e_ix ((pl_fld (c := 2) (j := 1) ck2 (pl_var 0))).br (e_neg e_int))).bo) e_int)
  (ss_one (s_app (pl_fld (c := 2) (j := 1) ck2 (pl_var 0)) (e_mkC (c := 1) k_Level hr (by decide) (n_cons (e_metC0 c_Level_first_keys hr (by decide) (e_ix ((pl_fld (c := 2) (j := 1) ck2 (pl_var 0))).br (e_neg e_int))) (n_cons (e_var 3) n_nil))).fz))))))
/-! Run.__init__ -/
abbrev s_Run___init__ : Stmt := inClass (topS 24) 0
abbrev N_Run___init__ : List Str := ["self", "entries", "error", "entry"]
theorem sc_Run___init__ : FnScope N_Run___init__ ["self", "entries", "error"] (defScope s_Run___init__) := ⟨rfl, rfl, rfl, by decide +kernel, rfl, by decide +kernel, by decide +kernel⟩
noncomputable def B_Run___init__ : Sm :=
  (sSeq (sFld 0 [] 5 0 (nSh (gL (gUL dList (gB 1)))))
  (sFld 0 [] 5 1 (gMk 2 S_Index___init__ (aC (gL (gLc [3] (gIt (gPB 0 [(5, 0)])) (gN 3) gYes (gIx (gB 3) (gI 0)))) (aC (gV 2) (aC (gV 2) aN))))))
noncomputable def S_Run___init__ : Sl → List D → Option (D × Sl) := runM 4 B_Run___init__
theorem ok_Run___init__ {f : Addr} {fd : FuncData} {C5 : Addr} (F : Fun K "__init__" "Run.__init__" s_Run___init__ f fd) (m_list : mg "list" = none) (ck5 : CK K mg 5 C5) (k_Index : Mak P w K mg base 2 10 ["self", "stored", "error", "upper"] S_Index___init__) : FnOk P w K mg base CX0 12 f fd ["self", "entries", "error"] (spM K mg 2 S_Run___init__) :=
  def_okM F sc_Run___init__ rfl fun cdv A outer s H E hr =>
  (ss_cons (s_fld (c := 5) (j := 0) ck5 (pl_var 0) (el_cty cb_list (by rfl) m_list boot_list' (b_var 1)).fz.nw)
  (ss_one (s_fld (c := 5) (j := 1) ck5 (pl_var 0) (e_mkC (c := 2) k_Index hr (by decide) (n_cons (el_lc (own := [("entry", 3)]) rfl sc_Run___init__.nd (ic_b ((pl_fld (c := 5) (j := 0) ck5 (pl_var 0))).br) (blkOk_by (own := [("entry", 3)]) (N := N_Run___init__) (sc := defScope s_Run___init__) (by decide +kernel)) (by decide) (fun _ _ _ _ _ => (g_name 3 sc_Run___init__.nd)) (fun _ _ _ _ _ => ts_nil) (fun _ _ _ _ _ => (e_ix (b_var 3) e_int))).fz (n_cons (e_var 2) (n_cons (e_var 2) n_nil)))))))
/-! Store._flush -/
abbrev s_Store__flush : Stmt := inClass (topS 25) 13
abbrev N_Store__flush : List Str := ["self", "parts", "level", "entries", "part"]
theorem sc_Store__flush : FnScope N_Store__flush ["self"] (defScope s_Store__flush) := ⟨rfl, rfl, rfl, by decide +kernel, rfl, by decide +kernel, by decide +kernel⟩
noncomputable def B_Store__flush : Sm :=
  (sSeq (sFrzP 0 [(16, 4)] (sSetO 1 (aC (gPE 0 [(16, 4)]) aN)))
  (sSeq (sSet 2 (gI 0))
  (sSeq (sWhile (gAnd (gT (gOp dLt (gV 2) (gU dLen (gPB 0 [(16, 5)])))) (gT (gOp dNoN (gIx (gPB 0 [(16, 5)]) (gV 2)) (gC .non))))
  (sSeq (sApp 1 [] (gU (dFld 5 0) (gIx (gPB 0 [(16, 5)]) (gV 2))))
  (sSeq (sIxS 0 [(16, 5)] (gV 2) (gC .non))
  (sAug dAddI 2 (gI 1)))))
  (sSeq (sAugF 0 [] 16 2 (gU dSum (gL (gLc [4] (gIt (gB 1)) (gN 4) gYes (gU dLen (gB 4))))))
  (sSeq (sFrz 1 (sSet 3 (gCall S_merged (aC (gV 1) aN))))
  (sSeq (sIf (gNot (gTru (gMeth 16 S_Store__present_runs (gB 0) aN)))
  (sSet 3 (gCall S_without_removed (aC (gV 3) aN)))
  sNil)
  (sSeq (sIf (gT (gOp dEq (gB 2) (gU dLen (gPB 0 [(16, 5)]))))
  (sApp 0 [(16, 5)] (gC .non))
  sNil)
  (sSeq (sIf (gTru (gB 3))
  (sIxS 0 [(16, 5)] (gV 2) (nD (gMk 5 S_Run___init__ (aC (gV 3) (aC (gPE 0 [(16, 1)]) aN)))))
  sNil)
  (sFld 0 [] 16 4 (nOw aN))))))))))
noncomputable def S_Store__flush : Sl → List D → Option (D × Sl) := runM 5 B_Store__flush
theorem ok_Store__flush {f : Addr} {fd : FuncData} {C16 : Addr} {C5 : Addr} (F : Fun K "_flush" "Store._flush" s_Store__flush f fd) (ck16 : CK K mg 16 C16) (m_len : mg "len" = none) (ck5 : CK K mg 5 C5) (m_sum : mg "sum" = none) (c_merged : Cal P w K mg base "merged" 1 ["parts"] S_merged) (c_Store__present_runs : MetK P w K mg base 16 "_present_runs" 1 ["self"] [true] S_Store__present_runs) (c_without_removed : Cal P w K mg base "without_removed" 1 ["entries"] S_without_removed) (k_Run : Mak P w K mg base 5 12 ["self", "entries", "error"] S_Run___init__) : FnOk P w K mg base CX0 14 f fd ["self"] (spM K mg 0 S_Store__flush) :=
  def_okM F sc_Store__flush rfl fun cdv A outer s H E hr =>
  (ss_cons (s_frzP 0 [(16, 4)] (s_setO 1 sc_Store__flush.nd (el_lst (n_cons ((pl_fld (c := 16) (j := 4) ck16 (pl_var 0))).er n_nil))))
  (ss_cons (s_set 2 sc_Store__flush.nd e_int)
  (ss_cons (s_while PassesOwn.never (w_and (t_cmp od_lt (e_var 2) (e_cb cb_len (by rfl) m_len boot_len' ((pl_fld (c := 16) (j := 5) ck16 (pl_var 0))).br)) (w_and1 (t_cmpB ob_noN (e_ix ((pl_fld (c := 16) (j := 5) ck16 (pl_var 0))).br (e_var 2)).bo e_non.bo))).t
  (ss_cons (s_app (pl_var 1) (e_fld (c := 5) (j := 0) ck5 (e_ix ((pl_fld (c := 16) (j := 5) ck16 (pl_var 0))).br (e_var 2))))
  (ss_cons (s_ixS (pl_fld (c := 16) (j := 5) ck16 (pl_var 0)) e_non (e_var 2))
  (ss_one (s_augA 2 sc_Store__flush.nd e_int)))))
  (ss_cons (s_augF (c := 16) (j := 2) ck16 (pl_var 0) (e_cb (cb_sum rfl) (by rfl) m_sum boot_sum' (el_lc (own := [("part", 4)]) rfl sc_Store__flush.nd (ic_b (b_var 1)) (blkOk_by (own := [("part", 4)]) (N := N_Store__flush) (sc := defScope s_Store__flush) (by decide +kernel)) (by decide) (fun _ _ _ _ _ => (g_name 4 sc_Store__flush.nd)) (fun _ _ _ _ _ => ts_nil) (fun _ _ _ _ _ => (e_cb cb_len (by rfl) m_len boot_len' (b_var 4)))).fz.bo))
  (ss_cons (s_frz 1 (s_set 3 sc_Store__flush.nd (e_callC c_merged hr (by decide) (n_cons (e_var 1) n_nil))))
  (ss_cons (s_if (t_not (t_tru (e_metK0 c_Store__present_runs hr (by decide) (b_var 0)).bo))
  (ss_one (s_set 3 sc_Store__flush.nd (e_callC c_without_removed hr (by decide) (n_cons (e_var 3) n_nil))))
  ss_nil)
  (ss_cons (s_if (t_cmpB (ob_eq hr.units) (b_var 2) (e_cb cb_len (by rfl) m_len boot_len' ((pl_fld (c := 16) (j := 5) ck16 (pl_var 0))).br).bo)
  (ss_one (s_app (pl_fld (c := 16) (j := 5) ck16 (pl_var 0)) e_non))
  ss_nil)
  (ss_cons (s_if (t_tru (b_var 3))
  (ss_one (s_ixS (pl_fld (c := 16) (j := 5) ck16 (pl_var 0)) (e_mkC (c := 5) k_Run hr (by decide) (n_cons (e_var 3) (n_cons ((pl_fld (c := 16) (j := 1) ck16 (pl_var 0))).er n_nil))).fz (e_var 2)))
  ss_nil)
  (ss_one (s_fld (c := 16) (j := 4) ck16 (pl_var 0) (el_lst n_nil).nw))))))))))
/-! Store.write -/
abbrev s_Store_write : Stmt := inClass (topS 25) 3
abbrev N_Store_write : List Str := ["self", "key", "value", "place"]
theorem sc_Store_write : FnScope N_Store_write ["self", "key", "value"] (defScope s_Store_write) := ⟨rfl, rfl, rfl, by decide +kernel, rfl, by decide +kernel, by decide +kernel⟩
noncomputable def B_Store_write : Sm :=
  (sSeq (sAugF 0 [] 16 3 (gI 1))
  (sSeq (sSet 3 (gCall S_place_of (aC (gPB 0 [(16, 4)]) (aC (gV 1) aN))))
  (sSeq (sIf (gTru (gCall S_holds (aC (gPB 0 [(16, 4)]) (aC (gV 3) (aC (gV 1) aN)))))
  (sIxS 0 [(16, 4)] (gV 3) (gTu 2 (aC (gV 1) (aC (gV 2) aN))))
  (sIns 0 [(16, 4)] (gV 3) (gTu 2 (aC (gV 1) (aC (gV 2) aN)))))
  (sIf (gT (gOp dGe (gU dLen (gPB 0 [(16, 4)])) (gPE 0 [(16, 0)])))
  (sExpM (gMM 0 [] 16 S_Store__flush aN))
  sNil))))
noncomputable def S_Store_write : Sl → List D → Option (D × Sl) := runM 4 B_Store_write
theorem ok_Store_write {f : Addr} {fd : FuncData} {C16 : Addr} (F : Fun K "write" "Store.write" s_Store_write f fd) (ck16 : CK K mg 16 C16) (c_place_of : CalK P w K mg base "place_of" 1 ["entries", "key"] [true, false] S_place_of) (c_holds : CalK P w K mg base "holds" 1 ["entries", "place", "key"] [true, false, false] S_holds) (m_len : mg "len" = none) (c_Store__flush : MetM P w K mg base 16 "_flush" 14 ["self"] S_Store__flush) : FnOk P w K mg base CX0 15 f fd ["self", "key", "value"] (spM K mg 2 S_Store_write) :=
  def_okM F sc_Store_write rfl fun cdv A outer s H E hr =>
  (ss_cons (s_augF (c := 16) (j := 3) ck16 (pl_var 0) e_int)
  (ss_cons (s_set 3 sc_Store_write.nd (e_callK c_place_of hr (by decide) (m_bo ((pl_fld (c := 16) (j := 4) ck16 (pl_var 0))).br (m_sh (e_var 1) m_nil))))
  (ss_cons (s_if (t_tru (e_callK c_holds hr (by decide) (m_bo ((pl_fld (c := 16) (j := 4) ck16 (pl_var 0))).br (m_sh (e_var 3) (m_sh (e_var 1) m_nil)))).bo)
  (ss_one (s_ixS (pl_fld (c := 16) (j := 4) ck16 (pl_var 0)) (e_tup (n_cons (e_var 1) (n_cons (e_var 2) n_nil))) (e_var 3)))
  (ss_one (s_ins (pl_fld (c := 16) (j := 4) ck16 (pl_var 0)) (e_var 3) (e_tup (n_cons (e_var 1) (n_cons (e_var 2) n_nil))))))
  (ss_one (s_if (t_cmp od_ge (e_cb cb_len (by rfl) m_len boot_len' ((pl_fld (c := 16) (j := 4) ck16 (pl_var 0))).br) ((pl_fld (c := 16) (j := 0) ck16 (pl_var 0))).er)
  (ss_one (s_exprM (em_met0 c_Store__flush hr (by decide) (pl_var 0))))
  ss_nil)))))
/-! Store.put -/
abbrev s_Store_put : Stmt := inClass (topS 25) 1
abbrev N_Store_put : List Str := ["self", "key", "value"]
theorem sc_Store_put : FnScope N_Store_put ["self", "key", "value"] (defScope s_Store_put) := ⟨rfl, rfl, rfl, by decide +kernel, rfl, by decide +kernel, by decide +kernel⟩
noncomputable def B_Store_put : Sm :=
  (sExpM (gMM 0 [] 16 S_Store_write (aC (gV 1) (aC (gV 2) aN))))
noncomputable def S_Store_put : Sl → List D → Option (D × Sl) := runM 3 B_Store_put
theorem ok_Store_put {f : Addr} {fd : FuncData} (F : Fun K "put" "Store.put" s_Store_put f fd) (c_Store_write : MetM P w K mg base 16 "write" 15 ["self", "key", "value"] S_Store_write) : FnOk P w K mg base CX0 16 f fd ["self", "key", "value"] (spM K mg 2 S_Store_put) :=
  def_okM F sc_Store_put rfl fun cdv A outer s H E hr =>
  (ss_one (s_exprM (em_met c_Store_write hr (by decide) (pl_var 0) (n_cons (e_var 1) (n_cons (e_var 2) n_nil)))))
/-! Store.remove -/
abbrev s_Store_remove : Stmt := inClass (topS 25) 2
abbrev N_Store_remove : List Str := ["self", "key"]
theorem sc_Store_remove : FnScope N_Store_remove ["self", "key"] (defScope s_Store_remove) := ⟨rfl, rfl, rfl, by decide +kernel, rfl, by decide +kernel, by decide +kernel⟩
noncomputable def B_Store_remove : Sm :=
  (sExpM (gMM 0 [] 16 S_Store_write (aC (gV 1) (aC (gC .non) aN))))
noncomputable def S_Store_remove : Sl → List D → Option (D × Sl) := runM 2 B_Store_remove
theorem ok_Store_remove {f : Addr} {fd : FuncData} (F : Fun K "remove" "Store.remove" s_Store_remove f fd) (c_Store_write : MetM P w K mg base 16 "write" 15 ["self", "key", "value"] S_Store_write) : FnOk P w K mg base CX0 16 f fd ["self", "key"] (spM K mg 1 S_Store_remove) :=
  def_okM F sc_Store_remove rfl fun cdv A outer s H E hr =>
  (ss_one (s_exprM (em_met c_Store_write hr (by decide) (pl_var 0) (n_cons (e_var 1) (n_cons e_non n_nil)))))
/-! _law_edit -/
abbrev s__law_edit : Stmt := topS 34
abbrev N__law_edit : List Str := ["store", "edit"]
theorem sc__law_edit : FnScope N__law_edit ["store", "edit"] (defScope s__law_edit) := ⟨rfl, rfl, rfl, by decide +kernel, rfl, by decide +kernel, by decide +kernel⟩
noncomputable def B__law_edit : Sm :=
  (sSeq (sIf (gT (gOp dIsN (gIx (gB 1) (gI 1)) (gC .non)))
  (sRetCM (gMM 0 [] 16 S_Store_remove (aC (gIx (gB 1) (gI 0)) aN)))
  sNil)
  (sRetCM (gMM 0 [] 16 S_Store_put (aC (gIx (gB 1) (gI 0)) (aC (gIx (gB 1) (gI 1)) aN)))))
noncomputable def S__law_edit : Sl → List D → Option (D × Sl) := runM 2 B__law_edit
theorem ok__law_edit {f : Addr} {fd : FuncData} (F : Fun K "_law_edit" "_law_edit" s__law_edit f fd) (c_Store_remove : MetM P w K mg base 16 "remove" 16 ["self", "key"] S_Store_remove) (c_Store_put : MetM P w K mg base 16 "put" 16 ["self", "key", "value"] S_Store_put) : FnOk P w K mg base CX0 17 f fd ["store", "edit"] (spM K mg 1 S__law_edit) :=
  def_okM F sc__law_edit rfl fun cdv A outer s H E hr =>
  (ss_cons (s_if (t_cmpB ob_isN (e_ix (b_var 1) e_int).bo e_non.bo)
  (ss_one (s_retCM (em_met c_Store_remove hr (by decide) (pl_var 0) (n_cons (e_ix (b_var 1) e_int) n_nil))))
  ss_nil)
  (ss_one (s_retCM (em_met c_Store_put hr (by decide) (pl_var 0) (n_cons (e_ix (b_var 1) e_int) (n_cons (e_ix (b_var 1) e_int) n_nil))))))
/-! _law_merged -/
abbrev s__law_merged : Stmt := topS 35
abbrev N__law_merged : List Str := ["newer", "older", "found", "key", "value"]
theorem sc__law_merged : FnScope N__law_merged ["newer", "older"] (defScope s__law_merged) := ⟨rfl, rfl, rfl, by decide +kernel, rfl, by decide +kernel, by decide +kernel⟩
noncomputable def B__law_merged : Sm :=
  (sSeq (sSetN 2 nDict)
  (sSeq (sFor (gIt (gV 1)) (gTg 2 (gTo (gN 3) (gTo (gN 4) gEnd)))
  (sDPut' 2 [] (gV 3) (gV 4)))
  (sSeq (sFor (gIt (gV 0)) (gTg 2 (gTo (gN 3) (gTo (gN 4) gEnd)))
  (sDPut' 2 [] (gV 3) (gV 4)))
  (sRet (gL (gLc [3] (gIt (gL (gUL dSorted (gL (gUL dListK (gB 2)))))) (gN 3) gYes (gTu 2 (aC (gV 3) (aC (gOp dDget (gB 2) (gV 3)) aN)))))))))
noncomputable def S__law_merged : List D → Option D := runB 5 B__law_merged
theorem ok__law_merged {f : Addr} {fd : FuncData} (F : Fun K "_law_merged" "_law_merged" s__law_merged f fd) (m_list : mg "list" = none) (m_sorted : mg "sorted" = none) : FnOk P w K mg base CX0 1 f fd ["newer", "older"] (spD K mg 2 S__law_merged) :=
  def_ok F sc__law_merged fun cdv A outer s H E hr =>
  (ss_cons (s_setN 2 sc__law_merged.nd en_dnew)
  (ss_cons (s_for PassesOwn.never rfl (i_list (e_var 1)).fb (g_tup rfl (gl_cons (g_name 3 sc__law_merged.nd) (gl_cons (g_name 4 sc__law_merged.nd) gl_nil)))
  (ss_one (s_dput hr.u1 (pl_var 2) (e_var 4) (e_var 3))))
  (ss_cons (s_for PassesOwn.never rfl (i_list (e_var 0)).fb (g_tup rfl (gl_cons (g_name 3 sc__law_merged.nd) (gl_cons (g_name 4 sc__law_merged.nd) gl_nil)))
  (ss_one (s_dput hr.u1 (pl_var 2) (e_var 4) (e_var 3))))
  (ss_one (s_ret (el_lc (own := [("key", 3)]) rfl sc__law_merged.nd (i_list (el_cb cb_sorted (by rfl) m_sorted boot_sorted' (el_cty (cb_listK rfl) (by rfl) m_list boot_list' (b_var 2)).fz.bo).fz).c (blkOk_by (own := [("key", 3)]) (N := N__law_merged) (sc := defScope s__law_merged) (by decide +kernel)) (by decide) (fun _ _ _ _ _ => (g_name 3 sc__law_merged.nd)) (fun _ _ _ _ _ => ts_nil) (fun _ _ _ _ _ => (e_tup (n_cons (e_var 3) (n_cons (e_dgt hr.u1 (b_var 2) (e_var 3)) n_nil))))).fz)))))
/-! _law_flushed -/
abbrev s__law_flushed : Stmt := topS 36
abbrev N__law_flushed : List Str := ["model", "capacity", "buffer", "runs", "moves", "entries", "level", "k", "run", "entry"]
theorem sc__law_flushed : FnScope N__law_flushed ["model"] (defScope s__law_flushed) := ⟨rfl, rfl, rfl, by decide +kernel, rfl, by decide +kernel, by decide +kernel⟩
noncomputable def B__law_flushed : Sm :=
  (sSeq (sUnp (gTg 4 (gTo (gN 1) (gTo (gN 2) (gTo (gN 3) (gTo (gN 4) gEnd))))) (gV 0))
  (sSeq (sSet 5 (gV 2))
  (sSeq (sSet 4 (gOp dAdd (gV 4) (gU dLen (gB 2))))
  (sSeq (sSetO 3 (gUL dList (gB 3)))
  (sSeq (sSet 6 (gI 0))
  (sSeq (sFor (gRng (aC (gU dLen (gB 3)) aN)) (gN 7)
  (sIf (gAnd (gT (gOp dEq (gB 7) (gB 6))) (gT (gOp dGt (gU dLen (gIx (gB 3) (gV 7))) (gI 0))))
  (sSeq (sSet 4 (gOp dAdd (gV 4) (gU dLen (gIx (gB 3) (gV 7)))))
  (sSeq (sSet 5 (gCall S__law_merged (aC (gV 5) (aC (gIx (gB 3) (gV 7)) aN))))
  (sSeq (sIxS 3 [] (gV 7) (gL aN))
  (sSet 6 (gOp dAdd (gV 7) (gI 1))))))
  sNil))
  (sSeq (sIf (gTru (gU dAll (gL (gLc [8] (gIt (gL (gSl (gB 3) (gSo (gV 6)) gNo))) (gN 8) gYes (gOp dEq (gU dLen (gB 8)) (gI 0))))))
  (sSet 5 (gL (gLc [9] (gIt (gV 5)) (gN 9) (gT (gOp dNoN (gIx (gB 9) (gI 1)) (gC .non))) (gV 9))))
  sNil)
  (sSeq (sIf (gT (gOp dEq (gB 6) (gU dLen (gB 3))))
  (sApp 3 [] (gL aN))
  sNil)
  (sSeq (sIxS 3 [] (gV 6) (gV 5))
  (sFrz 3 (sRet (gTu 4 (aC (gV 1) (aC (gL aN) (aC (gV 3) (aC (gV 4) aN))))))))))))))))
noncomputable def S__law_flushed : List D → Option D := runB 10 B__law_flushed
theorem ok__law_flushed {f : Addr} {fd : FuncData} (F : Fun K "_law_flushed" "_law_flushed" s__law_flushed f fd) (m_len : mg "len" = none) (m_list : mg "list" = none) (m_range : mg "range" = none) (c__law_merged : Cal P w K mg base "_law_merged" 1 ["newer", "older"] S__law_merged) (m_all : mg "all" = none) : FnOk P w K mg base CX0 2 f fd ["model"] (spD K mg 1 S__law_flushed) :=
  def_ok F sc__law_flushed fun cdv A outer s H E hr =>
  (ss_cons (s_unp (e_var 0) (g_tup rfl (gl_cons (g_name 1 sc__law_flushed.nd) (gl_cons (g_name 2 sc__law_flushed.nd) (gl_cons (g_name 3 sc__law_flushed.nd) (gl_cons (g_name 4 sc__law_flushed.nd) gl_nil))))))
  (ss_cons (s_set 5 sc__law_flushed.nd (e_var 2))
  (ss_cons (s_set 4 sc__law_flushed.nd (e_op od_add (e_var 4) (e_cb cb_len (by rfl) m_len boot_len' (b_var 2))))
  (ss_cons (s_setO 3 sc__law_flushed.nd (el_cty cb_list (by rfl) m_list boot_list' (b_var 3)))
  (ss_cons (s_set 6 sc__law_flushed.nd e_int)
  (ss_cons (s_for PassesOwn.never rfl (i_rng1 (by rfl) m_range (n_cons (e_cb cb_len (by rfl) m_len boot_len' (b_var 3)) n_nil)).fb (g_name 7 sc__law_flushed.nd)
  (ss_one (s_if (w_and (t_cmpB (ob_eq hr.units) (b_var 7) (b_var 6)) (w_and1 (t_cmp od_gt (e_cb cb_len (by rfl) m_len boot_len' (e_ix (b_var 3) (e_var 7)).bo) e_int))).t
  (ss_cons (s_set 4 sc__law_flushed.nd (e_op od_add (e_var 4) (e_cb cb_len (by rfl) m_len boot_len' (e_ix (b_var 3) (e_var 7)).bo)))
  (ss_cons (s_set 5 sc__law_flushed.nd (e_callC c__law_merged hr (by decide) (n_cons (e_var 5) (n_cons (e_ix (b_var 3) (e_var 7)) n_nil))))
  (ss_cons (s_ixS (pl_var 3) (el_lst n_nil).fz (e_var 7))
  (ss_one (s_set 6 sc__law_flushed.nd (e_op od_add (e_var 7) e_int))))))
  ss_nil)))
  (ss_cons (s_if (t_tru (e_cb (cb_all rfl) (by rfl) m_all boot_all' (el_lc (own := [("run", 8)]) rfl sc__law_flushed.nd (i_list (el_sl (b_var 3) (o_so (e_var 6)) o_no).fz).c (blkOk_by (own := [("run", 8)]) (N := N__law_flushed) (sc := defScope s__law_flushed) (by decide +kernel)) (by decide) (fun _ _ _ _ _ => (g_name 8 sc__law_flushed.nd)) (fun _ _ _ _ _ => ts_nil) (fun _ _ _ _ _ => (e_cmpB (ob_eq hr.units) (e_cb cb_len (by rfl) m_len boot_len' (b_var 8)).bo e_int.bo))).fz.bo).bo)
  (ss_one (s_setLcS 5 (own := [("entry", 9)]) rfl sc__law_flushed.nd (i_list (e_var 5)).c (blkOk_by (own := [("entry", 9)]) (N := N__law_flushed) (sc := defScope s__law_flushed) (by decide +kernel)) (by decide) (fun _ _ _ _ _ => (g_name 9 sc__law_flushed.nd)) (fun _ _ _ _ _ => (ts_one (t_cmpB ob_noN (e_ix (b_var 9) e_int).bo e_non.bo))) (fun _ _ _ _ _ => (e_var 9))))
  ss_nil)
  (ss_cons (s_if (t_cmpB (ob_eq hr.units) (b_var 6) (e_cb cb_len (by rfl) m_len boot_len' (b_var 3)).bo)
  (ss_one (s_app (pl_var 3) (el_lst n_nil).fz))
  ss_nil)
  (ss_cons (s_ixS (pl_var 3) (e_var 5) (e_var 6))
  (ss_one (s_frz 3 (s_ret (e_tup (n_cons (e_var 1) (n_cons (el_lst n_nil).fz (n_cons (e_var 3) (n_cons (e_var 4) n_nil)))))))))))))))))
/-! _law_after -/
abbrev s__law_after : Stmt := topS 37
abbrev N__law_after : List Str := ["model", "edit", "capacity", "buffer", "runs", "moves"]
theorem sc__law_after : FnScope N__law_after ["model", "edit"] (defScope s__law_after) := ⟨rfl, rfl, rfl, by decide +kernel, rfl, by decide +kernel, by decide +kernel⟩
noncomputable def B__law_after : Sm :=
  (sSeq (sUnp (gTg 4 (gTo (gN 2) (gTo (gN 3) (gTo (gN 4) (gTo (gN 5) gEnd))))) (gV 0))
  (sSeq (sSet 0 (gTu 4 (aC (gV 2) (aC (gCall S__law_merged (aC (gL (aC (gV 1) aN)) (aC (gV 3) aN))) (aC (gV 4) (aC (gV 5) aN))))))
  (sSeq (sIf (gT (gOp dGe (gU dLen (gIx (gB 0) (gI 1))) (gV 2)))
  (sRet (gCall S__law_flushed (aC (gV 0) aN)))
  sNil)
  (sRet (gV 0)))))
noncomputable def S__law_after : List D → Option D := runB 6 B__law_after
theorem ok__law_after {f : Addr} {fd : FuncData} (F : Fun K "_law_after" "_law_after" s__law_after f fd) (c__law_merged : Cal P w K mg base "_law_merged" 1 ["newer", "older"] S__law_merged) (m_len : mg "len" = none) (c__law_flushed : Cal P w K mg base "_law_flushed" 2 ["model"] S__law_flushed) : FnOk P w K mg base CX0 3 f fd ["model", "edit"] (spD K mg 2 S__law_after) :=
  def_ok F sc__law_after fun cdv A outer s H E hr =>
  (ss_cons (s_unp (e_var 0) (g_tup rfl (gl_cons (g_name 2 sc__law_after.nd) (gl_cons (g_name 3 sc__law_after.nd) (gl_cons (g_name 4 sc__law_after.nd) (gl_cons (g_name 5 sc__law_after.nd) gl_nil))))))
  (ss_cons (s_set 0 sc__law_after.nd (e_tup (n_cons (e_var 2) (n_cons (e_callC c__law_merged hr (by decide) (n_cons (el_lst (n_cons (e_var 1) n_nil)).fz (n_cons (e_var 3) n_nil))) (n_cons (e_var 4) (n_cons (e_var 5) n_nil))))))
  (ss_cons (s_if (t_cmp od_ge (e_cb cb_len (by rfl) m_len boot_len' (e_ix (b_var 0) e_int).bo) (e_var 2))
  (ss_one (s_ret (e_callC c__law_flushed hr (by decide) (n_cons (e_var 0) n_nil))))
  ss_nil)
  (ss_one (s_ret (e_var 0))))))
/-! _law_sizes -/
abbrev s__law_sizes : Stmt := topS 38
abbrev N__law_sizes : List Str := ["model", "sizes", "last", "k", "run"]
theorem sc__law_sizes : FnScope N__law_sizes ["model"] (defScope s__law_sizes) := ⟨rfl, rfl, rfl, by decide +kernel, rfl, by decide +kernel, by decide +kernel⟩
noncomputable def B__law_sizes : Sm :=
  (sSeq (sSet 1 (gL (gLc [4] (gIt (gIx (gB 0) (gI 2))) (gN 4) gYes (gU dLen (gB 4)))))
  (sSeq (sSet 2 (gI 0))
  (sSeq (sFor (gRng (aC (gU dLen (gB 1)) aN)) (gN 3)
  (sIf (gT (gOp dGt (gIx (gB 1) (gV 3)) (gI 0)))
  (sSet 2 (gOp dAdd (gV 3) (gI 1)))
  sNil))
  (sRet (gL (gSl (gB 1) gNo (gSo (gV 2))))))))
noncomputable def S__law_sizes : List D → Option D := runB 5 B__law_sizes
theorem ok__law_sizes {f : Addr} {fd : FuncData} (F : Fun K "_law_sizes" "_law_sizes" s__law_sizes f fd) (m_len : mg "len" = none) (m_range : mg "range" = none) : FnOk P w K mg base CX0 1 f fd ["model"] (spD K mg 1 S__law_sizes) :=
  def_ok F sc__law_sizes fun cdv A outer s H E hr =>
  (ss_cons (s_setLcS 1 (own := [("run", 4)]) rfl sc__law_sizes.nd (i_list (e_ix (b_var 0) e_int)).c (blkOk_by (own := [("run", 4)]) (N := N__law_sizes) (sc := defScope s__law_sizes) (by decide +kernel)) (by decide) (fun _ _ _ _ _ => (g_name 4 sc__law_sizes.nd)) (fun _ _ _ _ _ => ts_nil) (fun _ _ _ _ _ => (e_cb cb_len (by rfl) m_len boot_len' (b_var 4))))
  (ss_cons (s_set 2 sc__law_sizes.nd e_int)
  (ss_cons (s_for PassesOwn.never rfl (i_rng1 (by rfl) m_range (n_cons (e_cb cb_len (by rfl) m_len boot_len' (b_var 1)) n_nil)).fb (g_name 3 sc__law_sizes.nd)
  (ss_one (s_if (t_cmp od_gt (e_ix (b_var 1) (e_var 3)) e_int)
  (ss_one (s_set 2 sc__law_sizes.nd (e_op od_add (e_var 3) e_int)))
  ss_nil)))
  (ss_one (s_ret (el_sl (b_var 1) o_no (o_so (e_var 2))).fz)))))
/-! Store.__init__ -/
abbrev s_Store___init__ : Stmt := inClass (topS 25) 0
abbrev N_Store___init__ : List Str := ["self", "capacity", "error"]
theorem sc_Store___init__ : FnScope N_Store___init__ ["self", "capacity", "error"] (defScope s_Store___init__) := ⟨rfl, rfl, rfl, by decide +kernel, rfl, by decide +kernel, by decide +kernel⟩
noncomputable def B_Store___init__ : Sm :=
  (sSeq (sFld 0 [] 16 0 (nSh (gV 1)))
  (sSeq (sFld 0 [] 16 1 (nSh (gV 2)))
  (sSeq (sFld 0 [] 16 2 (nSh (gI 0)))
  (sSeq (sFld 0 [] 16 3 (nSh (gI 0)))
  (sSeq (sFld 0 [] 16 4 (nOw aN))
  (sFld 0 [] 16 5 (nOw aN)))))))
noncomputable def S_Store___init__ : Sl → List D → Option (D × Sl) := runM 3 B_Store___init__
theorem ok_Store___init__ {f : Addr} {fd : FuncData} {C16 : Addr} (F : Fun K "__init__" "Store.__init__" s_Store___init__ f fd) (ck16 : CK K mg 16 C16) : FnOk P w K mg base CX0 1 f fd ["self", "capacity", "error"] (spM K mg 2 S_Store___init__) :=
  def_okM F sc_Store___init__ rfl fun cdv A outer s H E hr =>
  (ss_cons (s_fld (c := 16) (j := 0) ck16 (pl_var 0) (e_var 1).nw)
  (ss_cons (s_fld (c := 16) (j := 1) ck16 (pl_var 0) (e_var 2).nw)
  (ss_cons (s_fld (c := 16) (j := 2) ck16 (pl_var 0) e_int.nw)
  (ss_cons (s_fld (c := 16) (j := 3) ck16 (pl_var 0) e_int.nw)
  (ss_cons (s_fld (c := 16) (j := 4) ck16 (pl_var 0) (el_lst n_nil).nw)
  (ss_one (s_fld (c := 16) (j := 5) ck16 (pl_var 0) (el_lst n_nil).nw)))))))
/-! Store.run_sizes -/
abbrev s_Store_run_sizes : Stmt := inClass (topS 25) 7
abbrev N_Store_run_sizes : List Str := ["self", "sizes", "run"]
theorem sc_Store_run_sizes : FnScope N_Store_run_sizes ["self"] (defScope s_Store_run_sizes) := ⟨rfl, rfl, rfl, by decide +kernel, rfl, by decide +kernel, by decide +kernel⟩
noncomputable def B_Store_run_sizes : Sm :=
  (sSeq (sSetO 1 (gLc [2] (gIt (gU (dFld 16 5) (gB 0))) (gN 2) gYes (gIf (gT (gOp dIsN (gB 2) (gC .non))) (gI 0) (gU dLen (gU (dFld 5 0) (gV 2))))))
  (sSeq (sWhile (gAnd (gTru (gB 1)) (gT (gOp dEq (gIx (gB 1) (gU dNeg (gI 1))) (gI 0))))
  (sDelI 1 [] (gU dNeg (gI 1))))
  (sRetO 1 [])))
noncomputable def S_Store_run_sizes : List D → Option Sl := runKN [true] 3 B_Store_run_sizes
theorem ok_Store_run_sizes {f : Addr} {fd : FuncData} {C16 : Addr} {C5 : Addr} (F : Fun K "run_sizes" "Store.run_sizes" s_Store_run_sizes f fd) (ck16 : CK K mg 16 C16) (ck5 : CK K mg 5 C5) (m_len : mg "len" = none) : FnOk P w K mg base CX0 1 f fd ["self"] (spKN K mg [true] S_Store_run_sizes) :=
  def_okKN F sc_Store_run_sizes rfl fun cdv A outer s H E hr =>
  (ss_cons (s_setLc 1 (own := [("run", 2)]) rfl sc_Store_run_sizes.nd (ic_b (b_fld (c := 16) (j := 5) ck16 (b_var 0))) (blkOk_by (own := [("run", 2)]) (N := N_Store_run_sizes) (sc := defScope s_Store_run_sizes) (by decide +kernel)) (by decide) (fun _ _ _ _ _ => (g_name 2 sc_Store_run_sizes.nd)) (fun _ _ _ _ _ => ts_nil) (fun _ _ _ _ _ => (e_if (t_cmpB ob_isN (b_var 2) e_non.bo) e_int (e_cb cb_len (by rfl) m_len boot_len' (e_fld (c := 5) (j := 0) ck5 (e_var 2)).bo))))
  (ss_cons (s_while PassesOwn.never (w_and (t_tru (b_var 1)) (w_and1 (t_cmpB (ob_eq hr.units) (e_ix (b_var 1) (e_neg e_int)).bo e_int.bo))).t
  (ss_one (s_delI (pl_var 1) (e_neg e_int))))
  (ss_one (s_retO (pl_var 1)))))
/-! Store.buffered -/
abbrev s_Store_buffered : Stmt := inClass (topS 25) 8
abbrev N_Store_buffered : List Str := ["self"]
theorem sc_Store_buffered : FnScope N_Store_buffered ["self"] (defScope s_Store_buffered) := ⟨rfl, rfl, rfl, by decide +kernel, rfl, by decide +kernel, by decide +kernel⟩
noncomputable def B_Store_buffered : Sm :=
  (sRet (gU dLen (gU (dFld 16 4) (gB 0))))
noncomputable def S_Store_buffered : List D → Option D := runK [true] 1 B_Store_buffered
theorem ok_Store_buffered {f : Addr} {fd : FuncData} {C16 : Addr} (F : Fun K "buffered" "Store.buffered" s_Store_buffered f fd) (ck16 : CK K mg 16 C16) (m_len : mg "len" = none) : FnOk P w K mg base CX0 1 f fd ["self"] (spK K mg [true] S_Store_buffered) :=
  def_okK F sc_Store_buffered rfl fun cdv A outer s H E hr =>
  (ss_one (s_ret (e_cb cb_len (by rfl) m_len boot_len' (b_fld (c := 16) (j := 4) ck16 (b_var 0)))))
/-! law -/
abbrev s_law : Stmt := topS 39
abbrev N_law : List Str := ["script", "capacity", "store", "model", "edit"]
theorem sc_law : FnScope N_law ["script"] (defScope s_law) := ⟨rfl, rfl, rfl, by decide +kernel, rfl, by decide +kernel, by decide +kernel⟩
noncomputable def B_law : Sm :=
  (sSeq (sSet 1 (gOp dAdd (gI 1) (gOp dMod (gU dInt (gCall S__law_cell (aC (gV 0) (aC (gI 0) aN)))) (gI 5))))
  (sSeq (sSetN 2 (gMk 16 S_Store___init__ (aC (gV 1) (aC (gOp dMod (gU dInt (gOp dDiv (gCall S__law_cell (aC (gV 0) (aC (gI 0) aN))) (gI 5))) (gI 4)) aN))))
  (sSeq (sSet 3 (gTu 4 (aC (gV 1) (aC (gL aN) (aC (gL aN) (aC (gI 0) aN))))))
  (sSeq (sIf (gOr (gT (gOp dNe (nD (gMethN 16 S_Store_run_sizes (gB 2) aN)) (gL aN))) (gOr (gT (gOp dNe (gMeth 16 S_Store_buffered (gB 2) aN) (gI 0))) (gT (gOp dNe (gPB 2 [(16, 2)]) (gI 0)))))
  (sRet (gC (.bl false)))
  sNil)
  (sSeq (sFor (gIt (gCall S__law_edits (aC (gV 0) (aC (gI 1) (aC (gI 60) aN))))) (gN 4)
  (sSeq (sExpM (gCM 2 [] S__law_edit (aC (gV 4) aN)))
  (sSeq (sSet 3 (gCall S__law_after (aC (gV 3) (aC (gV 4) aN))))
  (sSeq (sIf (gOr (gT (gOp dNe (gMeth 16 S_Store_buffered (gB 2) aN) (gU dLen (gIx (gB 3) (gI 1))))) (gOr (gT (gOp dNe (gPB 2 [(16, 2)]) (gIx (gB 3) (gI 3)))) (gT (gOp dNe (nD (gMethN 16 S_Store_run_sizes (gB 2) aN)) (gCall S__law_sizes (aC (gV 3) aN))))))
  (sRet (gC (.bl false)))
  sNil)
  (sAppX (gMethN 16 S_Store_run_sizes (gB 2) aN) (gI 1))))))
  (sRet (gC (.bl true))))))))
noncomputable def S_law : List D → Option D := runB 5 B_law
theorem ok_law {f : Addr} {fd : FuncData} {C16 : Addr} (F : Fun K "law" "law" s_law f fd) (c__law_cell : Cal P w K mg base "_law_cell" 1 ["script", "k"] S__law_cell) (m_int : mg "int" = none) (k_Store : Mak P w K mg base 16 1 ["self", "capacity", "error"] S_Store___init__) (ck16 : CK K mg 16 C16) (c_Store_buffered : MetK P w K mg base 16 "buffered" 1 ["self"] [true] S_Store_buffered) (c_Store_run_sizes : MetKN P w K mg base 16 "run_sizes" 1 ["self"] [true] S_Store_run_sizes) (c__law_edits : Cal P w K mg base "_law_edits" 2 ["script", "place", "most"] S__law_edits) (c__law_edit : CalM P w K mg base "_law_edit" 17 ["store", "edit"] S__law_edit) (c__law_after : Cal P w K mg base "_law_after" 3 ["model", "edit"] S__law_after) (c__law_sizes : Cal P w K mg base "_law_sizes" 1 ["model"] S__law_sizes) (m_len : mg "len" = none) : FnOk P w K mg base CX0 18 f fd ["script"] (spD K mg 1 S_law) :=
  def_ok F sc_law fun cdv A outer s H E hr =>
  (ss_cons (s_set 1 sc_law.nd (e_op od_add e_int (e_op od_mod (e_cty cb_int (by rfl) m_int boot_int' (e_callC c__law_cell hr (by decide) (n_cons (e_var 0) (n_cons e_int n_nil))).bo) e_int)))
  (ss_cons (s_setN 2 sc_law.nd (e_mkC (c := 16) k_Store hr (by decide) (n_cons (e_var 1) (n_cons (e_op od_mod (e_cty cb_int (by rfl) m_int boot_int' (e_op od_div (e_callC c__law_cell hr (by decide) (n_cons (e_var 0) (n_cons e_int n_nil))) e_int).bo) e_int) n_nil))))
  (ss_cons (s_set 3 sc_law.nd (e_tup (n_cons (e_var 1) (n_cons (el_lst n_nil).fz (n_cons (el_lst n_nil).fz (n_cons e_int n_nil))))))
  (ss_cons (s_if (w_or (t_cmpB (ob_ne hr.units) (e_metKN0 c_Store_run_sizes hr (by decide) (b_var 2)).fz.bo (el_lst n_nil).fz.bo) (w_or (t_cmpB (ob_ne hr.units) (e_metK0 c_Store_buffered hr (by decide) (b_var 2)).bo e_int.bo) (w_or1 (t_cmpB (ob_ne hr.units) ((pl_fld (c := 16) (j := 2) ck16 (pl_var 2))).br e_int.bo)))).t
  (ss_one (s_ret e_bl))
  ss_nil)
  (ss_cons (s_for PassesOwn.never rfl (i_list (e_callC c__law_edits hr (by decide) (n_cons (e_var 0) (n_cons e_int (n_cons e_int n_nil))))).fb (g_name 4 sc_law.nd)
  (ss_cons (s_exprM (em_call c__law_edit hr (by decide) (pl_var 2) (n_cons (e_var 4) n_nil)))
  (ss_cons (s_set 3 sc_law.nd (e_callC c__law_after hr (by decide) (n_cons (e_var 3) (n_cons (e_var 4) n_nil))))
  (ss_cons (s_if (w_or (t_cmpB (ob_ne hr.units) (e_metK0 c_Store_buffered hr (by decide) (b_var 2)).bo (e_cb cb_len (by rfl) m_len boot_len' (e_ix (b_var 3) e_int).bo).bo) (w_or (t_cmpB (ob_ne hr.units) ((pl_fld (c := 16) (j := 2) ck16 (pl_var 2))).br (e_ix (b_var 3) e_int).bo) (w_or1 (t_cmpB (ob_ne hr.units) (e_metKN0 c_Store_run_sizes hr (by decide) (b_var 2)).fz.bo (e_callC c__law_sizes hr (by decide) (n_cons (e_var 3) n_nil)).bo)))).t
  (ss_one (s_ret e_bl))
  ss_nil)
  (ss_one (s_appX (e_metKN0 c_Store_run_sizes hr (by decide) (b_var 2)) e_int))))))
  (ss_one (s_ret e_bl)))))))
/-! Level.window -/
abbrev s_Level_window : Stmt := inClass (topS 21) 2
abbrev N_Level_window : List Str := ["self", "piece", "x", "start", "line", "last", "low", "high"]
theorem sc_Level_window : FnScope N_Level_window ["self", "piece", "x"] (defScope s_Level_window) := ⟨rfl, rfl, rfl, by decide +kernel, rfl, by decide +kernel, by decide +kernel⟩
noncomputable def B_Level_window : Sm :=
  (sSeq (sUnp (gTg 2 (gTo (gN 3) (gTo (gN 4) gEnd))) (gIx (gU (dFld 1 2) (gV 0)) (gV 1)))
  (sSeq (sSet 5 (gOp dSub (gU dLen (gU (dFld 1 0) (gV 0))) (gI 1)))
  (sSeq (sIf (gT (gOp dLt (gOp dAdd (gV 1) (gI 1)) (gU dLen (gU (dFld 1 2) (gV 0)))))
  (sSet 5 (gOp dSub (gIx (gIx (gU (dFld 1 2) (gV 0)) (gOp dAdd (gV 1) (gI 1))) (gI 0)) (gI 1)))
  sNil)
  (sSeq (sSet 6 (gA dMin2 (aC (gV 5) (aC (gOp dSub (gOp dSub (gCall S_ceiling_at (aC (gV 4) (aC (gV 2) aN))) (gI 1)) (gU (dFld 1 1) (gV 0))) aN))))
  (sSeq (sSet 7 (gA dMin2 (aC (gV 5) (aC (gOp dAdd (gCall S_floor_at (aC (gV 4) (aC (gV 2) aN))) (gU (dFld 1 1) (gV 0))) aN))))
  (sRet (gTu 2 (aC (gA dMax2 (aC (gV 3) (aC (gV 6) aN))) (aC (gV 7) aN)))))))))
noncomputable def S_Level_window : List D → Option D := runB 8 B_Level_window
theorem ok_Level_window {f : Addr} {fd : FuncData} {C1 : Addr} (F : Fun K "window" "Level.window" s_Level_window f fd) (ck1 : CK K mg 1 C1) (m_len : mg "len" = none) (c_ceiling_at : Cal P w K mg base "ceiling_at" 1 ["line", "place"] S_ceiling_at) (m_min : mg "min" = none) (c_floor_at : Cal P w K mg base "floor_at" 1 ["line", "place"] S_floor_at) (m_max : mg "max" = none) : FnOk P w K mg base CX0 2 f fd ["self", "piece", "x"] (spD K mg 3 S_Level_window) :=
  def_ok F sc_Level_window fun cdv A outer s H E hr =>
  (ss_cons (s_unp (e_ix (e_fld (c := 1) (j := 2) ck1 (e_var 0)).bo (e_var 1)) (g_tup rfl (gl_cons (g_name 3 sc_Level_window.nd) (gl_cons (g_name 4 sc_Level_window.nd) gl_nil))))
  (ss_cons (s_set 5 sc_Level_window.nd (e_op od_sub (e_cb cb_len (by rfl) m_len boot_len' (e_fld (c := 1) (j := 0) ck1 (e_var 0)).bo) e_int))
  (ss_cons (s_if (t_cmp od_lt (e_op od_add (e_var 1) e_int) (e_cb cb_len (by rfl) m_len boot_len' (e_fld (c := 1) (j := 2) ck1 (e_var 0)).bo))
  (ss_one (s_set 5 sc_Level_window.nd (e_op od_sub (e_ix (e_ix (e_fld (c := 1) (j := 2) ck1 (e_var 0)).bo (e_op od_add (e_var 1) e_int)).bo e_int) e_int)))
  ss_nil)
  (ss_cons (s_set 6 sc_Level_window.nd (e_cba (cb_min2 rfl) (by rfl) m_min boot_min' (n_cons (e_var 5) (n_cons (e_op od_sub (e_op od_sub (e_callC c_ceiling_at hr (by decide) (n_cons (e_var 4) (n_cons (e_var 2) n_nil))) e_int) (e_fld (c := 1) (j := 1) ck1 (e_var 0))) n_nil)).a))
  (ss_cons (s_set 7 sc_Level_window.nd (e_cba (cb_min2 rfl) (by rfl) m_min boot_min' (n_cons (e_var 5) (n_cons (e_op od_add (e_callC c_floor_at hr (by decide) (n_cons (e_var 4) (n_cons (e_var 2) n_nil))) (e_fld (c := 1) (j := 1) ck1 (e_var 0))) n_nil)).a))
  (ss_one (s_ret (e_tup (n_cons (e_cba (cb_max2 rfl) (by rfl) m_max boot_max' (n_cons (e_var 3) (n_cons (e_var 6) n_nil)).a) (n_cons (e_var 7) n_nil))))))))))
/-! Level.search -/
abbrev s_Level_search : Stmt := inClass (topS 21) 3
abbrev N_Level_search : List Str := ["self", "piece", "x", "low", "high", "looked", "middle"]
theorem sc_Level_search : FnScope N_Level_search ["self", "piece", "x"] (defScope s_Level_search) := ⟨rfl, rfl, rfl, by decide +kernel, rfl, by decide +kernel, by decide +kernel⟩
noncomputable def B_Level_search : Sm :=
  (sSeq (sUnp (gTg 2 (gTo (gN 3) (gTo (gN 4) gEnd))) (gMeth 1 S_Level_window (gV 0) (aC (gV 1) (aC (gV 2) aN))))
  (sSeq (sSetO 5 aN)
  (sSeq (sWhile (gT (gOp dLt (gV 3) (gV 4)))
  (sSeq (sSet 6 (gOp dDiv (gOp dAdd (gOp dAdd (gV 3) (gV 4)) (gI 1)) (gI 2)))
  (sSeq (sApp 5 [] (gV 6))
  (sIf (gT (gOp dLe (gIx (gU (dFld 1 0) (gV 0)) (gV 6)) (gV 2)))
  (sSet 3 (gV 6))
  (sSet 4 (gOp dSub (gV 6) (gI 1)))))))
  (sFrz 5 (sRet (gTu 2 (aC (gV 3) (aC (gV 5) aN))))))))
noncomputable def S_Level_search : List D → Option D := runB 7 B_Level_search
theorem ok_Level_search {f : Addr} {fd : FuncData} {C1 : Addr} (F : Fun K "search" "Level.search" s_Level_search f fd) (c_Level_window : Met P w K mg base 1 "window" 2 ["self", "piece", "x"] S_Level_window) (ck1 : CK K mg 1 C1) : FnOk P w K mg base CX0 3 f fd ["self", "piece", "x"] (spD K mg 3 S_Level_search) :=
  def_ok F sc_Level_search fun cdv A outer s H E hr =>
  (ss_cons (s_unp (e_metC c_Level_window hr (by decide) (e_var 0) (n_cons (e_var 1) (n_cons (e_var 2) n_nil))) (g_tup rfl (gl_cons (g_name 3 sc_Level_search.nd) (gl_cons (g_name 4 sc_Level_search.nd) gl_nil))))
  (ss_cons (s_setO 5 sc_Level_search.nd (el_lst n_nil))
  (ss_cons (s_while PassesOwn.never (t_cmp od_lt (e_var 3) (e_var 4))
  (ss_cons (s_set 6 sc_Level_search.nd (e_op od_div (e_op od_add (e_op od_add (e_var 3) (e_var 4)) e_int) e_int))
  (ss_cons (s_app (pl_var 5) (e_var 6))
  (ss_one (s_if (t_cmp od_le (e_ix (e_fld (c := 1) (j := 0) ck1 (e_var 0)).bo (e_var 6)) (e_var 2))
  (ss_one (s_set 3 sc_Level_search.nd (e_var 6)))
  (ss_one (s_set 4 sc_Level_search.nd (e_op od_sub (e_var 6) e_int))))))))
  (ss_one (s_frz 5 (s_ret (e_tup (n_cons (e_var 3) (n_cons (e_var 5) n_nil)))))))))
/-! Index.level_keys -/
abbrev s_Index_level_keys : Stmt := inClass (topS 22) 1
abbrev N_Index_level_keys : List Str := ["self"]
theorem sc_Index_level_keys : FnScope N_Index_level_keys ["self"] (defScope s_Index_level_keys) := ⟨rfl, rfl, rfl, by decide +kernel, rfl, by decide +kernel, by decide +kernel⟩
noncomputable def B_Index_level_keys : Sm :=
  (sExp (gCall S__wall (aC (gI 0) aN)))
noncomputable def S_Index_level_keys : List D → Option D := runB 1 B_Index_level_keys
theorem ok_Index_level_keys {f : Addr} {fd : FuncData} (F : Fun K "level_keys" "Index.level_keys" s_Index_level_keys f fd) (c__wall : Cal P w K mg base "_wall" 1 ["k"] S__wall) : FnOk P w K mg base CX0 2 f fd ["self"] (spD K mg 1 S_Index_level_keys) :=
  def_ok F sc_Index_level_keys fun cdv A outer s H E hr =>
  (ss_one (s_expr (e_callC c__wall hr (by decide) (n_cons e_int n_nil))))
/-! Index.pieces -/
abbrev s_Index_pieces : Stmt := inClass (topS 22) 2
abbrev N_Index_pieces : List Str := ["self", "level"]
theorem sc_Index_pieces : FnScope N_Index_pieces ["self"] (defScope s_Index_pieces) := ⟨rfl, rfl, rfl, by decide +kernel, rfl, by decide +kernel, by decide +kernel⟩
noncomputable def B_Index_pieces : Sm :=
  (sRet (gL (gLc [1] (gIt (gU (dFld 2 1) (gV 0))) (gN 1) gYes (gU dLen (gU (dFld 1 2) (gV 1))))))
noncomputable def S_Index_pieces : List D → Option D := runB 2 B_Index_pieces
theorem ok_Index_pieces {f : Addr} {fd : FuncData} {C1 : Addr} {C2 : Addr} (F : Fun K "pieces" "Index.pieces" s_Index_pieces f fd) (ck2 : CK K mg 2 C2) (ck1 : CK K mg 1 C1) (m_len : mg "len" = none) : FnOk P w K mg base CX0 1 f fd ["self"] (spD K mg 1 S_Index_pieces) :=
  def_ok F sc_Index_pieces fun cdv A outer s H E hr =>
  (ss_one (s_ret (el_lc (own := [("level", 1)]) rfl sc_Index_pieces.nd (i_list (e_fld (c := 2) (j := 1) ck2 (e_var 0))).c (blkOk_by (own := [("level", 1)]) (N := N_Index_pieces) (sc := defScope s_Index_pieces) (by decide +kernel)) (by decide) (fun _ _ _ _ _ => (g_name 1 sc_Index_pieces.nd)) (fun _ _ _ _ _ => ts_nil) (fun _ _ _ _ _ => (e_cb cb_len (by rfl) m_len boot_len' (e_fld (c := 1) (j := 2) ck1 (e_var 1)).bo))).fz))
/-! Index.look_up -/
abbrev s_Index_look_up : Stmt := inClass (topS 22) 3
abbrev N_Index_look_up : List Str := ["self", "x", "top", "looks", "position", "number", "looked", "place"]
theorem sc_Index_look_up : FnScope N_Index_look_up ["self", "x"] (defScope s_Index_look_up) := ⟨rfl, rfl, rfl, by decide +kernel, rfl, by decide +kernel, by decide +kernel⟩
noncomputable def B_Index_look_up : Sm :=
  (sSeq (sIf (gNot (gTru (gU (dFld 2 0) (gV 0))))
  (sRet (gTu 2 (aC (gI 0) (aC (gL aN) aN))))
  sNil)
  (sSeq (sSet 2 (gOp dSub (gU dLen (gU (dFld 2 1) (gV 0))) (gI 1)))
  (sSeq (sSetO 3 (aC (gTu 2 (aC (gV 2) (aC (gI 0) aN))) aN))
  (sSeq (sIf (gT (gOp dLt (gV 1) (gIx (gU (dFld 2 0) (gV 0)) (gI 0))))
  (sFrz 3 (sRet (gTu 2 (aC (gI 0) (aC (gV 3) aN)))))
  sNil)
  (sSeq (sSet 4 (gI 0))
  (sSeq (sFor (fun Γ => (aC (gOp dAdd (gV 2) (gI 1)) aN Γ).bind dRngR) (gN 5)
  (sSeq (sUnp (gTg 2 (gTo (gN 4) (gTo (gN 6) gEnd))) (gMeth 1 S_Level_search (gIx (gU (dFld 2 1) (gV 0)) (gV 5)) (aC (gV 4) (aC (gV 1) aN))))
  (sExt 3 [] (gLc [7] (gIt (gV 6)) (gN 7) gYes (gTu 2 (aC (gV 5) (aC (gV 7) aN)))))))
  (sFrz 3 (sRet (gTu 2 (aC (gOp dAdd (gV 4) (gI 1)) (aC (gV 3) aN)))))))))))
noncomputable def S_Index_look_up : List D → Option D := runB 8 B_Index_look_up
theorem ok_Index_look_up {f : Addr} {fd : FuncData} {C2 : Addr} (F : Fun K "look_up" "Index.look_up" s_Index_look_up f fd) (ck2 : CK K mg 2 C2) (m_len : mg "len" = none) (m_reversed : mg "reversed" = none) (m_range : mg "range" = none) (c_Level_search : Met P w K mg base 1 "search" 3 ["self", "piece", "x"] S_Level_search) : FnOk P w K mg base CX0 4 f fd ["self", "x"] (spD K mg 2 S_Index_look_up) :=
  def_ok F sc_Index_look_up fun cdv A outer s H E hr =>
  (ss_cons (s_if (t_not (t_tru (e_fld (c := 2) (j := 0) ck2 (e_var 0)).bo))
  (ss_one (s_ret (e_tup (n_cons e_int (n_cons (el_lst n_nil).fz n_nil)))))
  ss_nil)
  (ss_cons (s_set 2 sc_Index_look_up.nd (e_op od_sub (e_cb cb_len (by rfl) m_len boot_len' (e_fld (c := 2) (j := 1) ck2 (e_var 0)).bo) e_int))
  (ss_cons (s_setO 3 sc_Index_look_up.nd (el_lst (n_cons (e_tup (n_cons (e_var 2) (n_cons e_int n_nil))) n_nil)))
  (ss_cons (s_if (t_cmp od_lt (e_var 1) (e_ix (e_fld (c := 2) (j := 0) ck2 (e_var 0)).bo e_int))
  (ss_one (s_frz 3 (s_ret (e_tup (n_cons e_int (n_cons (e_var 3) n_nil))))))
  ss_nil)
  (ss_cons (s_set 4 sc_Index_look_up.nd e_int)
  (ss_cons (s_for PassesOwn.never rfl (i_rev1 (by rfl) m_reversed (by rfl) m_range (e_op od_add (e_var 2) e_int)).fb (g_name 5 sc_Index_look_up.nd)
  (ss_cons (s_unp (e_metC c_Level_search hr (by decide) (e_ix (e_fld (c := 2) (j := 1) ck2 (e_var 0)).bo (e_var 5)) (n_cons (e_var 4) (n_cons (e_var 1) n_nil))) (g_tup rfl (gl_cons (g_name 4 sc_Index_look_up.nd) (gl_cons (g_name 6 sc_Index_look_up.nd) gl_nil))))
  (ss_one (s_ext (pl_var 3) (el_lc (own := [("place", 7)]) rfl sc_Index_look_up.nd (i_list (e_var 6)).c (blkOk_by (own := [("place", 7)]) (N := N_Index_look_up) (sc := defScope s_Index_look_up) (by decide +kernel)) (by decide) (fun _ _ _ _ _ => (g_name 7 sc_Index_look_up.nd)) (fun _ _ _ _ _ => ts_nil) (fun _ _ _ _ _ => (e_tup (n_cons (e_var 5) (n_cons (e_var 7) n_nil)))))))))
  (ss_one (s_frz 3 (s_ret (e_tup (n_cons (e_op od_add (e_var 4) e_int) (n_cons (e_var 3) n_nil))))))))))))
/-! Index.rank -/
abbrev s_Index_rank : Stmt := inClass (topS 22) 4
abbrev N_Index_rank : List Str := ["self", "x"]
theorem sc_Index_rank : FnScope N_Index_rank ["self", "x"] (defScope s_Index_rank) := ⟨rfl, rfl, rfl, by decide +kernel, rfl, by decide +kernel, by decide +kernel⟩
noncomputable def B_Index_rank : Sm :=
  (sRet (gIx (gMeth 2 S_Index_look_up (gV 0) (aC (gV 1) aN)) (gI 0)))
noncomputable def S_Index_rank : List D → Option D := runB 2 B_Index_rank
theorem ok_Index_rank {f : Addr} {fd : FuncData} (F : Fun K "rank" "Index.rank" s_Index_rank f fd) (c_Index_look_up : Met P w K mg base 2 "look_up" 4 ["self", "x"] S_Index_look_up) : FnOk P w K mg base CX0 5 f fd ["self", "x"] (spD K mg 2 S_Index_rank) :=
  def_ok F sc_Index_rank fun cdv A outer s H E hr =>
  (ss_one (s_ret (e_ix (e_metC c_Index_look_up hr (by decide) (e_var 0) (n_cons (e_var 1) n_nil)).bo e_int)))
/-! Index.key_at -/
abbrev s_Index_key_at : Stmt := inClass (topS 22) 9
abbrev N_Index_key_at : List Str := ["self", "index"]
theorem sc_Index_key_at : FnScope N_Index_key_at ["self", "index"] (defScope s_Index_key_at) := ⟨rfl, rfl, rfl, by decide +kernel, rfl, by decide +kernel, by decide +kernel⟩
noncomputable def B_Index_key_at : Sm :=
  (sSeq (sIf (gCh (gI 0) (gChn dLe (gV 1) (gCh1 dLt (gU dLen (gU (dFld 2 0) (gV 0))))))
  (sRet (gIx (gU (dFld 2 0) (gV 0)) (gV 1)))
  sNil)
  (sRet (gC .non)))
noncomputable def S_Index_key_at : List D → Option D := runB 2 B_Index_key_at
theorem ok_Index_key_at {f : Addr} {fd : FuncData} {C2 : Addr} (F : Fun K "key_at" "Index.key_at" s_Index_key_at f fd) (ck2 : CK K mg 2 C2) (m_len : mg "len" = none) : FnOk P w K mg base CX0 1 f fd ["self", "index"] (spD K mg 2 S_Index_key_at) :=
  def_ok F sc_Index_key_at fun cdv A outer s H E hr =>
  (ss_cons (s_if (t_chn e_int (c_cons od_le (e_var 1) (c_last od_lt (e_cb cb_len (by rfl) m_len boot_len' (e_fld (c := 2) (j := 0) ck2 (e_var 0)).bo))))
  (ss_one (s_ret (e_ix (e_fld (c := 2) (j := 0) ck2 (e_var 0)).bo (e_var 1))))
  ss_nil)
  (ss_one (s_ret e_non)))
/-! Index.at_most -/
abbrev s_Index_at_most : Stmt := inClass (topS 22) 7
abbrev N_Index_at_most : List Str := ["self", "x"]
theorem sc_Index_at_most : FnScope N_Index_at_most ["self", "x"] (defScope s_Index_at_most) := ⟨rfl, rfl, rfl, by decide +kernel, rfl, by decide +kernel, by decide +kernel⟩
noncomputable def B_Index_at_most : Sm :=
  (sRet (gMeth 2 S_Index_key_at (gV 0) (aC (gOp dSub (gMeth 2 S_Index_rank (gV 0) (aC (gV 1) aN)) (gI 1)) aN)))
noncomputable def S_Index_at_most : List D → Option D := runB 2 B_Index_at_most
theorem ok_Index_at_most {f : Addr} {fd : FuncData} (F : Fun K "at_most" "Index.at_most" s_Index_at_most f fd) (c_Index_rank : Met P w K mg base 2 "rank" 5 ["self", "x"] S_Index_rank) (c_Index_key_at : Met P w K mg base 2 "key_at" 1 ["self", "index"] S_Index_key_at) : FnOk P w K mg base CX0 6 f fd ["self", "x"] (spD K mg 2 S_Index_at_most) :=
  def_ok F sc_Index_at_most fun cdv A outer s H E hr =>
  (ss_one (s_ret (e_metC c_Index_key_at hr (by decide) (e_var 0) (n_cons (e_op od_sub (e_metC c_Index_rank hr (by decide) (e_var 0) (n_cons (e_var 1) n_nil)) e_int) n_nil))))
/-! Index.has -/
abbrev s_Index_has : Stmt := inClass (topS 22) 5
abbrev N_Index_has : List Str := ["self", "x"]
theorem sc_Index_has : FnScope N_Index_has ["self", "x"] (defScope s_Index_has) := ⟨rfl, rfl, rfl, by decide +kernel, rfl, by decide +kernel, by decide +kernel⟩
noncomputable def B_Index_has : Sm :=
  (sRet (gOp dEq (gMeth 2 S_Index_at_most (gV 0) (aC (gV 1) aN)) (gB 1)))
noncomputable def S_Index_has : List D → Option D := runB 2 B_Index_has
theorem ok_Index_has {f : Addr} {fd : FuncData} (F : Fun K "has" "Index.has" s_Index_has f fd) (c_Index_at_most : Met P w K mg base 2 "at_most" 6 ["self", "x"] S_Index_at_most) : FnOk P w K mg base CX0 7 f fd ["self", "x"] (spD K mg 2 S_Index_has) :=
  def_ok F sc_Index_has fun cdv A outer s H E hr =>
  (ss_one (s_ret (e_cmpB (ob_eq hr.units) (e_metC c_Index_at_most hr (by decide) (e_var 0) (n_cons (e_var 1) n_nil)).bo (b_var 1))))
/-! Index.count -/
abbrev s_Index_count : Stmt := inClass (topS 22) 6
abbrev N_Index_count : List Str := ["self", "a", "b"]
theorem sc_Index_count : FnScope N_Index_count ["self", "a", "b"] (defScope s_Index_count) := ⟨rfl, rfl, rfl, by decide +kernel, rfl, by decide +kernel, by decide +kernel⟩
noncomputable def B_Index_count : Sm :=
  (sSeq (sIf (gT (gOp dGt (gV 1) (gV 2)))
  (sRet (gI 0))
  sNil)
  (sRet (gOp dSub (gMeth 2 S_Index_rank (gV 0) (aC (gV 2) aN)) (gMeth 2 S_Index_rank (gV 0) (aC (gOp dSub (gV 1) (gI 1)) aN)))))
noncomputable def S_Index_count : List D → Option D := runB 3 B_Index_count
theorem ok_Index_count {f : Addr} {fd : FuncData} (F : Fun K "count" "Index.count" s_Index_count f fd) (c_Index_rank : Met P w K mg base 2 "rank" 5 ["self", "x"] S_Index_rank) : FnOk P w K mg base CX0 6 f fd ["self", "a", "b"] (spD K mg 3 S_Index_count) :=
  def_ok F sc_Index_count fun cdv A outer s H E hr =>
  (ss_cons (s_if (t_cmp od_gt (e_var 1) (e_var 2))
  (ss_one (s_ret e_int))
  ss_nil)
  (ss_one (s_ret (e_op od_sub (e_metC c_Index_rank hr (by decide) (e_var 0) (n_cons (e_var 2) n_nil)) (e_metC c_Index_rank hr (by decide) (e_var 0) (n_cons (e_op od_sub (e_var 1) e_int) n_nil))))))
/-! Index.at_least -/
abbrev s_Index_at_least : Stmt := inClass (topS 22) 8
abbrev N_Index_at_least : List Str := ["self", "x"]
theorem sc_Index_at_least : FnScope N_Index_at_least ["self", "x"] (defScope s_Index_at_least) := ⟨rfl, rfl, rfl, by decide +kernel, rfl, by decide +kernel, by decide +kernel⟩
noncomputable def B_Index_at_least : Sm :=
  (sExp (gCall S__wall (aC (gI 1) aN)))
noncomputable def S_Index_at_least : List D → Option D := runB 2 B_Index_at_least
theorem ok_Index_at_least {f : Addr} {fd : FuncData} (F : Fun K "at_least" "Index.at_least" s_Index_at_least f fd) (c__wall : Cal P w K mg base "_wall" 1 ["k"] S__wall) : FnOk P w K mg base CX0 2 f fd ["self", "x"] (spD K mg 2 S_Index_at_least) :=
  def_ok F sc_Index_at_least fun cdv A outer s H E hr =>
  (ss_one (s_expr (e_callC c__wall hr (by decide) (n_cons e_int n_nil))))
/-! Run.entry_of -/
abbrev s_Run_entry_of : Stmt := inClass (topS 24) 1
abbrev N_Run_entry_of : List Str := ["self", "key", "rank"]
theorem sc_Run_entry_of : FnScope N_Run_entry_of ["self", "key"] (defScope s_Run_entry_of) := ⟨rfl, rfl, rfl, by decide +kernel, rfl, by decide +kernel, by decide +kernel⟩
noncomputable def B_Run_entry_of : Sm :=
  (sSeq (sSet 2 (gMeth 2 S_Index_rank (gU (dFld 5 1) (gV 0)) (aC (gV 1) aN)))
  (sSeq (sIf (gAnd (gT (gOp dGt (gV 2) (gI 0))) (gT (gOp dEq (gIx (gIx (gU (dFld 5 0) (gV 0)) (gOp dSub (gV 2) (gI 1))) (gI 0)) (gB 1))))
  (sRet (gIx (gU (dFld 5 0) (gV 0)) (gOp dSub (gV 2) (gI 1))))
  sNil)
  (sRet (gC .non))))
noncomputable def S_Run_entry_of : List D → Option D := runB 3 B_Run_entry_of
theorem ok_Run_entry_of {f : Addr} {fd : FuncData} {C5 : Addr} (F : Fun K "entry_of" "Run.entry_of" s_Run_entry_of f fd) (ck5 : CK K mg 5 C5) (c_Index_rank : Met P w K mg base 2 "rank" 5 ["self", "x"] S_Index_rank) : FnOk P w K mg base CX0 6 f fd ["self", "key"] (spD K mg 2 S_Run_entry_of) :=
  def_ok F sc_Run_entry_of fun cdv A outer s H E hr =>
  (ss_cons (s_set 2 sc_Run_entry_of.nd (e_metC c_Index_rank hr (by decide) (e_fld (c := 5) (j := 1) ck5 (e_var 0)) (n_cons (e_var 1) n_nil)))
  (ss_cons (s_if (w_and (t_cmp od_gt (e_var 2) e_int) (w_and1 (t_cmpB (ob_eq hr.units) (e_ix (e_ix (e_fld (c := 5) (j := 0) ck5 (e_var 0)).bo (e_op od_sub (e_var 2) e_int)).bo e_int).bo (b_var 1)))).t
  (ss_one (s_ret (e_ix (e_fld (c := 5) (j := 0) ck5 (e_var 0)).bo (e_op od_sub (e_var 2) e_int))))
  ss_nil)
  (ss_one (s_ret e_non))))
/-! Run.between -/
abbrev s_Run_between : Stmt := inClass (topS 24) 2
abbrev N_Run_between : List Str := ["self", "a", "b"]
theorem sc_Run_between : FnScope N_Run_between ["self", "a", "b"] (defScope s_Run_between) := ⟨rfl, rfl, rfl, by decide +kernel, rfl, by decide +kernel, by decide +kernel⟩
noncomputable def B_Run_between : Sm :=
  (sRet (gL (gSl (gU (dFld 5 0) (gV 0)) (gSo (gMeth 2 S_Index_rank (gU (dFld 5 1) (gV 0)) (aC (gOp dSub (gV 1) (gI 1)) aN))) (gSo (gMeth 2 S_Index_rank (gU (dFld 5 1) (gV 0)) (aC (gV 2) aN))))))
noncomputable def S_Run_between : List D → Option D := runB 3 B_Run_between
theorem ok_Run_between {f : Addr} {fd : FuncData} {C5 : Addr} (F : Fun K "between" "Run.between" s_Run_between f fd) (ck5 : CK K mg 5 C5) (c_Index_rank : Met P w K mg base 2 "rank" 5 ["self", "x"] S_Index_rank) : FnOk P w K mg base CX0 6 f fd ["self", "a", "b"] (spD K mg 3 S_Run_between) :=
  def_ok F sc_Run_between fun cdv A outer s H E hr =>
  (ss_one (s_ret (el_sl (e_fld (c := 5) (j := 0) ck5 (e_var 0)).bo (o_so (e_metC c_Index_rank hr (by decide) (e_fld (c := 5) (j := 1) ck5 (e_var 0)) (n_cons (e_op od_sub (e_var 1) e_int) n_nil))) (o_so (e_metC c_Index_rank hr (by decide) (e_fld (c := 5) (j := 1) ck5 (e_var 0)) (n_cons (e_var 2) n_nil)))).fz))
/-! Store.between -/
abbrev s_Store_between : Stmt := inClass (topS 25) 6
abbrev N_Store_between : List Str := ["self", "a", "b", "newest", "older", "run"]
theorem sc_Store_between : FnScope N_Store_between ["self", "a", "b"] (defScope s_Store_between) := ⟨rfl, rfl, rfl, by decide +kernel, rfl, by decide +kernel, by decide +kernel⟩
noncomputable def B_Store_between : Sm :=
  (sSeq (sIf (gT (gOp dGt (gV 1) (gV 2)))
  (sRet (gL aN))
  sNil)
  (sSeq (sSet 3 (gL (gSl (gU (dFld 16 4) (gV 0)) (gSo (gCall S_place_of (aC (gU (dFld 16 4) (gV 0)) (aC (gV 1) aN)))) (gSo (gCall S_place_of (aC (gU (dFld 16 4) (gV 0)) (aC (gOp dAdd (gV 2) (gI 1)) aN)))))))
  (sSeq (sSet 4 (gL (gLc [5] (gIt (gMeth 16 S_Store__present_runs (gB 0) aN)) (gN 5) gYes (gMeth 5 S_Run_between (gV 5) (aC (gV 1) (aC (gV 2) aN))))))
  (sRet (gCall S_without_removed (aC (gCall S_merged (aC (gOp dAdd (gL (aC (gV 3) aN)) (gV 4)) aN)) aN))))))
noncomputable def S_Store_between : List D → Option D := runB 6 B_Store_between
theorem ok_Store_between {f : Addr} {fd : FuncData} {C16 : Addr} (F : Fun K "between" "Store.between" s_Store_between f fd) (ck16 : CK K mg 16 C16) (c_place_of : CalK P w K mg base "place_of" 1 ["entries", "key"] [true, false] S_place_of) (c_Store__present_runs : MetK P w K mg base 16 "_present_runs" 1 ["self"] [true] S_Store__present_runs) (c_Run_between : Met P w K mg base 5 "between" 6 ["self", "a", "b"] S_Run_between) (c_merged : Cal P w K mg base "merged" 1 ["parts"] S_merged) (c_without_removed : Cal P w K mg base "without_removed" 1 ["entries"] S_without_removed) : FnOk P w K mg base CX0 7 f fd ["self", "a", "b"] (spD K mg 3 S_Store_between) :=
  def_ok F sc_Store_between fun cdv A outer s H E hr =>
  (ss_cons (s_if (t_cmp od_gt (e_var 1) (e_var 2))
  (ss_one (s_ret (el_lst n_nil).fz))
  ss_nil)
  (ss_cons (s_set 3 sc_Store_between.nd (el_sl (e_fld (c := 16) (j := 4) ck16 (e_var 0)).bo (o_so (e_callK c_place_of hr (by decide) (m_bo (e_fld (c := 16) (j := 4) ck16 (e_var 0)).bo (m_sh (e_var 1) m_nil)))) (o_so (e_callK c_place_of hr (by decide) (m_bo (e_fld (c := 16) (j := 4) ck16 (e_var 0)).bo (m_sh (e_op od_add (e_var 2) e_int) m_nil))))).fz)
  (ss_cons (s_setLcS 4 (own := [("run", 5)]) rfl sc_Store_between.nd (i_list (e_metK0 c_Store__present_runs hr (by decide) (b_var 0))).c (blkOk_by (own := [("run", 5)]) (N := N_Store_between) (sc := defScope s_Store_between) (by decide +kernel)) (by decide) (fun _ _ _ _ _ => (g_name 5 sc_Store_between.nd)) (fun _ _ _ _ _ => ts_nil) (fun _ _ _ _ _ => (e_metC c_Run_between hr (by decide) (e_var 5) (n_cons (e_var 1) (n_cons (e_var 2) n_nil)))))
  (ss_one (s_ret (e_callC c_without_removed hr (by decide) (n_cons (e_callC c_merged hr (by decide) (n_cons (e_op od_add (el_lst (n_cons (e_var 3) n_nil)).fz (e_var 4)) n_nil)) n_nil)))))))
/-! Store.get -/
abbrev s_Store_get : Stmt := inClass (topS 25) 4
abbrev N_Store_get : List Str := ["self", "key", "place", "run", "entry"]
theorem sc_Store_get : FnScope N_Store_get ["self", "key"] (defScope s_Store_get) := ⟨rfl, rfl, rfl, by decide +kernel, rfl, by decide +kernel, by decide +kernel⟩
noncomputable def B_Store_get : Sm :=
  (sSeq (sSet 2 (gCall S_place_of (aC (gU (dFld 16 4) (gV 0)) (aC (gV 1) aN))))
  (sSeq (sIf (gTru (gCall S_holds (aC (gU (dFld 16 4) (gV 0)) (aC (gV 2) (aC (gV 1) aN)))))
  (sRet (gIx (gIx (gU (dFld 16 4) (gV 0)) (gV 2)) (gI 1)))
  sNil)
  (sSeq (sFor (gIt (gMeth 16 S_Store__present_runs (gB 0) aN)) (gN 3)
  (sSeq (sSet 4 (gMeth 5 S_Run_entry_of (gV 3) (aC (gV 1) aN)))
  (sIf (gT (gOp dNoN (gB 4) (gC .non)))
  (sRet (gIx (gB 4) (gI 1)))
  sNil)))
  (sRet (gC .non)))))
noncomputable def S_Store_get : List D → Option D := runB 5 B_Store_get
theorem ok_Store_get {f : Addr} {fd : FuncData} {C16 : Addr} (F : Fun K "get" "Store.get" s_Store_get f fd) (ck16 : CK K mg 16 C16) (c_place_of : CalK P w K mg base "place_of" 1 ["entries", "key"] [true, false] S_place_of) (c_holds : CalK P w K mg base "holds" 1 ["entries", "place", "key"] [true, false, false] S_holds) (c_Store__present_runs : MetK P w K mg base 16 "_present_runs" 1 ["self"] [true] S_Store__present_runs) (c_Run_entry_of : Met P w K mg base 5 "entry_of" 6 ["self", "key"] S_Run_entry_of) : FnOk P w K mg base CX0 7 f fd ["self", "key"] (spD K mg 2 S_Store_get) :=
  def_ok F sc_Store_get fun cdv A outer s H E hr =>
  (ss_cons (s_set 2 sc_Store_get.nd (e_callK c_place_of hr (by decide) (m_bo (e_fld (c := 16) (j := 4) ck16 (e_var 0)).bo (m_sh (e_var 1) m_nil))))
  (ss_cons (s_if (t_tru (e_callK c_holds hr (by decide) (m_bo (e_fld (c := 16) (j := 4) ck16 (e_var 0)).bo (m_sh (e_var 2) (m_sh (e_var 1) m_nil)))).bo)
  (ss_one (s_ret (e_ix (e_ix (e_fld (c := 16) (j := 4) ck16 (e_var 0)).bo (e_var 2)).bo e_int)))
  ss_nil)
  (ss_cons (s_for PassesOwn.never rfl (i_list (e_metK0 c_Store__present_runs hr (by decide) (b_var 0))).fb (g_name 3 sc_Store_get.nd)
  (ss_cons (s_set 4 sc_Store_get.nd (e_metC c_Run_entry_of hr (by decide) (e_var 3) (n_cons (e_var 1) n_nil)))
  (ss_one (s_if (t_cmpB ob_noN (b_var 4) e_non.bo)
  (ss_one (s_ret (e_ix (b_var 4) e_int)))
  ss_nil))))
  (ss_one (s_ret e_non)))))
/-! Store.contents -/
abbrev s_Store_contents : Stmt := inClass (topS 25) 5
abbrev N_Store_contents : List Str := ["self", "older", "run"]
theorem sc_Store_contents : FnScope N_Store_contents ["self"] (defScope s_Store_contents) := ⟨rfl, rfl, rfl, by decide +kernel, rfl, by decide +kernel, by decide +kernel⟩
noncomputable def B_Store_contents : Sm :=
  (sSeq (sSet 1 (gL (gLc [2] (gIt (gMeth 16 S_Store__present_runs (gB 0) aN)) (gN 2) gYes (gU (dFld 5 0) (gV 2)))))
  (sRet (gCall S_without_removed (aC (gCall S_merged (aC (gOp dAdd (gL (aC (gU (dFld 16 4) (gV 0)) aN)) (gV 1)) aN)) aN))))
noncomputable def S_Store_contents : List D → Option D := runB 3 B_Store_contents
theorem ok_Store_contents {f : Addr} {fd : FuncData} {C16 : Addr} {C5 : Addr} (F : Fun K "contents" "Store.contents" s_Store_contents f fd) (c_Store__present_runs : MetK P w K mg base 16 "_present_runs" 1 ["self"] [true] S_Store__present_runs) (ck5 : CK K mg 5 C5) (ck16 : CK K mg 16 C16) (c_merged : Cal P w K mg base "merged" 1 ["parts"] S_merged) (c_without_removed : Cal P w K mg base "without_removed" 1 ["entries"] S_without_removed) : FnOk P w K mg base CX0 2 f fd ["self"] (spD K mg 1 S_Store_contents) :=
  def_ok F sc_Store_contents fun cdv A outer s H E hr =>
  (ss_cons (s_setLcS 1 (own := [("run", 2)]) rfl sc_Store_contents.nd (i_list (e_metK0 c_Store__present_runs hr (by decide) (b_var 0))).c (blkOk_by (own := [("run", 2)]) (N := N_Store_contents) (sc := defScope s_Store_contents) (by decide +kernel)) (by decide) (fun _ _ _ _ _ => (g_name 2 sc_Store_contents.nd)) (fun _ _ _ _ _ => ts_nil) (fun _ _ _ _ _ => (e_fld (c := 5) (j := 0) ck5 (e_var 2))))
  (ss_one (s_ret (e_callC c_without_removed hr (by decide) (n_cons (e_callC c_merged hr (by decide) (n_cons (e_op od_add (el_lst (n_cons (e_fld (c := 16) (j := 4) ck16 (e_var 0)) n_nil)).fz (e_var 1)) n_nil)) n_nil)))))
/-! Store.buffer_entries -/
abbrev s_Store_buffer_entries : Stmt := inClass (topS 25) 9
abbrev N_Store_buffer_entries : List Str := ["self"]
theorem sc_Store_buffer_entries : FnScope N_Store_buffer_entries ["self"] (defScope s_Store_buffer_entries) := ⟨rfl, rfl, rfl, by decide +kernel, rfl, by decide +kernel, by decide +kernel⟩
noncomputable def B_Store_buffer_entries : Sm :=
  (sExp (gCall S__wall (aC (gI 2) aN)))
noncomputable def S_Store_buffer_entries : List D → Option D := runB 1 B_Store_buffer_entries
theorem ok_Store_buffer_entries {f : Addr} {fd : FuncData} (F : Fun K "buffer_entries" "Store.buffer_entries" s_Store_buffer_entries f fd) (c__wall : Cal P w K mg base "_wall" 1 ["k"] S__wall) : FnOk P w K mg base CX0 2 f fd ["self"] (spD K mg 1 S_Store_buffer_entries) :=
  def_ok F sc_Store_buffer_entries fun cdv A outer s H E hr =>
  (ss_one (s_expr (e_callC c__wall hr (by decide) (n_cons e_int n_nil))))
/-! Store.level_entries -/
abbrev s_Store_level_entries : Stmt := inClass (topS 25) 10
abbrev N_Store_level_entries : List Str := ["self"]
theorem sc_Store_level_entries : FnScope N_Store_level_entries ["self"] (defScope s_Store_level_entries) := ⟨rfl, rfl, rfl, by decide +kernel, rfl, by decide +kernel, by decide +kernel⟩
noncomputable def B_Store_level_entries : Sm :=
  (sExp (gCall S__wall (aC (gI 3) aN)))
noncomputable def S_Store_level_entries : List D → Option D := runB 1 B_Store_level_entries
theorem ok_Store_level_entries {f : Addr} {fd : FuncData} (F : Fun K "level_entries" "Store.level_entries" s_Store_level_entries f fd) (c__wall : Cal P w K mg base "_wall" 1 ["k"] S__wall) : FnOk P w K mg base CX0 2 f fd ["self"] (spD K mg 1 S_Store_level_entries) :=
  def_ok F sc_Store_level_entries fun cdv A outer s H E hr =>
  (ss_one (s_expr (e_callC c__wall hr (by decide) (n_cons e_int n_nil))))
/-! Store.restore -/
abbrev s_Store_restore : Stmt := inClass (topS 25) 11
abbrev N_Store_restore : List Str := ["self", "edits", "moves", "buffer", "levels"]
theorem sc_Store_restore : FnScope N_Store_restore ["self", "edits", "moves", "buffer", "levels"] (defScope s_Store_restore) := ⟨rfl, rfl, rfl, by decide +kernel, rfl, by decide +kernel, by decide +kernel⟩
noncomputable def B_Store_restore : Sm :=
  (sExp (gCall S__wall (aC (gI 4) aN)))
noncomputable def S_Store_restore : List D → Option D := runB 5 B_Store_restore
theorem ok_Store_restore {f : Addr} {fd : FuncData} (F : Fun K "restore" "Store.restore" s_Store_restore f fd) (c__wall : Cal P w K mg base "_wall" 1 ["k"] S__wall) : FnOk P w K mg base CX0 2 f fd ["self", "edits", "moves", "buffer", "levels"] (spD K mg 5 S_Store_restore) :=
  def_ok F sc_Store_restore fun cdv A outer s H E hr =>
  (ss_one (s_expr (e_callC c__wall hr (by decide) (n_cons e_int n_nil))))
end
end K41

namespace K41
open PySem L2 DL
local macro_rules | `(tactic| walk_at "ev call") => `(tactic| ((with_reducible (show _ = _)); with_reducible assumption))
local macro_rules | `(tactic| walk_at "ev mul") => `(tactic| first | (with_reducible assumption) | exact mulOk_l (by omega) (by omega) | exact mulOk_r (by omega) (by omega) | decide +kernel)
local macro_rules | `(tactic| walk_at "ev pos") => `(tactic| first | (with_reducible assumption) | decide | omega)
local macro_rules | `(tactic| walk_at "ev log") => `(tactic| first | (with_reducible assumption) | exact log_of (k := 100) (by omega) (by decide) (by decide) | decide +kernel)
local macro_rules | `(tactic| walk_at "ev") => `(tactic| (repeat' first
  | (with_reducible exact ev_I) | (with_reducible exact ev_C) | (with_reducible exact ev_nl) | (with_reducible exact ev_No)
  | ((with_reducible apply ev_V); exact rfl) | ((with_reducible apply ev_B); exact rfl) | ((with_reducible apply ev_Bo); exact rfl)
  | (with_reducible apply ev_cs) | (with_reducible apply ev_tu) | (with_reducible apply ev_L)
  | (with_reducible apply ev_op) | (with_reducible apply ev_U) | (with_reducible apply ev_call) | (with_reducible apply ev_A)
  | (with_reducible apply ev_UL) | (with_reducible apply ev_Sl) | (with_reducible apply ev_So) | (with_reducible apply ev_meth)
  | (with_reducible apply ev_T) | (with_reducible apply ev_Tru) | (with_reducible apply ev_not) | (with_reducible apply ev_bl)
  | (with_reducible apply ev_ch) | (with_reducible apply ev_ch1) | (with_reducible apply ev_chn)
  | (with_reducible apply ev_and) | (with_reducible apply ev_or)
  | (with_reducible exact d_add) | (with_reducible exact d_sub)
  | ((with_reducible refine d_mul ?_); walk_at "ev mul") | ((with_reducible refine d_mod ?_); walk_at "ev pos") | ((with_reducible refine d_div ?_ ?_) <;> first | walk_at "ev pos" | walk_at "ev log")
  | ((with_reducible (show dLt (.int _) (.int _) = _)); exact rfl) | ((with_reducible (show dLe (.int _) (.int _) = _)); exact rfl) | ((with_reducible (show dGt (.int _) (.int _) = _)); exact rfl) | ((with_reducible (show dGe (.int _) (.int _) = _)); exact rfl)
  | ((with_reducible (show dInt (.int _) = _)); exact rfl) | ((with_reducible (show dAbs (.int _) = _)); exact rfl) | ((with_reducible (show dNeg (.int _) = _)); exact rfl)
  | ((with_reducible (show dTru (.bl _) = _)); exact rfl) | ((with_reducible refine d_pow ?_); decide)
  | ((with_reducible (show dIsi _ (.bl _) = _)); exact rfl) | ((with_reducible (show dIsi _ (.tup _) = _)); exact rfl) | ((with_reducible (show dIsi _ (.int _) = _)); exact rfl) | ((with_reducible (show dIsi _ .non = _)); exact rfl)
  | ((with_reducible (show dIsN _ _ = _)); exact rfl) | ((with_reducible (show dNoN _ _ = _)); exact rfl)
  | ((with_reducible (show dLen (.lst _) = _)); exact rfl) | ((with_reducible (show dLen (.scr _) = _)); exact rfl) | ((with_reducible (show dLen (.tup _) = _)); exact rfl)
  | (with_reducible refine d_eq eqOk_int eqOk_int eqd_int) | (with_reducible refine d_eq eqOk_bl eqOk_bl eqd_bl) | (with_reducible refine d_ne eqOk_int eqOk_int eqd_int)
  | (with_reducible refine d_ne eqOk_bl eqOk_bl eqd_bl) | ((with_reducible (show dIx (.tup _) (.int _) = _)); exact rfl)
  | walk_at "ev call"))
local macro_rules | `(tactic| walk_at "ev norm") => `(tactic| simp only [List.map_cons, List.map_nil, List.length_cons, List.length_nil, Nat.reduceAdd, Nat.reduceSub, List.reduceReplicate, List.cons_append, List.nil_append, List.set_cons_zero, List.set_cons_succ, List.zip_cons_cons, List.zip_nil_left, List.zip_nil_right, List.foldl_cons, List.foldl_nil])
local macro_rules | `(tactic| walk_at "ev st") => `(tactic| first
  | ((with_reducible apply sq_set); walk_at "ev"; all_goals (try walk_at "ev norm"))
  | ((with_reducible apply sq_unp); (walk_at "ev"); (all_goals try exact rfl); all_goals (try walk_at "ev norm"))
  | ((with_reducible apply sq_par); walk_at "ev"; all_goals (try walk_at "ev norm"))
  | ((with_reducible apply sq_setO); walk_at "ev"; all_goals (try walk_at "ev norm"))
  | ((with_reducible apply sq_ret); walk_at "ev")
  | ((with_reducible apply sv_ret); walk_at "ev")
  | ((with_reducible apply sv_set); walk_at "ev")
  | (with_reducible apply sq_nil))
def absI (a : Int) : Int := if a < 0 then -a else a
theorem absI_le {a b : Int} : absI a ≤ b ↔ -b ≤ a ∧ a ≤ b := by unfold absI; split <;> omega
def encP (a : Int × Int) : D := .tup [.int a.1, .int a.2]
def encL (l : Int × Int × Int) : D := .tup [.int l.1, .int l.2.1, .int l.2.2]
theorem all_map_bl {α : Type} (xs : List α) (t : α → Bool) : dAll (.lst (xs.map fun a => D.bl (t a))) = some (.bl (xs.all t)) := by
  have e : xs.map (fun a => D.bl (t a)) = (xs.map t).map D.bl := by rw [List.map_map]; rfl
  rw [e, d_all]
  simp [List.all_map]
def cell (ns : List Int) (k : Nat) : Int := ns.getD k 0
theorem cell_eq (ns : List Int) (k : Int) (h0 : 0 ≤ k) : S__law_cell [.scr ns, .int k] = some (.int (cell ns k.toNat)) := by
  obtain ⟨k, rfl⟩ := Int.eq_ofNat_of_zero_le h0
  refine sv_run ?_
  unfold B__law_cell
  walk_at "ev norm"
  refine sv_ifS (b := decide ((k : Int) < (ns.length : Int))) ?_ ?_ ?_
  · walk_at "ev"
  · intro h
    have h : k < ns.length := by simpa using h
    refine sv_rt (sv_ret (ev_op (ev_B rfl) (ev_V rfl) ?_))
    show (atI ns (k : Int)).map D.int = _
    rw [atI_nat (List.getElem?_eq_getElem h)]
    simp [cell, h]
  · intro h
    have h : ns.length ≤ k := by simpa using h
    rw [sv_nilS]
    refine sv_ret ?_
    simp [cell, List.getElem?_eq_none h, gI]
local macro_rules | `(tactic| walk_at "ev call") => `(tactic| with_reducible exact cell_eq _ _ (by decide))
theorem forL_rng {gs : Gs} {F : Sm} (n : Nat) (lo : Int) (Iv : Nat → DEnv → Prop) (hs : ∀ (k : Nat) Γ, k < n → Iv k Γ → ∃ Γ1 Γ2, gs (.int (lo + (k : Nat))) Γ = some Γ1 ∧ (F Γ1 = some (.nx Γ2) ∨ F Γ1 = some (.ct Γ2)) ∧ Iv (k + 1) Γ2) (Γ : DEnv) (h0 : Iv 0 Γ) : ∃ Γ', forL gs F (rngD lo n) Γ = some (.nx Γ') ∧ Iv n Γ' := by
  have key : ∀ m k Γ, k + m = n → Iv k Γ → ∃ Γ', forL gs F ((List.range' k m).map fun i => D.int (lo + (i : Nat))) Γ = some (.nx Γ') ∧ Iv n Γ' := by
    intro m
    induction m with
    | zero =>
      intro k Γ e h
      obtain rfl : k = n := by omega
      exact ⟨Γ, rfl, h⟩
    | succ m ih =>
      intro k Γ e h
      obtain ⟨Γ1, Γ2, h1, h2, h3⟩ := hs k Γ (by omega) h
      obtain ⟨Γ', h4, h5⟩ := ih (k + 1) Γ2 (by omega) h3
      refine ⟨Γ', ?_, h5⟩
      rw [List.range'_succ, List.map_cons]
      rcases h2 with h2 | h2
      · exact forL_nx h1 h2 h4
      · exact forL_ct h1 h2 h4
  have := key n 0 Γ (by omega) h0
  rwa [← List.range_eq_range'] at this
def mix1 (c : Int) (k : Nat) : Int := (c * 48271 + k * 69621 + 1013) % 2147483647
def mix2 (c : Int) (k : Nat) : Int := (mix1 c k * mix1 c k + 7 * mix1 c k + k) % 2147483629
/-- the law's digits -/
theorem digits_eq (c many n : Int) (h0 : 0 < many) (h1 : many ≤ 10 ^ 15) (n0 : 0 ≤ n) (n1 : n ≤ 100000) : ∃ ds : List Int, S__law_digits [.int c, .int many, .int n] = some (.lst (ds.map D.int)) ∧ (ds.length : Int) = n ∧ ∀ d ∈ ds, 0 ≤ d ∧ d < many := by
  obtain ⟨n, rfl⟩ := Int.eq_ofNat_of_zero_le n0
  have hloop := forL_rng (gs := gN 5) (F := (sIf (gT (gOp dGe (gV 0) (gOp dPow (gI 10) (gI 18))))
  (sSeq (sApp 3 [] (gOp dMod (gU dInt (gB 4)) (gV 1)))
  (sSet 4 (gOp dDiv (gV 4) (gV 1))))
  (sSeq (sSet 6 (gOp dMod (gU dInt (gOp dAdd (gOp dAdd (gOp dMul (gV 0) (gI 48271)) (gOp dMul (gV 5) (gI 69621))) (gI 1013))) (gI 2147483647)))
  (sSeq (sSet 6 (gOp dMod (gU dInt (gOp dAdd (gOp dAdd (gOp dMul (gV 6) (gV 6)) (gOp dMul (gI 7) (gV 6))) (gV 5))) (gI 2147483629)))
  (sApp 3 [] (gOp dMod (gU dInt (gOp dDiv (gV 6) (gI 31))) (gV 1))))))) n 0
    (fun k Γ => ∃ (ds : List Int) (rest : Int) (s5 s6 : Sl), Γ = [.sh (.int c), .sh (.int many), .sh (.int n), .ow (ds.map D.int), .sh (.int rest), s5, s6] ∧ ds.length = k ∧ ∀ d ∈ ds, 0 ≤ d ∧ d < many) ?_
    [.sh (.int c), .sh (.int many), .sh (.int n), .ow [], .sh (.int c), .no, .no] ⟨[], c, .no, .no, rfl, rfl, by simp⟩
  · obtain ⟨Γ', hf, ds, rest, s5, s6, rfl, hl, hb⟩ := hloop
    refine ⟨ds, ?_, by omega, hb⟩
    refine sv_run ?_
    unfold B__law_digits
    walk_at "ev norm"
    walk_at "ev st"
    walk_at "ev st"
    refine sv_nx (sv_for (ev_rng1 (ev_cs (ev_V rfl) ev_nl) (by omega) (by omega)) hf) ?_
    refine sv_frz ?_
    exact sv_ret (ev_V rfl)
  · rintro k Γ hk ⟨ds, rest, s5, s6, rfl, hl, hb⟩
    have e : (0 + (k : Int)) = k := by omega
    rw [e]
    have push : ∀ x : Int, (∀ d ∈ ds ++ [x % many], 0 ≤ d ∧ d < many) := fun x d hd => by
      rcases List.mem_append.mp hd with z | z
      · exact hb d z
      · rw [List.mem_singleton] at z
        subst z
        exact ⟨Int.emod_nonneg _ (by omega), Int.emod_lt_of_pos _ h0⟩
    have len : (ds.map D.int).length < 1000000 := by rw [List.length_map]; omega
    refine ⟨[.sh (.int c), .sh (.int many), .sh (.int n), .ow (ds.map D.int), .sh (.int rest), .sh (.int k), s6], ?_⟩
    by_cases hc : c ≥ 10 ^ 18
    · refine ⟨_, rfl, .inl (sv_ifT ?_ (sv_nx (sv_app0 (xs := ds.map D.int) (d := .int (rest % many)) ?_ rfl len) (sv_set (d := .int (rest / many)) ?_))), ds ++ [rest % many], rest / many, .sh (.int k), s6, ?_, by simp [hl], push _⟩
      · refine ev_T (ev_op (ev_V rfl) (ev_op ev_I ev_I (d_pow (by decide))) ?_)
        show some (D.bl (decide _)) = _
        rw [decide_eq_true]
        exact hc
      · walk_at "ev"
      · exact ev_op (ev_V rfl) (ev_V rfl) (d_div h0 (log_of (k := 100) (by omega) (by decide) (by decide)))
      · simp
    · have b1 : -(2 ^ 64) < mix1 c k ∧ mix1 c k < 2 ^ 64 := by
        unfold mix1
        omega
      refine ⟨_, rfl, .inl (sv_ifF ?_ (sv_nx (sv_set (d := .int (mix1 c k)) ?_) (sv_nx (sv_set (d := .int (mix2 c k)) ?_) (sv_app0 (xs := ds.map D.int) (d := .int (mix2 c k / 31 % many)) ?_ rfl len)))), ds ++ [mix2 c k / 31 % many], rest, .sh (.int k), .sh (.int (mix2 c k)), ?_, by simp [hl], push _⟩
      · refine ev_T (ev_op (ev_V rfl) (ev_op ev_I ev_I (d_pow (by decide))) ?_)
        show some (D.bl (decide _)) = _
        rw [decide_eq_false]
        exact hc
      · unfold mix1
        walk_at "ev"
      · walk_at "ev norm"
        unfold mix2
        generalize mix1 c k = m at *
        refine ev_op (ev_U (ev_op (ev_op (ev_op (ev_V rfl) (ev_V rfl) (d_mul (mulOk_l b1.1 b1.2))) (ev_op ev_I (ev_V rfl) (d_mul (mulOk_r b1.1 b1.2))) d_add) (ev_V rfl) d_add) rfl) ev_I (d_mod (by decide))
      · walk_at "ev norm"
        generalize mix2 c k = m at *
        walk_at "ev"
      · simp
theorem ixm (ms : List Int) (i : Int) (h0 : 0 ≤ i) (h1 : i < ms.length) : ∃ m, m ∈ ms ∧ dIx (.lst (ms.map D.int)) (.int i) = some (.int m) := by
  obtain ⟨k, rfl⟩ := Int.eq_ofNat_of_zero_le h0
  have hk : k < ms.length := by omega
  exact ⟨ms[k], List.getElem_mem hk, d_ixL (by simp [hk])⟩
def Asc (pts : List (Int × Int)) : Prop := pts.Pairwise fun a b => a.1 < b.1
abbrev SmP (a : Int × Int) : Prop := (-(2 ^ 50) < a.1 ∧ a.1 < 2 ^ 50) ∧ -(2 ^ 50) < a.2 ∧ a.2 < 2 ^ 50
theorem maxI_mem {ns : List Int} (h : ns ≠ []) : maxI ns ∈ ns ∧ ∀ n ∈ ns, n ≤ maxI ns := maxI_spec ns (by cases ns with | nil => exact absurd rfl h | cons => simp)
theorem minI_mem {ns : List Int} (h : ns ≠ []) : minI ns ∈ ns ∧ ∀ n ∈ ns, minI ns ≤ n := minI_spec ns (by cases ns with | nil => exact absurd rfl h | cons => simp)
def three (a b c : Int × Int) (e : Int) : Bool := decide (absI (b.2 * (c.1 - a.1) - a.2 * (c.1 - b.1) - c.2 * (b.1 - a.1)) ≤ 2 * e * (c.1 - a.1))
theorem all_range_succ (n : Nat) (t : Nat → Bool) : (List.range (n + 1)).all t = (t 0 && (List.range n).all fun k => t (k + 1)) := by
  rw [List.range_succ_eq_map, List.all_cons, List.all_map]; rfl
/-- a loop that leaves with r at the first item that fails -/
theorem forL_chk {gs : Gs} {F : Sm} (r : D) (Iv : DEnv → Prop) : ∀ (ds : List D) (t : Nat → Bool) (hs : ∀ k d Γ, ds[k]? = some d → Iv Γ → ∃ Γ1, gs d Γ = some Γ1 ∧ (t k = true → ∃ Γ2, F Γ1 = some (.nx Γ2) ∧ Iv Γ2) ∧ (t k = false → F Γ1 = some (.rt r))) (Γ : DEnv), Iv Γ →
    ((List.range ds.length).all t = true → ∃ Γ', forL gs F ds Γ = some (.nx Γ') ∧ Iv Γ') ∧ ((List.range ds.length).all t = false → forL gs F ds Γ = some (.rt r))
  | [], t, hs, Γ, h => ⟨fun _ => ⟨Γ, rfl, h⟩, fun z => by simp at z⟩
  | d :: ds, t, hs, Γ, h => by
    obtain ⟨Γ1, g1, ht, hf⟩ := hs 0 d Γ rfl h
    rw [List.length_cons, all_range_succ]
    cases e : t 0 with
    | false => exact ⟨fun z => by simp at z, fun _ => forL_rt g1 (hf e)⟩
    | true =>
      obtain ⟨Γ2, f2, i2⟩ := ht e
      obtain ⟨k1, k2⟩ := forL_chk r Iv ds (fun k => t (k + 1)) (fun k d Γ hd => hs (k + 1) d Γ (by simpa using hd)) Γ2 i2
      refine ⟨fun z => ?_, fun z => forL_nx g1 f2 (k2 (by simpa using z))⟩
      obtain ⟨Γ', w1, w2⟩ := k1 (by simpa using z)
      exact ⟨Γ', forL_nx g1 f2 w1, w2⟩
theorem rngD_len {lo : Int} {n : Nat} : (rngD lo n).length = n := by simp [rngD]
theorem rngD_get {lo : Int} {n k : Nat} {d : D} (h : (rngD lo n)[k]? = some d) : k < n ∧ d = .int (lo + (k : Nat)) := by
  have hk : k < n := by
    have := (List.getElem?_eq_some_iff.mp h).1
    rwa [rngD_len] at this
  simp [rngD, hk] at h
  exact ⟨hk, h.symm⟩
def pAt (pts : List (Int × Int)) (k : Nat) : Int × Int := pts.getD k (0, 0)
theorem pAt_get {pts : List (Int × Int)} {k : Nat} (h : k < pts.length) : pts[k]? = some (pAt pts k) := by simp [pAt, h]
theorem pAt_mem {pts : List (Int × Int)} {k : Nat} (h : k < pts.length) : pAt pts k ∈ pts := List.mem_of_getElem? (pAt_get h)
theorem ixp {pts : List (Int × Int)} {k : Nat} {i : Int} (h : k < pts.length) (e : i = (k : Nat)) : dIx (.lst (pts.map encP)) (.int i) = some (encP (pAt pts k)) := by
  subst e
  exact d_ixL (by rw [List.getElem?_map, pAt_get h]; rfl)
def fitsB (pts : List (Int × Int)) (e : Int) : Bool := (List.range (pts.length - 2)).all fun k => (List.range (k + 1)).all fun j => (List.range (j + 1)).all fun i => three (pAt pts i) (pAt pts (j + 1)) (pAt pts (k + 2)) e
theorem sv_runO {N : Nat} {B : Sm} {ds : List D} {s : Sl} (h : B (ds.map Sl.sh ++ List.replicate (N - ds.length) .no) = some (.ro s)) : DL.runN N B ds = some s := by unfold DL.runN; rw [h]; rfl
theorem cutD_map {α β : Type} (f : α → β) (xs : List α) (lo hi : Option Int) : cutD (xs.map f) lo hi = (cutD xs lo hi).map f := by
  unfold cutD
  rw [List.length_map, List.map_take, List.map_drop]
theorem cutD_mem {α : Type} {xs : List α} {lo hi : Option Int} {a : α} (h : a ∈ cutD xs lo hi) : a ∈ xs := List.mem_of_mem_drop (List.mem_of_mem_take h)
theorem cutD_len {α : Type} (xs : List α) (lo hi : Option Int) : (cutD xs lo hi).length ≤ xs.length := by
  unfold cutD
  rw [List.length_take, List.length_drop]
  omega
theorem d_cut {α : Type} {f : α → D} {xs : List α} {lo hi : Option Int} : dCut (.lst (xs.map f)) lo hi = some ((cutD xs lo hi).map f) := by
  show some (cutD (xs.map f) lo hi) = _
  rw [cutD_map]
theorem cutD_nat {α : Type} (xs : List α) (a b : Nat) (hb : b ≤ xs.length) : cutD xs (some a) (some b) = (xs.drop a).take (b - a) := by
  unfold cutD
  rw [HT.sIx_nat, HT.sIx_nat, Nat.min_eq_left hb]
  by_cases h : a ≤ xs.length
  · rw [Nat.min_eq_left h]
  · rw [Nat.min_eq_right (by omega), List.drop_eq_nil_of_le (Nat.le_refl _), List.drop_eq_nil_of_le (by omega), List.take_nil, List.take_nil]
theorem cutD_from {α : Type} (xs : List α) (a : Nat) : cutD xs (some a) none = xs.drop a := by
  unfold cutD
  rw [HT.sIx_nat, HT.sIx_none]
  by_cases h : a ≤ xs.length
  · rw [Nat.min_eq_left h, List.take_of_length_le (by simp)]
  · rw [Nat.min_eq_right (by omega), List.drop_eq_nil_of_le (Nat.le_refl _), List.drop_eq_nil_of_le (by omega), List.take_nil]
theorem cutD_to {α : Type} (xs : List α) (b : Nat) : cutD xs none (some b) = xs.take b := by
  unfold cutD
  rw [HT.sIx_nat, HT.sIx_none, List.drop_zero]
  by_cases h : b ≤ xs.length
  · rw [Nat.min_eq_left h]; rfl
  · rw [Nat.min_eq_right (by omega), List.take_of_length_le (by omega), List.take_of_length_le (by omega)]
theorem d_cat {α : Type} {f : α → D} {xs ys : List α} (h : xs.length + ys.length < 1000000) : dAdd (.lst (xs.map f)) (.lst (ys.map f)) = some (.lst ((xs ++ ys).map f)) := by
  show (if (xs.map f).length + (ys.map f).length < 1000000 then some (D.lst (xs.map f ++ ys.map f)) else none) = _
  rw [List.length_map, List.length_map, if_pos h, List.map_append]
/-- a loop that leaves with a good value, or goes on -/
theorem forL_ret {gs : Gs} {F : Sm} (P : D → Prop) (Iv : DEnv → Prop) : ∀ (ds : List D) (hs : ∀ d Γ, d ∈ ds → Iv Γ → ∃ Γ1, gs d Γ = some Γ1 ∧ ((∃ Γ2, F Γ1 = some (.nx Γ2) ∧ Iv Γ2) ∨ ∃ r, F Γ1 = some (.rt r) ∧ P r)) (Γ : DEnv), Iv Γ →
    (∃ Γ', forL gs F ds Γ = some (.nx Γ') ∧ Iv Γ') ∨ ∃ r, forL gs F ds Γ = some (.rt r) ∧ P r
  | [], hs, Γ, h => .inl ⟨Γ, rfl, h⟩
  | d :: ds, hs, Γ, h => by
    obtain ⟨Γ1, g1, q⟩ := hs d Γ List.mem_cons_self h
    rcases q with ⟨Γ2, f2, i2⟩ | ⟨r, f2, pr⟩
    · rcases forL_ret P Iv ds (fun d Γ hd => hs d Γ (List.mem_cons_of_mem _ hd)) Γ2 i2 with ⟨Γ', w1, w2⟩ | ⟨r, w1, w2⟩
      · exact .inl ⟨Γ', forL_nx g1 f2 w1, w2⟩
      · exact .inr ⟨r, forL_nx g1 f2 w1, w2⟩
    · exact .inr ⟨r, forL_rt g1 f2, pr⟩
theorem rngD_mem {lo : Int} {n : Nat} {d : D} (h : d ∈ rngD lo n) : ∃ k : Nat, k < n ∧ d = .int (lo + k) := by
  obtain ⟨k, hk, e⟩ := List.mem_map.mp h
  exact ⟨k, by simpa using hk, e.symm⟩
theorem d_ixC {f : α → D} {xs : List α} {k : Nat} {i : Int} {a : α} (h : xs[k]? = some a) (e : i = (k : Nat)) : dIx (.lst (xs.map f)) (.int i) = some (f a) := by
  subst e
  exact d_ixL (by rw [List.getElem?_map, h]; rfl)
theorem pAt_d (pts : List (Int × Int)) (hb : ∀ a ∈ pts, SmP a) {i j : Nat} (hi : i < pts.length) (hj : j < pts.length) : -(2 ^ 52) < (pAt pts j).1 - (pAt pts i).1 ∧ (pAt pts j).1 - (pAt pts i).1 < 2 ^ 52 := by
  have h1 := hb _ (pAt_mem hi)
  have h2 := hb _ (pAt_mem hj)
  omega
theorem compL_ex {gs : Gs} {f : Ex} {Γ : DEnv} {β : Type} (enc : β → D) : ∀ (ds : List D) (h : ∀ d ∈ ds, ∃ Γ1 v, gs d Γ = some Γ1 ∧ f Γ1 = some (enc v)), ∃ vs : List β, compL gs gYes f ds Γ = some (vs.map enc) ∧ vs.length = ds.length
  | [], _ => ⟨[], rfl, rfl⟩
  | d :: ds, h => by
    obtain ⟨Γ1, v, h1, h2⟩ := h d List.mem_cons_self
    obtain ⟨vs, h3, h4⟩ := compL_ex enc ds fun d hd => h d (List.mem_cons_of_mem _ hd)
    refine ⟨v :: vs, ?_, by simp [h4]⟩
    unfold compL
    rw [h1]
    show (f Γ1).bind _ = _
    rw [h2]
    show (compL gs gYes f ds Γ).bind _ = _
    rw [h3]
    rfl
def encC (c : Int × Int × Int × Int) : D := .tup [.int c.1, encL c.2]
/-- where the pieces end -/
def endsOf (sts : List Int) (n : Nat) : List Int := sts.drop 1 ++ [(n : Int)]
theorem ends_get {sts : List Int} {n k : Nat} (hk : k < sts.length) : (endsOf sts n)[k]? = some (if k + 1 < sts.length then sts.getD (k + 1) 0 else (n : Int)) := by
  unfold endsOf
  by_cases h : k + 1 < sts.length
  · rw [if_pos h, List.getElem?_append_left (by simp; omega), List.getElem?_drop]
    simp [Nat.add_comm 1 k, h]
  · rw [if_neg h, List.getElem?_append_right (by simp; omega)]
    have : k - (sts.drop 1).length = 0 := by simp; omega
    rw [this]
    rfl
theorem ends_len {sts : List Int} {n : Nat} : (endsOf sts n).length = sts.length - 1 + 1 := by simp [endsOf]
theorem ev_ends {sts : List Int} {n : Nat} {Γ : DEnv} {i j : Nat} {f : Ex} (hs : sts.length < 10000) (hi : gB i Γ = some (.lst (sts.map D.int))) (hj : f Γ = some (.int n)) : gOp dAdd (gL (gSl (gB i) (gSo (gI 1)) gNo)) (gL (aC f aN)) Γ = some (.lst ((endsOf sts n).map D.int)) := by
  refine ev_op (ev_L (ev_Sl hi (ev_So ev_I) ev_No d_cut)) (ev_L (ev_cs hj ev_nl)) ?_
  have e : cutD sts (some 1) none = sts.drop 1 := cutD_from sts 1
  rw [e]
  exact d_cat (xs := sts.drop 1) (ys := [(n : Int)]) (by simp; omega)
section
variable {p : Te} {F F' F'' : Sm} {Γ : DEnv} {b : Bool} {f : Ex} {d : D} {i : Nat} {P : D → Prop} {gs : Gs} {Γ1 : DEnv}
theorem ex_ifS (h : p Γ = some b) (h1 : b = true → ∃ r, P r ∧ sSeq F F'' Γ = some (.rt r)) (h2 : b = false → ∃ r, P r ∧ sSeq F' F'' Γ = some (.rt r)) : ∃ r, P r ∧ sSeq (sIf p F F') F'' Γ = some (.rt r) := by
  cases b with
  | true =>
    obtain ⟨r, h3, h4⟩ := h1 rfl
    exact ⟨r, h3, sv_ifS h (fun _ => h4) (fun z => by cases z)⟩
  | false =>
    obtain ⟨r, h3, h4⟩ := h2 rfl
    exact ⟨r, h3, sv_ifS h (fun z => by cases z) (fun _ => h4)⟩
theorem ex_set (h : f Γ = some d) (k : ∃ r, P r ∧ F' (Γ.set i (.sh d)) = some (.rt r)) : ∃ r, P r ∧ sSeq (sSet i f) F' Γ = some (.rt r) := by
  obtain ⟨r, h1, h2⟩ := k
  exact ⟨r, h1, sq_set h h2⟩
theorem ex_unp (h : f Γ = some d) (h2 : gs d Γ = some Γ1) (k : ∃ r, P r ∧ F' Γ1 = some (.rt r)) : ∃ r, P r ∧ sSeq (sUnp gs f) F' Γ = some (.rt r) := by
  obtain ⟨r, h3, h4⟩ := k
  exact ⟨r, h3, sq_unp h h2 h4⟩
theorem ex_ret (h : f Γ = some d) (hp : P d) : ∃ r, P r ∧ sRet f Γ = some (.rt r) := ⟨d, hp, sv_ret h⟩
theorem ex_retS (h : f Γ = some d) (hp : P d) : ∃ r, P r ∧ sSeq (sRet f) F' Γ = some (.rt r) := ⟨d, hp, sq_ret h⟩
theorem ex_seqA (h : ∃ r, P r ∧ sSeq F (sSeq F' F'') Γ = some (.rt r)) : ∃ r, P r ∧ sSeq (sSeq F F') F'' Γ = some (.rt r) := by
  obtain ⟨r, h1, h2⟩ := h
  exact ⟨r, h1, by rw [sv_seqA]; exact h2⟩
theorem ex_nilS (h : ∃ r, P r ∧ F Γ = some (.rt r)) : ∃ r, P r ∧ sSeq sNil F Γ = some (.rt r) := h
end
/-! a calculus of what a statement ends in -/
def W (F : Sm) (Γ : DEnv) (P : Res → Prop) : Prop := ∃ r, F Γ = some r ∧ P r
def thenP (F : Sm) (P : Res → Prop) : Res → Prop
  | .nx Γ => W F Γ P
  | r => P r
/-- what a loop's body may end in -/
def bodyP (Iv : DEnv → Prop) (P : Res → Prop) : Res → Prop
  | .nx Γ => Iv Γ
  | .ct Γ => Iv Γ
  | .bk Γ => P (.nx Γ)
  | .rt d => P (.rt d)
  | .rm d s => P (.rm d s)
  | .ro s => P (.ro s)
def isRt (P : D → Prop) : Res → Prop
  | .rt d => P d
  | _ => False
def isRo (P : Sl → Prop) : Res → Prop
  | .ro s => P s
  | _ => False
def isRm (P : D → Sl → Prop) : Res → Prop
  | .rm d s => P d s
  | .nx (s :: _) => P .non s
  | _ => False
section
variable {F F' F'' : Sm} {Γ Γ1 : DEnv} {P Q : Res → Prop} {f : Ex} {fs : Ag} {d : D} {ds : List D} {i : Nat} {p : Te} {b : Bool} {gs : Gs} {it : Ag}
theorem W_mono (h : W F Γ Q) (k : ∀ r, Q r → P r) : W F Γ P := by
  obtain ⟨r, h1, h2⟩ := h
  exact ⟨r, h1, k r h2⟩
theorem W_seq (h : W F Γ (thenP F' P)) : W (sSeq F F') Γ P := by
  obtain ⟨r, h1, h2⟩ := h
  cases r with
  | nx Γ1 =>
    obtain ⟨r2, h3, h4⟩ := h2
    exact ⟨r2, sv_nx h1 h3, h4⟩
  | _ => exact ⟨_, by unfold sSeq; rw [h1]; rfl, h2⟩
theorem W_set (h : f Γ = some d) (k : P (.nx (Γ.set i (.sh d)))) : W (sSet i f) Γ P := ⟨_, sv_set h, k⟩
theorem W_setO (h : fs Γ = some ds) (k : P (.nx (Γ.set i (.ow ds)))) : W (sSetO i fs) Γ P := ⟨_, sv_setO h, k⟩
theorem W_ret (h : f Γ = some d) (k : P (.rt d)) : W (sRet f) Γ P := ⟨_, sv_ret h, k⟩
theorem W_nil (k : P (.nx Γ)) : W sNil Γ P := ⟨_, rfl, k⟩
theorem W_brk (k : P (.bk Γ)) : W sBrk Γ P := ⟨_, rfl, k⟩
theorem W_cnt (k : P (.ct Γ)) : W sCnt Γ P := ⟨_, rfl, k⟩
theorem W_if (h : p Γ = some b) (h1 : b = true → W F Γ P) (h2 : b = false → W F' Γ P) : W (sIf p F F') Γ P := by
  cases b with
  | true =>
    obtain ⟨r, h3, h4⟩ := h1 rfl
    exact ⟨r, sv_ifT h h3, h4⟩
  | false =>
    obtain ⟨r, h3, h4⟩ := h2 rfl
    exact ⟨r, sv_ifF h h3, h4⟩
theorem W_unp (h : f Γ = some d) (h2 : gs d Γ = some Γ1) (k : P (.nx Γ1)) : W (sUnp gs f) Γ P := ⟨_, sv_unp h h2, k⟩
theorem W_app {xs : List D} (h : f Γ = some d) (h1 : Γ[i]? = some (.ow xs)) (h2 : xs.length < 1000000) (k : P (.nx (Γ.set i (.ow (xs ++ [d]))))) : W (sApp i [] f) Γ P := ⟨_, sv_app0 h h1 h2, k⟩
theorem W_aug {x y : D} {o : D → D → Option D} (h1 : Γ[i]? = some (.sh x)) (h2 : f Γ = some y) (h3 : o x y = some d) (k : P (.nx (Γ.set i (.sh d)))) : W (sAug o i f) Γ P := ⟨_, sv_aug h1 h2 h3, k⟩
theorem W_frz (h : W F (frzE i Γ) P) : W (sFrz i F) Γ P := h
theorem W_par {is : List Nat} (h : fs Γ = some ds) (k : P (.nx ((is.zip ds).foldl (fun Γ p => Γ.set p.1 (.sh p.2)) Γ))) : W (sPar is fs) Γ P := ⟨_, sv_par h, k⟩
theorem W_forL (Iv : Nat → DEnv → Prop) : ∀ (ds : List D) (hs : ∀ k d Γ, ds[k]? = some d → Iv k Γ → ∃ Γ1, gs d Γ = some Γ1 ∧ W F Γ1 (bodyP (Iv (k + 1)) P)) (hn : ∀ Γ', Iv ds.length Γ' → P (.nx Γ')) (Γ : DEnv), Iv 0 Γ → W (forL gs F ds) Γ P := by
  have key : ∀ (ds : List D) (m : Nat) (hs : ∀ k d Γ, ds[k]? = some d → Iv (m + k) Γ → ∃ Γ1, gs d Γ = some Γ1 ∧ W F Γ1 (bodyP (Iv (m + k + 1)) P)) (hn : ∀ Γ', Iv (m + ds.length) Γ' → P (.nx Γ')) (Γ : DEnv), Iv m Γ → W (forL gs F ds) Γ P := by
    intro ds
    induction ds with
    | nil => intro m hs hn Γ h0; exact ⟨_, rfl, hn Γ h0⟩
    | cons d ds ih =>
      intro m hs hn Γ h0
      obtain ⟨Γ1, g1, r, h1, h2⟩ := hs 0 d Γ rfl h0
      have rest : ∀ Γ2, Iv (m + 1) Γ2 → W (forL gs F ds) Γ2 P := fun Γ2 h => ih (m + 1) (fun k d Γ hd hi => by
        have e : m + 1 + k = m + (k + 1) := by omega
        rw [e] at hi ⊢
        exact hs (k + 1) d Γ (by simpa using hd) hi) (fun Γ' hi => hn Γ' (by
        have e : m + (d :: ds).length = m + 1 + ds.length := by simp; omega
        rw [e]; exact hi)) Γ2 h
      cases r with
      | nx Γ2 =>
        obtain ⟨r2, h3, h4⟩ := rest Γ2 h2
        exact ⟨r2, forL_nx g1 h1 h3, h4⟩
      | ct Γ2 =>
        obtain ⟨r2, h3, h4⟩ := rest Γ2 h2
        exact ⟨r2, forL_ct g1 h1 h3, h4⟩
      | bk Γ2 => exact ⟨_, forL_bk g1 h1, h2⟩
      | rt d => exact ⟨_, forL_rt g1 h1, h2⟩
      | rm d s => exact ⟨_, by unfold forL; rw [g1]; show (F Γ1).bind _ = _; rw [h1]; rfl, h2⟩
      | ro s => exact ⟨_, by unfold forL; rw [g1]; show (F Γ1).bind _ = _; rw [h1]; rfl, h2⟩
  intro ds hs hn Γ h0
  exact key ds 0 (fun k d Γ hd hi => by rw [Nat.zero_add] at hi ⊢; exact hs k d Γ hd hi) (fun Γ' hi => hn Γ' (by rw [Nat.zero_add] at hi; exact hi)) Γ h0
theorem W_for (Iv : Nat → DEnv → Prop) (hit : it Γ = some ds) (h0 : Iv 0 Γ) (hs : ∀ k d Γ, ds[k]? = some d → Iv k Γ → ∃ Γ1, gs d Γ = some Γ1 ∧ W F Γ1 (bodyP (Iv (k + 1)) P)) (hn : ∀ Γ', Iv ds.length Γ' → P (.nx Γ')) : W (sFor it gs F) Γ P := by
  obtain ⟨r, h1, h2⟩ := W_forL Iv ds hs hn Γ h0
  exact ⟨r, sv_for hit h1, h2⟩
/-- for i in range(..) -/
theorem W_rng (Iv : Nat → DEnv → Prop) {lo : Int} {n : Nat} (hit : it Γ = some (rngD lo n)) (h0 : Iv 0 Γ) (hs : ∀ k Γ, k < n → Iv k Γ → ∃ Γ1, gs (.int (lo + (k : Nat))) Γ = some Γ1 ∧ W F Γ1 (bodyP (Iv (k + 1)) P)) (hn : ∀ Γ', Iv n Γ' → P (.nx Γ')) : W (sFor it gs F) Γ P :=
  W_for Iv hit h0 (fun k d Γ hd hi => by
    obtain ⟨h1, rfl⟩ := rngD_get hd
    exact hs k Γ h1 hi) (fun Γ' h => hn Γ' (by rw [rngD_len] at h; exact h))
/-- for x in xs, the list of the data of some things -/
theorem W_map {α : Type} {enc : α → D} {xs : List α} (Iv : Nat → DEnv → Prop) (hit : it Γ = some (xs.map enc)) (h0 : Iv 0 Γ) (hs : ∀ k a Γ, xs[k]? = some a → Iv k Γ → ∃ Γ1, gs (enc a) Γ = some Γ1 ∧ W F Γ1 (bodyP (Iv (k + 1)) P)) (hn : ∀ Γ', Iv xs.length Γ' → P (.nx Γ')) : W (sFor it gs F) Γ P :=
  W_for Iv hit h0 (fun k d Γ hd hi => by
    rw [List.getElem?_map] at hd
    obtain ⟨a, ha, rfl⟩ := Option.map_eq_some_iff.mp hd
    exact hs k a Γ ha hi) (fun Γ' h => hn Γ' (by rw [List.length_map] at h; exact h))
theorem W_while (Iv : Nat → DEnv → Prop) (h0 : ∃ m, Iv m Γ) (hs : ∀ m Γ, Iv m Γ → ∃ b, p Γ = some b ∧ (b = false → P (.nx Γ)) ∧ (b = true → W F Γ (bodyP (fun Γ' => ∃ m', m' < m ∧ Iv m' Γ') P))) : W (sWhile p F) Γ P := by
  obtain ⟨m, h0⟩ := h0
  have key : ∀ (n m : Nat) (Γ : DEnv), m < n → Iv m Γ → W (whileN n p F) Γ P := by
    intro n
    induction n with
    | zero => intro m Γ h; omega
    | succ n ih =>
      intro m Γ hm h
      obtain ⟨b, h1, h2, h3⟩ := hs m Γ h
      cases b with
      | false =>
        refine ⟨.nx Γ, ?_, h2 rfl⟩
        unfold whileN
        rw [h1]
        rfl
      | true =>
        obtain ⟨r, h4, h5⟩ := h3 rfl
        cases r with
        | nx Γ2 =>
          obtain ⟨m', k1, k2⟩ := h5
          obtain ⟨r2, h6, h7⟩ := ih m' Γ2 (by omega) k2
          exact ⟨r2, by rw [whileN, h1]; show (F Γ).bind _ = _; rw [h4]; exact h6, h7⟩
        | ct Γ2 =>
          obtain ⟨m', k1, k2⟩ := h5
          obtain ⟨r2, h6, h7⟩ := ih m' Γ2 (by omega) k2
          exact ⟨r2, by rw [whileN, h1]; show (F Γ).bind _ = _; rw [h4]; exact h6, h7⟩
        | bk Γ2 => exact ⟨_, by rw [whileN, h1]; show (F Γ).bind _ = _; rw [h4]; rfl, h5⟩
        | rt d => exact ⟨_, by rw [whileN, h1]; show (F Γ).bind _ = _; rw [h4]; rfl, h5⟩
        | rm d s => exact ⟨_, by rw [whileN, h1]; show (F Γ).bind _ = _; rw [h4]; rfl, h5⟩
        | ro s => exact ⟨_, by rw [whileN, h1]; show (F Γ).bind _ = _; rw [h4]; rfl, h5⟩
  obtain ⟨r, h1, h2⟩ := key (m + 1) m Γ (by omega) h0
  exact ⟨r, sWhile_of h1, h2⟩
theorem run_W {N : Nat} {B : Sm} {P : D → Prop} (h : W B (ds.map Sl.sh ++ List.replicate (N - ds.length) .no) (isRt P)) : ∃ d, runB N B ds = some d ∧ P d := by
  obtain ⟨r, h1, h2⟩ := h
  cases r with
  | rt d => exact ⟨d, sv_run h1, h2⟩
  | _ => exact h2.elim
theorem run_Weq {N : Nat} {B : Sm} (h : W B (ds.map Sl.sh ++ List.replicate (N - ds.length) .no) (isRt (· = d))) : runB N B ds = some d := by
  obtain ⟨d', h1, rfl⟩ := run_W h
  exact h1
theorem run_WO {N : Nat} {B : Sm} {P : Sl → Prop} (h : W B (ds.map Sl.sh ++ List.replicate (N - ds.length) .no) (isRo P)) : ∃ s, DL.runN N B ds = some s ∧ P s := by
  obtain ⟨r, h1, h2⟩ := h
  cases r with
  | ro s => exact ⟨s, sv_runO h1, h2⟩
  | _ => exact h2.elim
/-- a loop that tests: at the first thing that fails it returns the value r -/
theorem W_chk {α : Type} {enc : α → D} {xs : List α} (t : Nat → Bool) (Iv : DEnv → Prop) (hit : it Γ = some (xs.map enc)) (h0 : Iv Γ) (hs : ∀ k a Γ, xs[k]? = some a → Iv Γ → ∃ Γ1, gs (enc a) Γ = some Γ1 ∧ W F Γ1 (bodyP (fun Γ' => t k = true ∧ Iv Γ') fun r => t k = false ∧ P r)) (hn : (List.range xs.length).all t = true → ∀ Γ', Iv Γ' → P (.nx Γ')) : W (sFor it gs F) Γ P := by
  refine W_map (fun k Γ => (∀ j, j < k → t j = true) ∧ Iv Γ) hit ⟨fun j h => by omega, h0⟩ (fun k a Γ ha hi => ?_) fun Γ' h => hn (by simpa [List.all_eq_true] using h.1) Γ' h.2
  obtain ⟨Γ1, h1, h2⟩ := hs k a Γ ha hi.2
  refine ⟨Γ1, h1, W_mono h2 fun r hr => ?_⟩
  have fin : ∀ Γ', (t k = true ∧ Iv Γ') → ((∀ j, j < k + 1 → t j = true) ∧ Iv Γ') := fun Γ' h => ⟨fun j hj => by
    by_cases e : j = k
    · rw [e]; exact h.1
    · exact hi.1 j (by omega), h.2⟩
  cases r with
  | nx Γ' => exact fin Γ' hr
  | ct Γ' => exact fin Γ' hr
  | bk Γ' => exact hr.2
  | rt d => exact hr.2
  | rm d s => exact hr.2
  | ro s => exact hr.2
theorem wq_set (h : f Γ = some d) (k : W F' (Γ.set i (.sh d)) P) : W (sSeq (sSet i f) F') Γ P := W_seq (W_set h k)
theorem wq_setO (h : fs Γ = some ds) (k : W F' (Γ.set i (.ow ds)) P) : W (sSeq (sSetO i fs) F') Γ P := W_seq (W_setO h k)
theorem wq_unp (h : f Γ = some d) (h2 : gs d Γ = some Γ1) (k : W F' Γ1 P) : W (sSeq (sUnp gs f) F') Γ P := W_seq (W_unp h h2 k)
theorem wq_app {xs : List D} (h : f Γ = some d) (h1 : Γ[i]? = some (.ow xs)) (h2 : xs.length < 1000000) (k : W F' (Γ.set i (.ow (xs ++ [d]))) P) : W (sSeq (sApp i [] f) F') Γ P := W_seq (W_app h h1 h2 k)
theorem wq_par {is : List Nat} (h : fs Γ = some ds) (k : W F' ((is.zip ds).foldl (fun Γ p => Γ.set p.1 (.sh p.2)) Γ) P) : W (sSeq (sPar is fs) F') Γ P := W_seq (W_par h k)
theorem wq_if (h : p Γ = some b) (h1 : b = true → W F Γ (thenP F'' P)) (h2 : b = false → W F' Γ (thenP F'' P)) : W (sSeq (sIf p F F') F'') Γ P := W_seq (W_if h h1 h2)
/-- if p: return f -/
theorem wq_ifR (h : p Γ = some b) (h1 : b = true → ∃ d, f Γ = some d ∧ P (.rt d)) (h2 : b = false → W F'' Γ P) : W (sSeq (sIf p (sRet f) sNil) F'') Γ P :=
  W_seq (W_if h (fun e => by
    obtain ⟨d, h3, h4⟩ := h1 e
    exact W_ret h3 h4) fun e => W_nil (h2 e))
theorem wq_ret (h : f Γ = some d) (k : P (.rt d)) : W (sSeq (sRet f) F') Γ P := W_seq (W_ret h k)
theorem wq_ifN (h : p Γ = some b) (hb : b = false) (k : W F'' Γ P) : W (sSeq (sIf p F sNil) F'') Γ P := W_seq (W_if h (fun e => by rw [hb] at e; cases e) fun _ => W_nil k)
theorem wq_for (Iv : Nat → DEnv → Prop) (hit : it Γ = some ds) (h0 : Iv 0 Γ) (hs : ∀ k d Γ, ds[k]? = some d → Iv k Γ → ∃ Γ1, gs d Γ = some Γ1 ∧ W F Γ1 (bodyP (Iv (k + 1)) (thenP F' P))) (hn : ∀ Γ', Iv ds.length Γ' → W F' Γ' P) : W (sSeq (sFor it gs F) F') Γ P := W_seq (W_for Iv hit h0 hs hn)
theorem wq_rng (Iv : Nat → DEnv → Prop) {lo : Int} {n : Nat} (hit : it Γ = some (rngD lo n)) (h0 : Iv 0 Γ) (hs : ∀ k Γ, k < n → Iv k Γ → ∃ Γ1, gs (.int (lo + (k : Nat))) Γ = some Γ1 ∧ W F Γ1 (bodyP (Iv (k + 1)) (thenP F' P))) (hn : ∀ Γ', Iv n Γ' → W F' Γ' P) : W (sSeq (sFor it gs F) F') Γ P := W_seq (W_rng Iv hit h0 hs hn)
theorem wq_map {α : Type} {enc : α → D} {xs : List α} (Iv : Nat → DEnv → Prop) (hit : it Γ = some (xs.map enc)) (h0 : Iv 0 Γ) (hs : ∀ k a Γ, xs[k]? = some a → Iv k Γ → ∃ Γ1, gs (enc a) Γ = some Γ1 ∧ W F Γ1 (bodyP (Iv (k + 1)) (thenP F' P))) (hn : ∀ Γ', Iv xs.length Γ' → W F' Γ' P) : W (sSeq (sFor it gs F) F') Γ P := W_seq (W_map Iv hit h0 hs hn)
/-- a loop of tests over things that a list of data tells -/
theorem wq_chk (t : Nat → Bool) (Iv : DEnv → Prop) (hit : it Γ = some ds) (h0 : Iv Γ) (hs : ∀ k d Γ, ds[k]? = some d → Iv Γ → ∃ Γ1, gs d Γ = some Γ1 ∧ (t k = true → W F Γ1 (bodyP Iv fun _ => False)) ∧ (t k = false → W F Γ1 (bodyP (fun _ => False) (thenP F' P)))) (hn : (List.range ds.length).all t = true → ∀ Γ', Iv Γ' → W F' Γ' P) : W (sSeq (sFor it gs F) F') Γ P := by
  refine wq_for (fun k Γ => (∀ j, j < k → t j = true) ∧ Iv Γ) hit ⟨fun j h => by omega, h0⟩ (fun k a Γ ha hi => ?_) fun Γ' h => hn (by simpa [List.all_eq_true] using h.1) Γ' h.2
  obtain ⟨Γ1, h1, h2, h3⟩ := hs k a Γ ha hi.2
  refine ⟨Γ1, h1, ?_⟩
  cases e : t k with
  | false =>
    refine W_mono (h3 e) fun r hr => ?_
    cases r with
    | nx Γ' => exact hr.elim
    | ct Γ' => exact hr.elim
    | bk Γ' => exact hr
    | rt d => exact hr
    | rm d s => exact hr
    | ro s => exact hr
  | true =>
    refine W_mono (h2 e) fun r hr => ?_
    have fin : ∀ Γ', Iv Γ' → ((∀ j, j < k + 1 → t j = true) ∧ Iv Γ') := fun Γ' h => ⟨fun j hj => by
      by_cases e2 : j = k
      · rw [e2]; exact e
      · exact hi.1 j (by omega), h⟩
    cases r with
    | nx Γ' => exact fin Γ' hr
    | ct Γ' => exact fin Γ' hr
    | bk Γ' => exact hr.elim
    | rt d => exact hr.elim
    | rm d s => exact hr.elim
    | ro s => exact hr.elim
theorem W_ifR (h : p Γ = some b) (h1 : b = true → ∃ d, f Γ = some d ∧ P (.rt d)) (h2 : b = false → P (.nx Γ)) : W (sIf p (sRet f) sNil) Γ P :=
  W_if h (fun e => by
    obtain ⟨d, h3, h4⟩ := h1 e
    exact W_ret h3 h4) fun e => W_nil (h2 e)
end
theorem ev_Bb {Γ : DEnv} {i : Nat} {d : D} (h : Γ[i]? = some (.bo d)) : gB i Γ = some d := by unfold gB; rw [h]
theorem run_WKeq {ms : List Bool} {N : Nat} {B : Sm} {ds : List D} {d : D} (h : W B (slM ms ds ++ List.replicate (N - ms.length) .no) (isRt (· = d))) : runK ms N B ds = some d := by
  obtain ⟨r, h1, h2⟩ := h
  cases r with
  | rt d' =>
    have e : d' = d := h2
    subst e
    unfold runK
    rw [h1]
    rfl
  | _ => exact h2.elim
theorem run_WK {ms : List Bool} {N : Nat} {B : Sm} {ds : List D} {P : D → Prop} (h : W B (slM ms ds ++ List.replicate (N - ms.length) .no) (isRt P)) : ∃ d, runK ms N B ds = some d ∧ P d := by
  obtain ⟨r, h1, h2⟩ := h
  cases r with
  | rt d' => exact ⟨d', by unfold runK; rw [h1]; rfl, h2⟩
  | _ => exact h2.elim
theorem W_pop {Γ : DEnv} {i : Nat} {xs : List D} {P : Res → Prop} (h1 : Γ[i]? = some (.ow xs)) (hne : xs ≠ []) (k : P (.nx (Γ.set i (.ow xs.dropLast)))) : W (sPop i []) Γ P := by
  refine ⟨.nx (Γ.set i (.ow xs.dropLast)), ?_, k⟩
  have e1 : gP i [] Γ = some (.ow xs) := by unfold gP; rw [h1]; rfl
  have e3 : upP i [] (.ow xs.dropLast) Γ = some (.nx (Γ.set i (.ow xs.dropLast))) := by unfold upP; rw [h1]; rfl
  unfold sPop
  rw [e1]
  show (if xs = [] then none else upP i [] (.ow xs.dropLast) Γ) = _
  rw [if_neg hne, e3]
theorem wq_while {F F' : Sm} {p : Te} {Γ : DEnv} {P : Res → Prop} (Iv : Nat → DEnv → Prop) (h0 : ∃ m, Iv m Γ) (hs : ∀ m Γ, Iv m Γ → ∃ b, p Γ = some b ∧ (b = false → W F' Γ P) ∧ (b = true → W F Γ (bodyP (fun Γ' => ∃ m', m' < m ∧ Iv m' Γ') (thenP F' P)))) : W (sSeq (sWhile p F) F') Γ P := W_seq (W_while Iv h0 hs)
/-- a loop of tests whose invariant tells the turn -/
theorem wq_chkI {F F' : Sm} {Γ : DEnv} {P : Res → Prop} {it : Ag} {gs : Gs} {ds : List D} (t : Nat → Bool) (Iv : Nat → DEnv → Prop) (hit : it Γ = some ds) (h0 : Iv 0 Γ) (hs : ∀ k d Γ, ds[k]? = some d → Iv k Γ → ∃ Γ1, gs d Γ = some Γ1 ∧ (t k = true → W F Γ1 (bodyP (Iv (k + 1)) fun _ => False)) ∧ (t k = false → W F Γ1 (bodyP (fun _ => False) (thenP F' P)))) (hn : (List.range ds.length).all t = true → ∀ Γ', Iv ds.length Γ' → W F' Γ' P) : W (sSeq (sFor it gs F) F') Γ P := by
  refine wq_for (fun k Γ => (∀ j, j < k → t j = true) ∧ Iv k Γ) hit ⟨fun j h => by omega, h0⟩ (fun k a Γ ha hi => ?_) fun Γ' h => hn (by simpa [List.all_eq_true] using h.1) Γ' h.2
  obtain ⟨Γ1, h1, h2, h3⟩ := hs k a Γ ha hi.2
  refine ⟨Γ1, h1, ?_⟩
  cases e : t k with
  | false =>
    refine W_mono (h3 e) fun r hr => ?_
    cases r with
    | nx Γ' => exact hr.elim
    | ct Γ' => exact hr.elim
    | bk Γ' => exact hr
    | rt d => exact hr
    | rm d s => exact hr
    | ro s => exact hr
  | true =>
    refine W_mono (h2 e) fun r hr => ?_
    have fin : ∀ Γ', Iv (k + 1) Γ' → ((∀ j, j < k + 1 → t j = true) ∧ Iv (k + 1) Γ') := fun Γ' h => ⟨fun j hj => by
      by_cases e2 : j = k
      · rw [e2]; exact e
      · exact hi.1 j (by omega), h⟩
    cases r with
    | nx Γ' => exact fin Γ' hr
    | ct Γ' => exact fin Γ' hr
    | bk Γ' => exact hr.elim
    | rt d => exact hr.elim
    | rm d s => exact hr.elim
    | ro s => exact hr.elim
/-- a loop of tests: r is returned at the first that fails; such loops stand in one another -/
theorem W_tst {F : Sm} {Γ : DEnv} {P : Res → Prop} {it : Ag} {gs : Gs} {ds : List D} {r : D} (t : Nat → Bool) (Iv : DEnv → Prop) (hit : it Γ = some ds) (h0 : Iv Γ) (hs : ∀ k d Γ, ds[k]? = some d → Iv Γ → ∃ Γ1, gs d Γ = some Γ1 ∧ ∀ P' : Res → Prop, (t k = true → ∀ Γ2, Iv Γ2 → P' (.nx Γ2)) → (t k = false → P' (.rt r)) → W F Γ1 P') (h1 : (List.range ds.length).all t = true → ∀ Γ', Iv Γ' → P (.nx Γ')) (h2 : (List.range ds.length).all t = false → P (.rt r)) : W (sFor it gs F) Γ P := by
  refine W_for (fun k Γ => (∀ j, j < k → t j = true) ∧ Iv Γ) hit ⟨fun j h => by omega, h0⟩ (fun k d Γ hd hi => ?_) fun Γ' h => h1 (by simpa [List.all_eq_true] using h.1) Γ' h.2
  obtain ⟨Γ1, g1, hw⟩ := hs k d Γ hd hi.2
  refine ⟨Γ1, g1, hw _ (fun e Γ2 hi2 => ⟨fun j hj => ?_, hi2⟩) fun e => h2 ?_⟩
  · by_cases e2 : j = k
    · rw [e2]; exact e
    · exact hi.1 j (by omega)
  · rw [Bool.eq_false_iff]
    intro w
    have := List.all_eq_true.mp w k (List.mem_range.mpr (List.getElem?_eq_some_iff.mp hd).1)
    rw [e] at this
    cases this
theorem sv_ixS0 {Γ : DEnv} {i m : Nat} {k f : Ex} {d : D} {xs : List D} (h : f Γ = some d) (hk : k Γ = some (.int (m : Nat))) (h1 : Γ[i]? = some (.ow xs)) (hm : m < xs.length) : sIxS i [] k f Γ = some (.nx (Γ.set i (.ow (xs.set m d)))) := by
  have e1 : gP i [] Γ = some (.ow xs) := by unfold gP; rw [h1]; rfl
  have e2 : ixN xs.length (m : Int) = some m := by unfold ixN; rw [if_pos (by omega), if_pos (by omega)]; rfl
  have e3 : upP i [] (.ow (xs.set m d)) Γ = some (.nx (Γ.set i (.ow (xs.set m d)))) := by unfold upP; rw [h1]; rfl
  unfold sIxS
  rw [h]
  show (k Γ).bind _ = _
  rw [hk]
  show (match gP i [] Γ, (D.int (m : Int)) with
    | some (.ow xs), .int n => (ixN xs.length n).bind fun m => upP i [] (.ow (xs.set m d)) Γ
    | _, _ => none) = _
  rw [e1]
  show (ixN xs.length (m : Int)).bind _ = _
  rw [e2]
  exact e3
theorem ev_callN' {Γ : DEnv} {S : List D → Option Sl} {fs : Ag} {ds : List D} {s : Sl} (h1 : fs Γ = some ds) (h2 : S ds = some s) : gCallN S fs Γ = some s := by unfold gCallN; rw [h1]; exact h2
theorem W_setN {Γ : DEnv} {sx : Sx} {s : Sl} {i : Nat} {P : Res → Prop} (h : sx Γ = some s) (k : P (.nx (Γ.set i s))) : W (sSetN i sx) Γ P := ⟨_, by unfold sSetN; rw [h]; rfl, k⟩
theorem wq_setN {Γ : DEnv} {sx : Sx} {s : Sl} {i : Nat} {P : Res → Prop} {F' : Sm} (h : sx Γ = some s) (k : W F' (Γ.set i s) P) : W (sSeq (sSetN i sx) F') Γ P := W_seq (W_setN h k)
theorem W_retO {Γ : DEnv} {i : Nat} {xs : List D} {P : Res → Prop} (h : Γ[i]? = some (.ow xs)) (k : P (.ro (.ow xs))) : W (sRetO i []) Γ P := by
  refine ⟨.ro (.ow xs), ?_, k⟩
  have e1 : gP i [] Γ = some (.ow xs) := by unfold gP; rw [h]; rfl
  unfold sRetO
  rw [e1]
  rfl
theorem W_ixS {Γ : DEnv} {i m : Nat} {k f : Ex} {d : D} {xs : List D} {P : Res → Prop} (h : f Γ = some d) (hk : k Γ = some (.int (m : Nat))) (h1 : Γ[i]? = some (.ow xs)) (hm : m < xs.length) (q : P (.nx (Γ.set i (.ow (xs.set m d))))) : W (sIxS i [] k f) Γ P := ⟨_, sv_ixS0 h hk h1 hm, q⟩
theorem ev_cat {Γ : DEnv} {f g : Ex} {xs ys : List D} (h1 : f Γ = some (.lst xs)) (h2 : g Γ = some (.lst ys)) (h : xs.length + ys.length < 1000000) : gCat f g Γ = some (xs ++ ys) := by
  unfold gCat
  rw [h1]
  show (g Γ).bind _ = _
  rw [h2]
  show (if xs.length + ys.length < 1000000 then some (xs ++ ys) else none) = _
  rw [if_pos h]
theorem ev_sl {Γ : DEnv} {f : Ex} {fl fh : Op} {x : D} {l h : Option Int} {ds : List D} (h1 : f Γ = some x) (h2 : fl Γ = some l) (h3 : fh Γ = some h) (h4 : dCut x l h = some ds) : gSl f fl fh Γ = some ds := ev_Sl h1 h2 h3 h4
def stsOf (pcs : List (Int × Int × Int × Int)) : List Int := pcs.map (·.1)
def stAt (pcs : List (Int × Int × Int × Int)) (k : Nat) : Int := (stsOf pcs).getD k 0
def lnAt (pcs : List (Int × Int × Int × Int)) (k : Nat) : Int × Int × Int := (pcs.getD k (0, 0, 0, 0)).2
def rsAt (rs : List (Int × Int × Int)) (k : Nat) : Int × Int × Int := rs.getD k (0, 0, 0)
theorem stsOf_len (pcs : List (Int × Int × Int × Int)) : (stsOf pcs).length = pcs.length := by simp [stsOf]
theorem pc_get (pcs : List (Int × Int × Int × Int)) {k : Nat} (hk : k < pcs.length) : pcs[k]? = some (stAt pcs k, lnAt pcs k) := by
  simp [stAt, stsOf, lnAt, hk]
/-! which ranges of points fit -/
def FitR (pts : List (Int × Int)) (e : Int) (a b : Nat) : Prop := ∀ i j m, a ≤ i → i < j → j < m → m < b → three (pAt pts i) (pAt pts j) (pAt pts m) e = true
theorem FitR.mono {pts : List (Int × Int)} {e : Int} {a b a' b' : Nat} (h : FitR pts e a b) (ha : a ≤ a') (hb : b' ≤ b) : FitR pts e a' b' := fun i j m h1 h2 h3 h4 => h i j m (by omega) h2 h3 (by omega)
theorem fitsB_iff {pts : List (Int × Int)} {e : Int} : fitsB pts e = true ↔ FitR pts e 0 pts.length := by
  unfold fitsB FitR
  simp only [List.all_eq_true, List.mem_range]
  constructor
  · intro h i j m _ h2 h3 h4
    obtain ⟨j, rfl⟩ : ∃ j', j = j' + 1 := ⟨j - 1, by omega⟩
    obtain ⟨m, rfl⟩ : ∃ m', m = m' + 2 := ⟨m - 2, by omega⟩
    exact h m (by omega) j (by omega) i (by omega)
  · intro h m hm j hj i hi
    exact h i (j + 1) (m + 2) (by omega) (by omega) (by omega) (by omega)
theorem slice_len {pts : List (Int × Int)} {a b : Nat} (hb : b ≤ pts.length) : (cutD pts (some (a : Int)) (some (b : Int))).length = b - a := by
  rw [cutD_nat pts a b hb]
  simp
  omega
theorem slice_at {pts : List (Int × Int)} {a b i : Nat} (hb : b ≤ pts.length) (hi : i < b - a) : pAt (cutD pts (some (a : Int)) (some (b : Int))) i = pAt pts (a + i) := by
  rw [cutD_nat pts a b hb]
  unfold pAt
  rw [List.getD_eq_getElem?_getD, List.getD_eq_getElem?_getD, List.getElem?_take_of_lt hi, List.getElem?_drop]
theorem fit_slice {pts : List (Int × Int)} {e : Int} {a b : Nat} (hb : b ≤ pts.length) : fitsB (cutD pts (some (a : Int)) (some (b : Int))) e = true ↔ FitR pts e a b := by
  rw [fitsB_iff, slice_len hb]
  constructor
  · intro h i j m h1 h2 h3 h4
    have := h (i - a) (j - a) (m - a) (by omega) (by omega) (by omega) (by omega)
    rw [slice_at hb (by omega), slice_at hb (by omega), slice_at hb (by omega)] at this
    have e1 : a + (i - a) = i := by omega
    have e2 : a + (j - a) = j := by omega
    have e3 : a + (m - a) = m := by omega
    rwa [e1, e2, e3] at this
  · intro h i j m _ h2 h3 h4
    rw [slice_at hb (by omega), slice_at hb (by omega), slice_at hb (by omega)]
    exact h _ _ _ (by omega) (by omega) (by omega) (by omega)
def gg (p q d : Int) : Int := ((Nat.gcd ((Nat.gcd p.natAbs q.natAbs : Nat) : Int).natAbs d.natAbs : Nat) : Int)
theorem red_eq (p q d : Int) (h0 : 0 < d) (hd : d < 2 ^ 64) : S_reduced [.tup [.int p, .int q, .int d]] = some (.tup [.int (p / gg p q d), .int (q / gg p q d), .int (d / gg p q d)]) := by
  have g0 : 0 < gg p q d := by
    unfold gg
    have : 0 < Nat.gcd ((Nat.gcd p.natAbs q.natAbs : Nat) : Int).natAbs d.natAbs := Nat.gcd_pos_of_pos_right _ (by omega)
    omega
  have g1 : gg p q d < 2 ^ 64 := by
    unfold gg
    have := Nat.gcd_le_right (m := ((Nat.gcd p.natAbs q.natAbs : Nat) : Int).natAbs) (n := d.natAbs) (by omega)
    omega
  refine sv_run ?_
  unfold B_reduced
  walk_at "ev norm"
  walk_at "ev st"
  refine sq_set (d := .int (gg p q d)) (ev_A (ev_cs (ev_A (ev_cs (ev_V rfl) (ev_cs (ev_V rfl) ev_nl)) rfl) (ev_cs (ev_V rfl) ev_nl)) rfl) ?_
  walk_at "ev norm"
  walk_at "ev st"
abbrev Vx := Int × Int × Int
/-- how high a point lies over lines of the slope rise / run, times run, for the side t -/
def val (t rise run : Int) (p : Vx) : Int := t * (run * p.2.1 - rise * p.1)
def cr (t : Int) (a b v : Vx) : Int := t * ((b.2.1 - a.2.1) * (v.1 - a.1) - (v.2.1 - a.2.1) * (b.1 - a.1))
theorem cr_val (t rise run : Int) (a b d : Vx) : run * cr t a b d = (val t rise run b - val t rise run a) * (d.1 - b.1) + (val t rise run b - val t rise run d) * (b.1 - a.1) := by
  unfold val cr; grind
theorem val_neg (t rise run : Int) (p : Vx) : val (-t) rise run p = -val t rise run p := by unfold val; grind
/-- of three, the middle one does not stand out: it is dominated -/
theorem dominated {t rise run : Int} {a b d : Vx} (h1 : a.1 < b.1) (h2 : b.1 < d.1) (hr : 0 < run) (h : cr t a b d ≤ 0) : val t rise run b ≤ val t rise run a ∨ val t rise run b ≤ val t rise run d := by
  by_cases x : val t rise run b ≤ val t rise run a
  · exact .inl x
  · by_cases y : val t rise run b ≤ val t rise run d
    · exact .inr y
    · have e := cr_val t rise run a b d
      have p1 := Int.mul_pos (a := val t rise run b - val t rise run a) (b := d.1 - b.1) (by omega) (by omega)
      have p2 := Int.mul_pos (a := val t rise run b - val t rise run d) (b := b.1 - a.1) (by omega) (by omega)
      have p3 := Int.mul_nonneg (a := run) (b := -cr t a b d) (by omega) (by omega)
      have : run * -cr t a b d = -(run * cr t a b d) := Int.mul_neg _ _
      omega
/-- behind a point that is not higher than the next one stands a lower one -/
theorem peakL {t rise run : Int} {a b d : Vx} (h1 : a.1 < b.1) (h2 : b.1 < d.1) (hr : 0 < run) (h : 0 < cr t a b d) (hb : val t rise run b ≤ val t rise run d) : val t rise run a ≤ val t rise run b := by
  by_cases x : val t rise run a ≤ val t rise run b
  · exact x
  · have e := cr_val t rise run a b d
    have p1 := Int.mul_nonneg (a := val t rise run a - val t rise run b) (b := d.1 - b.1) (by omega) (by omega)
    have p2 := Int.mul_nonneg (a := val t rise run d - val t rise run b) (b := b.1 - a.1) (by omega) (by omega)
    have p3 := Int.mul_pos hr h
    have e1 : (val t rise run a - val t rise run b) * (d.1 - b.1) = -((val t rise run b - val t rise run a) * (d.1 - b.1)) := by grind
    have e2 : (val t rise run d - val t rise run b) * (b.1 - a.1) = -((val t rise run b - val t rise run d) * (b.1 - a.1)) := by grind
    omega
theorem peakR {t rise run : Int} {a b d : Vx} (h1 : a.1 < b.1) (h2 : b.1 < d.1) (hr : 0 < run) (h : 0 < cr t a b d) (hb : val t rise run b ≤ val t rise run a) : val t rise run d ≤ val t rise run b := by
  by_cases x : val t rise run d ≤ val t rise run b
  · exact x
  · have e := cr_val t rise run a b d
    have p1 := Int.mul_nonneg (a := val t rise run a - val t rise run b) (b := d.1 - b.1) (by omega) (by omega)
    have p2 := Int.mul_nonneg (a := val t rise run d - val t rise run b) (b := b.1 - a.1) (by omega) (by omega)
    have p3 := Int.mul_pos hr h
    have e1 : (val t rise run a - val t rise run b) * (d.1 - b.1) = -((val t rise run b - val t rise run a) * (d.1 - b.1)) := by grind
    have e2 : (val t rise run d - val t rise run b) * (b.1 - a.1) = -((val t rise run b - val t rise run d) * (b.1 - a.1)) := by grind
    omega

/-! ### hulls -/
def vAt (c : List Vx) (i : Nat) : Vx := c.getD i (0, 0, 0)
theorem vAt_get {c : List Vx} {i : Nat} (h : i < c.length) : c[i]? = some (vAt c i) := by simp [vAt, h]
theorem vAt_mem {c : List Vx} {i : Nat} (h : i < c.length) : vAt c i ∈ c := List.mem_of_getElem? (vAt_get h)
theorem mem_vAt {c : List Vx} {q : Vx} (h : q ∈ c) : ∃ i, i < c.length ∧ vAt c i = q := by
  obtain ⟨i, hi, e⟩ := List.mem_iff_getElem.mp h
  exact ⟨i, hi, by simp [vAt, hi, e]⟩
def AscX (c : List Vx) : Prop := ∀ i j, i < j → j < c.length → (vAt c i).1 < (vAt c j).1 ∧ (vAt c i).2.2 < (vAt c j).2.2
structure Hull (t : Int) (c P : List Vx) : Prop where
  ne : c ≠ []
  sub : ∀ q ∈ c, q ∈ P
  asc : AscX c
  conv : ∀ i, i + 2 < c.length → 0 < cr t (vAt c i) (vAt c (i + 1)) (vAt c (i + 2))
  sup : ∀ p ∈ P, ∀ rise run, 0 < run → ∃ q ∈ c, val t rise run p ≤ val t rise run q
def keptN (t : Int) (c : List Vx) (v : Vx) : Nat → Nat
  | 0 => 0
  | 1 => 1
  | n + 2 => if 0 < cr t (vAt c n) (vAt c (n + 1)) v then n + 2 else keptN t c v (n + 1)
theorem keptN_le (t : Int) (c : List Vx) (v : Vx) : ∀ n, keptN t c v n ≤ n
  | 0 => Nat.le_refl _
  | 1 => Nat.le_refl _
  | n + 2 => by
    unfold keptN
    split
    · exact Nat.le_refl _
    · exact Nat.le_trans (keptN_le t c v (n + 1)) (by omega)
theorem keptN_pos (t : Int) (c : List Vx) (v : Vx) : ∀ n, 0 < n → 0 < keptN t c v n
  | 1, _ => by unfold keptN; omega
  | n + 2, _ => by
    unfold keptN
    split
    · omega
    · exact keptN_pos t c v (n + 1) (by omega)
theorem keptN_conv (t : Int) (c : List Vx) (v : Vx) : ∀ n k, keptN t c v n = k + 2 → 0 < cr t (vAt c k) (vAt c (k + 1)) v
  | 0, k, h => by unfold keptN at h; omega
  | 1, k, h => by unfold keptN at h; omega
  | n + 2, k, h => by
    unfold keptN at h
    split at h
    · have : n = k := by omega
      subst this
      assumption
    · exact keptN_conv t c v (n + 1) k h
theorem vAt_take {c : List Vx} {n i : Nat} (h : i < n) : vAt (c.take n) i = vAt c i := by
  unfold vAt
  rw [List.getD_eq_getElem?_getD, List.getD_eq_getElem?_getD, List.getElem?_take_of_lt h]
theorem vAt_app {c d : List Vx} {i : Nat} (h : i < c.length) : vAt (c ++ d) i = vAt c i := by
  unfold vAt
  rw [List.getD_eq_getElem?_getD, List.getD_eq_getElem?_getD, List.getElem?_append_left h]
theorem vAt_last {c : List Vx} {v : Vx} : vAt (c ++ [v]) c.length = v := by simp [vAt]
def putb (t : Int) (c : List Vx) (v : Vx) : List Vx := c.take (keptN t c v c.length) ++ [v]
theorem putb_len (t : Int) (c : List Vx) (v : Vx) : (putb t c v).length = keptN t c v c.length + 1 := by
  have := keptN_le t c v c.length
  simp [putb]; omega
theorem putb_at {t : Int} {c : List Vx} {v : Vx} {i : Nat} (h : i < keptN t c v c.length) : vAt (putb t c v) i = vAt c i := by
  have := keptN_le t c v c.length
  unfold putb
  rw [vAt_app (by simp; omega), vAt_take h]
theorem putb_end {t : Int} {c : List Vx} {v : Vx} : vAt (putb t c v) (keptN t c v c.length) = v := by
  have := keptN_le t c v c.length
  have h := vAt_last (c := c.take (keptN t c v c.length)) (v := v)
  have e : (c.take (keptN t c v c.length)).length = keptN t c v c.length := by simp; omega
  rw [e] at h
  exact h
/-- what is popped is dominated by what stays and the new one -/
theorem kept_sup {t : Int} {c : List Vx} {v : Vx} (asc : AscX c) (hv : ∀ q ∈ c, q.1 < v.1) {rise run : Int} (hr : 0 < run) : ∀ n, n ≤ c.length → ∀ i, i < n → (∃ j, j < keptN t c v n ∧ val t rise run (vAt c i) ≤ val t rise run (vAt c j)) ∨ val t rise run (vAt c i) ≤ val t rise run v
  | 0, _, i, h => by omega
  | 1, _, i, h => .inl ⟨0, by unfold keptN; omega, by have : i = 0 := by omega
                                                      subst this; exact Int.le_refl _⟩
  | n + 2, hn, i, hi => by
    unfold keptN
    split
    · exact .inl ⟨i, hi, Int.le_refl _⟩
    · rename_i hc
      have ih := kept_sup (t := t) (v := v) asc hv (rise := rise) hr (n + 1) (by omega)
      by_cases e : i < n + 1
      · exact ih i e
      · have : i = n + 1 := by omega
        subst this
        rcases dominated (t := t) (rise := rise) (run := run) (asc n (n + 1) (by omega) (by omega)).1 (hv _ (vAt_mem (c := c) (i := n + 1) (by omega))) hr (by omega) with h | h
        · rcases ih n (by omega) with ⟨j, h1, h2⟩ | h2
          · exact .inl ⟨j, h1, Int.le_trans h h2⟩
          · exact .inr (Int.le_trans h h2)
        · exact .inr h
theorem Hull.first {t : Int} {v : Vx} : Hull t [v] [v] :=
  ⟨by simp, fun q h => h, fun i j h1 h2 => by simp at h2; omega, fun i h => by simp at h, fun p hp rise run _ => ⟨p, hp, Int.le_refl _⟩⟩
theorem Hull.put {t : Int} {c P : List Vx} {v : Vx} (h : Hull t c P) (hv : ∀ q ∈ P, q.1 < v.1 ∧ q.2.2 < v.2.2) : Hull t (putb t c v) (P ++ [v]) := by
  have kle := keptN_le t c v c.length
  have hl := putb_len t c v
  have hcv : ∀ q ∈ c, q.1 < v.1 := fun q hq => (hv q (h.sub q hq)).1
  refine ⟨fun e => by rw [e] at hl; simp at hl, fun q hq => ?_, fun i j hij hj => ?_, fun i hi => ?_, fun p hp rise run hr => ?_⟩
  · rcases List.mem_append.mp hq with z | z
    · exact List.mem_append_left _ (h.sub q (List.mem_of_mem_take z))
    · exact List.mem_append_right _ z
  · rw [hl] at hj
    rw [putb_at (show i < keptN t c v c.length by omega)]
    by_cases e : j < keptN t c v c.length
    · rw [putb_at e]
      exact h.asc i j hij (by omega)
    · have : j = keptN t c v c.length := by omega
      subst this
      rw [putb_end]
      exact hv _ (h.sub _ (vAt_mem (by omega)))
  · rw [hl] at hi
    rw [putb_at (show i < keptN t c v c.length by omega), putb_at (show i + 1 < keptN t c v c.length by omega)]
    by_cases e : i + 2 < keptN t c v c.length
    · rw [putb_at e]
      exact h.conv i (by omega)
    · have e2 : keptN t c v c.length = i + 2 := by omega
      have := putb_end (t := t) (c := c) (v := v)
      rw [e2] at this
      rw [this]
      exact keptN_conv t c v c.length i e2
  · have inn : ∀ j, j < keptN t c v c.length → vAt c j ∈ putb t c v := fun j hj => by
      have := vAt_mem (c := putb t c v) (i := j) (by omega)
      rw [putb_at hj] at this
      exact this
    have inv : v ∈ putb t c v := List.mem_append_right _ (List.mem_singleton.mpr rfl)
    rcases List.mem_append.mp hp with z | z
    · obtain ⟨q, hq, hle⟩ := h.sup p z rise run hr
      obtain ⟨i, hi, rfl⟩ := mem_vAt hq
      rcases kept_sup (t := t) (v := v) h.asc hcv (rise := rise) hr c.length (Nat.le_refl _) i hi with ⟨j, h1, h2⟩ | h2
      · exact ⟨_, inn j h1, Int.le_trans hle h2⟩
      · exact ⟨v, inv, Int.le_trans hle h2⟩
    · rw [List.mem_singleton] at z
      subst z
      exact ⟨p, inv, Int.le_refl _⟩
/-- the last edge of a new hull: all points lie on one side of it -/
theorem Hull.tangent {t : Int} {c P : List Vx} {v : Vx} (h : Hull t c P) (hv : ∀ q ∈ P, q.1 < v.1 ∧ q.2.2 < v.2.2) {a : Vx} (ha : a = vAt c (keptN t c v c.length - 1)) :
    a ∈ P ∧ a.1 < v.1 ∧ a.2.2 < v.2.2 ∧ ∀ p ∈ P, val t (v.2.1 - a.2.1) (v.1 - a.1) p ≤ val t (v.2.1 - a.2.1) (v.1 - a.1) a := by
  have kle := keptN_le t c v c.length
  have cl : 0 < c.length := List.length_pos_iff.mpr h.ne
  have kp := keptN_pos t c v c.length cl
  have am : a ∈ P := by rw [ha]; exact h.sub _ (vAt_mem (by omega))
  have av := hv a am
  refine ⟨am, av.1, av.2, fun p hp => ?_⟩
  have H := h.put hv
  have hl := putb_len t c v
  generalize hK : keptN t c v c.length = K at *
  have hr : 0 < v.1 - a.1 := by omega
  have veq : val t (v.2.1 - a.2.1) (v.1 - a.1) v = val t (v.2.1 - a.2.1) (v.1 - a.1) a := by unfold val; grind
  have eK : vAt (putb t c v) K = v := by rw [← hK]; exact putb_end
  have eA : vAt (putb t c v) (K - 1) = a := by rw [putb_at (by omega), ha]
  -- along the chain
  have up : ∀ m, m ≤ K → val t (v.2.1 - a.2.1) (v.1 - a.1) (vAt (putb t c v) (K - m)) ≤ val t (v.2.1 - a.2.1) (v.1 - a.1) a ∧ (m ≠ 0 → val t (v.2.1 - a.2.1) (v.1 - a.1) (vAt (putb t c v) (K - m)) ≤ val t (v.2.1 - a.2.1) (v.1 - a.1) (vAt (putb t c v) (K - m + 1))) := fun m => by
    induction m with
    | zero => intro _; rw [Nat.sub_zero, eK, veq]; exact ⟨Int.le_refl _, fun z => absurd rfl z⟩
    | succ m ih =>
      intro hm
      obtain ⟨i1, i2⟩ := ih (by omega)
      by_cases m0 : m = 0
      · subst m0
        have e1 : K - (0 + 1) + 1 = K := by omega
        rw [e1, eA, eK, veq]
        exact ⟨Int.le_refl _, fun _ => Int.le_refl _⟩
      · have i2 := i2 m0
        have e1 : K - (m + 1) + 1 = K - m := by omega
        have e2 : K - (m + 1) + 2 = K - m + 1 := by omega
        have cv := H.conv (K - (m + 1)) (by omega)
        rw [e1, e2] at cv
        have le := peakL (H.asc _ _ (by omega) (by omega)).1 (H.asc _ _ (by omega) (by omega)).1 hr cv i2
        rw [e1]
        exact ⟨Int.le_trans le i1, fun _ => le⟩
  obtain ⟨q, hq, hle⟩ := H.sup p (List.mem_append_left _ hp) (v.2.1 - a.2.1) (v.1 - a.1) hr
  obtain ⟨i, hi, rfl⟩ := mem_vAt hq
  have := (up (K - i) (by omega)).1
  have e : K - (K - i) = i := by omega
  rw [e] at this
  exact Int.le_trans hle this

/-! ### the vertex that is farthest: by halving -/
def farN (g : Nat → Bool) : Nat → Nat → Nat → Nat
  | 0, a, _ => a
  | f + 1, a, b => if a < b then (if g ((a + b) / 2) then farN g f ((a + b) / 2 + 1) b else farN g f a ((a + b) / 2)) else a
/-- where g is true up to a place and false from there on, that place is found -/
theorem farN_spec (g : Nat → Bool) (mono : ∀ i, g (i + 1) = true → g i = true) : ∀ f a b, b - a ≤ f → a ≤ b → a ≤ farN g f a b ∧ farN g f a b ≤ b ∧ (∀ i, a ≤ i → i < farN g f a b → g i = true) ∧ (farN g f a b < b → g (farN g f a b) = false)
  | 0, a, b, h, hab => by
    unfold farN
    exact ⟨Nat.le_refl _, hab, fun i h1 h2 => by omega, fun z => by omega⟩
  | f + 1, a, b, h, hab => by
    have down : ∀ i k, g (i + k) = true → g i = true := fun i k => by
      induction k with
      | zero => exact id
      | succ k ih => exact fun z => ih (mono _ z)
    unfold farN
    split
    · split
      · rename_i hlt hg
        obtain ⟨h1, h2, h3, h4⟩ := farN_spec g mono f ((a + b) / 2 + 1) b (by omega) (by omega)
        refine ⟨by omega, h2, fun i i1 i2 => ?_, h4⟩
        by_cases e : (a + b) / 2 + 1 ≤ i
        · exact h3 i e i2
        · have : (a + b) / 2 = i + ((a + b) / 2 - i) := by omega
          rw [this] at hg
          exact down _ _ hg
      · rename_i hlt hg
        obtain ⟨h1, h2, h3, h4⟩ := farN_spec g mono f a ((a + b) / 2) (by omega) (by omega)
        refine ⟨h1, by omega, h3, fun z => ?_⟩
        by_cases e : farN g f a ((a + b) / 2) < (a + b) / 2
        · exact h4 e
        · have : farN g f a ((a + b) / 2) = (a + b) / 2 := by omega
          rw [this]
          exact Bool.not_eq_true _ ▸ hg
    · exact ⟨Nat.le_refl _, hab, fun i h1 h2 => by omega, fun z => by omega⟩
def farG (rise run : Int) (c : List Vx) (i : Nat) : Bool := decide (rise * ((vAt c (i + 1)).1 - (vAt c i).1) > run * ((vAt c (i + 1)).2.1 - (vAt c i).2.1))
def farI (rise run : Int) (c : List Vx) : Nat := farN (farG rise run c) c.length 0 (c.length - 1)
theorem farG_iff {t rise run : Int} {c : List Vx} {i : Nat} : farG (t * rise) (t * run) c i = decide (val (-t) rise run (vAt c i) < val (-t) rise run (vAt c (i + 1))) := by
  unfold farG
  have e : val (-t) rise run (vAt c (i + 1)) - val (-t) rise run (vAt c i) = t * rise * ((vAt c (i + 1)).1 - (vAt c i).1) - t * run * ((vAt c (i + 1)).2.1 - (vAt c i).2.1) := by unfold val; grind
  exact decide_eq_decide.mpr ⟨fun h => by omega, fun h => by omega⟩
/-- on the chain of the other side: the farthest of all points -/
theorem Hull.far {t rise run : Int} {c P : List Vx} (h : Hull (-t) c P) (hr : 0 < run) : farI (t * rise) (t * run) c < c.length ∧ ∀ p ∈ P, val t rise run (vAt c (farI (t * rise) (t * run) c)) ≤ val t rise run p := by
  have cl : 0 < c.length := List.length_pos_iff.mpr h.ne
  have G : ∀ i, farG (t * rise) (t * run) c i = decide (val (-t) rise run (vAt c i) < val (-t) rise run (vAt c (i + 1))) := fun i => farG_iff
  -- g is false from some place on, within the chain
  let g : Nat → Bool := fun i => decide (i + 1 < c.length) && farG (t * rise) (t * run) c i
  have mono : ∀ i, g (i + 1) = true → g i = true := fun i hi => by
    simp only [g, Bool.and_eq_true, decide_eq_true_eq] at hi ⊢
    refine ⟨by omega, ?_⟩
    rw [G] at hi ⊢
    rw [decide_eq_true_eq] at hi ⊢
    have := hi.2
    rw [show i + 1 + 1 = i + 2 from rfl] at this
    by_cases x : val (-t) rise run (vAt c i) < val (-t) rise run (vAt c (i + 1))
    · exact x
    · have := peakR (h.asc i (i + 1) (by omega) (by omega)).1 (h.asc (i + 1) (i + 2) (by omega) (by omega)).1 hr (h.conv i (by omega)) (by omega : val (-t) rise run (vAt c (i + 1)) ≤ val (-t) rise run (vAt c i))
      omega
  have same : ∀ f a b, b < c.length → farN (farG (t * rise) (t * run) c) f a b = farN g f a b := fun f => by
    induction f with
    | zero => intro a b _; rfl
    | succ f ih =>
      intro a b hb
      unfold farN
      split
      · have e : g ((a + b) / 2) = farG (t * rise) (t * run) c ((a + b) / 2) := by
          simp only [g]
          rw [decide_eq_true (by omega), Bool.true_and]
        rw [e]
        split
        · exact ih _ _ hb
        · exact ih _ _ (by omega)
      · rfl
  have S := farN_spec g mono c.length 0 (c.length - 1) (by omega) (by omega)
  have ef : farI (t * rise) (t * run) c = farN g c.length 0 (c.length - 1) := same _ _ _ (by omega)
  rw [ef]
  generalize farN g c.length 0 (c.length - 1) = k at *
  obtain ⟨_, s2, s3, s4⟩ := S
  refine ⟨by omega, fun p hp => ?_⟩
  -- ascending up to k, not ascending behind
  have lo : ∀ m, m ≤ k → val (-t) rise run (vAt c (k - m)) ≤ val (-t) rise run (vAt c k) := fun m => by
    induction m with
    | zero => intro _; exact Int.le_refl _
    | succ m ih =>
      intro hm
      have := s3 (k - (m + 1)) (by omega) (by omega)
      simp only [g, Bool.and_eq_true] at this
      have this := this.2
      rw [G, decide_eq_true_eq] at this
      have e : k - (m + 1) + 1 = k - m := by omega
      rw [e] at this
      have := ih (by omega)
      omega
  have hi : ∀ m, k + m < c.length → val (-t) rise run (vAt c (k + m)) ≤ val (-t) rise run (vAt c k) ∧ (k + m + 1 < c.length → val (-t) rise run (vAt c (k + m + 1)) ≤ val (-t) rise run (vAt c (k + m))) := fun m => by
    induction m with
    | zero =>
      intro hm
      refine ⟨Int.le_refl _, fun z => ?_⟩
      have := s4 (by omega)
      simp only [g] at this
      rw [Nat.add_zero] at z
      rw [decide_eq_true z, Bool.true_and, G, decide_eq_false_iff_not] at this
      rw [show k + 0 = k from rfl]
      omega
    | succ m ih =>
      intro hm
      obtain ⟨i1, i2⟩ := ih (by omega)
      have i2 := i2 (by omega)
      refine ⟨Int.le_trans i2 i1, fun z => ?_⟩
      exact peakR (h.asc (k + m) (k + m + 1) (by omega) (by omega)).1 (h.asc (k + m + 1) (k + (m + 1) + 1) (by omega) (by omega)).1 hr (h.conv (k + m) (by omega)) i2
  obtain ⟨q, hq, hle⟩ := h.sup p hp rise run hr
  obtain ⟨i, hi', rfl⟩ := mem_vAt hq
  have : val (-t) rise run (vAt c i) ≤ val (-t) rise run (vAt c k) := by
    by_cases e : i ≤ k
    · have := lo (k - i) (by omega)
      have e2 : k - (k - i) = i := by omega
      rw [e2] at this
      exact this
    · have := (hi (i - k) (by omega)).1
      have e2 : k + (i - k) = i := by omega
      rw [e2] at this
      exact this
  rw [val_neg, val_neg] at this
  rw [val_neg] at hle
  have := val_neg t rise run p
  have h1 := val_neg t rise run (vAt c i)
  omega

/-! ### the greatest deviation -/
structure Dv where
  over : Int
  run : Int
  a : Vx
  m : Vx
  z : Vx
def Dv.rise (g : Dv) : Int := g.z.2.1 - g.a.2.1
/-- all points lie in the strip of the deviation, on the side t -/
structure Gd (P : List Vx) (g : Dv) (t : Int) : Prop where
  tt : t = 1 ∨ t = -1
  run : 0 < g.run
  rx : g.run = g.z.1 - g.a.1 ∨ (g.over = 0 ∧ g.run = 1 ∧ g.a = g.z)
  ma : g.a ∈ P
  mm : g.m ∈ P
  mz : g.z ∈ P
  am : g.a.1 ≤ g.m.1
  mz' : g.m.1 ≤ g.z.1
  oz : val t g.rise g.run g.z = val t g.rise g.run g.a
  ov : g.over = val t g.rise g.run g.a - val t g.rise g.run g.m
  lo : ∀ p ∈ P, val t g.rise g.run g.m ≤ val t g.rise g.run p
  hi : ∀ p ∈ P, val t g.rise g.run p ≤ val t g.rise g.run g.a
theorem Gd.nn {P : List Vx} {g : Dv} {t : Int} (h : Gd P g t) : 0 ≤ g.over := by
  have := h.lo g.a h.ma
  have := h.ov
  omega
def AscV (P : List Vx) : Prop := P.Pairwise fun a b => a.1 < b.1 ∧ a.2.2 < b.2.2
theorem AscV.at {P : List Vx} (h : AscV P) {i j : Nat} (hij : i < j) (hj : j < P.length) : (vAt P i).1 < (vAt P j).1 ∧ (vAt P i).2.2 < (vAt P j).2.2 := by
  have := List.pairwise_iff_getElem.mp h i j (by omega) hj hij
  unfold vAt
  rw [List.getD_eq_getElem?_getD, List.getD_eq_getElem?_getD, List.getElem?_eq_getElem (by omega), List.getElem?_eq_getElem hj]
  exact this
theorem AscV.lt {P : List Vx} (h : AscV P) {a b : Vx} (ha : a ∈ P) (hb : b ∈ P) (hl : a.1 ≤ b.1) (hn : a ≠ b) : a.1 < b.1 ∧ a.2.2 < b.2.2 := by
  obtain ⟨i, hi, rfl⟩ := mem_vAt ha
  obtain ⟨j, hj, rfl⟩ := mem_vAt hb
  by_cases e : i < j
  · exact h.at e hj
  · by_cases e2 : j < i
    · have := (h.at e2 hi).1; omega
    · have : i = j := by omega
      subst this
      exact absurd rfl hn
/-- three points (x, y): how far the middle one is off -/
def dv3 (p q r : Vx) : Int := q.2.1 * (r.1 - p.1) - p.2.1 * (r.1 - q.1) - r.2.1 * (q.1 - p.1)
theorem dv3_val (t rise run : Int) (ht : t = 1 ∨ t = -1) (p q r : Vx) : run * dv3 p q r = t * (val t rise run q * (r.1 - p.1) - val t rise run p * (r.1 - q.1) - val t rise run r * (q.1 - p.1)) := by
  unfold dv3 val
  rcases ht with rfl | rfl <;> grind
/-- no three points deviate more -/
theorem Gd.most {P : List Vx} {g : Dv} {t : Int} (h : Gd P g t) {p q r : Vx} (hp : p ∈ P) (hq : q ∈ P) (hr : r ∈ P) (h1 : p.1 ≤ q.1) (h2 : q.1 ≤ r.1) {e : Int} (he : g.over ≤ 2 * e * g.run) : -(2 * e * (r.1 - p.1)) ≤ dv3 p q r ∧ dv3 p q r ≤ 2 * e * (r.1 - p.1) := by
  have key := dv3_val t g.rise g.run h.tt p q r
  generalize hfp : val t g.rise g.run p = fp at key
  generalize hfq : val t g.rise g.run q = fq at key
  generalize hfr : val t g.rise g.run r = fr at key
  have b1 := h.lo p hp; have b2 := h.hi p hp; have b3 := h.lo q hq; have b4 := h.hi q hq; have b5 := h.lo r hr; have b6 := h.hi r hr
  rw [hfp] at b1 b2; rw [hfq] at b3 b4; rw [hfr] at b5 b6
  have ov := h.ov
  generalize val t g.rise g.run g.a = hi at *
  generalize val t g.rise g.run g.m = lo at *
  have A : 0 ≤ r.1 - q.1 := by omega
  have B : 0 ≤ q.1 - p.1 := by omega
  have C : 0 ≤ r.1 - p.1 := by omega
  have m1 := Int.mul_le_mul_of_nonneg_right (show fq - fp ≤ hi - lo by omega) A
  have m2 := Int.mul_le_mul_of_nonneg_right (show fq - fr ≤ hi - lo by omega) B
  have m3 := Int.mul_le_mul_of_nonneg_right (show fp - fq ≤ hi - lo by omega) A
  have m4 := Int.mul_le_mul_of_nonneg_right (show fr - fq ≤ hi - lo by omega) B
  have e1 : fq * (r.1 - p.1) - fp * (r.1 - q.1) - fr * (q.1 - p.1) = (fq - fp) * (r.1 - q.1) + (fq - fr) * (q.1 - p.1) := by grind
  have e2 : (hi - lo) * (r.1 - q.1) + (hi - lo) * (q.1 - p.1) = (hi - lo) * (r.1 - p.1) := by grind
  have e3 : (fp - fq) * (r.1 - q.1) + (fr - fq) * (q.1 - p.1) = -((fq - fp) * (r.1 - q.1) + (fq - fr) * (q.1 - p.1)) := by grind
  have up : (hi - lo) * (r.1 - p.1) ≤ 2 * e * g.run * (r.1 - p.1) := Int.mul_le_mul_of_nonneg_right (by omega) C
  have e4 : g.run * (2 * e * (r.1 - p.1)) = 2 * e * g.run * (r.1 - p.1) := by grind
  have e5 : g.run * -(2 * e * (r.1 - p.1)) = -(2 * e * g.run * (r.1 - p.1)) := by grind
  have bnd : -(2 * e * g.run * (r.1 - p.1)) ≤ g.run * dv3 p q r ∧ g.run * dv3 p q r ≤ 2 * e * g.run * (r.1 - p.1) := by
    rw [key, e1]
    rcases h.tt with ht | ht
    · rw [ht, Int.one_mul]; omega
    · rw [ht, Int.neg_mul, Int.one_mul]; omega
  refine ⟨Int.le_of_mul_le_mul_left ?_ h.run, Int.le_of_mul_le_mul_left ?_ h.run⟩
  · rw [e5]; exact bnd.1
  · rw [e4]; exact bnd.2
/-- where the deviation is too great, its three points show it -/
theorem Gd.shown {P : List Vx} {g : Dv} {t : Int} (h : Gd P g t) (asc : AscV P) {e : Int} (he0 : 0 ≤ e) (he : 2 * e * g.run < g.over) : (g.a.1 < g.m.1 ∧ g.a.2.2 < g.m.2.2) ∧ (g.m.1 < g.z.1 ∧ g.m.2.2 < g.z.2.2) ∧ ¬ (-(2 * e * (g.z.1 - g.a.1)) ≤ dv3 g.a g.m g.z ∧ dv3 g.a g.m g.z ≤ 2 * e * (g.z.1 - g.a.1)) := by
  have p0 : 0 ≤ 2 * e * g.run := Int.mul_nonneg (by omega) (by have := h.run; omega)
  have o := h.ov
  have oz := h.oz
  have na : g.a ≠ g.m := fun z => by rw [← z] at o; omega
  have nz : g.m ≠ g.z := fun z => by rw [z] at o; omega
  refine ⟨asc.lt h.ma h.mm h.am na, asc.lt h.mm h.mz h.mz' nz, fun hb => ?_⟩
  have rx : g.run = g.z.1 - g.a.1 := by
    rcases h.rx with z | z
    · exact z
    · omega
  have key := dv3_val t g.rise g.run h.tt g.a g.m g.z
  rw [oz] at key
  have e1 : val t g.rise g.run g.m * (g.z.1 - g.a.1) - val t g.rise g.run g.a * (g.z.1 - g.m.1) - val t g.rise g.run g.a * (g.m.1 - g.a.1) = -(g.run * g.over) := by
    rw [o, rx]; grind
  rw [e1] at key
  have e2 : dv3 g.a g.m g.z = t * -g.over := by
    refine Int.eq_of_mul_eq_mul_left (a := g.run) (by have := h.run; omega) ?_
    rw [key]; grind
  rw [← rx, e2] at hb
  rcases h.tt with ht | ht
  · rw [ht] at hb; omega
  · rw [ht] at hb; omega
/-- the line in the middle of the strip -/
def midL (g : Dv) : Int × Int × Int := (2 * g.rise, 2 * (g.run * g.a.2.1 - g.rise * g.a.1) - (g.run * (g.a.2.1 - g.m.2.1) + g.rise * (g.m.1 - g.a.1)), 2 * g.run)
theorem Gd.line {P : List Vx} {g : Dv} {t : Int} (h : Gd P g t) {p : Vx} (hp : p ∈ P) {e : Int} (he : g.over ≤ 2 * e * g.run) :
    -(e * (midL g).2.2) ≤ (midL g).1 * p.1 + (midL g).2.1 - p.2.1 * (midL g).2.2 ∧ (midL g).1 * p.1 + (midL g).2.1 - p.2.1 * (midL g).2.2 ≤ e * (midL g).2.2 := by
  have b1 := h.lo p hp
  have b2 := h.hi p hp
  have o := h.ov
  have e1 : (midL g).1 * p.1 + (midL g).2.1 - p.2.1 * (midL g).2.2 = t * (2 * (val t g.rise g.run g.a - val t g.rise g.run p) - g.over) := by
    rw [o]
    unfold midL val
    rcases h.tt with ht | ht <;> (rw [ht]; grind)
  have e2 : e * (midL g).2.2 = 2 * e * g.run := by unfold midL; grind
  rw [e1, e2]
  generalize val t g.rise g.run g.a = fa at *
  generalize val t g.rise g.run p = fp at *
  generalize val t g.rise g.run g.m = fm at *
  rcases h.tt with ht | ht
  · rw [ht, Int.one_mul]; omega
  · rw [ht, Int.neg_mul, Int.one_mul]; omega
/-! one more point -/
theorem slopes {rise run rise1 run1 : Int} (hr : 0 < run) (hr1 : 0 < run1) {x y : Vx} (h : run * y.2.1 - rise * y.1 ≤ run * x.2.1 - rise * x.1) (h1 : run1 * x.2.1 - rise1 * x.1 ≤ run1 * y.2.1 - rise1 * y.1) : 0 ≤ (run * rise1 - rise * run1) * (x.1 - y.1) := by
  have a := Int.mul_le_mul_of_nonneg_left h (Int.le_of_lt hr1)
  have b := Int.mul_le_mul_of_nonneg_left h1 (Int.le_of_lt hr)
  have e : (run * rise1 - rise * run1) * (x.1 - y.1) = (run1 * (run * x.2.1 - rise * x.1) - run1 * (run * y.2.1 - rise * y.1)) + (run * (run1 * y.2.1 - rise1 * y.1) - run * (run1 * x.2.1 - rise1 * x.1)) := by grind
  omega
theorem sign_pos {k d : Int} (hk : 0 < k) (h : 0 ≤ k * d) : 0 ≤ d := by
  by_cases x : 0 ≤ d
  · exact x
  · have := Int.mul_pos hk (show 0 < -d by omega)
    rw [Int.mul_neg] at this
    omega
theorem sign_neg {k d : Int} (hk : k < 0) (h : 0 ≤ k * d) : d ≤ 0 := by
  have := sign_pos (k := -k) (d := -d) (by omega) (by rw [Int.neg_mul_neg]; exact h)
  omega
/-- the side t of the new edge: what deviation_under reckons -/
def under (t : Int) (c o : List Vx) (v : Vx) : Option Dv :=
  let a := vAt c (keptN t c v c.length - 1)
  let m := vAt o (farI (t * (v.2.1 - a.2.1)) (t * (v.1 - a.1)) o)
  if m.1 < a.1 then none else some ⟨t * ((v.1 - a.1) * (a.2.1 - m.2.1) + (v.2.1 - a.2.1) * (m.1 - a.1)), v.1 - a.1, a, m, v⟩
theorem under_some {t : Int} (ht : t = 1 ∨ t = -1) {c o P : List Vx} {v : Vx} {g : Dv} (hc : Hull t c P) (ho : Hull (-t) o P) (hv : ∀ q ∈ P, q.1 < v.1 ∧ q.2.2 < v.2.2) (h : under t c o v = some g) : Gd (P ++ [v]) g t := by
  obtain ⟨t1, t2, _, t3⟩ := hc.tangent hv rfl
  unfold under at h
  generalize vAt c (keptN t c v c.length - 1) = a at *
  have hr : 0 < v.1 - a.1 := by omega
  obtain ⟨f1, f2⟩ := ho.far (t := t) (rise := v.2.1 - a.2.1) (run := v.1 - a.1) hr
  have fm := ho.sub _ (vAt_mem f1)
  simp only at h
  generalize vAt o (farI (t * (v.2.1 - a.2.1)) (t * (v.1 - a.1)) o) = m at *
  split at h
  · cases h
  · rename_i hlt
    cases h
    have veq : val t (v.2.1 - a.2.1) (v.1 - a.1) v = val t (v.2.1 - a.2.1) (v.1 - a.1) a := by unfold val; grind
    refine ⟨ht, hr, .inl rfl, List.mem_append_left _ t1, List.mem_append_left _ fm, by simp, by show a.1 ≤ m.1; omega, by have := (hv m fm).1; show m.1 ≤ v.1; omega, veq, ?_, fun p hp => ?_, fun p hp => ?_⟩
    · show t * ((v.1 - a.1) * (a.2.1 - m.2.1) + (v.2.1 - a.2.1) * (m.1 - a.1)) = val t (v.2.1 - a.2.1) (v.1 - a.1) a - val t (v.2.1 - a.2.1) (v.1 - a.1) m
      unfold val; grind
    · show val t (v.2.1 - a.2.1) (v.1 - a.1) m ≤ val t (v.2.1 - a.2.1) (v.1 - a.1) p
      rcases List.mem_append.mp hp with z | z
      · exact f2 p z
      · rw [List.mem_singleton] at z; subst z; rw [veq]; exact f2 a t1
    · show val t (v.2.1 - a.2.1) (v.1 - a.1) p ≤ val t (v.2.1 - a.2.1) (v.1 - a.1) a
      rcases List.mem_append.mp hp with z | z
      · exact t3 p z
      · rw [List.mem_singleton] at z; subst z; rw [veq]; exact Int.le_refl _
/-- where the side t has nothing, the new point does not stand out there -/
theorem under_none {t : Int} (ht : t = 1 ∨ t = -1) {c o P : List Vx} {v : Vx} {g : Dv} {s : Int} (hc : Hull t c P) (ho : Hull (-t) o P) (hv : ∀ q ∈ P, q.1 < v.1 ∧ q.2.2 < v.2.2) (h : under t c o v = none) (G : Gd P g s) :
    ¬ ∀ p ∈ P, val t g.rise g.run p < val t g.rise g.run v := by
  intro hb
  obtain ⟨t1, t2, _, t3⟩ := hc.tangent hv rfl
  unfold under at h
  generalize vAt c (keptN t c v c.length - 1) = a at *
  have hr : 0 < v.1 - a.1 := by omega
  obtain ⟨f1, f2⟩ := ho.far (t := t) (rise := v.2.1 - a.2.1) (run := v.1 - a.1) hr
  have fm := ho.sub _ (vAt_mem f1)
  simp only at h
  generalize vAt o (farI (t * (v.2.1 - a.2.1)) (t * (v.1 - a.1)) o) = m at *
  split at h
  · rename_i hlt
    have gr := G.run
    have ha := hb a t1
    have l1 := G.lo a t1
    have l2 := G.hi a t1
    have l3 := G.lo m fm
    have l4 := G.hi m fm
    have q1 := t3 g.a G.ma
    have q2 := t3 g.m G.mm
    have q3 := t3 g.z G.mz
    have r1 := f2 g.a G.ma
    have r2 := f2 g.m G.mm
    have r3 := f2 g.z G.mz
    have oz := G.oz
    have am := G.am
    have mz := G.mz'
    have kk : (v.1 - a.1) * (g.run * (v.2.1 - a.2.1) - g.rise * (v.1 - a.1)) = (v.1 - a.1) * (t * (val t g.rise g.run v - val t g.rise g.run a)) := by
      unfold val
      rcases ht with rfl | rfl <;> grind
    have k2 := Int.eq_of_mul_eq_mul_left (by omega) kk
    generalize hK : g.run * (v.2.1 - a.2.1) - g.rise * (v.1 - a.1) = K at *
    unfold val at *
    rcases ht with rfl | rfl
    · have hK0 : 0 < K := by omega
      rcases G.tt with rfl | rfl
      · have s1 := slopes (rise := g.rise) (rise1 := v.2.1 - a.2.1) gr hr (x := g.a) (y := a) (by omega) (by omega)
        have s2 := slopes (rise := g.rise) (rise1 := v.2.1 - a.2.1) gr hr (x := m) (y := g.m) (by omega) (by omega)
        rw [hK] at s1 s2
        have := sign_pos hK0 s1
        have := sign_pos hK0 s2
        omega
      · have s1 := slopes (rise := g.rise) (rise1 := v.2.1 - a.2.1) gr hr (x := g.m) (y := a) (by omega) (by omega)
        have s2 := slopes (rise := g.rise) (rise1 := v.2.1 - a.2.1) gr hr (x := m) (y := g.z) (by omega) (by omega)
        rw [hK] at s1 s2
        have := sign_pos hK0 s1
        have := sign_pos hK0 s2
        omega
    · have hK0 : K < 0 := by omega
      rcases G.tt with rfl | rfl
      · have s1 := slopes (rise := g.rise) (rise1 := v.2.1 - a.2.1) gr hr (x := g.z) (y := m) (by omega) (by omega)
        have s2 := slopes (rise := g.rise) (rise1 := v.2.1 - a.2.1) gr hr (x := a) (y := g.m) (by omega) (by omega)
        rw [hK] at s1 s2
        have := sign_neg hK0 s1
        have := sign_neg hK0 s2
        omega
      · have s1 := slopes (rise := g.rise) (rise1 := v.2.1 - a.2.1) gr hr (x := g.m) (y := m) (by omega) (by omega)
        have s2 := slopes (rise := g.rise) (rise1 := v.2.1 - a.2.1) gr hr (x := a) (y := g.a) (by omega) (by omega)
        rw [hK] at s1 s2
        have := sign_neg hK0 s1
        have := sign_neg hK0 s2
        omega
  · cases h
/-- the strip of the points taken so far -/
structure Strp (P U L : List Vx) (g : Dv) : Prop where
  asc : AscV P
  hu : Hull 1 U P
  hl : Hull (-1) L P
  gd : ∃ t, Gd P g t
def devW (U L : List Vx) (g : Dv) (v : Vx) : Dv := match under 1 U L v with
  | some d => d
  | none => match under (-1) L U v with
    | some d => d
    | none => g
theorem Strp.dev {P U L : List Vx} {g : Dv} {v : Vx} (h : Strp P U L g) (hv : ∀ q ∈ P, q.1 < v.1 ∧ q.2.2 < v.2.2) : ∃ t, Gd (P ++ [v]) (devW U L g v) t := by
  unfold devW
  cases h1 : under 1 U L v with
  | some d => exact ⟨1, under_some (.inl rfl) h.hu h.hl hv h1⟩
  | none =>
    cases h2 : under (-1) L U v with
    | some d => exact ⟨-1, under_some (.inr rfl) h.hl h.hu hv h2⟩
    | none =>
      obtain ⟨t, G⟩ := h.gd
      have n1 := under_none (.inl rfl) h.hu h.hl hv h1 G
      have n2 := under_none (.inr rfl) h.hl h.hu hv h2 G
      have key : val t g.rise g.run g.m ≤ val t g.rise g.run v ∧ val t g.rise g.run v ≤ val t g.rise g.run g.a := by
        constructor
        · by_cases x : val t g.rise g.run g.m ≤ val t g.rise g.run v
          · exact x
          · exfalso
            rcases G.tt with rfl | rfl
            · exact n2 fun p hp => by have := G.lo p hp; unfold val at *; omega
            · exact n1 fun p hp => by have := G.lo p hp; unfold val at *; omega
        · by_cases x : val t g.rise g.run v ≤ val t g.rise g.run g.a
          · exact x
          · exfalso
            rcases G.tt with rfl | rfl
            · exact n1 fun p hp => by have := G.hi p hp; unfold val at *; omega
            · exact n2 fun p hp => by have := G.hi p hp; unfold val at *; omega
      refine ⟨t, G.tt, G.run, G.rx, List.mem_append_left _ G.ma, List.mem_append_left _ G.mm, List.mem_append_left _ G.mz, G.am, G.mz', G.oz, G.ov, fun p hp => ?_, fun p hp => ?_⟩
      · rcases List.mem_append.mp hp with z | z
        · exact G.lo p z
        · rw [List.mem_singleton] at z; subst z; exact key.1
      · rcases List.mem_append.mp hp with z | z
        · exact G.hi p z
        · rw [List.mem_singleton] at z; subst z; exact key.2
theorem Strp.take {P U L : List Vx} {g : Dv} {v : Vx} (h : Strp P U L g) (hv : ∀ q ∈ P, q.1 < v.1 ∧ q.2.2 < v.2.2) : Strp (P ++ [v]) (putb 1 U v) (putb (-1) L v) (devW U L g v) :=
  ⟨List.pairwise_append.mpr ⟨h.asc, List.pairwise_singleton _ _, fun a ha b hb => by rw [List.mem_singleton] at hb; subst hb; exact hv a ha⟩, h.hu.put hv, h.hl.put hv, h.dev hv⟩
theorem Strp.first (v : Vx) : Strp [v] [v] [v] ⟨0, 1, v, v, v⟩ :=
  ⟨List.pairwise_singleton _ _, Hull.first, Hull.first, 1, .inl rfl, by show (0 : Int) < 1; omega, .inr ⟨rfl, rfl, rfl⟩, by simp, by simp, by simp, Int.le_refl _, Int.le_refl _, rfl, by simp, fun p hp => by rw [List.mem_singleton] at hp; subst hp; exact Int.le_refl _, fun p hp => by rw [List.mem_singleton] at hp; subst hp; exact Int.le_refl _⟩
/-! ### the strip's defs, by the mathematics of strips -/
theorem whileN_nx {n : Nat} {c : Te} {body : Sm} {Γ Γ2 : DEnv} {r : Res} (h : c Γ = some true) (hb : body Γ = some (.nx Γ2)) (k : whileN n c body Γ2 = some r) : whileN (n + 1) c body Γ = some r := by
  unfold whileN
  rw [h]
  show ((body Γ).bind _) = _
  rw [hb]
  exact k
theorem whileN_bk {n : Nat} {c : Te} {body : Sm} {Γ Γ2 : DEnv} (h : c Γ = some true) (hb : body Γ = some (.bk Γ2)) : whileN (n + 1) c body Γ = some (.nx Γ2) := by
  unfold whileN
  rw [h]
  show ((body Γ).bind _) = _
  rw [hb]
  rfl
theorem whileN_no {n : Nat} {c : Te} {body : Sm} {Γ : DEnv} (h : c Γ = some false) : whileN (n + 1) c body Γ = some (.nx Γ) := by
  unfold whileN
  rw [h]
  rfl
theorem sv_runK {ms : List Bool} {N : Nat} {B : Sm} {ds : List D} {d : D} (h : B (slM ms ds ++ List.replicate (N - ms.length) .no) = some (.rt d)) : runK ms N B ds = some d := by unfold runK; rw [h]; rfl
abbrev SmV (v : Vx) : Prop := (-(2 ^ 56) < v.1 ∧ v.1 < 2 ^ 56) ∧ -(2 ^ 56) < v.2.1 ∧ v.2.1 < 2 ^ 56
abbrev SmQ (a : Int × Int) : Prop := (-(2 ^ 56) < a.1 ∧ a.1 < 2 ^ 56) ∧ -(2 ^ 56) < a.2 ∧ a.2 < 2 ^ 56
theorem smq {a : Int × Int} (h : SmP a) : SmQ a := ⟨⟨by omega, by omega⟩, by omega, by omega⟩
theorem smv {a : Int × Int} {i : Int} (h : SmP a) : SmV (a.1, a.2, i) := smq h
def encD (g : Dv) : D := .tup [.int g.over, .int g.run, encL g.a, encL g.m, encL g.z]
theorem ixv {c : List Vx} {k : Nat} {i : Int} (h : k < c.length) (e : i = (k : Nat)) : dIx (.lst (c.map encL)) (.int i) = some (encL (vAt c k)) := d_ixC (f := encL) (vAt_get h) e
theorem lenv {c : List Vx} : dLen (.lst (c.map encL)) = some (.int c.length) := by rw [d_lenL, List.length_map]
def kCond : Te := gT (gOp dGt (gV 6) (gI 1))
def kBody : Sm :=
  (sSeq (sUnp (gTg 3 (gTo (gN 7) (gTo (gN 8) (gTo (gN 5) gEnd)))) (gIx (gB 0) (gOp dSub (gV 6) (gI 2))))
  (sSeq (sUnp (gTg 3 (gTo (gN 9) (gTo (gN 10) (gTo (gN 5) gEnd)))) (gIx (gB 0) (gOp dSub (gV 6) (gI 1))))
  (sSeq (sIf (gT (gOp dGt (gOp dMul (gV 2) (gOp dSub (gOp dMul (gOp dSub (gV 10) (gV 8)) (gOp dSub (gV 3) (gV 7))) (gOp dMul (gOp dSub (gV 4) (gV 8)) (gOp dSub (gV 9) (gV 7))))) (gI 0)))
  sBrk
  sNil)
  (sAug dSub 6 (gI 1)))))
theorem kept_loop (t : Int) (ht : -(2 ^ 64) < t ∧ t < 2 ^ 64) (c : List Vx) (v : Vx) (hc : ∀ q ∈ c, SmV q) (hv : SmV v) : ∀ n, n ≤ c.length → ∀ (s5 s7 s8 s9 s10 : Sl), ∃ f Γ', whileN f kCond kBody [.bo (.lst (c.map encL)), .sh (encL v), .sh (.int t), .sh (.int v.1), .sh (.int v.2.1), s5, .sh (.int n), s7, s8, s9, s10] = some (.nx Γ') ∧ Γ'[6]? = some (.sh (.int (keptN t c v n)))
  | 0, _, s5, s7, s8, s9, s10 => ⟨1, _, whileN_no (ev_T (ev_op (ev_V rfl) ev_I rfl)), rfl⟩
  | 1, _, s5, s7, s8, s9, s10 => ⟨1, _, whileN_no (ev_T (ev_op (ev_V rfl) ev_I rfl)), rfl⟩
  | n + 2, hn, s5, s7, s8, s9, s10 => by
    have ca := hc _ (vAt_mem (c := c) (i := n) (by omega))
    have cb := hc _ (vAt_mem (c := c) (i := n + 1) (by omega))
    have h0 : kCond [.bo (.lst (c.map encL)), .sh (encL v), .sh (.int t), .sh (.int v.1), .sh (.int v.2.1), s5, .sh (.int ((n + 2 : Nat) : Int)), s7, s8, s9, s10] = some true := by
      unfold kCond
      refine ev_T ((ev_op (ev_V rfl) ev_I rfl).trans ?_)
      show some (D.bl (decide (((n + 2 : Nat) : Int) > 1))) = _
      rw [decide_eq_true (by omega)]
    have test : gT (gOp dGt (gOp dMul (gV 2) (gOp dSub (gOp dMul (gOp dSub (gV 10) (gV 8)) (gOp dSub (gV 3) (gV 7))) (gOp dMul (gOp dSub (gV 4) (gV 8)) (gOp dSub (gV 9) (gV 7))))) (gI 0)) [.bo (.lst (c.map encL)), .sh (encL v), .sh (.int t), .sh (.int v.1), .sh (.int v.2.1), .sh (.int (vAt c (n + 1)).2.2), .sh (.int ((n + 2 : Nat) : Int)), .sh (.int (vAt c n).1), .sh (.int (vAt c n).2.1), .sh (.int (vAt c (n + 1)).1), .sh (.int (vAt c (n + 1)).2.1)]
        = some (decide (0 < cr t (vAt c n) (vAt c (n + 1)) v)) :=
      ev_T (ev_op (ev_op (ev_V rfl) (ev_op (ev_op (ev_op (ev_V rfl) (ev_V rfl) d_sub) (ev_op (ev_V rfl) (ev_V rfl) d_sub) (d_mul (mulOk_l (by omega) (by omega)))) (ev_op (ev_op (ev_V rfl) (ev_V rfl) d_sub) (ev_op (ev_V rfl) (ev_V rfl) d_sub) (d_mul (mulOk_l (by omega) (by omega)))) d_sub) (d_mul (mulOk_l ht.1 ht.2))) ev_I rfl)
    have pre : ∀ r, (sSeq (sIf (gT (gOp dGt (gOp dMul (gV 2) (gOp dSub (gOp dMul (gOp dSub (gV 10) (gV 8)) (gOp dSub (gV 3) (gV 7))) (gOp dMul (gOp dSub (gV 4) (gV 8)) (gOp dSub (gV 9) (gV 7))))) (gI 0)))
        sBrk
        sNil)
        (sAug dSub 6 (gI 1))) [.bo (.lst (c.map encL)), .sh (encL v), .sh (.int t), .sh (.int v.1), .sh (.int v.2.1), .sh (.int (vAt c (n + 1)).2.2), .sh (.int ((n + 2 : Nat) : Int)), .sh (.int (vAt c n).1), .sh (.int (vAt c n).2.1), .sh (.int (vAt c (n + 1)).1), .sh (.int (vAt c (n + 1)).2.1)] = r →
        kBody [.bo (.lst (c.map encL)), .sh (encL v), .sh (.int t), .sh (.int v.1), .sh (.int v.2.1), s5, .sh (.int ((n + 2 : Nat) : Int)), s7, s8, s9, s10] = r := fun r h => by
      unfold kBody
      refine sq_unp (d := encL (vAt c n)) (ev_op (ev_Bb rfl) (ev_op (ev_V rfl) ev_I d_sub) (ixv (by omega) (by omega))) rfl ?_
      exact sq_unp (d := encL (vAt c (n + 1))) (ev_op (ev_Bb rfl) (ev_op (ev_V rfl) ev_I d_sub) (ixv (by omega) (by omega))) rfl h
    by_cases h : 0 < cr t (vAt c n) (vAt c (n + 1)) v
    · refine ⟨1, _, whileN_bk h0 (pre _ (sv_bk (sv_ifT (test.trans (by rw [decide_eq_true h])) rfl))), ?_⟩
      unfold keptN
      rw [if_pos h]
      rfl
    · obtain ⟨f, Γ', e1, e2⟩ := kept_loop t ht c v hc hv (n + 1) (by omega) (.sh (.int (vAt c (n + 1)).2.2)) (.sh (.int (vAt c n).1)) (.sh (.int (vAt c n).2.1)) (.sh (.int (vAt c (n + 1)).1)) (.sh (.int (vAt c (n + 1)).2.1))
      refine ⟨f + 1, Γ', whileN_nx h0 (pre _ (sv_nx (sv_ifF (test.trans (by rw [decide_eq_false h])) rfl) (sv_aug rfl ev_I (d_sub.trans ?_)))) e1, ?_⟩
      · congr 2; omega
      · unfold keptN
        rw [if_neg h]
        exact e2
theorem kept_eq (t : Int) (ht : -(2 ^ 64) < t ∧ t < 2 ^ 64) (c : List Vx) (v : Vx) (hc : ∀ q ∈ c, SmV q) (hv : SmV v) : S_kept [.lst (c.map encL), encL v, .int t] = some (.int (keptN t c v c.length)) := by
  obtain ⟨f, Γ', e1, e2⟩ := kept_loop t ht c v hc hv c.length (Nat.le_refl _) (.sh (.int v.2.2)) .no .no .no .no
  refine sv_runK ?_
  unfold B_kept
  refine sq_unp (d := encL v) (ev_V rfl) rfl ?_
  refine sq_set (ev_U (ev_Bb rfl) lenv) ?_
  exact sv_nx (sWhile_of e1) (sv_ret (ev_V e2))

def fCond : Te := gT (gOp dLt (gV 3) (gV 4))
def fBody : Sm :=
  (sSeq (sSet 5 (gOp dDiv (gOp dAdd (gV 3) (gV 4)) (gI 2)))
  (sSeq (sUnp (gTg 3 (gTo (gN 6) (gTo (gN 7) (gTo (gN 8) gEnd)))) (gIx (gB 0) (gV 5)))
  (sSeq (sUnp (gTg 3 (gTo (gN 9) (gTo (gN 10) (gTo (gN 8) gEnd)))) (gIx (gB 0) (gOp dAdd (gV 5) (gI 1))))
  (sIf (gT (gOp dGt (gOp dMul (gV 1) (gOp dSub (gV 9) (gV 6))) (gOp dMul (gV 2) (gOp dSub (gV 10) (gV 7)))))
  (sSet 3 (gOp dAdd (gV 5) (gI 1)))
  (sSet 4 (gV 5))))))
theorem far_loop (rise run : Int) (c : List Vx) (hc : ∀ q ∈ c, SmV q) : ∀ f (a b : Nat), b - a ≤ f → b < c.length → ∀ (s5 s6 s7 s8 s9 s10 : Sl), ∃ n Γ', whileN n fCond fBody [.bo (.lst (c.map encL)), .sh (.int rise), .sh (.int run), .sh (.int a), .sh (.int b), s5, s6, s7, s8, s9, s10] = some (.nx Γ') ∧ Γ'[0]? = some (.bo (.lst (c.map encL))) ∧ Γ'[3]? = some (.sh (.int (farN (farG rise run c) f a b))) ∧ farN (farG rise run c) f a b < c.length ∨ ¬ a ≤ b
  | 0, a, b, h, hb, s5, s6, s7, s8, s9, s10 => by
    by_cases hab : a ≤ b
    · have : a = b := by omega
      subst this
      refine ⟨1, _, .inl ⟨whileN_no (ev_T ((ev_op (ev_V rfl) (ev_V rfl) rfl).trans ?_)), rfl, rfl, hb⟩⟩
      show some (D.bl (decide ((a : Int) < a))) = _
      rw [decide_eq_false (by omega)]
    · exact ⟨0, [], .inr hab⟩
  | f + 1, a, b, h, hb, s5, s6, s7, s8, s9, s10 => by
    by_cases hab : a ≤ b
    rotate_left
    · exact ⟨0, [], .inr hab⟩
    by_cases hlt : a < b
    rotate_left
    · refine ⟨1, _, .inl ⟨whileN_no (ev_T ((ev_op (ev_V rfl) (ev_V rfl) rfl).trans ?_)), rfl, ?_, ?_⟩⟩
      · show some (D.bl (decide ((a : Int) < b))) = _
        rw [decide_eq_false (by omega)]
      · unfold farN; rw [if_neg hlt]; rfl
      · unfold farN; rw [if_neg hlt]; omega
    have h0 : fCond [.bo (.lst (c.map encL)), .sh (.int rise), .sh (.int run), .sh (.int a), .sh (.int b), s5, s6, s7, s8, s9, s10] = some true := by
      unfold fCond
      refine ev_T ((ev_op (ev_V rfl) (ev_V rfl) rfl).trans ?_)
      show some (D.bl (decide ((a : Int) < b))) = _
      rw [decide_eq_true (by omega)]
    have em : ((a : Int) + b) / 2 = (((a + b) / 2 : Nat) : Int) := by omega
    have hm : (a + b) / 2 + 1 < c.length := by omega
    have ca := hc _ (vAt_mem (c := c) (i := (a + b) / 2) (by omega))
    have cb := hc _ (vAt_mem (c := c) (i := (a + b) / 2 + 1) hm)
    generalize hM : (a + b) / 2 = M at *
    have test : gT (gOp dGt (gOp dMul (gV 1) (gOp dSub (gV 9) (gV 6))) (gOp dMul (gV 2) (gOp dSub (gV 10) (gV 7)))) [.bo (.lst (c.map encL)), .sh (.int rise), .sh (.int run), .sh (.int a), .sh (.int b), .sh (.int M), .sh (.int (vAt c M).1), .sh (.int (vAt c M).2.1), .sh (.int (vAt c (M + 1)).2.2), .sh (.int (vAt c (M + 1)).1), .sh (.int (vAt c (M + 1)).2.1)]
        = some (farG rise run c M) :=
      ev_T (ev_op (ev_op (ev_V rfl) (ev_op (ev_V rfl) (ev_V rfl) d_sub) (d_mul (mulOk_r (by omega) (by omega)))) (ev_op (ev_V rfl) (ev_op (ev_V rfl) (ev_V rfl) d_sub) (d_mul (mulOk_r (by omega) (by omega)))) rfl)
    have pre : ∀ r, (sIf (gT (gOp dGt (gOp dMul (gV 1) (gOp dSub (gV 9) (gV 6))) (gOp dMul (gV 2) (gOp dSub (gV 10) (gV 7)))))
        (sSet 3 (gOp dAdd (gV 5) (gI 1)))
        (sSet 4 (gV 5))) [.bo (.lst (c.map encL)), .sh (.int rise), .sh (.int run), .sh (.int a), .sh (.int b), .sh (.int M), .sh (.int (vAt c M).1), .sh (.int (vAt c M).2.1), .sh (.int (vAt c (M + 1)).2.2), .sh (.int (vAt c (M + 1)).1), .sh (.int (vAt c (M + 1)).2.1)] = r →
        fBody [.bo (.lst (c.map encL)), .sh (.int rise), .sh (.int run), .sh (.int a), .sh (.int b), s5, s6, s7, s8, s9, s10] = r := fun r h => by
      unfold fBody
      refine sq_set (d := .int M) (ev_op (ev_op (ev_V rfl) (ev_V rfl) d_add) ev_I ((d_div (by decide) (by decide)).trans (by rw [em]))) ?_
      refine sq_unp (d := encL (vAt c M)) (ev_op (ev_Bb rfl) (ev_V rfl) (ixv (by omega) rfl)) rfl ?_
      exact sq_unp (d := encL (vAt c (M + 1))) (ev_op (ev_Bb rfl) (ev_op (ev_V rfl) ev_I d_add) (ixv hm (by omega))) rfl h
    cases hg : farG rise run c M with
    | true =>
      rw [hg] at test
      obtain ⟨n, Γ', e⟩ := far_loop rise run c hc f (M + 1) b (by omega) hb (.sh (.int M)) (.sh (.int (vAt c M).1)) (.sh (.int (vAt c M).2.1)) (.sh (.int (vAt c (M + 1)).2.2)) (.sh (.int (vAt c (M + 1)).1)) (.sh (.int (vAt c (M + 1)).2.1))
      rcases e with ⟨e1, e2, e3, e4⟩ | e
      · refine ⟨n + 1, Γ', .inl ⟨whileN_nx h0 (pre _ (sv_ifT test (sv_set (d := .int ((M + 1 : Nat) : Int)) (ev_op (ev_V rfl) ev_I d_add)))) e1, e2, ?_, ?_⟩⟩
        · unfold farN; rw [if_pos hlt, hM, hg]; exact e3
        · unfold farN; rw [if_pos hlt, hM, hg]; exact e4
      · omega
    | false =>
      rw [hg] at test
      obtain ⟨n, Γ', e⟩ := far_loop rise run c hc f a M (by omega) (by omega) (.sh (.int M)) (.sh (.int (vAt c M).1)) (.sh (.int (vAt c M).2.1)) (.sh (.int (vAt c (M + 1)).2.2)) (.sh (.int (vAt c (M + 1)).1)) (.sh (.int (vAt c (M + 1)).2.1))
      rcases e with ⟨e1, e2, e3, e4⟩ | e
      · refine ⟨n + 1, Γ', .inl ⟨whileN_nx h0 (pre _ (sv_ifF test (sv_set (ev_V rfl)))) e1, e2, ?_, ?_⟩⟩
        · unfold farN; rw [if_pos hlt, hM, hg]; exact e3
        · unfold farN; rw [if_pos hlt, hM, hg]; exact e4
      · omega
theorem far_eq (rise run : Int) (c : List Vx) (hc : ∀ q ∈ c, SmV q) (hn : c ≠ []) : S_farthest [.lst (c.map encL), .int rise, .int run] = some (encL (vAt c (farI rise run c))) := by
  have cl : 0 < c.length := List.length_pos_iff.mpr hn
  obtain ⟨n, Γ', e⟩ := far_loop rise run c hc c.length 0 (c.length - 1) (by omega) (by omega) .no .no .no .no .no .no
  rcases e with ⟨e1, e2, e3, e4⟩ | e
  · refine sv_runK ?_
    unfold B_farthest
    refine sq_par (ds := [.int 0, .int ((c.length - 1 : Nat) : Int)]) (ev_cs ev_I (ev_cs (ev_op (ev_U (ev_Bb rfl) lenv) ev_I (d_sub.trans ?_)) ev_nl)) ?_
    · congr 2; omega
    · exact sv_nx (sWhile_of e1) (sv_ret (ev_op (ev_Bb e2) (ev_V e3) (ixv e4 rfl)))
  · omega
theorem keptN_nil (t : Int) (v : Vx) : putb t [] v = [v] := rfl
theorem under_eq (t : Int) (ht : -(2 ^ 13) < t ∧ t < 2 ^ 13) (c o : List Vx) (v : Vx) (hc : ∀ q ∈ c, SmV q) (ho : ∀ q ∈ o, SmV q) (hv : SmV v) (nc : c ≠ []) (no : o ≠ []) (hfar : farI (t * (v.2.1 - (vAt c (keptN t c v c.length - 1)).2.1)) (t * (v.1 - (vAt c (keptN t c v c.length - 1)).1)) o < o.length) :
    S_deviation_under [encL (vAt c (keptN t c v c.length - 1)), encL v, .lst (o.map encL), .int t] = some (match under t c o v with | none => .non | some g => encD g) := by
  have kle := keptN_le t c v c.length
  have cl : 0 < c.length := List.length_pos_iff.mpr nc
  have kp := keptN_pos t c v c.length cl
  have hf := far_eq (t * (v.2.1 - (vAt c (keptN t c v c.length - 1)).2.1)) (t * (v.1 - (vAt c (keptN t c v c.length - 1)).1)) o ho no
  have ha := hc _ (vAt_mem (c := c) (i := keptN t c v c.length - 1) (by omega))
  have hm := ho _ (vAt_mem hfar)
  unfold under
  simp only
  generalize vAt c (keptN t c v c.length - 1) = a at *
  generalize vAt o (farI (t * (v.2.1 - a.2.1)) (t * (v.1 - a.1)) o) = m at *
  have i0 : ∀ a : Vx, dIx (encL a) (.int 0) = some (.int a.1) := fun _ => rfl
  have i1 : ∀ a : Vx, dIx (encL a) (.int 1) = some (.int a.2.1) := fun _ => rfl
  refine run_WKeq ?_
  unfold B_deviation_under
  show W _ [.sh (encL a), .sh (encL v), .bo (.lst (o.map encL)), .sh (.int t), .no, .no, .no, .no] _
  refine wq_set (ev_op (ev_op (ev_B rfl) ev_I (i0 _)) (ev_op (ev_B rfl) ev_I (i0 _)) d_sub) ?_
  walk_at "ev norm"
  refine wq_set (ev_op (ev_op (ev_B rfl) ev_I (i1 _)) (ev_op (ev_B rfl) ev_I (i1 _)) d_sub) ?_
  walk_at "ev norm"
  refine wq_set (ev_call (ev_cs (ev_Bb rfl) (ev_cs (ev_op (ev_V rfl) (ev_V rfl) (d_mul (mulOk_l (by omega) (by omega)))) (ev_cs (ev_op (ev_V rfl) (ev_V rfl) (d_mul (mulOk_l (by omega) (by omega)))) ev_nl))) hf) ?_
  walk_at "ev norm"
  refine wq_ifR (ev_T (ev_op (ev_op (ev_B rfl) ev_I (i0 _)) (ev_op (ev_B rfl) ev_I (i0 _)) rfl)) (fun h => ⟨_, ev_C, ?_⟩) (fun h => ?_)
  · rw [if_pos (by simpa using h)]
    rfl
  have h : ¬ m.1 < a.1 := by simpa using h
  rw [if_neg h]
  refine wq_set (ev_op (ev_V rfl) (ev_op (ev_op (ev_V rfl) (ev_op (ev_op (ev_B rfl) ev_I (i1 _)) (ev_op (ev_B rfl) ev_I (i1 _)) d_sub) (d_mul (mulOk_l (by omega) (by omega)))) (ev_op (ev_V rfl) (ev_op (ev_op (ev_B rfl) ev_I (i0 _)) (ev_op (ev_B rfl) ev_I (i0 _)) d_sub) (d_mul (mulOk_l (by omega) (by omega)))) d_add) (d_mul (mulOk_l (by omega) (by omega)))) ?_
  walk_at "ev norm"
  exact W_ret (ev_tu (ev_cs (ev_V rfl) (ev_cs (ev_V rfl) (ev_cs (ev_V rfl) (ev_cs (ev_V rfl) (ev_cs (ev_V rfl) ev_nl)))))) rfl
/-- the object, as it is looked at and as one's own -/
def stD (U L : List Vx) (g : D) : D := .obj 4 [.lst (U.map encL), .lst (L.map encL), g]
def stS (U L : List Vx) (g : D) : Sl := .ob 4 [.ow (U.map encL), .ow (L.map encL), .sh g]
/-- the state after the points P: with none, nothing; else the strip -/
def StOk (P U L : List Vx) (g : D) : Prop := (P = [] ∧ U = [] ∧ L = [] ∧ g = .non) ∨ ∃ d, g = encD d ∧ Strp P U L d
def stepT (U L : List Vx) (v : Vx) (d : D) : D := .tup [d, .int (keptN 1 U v U.length : Nat), .int (keptN (-1) L v L.length : Nat)]
theorem dev_eq {P U L : List Vx} {g : D} {v : Vx} (h : StOk P U L g) (hP : ∀ q ∈ P, SmV q) (hv : SmV v) (lt : ∀ q ∈ P, q.1 < v.1 ∧ q.2.2 < v.2.2) :
    ∃ d : Dv, S_Strip_step_with [stD U L g, encL v] = some (stepT U L v (encD d)) ∧ StOk (P ++ [v]) (putb 1 U v) (putb (-1) L v) (encD d) ∧ (∃ t, Gd (P ++ [v]) d t) ∧ AscV (P ++ [v]) := by
  rcases h with ⟨rfl, rfl, rfl, rfl⟩ | ⟨g, rfl, h⟩
  · have F := Strp.first v
    refine ⟨⟨0, 1, v, v, v⟩, ?_, .inr ⟨_, rfl, F⟩, F.gd, F.asc⟩
    refine run_WKeq ?_
    unfold B_Strip_step_with
    exact wq_ifR (b := true) (ev_not (b := false) (ev_Tru (x := .lst []) (ev_U (ev_Bb rfl) rfl) rfl)) (fun _ => ⟨_, ev_tu (ev_cs (ev_tu (ev_cs ev_I (ev_cs ev_I (ev_cs (ev_V rfl) (ev_cs (ev_V rfl) (ev_cs (ev_V rfl) ev_nl)))))) (ev_cs ev_I (ev_cs ev_I ev_nl))), rfl⟩) (fun z => by cases z)
  · have T := h.take lt
    refine ⟨devW U L g v, ?_, .inr ⟨_, rfl, T⟩, T.gd, T.asc⟩
    have hU : ∀ q ∈ U, SmV q := fun q hq => hP q (h.hu.sub q hq)
    have hL : ∀ q ∈ L, SmV q := fun q hq => hP q (h.hl.sub q hq)
    have t1 := h.hu.tangent lt rfl
    have t2 := h.hl.tangent lt rfl
    have f1 := (h.hl.far (t := 1) (rise := v.2.1 - (vAt U (keptN 1 U v U.length - 1)).2.1) (run := v.1 - (vAt U (keptN 1 U v U.length - 1)).1) (by omega)).1
    have f2 := (Hull.far (t := -1) (c := U) (P := P) (by rw [Int.neg_neg]; exact h.hu) (rise := v.2.1 - (vAt L (keptN (-1) L v L.length - 1)).2.1) (run := v.1 - (vAt L (keptN (-1) L v L.length - 1)).1) (by omega)).1
    have u1 := under_eq 1 (by omega) U L v hU hL hv h.hu.ne h.hl.ne f1
    have u2 := under_eq (-1) (by omega) L U v hL hU hv h.hl.ne h.hu.ne f2
    have k1 := kept_eq 1 (by omega) U v hU hv
    have k2 := kept_eq (-1) (by omega) L v hL hv
    have kl1 := keptN_le 1 U v U.length
    have kl2 := keptN_le (-1) L v L.length
    have kp1 := keptN_pos 1 U v U.length (List.length_pos_iff.mpr h.hu.ne)
    have kp2 := keptN_pos (-1) L v L.length (List.length_pos_iff.mpr h.hl.ne)
    have ne : (!(U.map encL).isEmpty) = true := by
      have := h.hu.ne
      cases U with
      | nil => exact absurd rfl this
      | cons => rfl
    have f0 : dFld 4 0 (stD U L (encD g)) = some (.lst (U.map encL)) := rfl
    have f1' : dFld 4 1 (stD U L (encD g)) = some (.lst (L.map encL)) := rfl
    have f2' : dFld 4 2 (stD U L (encD g)) = some (encD g) := rfl
    have fi : dIsN (encD (devW U L g v)) .non = some (.bl false) := rfl
    refine run_WKeq ?_
    unfold B_Strip_step_with
    show W _ [.bo (stD U L (encD g)), .sh (encL v), .no, .no, .no] _
    generalize stD U L (encD g) = sd at *
    refine wq_ifN (b := !true) (ev_not (ev_Tru (x := .lst (U.map encL)) (ev_U (ev_Bb rfl) f0) (by show some (!(U.map encL).isEmpty) = _; rw [ne]))) rfl ?_
    refine wq_set (ev_call (ev_cs (ev_U (ev_Bb rfl) f0) (ev_cs (ev_V rfl) (ev_cs ev_I ev_nl))) k1) ?_
    walk_at "ev norm"
    refine wq_set (ev_call (ev_cs (ev_U (ev_Bb rfl) f1') (ev_cs (ev_V rfl) (ev_cs (ev_U ev_I rfl) ev_nl))) k2) ?_
    walk_at "ev norm"
    refine wq_set (ev_call (ev_cs (ev_op (ev_U (ev_Bb rfl) f0) (ev_op (ev_V rfl) ev_I d_sub) (ixv (k := keptN 1 U v U.length - 1) (by omega) (by omega))) (ev_cs (ev_V rfl) (ev_cs (ev_U (ev_Bb rfl) f1') (ev_cs ev_I ev_nl)))) u1) ?_
    walk_at "ev norm"
    unfold devW
    cases h1 : under 1 U L v with
    | some d =>
      refine wq_ifN (b := false) (ev_T (ev_op (ev_B rfl) ev_C rfl)) rfl ?_
      refine wq_ifN (b := false) (ev_T (ev_op (ev_B rfl) ev_C rfl)) rfl ?_
      exact W_ret (ev_tu (ev_cs (ev_V rfl) (ev_cs (ev_V rfl) (ev_cs (ev_V rfl) ev_nl)))) rfl
    | none =>
      refine wq_if (b := true) (ev_T (ev_op (ev_B rfl) ev_C rfl)) (fun _ => W_set (ev_call (ev_cs (ev_op (ev_U (ev_Bb rfl) f1') (ev_op (ev_V rfl) ev_I d_sub) (ixv (k := keptN (-1) L v L.length - 1) (by omega) (by omega))) (ev_cs (ev_V rfl) (ev_cs (ev_U (ev_Bb rfl) f0) (ev_cs (ev_U ev_I rfl) ev_nl)))) u2) ?_) (fun z => by cases z)
      show W _ _ _
      walk_at "ev norm"
      cases h2 : under (-1) L U v with
      | some d =>
        refine wq_ifN (b := false) (ev_T (ev_op (ev_B rfl) ev_C rfl)) rfl ?_
        exact W_ret (ev_tu (ev_cs (ev_V rfl) (ev_cs (ev_V rfl) (ev_cs (ev_V rfl) ev_nl)))) rfl
      | none =>
        have e : gIm (gU (dFld 4 2) (gB 0)) [.bo sd, .sh (encL v), .sh (.int (keptN 1 U v U.length : Nat)), .sh (.int (keptN (-1) L v L.length : Nat)), .sh .non] = some (encD g) := by
          have e : gU (dFld 4 2) (gB 0) [.bo sd, .sh (encL v), .sh (.int (keptN 1 U v U.length : Nat)), .sh (.int (keptN (-1) L v L.length : Nat)), .sh .non] = some (encD g) := ev_U (ev_Bb rfl) f2'
          show ((gU (dFld 4 2) (gB 0) [.bo sd, .sh (encL v), .sh (.int (keptN 1 U v U.length : Nat)), .sh (.int (keptN (-1) L v L.length : Nat)), .sh .non]).bind _) = _
          rw [e]
          rfl
        refine wq_if (b := true) (ev_T (ev_op (ev_B rfl) ev_C rfl)) (fun _ => W_set e ?_) (fun z => by cases z)
        show W _ _ _
        walk_at "ev norm"
        exact W_ret (ev_tu (ev_cs (ev_V rfl) (ev_cs (ev_V rfl) (ev_cs (ev_V rfl) ev_nl)))) rfl
theorem putb_le (t : Int) (c : List Vx) (v : Vx) : (putb t c v).length ≤ c.length + 1 := by
  rw [putb_len]
  have := keptN_le t c v c.length
  omega
theorem sv_delF {Γ : DEnv} {i : Nat} {rp : Pth} {f : Ex} {xs : List D} {k : Nat} (h : gP i rp Γ = some (.ow xs)) (hf : f Γ = some (.int (k : Nat))) (hk : k ≤ xs.length) : sDelF i rp f Γ = upP i rp (.ow (xs.take k)) Γ := by
  unfold sDelF
  rw [h]
  show ((f Γ).bind _) = _
  rw [hf]
  show (if 0 ≤ ((k : Nat) : Int) ∧ ((k : Nat) : Int).toNat ≤ xs.length then upP i rp (.ow (xs.take ((k : Nat) : Int).toNat)) Γ else none) = _
  rw [if_pos ⟨by omega, by omega⟩, Int.toNat_natCast]
theorem sv_appP {Γ : DEnv} {i : Nat} {rp : Pth} {f : Ex} {xs : List D} {d : D} (h : gP i rp Γ = some (.ow xs)) (hf : f Γ = some d) (hk : xs.length < 1000000) : sApp i rp f Γ = upP i rp (.ow (xs ++ [d])) Γ := by
  unfold sApp
  rw [hf]
  show (match gP i rp Γ with
    | some (.ow xs) => if xs.length < 1000000 then upP i rp (.ow (xs ++ [d])) Γ else none
    | _ => none) = _
  rw [h]
  show (if xs.length < 1000000 then upP i rp (.ow (xs ++ [d])) Γ else none) = _
  rw [if_pos hk]
theorem take_eq {U L : List Vx} {g d : D} {v : Vx} (l1 : U.length < 100000) (l2 : L.length < 100000) :
    S_Strip_take (stS U L g) [encL v, stepT U L v d] = some (.non, stS (putb 1 U v) (putb (-1) L v) d) := by
  have kl1 := keptN_le 1 U v U.length
  have kl2 := keptN_le (-1) L v L.length
  unfold putb stepT
  generalize keptN 1 U v U.length = a at *
  generalize keptN (-1) L v L.length = b at *
  have h0 : sUnpF 0 [] 4 2 3 (gTo (gN 3) (gTo (gN 4) gEnd)) (gV 2) [stS U L g, .sh (encL v), .sh (.tup [d, .int a, .int b]), .no, .no] = some (.nx [stS U L d, .sh (encL v), .sh (.tup [d, .int a, .int b]), .sh (.int a), .sh (.int b)]) := rfl
  have h1 : sDelF 0 [(4, 0)] (gV 3) [stS U L d, .sh (encL v), .sh (.tup [d, .int a, .int b]), .sh (.int a), .sh (.int b)] = some (.nx [stS (U.take a) L d, .sh (encL v), .sh (.tup [d, .int a, .int b]), .sh (.int a), .sh (.int b)]) := by
    refine (sv_delF (xs := U.map encL) (k := a) rfl (ev_V rfl) (by rw [List.length_map]; exact kl1)).trans ?_
    rw [← List.map_take]
    rfl
  have h2 : sApp 0 [(4, 0)] (gV 1) [stS (U.take a) L d, .sh (encL v), .sh (.tup [d, .int a, .int b]), .sh (.int a), .sh (.int b)] = some (.nx [stS (U.take a ++ [v]) L d, .sh (encL v), .sh (.tup [d, .int a, .int b]), .sh (.int a), .sh (.int b)]) := by
    refine (sv_appP (xs := (U.take a).map encL) rfl (ev_V rfl) (by rw [List.length_map, List.length_take]; omega)).trans ?_
    have e : (U.take a).map encL ++ [encL v] = (U.take a ++ [v]).map encL := by rw [List.map_append]; rfl
    rw [e]
    rfl
  have h3 : sDelF 0 [(4, 1)] (gV 4) [stS (U.take a ++ [v]) L d, .sh (encL v), .sh (.tup [d, .int a, .int b]), .sh (.int a), .sh (.int b)] = some (.nx [stS (U.take a ++ [v]) (L.take b) d, .sh (encL v), .sh (.tup [d, .int a, .int b]), .sh (.int a), .sh (.int b)]) := by
    refine (sv_delF (xs := L.map encL) (k := b) rfl (ev_V rfl) (by rw [List.length_map]; exact kl2)).trans ?_
    rw [← List.map_take]
    rfl
  have h4 : sApp 0 [(4, 1)] (gV 1) [stS (U.take a ++ [v]) (L.take b) d, .sh (encL v), .sh (.tup [d, .int a, .int b]), .sh (.int a), .sh (.int b)] = some (.nx [stS (U.take a ++ [v]) (L.take b ++ [v]) d, .sh (encL v), .sh (.tup [d, .int a, .int b]), .sh (.int a), .sh (.int b)]) := by
    refine (sv_appP (xs := (L.take b).map encL) rfl (ev_V rfl) (by rw [List.length_map, List.length_take]; omega)).trans ?_
    have e : (L.take b).map encL ++ [encL v] = (L.take b ++ [v]).map encL := by rw [List.map_append]; rfl
    rw [e]
    rfl
  have hB : B_Strip_take [stS U L g, .sh (encL v), .sh (.tup [d, .int a, .int b]), .no, .no] = some (.nx [stS (U.take a ++ [v]) (L.take b ++ [v]) d, .sh (encL v), .sh (.tup [d, .int a, .int b]), .sh (.int a), .sh (.int b)]) := sv_nx h0 (sv_nx h1 (sv_nx h2 (sv_nx h3 h4)))
  show (B_Strip_take [stS U L g, .sh (encL v), .sh (.tup [d, .int a, .int b]), .no, .no]).bind _ = _
  rw [hB]
  rfl
theorem sv_rm {F F' : Sm} {Γ : DEnv} {d : D} {s : Sl} (h : F Γ = some (.rm d s)) : sSeq F F' Γ = some (.rm d s) := by unfold sSeq; rw [h]; rfl
/-! ### the strip's line, and which points fit -/
theorem gg_dvd (p q d : Int) : gg p q d ∣ p ∧ gg p q d ∣ q ∧ gg p q d ∣ d := by
  unfold gg
  rw [Int.natAbs_natCast]
  have h1 : Nat.gcd (Nat.gcd p.natAbs q.natAbs) d.natAbs ∣ Nat.gcd p.natAbs q.natAbs := Nat.gcd_dvd_left _ _
  have h2 : Nat.gcd (Nat.gcd p.natAbs q.natAbs) d.natAbs ∣ d.natAbs := Nat.gcd_dvd_right _ _
  exact ⟨Int.ofNat_dvd_left.mpr (Nat.dvd_trans h1 (Nat.gcd_dvd_left _ _)), Int.ofNat_dvd_left.mpr (Nat.dvd_trans h1 (Nat.gcd_dvd_right _ _)), Int.ofNat_dvd_left.mpr h2⟩
theorem red_ex (p q d : Int) (h0 : 0 < d) (hd : d < 2 ^ 64) : ∃ k p' q' d', 0 < k ∧ p = k * p' ∧ q = k * q' ∧ d = k * d' ∧ 0 < d' ∧ S_reduced [encL (p, q, d)] = some (encL (p', q', d')) := by
  have g0 : 0 < gg p q d := by
    unfold gg
    have : 0 < Nat.gcd ((Nat.gcd p.natAbs q.natAbs : Nat) : Int).natAbs d.natAbs := Nat.gcd_pos_of_pos_right _ (by omega)
    omega
  obtain ⟨⟨p', hp⟩, ⟨q', hq⟩, ⟨d', hdd⟩⟩ := gg_dvd p q d
  have h := red_eq p q d h0 hd
  generalize gg p q d = g at *
  have e1 : p / g = p' := by rw [hp]; exact Int.mul_ediv_cancel_left _ (by omega)
  have e2 : q / g = q' := by rw [hq]; exact Int.mul_ediv_cancel_left _ (by omega)
  have e3 : d / g = d' := by rw [hdd]; exact Int.mul_ediv_cancel_left _ (by omega)
  rw [e1, e2, e3] at h
  exact ⟨g, p', q', d', g0, hp, hq, hdd, Int.pos_of_mul_pos_right (by rw [← hdd]; exact h0) g0, h⟩
def nearV (l : Int × Int × Int) (x y e : Int) : Prop := -(e * l.2.2) ≤ l.1 * x + l.2.1 - y * l.2.2 ∧ l.1 * x + l.2.1 - y * l.2.2 ≤ e * l.2.2
theorem Gd.bounds {P : List Vx} {g : Dv} {t : Int} (h : Gd P g t) (hP : ∀ q ∈ P, SmV q) : 0 < g.run ∧ g.run < 2 ^ 57 ∧ -(2 ^ 57) < g.rise ∧ g.rise < 2 ^ 57 := by
  have ha := hP _ h.ma
  have hz := hP _ h.mz
  refine ⟨h.run, ?_, ?_⟩
  · rcases h.rx with e | e <;> omega
  · unfold Dv.rise; omega
theorem exceeds_eq {g : Dv} {e : Int} (he : -(2 ^ 60) < e ∧ e < 2 ^ 60) : S_exceeds [encD g, .int e] = some (.bl (decide (2 * e * g.run < g.over))) := by
  refine sv_run ?_
  unfold B_exceeds
  exact sv_ret (ev_op (x := .int g.over) (ev_op (ev_B rfl) ev_I rfl) (ev_op (y := .int g.run) (ev_op ev_I (ev_V rfl) (d_mul (mulOk_l (by omega) (by omega)))) (ev_op (ev_B rfl) ev_I rfl) (d_mul (mulOk_l (by omega) (by omega)))) rfl)
theorem midl_eq {P : List Vx} {g : Dv} {t : Int} (h : Gd P g t) (hP : ∀ q ∈ P, SmV q) : S_middle_line [encD g] = S_reduced [encL (midL g)] := by
  obtain ⟨r0, r1, r2, r3⟩ := h.bounds hP
  have ha := hP _ h.ma
  have hm := hP _ h.mm
  have hz := hP _ h.mz
  obtain ⟨k, p', q', d', k0, e1, e2, e3, d0, hr⟩ := red_ex (midL g).1 (midL g).2.1 (midL g).2.2 (by show 0 < 2 * g.run; omega) (by show 2 * g.run < 2 ^ 64; omega)
  rw [show ((midL g).1, (midL g).2.1, (midL g).2.2) = midL g from rfl] at hr
  rw [hr]
  refine sv_run ?_
  unfold B_middle_line
  refine sq_set (d := .int g.run) (ev_op (ev_B rfl) ev_I rfl) ?_
  refine sq_unp (d := encL g.a) (ev_op (ev_B rfl) ev_I rfl) rfl ?_
  refine sq_unp (d := encL g.m) (ev_op (ev_B rfl) ev_I rfl) rfl ?_
  refine sq_set (d := .int g.rise) (ev_op (x := .int g.z.2.1) (ev_op (x := encL g.z) (ev_op (ev_B rfl) ev_I rfl) ev_I rfl) (ev_V rfl) d_sub) ?_
  refine sq_set (d := .int (g.run * (g.a.2.1 - g.m.2.1) + g.rise * (g.m.1 - g.a.1))) (ev_op (ev_op (ev_V rfl) (ev_op (ev_V rfl) (ev_V rfl) d_sub) (d_mul (mulOk_l (by omega) (by omega)))) (ev_op (ev_V rfl) (ev_op (ev_V rfl) (ev_V rfl) d_sub) (d_mul (mulOk_l (by omega) (by omega)))) d_add) ?_
  exact sv_ret (ev_call (ds := [encL (midL g)]) (ev_cs (ev_tu (ev_cs (ev_op ev_I (ev_V rfl) (d_mul (mulOk_l (by omega) (by omega)))) (ev_cs (ev_op (ev_op ev_I (ev_op (ev_op (ev_V rfl) (ev_V rfl) (d_mul (mulOk_l (by omega) (by omega)))) (ev_op (ev_V rfl) (ev_V rfl) (d_mul (mulOk_l (by omega) (by omega)))) d_sub) (d_mul (mulOk_l (by omega) (by omega)))) (ev_V rfl) d_sub) (ev_cs (ev_op ev_I (ev_V rfl) (d_mul (mulOk_l (by omega) (by omega)))) ev_nl)))) ev_nl) hr)
/-- what line() gives -/
theorem line_ex {P : List Vx} {g : Dv} {t : Int} (h : Gd P g t) (hP : ∀ q ∈ P, SmV q) : ∃ l : Int × Int × Int, S_middle_line [encD g] = some (encL l) ∧ (1 ≤ l.2.2 ∧ l.2.2 < 2 ^ 64) ∧ (∀ e, g.over ≤ 2 * e * g.run → ∀ p ∈ P, nearV l p.1 p.2.1 e) ∧ (0 ≤ g.rise → 0 ≤ l.1) := by
  obtain ⟨r0, r1, r2, r3⟩ := h.bounds hP
  obtain ⟨k, p', q', d', k0, e1, e2, e3, d0, hr⟩ := red_ex (midL g).1 (midL g).2.1 (midL g).2.2 (by show 0 < 2 * g.run; omega) (by show 2 * g.run < 2 ^ 64; omega)
  refine ⟨(p', q', d'), (midl_eq h hP).trans hr, ⟨by show 1 ≤ d'; omega, ?_⟩, fun e he p hp => ?_, fun hr0 => ?_⟩
  · show d' < 2 ^ 64
    have x := Int.mul_nonneg (show 0 ≤ k - 1 by omega) (Int.le_of_lt d0)
    have y : (k - 1) * d' = k * d' - d' := by grind
    have z : 2 * g.run = k * d' := e3
    omega
  · have := h.line hp he
    rw [e1, e2, e3] at this
    have x1 : k * p' * p.1 + k * q' - p.2.1 * (k * d') = k * (p' * p.1 + q' - p.2.1 * d') := by grind
    have x2 : -(e * (k * d')) = k * -(e * d') := by grind
    have x3 : e * (k * d') = k * (e * d') := by grind
    rw [x1, x2, x3] at this
    exact ⟨Int.le_of_mul_le_mul_left this.1 k0, Int.le_of_mul_le_mul_left this.2 k0⟩
  · have x : 0 ≤ k * p' := by rw [← e1]; unfold midL; show 0 ≤ 2 * g.rise; omega
    exact sign_pos k0 x
/-- points with their indexes -/
def idx (ps : List (Int × Int)) : List Vx := ps.zipIdx.map fun t => (t.1.1, t.1.2, (t.2 : Int))
theorem idx_len (ps : List (Int × Int)) : (idx ps).length = ps.length := by simp [idx]
theorem idx_get {ps : List (Int × Int)} {i : Nat} (h : i < ps.length) : (idx ps)[i]? = some ((pAt ps i).1, (pAt ps i).2, (i : Int)) := by
  unfold idx pAt
  simp [h]
theorem idx_at {ps : List (Int × Int)} {i : Nat} (h : i < ps.length) : vAt (idx ps) i = ((pAt ps i).1, (pAt ps i).2, (i : Int)) := by
  unfold vAt
  rw [List.getD_eq_getElem?_getD, idx_get h]
  rfl
theorem idx_snoc (ps : List (Int × Int)) (p : Int × Int) : idx (ps ++ [p]) = idx ps ++ [(p.1, p.2, (ps.length : Int))] := by
  unfold idx
  rw [List.zipIdx_append]
  simp
theorem idx_mem {ps : List (Int × Int)} {v : Vx} (h : v ∈ idx ps) : ∃ i, i < ps.length ∧ v = ((pAt ps i).1, (pAt ps i).2, (i : Int)) := by
  obtain ⟨i, hi, e⟩ := mem_vAt h
  rw [idx_len] at hi
  exact ⟨i, hi, by rw [← e, idx_at hi]⟩
theorem idx_sm {ps : List (Int × Int)} (hb : ∀ a ∈ ps, SmP a) : ∀ q ∈ idx ps, SmV q := fun q hq => by
  obtain ⟨i, hi, rfl⟩ := idx_mem hq
  exact smv (hb _ (pAt_mem hi))
theorem three_dv {a b c : Int × Int} {i j k e : Int} : three a b c e = true ↔ -(2 * e * (c.1 - a.1)) ≤ dv3 (a.1, a.2, i) (b.1, b.2, j) (c.1, c.2, k) ∧ dv3 (a.1, a.2, i) (b.1, b.2, j) (c.1, c.2, k) ≤ 2 * e * (c.1 - a.1) := by
  unfold three dv3
  rw [decide_eq_true_eq, absI_le]
/-- by the greatest deviation it is told which points fit -/
theorem fit_dev {ps : List (Int × Int)} {g : Dv} {t e : Int} (G : Gd (idx ps) g t) (asc : AscV (idx ps)) (he : 0 ≤ e) : FitR ps e 0 ps.length ↔ g.over ≤ 2 * e * g.run := by
  constructor
  · intro h
    by_cases x : g.over ≤ 2 * e * g.run
    · exact x
    · obtain ⟨⟨a1, a2⟩, ⟨b1, b2⟩, no⟩ := G.shown asc he (by omega)
      obtain ⟨i, hi, ei⟩ := idx_mem G.ma
      obtain ⟨j, hj, ej⟩ := idx_mem G.mm
      obtain ⟨k, hk, ek⟩ := idx_mem G.mz
      rw [ei, ej] at a2
      rw [ej, ek] at b2
      simp only at a2 b2
      have := (three_dv (i := (i : Int)) (j := (j : Int)) (k := (k : Int))).mp (h i j k (by omega) (by omega) (by omega) hk)
      rw [ei, ej, ek] at no
      exact absurd this no
  · intro h i j k _ h2 h3 h4
    have := G.most (p := vAt (idx ps) i) (q := vAt (idx ps) j) (r := vAt (idx ps) k) (vAt_mem (by rw [idx_len]; omega)) (vAt_mem (by rw [idx_len]; omega)) (vAt_mem (by rw [idx_len]; omega)) (Int.le_of_lt (asc.at h2 (by rw [idx_len]; omega)).1) (Int.le_of_lt (asc.at h3 (by rw [idx_len]; omega)).1) h
    rw [idx_at (i := i) (by omega), idx_at (i := j) (by omega), idx_at (i := k) h4] at this
    exact (three_dv (i := (i : Int)) (j := (j : Int)) (k := (k : Int))).mpr this
/-- a chain has at most as many vertices as there are points -/
theorem AscX_len {c P : List Vx} (h : AscX c) (hs : ∀ q ∈ c, q ∈ P) (hP : AscV P) : c.length ≤ P.length := by
  have : ∀ n, n ≤ c.length → ∀ i, i < n → ∃ j, i ≤ j ∧ j < P.length ∧ vAt P j = vAt c i := fun n => by
    intro hn i hi
    induction i with
    | zero =>
      obtain ⟨j, hj, ej⟩ := mem_vAt (hs _ (vAt_mem (c := c) (i := 0) (by omega)))
      exact ⟨j, by omega, hj, ej⟩
    | succ i ih =>
      obtain ⟨j, h1, h2, h3⟩ := ih (by omega)
      obtain ⟨k, hk, ek⟩ := mem_vAt (hs _ (vAt_mem (c := c) (i := i + 1) (by omega)))
      refine ⟨k, ?_, hk, ek⟩
      have lt := (h i (i + 1) (by omega) (by omega)).1
      rw [← h3, ← ek] at lt
      by_cases x : i + 1 ≤ k
      · exact x
      · by_cases y : k = j
        · subst y; omega
        · have := (hP.at (i := k) (j := j) (by omega) h2).1
          omega
  by_cases z : c.length = 0
  · omega
  · obtain ⟨j, h1, h2, _⟩ := this c.length (Nat.le_refl _) (c.length - 1) (by omega)
    omega
/-! ### points from a start on, and the longest piece -/
def vx (pts : List (Int × Int)) (i : Nat) : Vx := ((pAt pts i).1, (pAt pts i).2, (i : Int))
def seg (pts : List (Int × Int)) (s k : Nat) : List Vx := (List.range k).map fun i => vx pts (s + i)
theorem seg_len {pts : List (Int × Int)} {s k : Nat} : (seg pts s k).length = k := by simp [seg]
theorem seg_at {pts : List (Int × Int)} {s k i : Nat} (h : i < k) : vAt (seg pts s k) i = vx pts (s + i) := by simp [vAt, seg, h]
theorem seg_snoc {pts : List (Int × Int)} {s k : Nat} : seg pts s (k + 1) = seg pts s k ++ [vx pts (s + k)] := by simp [seg, List.range_succ]
theorem seg_mem {pts : List (Int × Int)} {s k : Nat} {v : Vx} (h : v ∈ seg pts s k) : ∃ i, i < k ∧ v = vx pts (s + i) := by
  obtain ⟨i, hi, rfl⟩ := List.mem_map.mp h
  exact ⟨i, List.mem_range.mp hi, rfl⟩
theorem seg_sm {pts : List (Int × Int)} {s k : Nat} (hb : ∀ a ∈ pts, SmQ a) (h : s + k ≤ pts.length) : ∀ q ∈ seg pts s k, SmV q := fun q hq => by
  obtain ⟨i, hi, rfl⟩ := seg_mem hq
  exact hb _ (pAt_mem (by omega))
theorem seg_lt {pts : List (Int × Int)} {s k : Nat} (ha : ∀ i j, i < j → j < pts.length → (pAt pts i).1 < (pAt pts j).1) (h : s + k < pts.length) : ∀ q ∈ seg pts s k, q.1 < (vx pts (s + k)).1 ∧ q.2.2 < (vx pts (s + k)).2.2 := fun q hq => by
  obtain ⟨i, hi, rfl⟩ := seg_mem hq
  exact ⟨ha _ _ (by omega) h, by show ((s + i : Nat) : Int) < ((s + k : Nat) : Int); omega⟩
theorem fit_seg {pts : List (Int × Int)} {s k : Nat} {g : Dv} {t e : Int} (G : Gd (seg pts s k) g t) (asc : AscV (seg pts s k)) (he : 0 ≤ e) : FitR pts e s (s + k) ↔ g.over ≤ 2 * e * g.run := by
  constructor
  · intro h
    by_cases x : g.over ≤ 2 * e * g.run
    · exact x
    · obtain ⟨⟨a1, a2⟩, ⟨b1, b2⟩, no⟩ := G.shown asc he (by omega)
      obtain ⟨i, hi, ei⟩ := seg_mem G.ma
      obtain ⟨j, hj, ej⟩ := seg_mem G.mm
      obtain ⟨m, hm, em⟩ := seg_mem G.mz
      rw [ei, ej] at a2
      rw [ej, em] at b2
      replace a2 : ((s + i : Nat) : Int) < ((s + j : Nat) : Int) := a2
      replace b2 : ((s + j : Nat) : Int) < ((s + m : Nat) : Int) := b2
      have := (three_dv (i := ((s + i : Nat) : Int)) (j := ((s + j : Nat) : Int)) (k := ((s + m : Nat) : Int))).mp (h (s + i) (s + j) (s + m) (by omega) (by omega) (by omega) (by omega))
      rw [ei, ej, em] at no
      exact absurd this no
  · intro h i j m h1 h2 h3 h4
    have := G.most (p := vAt (seg pts s k) (i - s)) (q := vAt (seg pts s k) (j - s)) (r := vAt (seg pts s k) (m - s)) (vAt_mem (by rw [seg_len]; omega)) (vAt_mem (by rw [seg_len]; omega)) (vAt_mem (by rw [seg_len]; omega)) (Int.le_of_lt (asc.at (by omega) (by rw [seg_len]; omega)).1) (Int.le_of_lt (asc.at (by omega) (by rw [seg_len]; omega)).1) h
    rw [seg_at (i := i - s) (by omega), seg_at (i := j - s) (by omega), seg_at (i := m - s) (by omega)] at this
    have e1 : s + (i - s) = i := by omega
    have e2 : s + (j - s) = j := by omega
    have e3 : s + (m - s) = m := by omega
    rw [e1, e2, e3] at this
    exact (three_dv (i := (i : Int)) (j := (j : Int)) (k := (m : Int))).mpr this
/-- the reason that the deviation gives -/
def whyOf (g : Dv) : Int × Int × Int := (g.a.2.2, g.m.2.2, g.z.2.2)
theorem indexes_eq {g : Dv} : S_indexes_of [encD g] = some (encL (whyOf g)) := by
  refine sv_run ?_
  unfold B_indexes_of
  exact sv_ret (ev_tu (ev_cs (ev_op (x := encL g.a) (ev_op (ev_B rfl) ev_I rfl) ev_I rfl) (ev_cs (ev_op (x := encL g.m) (ev_op (ev_B rfl) ev_I rfl) ev_I rfl) (ev_cs (ev_op (x := encL g.z) (ev_op (ev_B rfl) ev_I rfl) ev_I rfl) ev_nl))))
theorem why_ok {pts : List (Int × Int)} {s k : Nat} {g : Dv} {t e : Int} (G : Gd (seg pts s k) g t) (asc : AscV (seg pts s k)) (he : 0 ≤ e) (x : 2 * e * g.run < g.over) :
    ∃ i j m : Nat, whyOf g = ((i : Int), (j : Int), (m : Int)) ∧ s ≤ i ∧ i < j ∧ j < m ∧ m < s + k ∧ three (pAt pts i) (pAt pts j) (pAt pts m) e = false := by
  obtain ⟨⟨a1, a2⟩, ⟨b1, b2⟩, no⟩ := G.shown asc he x
  obtain ⟨i, hi, ei⟩ := seg_mem G.ma
  obtain ⟨j, hj, ej⟩ := seg_mem G.mm
  obtain ⟨m, hm, em⟩ := seg_mem G.mz
  rw [ei, ej] at a2
  rw [ej, em] at b2
  replace a2 : ((s + i : Nat) : Int) < ((s + j : Nat) : Int) := a2
  replace b2 : ((s + j : Nat) : Int) < ((s + m : Nat) : Int) := b2
  refine ⟨s + i, s + j, s + m, by unfold whyOf; rw [ei, ej, em]; rfl, by omega, by omega, by omega, by omega, ?_⟩
  cases h : three (pAt pts (s + i)) (pAt pts (s + j)) (pAt pts (s + m)) e with
  | false => rfl
  | true =>
    have := (three_dv (i := ((s + i : Nat) : Int)) (j := ((s + j : Nat) : Int)) (k := ((s + m : Nat) : Int))).mp h
    rw [ei, ej, em] at no
    exact absurd this no
/-- line() of a strip -/
theorem sline_ex {P U L : List Vx} {g : D} (h : StOk P U L g) (hP : ∀ q ∈ P, SmV q) : ∃ l : Int × Int × Int, S_Strip_line [stD U L g] = some (encL l) ∧ (1 ≤ l.2.2 ∧ l.2.2 < 2 ^ 64) ∧ (P = [] → l = (0, 0, 1)) ∧
    (P ≠ [] → ∃ d t, g = encD d ∧ Gd P d t ∧ AscV P ∧ (∀ e, d.over ≤ 2 * e * d.run → ∀ p ∈ P, nearV l p.1 p.2.1 e) ∧ (0 ≤ d.rise → 0 ≤ l.1)) := by
  rcases h with ⟨rfl, rfl, rfl, rfl⟩ | ⟨d, rfl, h⟩
  · refine ⟨(0, 0, 1), ?_, by decide, fun _ => rfl, fun z => absurd rfl z⟩
    refine sv_runK ?_
    unfold B_Strip_line
    exact sv_rt (sv_ifT (ev_not (b := false) (ev_Tru (x := .lst []) (ev_U (ev_Bb rfl) rfl) rfl)) (sv_ret (ev_tu (ev_cs ev_I (ev_cs ev_I (ev_cs ev_I ev_nl))))))
  · obtain ⟨t, G⟩ := h.gd
    obtain ⟨l, h1, h2, h3, h4⟩ := line_ex G hP
    refine ⟨l, ?_, h2, fun z => ?_, fun _ => ⟨d, t, rfl, G, h.asc, h3, h4⟩⟩
    · refine sv_runK ?_
      unfold B_Strip_line
      refine sv_nx (sv_ifF (ev_not (b := true) (ev_Tru (x := .lst (U.map encL)) (ev_U (ev_Bb rfl) rfl) ?_)) rfl) (sv_ret (ev_call (ds := [encD d]) (ev_cs ?_ ev_nl) h1))
      · show some (!(U.map encL).isEmpty) = _
        have := h.hu.ne
        cases U with
        | nil => exact absurd rfl this
        | cons => rfl
      · show ((gU (dFld 4 2) (gB 0) [.bo (stD U L (encD d))]).bind _) = _
        rw [show gU (dFld 4 2) (gB 0) [.bo (stD U L (encD d))] = some (encD d) from ev_U (ev_Bb rfl) rfl]
        rfl
    · have := G.ma
      rw [z] at this
      simp at this
theorem StOk.len {P U L : List Vx} {g : D} (h : StOk P U L g) : U.length ≤ P.length ∧ L.length ≤ P.length := by
  rcases h with ⟨rfl, rfl, rfl, rfl⟩ | ⟨d, rfl, h⟩
  · simp
  · exact ⟨AscX_len h.hu.asc h.hu.sub h.asc, AscX_len h.hl.asc h.hl.sub h.asc⟩
theorem StOk.sub {P U L : List Vx} {g : D} (h : StOk P U L g) : (∀ q ∈ U, q ∈ P) ∧ (∀ q ∈ L, q ∈ P) := by
  rcases h with ⟨rfl, rfl, rfl, rfl⟩ | ⟨d, rfl, h⟩
  · exact ⟨fun _ z => z, fun _ z => z⟩
  · exact ⟨h.hu.sub, h.hl.sub⟩
theorem rngD_succ (lo : Int) (n : Nat) : rngD lo (n + 1) = .int lo :: rngD (lo + 1) n := by
  unfold rngD
  rw [List.range_succ_eq_map, List.map_cons, List.map_map]
  congr 1
  · simp
  · apply List.map_congr_left
    intro i _
    show D.int (lo + ((i + 1 : Nat) : Int)) = D.int (lo + 1 + (i : Int))
    congr 1
    omega
noncomputable def lpBody : Sm :=
  (sSeq (sUnp (gTg 2 (gTo (gN 5) (gTo (gN 6) gEnd))) (gIx (gB 0) (gV 4)))
  (sSeq (sSet 7 (gTu 3 (aC (gV 5) (aC (gV 6) (aC (gV 4) aN)))))
  (sSeq (sSet 8 (gMeth 4 S_Strip_step_with (gB 3) (aC (gV 7) aN)))
  (sSeq (sIf (gTru (gCall S_exceeds (aC (gIx (gB 8) (gI 0)) (aC (gV 2) aN))))
  (sRet (gTu 3 (aC (gV 4) (aC (gMeth 4 S_Strip_line (gB 3) aN) (aC (gCall S_indexes_of (aC (gIx (gB 8) (gI 0)) aN)) aN)))))
  sNil)
  (sExpM (gMM 3 [] 4 S_Strip_take (aC (gV 7) (aC (gV 8) aN))))))))
/-- what a piece must be -/
structure Piece (pts : List (Int × Int)) (e : Int) (s en : Nat) (l : Int × Int × Int) : Prop where
  le : en ≤ pts.length
  d : 1 ≤ l.2.2
  du : l.2.2 < 2 ^ 64
  fit : FitR pts e s en
  near : ∀ i, s ≤ i → i < en → nearV l (pAt pts i).1 (pAt pts i).2 e
  asc : (∀ i, s ≤ i → i + 1 < en → (pAt pts i).2 < (pAt pts (i + 1)).2) → 0 ≤ l.1
theorem piece_of {pts : List (Int × Int)} {e : Int} {s k : Nat} {U L : List Vx} {g : D} (hs : StOk (seg pts s k) U L g) (hb : ∀ a ∈ pts, SmQ a) (he : 0 ≤ e) (hk : s + k ≤ pts.length) (hf : FitR pts e s (s + k)) : ∃ l : Int × Int × Int, S_Strip_line [stD U L g] = some (encL l) ∧ Piece pts e s (s + k) l ∧ (k = 0 → l = (0, 0, 1)) := by
  obtain ⟨l, h1, h2, h3, h4⟩ := sline_ex hs (seg_sm hb hk)
  by_cases k0 : k = 0
  · subst k0
    refine ⟨l, h1, ⟨hk, h2.1, h2.2, hf, fun i _ _ => by omega, fun _ => ?_⟩, fun _ => h3 rfl⟩
    rw [h3 rfl]
    decide
  · have ne : seg pts s k ≠ [] := fun z => by have := seg_len (pts := pts) (s := s) (k := k); rw [z] at this; simp at this; omega
    obtain ⟨d, t, rfl, G, asc, hn, hr⟩ := h4 ne
    refine ⟨l, h1, ⟨hk, h2.1, h2.2, hf, fun i i1 i2 => ?_, fun ha => hr ?_⟩, fun z => absurd z k0⟩
    · have := hn e ((fit_seg G asc he).mp hf) _ (vAt_mem (c := seg pts s k) (i := i - s) (by rw [seg_len]; omega))
      rw [seg_at (by omega)] at this
      have e1 : s + (i - s) = i := by omega
      rw [e1] at this
      exact this
    · obtain ⟨i, hi, ei⟩ := seg_mem G.ma
      obtain ⟨j, hj, ej⟩ := seg_mem G.mz
      have mono : ∀ m, s + i + m < s + k → (pAt pts (s + i)).2 ≤ (pAt pts (s + i + m)).2 := fun m => by
        induction m with
        | zero => intro _; exact Int.le_refl _
        | succ m ih =>
          intro hm
          have := ih (by omega)
          have := ha (s + i + m) (by omega) (by omega)
          rw [show s + i + (m + 1) = s + i + m + 1 from rfl]
          omega
      have le : i ≤ j := by
        have a1 := G.am
        have a2 := G.mz'
        by_cases x : i ≤ j
        · exact x
        · have := (asc.at (i := j) (j := i) (by omega) (by rw [seg_len]; exact hi)).1
          rw [seg_at hj, seg_at hi] at this
          rw [ei] at a1
          rw [ej] at a2
          omega
      have := mono (j - i) (by omega)
      have e1 : s + i + (j - i) = s + j := by omega
      rw [e1] at this
      unfold Dv.rise
      rw [ei, ej]
      show 0 ≤ (pAt pts (s + j)).2 - (pAt pts (s + i)).2
      omega
theorem lp_loop {pts : List (Int × Int)} {e : Int} {s : Nat} (hb : ∀ a ∈ pts, SmQ a) (ha : ∀ i j, i < j → j < pts.length → (pAt pts i).1 < (pAt pts j).1) (hl : pts.length < 10000) (he : 0 ≤ e ∧ e < 2 ^ 58) : ∀ (r k : Nat), s + k + r = pts.length → ∀ (U L : List Vx) (g : D) (s4 s5 s6 s7 s8 : Sl), StOk (seg pts s k) U L g → FitR pts e s (s + k) →
    (∃ U' L' g' s4' s5' s6' s7' s8', forL (gN 4) lpBody (rngD ((s + k : Nat) : Int) r) [.sh (.lst (pts.map encP)), .sh (.int s), .sh (.int e), stS U L g, s4, s5, s6, s7, s8] = some (.nx [.sh (.lst (pts.map encP)), .sh (.int s), .sh (.int e), stS U' L' g', s4', s5', s6', s7', s8']) ∧ StOk (seg pts s (k + r)) U' L' g' ∧ FitR pts e s pts.length) ∨
    ∃ (en : Nat) (l : Int × Int × Int) (i j : Nat), forL (gN 4) lpBody (rngD ((s + k : Nat) : Int) r) [.sh (.lst (pts.map encP)), .sh (.int s), .sh (.int e), stS U L g, s4, s5, s6, s7, s8] = some (.rt (.tup [.int en, encL l, encL ((i : Int), (j : Int), (en : Int))])) ∧ s + k ≤ en ∧ en < pts.length ∧ Piece pts e s en l ∧ s ≤ i ∧ i < j ∧ j < en ∧ three (pAt pts i) (pAt pts j) (pAt pts en) e = false
  | 0, k, hk, U, L, g, s4, s5, s6, s7, s8, hs, hf => .inl ⟨U, L, g, s4, s5, s6, s7, s8, rfl, hs, by rw [show pts.length = s + k by omega]; exact hf⟩
  | r + 1, k, hk, U, L, g, s4, s5, s6, s7, s8, hs, hf => by
    have hv : SmV (vx pts (s + k)) := hb _ (pAt_mem (by omega))
    obtain ⟨d, hd, hst, ⟨t, G⟩, asc⟩ := dev_eq (v := vx pts (s + k)) hs (seg_sm hb (by omega)) hv (seg_lt ha (by omega))
    rw [← seg_snoc] at hst G asc
    have fd := fit_seg G asc he.1
    have hex := exceeds_eq (g := d) (e := e) (by omega)
    have sl := hs.len
    rw [seg_len] at sl
    have hsm := seg_sm (pts := pts) (s := s) (k := k) hb (by omega)
    have htk := take_eq (U := U) (L := L) (g := g) (d := encD d) (v := vx pts (s + k)) (by omega) (by omega)
    rw [rngD_succ]
    have pre : ∀ R, (sSeq (sIf (gTru (gCall S_exceeds (aC (gIx (gB 8) (gI 0)) (aC (gV 2) aN))))
        (sRet (gTu 3 (aC (gV 4) (aC (gMeth 4 S_Strip_line (gB 3) aN) (aC (gCall S_indexes_of (aC (gIx (gB 8) (gI 0)) aN)) aN)))))
        sNil)
        (sExpM (gMM 3 [] 4 S_Strip_take (aC (gV 7) (aC (gV 8) aN))))) [.sh (.lst (pts.map encP)), .sh (.int s), .sh (.int e), stS U L g, .sh (.int ((s + k : Nat) : Int)), .sh (.int (pAt pts (s + k)).1), .sh (.int (pAt pts (s + k)).2), .sh (encL (vx pts (s + k))), .sh (stepT U L (vx pts (s + k)) (encD d))] = R →
        lpBody [.sh (.lst (pts.map encP)), .sh (.int s), .sh (.int e), stS U L g, .sh (.int ((s + k : Nat) : Int)), s5, s6, s7, s8] = R := fun R h => by
      unfold lpBody
      refine sq_unp (d := encP (pAt pts (s + k))) (ev_op (ev_B rfl) (ev_V rfl) (ixp (k := s + k) (by omega) rfl)) rfl ?_
      refine sq_set (d := encL (vx pts (s + k))) (ev_tu (ev_cs (ev_V rfl) (ev_cs (ev_V rfl) (ev_cs (ev_V rfl) ev_nl)))) ?_
      exact sq_set (ev_meth (c := 4) (vs := [.lst (U.map encL), .lst (L.map encL), g]) rfl (ev_cs (ev_V rfl) ev_nl) hd) h
    have test : gTru (gCall S_exceeds (aC (gIx (gB 8) (gI 0)) (aC (gV 2) aN))) [.sh (.lst (pts.map encP)), .sh (.int s), .sh (.int e), stS U L g, .sh (.int ((s + k : Nat) : Int)), .sh (.int (pAt pts (s + k)).1), .sh (.int (pAt pts (s + k)).2), .sh (encL (vx pts (s + k))), .sh (stepT U L (vx pts (s + k)) (encD d))] = some (decide (2 * e * d.run < d.over)) :=
      ev_Tru (ev_call (ev_cs (ev_op (ev_B rfl) ev_I (show dIx (stepT U L (vx pts (s + k)) (encD d)) (.int 0) = some (encD d) from rfl)) (ev_cs (ev_V rfl) ev_nl)) hex) rfl
    by_cases x : 2 * e * d.run < d.over
    · obtain ⟨l, l1, l2, _⟩ := piece_of hs hb he.1 (by omega) hf
      obtain ⟨i, j, m, w1, w2, w3, w4, w5, w6⟩ := why_ok G asc he.1 x
      have em : m = s + k := by
        by_cases y : m < s + k
        · have := hf i j m w2 w3 w4 y
          rw [this] at w6
          cases w6
        · omega
      subst em
      refine .inr ⟨s + k, l, i, j, ?_, by omega, by omega, l2, w2, w3, w4, w6⟩
      refine forL_rt rfl (pre _ (sv_rt (sv_ifT (test.trans (by rw [decide_eq_true x])) (sv_ret ?_))))
      refine ev_tu (ev_cs (ev_V rfl) (ev_cs (ev_meth (c := 4) (vs := [.lst (U.map encL), .lst (L.map encL), g]) rfl ev_nl l1) (ev_cs (ev_call (ev_cs (ev_op (ev_B rfl) ev_I (show dIx (stepT U L (vx pts (s + k)) (encD d)) (.int 0) = some (encD d) from rfl)) ev_nl) (indexes_eq.trans (by rw [w1]))) ev_nl)))
    · have h1 : sExpM (gMM 3 [] 4 S_Strip_take (aC (gV 7) (aC (gV 8) aN))) [.sh (.lst (pts.map encP)), .sh (.int s), .sh (.int e), stS U L g, .sh (.int ((s + k : Nat) : Int)), .sh (.int (pAt pts (s + k)).1), .sh (.int (pAt pts (s + k)).2), .sh (encL (vx pts (s + k))), .sh (stepT U L (vx pts (s + k)) (encD d))]
          = some (.nx [.sh (.lst (pts.map encP)), .sh (.int s), .sh (.int e), stS (putb 1 U (vx pts (s + k))) (putb (-1) L (vx pts (s + k))) (encD d), .sh (.int ((s + k : Nat) : Int)), .sh (.int (pAt pts (s + k)).1), .sh (.int (pAt pts (s + k)).2), .sh (encL (vx pts (s + k))), .sh (stepT U L (vx pts (s + k)) (encD d))]) := by
        show ((((S_Strip_take (stS U L g) [encL (vx pts (s + k)), stepT U L (vx pts (s + k)) (encD d)]).bind _)).bind _) = _
        rw [htk]
        rfl
      have hb1 := pre _ (sv_nx (sv_ifF (test.trans (by rw [decide_eq_false x])) rfl) h1)
      have hf' : FitR pts e s (s + (k + 1)) := fd.mpr (by omega)
      have ih := lp_loop hb ha hl he r (k + 1) (by omega) _ _ _ (.sh (.int ((s + k : Nat) : Int))) (.sh (.int (pAt pts (s + k)).1)) (.sh (.int (pAt pts (s + k)).2)) (.sh (encL (vx pts (s + k)))) (.sh (stepT U L (vx pts (s + k)) (encD d))) hst hf'
      have ek : ((s + k : Nat) : Int) + 1 = ((s + (k + 1) : Nat) : Int) := by omega
      rw [ek]
      rcases ih with ⟨U', L', g', a4, a5, a6, a7, a8, h2, h3, h4⟩ | ⟨en, l, i, j, h2, h3, h4⟩
      · exact .inl ⟨U', L', g', a4, a5, a6, a7, a8, forL_nx rfl hb1 h2, by rw [show k + (r + 1) = k + 1 + r by omega]; exact h3, h4⟩
      · exact .inr ⟨en, l, i, j, forL_nx rfl hb1 h2, by omega, h4⟩
/-- the longest piece from a start on -/
theorem lp_eq {pts : List (Int × Int)} {e : Int} {s : Nat} (hb : ∀ a ∈ pts, SmQ a) (ha : ∀ i j, i < j → j < pts.length → (pAt pts i).1 < (pAt pts j).1) (hl : pts.length < 10000) (he : 0 ≤ e ∧ e < 2 ^ 58) (hs : s ≤ pts.length) :
    (∃ l, S_longest_piece [.lst (pts.map encP), .int s, .int e] = some (.tup [.int pts.length, encL l, .non]) ∧ Piece pts e s pts.length l ∧ (s = pts.length → l = (0, 0, 1))) ∨
    ∃ (en : Nat) (l : Int × Int × Int) (i j : Nat), S_longest_piece [.lst (pts.map encP), .int s, .int e] = some (.tup [.int en, encL l, encL ((i : Int), (j : Int), (en : Int))]) ∧ s < en ∧ en < pts.length ∧ Piece pts e s en l ∧ s ≤ i ∧ i < j ∧ j < en ∧ three (pAt pts i) (pAt pts j) (pAt pts en) e = false := by
  have lP : dLen (.lst (pts.map encP)) = some (.int pts.length) := by rw [d_lenL, List.length_map]
  have h0 : sSetN 3 (gMk 4 S_Strip___init__ aN) [.sh (.lst (pts.map encP)), .sh (.int s), .sh (.int e), .no, .no, .no, .no, .no, .no] = some (.nx [.sh (.lst (pts.map encP)), .sh (.int s), .sh (.int e), stS [] [] .non, .no, .no, .no, .no, .no]) := rfl
  have hr : gRng (aC (gV 1) (aC (gU dLen (gB 0)) aN)) [.sh (.lst (pts.map encP)), .sh (.int s), .sh (.int e), stS [] [] .non, .no, .no, .no, .no, .no] = some (rngD ((s + 0 : Nat) : Int) (pts.length - s)) := by
    rw [ev_rng2 (m := s) (j := pts.length) (ev_cs (ev_V rfl) (ev_cs (ev_U (ev_B rfl) lP) ev_nl)) (by omega) (by omega) (by omega) (by omega)]
    congr 2
    omega
  have hL := lp_loop (s := s) hb ha hl he (pts.length - s) 0 (by omega) [] [] .non .no .no .no .no .no (.inl ⟨rfl, rfl, rfl, rfl⟩) (fun i j m _ _ _ _ => by omega)
  rcases hL with ⟨U', L', g', a4, a5, a6, a7, a8, h2, h3, h4⟩ | ⟨en, l, i, j, h2, h3, h4⟩
  · left
    have e1 : s + (0 + (pts.length - s)) = pts.length := by omega
    obtain ⟨l, l1, l2, l3⟩ := piece_of (s := s) (k := 0 + (pts.length - s)) h3 hb he.1 (by omega) (by rw [e1]; exact h4)
    rw [e1] at l2
    refine ⟨l, ?_, l2, fun z => l3 (by omega)⟩
    refine sv_run ?_
    unfold B_longest_piece
    refine sv_nx h0 (sv_nx (sv_for hr h2) (sv_ret ?_))
    exact ev_tu (ev_cs (ev_U (ev_B rfl) lP) (ev_cs (ev_meth (c := 4) (vs := [.lst (U'.map encL), .lst (L'.map encL), g']) rfl ev_nl l1) (ev_cs ev_C ev_nl)))
  · right
    refine ⟨en, l, i, j, ?_, ?_, h4⟩
    · refine sv_run ?_
      unfold B_longest_piece
      exact sv_nx h0 (sv_rt (sv_for hr h2))
    · obtain ⟨_, _, h5, h6, h7, _⟩ := h4
      omega
/-! ### the cut -/
/-- pieces and reasons so far: up to the start s -/
structure CutOk (pts : List (Int × Int)) (e : Int) (pcs : List (Int × Int × Int × Int)) (rs : List (Int × Int × Int)) (s : Nat) (done : Bool) : Prop where
  le : s ≤ pts.length
  st : ∀ k, k < pcs.length → 0 ≤ stAt pcs k ∧ stAt pcs k < pts.length
  st0 : 0 < pcs.length → stAt pcs 0 = 0
  z : pcs.length = 0 → s = 0
  pc : ∀ k, k < pcs.length → Piece pts e (stAt pcs k).toNat (if k + 1 < pcs.length then (stAt pcs (k + 1)).toNat else s) (lnAt pcs k) ∧ (stAt pcs k).toNat < (if k + 1 < pcs.length then (stAt pcs (k + 1)).toNat else s)
  rl : rs.length = if done then pcs.length - 1 else pcs.length
  dn : done = true → s = pts.length
  nd : done = false → s < pts.length
  rs : ∀ k, k < rs.length → ∃ i j m : Nat, rsAt rs k = ((i : Int), (j : Int), (m : Int)) ∧ (stAt pcs k).toNat ≤ i ∧ i < j ∧ j < m ∧ m = (if k + 1 < pcs.length then (stAt pcs (k + 1)).toNat else s) ∧ m < pts.length ∧ three (pAt pts i) (pAt pts j) (pAt pts m) e = false
theorem stAt_app {pcs : List (Int × Int × Int × Int)} {c : Int × Int × Int × Int} {k : Nat} (h : k < pcs.length) : stAt (pcs ++ [c]) k = stAt pcs k := by
  unfold stAt stsOf
  rw [List.map_append, List.getD_eq_getElem?_getD, List.getD_eq_getElem?_getD, List.getElem?_append_left (by simpa using h)]
theorem stAt_new {pcs : List (Int × Int × Int × Int)} {c : Int × Int × Int × Int} : stAt (pcs ++ [c]) pcs.length = c.1 := by
  unfold stAt stsOf
  rw [List.map_append, List.getD_eq_getElem?_getD, List.getElem?_append_right (by simp)]
  simp
theorem lnAt_app {pcs : List (Int × Int × Int × Int)} {c : Int × Int × Int × Int} {k : Nat} (h : k < pcs.length) : lnAt (pcs ++ [c]) k = lnAt pcs k := by
  unfold lnAt
  rw [List.getD_eq_getElem?_getD, List.getD_eq_getElem?_getD, List.getElem?_append_left h]
theorem lnAt_new {pcs : List (Int × Int × Int × Int)} {c : Int × Int × Int × Int} : lnAt (pcs ++ [c]) pcs.length = c.2 := by
  unfold lnAt
  rw [List.getD_eq_getElem?_getD, List.getElem?_append_right (by simp)]
  simp
theorem rsAt_app {rs : List (Int × Int × Int)} {c : Int × Int × Int} {k : Nat} (h : k < rs.length) : rsAt (rs ++ [c]) k = rsAt rs k := by
  unfold rsAt
  rw [List.getD_eq_getElem?_getD, List.getD_eq_getElem?_getD, List.getElem?_append_left h]
theorem rsAt_new {rs : List (Int × Int × Int)} {c : Int × Int × Int} : rsAt (rs ++ [c]) rs.length = c := by
  unfold rsAt
  rw [List.getD_eq_getElem?_getD, List.getElem?_append_right (by simp)]
  simp
/-- one more piece -/
theorem CutOk.put {pts : List (Int × Int)} {e : Int} {pcs : List (Int × Int × Int × Int)} {rs : List (Int × Int × Int)} {s en : Nat} {l : Int × Int × Int} (h : CutOk pts e pcs rs s false) (P : Piece pts e s en l) (lt : s < en) (rs' : List (Int × Int × Int)) (done : Bool)
    (hr : (done = true ∧ rs' = rs ∧ en = pts.length) ∨ (done = false ∧ en < pts.length ∧ ∃ i j : Nat, rs' = rs ++ [((i : Int), (j : Int), (en : Int))] ∧ s ≤ i ∧ i < j ∧ j < en ∧ three (pAt pts i) (pAt pts j) (pAt pts en) e = false)) : CutOk pts e (pcs ++ [((s : Int), l)]) rs' en done := by
  have hlen : (pcs ++ [((s : Int), l)]).length = pcs.length + 1 := by simp
  have rl := h.rl
  simp only [Bool.false_eq_true, if_false] at rl
  have hs := h.nd rfl
  have sAt : ∀ k, k < pcs.length → (if k + 1 < pcs.length then (stAt pcs (k + 1)).toNat else s) = (stAt (pcs ++ [((s : Int), l)]) (k + 1)).toNat := fun k hk => by
    by_cases x : k + 1 < pcs.length
    · rw [if_pos x, stAt_app x]
    · rw [if_neg x]
      have : k + 1 = pcs.length := by omega
      rw [this, stAt_new]
      simp
  refine ⟨P.le, fun k hk => ?_, fun _ => ?_, fun z => by rw [hlen] at z; omega, fun k hk => ?_, ?_, fun z => ?_, fun z => ?_, fun k hk => ?_⟩
  · rw [hlen] at hk
    by_cases x : k < pcs.length
    · rw [stAt_app x]; exact h.st k x
    · have : k = pcs.length := by omega
      subst this
      rw [stAt_new]
      show 0 ≤ (s : Int) ∧ (s : Int) < pts.length
      omega
  · by_cases x : 0 < pcs.length
    · rw [stAt_app x]; exact h.st0 x
    · have e0 : pcs.length = 0 := by omega
      have := stAt_new (pcs := pcs) (c := ((s : Int), l))
      rw [e0] at this
      rw [this]
      show (s : Int) = 0
      have := h.z e0
      omega
  · rw [hlen] at hk ⊢
    by_cases x : k < pcs.length
    · rw [if_pos (by omega), stAt_app x, lnAt_app x, ← sAt k x]
      exact h.pc k x
    · have : k = pcs.length := by omega
      subst this
      rw [if_neg (by omega), stAt_new, lnAt_new]
      exact ⟨P, lt⟩
  · rw [hlen]
    rcases hr with ⟨rfl, rfl, _⟩ | ⟨rfl, _, i, j, rfl, _⟩
    · simp only [if_true]; omega
    · simp only [Bool.false_eq_true, if_false, List.length_append, List.length_singleton]; omega
  · rcases hr with ⟨_, _, h1⟩ | ⟨rfl, _⟩
    · exact h1
    · cases z
  · rcases hr with ⟨rfl, _⟩ | ⟨_, h1, _⟩
    · cases z
    · exact h1
  · rw [hlen]
    have old : k < rs.length → ∃ i j m : Nat, rsAt rs k = ((i : Int), (j : Int), (m : Int)) ∧ (stAt (pcs ++ [((s : Int), l)]) k).toNat ≤ i ∧ i < j ∧ j < m ∧ m = (if k + 1 < pcs.length + 1 then (stAt (pcs ++ [((s : Int), l)]) (k + 1)).toNat else en) ∧ m < pts.length ∧ three (pAt pts i) (pAt pts j) (pAt pts m) e = false := fun x => by
      obtain ⟨i, j, m, h1, h2, h3, h4, h5, h6, h7⟩ := h.rs k x
      refine ⟨i, j, m, h1, by rw [stAt_app (by omega)]; exact h2, h3, h4, ?_, h6, h7⟩
      rw [if_pos (by omega), ← sAt k (by omega)]
      exact h5
    rcases hr with ⟨_, rfl, _⟩ | ⟨_, h1, i, j, rfl, h2, h3, h4, h5⟩
    · exact old hk
    · by_cases x : k < rs.length
      · rw [rsAt_app x]
        exact old x
      · have : k = rs.length := by simp at hk; omega
        subst this
        refine ⟨i, j, en, rsAt_new, ?_, h3, h4, ?_, h1, h5⟩
        · rw [rl, stAt_new]
          simpa using h2
        · rw [rl, if_neg (by omega)]
/-! pieces taken in turn, whatever a longest piece is -/
def trCond : Te := gT (gOp dLt (gV 4) (gV 1))
noncomputable def trBody (d0 : D) (F : List D → Option D) : Sm :=
  (sSeq (sUnp (gTg 3 (gTo (gN 5) (gTo (gN 6) (gTo (gN 7) gEnd)))) (gFn d0 F 0 (aC (gV 4) aN)))
  (sSeq (sApp 2 [] (gTu 2 (aC (gV 4) (aC (gV 6) aN))))
  (sSeq (sIf (gT (gOp dNoN (gB 7) (gC .non)))
  (sApp 3 [] (gV 7))
  sNil)
  (sSet 4 (gV 5)))))
theorem turn_step {d0 : D} {F : List D → Option D} {n s en : Nat} {sh w : D} {ps rs : List D} {s5 s6 s7 : Sl} (hF : F [.int s] = some (.tup [.int en, sh, w])) (lp : ps.length < 1000000) (lr : rs.length < 1000000) :
    trBody d0 F [.sh d0, .sh (.int n), .ow ps, .ow rs, .sh (.int s), s5, s6, s7] = some (.nx [.sh d0, .sh (.int n), .ow (ps ++ [.tup [.int s, sh]]), .ow (if isNon w then rs else rs ++ [w]), .sh (.int en), .sh (.int en), .sh sh, .sh w]) := by
  unfold trBody
  refine sq_unp (d := .tup [.int en, sh, w]) (ev_fn rfl (ev_cs (ev_V rfl) ev_nl) hF) rfl ?_
  refine sq_app (xs := ps) (d := .tup [.int s, sh]) (ev_tu (ev_cs (ev_V rfl) (ev_cs (ev_V rfl) ev_nl))) rfl lp ?_
  have ht : gT (gOp dNoN (gB 7) (gC .non)) [.sh d0, .sh (.int n), .ow (ps ++ [.tup [.int s, sh]]), .ow rs, .sh (.int s), .sh (.int en), .sh sh, .sh w] = some (!isNon w) := ev_T (ev_op (ev_B rfl) ev_C rfl)
  cases e : isNon w with
  | true =>
    rw [e] at ht
    exact sv_nx (sv_ifF ht rfl) (sv_set (ev_V rfl))
  | false =>
    rw [e] at ht
    exact sv_nx (sv_ifT ht (sv_app0 (xs := rs) (ev_V rfl) rfl lr)) (sv_set (ev_V rfl))
theorem turn_loop {F : List D → Option D} {n : Nat} (hn : n < 10000) (I : List D → List D → Nat → Prop) (hs : ∀ ps rs s, I ps rs s → s < n → ∃ (en : Nat) (sh w : D), F [.int s] = some (.tup [.int en, sh, w]) ∧ s < en ∧ I (ps ++ [.tup [.int s, sh]]) (if isNon w then rs else rs ++ [w]) en) :
    ∀ (r s : Nat) (ps rs : List D), n - s ≤ r → I ps rs s → ps.length ≤ s → rs.length ≤ s →
      ∃ ps' rs' s', I ps' rs' s' ∧ n ≤ s' ∧ ∀ (d0 : D) (s5 s6 s7 : Sl), ∃ k s5' s6' s7', whileN k trCond (trBody d0 F) [.sh d0, .sh (.int n), .ow ps, .ow rs, .sh (.int s), s5, s6, s7] = some (.nx [.sh d0, .sh (.int n), .ow ps', .ow rs', .sh (.int s'), s5', s6', s7']) := by
  have c0 : ∀ (d0 : D) (s : Nat) (ps rs : List D) (s5 s6 s7 : Sl), trCond [.sh d0, .sh (.int n), .ow ps, .ow rs, .sh (.int s), s5, s6, s7] = some (decide ((s : Int) < n)) := fun d0 s ps rs s5 s6 s7 => ev_T (ev_op (x := .int s) (y := .int n) (ev_V rfl) (ev_V rfl) rfl)
  have stop : ∀ (s : Nat) (ps rs : List D), n ≤ s → I ps rs s → ∃ ps' rs' s', I ps' rs' s' ∧ n ≤ s' ∧ ∀ (d0 : D) (s5 s6 s7 : Sl), ∃ k s5' s6' s7', whileN k trCond (trBody d0 F) [.sh d0, .sh (.int n), .ow ps, .ow rs, .sh (.int s), s5, s6, s7] = some (.nx [.sh d0, .sh (.int n), .ow ps', .ow rs', .sh (.int s'), s5', s6', s7']) := fun s ps rs h hI =>
    ⟨ps, rs, s, hI, h, fun d0 s5 s6 s7 => ⟨1, s5, s6, s7, whileN_no (by rw [c0, decide_eq_false (by omega)])⟩⟩
  intro r
  induction r with
  | zero => intro s ps rs hr hI _ _; exact stop s ps rs (by omega) hI
  | succ r ih =>
    intro s ps rs hr hI lp lr
    by_cases h : s < n
    · obtain ⟨en, sh, w, hF, lt, hI'⟩ := hs ps rs s hI h
      obtain ⟨ps', rs', s', a1, a2, a3⟩ := ih en (ps ++ [.tup [.int s, sh]]) (if isNon w then rs else rs ++ [w]) (by omega) hI' (by simp; omega) (by split <;> first | omega | (simp; omega))
      refine ⟨ps', rs', s', a1, a2, fun d0 s5 s6 s7 => ?_⟩
      obtain ⟨k, b5, b6, b7, hk⟩ := a3 d0 (.sh (.int en)) (.sh sh) (.sh w)
      exact ⟨k + 1, b5, b6, b7, whileN_nx (by rw [c0, decide_eq_true (by omega)]) (turn_step hF (by omega) (by omega)) hk⟩
    · exact stop s ps rs (by omega) hI
theorem turn_eq {F : List D → Option D} {n : Nat} (hn : n < 10000) (I : List D → List D → Nat → Prop) (h0 : I [] [] 0) (hs : ∀ ps rs s, I ps rs s → s < n → ∃ (en : Nat) (sh w : D), F [.int s] = some (.tup [.int en, sh, w]) ∧ s < en ∧ I (ps ++ [.tup [.int s, sh]]) (if isNon w then rs else rs ++ [w]) en) :
    ∃ ps rs s, I ps rs s ∧ n ≤ s ∧ ∀ d0, S_taken_in_turn d0 F [d0, .int n] = some (.tup [.lst ps, .lst rs]) := by
  obtain ⟨ps, rs, s, h1, h2, h3⟩ := turn_loop hn I hs n 0 [] [] (by omega) h0 (by simp) (by simp)
  refine ⟨ps, rs, s, h1, h2, fun d0 => ?_⟩
  obtain ⟨k, s5, s6, s7, w⟩ := h3 d0 .no .no .no
  refine sv_run ?_
  unfold B_taken_in_turn
  refine sq_setO ev_nl (sq_setO ev_nl (sq_set ev_I (sv_nx (sWhile_of w) ?_)))
  rfl
theorem gCall_of {Γ : DEnv} {S : List D → Option D} {fs : Ag} {ds : List D} (h : fs Γ = some ds) : gCall S fs Γ = S ds := by
  unfold gCall
  rw [h]
  rfl
/-- the pieces and reasons of the cut -/
theorem cut_turn {pts : List (Int × Int)} {e : Int} {F : List D → Option D} (hb : ∀ a ∈ pts, SmQ a) (ha : ∀ i j, i < j → j < pts.length → (pAt pts i).1 < (pAt pts j).1) (hl : pts.length < 10000) (he : 0 ≤ e ∧ e < 2 ^ 58) (hF : ∀ s : Nat, F [.int s] = S_longest_piece [.lst (pts.map encP), .int s, .int e]) :
    ∃ pcs rs, (∀ d0, S_taken_in_turn d0 F [d0, .int pts.length] = some (.tup [.lst (pcs.map encC), .lst (rs.map encL)])) ∧ CutOk pts e pcs rs pts.length true ∧ pcs.length ≤ pts.length := by
  have start : CutOk pts e [] [] 0 (decide (pts.length = 0)) :=
    ⟨Nat.zero_le _, fun k hk => by simp at hk, fun z => by simp at z, fun _ => rfl, fun k hk => by simp at hk, by simp, fun z => by have := of_decide_eq_true z; omega, fun z => by have := of_decide_eq_false z; omega, fun k hk => by simp at hk⟩
  obtain ⟨ps, rs, s, ⟨pcs, rl, done, rfl, rfl, ok, lp⟩, hs, hT⟩ := turn_eq (F := F) hl (fun ps rs s => ∃ pcs rl done, ps = pcs.map encC ∧ rs = rl.map encL ∧ CutOk pts e pcs rl s done ∧ pcs.length ≤ s) ⟨[], [], _, rfl, rfl, start, Nat.le_refl _⟩ (by
    rintro ps rs s ⟨pcs, rl, done, rfl, rfl, h, hp⟩ hs
    cases done with
    | true => have := h.dn rfl; omega
    | false =>
      rcases lp_eq (s := s) hb ha hl he (by omega) with ⟨l, h1, h2, _⟩ | ⟨en, l, i, j, h1, h2, h3, h4, h5, h6, h7, h8⟩
      · refine ⟨pts.length, encL l, .non, by rw [hF, h1], hs, pcs ++ [((s : Int), l)], rl, true, by rw [List.map_append]; rfl, rfl, h.put h2 hs rl true (.inl ⟨rfl, rfl, rfl⟩), by simp; omega⟩
      · refine ⟨en, encL l, encL ((i : Int), (j : Int), (en : Int)), by rw [hF, h1], h2, pcs ++ [((s : Int), l)], rl ++ [((i : Int), (j : Int), (en : Int))], false, by rw [List.map_append]; rfl, ?_, h.put h4 h2 _ false (.inr ⟨rfl, h3, i, j, rfl, h5, h6, h7, h8⟩), by simp; omega⟩
        rw [List.map_append]; rfl)
  have e1 : s = pts.length := Nat.le_antisymm ok.le hs
  subst e1
  refine ⟨pcs, rl, hT, ?_, lp⟩
  cases done with
  | true => exact ok
  | false => have := ok.nd rfl; omega
theorem cutd_eq {pts : List (Int × Int)} {e : Int} (hb : ∀ a ∈ pts, SmQ a) (ha : ∀ i j, i < j → j < pts.length → (pAt pts i).1 < (pAt pts j).1) (hl : pts.length < 10000) (he : 0 ≤ e ∧ e < 2 ^ 58) :
    ∃ pcs rs, S_cut [.lst (pts.map encP), .int e] = some (.obj 0 [.lst (pcs.map encC), .lst (rs.map encL)]) ∧ CutOk pts e pcs rs pts.length true ∧ pcs.length ≤ pts.length := by
  obtain ⟨pcs, rs, h1, ok, lp⟩ := cut_turn (F := fun es => gCall S_longest_piece (aC (gV 0) (aC (gV 4) (aC (gV 1) aN))) (capE 4 [0, 1] [.lst (pts.map encP), .int e] ++ es.map Sl.sh)) hb ha hl he (fun s => gCall_of (ev_cs (ev_V rfl) (ev_cs (ev_V rfl) (ev_cs (ev_V rfl) ev_nl))))
  refine ⟨pcs, rs, ?_, ok, lp⟩
  refine sv_run ?_
  unfold B_cut
  refine sq_unp (d := .tup [.lst (pcs.map encC), .lst (rs.map encL)]) (ev_lam1 rfl (ev_U (ev_B rfl) (by rw [d_lenL, List.length_map])) h1) rfl ?_
  rfl
/-! ### a level: keys under the pieces of a cut -/
def keyP (ks : List Int) : List (Int × Int) := ks.zipIdx.map fun t => (t.1, (t.2 : Int))
def kAt (ks : List Int) (i : Nat) : Int := ks.getD i 0
theorem kAt_get {ks : List Int} {i : Nat} (h : i < ks.length) : ks[i]? = some (kAt ks i) := by simp [kAt, h]
theorem keyP_len {ks : List Int} : (keyP ks).length = ks.length := by simp [keyP]
theorem keyP_at {ks : List Int} {i : Nat} (h : i < ks.length) : pAt (keyP ks) i = (kAt ks i, (i : Int)) := by simp [pAt, keyP, kAt, h]
/-- ascending keys, not too great -/
structure Keys (ks : List Int) : Prop where
  asc : ∀ i j, i < j → j < ks.length → kAt ks i < kAt ks j
  sm : ∀ i, i < ks.length → -(2 ^ 55) < kAt ks i ∧ kAt ks i < 2 ^ 55
  len : ks.length < 5000
theorem Keys.pts {ks : List Int} (h : Keys ks) : (∀ a ∈ keyP ks, SmQ a) ∧ ∀ i j, i < j → j < (keyP ks).length → (pAt (keyP ks) i).1 < (pAt (keyP ks) j).1 := by
  have hl := h.len
  refine ⟨fun a ha => ?_, fun i j h1 h2 => ?_⟩
  · obtain ⟨i, hi, ei⟩ := List.mem_iff_getElem.mp ha
    rw [keyP_len] at hi
    have e2 : pAt (keyP ks) i = a := by unfold pAt; rw [List.getD_eq_getElem?_getD, List.getElem?_eq_getElem (by rw [keyP_len]; exact hi), ei]; rfl
    rw [keyP_at hi] at e2
    subst e2
    have := h.sm i hi
    exact ⟨⟨by show -(2 ^ 56) < kAt ks i; omega, by show kAt ks i < 2 ^ 56; omega⟩, by show -(2 ^ 56) < (i : Int); omega, by show (i : Int) < 2 ^ 56; omega⟩
  · rw [keyP_len] at h2
    rw [keyP_at (i := i) (by omega), keyP_at h2]
    exact h.asc i j h1 h2
/-- what a level is -/
structure Lev where
  ks : List Int
  e : Int
  pcs : List (Int × Int × Int × Int)
def levD (v : Lev) : D := .obj 1 [.lst (v.ks.map D.int), .int v.e, .lst (v.pcs.map encC)]
/-- the start of a piece, and of the next one -/
def Lev.st (v : Lev) (k : Nat) : Nat := (stAt v.pcs k).toNat
def Lev.en (v : Lev) (k : Nat) : Nat := if k + 1 < v.pcs.length then v.st (k + 1) else v.ks.length
structure LevOk (v : Lev) : Prop where
  keys : Keys v.ks
  e0 : 0 ≤ v.e ∧ v.e < 2 ^ 20
  some : v.ks.length = 0 ↔ v.pcs.length = 0
  st : ∀ k, k < v.pcs.length → stAt v.pcs k = (v.st k : Nat) ∧ v.st k < v.en k ∧ v.en k ≤ v.ks.length
  st0 : 0 < v.pcs.length → v.st 0 = 0
  piece : ∀ k, k < v.pcs.length → Piece (keyP v.ks) v.e (v.st k) (v.en k) (lnAt v.pcs k)
  two : ∀ k, k + 1 < v.pcs.length → v.st k + 2 ≤ v.st (k + 1)
  max : ∀ k, k + 1 < v.pcs.length → ¬ FitR (keyP v.ks) v.e (v.st k) (v.st (k + 1) + 1)
theorem level_eq {ks : List Int} {e : Int} (h : Keys ks) (he : 0 ≤ e ∧ e < 2 ^ 20) : ∃ pcs, nD (gMk 1 S_Level___init__ (fun _ => some [.lst (ks.map D.int), .int e])) [] = some (levD ⟨ks, e, pcs⟩) ∧ LevOk ⟨ks, e, pcs⟩ := by
  obtain ⟨p1, p2⟩ := h.pts
  have hl := h.len
  obtain ⟨pcs, rs, hc, ok, lp⟩ := cutd_eq (e := e) p1 p2 (by rw [keyP_len]; omega) (by omega)
  rw [keyP_len] at ok lp
  have hcomp : compL (gTg 2 (gTo (gN 3) (gTo (gN 4) gEnd))) gYes (gTu 2 (aC (gV 4) (aC (gV 3) aN))) (enumD 0 (ks.map D.int)) [.ob 1 [.sh (.lst (ks.map D.int)), .sh (.int e)], .sh (.lst (ks.map D.int)), .sh (.int e), .no, .no] = some ((keyP ks).map encP) := by
    have key : ∀ (xs : List Int) (k : Nat), compL (gTg 2 (gTo (gN 3) (gTo (gN 4) gEnd))) gYes (gTu 2 (aC (gV 4) (aC (gV 3) aN))) (enumD k (xs.map D.int)) [.ob 1 [.sh (.lst (ks.map D.int)), .sh (.int e)], .sh (.lst (ks.map D.int)), .sh (.int e), .no, .no] = some ((xs.zipIdx k).map fun t => encP (t.1, (t.2 : Int))) := fun xs => by
      induction xs with
      | nil => intro k; rfl
      | cons x xs ih =>
        intro k
        rw [List.map_cons, List.zipIdx_cons, List.map_cons]
        show ((compL (gTg 2 (gTo (gN 3) (gTo (gN 4) gEnd))) gYes (gTu 2 (aC (gV 4) (aC (gV 3) aN))) (enumD (k + 1) (xs.map D.int)) _).bind _) = _
        rw [ih (k + 1)]
        rfl
    rw [key ks 0]
    unfold keyP
    rw [List.map_map]
    rfl
  have h2 : (gU (dFld 0 0) (gCall S_cut (aC (gL (gLc [3, 4] (gEnum (aC (gPE 0 [(1, 0)]) aN)) (gTg 2 (gTo (gN 3) (gTo (gN 4) gEnd))) gYes (gTu 2 (aC (gV 4) (aC (gV 3) aN))))) (aC (gV 2) aN)))) [.ob 1 [.sh (.lst (ks.map D.int)), .sh (.int e)], .sh (.lst (ks.map D.int)), .sh (.int e), .no, .no] = some (.lst (pcs.map encC)) := by
    refine ev_U (ev_call (ev_cs (ev_L (ev_lc (ds := enumD 0 (ks.map D.int)) rfl ?_ hcomp)) (ev_cs (ev_V rfl) ev_nl)) hc) rfl
    rw [enumD_len, List.length_map]
    omega
  have hB : B_Level___init__ [.ob 1 [], .sh (.lst (ks.map D.int)), .sh (.int e), .no, .no] = some (.nx [.ob 1 [.sh (.lst (ks.map D.int)), .sh (.int e), .sh (.lst (pcs.map encC))], .sh (.lst (ks.map D.int)), .sh (.int e), .no, .no]) := by
    unfold B_Level___init__
    refine sv_nx (Γ1 := [.ob 1 [.sh (.lst (ks.map D.int))], .sh (.lst (ks.map D.int)), .sh (.int e), .no, .no]) rfl ?_
    refine sv_nx (Γ1 := [.ob 1 [.sh (.lst (ks.map D.int)), .sh (.int e)], .sh (.lst (ks.map D.int)), .sh (.int e), .no, .no]) rfl ?_
    show (((gU (dFld 0 0) (gCall S_cut (aC (gL (gLc [3, 4] (gEnum (aC (gPE 0 [(1, 0)]) aN)) (gTg 2 (gTo (gN 3) (gTo (gN 4) gEnd))) gYes (gTu 2 (aC (gV 4) (aC (gV 3) aN))))) (aC (gV 2) aN)))) [.ob 1 [.sh (.lst (ks.map D.int)), .sh (.int e)], .sh (.lst (ks.map D.int)), .sh (.int e), .no, .no]).bind (fun d => some (Sl.sh d))).bind _ = _
    rw [h2]
    rfl
  refine ⟨pcs, ?_, h, he, ?_, fun k hk => ?_, fun z => ?_, fun k hk => ?_, fun k hk => ?_, fun k hk hf => ?_⟩
  · show (((S_Level___init__ (.ob 1 []) [.lst (ks.map D.int), .int e]).bind _).bind toD) = _
    unfold S_Level___init__ runM
    show ((((B_Level___init__ [.ob 1 [], .sh (.lst (ks.map D.int)), .sh (.int e), .no, .no]).bind _).bind _).bind toD) = _
    rw [hB]
    rfl
  · show ks.length = 0 ↔ pcs.length = 0
    constructor
    · intro z; omega
    · intro z; exact (ok.z z) ▸ rfl
  · have s := ok.st k hk
    have p := (ok.pc k hk).2
    rw [keyP_len] at s
    show stAt pcs k = ((stAt pcs k).toNat : Nat) ∧ (stAt pcs k).toNat < (if k + 1 < pcs.length then (stAt pcs (k + 1)).toNat else ks.length) ∧ (if k + 1 < pcs.length then (stAt pcs (k + 1)).toNat else ks.length) ≤ ks.length
    refine ⟨by omega, p, ?_⟩
    split
    · rename_i hk2
      have := ok.st (k + 1) hk2
      rw [keyP_len] at this
      omega
    · exact Nat.le_refl _
  · show (stAt pcs 0).toNat = 0
    rw [ok.st0 z]
    rfl
  · exact (ok.pc k hk).1
  · have rl := ok.rl
    simp only [if_true] at rl
    have hk2 : k + 1 < pcs.length := hk
    obtain ⟨i, j, m, w1, w2, w3, w4, w5, w6, w7⟩ := ok.rs k (by omega)
    rw [if_pos hk2] at w5
    show (stAt pcs k).toNat + 2 ≤ (stAt pcs (k + 1)).toNat
    omega
  · have rl := ok.rl
    simp only [if_true] at rl
    have hk2 : k + 1 < pcs.length := hk
    obtain ⟨i, j, m, w1, w2, w3, w4, w5, w6, w7⟩ := ok.rs k (by omega)
    rw [if_pos hk2] at w5
    have hf : FitR (keyP ks) e (stAt pcs k).toNat ((stAt pcs (k + 1)).toNat + 1) := hf
    have := hf i j m w2 w3 w4 (by omega)
    rw [w7] at this
    cases this
/-- the height of a line with d from 1 on, by its floor -/
theorem floor_eq' (p q d x : Int) (hx : -(2 ^ 64) < x ∧ x < 2 ^ 64) (h0 : 0 < d) (hd : d < 2 ^ 64) : S_floor_at [encL (p, q, d), .int x] = some (.int ((p * x + q) / d)) := by
  refine sv_run ?_
  unfold B_floor_at
  refine sq_unp (d := encL (p, q, d)) (ev_V rfl) rfl ?_
  exact sv_ret (ev_op (ev_op (ev_op (ev_V rfl) (ev_V rfl) (d_mul (mulOk_r hx.1 hx.2))) (ev_V rfl) d_add) (ev_V rfl) (d_div h0 (log_of (k := 100) (show d.natAbs < 2 ^ 100 by omega) (by decide) (by decide))))
theorem ceil_eq' (p q d x : Int) (hx : -(2 ^ 64) < x ∧ x < 2 ^ 64) (h0 : 0 < d) (hd : d < 2 ^ 64) : S_ceiling_at [encL (p, q, d), .int x] = some (.int (-((-p * x - q) / d))) := by
  refine sv_run ?_
  unfold B_ceiling_at
  refine sq_unp (d := encL (p, q, d)) (ev_V rfl) rfl ?_
  exact sv_ret (ev_U (ev_op (ev_op (ev_op (ev_U (ev_V rfl) rfl) (ev_V rfl) (d_mul (mulOk_r hx.1 hx.2))) (ev_V rfl) d_sub) (ev_V rfl) (d_div h0 (log_of (k := 100) (show d.natAbs < 2 ^ 100 by omega) (by decide) (by decide)))) rfl)
/-- the last key of a piece that is not above x -/
structure LastAt (v : Lev) (k : Nat) (x : Int) (t : Nat) : Prop where
  lo : v.st k ≤ t
  hi : t < v.en k
  le : kAt v.ks t ≤ x
  gt : t + 1 < v.en k → x < kAt v.ks (t + 1)
theorem lastAt_ex {v : Lev} (h : LevOk v) {k : Nat} (hk : k < v.pcs.length) {x : Int} (hx : kAt v.ks (v.st k) ≤ x) : ∃ t, LastAt v k x t := by
  obtain ⟨s1, s2, s3⟩ := h.st k hk
  have : ∀ n, v.st k + n < v.en k → kAt v.ks (v.st k + n) ≤ x → ∃ t, LastAt v k x t := fun n => by
    have key : ∀ m n, v.en k - (v.st k + n) ≤ m → v.st k + n < v.en k → kAt v.ks (v.st k + n) ≤ x → ∃ t, LastAt v k x t := fun m => by
      induction m with
      | zero => intro n h1 h2; omega
      | succ m ih =>
        intro n h1 h2 h3
        by_cases y : v.st k + n + 1 < v.en k
        · by_cases z : kAt v.ks (v.st k + n + 1) ≤ x
          · exact ih (n + 1) (by omega) (by omega) z
          · exact ⟨v.st k + n, by omega, h2, h3, fun _ => by omega⟩
        · exact ⟨v.st k + n, by omega, h2, h3, fun z => absurd z y⟩
    exact key _ n (Nat.le_refl _)
  exact this 0 (by omega) hx
/-- the window in which it stands -/
theorem window_ok {v : Lev} (h : LevOk v) {k : Nat} (hk : k < v.pcs.length) {x : Int} {t : Nat} (T : LastAt v k x t) {p q d : Int} (hl : lnAt v.pcs k = (p, q, d)) :
    -((-p * x - q) / d) - 1 - v.e ≤ t ∨ (v.en k : Int) - 1 ≤ t := by
  have P := h.piece k hk
  rw [hl] at P
  have pd := P.d
  have en := (h.st k hk).2.2
  by_cases y : t + 1 < v.en k
  · left
    have n1 := (P.near (t + 1) (by have := T.lo; omega) y).2
    rw [keyP_at (by omega)] at n1
    simp only at n1 pd
    have p0 : 0 ≤ p := P.asc fun i i1 i2 => by
      rw [keyP_at (i := i) (by omega), keyP_at (i := i + 1) (by omega)]
      show (i : Int) < ((i + 1 : Nat) : Int)
      omega
    have gt := T.gt y
    have q1 := Int.mul_le_mul_of_nonneg_left (Int.le_of_lt gt) p0
    -- ceiling of the height <= t + 1 + e
    have : -(((t : Int) + 1 + v.e)) ≤ (-p * x - q) / d := by
      refine (Int.le_ediv_iff_mul_le (by omega)).mpr ?_
      have e1 : -((t : Int) + 1 + v.e) * d = -(((t : Int) + 1) * d) - v.e * d := by grind
      have e2 : -p * x - q = -(p * x) - q := by rw [Int.neg_mul]
      have e3 : (((t + 1 : Nat) : Int)) = (t : Int) + 1 := by omega
      rw [e3] at n1
      omega
    omega
  · right
    have := T.hi
    omega
theorem window_hi {v : Lev} (h : LevOk v) {k : Nat} (hk : k < v.pcs.length) {x : Int} {t : Nat} (T : LastAt v k x t) {p q d : Int} (hl : lnAt v.pcs k = (p, q, d)) : (t : Int) ≤ (p * x + q) / d + v.e := by
  have P := h.piece k hk
  rw [hl] at P
  have pd := P.d
  have en := (h.st k hk).2.2
  have n1 := (P.near t T.lo T.hi).1
  have th := T.hi
  rw [keyP_at (by omega)] at n1
  simp only at n1 pd
  have p0 : 0 ≤ p := P.asc fun i i1 i2 => by
    rw [keyP_at (i := i) (by omega), keyP_at (i := i + 1) (by omega)]
    show (i : Int) < ((i + 1 : Nat) : Int)
    omega
  have q1 := Int.mul_le_mul_of_nonneg_left T.le p0
  have : (t : Int) - v.e ≤ (p * x + q) / d := by
    refine (Int.le_ediv_iff_mul_le (by omega)).mpr ?_
    have e1 : ((t : Int) - v.e) * d = (t : Int) * d - v.e * d := by grind
    omega
  omega
theorem ceil_floor (a d : Int) (hd : 0 < d) : a / d - -(-a / d) ≤ 0 := by
  have h1 := Int.mul_ediv_self_le (x := a) (k := d) (by omega)
  have h2 := Int.mul_ediv_self_le (x := -a) (k := d) (by omega)
  by_cases x : a / d - -(-a / d) ≤ 0
  · exact x
  · have : 0 < d * (a / d + -a / d) := Int.mul_pos hd (by omega)
    rw [Int.mul_add] at this
    omega
def firsts (v : Lev) : List Int := (stsOf v.pcs).map fun s => kAt v.ks s.toNat
theorem firsts_len {v : Lev} : (firsts v).length = v.pcs.length := by simp [firsts, stsOf]
theorem firsts_at {v : Lev} {k : Nat} (hk : k < v.pcs.length) : kAt (firsts v) k = kAt v.ks (v.st k) := by
  unfold Lev.st stAt
  simp [firsts, kAt, stsOf, hk]
theorem LevOk.up {v : Lev} (h : LevOk v) : ∀ i j, i < j → j < v.pcs.length → v.st i < v.st j := fun i j => by
  induction j with
  | zero => intro z; omega
  | succ j ih =>
    intro h1 h2
    have := h.two j h2
    by_cases x : i = j
    · subst x; omega
    · have := ih (by omega) (by omega)
      omega
theorem LevOk.ge {v : Lev} (h : LevOk v) : ∀ j, j < v.pcs.length → 2 * j ≤ v.st j := fun j => by
  induction j with
  | zero => intro; omega
  | succ j ih =>
    intro h2
    have := h.two j h2
    have := ih (by omega)
    omega
theorem LevOk.few {v : Lev} (h : LevOk v) : v.pcs.length ≤ v.ks.length ∧ (1 < v.ks.length → v.pcs.length < v.ks.length) := by
  by_cases x : v.pcs.length = 0
  · omega
  · have := h.ge (v.pcs.length - 1) (by omega)
    have := (h.st (v.pcs.length - 1) (by omega)).2
    omega
theorem LevOk.firsts {v : Lev} (h : LevOk v) : Keys (firsts v) := by
  have f := h.few
  have hl := h.keys.len
  refine ⟨fun i j h1 h2 => ?_, fun i hi => ?_, by rw [firsts_len]; omega⟩
  · rw [firsts_len] at h2
    rw [firsts_at (by omega), firsts_at h2]
    have := (h.st j h2).2
    exact h.keys.asc _ _ (h.up i j h1 h2) (by omega)
  · rw [firsts_len] at hi
    rw [firsts_at hi]
    have := (h.st i hi).2
    exact h.keys.sm _ (by omega)
theorem first_keys_eq {v : Lev} (h : LevOk v) : S_Level_first_keys [levD v] = some (.lst ((firsts v).map D.int)) := by
  have key : ∀ cs : List (Int × Int × Int × Int), (∀ c ∈ cs, 0 ≤ c.1 ∧ c.1 < v.ks.length) → compL (gTg 2 (gTo (gN 1) (gTo (gN 2) gEnd))) gYes (gIx (gU (dFld 1 0) (gV 0)) (gV 1)) (cs.map encC) [.sh (levD v), .no, .no] = some ((cs.map fun c => kAt v.ks c.1.toNat).map D.int) := fun cs => by
    induction cs with
    | nil => intro; rfl
    | cons c cs ih =>
      intro hc
      obtain ⟨s, l⟩ := c
      have b := hc (s, l) List.mem_cons_self
      obtain ⟨k, rfl⟩ := Int.eq_ofNat_of_zero_le b.1
      have bk : k < v.ks.length := by have := b.2; omega
      have h1 : (gIx (gU (dFld 1 0) (gV 0)) (gV 1)) [.sh (levD v), .sh (.int k), .sh (encL l)] = some (.int (kAt v.ks k)) := ev_op (ev_U (x := levD v) (ev_V rfl) rfl) (ev_V rfl) (d_ixL (k := k) (by rw [List.getElem?_map, kAt_get bk]; rfl))
      rw [List.map_cons]
      show (((gIx (gU (dFld 1 0) (gV 0)) (gV 1)) [.sh (levD v), .sh (.int k), .sh (encL l)]).bind fun y => (compL (gTg 2 (gTo (gN 1) (gTo (gN 2) gEnd))) gYes (gIx (gU (dFld 1 0) (gV 0)) (gV 1)) (cs.map encC) [.sh (levD v), .no, .no]).bind fun r => some (y :: r)) = _
      rw [h1, ih (fun c hc' => hc c (List.mem_cons_of_mem _ hc'))]
      rfl
  have hall : ∀ c ∈ v.pcs, 0 ≤ c.1 ∧ c.1 < v.ks.length := fun c hc => by
    obtain ⟨k, hk, ek⟩ := List.mem_iff_getElem.mp hc
    obtain ⟨s1, s2, s3⟩ := h.st k hk
    have e2 : stAt v.pcs k = c.1 := by simp [stAt, stsOf, hk, ek]
    rw [← e2, s1]
    omega
  refine sv_run ?_
  unfold B_Level_first_keys
  refine sv_ret (ev_L (ev_lc (ds := v.pcs.map encC) (ev_it (ev_U (x := levD v) (ev_V rfl) rfl)) ?_ ?_))
  · have := h.few
    have := h.keys.len
    rw [List.length_map]; omega
  · refine (key v.pcs hall).trans ?_
    unfold firsts stsOf
    simp only [List.map_map]
    rfl
theorem mk_at {c : Nat} {S : Sl → List D → Option (D × Sl)} {fs : Ag} {Γ : DEnv} {ds : List D} {d : D} (h : fs Γ = some ds) (h2 : nD (gMk c S (fun _ => some ds)) [] = some d) : nD (gMk c S fs) Γ = some d := by
  unfold nD gMk at h2 ⊢
  rw [h]
  exact h2
/-- the level at a number -/
def lvAt (vs : List Lev) (j : Nat) : Lev := vs.getD j ⟨[], 0, []⟩
theorem lvAt_get {vs : List Lev} {j : Nat} (h : j < vs.length) : vs[j]? = some (lvAt vs j) := by simp [lvAt, h]
theorem lvAt_app {vs : List Lev} {v : Lev} {j : Nat} (h : j < vs.length) : lvAt (vs ++ [v]) j = lvAt vs j := by
  unfold lvAt
  rw [List.getD_eq_getElem?_getD, List.getD_eq_getElem?_getD, List.getElem?_append_left h]
theorem lvAt_new {vs : List Lev} {v : Lev} : lvAt (vs ++ [v]) vs.length = v := by
  unfold lvAt
  rw [List.getD_eq_getElem?_getD, List.getElem?_append_right (by simp)]
  simp
structure Tower (ks : List Int) (e u : Int) (vs : List Lev) : Prop where
  ne : 0 < vs.length
  lev : ∀ j, j < vs.length → LevOk (lvAt vs j)
  bot : (lvAt vs 0).ks = ks ∧ (lvAt vs 0).e = e
  up : ∀ j, j + 1 < vs.length → (lvAt vs (j + 1)).ks = firsts (lvAt vs j) ∧ (lvAt vs (j + 1)).e = u
  few : vs.length + (lvAt vs (vs.length - 1)).pcs.length < 6000
  more : ∀ j, j + 1 < vs.length → 1 < (lvAt vs j).pcs.length
theorem Tower.put {ks : List Int} {e u : Int} {vs : List Lev} (T : Tower ks e u vs) {pcs : List (Int × Int × Int × Int)} (h : LevOk ⟨firsts (lvAt vs (vs.length - 1)), u, pcs⟩) (h1 : 1 < (lvAt vs (vs.length - 1)).pcs.length) : Tower ks e u (vs ++ [⟨firsts (lvAt vs (vs.length - 1)), u, pcs⟩]) ∧ pcs.length < (lvAt vs (vs.length - 1)).pcs.length := by
  have ne := T.ne
  have f : pcs.length < (lvAt vs (vs.length - 1)).pcs.length := by
    have := h.few.2
    simp only [firsts_len] at this
    exact this h1
  have hl : (vs ++ [(⟨firsts (lvAt vs (vs.length - 1)), u, pcs⟩ : Lev)]).length = vs.length + 1 := by simp
  refine ⟨⟨by omega, fun j hj => ?_, ?_, fun j hj => ?_, ?_, fun j hj => ?_⟩, f⟩
  · rw [hl] at hj
    by_cases x : j < vs.length
    · rw [lvAt_app x]; exact T.lev j x
    · obtain rfl : j = vs.length := by omega
      rw [lvAt_new]; exact h
  · rw [lvAt_app ne]; exact T.bot
  · rw [hl] at hj
    rw [lvAt_app (j := j) (by omega)]
    by_cases x : j + 1 < vs.length
    · rw [lvAt_app x]; exact T.up j x
    · have e1 : j + 1 = vs.length := by omega
      rw [e1, lvAt_new]
      have e2 : vs.length - 1 = j := by omega
      rw [e2]
      exact ⟨rfl, rfl⟩
  · rw [hl]
    have e1 : vs.length + 1 - 1 = vs.length := by omega
    rw [e1, lvAt_new]
    have := T.few
    show vs.length + 1 + pcs.length < 6000
    omega
  · rw [hl] at hj
    rw [lvAt_app (j := j) (by omega)]
    by_cases x : j + 1 < vs.length
    · exact T.more j x
    · have e2 : vs.length - 1 = j := by omega
      rw [e2] at h1
      exact h1
def indD (ks : List Int) (vs : List Lev) : D := .obj 2 [.lst (ks.map D.int), .lst (vs.map levD)]
def tCond : Te := gT (gOp dGt (gU dLen (gU (dFld 1 2) (gIx (gPB 0 [(2, 1)]) (gU dNeg (gI 1))))) (gI 1))
noncomputable def tBody : Sm := sApp 0 [(2, 1)] (nD (gMk 1 S_Level___init__ (aC (gMeth 1 S_Level_first_keys (gIx (gPB 0 [(2, 1)]) (gU dNeg (gI 1))) aN) (aC (gV 3) aN))))
abbrev tEnv (ks : List Int) (vs : List Lev) (e u : Int) : DEnv := [.ob 2 [.sh (.lst (ks.map D.int)), .ow (vs.map levD)], .sh (.lst (ks.map D.int)), .sh (.int e), .sh (.int u)]
theorem atI_end {α : Type} {xs : List α} {z : α} (h : xs ≠ []) : atI xs (-1) = some (xs.getD (xs.length - 1) z) := by
  have hp : 0 < xs.length := List.length_pos_iff.mpr h
  unfold atI ixN
  rw [if_neg (by omega), if_pos (by omega)]
  show xs[(-1 + (xs.length : Int)).toNat]? = _
  have e : (-1 + (xs.length : Int)).toNat = xs.length - 1 := by omega
  rw [e, List.getD_eq_getElem?_getD, List.getElem?_eq_getElem (by omega)]
  rfl
theorem last_at {vs : List Lev} (h : 0 < vs.length) : dIx (.lst (vs.map levD)) (.int (-1)) = some (levD (lvAt vs (vs.length - 1))) := by
  show atI (vs.map levD) (-1) = _
  rw [atI_map]
  have ne : vs ≠ [] := fun z => by rw [z] at h; simp at h
  rw [atI_end (z := (⟨[], 0, []⟩ : Lev)) ne]
  rfl
theorem tower_loop {ks : List Int} {e u : Int} (hu : 0 ≤ u ∧ u < 2 ^ 20) : ∀ (r : Nat) (vs : List Lev), (lvAt vs (vs.length - 1)).pcs.length ≤ r → Tower ks e u vs →
    ∃ (n : Nat) (vs' : List Lev), whileN n tCond tBody (tEnv ks vs e u) = some (.nx (tEnv ks vs' e u)) ∧ Tower ks e u vs' ∧ (lvAt vs' (vs'.length - 1)).pcs.length ≤ 1 := fun r => by
  have hl : ∀ vs : List Lev, 0 < vs.length → gIx (gPB 0 [(2, 1)]) (gU dNeg (gI 1)) (tEnv ks vs e u) = some (levD (lvAt vs (vs.length - 1))) := fun vs h => ev_op (x := .lst (vs.map levD)) (y := .int (-1)) rfl (ev_U ev_I rfl) (last_at h)
  have hc : ∀ vs : List Lev, 0 < vs.length → tCond (tEnv ks vs e u) = some (decide (((lvAt vs (vs.length - 1)).pcs.length : Int) > 1)) := fun vs h => by
    unfold tCond
    exact ev_T (ev_op (x := .int (lvAt vs (vs.length - 1)).pcs.length) (ev_U (ev_U (hl vs h) rfl) (by rw [d_lenL, List.length_map])) ev_I rfl)
  have stop : ∀ vs : List Lev, Tower ks e u vs → (lvAt vs (vs.length - 1)).pcs.length ≤ 1 → ∃ (n : Nat) (vs' : List Lev), whileN n tCond tBody (tEnv ks vs e u) = some (.nx (tEnv ks vs' e u)) ∧ Tower ks e u vs' ∧ (lvAt vs' (vs'.length - 1)).pcs.length ≤ 1 := fun vs T h1 =>
    ⟨1, vs, whileN_no (by rw [hc vs T.ne, decide_eq_false (by omega)]), T, h1⟩
  induction r with
  | zero => exact fun vs h T => stop vs T (by omega)
  | succ r ih =>
    intro vs h T
    by_cases x : (lvAt vs (vs.length - 1)).pcs.length ≤ 1
    · exact stop vs T x
    · have L := T.lev (vs.length - 1) (by have := T.ne; omega)
      obtain ⟨pcs, h1, h2⟩ := level_eq L.firsts hu
      obtain ⟨T2, lt⟩ := T.put h2 (by omega)
      have b : tBody (tEnv ks vs e u) = some (.nx (tEnv ks (vs ++ [⟨firsts (lvAt vs (vs.length - 1)), u, pcs⟩]) e u)) := by
        unfold tBody
        have few := T.few
        have := sv_app (i := 0) (rp := [(2, 1)]) (Γ := tEnv ks vs e u) (f := nD (gMk 1 S_Level___init__ (aC (gMeth 1 S_Level_first_keys (gIx (gPB 0 [(2, 1)]) (gU dNeg (gI 1))) aN) (aC (gV 3) aN)))) (xs := vs.map levD) (d := levD ⟨firsts (lvAt vs (vs.length - 1)), u, pcs⟩) (mk_at (ev_cs (ev_meth (hl vs T.ne) ev_nl (first_keys_eq L)) (ev_cs (ev_V rfl) ev_nl)) h1) rfl rfl (by rw [List.length_map]; omega) rfl
        refine this.trans ?_
        unfold tEnv
        rw [List.map_append]
        rfl
      have e1 : (vs ++ [(⟨firsts (lvAt vs (vs.length - 1)), u, pcs⟩ : Lev)]).length - 1 = vs.length := by simp
      obtain ⟨n, vs', w1, w2, w3⟩ := ih (vs ++ [⟨firsts (lvAt vs (vs.length - 1)), u, pcs⟩]) (by rw [e1, lvAt_new]; show pcs.length ≤ r; omega) T2
      exact ⟨n + 1, vs', whileN_nx (by rw [hc vs T.ne, decide_eq_true (by omega)]) b w1, w2, w3⟩
theorem index_eq {ks : List Int} {e u : Int} (h : Keys ks) (he : 0 ≤ e ∧ e < 2 ^ 20) (hu : 0 ≤ u ∧ u < 2 ^ 20) : ∃ vs : List Lev, nD (gMk 2 S_Index___init__ (fun _ => some [.lst (ks.map D.int), .int e, .int u])) [] = some (indD ks vs) ∧ Tower ks e u vs ∧ (lvAt vs (vs.length - 1)).pcs.length ≤ 1 := by
  obtain ⟨pcs, h1, h2⟩ := level_eq h he
  have T0 : Tower ks e u [⟨ks, e, pcs⟩] := by
    refine ⟨by simp, fun j hj => ?_, ⟨rfl, rfl⟩, fun j hj => by simp at hj, ?_, fun j hj => by simp at hj⟩
    · obtain rfl : j = 0 := by simp at hj; exact hj
      exact h2
    · show 1 + pcs.length < 6000
      have := h.len
      have f : pcs.length ≤ ks.length := h2.few.1
      omega
  obtain ⟨n, vs, w, T, one⟩ := tower_loop hu pcs.length [⟨ks, e, pcs⟩] (Nat.le_refl _) T0
  refine ⟨vs, ?_, T, one⟩
  have hB : B_Index___init__ [.ob 2 [], .sh (.lst (ks.map D.int)), .sh (.int e), .sh (.int u)] = some (.nx (tEnv ks vs e u)) := by
    unfold B_Index___init__
    refine sv_nx (Γ1 := [.ob 2 [.sh (.lst (ks.map D.int))], .sh (.lst (ks.map D.int)), .sh (.int e), .sh (.int u)]) rfl ?_
    refine sv_nx (Γ1 := tEnv ks [⟨ks, e, pcs⟩] e u) ?_ (sWhile_of w)
    show ((nOw (aC (nD (gMk 1 S_Level___init__ (aC (gPE 0 [(2, 0)]) (aC (gV 2) aN)))) aN) [.ob 2 [.sh (.lst (ks.map D.int))], .sh (.lst (ks.map D.int)), .sh (.int e), .sh (.int u)]).bind _) = _
    have hm : aC (nD (gMk 1 S_Level___init__ (aC (gPE 0 [(2, 0)]) (aC (gV 2) aN)))) aN [.ob 2 [.sh (.lst (ks.map D.int))], .sh (.lst (ks.map D.int)), .sh (.int e), .sh (.int u)] = some [levD ⟨ks, e, pcs⟩] := ev_cs (mk_at (ev_cs (d := .lst (ks.map D.int)) rfl (ev_cs (ev_V rfl) ev_nl)) h1) ev_nl
    unfold nOw
    rw [hm]
    rfl
  show (((S_Index___init__ (.ob 2 []) [.lst (ks.map D.int), .int e, .int u]).bind _).bind toD) = _
  unfold S_Index___init__ runM
  show ((((B_Index___init__ [.ob 2 [], .sh (.lst (ks.map D.int)), .sh (.int e), .sh (.int u)]).bind _).bind _).bind toD) = _
  rw [hB]
  rfl
theorem wq_appX {F' : Sm} {Γ : DEnv} {P : Res → Prop} {sx : Sx} {f : Ex} {xs : List D} {d : D} (h : sx Γ = some (.ow xs)) (hf : f Γ = some d) (hl : xs.length < 1000000) (k : W F' Γ P) : W (sSeq (sAppX sx f) F') Γ P := by
  refine W_seq ⟨.nx Γ, ?_, k⟩
  unfold sAppX
  rw [h]
  show ((f Γ).bind fun _ => if xs.length < 1000000 then some (Res.nx Γ) else none) = _
  rw [hf]
  show (if xs.length < 1000000 then some (Res.nx Γ) else none) = _
  rw [if_pos hl]
theorem wq_appXi {F' : Sm} {Γ : DEnv} {P : Res → Prop} {sx : Sx} {f : Ex} {ss : List Sl} {i : Int} {xs : List D} {d : D} (h : sx Γ = some (.ol ss)) (hi : atI ss i = some (.ow xs)) (hf : f Γ = some d) (hl : xs.length < 1000000) (k : W F' Γ P) : W (sSeq (sAppXi sx i f) F') Γ P := by
  refine W_seq ⟨.nx Γ, ?_, k⟩
  unfold sAppXi
  rw [h]
  show ((atI ss i).bind _) = _
  rw [hi]
  show ((f Γ).bind fun _ => if xs.length < 1000000 then some (Res.nx Γ) else none) = _
  rw [hf]
  show (if xs.length < 1000000 then some (Res.nx Γ) else none) = _
  rw [if_pos hl]
/-! entries: lists of keys with values, none for a key that was removed -/
abbrev Ents := List (Int × Option Int)
def optD : Option Int → D
  | none => .non
  | some i => .int i
def encE (e : Int × Option Int) : D := .tup [.int e.1, optD e.2]
def keysE (es : Ents) : List Int := es.map (·.1)
def AscE (es : Ents) : Prop := (keysE es).Pairwise (· < ·)
def lookE (es : Ents) (k : Int) : Option (Option Int) := (es.find? fun e => e.1 == k).map (·.2)
theorem lookE_nil (k : Int) : lookE [] k = none := rfl
theorem lookE_cons (e : Int × Option Int) (es : Ents) (k : Int) : lookE (e :: es) k = if e.1 = k then some e.2 else lookE es k := by
  unfold lookE
  rw [List.find?_cons]
  by_cases h : e.1 = k
  · rw [if_pos h, show (e.1 == k) = true from beq_iff_eq.mpr h]
    rfl
  · rw [if_neg h, show (e.1 == k) = false from beq_eq_false_iff_ne.mpr h]
theorem lookE_app (es fs : Ents) (k : Int) : lookE (es ++ fs) k = (lookE es k).or (lookE fs k) := by
  induction es with
  | nil => simp [lookE_nil]
  | cons e es ih =>
    rw [List.cons_append, lookE_cons, lookE_cons, ih]
    by_cases h : e.1 = k
    · rw [if_pos h, if_pos h]; rfl
    · rw [if_neg h, if_neg h]
theorem lookE_none {es : Ents} {k : Int} : lookE es k = none ↔ k ∉ keysE es := by
  induction es with
  | nil => simp [lookE_nil, keysE]
  | cons e es ih =>
    rw [lookE_cons]
    unfold keysE at ih ⊢
    rw [List.map_cons, List.mem_cons]
    by_cases h : e.1 = k
    · rw [if_pos h]; simp [h]
    · rw [if_neg h, ih]
      have : ¬ k = e.1 := fun z => h z.symm
      simp [this]
theorem lookE_mem {es : Ents} {k : Int} {v : Option Int} (h : lookE es k = some v) : (k, v) ∈ es := by
  induction es with
  | nil => cases h
  | cons e es ih =>
    rw [lookE_cons] at h
    by_cases z : e.1 = k
    · rw [if_pos z] at h
      cases h
      rw [← z]
      exact List.mem_cons_self
    · rw [if_neg z] at h
      exact List.mem_cons_of_mem _ (ih h)
theorem lookE_of {es : Ents} (hn : (keysE es).Nodup) {e : Int × Option Int} (h : e ∈ es) : lookE es e.1 = some e.2 := by
  induction es with
  | nil => simp at h
  | cons f es ih =>
    unfold keysE at hn ih
    rw [List.map_cons, List.nodup_cons] at hn
    rw [lookE_cons]
    rcases List.mem_cons.mp h with rfl | h
    · rw [if_pos rfl]
    · rw [if_neg (fun z => hn.1 (by rw [z]; exact List.mem_map_of_mem h))]
      exact ih hn.2 h
theorem AscE.nodup {es : Ents} (h : AscE es) : (keysE es).Nodup := h.imp fun {a b} h e => by omega
theorem AscE.tail {e : Int × Option Int} {es : Ents} (h : AscE (e :: es)) : AscE es := by
  unfold AscE keysE at h ⊢
  rw [List.map_cons, List.pairwise_cons] at h
  exact h.2
theorem AscE.head {e : Int × Option Int} {es : Ents} (h : AscE (e :: es)) {k : Int} (hk : k ∈ keysE es) : e.1 < k := by
  unfold AscE keysE at h
  rw [List.map_cons, List.pairwise_cons] at h
  exact h.1 k hk
/-- ascending entries are told by what they say of each key -/
theorem asc_ext : ∀ {es fs : Ents}, AscE es → AscE fs → (∀ k, lookE es k = lookE fs k) → es = fs
  | [], [], _, _, _ => rfl
  | [], f :: fs, _, _, h => by
    have := h f.1
    rw [lookE_cons, if_pos rfl] at this
    cases this
  | e :: es, [], _, _, h => by
    have := h e.1
    rw [lookE_cons, if_pos rfl] at this
    cases this
  | e :: es, f :: fs, h1, h2, h => by
    have key : e.1 = f.1 := by
      have a := h e.1
      have b := h f.1
      rw [lookE_cons, if_pos rfl, lookE_cons] at a
      rw [lookE_cons, lookE_cons, if_pos rfl] at b
      by_cases z : f.1 = e.1
      · exact z.symm
      · rw [if_neg z] at a
        have m1 : e.1 ∈ keysE fs := by
          by_cases w : e.1 ∈ keysE fs
          · exact w
          · rw [lookE_none.mpr w] at a; cases a
        rw [if_neg (fun w => z w.symm)] at b
        have m2 : f.1 ∈ keysE es := by
          by_cases w : f.1 ∈ keysE es
          · exact w
          · rw [lookE_none.mpr w] at b; cases b
        have := h2.head m1
        have := h1.head m2
        omega
    have val : e.2 = f.2 := by
      have a := h e.1
      rw [lookE_cons, if_pos rfl, lookE_cons, if_pos key.symm] at a
      exact Option.some.inj a
    have tl : es = fs := asc_ext h1.tail h2.tail fun k => by
      have a := h k
      rw [lookE_cons, lookE_cons] at a
      by_cases z : e.1 = k
      · have n1 : k ∉ keysE es := fun m => by have := h1.head m; omega
        have n2 : k ∉ keysE fs := fun m => by have := h2.head m; omega
        rw [lookE_none.mpr n1, lookE_none.mpr n2]
      · rw [if_neg z, if_neg (fun w => z (key.trans w))] at a
        exact a
    rw [tl, show e = f from Prod.ext key val]
/-- entries filtered -/
theorem lookE_filter {es : Ents} (hn : (keysE es).Nodup) (t : Option Int → Bool) (k : Int) : lookE (es.filter fun e => t e.2) k = (lookE es k).bind fun v => if t v = true then some v else none := by
  induction es with
  | nil => rfl
  | cons e es ih =>
    unfold keysE at hn ih
    rw [List.map_cons, List.nodup_cons] at hn
    have ih := ih hn.2
    rw [List.filter_cons, lookE_cons]
    by_cases z : e.1 = k
    · rw [if_pos z]
      by_cases w : t e.2 = true
      · rw [if_pos w, lookE_cons, if_pos z, Option.bind_some, if_pos w]
      · rw [if_neg w, Option.bind_some, if_neg w]
        refine lookE_none.mpr fun m => hn.1 ?_
        unfold keysE at m
        obtain ⟨f, hf, ef⟩ := List.mem_map.mp m
        rw [z, ← ef]
        exact List.mem_map_of_mem (List.mem_filter.mp hf).1
    · rw [if_neg z]
      by_cases w : t e.2 = true
      · rw [if_pos w, lookE_cons, if_neg z]; exact ih
      · rw [if_neg w]; exact ih
theorem AscE.filter {es : Ents} (h : AscE es) (p : Int × Option Int → Bool) : AscE (es.filter p) := by
  unfold AscE keysE at h ⊢
  exact List.Pairwise.sublist (List.filter_sublist.map _) h
/-! a dict of ints with such values -/
def putE (m : Ents) (k : Int) (v : Option Int) : Ents := if (lookE m k).isSome then m.map (fun e => if e.1 = k then (e.1, v) else e) else m ++ [(k, v)]
theorem lookE_putE (m : Ents) (k : Int) (v : Option Int) (j : Int) : lookE (putE m k v) j = if k = j then some v else lookE m j := by
  have rep : ∀ m : Ents, (lookE m k).isSome = true → lookE (m.map fun e => if e.1 = k then (e.1, v) else e) j = if k = j then some v else lookE m j := fun m => by
    induction m with
    | nil => intro h; cases h
    | cons e m ih =>
      intro h
      rw [List.map_cons, lookE_cons, lookE_cons]
      rw [lookE_cons] at h
      by_cases z : e.1 = k
      · rw [if_pos z]
        by_cases w : k = j
        · rw [if_pos (z.trans w), if_pos w]
        · rw [if_neg (fun q => w (z.symm.trans q)), if_neg w, if_neg (fun q => w (z.symm.trans q))]
          -- the rest keeps what it says of j
          have other : ∀ m : Ents, lookE (m.map fun e => if e.1 = k then (e.1, v) else e) j = lookE m j := fun m => by
            induction m with
            | nil => rfl
            | cons f m ih =>
              rw [List.map_cons, lookE_cons, lookE_cons, ih]
              by_cases y : f.1 = k
              · rw [if_pos y, if_neg (fun q => w (y.symm.trans q)), if_neg (fun q => w (y.symm.trans q))]
              · rw [if_neg y]
          exact other m
      · rw [if_neg z] at h ⊢
        have ih := ih h
        rw [ih]
        by_cases w : k = j
        · rw [if_pos w, if_neg (fun q => z (q.trans w.symm)), if_pos w]
        · rw [if_neg w, if_neg w]
  unfold putE
  by_cases h : (lookE m k).isSome = true
  · rw [if_pos h]; exact rep m h
  · rw [if_neg h, lookE_app, lookE_cons, lookE_nil]
    have hn : lookE m k = none := by simpa using h
    by_cases w : k = j
    · subst w; rw [hn, if_pos rfl]; rfl
    · simp [w]
theorem keys_putE (m : Ents) (k : Int) (v : Option Int) : keysE (putE m k v) = if (lookE m k).isSome then keysE m else keysE m ++ [k] := by
  unfold putE
  by_cases h : (lookE m k).isSome = true
  · rw [if_pos h, if_pos h]
    unfold keysE
    rw [List.map_map]
    apply List.map_congr_left
    intro e _
    show (if e.1 = k then (e.1, v) else e).1 = e.1
    split <;> rfl
  · rw [if_neg h, if_neg h]
    unfold keysE
    rw [List.map_append]
    rfl
theorem nodup_putE {m : Ents} (h : (keysE m).Nodup) (k : Int) (v : Option Int) : (keysE (putE m k v)).Nodup := by
  rw [keys_putE]
  by_cases z : (lookE m k).isSome = true
  · rw [if_pos z]; exact h
  · rw [if_neg z]
    have hn : k ∉ keysE m := lookE_none.mp (by simpa using z)
    refine List.nodup_append.mpr ⟨h, by simp, fun a ha b hb e => ?_⟩
    rw [List.mem_singleton] at hb
    subst hb e
    exact hn ha
theorem len_putE (m : Ents) (k : Int) (v : Option Int) : (putE m k v).length ≤ m.length + 1 := by
  unfold putE
  split
  · rw [List.length_map]; omega
  · rw [List.length_append]; exact Nat.le_refl _
/-- the entries of a dict in order -/
def ordE (m : Ents) : Ents := (srt (keysE m)).map fun k => (k, (lookE m k).getD none)
theorem keys_ordE (m : Ents) : keysE (ordE m) = srt (keysE m) := by
  unfold ordE keysE
  rw [List.map_map]
  exact List.map_id _
theorem asc_ordE {m : Ents} (h : (keysE m).Nodup) : AscE (ordE m) := by
  unfold AscE
  rw [keys_ordE]
  have h1 := srt_le (keysE m)
  have h2 : (srt (keysE m)).Nodup := (srt_perm _).nodup_iff.mpr h
  exact (h1.and h2).imp fun ⟨a, b⟩ => by omega
theorem look_ordE {m : Ents} (h : (keysE m).Nodup) (k : Int) : lookE (ordE m) k = lookE m k := by
  cases q : lookE m k with
  | none =>
    refine lookE_none.mpr ?_
    rw [keys_ordE, (srt_perm _).mem_iff]
    exact lookE_none.mp q
  | some v =>
    have hk : k ∈ srt (keysE m) := (srt_perm _).mem_iff.mpr (by
      by_cases w : k ∈ keysE m
      · exact w
      · rw [lookE_none.mpr w] at q; cases q)
    have hm : (k, v) ∈ ordE m := by
      unfold ordE
      refine List.mem_map.mpr ⟨k, hk, ?_⟩
      rw [q]
      rfl
    have := lookE_of (asc_ordE h).nodup hm
    exact this
theorem len_ordE (m : Ents) : (ordE m).length = m.length := by
  unfold ordE
  rw [List.length_map, (srt_perm _).length_eq]
  unfold keysE
  rw [List.length_map]
/-- for each key the first entry counts -/
def addE (m : Ents) (es : Ents) : Ents := es.foldl (fun m e => if (lookE m e.1).isSome then m else putE m e.1 e.2) m
def mrgE (parts : List Ents) : Ents := ordE (parts.foldl addE [])
theorem addE_spec : ∀ (es m : Ents), (keysE m).Nodup → (keysE (addE m es)).Nodup ∧ (∀ k, lookE (addE m es) k = (lookE m k).or (lookE es k)) ∧ (addE m es).length ≤ m.length + es.length
  | [], m, h => ⟨h, fun k => by rw [lookE_nil]; simp [addE], Nat.le_refl _⟩
  | e :: es, m, h => by
    show (keysE (addE (if (lookE m e.1).isSome then m else putE m e.1 e.2) es)).Nodup ∧ _
    by_cases z : (lookE m e.1).isSome = true
    · obtain ⟨a, b, c⟩ := addE_spec es m h
      have ee : addE m (e :: es) = addE m es := by
        show addE (if (lookE m e.1).isSome then m else putE m e.1 e.2) es = _
        rw [if_pos z]
      rw [if_pos z, ee]
      refine ⟨a, fun k => ?_, by simp only [List.length_cons]; omega⟩
      rw [b k, lookE_cons]
      by_cases w : e.1 = k
      · subst w
        obtain ⟨v, hv⟩ := Option.isSome_iff_exists.mp z
        rw [hv]; rfl
      · rw [if_neg w]
    · obtain ⟨a, b, c⟩ := addE_spec es (putE m e.1 e.2) (nodup_putE h _ _)
      have ee : addE m (e :: es) = addE (putE m e.1 e.2) es := by
        show addE (if (lookE m e.1).isSome then m else putE m e.1 e.2) es = _
        rw [if_neg z]
      have l := len_putE m e.1 e.2
      rw [if_neg z, ee]
      refine ⟨a, fun k => ?_, by simp only [List.length_cons]; omega⟩
      rw [b k, lookE_putE, lookE_cons]
      have hn : lookE m e.1 = none := by simpa using z
      by_cases w : e.1 = k
      · subst w
        rw [if_pos rfl, if_pos rfl, hn]; rfl
      · rw [if_neg w, if_neg w]
theorem addAll_spec : ∀ (ps : List Ents) (m : Ents), (keysE m).Nodup → (keysE (ps.foldl addE m)).Nodup ∧ (∀ k, lookE (ps.foldl addE m) k = (lookE m k).or (ps.findSome? fun p => lookE p k)) ∧ (ps.foldl addE m).length ≤ m.length + (ps.map List.length).sum
  | [], m, h => ⟨h, fun k => by simp, by simp⟩
  | p :: ps, m, h => by
    obtain ⟨a, b, c⟩ := addE_spec p m h
    obtain ⟨a2, b2, c2⟩ := addAll_spec ps (addE m p) a
    rw [List.foldl_cons]
    refine ⟨a2, fun k => ?_, by rw [List.map_cons, List.sum_cons]; omega⟩
    rw [b2 k, b k, List.findSome?_cons]
    cases lookE m k <;> cases lookE p k <;> simp
theorem mrgE_spec (ps : List Ents) : AscE (mrgE ps) ∧ (∀ k, lookE (mrgE ps) k = ps.findSome? fun p => lookE p k) ∧ (mrgE ps).length ≤ (ps.map List.length).sum := by
  obtain ⟨a, b, c⟩ := addAll_spec ps [] (by simp [keysE])
  refine ⟨asc_ordE a, fun k => ?_, ?_⟩
  · unfold mrgE
    rw [look_ordE a, b k, lookE_nil]
    rfl
  · unfold mrgE
    rw [len_ordE]
    simpa using c
theorem mrgE_two (a b : Ents) (ps : List Ents) : mrgE (a :: b :: ps) = mrgE (mrgE [a, b] :: ps) := by
  refine asc_ext (mrgE_spec _).1 (mrgE_spec _).1 fun k => ?_
  rw [(mrgE_spec _).2.1, (mrgE_spec _).2.1, List.findSome?_cons, List.findSome?_cons, List.findSome?_cons, (mrgE_spec [a, b]).2.1, List.findSome?_cons, List.findSome?_cons]
  cases lookE a k <;> cases lookE b k <;> simp
theorem mrgE_one {a : Ents} (h : AscE a) : mrgE [a] = a := by
  refine asc_ext (mrgE_spec _).1 h fun k => ?_
  rw [(mrgE_spec _).2.1, List.findSome?_cons]
  cases lookE a k <;> simp
/-- .. the last one counts -/
theorem over_spec : ∀ (es m : Ents), (keysE m).Nodup → (keysE es).Nodup → (keysE (es.foldl (fun m e => putE m e.1 e.2) m)).Nodup ∧ (∀ k, lookE (es.foldl (fun m e => putE m e.1 e.2) m) k = (lookE es k).or (lookE m k)) ∧ (es.foldl (fun m e => putE m e.1 e.2) m).length ≤ m.length + es.length
  | [], m, h, _ => ⟨h, fun k => by simp [lookE_nil], Nat.le_refl _⟩
  | e :: es, m, h, hn => by
    have hn' := hn
    unfold keysE at hn
    rw [List.map_cons, List.nodup_cons] at hn
    obtain ⟨a, b, c⟩ := over_spec es (putE m e.1 e.2) (nodup_putE h _ _) hn.2
    have l := len_putE m e.1 e.2
    rw [List.foldl_cons]
    refine ⟨a, fun k => ?_, by simp only [List.length_cons]; omega⟩
    rw [b k, lookE_putE, lookE_cons]
    by_cases w : e.1 = k
    · subst w
      rw [if_pos rfl, if_pos rfl, lookE_none.mpr hn.1]; rfl
    · rw [if_neg w, if_neg w]
theorem over_two {newer older : Ents} (h1 : AscE newer) (h2 : AscE older) : ordE (newer.foldl (fun m e => putE m e.1 e.2) (older.foldl (fun m e => putE m e.1 e.2) [])) = mrgE [newer, older] := by
  obtain ⟨a, b, _⟩ := over_spec older [] (by simp [keysE]) h2.nodup
  obtain ⟨c, d, _⟩ := over_spec newer _ a h1.nodup
  refine asc_ext (asc_ordE c) (mrgE_spec _).1 fun k => ?_
  rw [look_ordE c, d k, b k, (mrgE_spec _).2.1, List.findSome?_cons, List.findSome?_cons, lookE_nil]
  cases lookE newer k <;> cases lookE older k <;> simp
/-! dicts of entries, as data -/
def ksE (m : Ents) : List Key := m.map fun e => Sum.inl e.1
def xsE (m : Ents) : List D := m.map fun e => optD e.2
theorem ksE_len (m : Ents) : (ksE m).length = m.length := by unfold ksE; rw [List.length_map]
theorem hasK_E (m : Ents) (k : Int) : hasK (ksE m) (.inl k) = (lookE m k).isSome := by
  induction m with
  | nil => rfl
  | cons e m ih =>
    unfold hasK ksE at ih ⊢
    rw [List.map_cons, List.any_cons, ih, lookE_cons]
    by_cases h : e.1 = k
    · rw [if_pos h, h]; simp
    · rw [if_neg h]; simp [h]
theorem zip_E (m : Ents) : (ksE m).zip (xsE m) = m.map fun e => ((Sum.inl e.1 : Key), optD e.2) := by
  unfold ksE xsE
  induction m with
  | nil => rfl
  | cons e m ih => rw [List.map_cons, List.map_cons, List.zip_cons_cons, ih, List.map_cons]
theorem valX_E (m : Ents) (k : Int) : valX (ksE m) (xsE m) (.inl k) = (lookE m k).map optD := by
  unfold valX
  rw [zip_E]
  induction m with
  | nil => rfl
  | cons e m ih =>
    rw [List.map_cons, List.find?_cons, lookE_cons]
    by_cases h : e.1 = k
    · rw [if_pos h, h]; simp
    · rw [if_neg h, ← ih]
      have : decide ((Sum.inl e.1 : Key) = Sum.inl k) = false := by simp [h]
      simp only [this]
theorem putKs_E (m : Ents) (k : Int) (v : Option Int) : putKs (ksE m) (.inl k) = ksE (putE m k v) := by
  unfold putKs putE
  rw [hasK_E]
  by_cases h : (lookE m k).isSome = true
  · rw [if_pos h, if_pos h]
    unfold ksE
    rw [List.map_map]
    apply List.map_congr_left
    intro e _
    show (Sum.inl e.1 : Key) = Sum.inl (if e.1 = k then (e.1, v) else e).1
    split <;> rfl
  · rw [if_neg h, if_neg h]
    unfold ksE
    rw [List.map_append]
    rfl
theorem putXs_E (m : Ents) (k : Int) (v : Option Int) : putXs (ksE m) (xsE m) (.inl k) (optD v) = xsE (putE m k v) := by
  unfold putXs putE
  rw [hasK_E]
  by_cases h : (lookE m k).isSome = true
  · rw [if_pos h, if_pos h, zip_E]
    unfold xsE
    rw [List.map_map, List.map_map]
    apply List.map_congr_left
    intro e _
    show (if (Sum.inl e.1 : Key) = Sum.inl k then optD v else optD e.2) = optD (if e.1 = k then (e.1, v) else e).2
    by_cases z : e.1 = k
    · rw [if_pos z, if_pos (by rw [z])]
    · rw [if_neg z, if_neg (by simp [z])]
  · rw [if_neg h, if_neg h]
    unfold xsE
    rw [List.map_append]
    rfl
theorem intKs_E (m : Ents) : intKs (ksE m) = some (keysE m) := by
  have : ksE m = (keysE m).map Sum.inl := by unfold ksE keysE; rw [List.map_map]; rfl
  rw [this, intKs_inl]
theorem d_dnin {m : Ents} {k : Int} : dDnin (.int k) (.dic (ksE m) (xsE m)) = some (.bl (!(lookE m k).isSome)) := by
  show some (D.bl (!hasK (ksE m) (.inl k))) = _
  rw [hasK_E]
theorem d_din {m : Ents} {k : Int} : dDin (.int k) (.dic (ksE m) (xsE m)) = some (.bl (lookE m k).isSome) := by
  show some (D.bl (hasK (ksE m) (.inl k))) = _
  rw [hasK_E]
theorem d_dget {m : Ents} {k : Int} {v : Option Int} (h : lookE m k = some v) : dDget (.dic (ksE m) (xsE m)) (.int k) = some (optD v) := by
  show valX (ksE m) (xsE m) (.inl k) = _
  rw [valX_E, h]
  rfl
theorem d_dget1 {m : Ents} {k : Int} : dDget1 (.dic (ksE m) (xsE m)) (.int k) = some (optD ((lookE m k).getD none)) := by
  show some ((valX (ksE m) (xsE m) (.inl k)).getD .non) = _
  rw [valX_E]
  cases lookE m k <;> rfl
theorem d_sortedK {m : Ents} : dSortedK (.dic (ksE m) (xsE m)) = some ((srt (keysE m)).map D.int) := by
  show (intKs (ksE m)).bind _ = _
  rw [intKs_E]
  rfl
theorem d_listK {m : Ents} : dListK (.dic (ksE m) (xsE m)) = some ((keysE m).map D.int) := by
  show some ((ksE m).map keyD0) = _
  unfold ksE keysE
  rw [List.map_map, List.map_map]
  rfl
theorem ev_Bd {Γ : DEnv} {i : Nat} {ks : List Key} {xs : List D} (h : Γ[i]? = some (.dk ks xs)) : gB i Γ = some (.dic ks xs) := by unfold gB; rw [h]
theorem W_dput {Γ : DEnv} {i : Nat} {kf f : Ex} {m : Ents} {k : Int} {v : Option Int} {P : Res → Prop} (h : f Γ = some (optD v)) (hk : kf Γ = some (.int k)) (h1 : Γ[i]? = some (.dk (ksE m) (xsE m))) (hl : m.length < 1000000) (q : P (.nx (Γ.set i (.dk (ksE (putE m k v)) (xsE (putE m k v)))))) : W (sDPut' i [] kf f) Γ P := by
  refine ⟨_, ?_, q⟩
  have e1 : gP i [] Γ = some (.dk (ksE m) (xsE m)) := by unfold gP; rw [h1]; rfl
  have e3 : upP i [] (.dk (ksE (putE m k v)) (xsE (putE m k v))) Γ = some (.nx (Γ.set i (.dk (ksE (putE m k v)) (xsE (putE m k v))))) := by unfold upP; rw [h1]; rfl
  unfold sDPut'
  rw [h]
  show ((kf Γ).bind _) = _
  rw [hk]
  show (match gP i [] Γ with
    | some (.dk ks xs) => (dKey (.int k)).bind fun ky => if ks.length < 1000000 then upP i [] (.dk (putKs ks ky) (putXs ks xs ky (optD v))) Γ else none
    | _ => none) = _
  rw [e1]
  show (if (ksE m).length < 1000000 then upP i [] (.dk (putKs (ksE m) (.inl k)) (putXs (ksE m) (xsE m) (.inl k) (optD v))) Γ else none) = _
  rw [if_pos (by rw [ksE_len]; exact hl), putKs_E m k v, putXs_E, e3]
/-- the comprehension over a dict's keys in order -/
theorem comp_ord {m : Ents} {i : Nat} {Γ : DEnv} {kf : Ex} (hk : ∀ k : Int, kf ((wipeE Γ [i]).set i (.sh (.int k))) = some (.int k)) (df : Ex) (hd : ∀ k : Int, df ((wipeE Γ [i]).set i (.sh (.int k))) = some (.dic (ksE m) (xsE m))) : compL (gN i) gYes (gTu 2 (aC kf (aC (gOp dDget df kf) aN))) ((srt (keysE m)).map D.int) (wipeE Γ [i]) = some ((ordE m).map encE) := by
  have e : (ordE m).map encE = (srt (keysE m)).map fun k => encE (k, (lookE m k).getD none) := by unfold ordE; rw [List.map_map]; rfl
  rw [e]
  refine compL_map (srt (keysE m)) D.int (fun k => encE (k, (lookE m k).getD none)) fun k hk' => ⟨_, rfl, ?_⟩
  have hm : k ∈ keysE m := (srt_perm _).mem_iff.mp hk'
  cases q : lookE m k with
  | none => exact absurd hm (lookE_none.mp q)
  | some v => exact ev_tu (ev_cs (hk k) (ev_cs (ev_op (hd k) (hk k) (d_dget q)) ev_nl))
theorem optD_non (v : Option Int) : isNon (optD v) = v.isNone := by cases v <;> rfl
theorem findSome_take {ps : List Ents} {i : Nat} {p : Ents} (h : ps[i]? = some p) : ps.take (i + 1) = ps.take i ++ [p] := by
  rw [List.take_add_one, h]
  rfl
theorem sum_len_mem {ps : List Ents} {p : Ents} (h : p ∈ ps) : p.length ≤ (ps.map List.length).sum := by
  induction ps with
  | nil => simp at h
  | cons q ps ih =>
    rw [List.map_cons, List.sum_cons]
    rcases List.mem_cons.mp h with rfl | h
    · omega
    · have := ih h; omega
def partsD (ps : List Ents) : D := .lst (ps.map fun p => .lst (p.map encE))
theorem merged_eq (ps : List Ents) (hl : (ps.map List.length).sum < 900000) (hp : ps.length < 900000) : S_merged [partsD ps] = some (.lst ((mrgE ps).map encE)) := by
  refine run_Weq ?_
  unfold B_merged
  refine wq_setN (s := .dk [] []) rfl ?_
  refine wq_map (enc := fun p : Ents => D.lst (p.map encE)) (xs := ps) (fun i Γ => ∃ s2 s3 s4, Γ = [.sh (partsD ps), .dk (ksE ((ps.take i).foldl addE [])) (xsE ((ps.take i).foldl addE [])), s2, s3, s4]) (ev_it (ev_V rfl)) ⟨.no, .no, .no, rfl⟩ ?_ ?_
  · rintro i p Γ hi ⟨s2, s3, s4, rfl⟩
    have hmem : p ∈ ps := List.mem_of_getElem? hi
    have tk := findSome_take hi
    refine ⟨_, rfl, ?_⟩
    obtain ⟨m, hm⟩ : ∃ m, m = (ps.take i).foldl addE [] := ⟨_, rfl⟩
    have nm : (keysE m).Nodup ∧ m.length ≤ (ps.map List.length).sum := by
      obtain ⟨a, _, c⟩ := addAll_spec (ps.take i) [] (by simp [keysE])
      rw [← hm] at a c
      refine ⟨a, Nat.le_trans c ?_⟩
      have := congrArg (fun l => (l.map List.length).sum) (List.take_append_drop i ps)
      simp only [List.map_append, List.sum_append_nat] at this
      simp only [List.length_nil]
      omega
    have fin : (ps.take (i + 1)).foldl addE [] = addE m p := by rw [tk, List.foldl_append, ← hm]; rfl
    rw [fin, ← hm]
    have pl := sum_len_mem hmem
    refine W_map (enc := encE) (xs := p) (fun j Γ => ∃ s3 s4, Γ = [.sh (partsD ps), .dk (ksE (addE m (p.take j))) (xsE (addE m (p.take j))), .sh (.lst (p.map encE)), s3, s4]) (ev_it (ev_V rfl)) ⟨s3, s4, rfl⟩ ?_ ?_
    · rintro j ⟨k, v⟩ Γ hj ⟨s3, s4, rfl⟩
      refine ⟨_, rfl, ?_⟩
      have tj : p.take (j + 1) = p.take j ++ [(k, v)] := by rw [List.take_add_one, hj]; rfl
      obtain ⟨a2, b2, c2⟩ := addE_spec (p.take j) m nm.1
      have c2 : (addE m (p.take j)).length < 1000000 + 900000 := by rw [List.length_take] at c2; omega
      have c3 : (addE m (p.take j)).length ≤ m.length + p.length := by
        have := (addE_spec (p.take j) m nm.1).2.2
        rw [List.length_take] at this
        omega
      have e1 : addE m (p.take (j + 1)) = if (lookE (addE m (p.take j)) k).isSome then addE m (p.take j) else putE (addE m (p.take j)) k v := by
        rw [tj]
        unfold addE
        rw [List.foldl_append]
        rfl
      rw [e1]
      refine W_if (ev_T (ev_op (ev_V rfl) (ev_Bd rfl) d_dnin)) (fun e => ?_) fun e => W_nil ?_
      · have e : (lookE (addE m (p.take j)) k).isSome = false := by simpa using e
        rw [if_neg (by rw [e]; simp)]
        refine W_dput (v := v) (ev_V rfl) (ev_V rfl) rfl ?_ ⟨_, _, rfl⟩
        -- lengths: m and what is done of p are within the parts
        have l1 : m.length + p.length ≤ (ps.map List.length).sum := by
          obtain ⟨_, _, c⟩ := addAll_spec (ps.take i) [] (by simp [keysE])
          rw [← hm] at c
          have := congrArg (fun l => (l.map List.length).sum) (List.take_append_drop i ps)
          have hd : ps.drop i = p :: ps.drop (i + 1) := by
            rw [List.drop_eq_getElem_cons (List.getElem?_eq_some_iff.mp hi).1, (List.getElem?_eq_some_iff.mp hi).2]
          simp only [List.map_append, List.sum_append_nat, hd, List.map_cons, List.sum_cons] at this
          simp only [List.length_nil] at c
          omega
        omega
      · have e : (lookE (addE m (p.take j)) k).isSome = true := by simpa using e
        rw [if_pos e]
        exact ⟨_, _, rfl⟩
    · rintro Γ ⟨s3, s4, rfl⟩
      rw [List.take_length]
      exact ⟨_, _, _, rfl⟩
  · rintro Γ ⟨s2, s3, s4, rfl⟩
    rw [List.take_length]
    obtain ⟨a, _, c⟩ := addAll_spec ps [] (by simp [keysE])
    refine W_ret (ev_L (ev_lc (ds := (srt (keysE (ps.foldl addE []))).map D.int) (ev_it (ev_L (ev_UL (ev_Bd rfl) d_sortedK))) ?_ (comp_ord (fun k => ev_V rfl) _ fun k => ev_Bd rfl))) rfl
    rw [List.length_map, (srt_perm _).length_eq]
    unfold keysE
    rw [List.length_map]
    simp only [List.length_nil] at c
    omega
theorem lmerged_eq {newer older : Ents} (h1 : AscE newer) (h2 : AscE older) (hl : newer.length + older.length < 900000) : S__law_merged [.lst (newer.map encE), .lst (older.map encE)] = some (.lst ((mrgE [newer, older]).map encE)) := by
  rw [← over_two h1 h2]
  have two : ∀ (es m : Ents) (i : Nat), (keysE m).Nodup → (es.take i).foldl (fun m e => putE m e.1 e.2) m = (es.take i).foldl (fun m e => putE m e.1 e.2) m := fun _ _ _ _ => rfl
  have len : ∀ (es m : Ents), (es.foldl (fun m e => putE m e.1 e.2) m).length ≤ m.length + es.length := fun es => by
    induction es with
    | nil => intro m; exact Nat.le_refl _
    | cons e es ih =>
      intro m
      rw [List.foldl_cons]
      have := ih (putE m e.1 e.2)
      have := len_putE m e.1 e.2
      rw [List.length_cons]
      omega
  refine run_Weq ?_
  unfold B__law_merged
  refine wq_setN (s := .dk [] []) rfl ?_
  refine wq_map (enc := encE) (xs := older) (fun i Γ => ∃ s3 s4, Γ = [.sh (.lst (newer.map encE)), .sh (.lst (older.map encE)), .dk (ksE ((older.take i).foldl (fun m e => putE m e.1 e.2) [])) (xsE ((older.take i).foldl (fun m e => putE m e.1 e.2) [])), s3, s4]) (ev_it (ev_V rfl)) ⟨.no, .no, rfl⟩ ?_ ?_
  · rintro i ⟨k, v⟩ Γ hi ⟨s3, s4, rfl⟩
    have hi2 := (List.getElem?_eq_some_iff.mp hi).1
    have l := len (older.take i) []
    rw [List.length_take] at l
    refine ⟨_, rfl, W_dput (v := v) (ev_V rfl) (ev_V rfl) rfl (by simp only [List.length_nil] at l; omega) ?_⟩
    refine ⟨.sh (.int k), .sh (optD v), ?_⟩
    rw [List.take_add_one, hi, List.foldl_append]
    rfl
  · rintro Γ ⟨s3, s4, rfl⟩
    rw [List.take_length]
    have lo := len older []
    simp only [List.length_nil] at lo
    generalize older.foldl (fun m e => putE m e.1 e.2) [] = m0 at lo ⊢
    refine wq_map (enc := encE) (xs := newer) (fun i Γ => ∃ s3 s4, Γ = [.sh (.lst (newer.map encE)), .sh (.lst (older.map encE)), .dk (ksE ((newer.take i).foldl (fun m e => putE m e.1 e.2) m0)) (xsE ((newer.take i).foldl (fun m e => putE m e.1 e.2) m0)), s3, s4]) (ev_it (ev_V rfl)) ⟨s3, s4, rfl⟩ ?_ ?_
    · rintro i ⟨k, v⟩ Γ hi ⟨s3, s4, rfl⟩
      have hi2 := (List.getElem?_eq_some_iff.mp hi).1
      have l := len (newer.take i) m0
      rw [List.length_take] at l
      refine ⟨_, rfl, W_dput (v := v) (ev_V rfl) (ev_V rfl) rfl (by omega) ?_⟩
      refine ⟨.sh (.int k), .sh (optD v), ?_⟩
      rw [List.take_add_one, hi, List.foldl_append]
      rfl
    · rintro Γ ⟨s3, s4, rfl⟩
      rw [List.take_length]
      have l := len newer m0
      refine W_ret (ev_L (ev_lc (ds := (srt (keysE (newer.foldl (fun m e => putE m e.1 e.2) m0))).map D.int) (ev_it (ev_L (ev_UL (ev_L (ev_UL (ev_Bd rfl) d_listK)) d_sorted))) ?_ (comp_ord (m := newer.foldl (fun m e => putE m e.1 e.2) m0) (fun k => ev_V rfl) _ fun k => ev_Bd rfl))) rfl
      rw [List.length_map, (srt_perm _).length_eq]
      unfold keysE
      rw [List.length_map]
      omega
theorem without_eq (es : Ents) (hl : es.length < 1000000) : S_without_removed [.lst (es.map encE)] = some (.lst ((es.filter fun e => e.2.isSome).map encE)) := by
  refine sv_run ?_
  unfold B_without_removed
  refine sv_ret (ev_L (ev_lc (ev_it (ev_V rfl)) (by rw [List.length_map]; exact hl) (compL_filter es encE encE (fun e => e.2.isSome) ?_)))
  rintro ⟨k, v⟩ _
  refine ⟨_, rfl, ?_, fun _ => ev_tu (ev_cs (ev_V rfl) (ev_cs (ev_V rfl) ev_nl))⟩
  cases v with
  | none => exact ev_T (ev_op (ev_B rfl) ev_C rfl)
  | some i => exact ev_T (ev_op (ev_B rfl) ev_C rfl)
/-! where an entry stands -/
structure Pos (es : Ents) (k : Int) (p : Nat) : Prop where
  le : p ≤ es.length
  lo : ∀ i e, i < p → es[i]? = some e → e.1 < k
  hi : ∀ i e, p ≤ i → es[i]? = some e → k ≤ e.1
theorem pos_ex : ∀ {es : Ents}, AscE es → ∀ k, ∃ p, Pos es k p
  | [], _, k => ⟨0, Nat.le_refl _, fun i e h => by omega, fun i e _ h => by simp at h⟩
  | e :: es, h, k => by
    by_cases z : k ≤ e.1
    · refine ⟨0, Nat.zero_le _, fun i e h => by omega, fun i f _ hf => ?_⟩
      cases i with
      | zero => cases hf; exact z
      | succ i =>
        have := h.head (k := f.1) (List.mem_map_of_mem (List.mem_of_getElem? (by simpa using hf)))
        omega
    · obtain ⟨p, P⟩ := pos_ex h.tail k
      refine ⟨p + 1, by have := P.le; simp; omega, fun i f hi hf => ?_, fun i f hi hf => ?_⟩
      · cases i with
        | zero => cases hf; omega
        | succ i => exact P.lo i f (by omega) (by simpa using hf)
      · cases i with
        | zero => omega
        | succ i => exact P.hi i f (by omega) (by simpa using hf)
theorem Pos.hold {es : Ents} (h : AscE es) {k : Int} {p : Nat} (P : Pos es k p) : (lookE es k).isSome = true ↔ ∃ v, es[p]? = some (k, v) := by
  constructor
  · intro hs
    obtain ⟨v, hv⟩ := Option.isSome_iff_exists.mp hs
    obtain ⟨i, hi, e⟩ := List.mem_iff_getElem.mp (lookE_mem hv)
    have ei : es[i]? = some (k, v) := by rw [List.getElem?_eq_getElem hi, e]
    have : ¬ i < p := fun z => by have := P.lo i _ z ei; simp at this
    by_cases z : i = p
    · exact ⟨v, by rw [← z]; exact ei⟩
    · have hp : p < es.length := by omega
      have q := P.hi p _ (Nat.le_refl _) (List.getElem?_eq_getElem hp)
      unfold AscE keysE at h
      have := List.pairwise_iff_getElem.mp h p i (by simpa using hp) (by simpa using hi) (by omega)
      simp only [List.getElem_map, e] at this
      omega
  · rintro ⟨v, hv⟩
    have := lookE_of h.nodup (List.mem_of_getElem? hv)
    rw [this]
    rfl
theorem ix_e {es : Ents} {i : Nat} {e : Int × Option Int} (h : es[i]? = some e) : dIx (.lst (es.map encE)) (.int (i : Nat)) = some (encE e) := d_ixL (by rw [List.getElem?_map, h]; rfl)
theorem place_eq {es : Ents} (h : AscE es) {k : Int} {p : Nat} (P : Pos es k p) (hl : es.length < 1000000) : S_place_of [.lst (es.map encE), .int k] = some (.int p) := by
  refine run_WKeq ?_
  unfold B_place_of
  show W _ [.bo (.lst (es.map encE)), .sh (.int k), .no, .no, .no] _
  refine wq_par (ev_cs ev_I (ev_cs (ev_U (ev_Bb rfl) (by rw [d_lenL, List.length_map])) ev_nl)) ?_
  have pl := P.le
  refine wq_while (fun m Γ => ∃ (a b : Nat) (s : Sl), Γ = [.bo (.lst (es.map encE)), .sh (.int k), .sh (.int a), .sh (.int b), s] ∧ a ≤ p ∧ p ≤ b ∧ b ≤ es.length ∧ b - a = m) ⟨es.length, 0, es.length, .no, rfl, by omega, pl, Nat.le_refl _, rfl⟩ ?_
  rintro m Γ ⟨a, b, s, rfl, h1, h2, h3, h4⟩
  refine ⟨decide ((a : Int) < b), ev_T (ev_op (ev_V rfl) (ev_V rfl) rfl), fun e => ?_, fun e => ?_⟩
  · have e : ¬ (a : Int) < b := by simpa using e
    obtain rfl : a = p := by omega
    exact W_ret (ev_V rfl) rfl
  · have e : (a : Int) < b := by simpa using e
    have em : ((a : Int) + b) / 2 = (((a + b) / 2 : Nat) : Int) := by omega
    refine wq_set (d := .int (((a + b) / 2 : Nat) : Int)) (by rw [← em]; exact ev_op (ev_op (ev_V rfl) (ev_V rfl) d_add) ev_I (d_div (by decide) (by decide +kernel))) ?_
    obtain ⟨mid, hm⟩ : ∃ mid, mid = (a + b) / 2 := ⟨_, rfl⟩
    rw [← hm]
    have hlt : mid < es.length := by omega
    obtain ⟨en, hen⟩ : ∃ en, es[mid]? = some en := ⟨_, List.getElem?_eq_getElem hlt⟩
    refine W_if (b := decide (en.1 < k)) (ev_T (ev_op (ev_op (ev_op (ev_Bb rfl) (ev_V rfl) (ix_e hen)) ev_I rfl) (ev_V rfl) rfl)) (fun c => ?_) fun c => ?_
    · have c : en.1 < k := by simpa using c
      have : mid < p := by
        by_cases z : mid < p
        · exact z
        · have := P.hi mid en (by omega) hen; omega
      refine W_set (d := .int ((mid + 1 : Nat) : Int)) (ev_op (ev_V rfl) ev_I d_add) ?_
      exact ⟨b - (mid + 1), by omega, mid + 1, b, _, rfl, by omega, h2, h3, rfl⟩
    · have c : ¬ en.1 < k := by simpa using c
      have : ¬ mid < p := fun z => c (P.lo mid en z hen)
      refine W_set (ev_V rfl) ?_
      exact ⟨mid - a, by omega, a, mid, _, rfl, h1, by omega, by omega, rfl⟩
theorem holds_eq {es : Ents} (h : AscE es) {k : Int} {p : Nat} (P : Pos es k p) (hl : es.length < 1000000) : S_holds [.lst (es.map encE), .int p, .int k] = some (.bl (lookE es k).isSome) := by
  refine run_WKeq ?_
  unfold B_holds
  show W _ [.bo (.lst (es.map encE)), .sh (.int p), .sh (.int k)] _
  have pl := P.le
  have h1 : gT (gOp dLt (gV 1) (gU dLen (gB 0))) [.bo (.lst (es.map encE)), .sh (.int p), .sh (.int k)] = some (decide ((p : Int) < es.length)) := ev_T (ev_op (ev_V rfl) (ev_U (ev_Bb rfl) (by rw [d_lenL, List.length_map])) rfl)
  by_cases z : p < es.length
  · obtain ⟨en, hen⟩ : ∃ en, es[p]? = some en := ⟨_, List.getElem?_eq_getElem z⟩
    have e2 : (en.1 == k) = (lookE es k).isSome := by
      rw [Bool.eq_iff_iff, P.hold h, beq_iff_eq, hen]
      constructor
      · intro w; exact ⟨en.2, by rw [← w]⟩
      · rintro ⟨v, hv⟩; cases hv; rfl
    refine W_ret (ev_bl (ev_andT h1 fun _ => ev_T (ev_op (ev_op (ev_op (ev_Bb rfl) (ev_V rfl) (ix_e hen)) ev_I rfl) (ev_B rfl) (d_eq eqOk_int eqOk_int eqd_int)))) ?_
    show D.bl _ = _
    rw [decide_eq_true (by omega), e2]
    rfl
  · refine W_ret (ev_bl (b := false) (by
      refine (ev_andT (c := true) h1 fun w => ?_).trans ?_
      · rw [decide_eq_false (by omega)] at w; cases w
      · rw [decide_eq_false (by omega)]; rfl)) ?_
    have : lookE es k = none := by
      cases q : lookE es k with
      | none => rfl
      | some v =>
        obtain ⟨v', hv⟩ := (P.hold h).mp (by rw [q]; rfl)
        have := (List.getElem?_eq_some_iff.mp hv).1
        omega
    show D.bl false = _
    rw [this]
    rfl
/-- the buffer with an entry written -/
def wrE (es : Ents) (k : Int) (v : Option Int) : Ents := mrgE [[(k, v)], es]
theorem wrE_asc (es : Ents) (k : Int) (v : Option Int) : AscE (wrE es k v) := (mrgE_spec _).1
theorem wrE_look (es : Ents) (k : Int) (v : Option Int) (j : Int) : lookE (wrE es k v) j = if k = j then some v else lookE es j := by
  unfold wrE
  rw [(mrgE_spec _).2.1, List.findSome?_cons, List.findSome?_cons, lookE_cons, lookE_nil]
  by_cases z : k = j
  · rw [if_pos z, if_pos z]
  · rw [if_neg z, if_neg z]
    cases lookE es j <;> simp
theorem wrE_len (es : Ents) (k : Int) (v : Option Int) : (wrE es k v).length ≤ es.length + 1 := by
  have := (mrgE_spec [[(k, v)], es]).2.2
  unfold wrE
  simp at this
  omega
theorem asc_app {xs ys : Ents} (h1 : AscE xs) (h2 : AscE ys) (h : ∀ x ∈ xs, ∀ y ∈ ys, x.1 < y.1) : AscE (xs ++ ys) := by
  unfold AscE keysE at *
  rw [List.map_append]
  refine List.pairwise_append.mpr ⟨h1, h2, fun a ha b hb => ?_⟩
  obtain ⟨x, hx, rfl⟩ := List.mem_map.mp ha
  obtain ⟨y, hy, rfl⟩ := List.mem_map.mp hb
  exact h x hx y hy
theorem AscE.take {es : Ents} (h : AscE es) (n : Nat) : AscE (es.take n) := by
  unfold AscE keysE at *
  exact h.sublist ((List.take_sublist n es).map _)
theorem AscE.drop {es : Ents} (h : AscE es) (n : Nat) : AscE (es.drop n) := by
  unfold AscE keysE at *
  exact h.sublist ((List.drop_sublist n es).map _)
theorem Pos.take {es : Ents} {k : Int} {p : Nat} (P : Pos es k p) : ∀ x ∈ es.take p, x.1 < k := fun x hx => by
  obtain ⟨i, hi, e⟩ := List.mem_iff_getElem.mp hx
  rw [List.length_take] at hi
  exact P.lo i x (by omega) (by rw [List.getElem_take] at e; rw [List.getElem?_eq_getElem (by omega), e])
theorem Pos.drop {es : Ents} {k : Int} {p : Nat} (P : Pos es k p) : ∀ x ∈ es.drop p, k ≤ x.1 := fun x hx => by
  obtain ⟨i, hi, e⟩ := List.mem_iff_getElem.mp hx
  rw [List.length_drop] at hi
  exact P.hi (p + i) x (by omega) (by rw [List.getElem_drop] at e; rw [List.getElem?_eq_getElem (by omega), e])
theorem wrE_ins {es : Ents} (h : AscE es) {k : Int} {p : Nat} (P : Pos es k p) (v : Option Int) (hn : lookE es k = none) : es.take p ++ [(k, v)] ++ es.drop p = wrE es k v := by
  have nk : k ∉ keysE es := lookE_none.mp hn
  have dr : ∀ x ∈ es.drop p, k < x.1 := fun x hx => by
    have := P.drop x hx
    have : x.1 ≠ k := fun e => nk (by rw [← e]; exact List.mem_map_of_mem (List.mem_of_mem_drop hx))
    omega
  have one : AscE [(k, v)] := by simp [AscE, keysE]
  refine asc_ext (asc_app (asc_app (h.take p) one ?_) (h.drop p) ?_) (wrE_asc _ _ _) fun j => ?_
  · intro x hx y hy
    rw [List.mem_singleton] at hy
    subst hy
    exact P.take x hx
  · intro x hx y hy
    rcases List.mem_append.mp hx with hx | hx
    · have := P.take x hx
      have := dr y hy
      omega
    · rw [List.mem_singleton] at hx
      subst hx
      exact dr y hy
  · rw [wrE_look, lookE_app, lookE_app, lookE_cons, lookE_nil]
    have e : lookE es j = (lookE (es.take p) j).or (lookE (es.drop p) j) := by rw [← lookE_app, List.take_append_drop]
    by_cases z : k = j
    · subst z
      rw [hn] at e
      have : lookE (es.take p) k = none := by cases q : lookE (es.take p) k with | none => rfl | some _ => rw [q] at e; cases e
      rw [if_pos rfl, if_pos rfl, this]
      rfl
    · rw [if_neg z, if_neg z, e]
      simp
theorem wrE_set {es : Ents} (h : AscE es) {k : Int} {p : Nat} (P : Pos es k p) (v w : Option Int) (hp : es[p]? = some (k, w)) : es.set p (k, v) = wrE es k v := by
  have hlt := (List.getElem?_eq_some_iff.mp hp).1
  have kk : keysE (es.set p (k, v)) = keysE es := by
    unfold keysE
    rw [List.map_set]
    show (es.map (·.1)).set p k = _
    have : (es.map (·.1))[p]? = some k := by rw [List.getElem?_map, hp]; rfl
    rw [List.getElem?_eq_some_iff] at this
    obtain ⟨a, b⟩ := this
    conv => lhs; rw [← b]
    exact List.set_getElem_self a
  have a1 : AscE (es.set p (k, v)) := by unfold AscE; rw [kk]; exact h
  refine asc_ext a1 (wrE_asc _ _ _) fun j => ?_
  rw [wrE_look]
  by_cases z : k = j
  · subst z
    rw [if_pos rfl]
    exact lookE_of (e := (k, v)) a1.nodup (List.mem_iff_getElem?.mpr ⟨p, by rw [List.getElem?_set_self hlt]⟩)
  · rw [if_neg z]
    cases q : lookE es j with
    | none =>
      refine lookE_none.mpr ?_
      rw [kk]
      exact lookE_none.mp q
    | some x =>
      obtain ⟨i, hi, e⟩ := List.mem_iff_getElem.mp (lookE_mem q)
      have ip : p ≠ i := fun w => by
        subst w
        rw [List.getElem?_eq_getElem hlt, e] at hp
        cases hp
        exact z rfl
      exact lookE_of (e := (j, x)) a1.nodup (List.mem_iff_getElem?.mpr ⟨i, by rw [List.getElem?_set_ne ip, List.getElem?_eq_getElem hi, e]⟩)
theorem keys_of {ks : List Int} (hp : ks.Pairwise (· < ·)) (hb : ∀ a ∈ ks, -(2 ^ 55) < a ∧ a < 2 ^ 55) (hl : ks.length < 5000) : Keys ks := by
  refine ⟨fun i j h1 h2 => ?_, fun i hi => hb _ (List.mem_of_getElem? (kAt_get hi)), hl⟩
  have := List.pairwise_iff_getElem.mp hp i j (by omega) h2 h1
  simpa [kAt, h2, show i < ks.length by omega] using this
/-! questions to an index -/
structure Ix (ks : List Int) (vs : List Lev) : Prop where
  K : Keys ks
  T : ∃ e u, Tower ks e u vs
  one : (lvAt vs (vs.length - 1)).pcs.length ≤ 1
theorem ix_mk {ks : List Int} {e u : Int} (h : Keys ks) (he : 0 ≤ e ∧ e < 2 ^ 20) (hu : 0 ≤ u ∧ u < 2 ^ 20) : ∃ vs : List Lev, nD (gMk 2 S_Index___init__ (fun _ => some [.lst (ks.map D.int), .int e, .int u])) [] = some (indD ks vs) ∧ Ix ks vs := by
  obtain ⟨vs, h1, T, one⟩ := index_eq h he hu
  exact ⟨vs, h1, h, ⟨e, u, T⟩, one⟩
theorem kAt_mem {ks : List Int} {i : Nat} (h : i < ks.length) : kAt ks i ∈ ks := List.mem_of_getElem? (kAt_get h)
theorem mem_kAt {ks : List Int} {a : Int} (h : a ∈ ks) : ∃ i, i < ks.length ∧ kAt ks i = a := by
  obtain ⟨i, hi, e⟩ := List.mem_iff_getElem.mp h
  exact ⟨i, hi, by simp [kAt, hi, e]⟩
/-! the store -/
structure RunM where
  es : Ents
  vs : List Lev
def runDD (r : RunM) : D := .obj 5 [.lst (r.es.map encE), indD (keysE r.es) r.vs]
def optR : Option RunM → D
  | none => .non
  | some r => runDD r
structure RunOk (r : RunM) : Prop where
  asc : AscE r.es
  ne : r.es ≠ []
  ix : Ix (keysE r.es) r.vs
structure Sto where
  cap : Int
  err : Int
  mv : Int
  ed : Int
  buf : Ents
  runs : List (Option RunM)
def stoF (s : Sto) (b : Sl) : Sl := .ob 16 [.sh (.int s.cap), .sh (.int s.err), .sh (.int s.mv), .sh (.int s.ed), b, .ow (s.runs.map optR)]
def stoS (s : Sto) : Sl := stoF s (.ow (s.buf.map encE))
def stoD (s : Sto) : D := .obj 16 [.int s.cap, .int s.err, .int s.mv, .int s.ed, .lst (s.buf.map encE), .lst (s.runs.map optR)]
theorem stoF_ow (s : Sto) (b : Ents) : toD (stoF s (.ow (b.map encE))) = some (stoD { s with buf := b }) := by
  unfold stoF stoD
  simp only [toD, toDs, Option.bind_some, Option.map_some]
theorem stoF_sh (s : Sto) (b : Ents) : toD (stoF s (.sh (.lst (b.map encE)))) = some (stoD { s with buf := b }) := by
  unfold stoF stoD
  simp only [toD, toDs, Option.bind_some, Option.map_some]
def runLen (o : Option RunM) : Nat := match o with
  | none => 0
  | some r => r.es.length
def totR (rs : List (Option RunM)) : Nat := (rs.map runLen).sum
structure StoOk (s : Sto) : Prop where
  cap : 1 ≤ s.cap ∧ s.cap < 2 ^ 40
  err : 0 ≤ s.err ∧ s.err < 2 ^ 20
  asc : AscE s.buf
  sm : ∀ k ∈ keysE s.buf, -(2 ^ 55) < k ∧ k < 2 ^ 55
  runs : ∀ r, some r ∈ s.runs → RunOk r
  tot : ((s.buf.length + totR s.runs : Nat) : Int) ≤ s.ed
  ed : s.ed < 4000
  few : (s.runs.length : Int) ≤ s.ed
theorem run_sm {r : RunM} (h : RunOk r) : ∀ k ∈ keysE r.es, -(2 ^ 55) < k ∧ k < 2 ^ 55 := fun k hk => by
  obtain ⟨i, hi, rfl⟩ := mem_kAt hk
  exact h.ix.K.sm i hi
/-- the runs: those that are merged, and those from the first level without one -/
theorem runs_split : ∀ rs : List (Option RunM), ∃ (ps : List RunM) (rest : List (Option RunM)), rs = ps.map some ++ rest ∧ (rest = [] ∨ ∃ t, rest = none :: t)
  | [] => ⟨[], [], rfl, .inl rfl⟩
  | none :: t => ⟨[], none :: t, rfl, .inr ⟨t, rfl⟩⟩
  | some r :: t => by
    obtain ⟨ps, rest, h1, h2⟩ := runs_split t
    exact ⟨r :: ps, rest, by rw [h1]; rfl, h2⟩
def flE (rest : List (Option RunM)) (E : Ents) : Ents := if rest.all (·.isNone) then E.filter (fun e => e.2.isSome) else E
theorem toD_of_nD {f : Sx} {Γ : DEnv} {d : D} (h : nD f Γ = some d) : ∃ s, f Γ = some s ∧ toD s = some d := by
  unfold nD at h
  cases q : f Γ with
  | none => rw [q] at h; cases h
  | some s => rw [q] at h; exact ⟨s, rfl, h⟩
theorem run_mk {es : Ents} {e : Int} (h : AscE es) (hs : ∀ k ∈ keysE es, -(2 ^ 55) < k ∧ k < 2 ^ 55) (hl : es.length < 5000) (he : 0 ≤ e ∧ e < 2 ^ 20) : ∃ vs : List Lev, nD (gMk 5 S_Run___init__ (fun _ => some [.lst (es.map encE), .int e])) [] = some (runDD ⟨es, vs⟩) ∧ Ix (keysE es) vs := by
  have K : Keys (keysE es) := keys_of h hs (by unfold keysE; rw [List.length_map]; exact hl)
  obtain ⟨vs, h1, ix⟩ := ix_mk (e := e) (u := e) K he he
  refine ⟨vs, ?_, ix⟩
  obtain ⟨s, g1, g2⟩ := toD_of_nD h1
  have hcomp : (gLc [3] (gIt (gPB 0 [(5, 0)])) (gN 3) gYes (gIx (gB 3) (gI 0))) [.ob 5 [.sh (.lst (es.map encE))], .sh (.lst (es.map encE)), .sh (.int e), .no] = some ((keysE es).map D.int) := by
    refine ev_lc (ds := es.map encE) rfl (by rw [List.length_map]; omega) ?_
    have e1 : (keysE es).map D.int = es.map fun e => D.int e.1 := by unfold keysE; rw [List.map_map]; rfl
    rw [e1]
    exact compL_map es encE (fun e => D.int e.1) fun a _ => ⟨_, rfl, rfl⟩
  have hB : B_Run___init__ [.ob 5 [], .sh (.lst (es.map encE)), .sh (.int e), .no] = some (.nx [.ob 5 [.sh (.lst (es.map encE)), s], .sh (.lst (es.map encE)), .sh (.int e), .no]) := by
    unfold B_Run___init__
    refine sv_nx (Γ1 := [.ob 5 [.sh (.lst (es.map encE))], .sh (.lst (es.map encE)), .sh (.int e), .no]) rfl ?_
    have hg : gMk 2 S_Index___init__ (aC (gL (gLc [3] (gIt (gPB 0 [(5, 0)])) (gN 3) gYes (gIx (gB 3) (gI 0)))) (aC (gV 2) (aC (gV 2) aN))) [.ob 5 [.sh (.lst (es.map encE))], .sh (.lst (es.map encE)), .sh (.int e), .no] = some s := by
      unfold gMk at g1 ⊢
      rw [ev_cs (ev_L hcomp) (ev_cs (ev_V rfl) (ev_cs (ev_V rfl) ev_nl))]
      exact g1
    unfold DL.sFld
    rw [hg]
    rfl
  show (((S_Run___init__ (.ob 5 []) [.lst (es.map encE), .int e]).bind _).bind toD) = _
  unfold S_Run___init__ runM
  show ((((B_Run___init__ [.ob 5 [], .sh (.lst (es.map encE)), .sh (.int e), .no]).bind _).bind _).bind toD) = _
  rw [hB]
  show toD (.ob 5 [.sh (.lst (es.map encE)), s]) = _
  simp only [toD, toDs, g2, Option.bind_some, Option.map_some]
  rfl
theorem set_rep {α : Type} (a x y : α) (l : List α) : ∀ j : Nat, (List.replicate j a ++ x :: l).set j y = List.replicate j a ++ y :: l
  | 0 => rfl
  | j + 1 => by
    rw [List.replicate_succ, List.cons_append, List.cons_append, List.set_cons_succ, set_rep a x y l j]
theorem rep_snoc {α : Type} (a : α) (l : List α) : ∀ j : Nat, List.replicate j a ++ a :: l = List.replicate (j + 1) a ++ l
  | 0 => rfl
  | j + 1 => by
    rw [List.replicate_succ, List.cons_append, rep_snoc a l j, List.replicate_succ (n := j + 1), List.cons_append]
theorem get_rep {α : Type} (a x : α) (l : List α) (j : Nat) : (List.replicate j a ++ x :: l)[j]? = some x := by
  rw [List.getElem?_append_right (by simp)]
  simp
/-- a run, or none, at a level -/
theorem W_runS {Γ : DEnv} {s : Sto} {b : Sl} {kf f : Ex} {j : Nat} {o : Option RunM} {P : Res → Prop} (h : f Γ = some (optR o)) (hk : kf Γ = some (.int (j : Nat))) (h0 : Γ[0]? = some (stoF s b)) (hj : j < s.runs.length) (q : P (.nx (Γ.set 0 (stoF { s with runs := s.runs.set j o } b)))) : W (sIxS 0 [(16, 5)] kf f) Γ P := by
  refine ⟨_, ?_, q⟩
  have e1 : gP 0 [(16, 5)] Γ = some (.ow (s.runs.map optR)) := by unfold gP; rw [h0]; rfl
  have e3 : upP 0 [(16, 5)] (.ow ((s.runs.set j o).map optR)) Γ = some (.nx (Γ.set 0 (stoF { s with runs := s.runs.set j o } b))) := by unfold upP; rw [h0]; rfl
  unfold sIxS
  rw [h]
  show ((kf Γ).bind _) = _
  rw [hk]
  show (match gP 0 [(16, 5)] Γ, D.int (j : Nat) with
    | some (.ow xs), .int n => (ixN xs.length n).bind fun m => upP 0 [(16, 5)] (.ow (xs.set m (optR o))) Γ
    | _, _ => none) = _
  rw [e1]
  show ((ixN (s.runs.map optR).length (j : Int)).bind fun m => upP 0 [(16, 5)] (.ow ((s.runs.map optR).set m (optR o))) Γ) = _
  have e4 : ixN (s.runs.map optR).length (j : Int) = some j := by
    rw [List.length_map]
    unfold ixN
    rw [if_pos (by omega), Int.toNat_natCast, if_pos (by omega)]
  rw [e4]
  show upP 0 [(16, 5)] (.ow ((s.runs.map optR).set j (optR o))) Γ = _
  rw [← List.map_set]
  exact e3
theorem W_runApp {Γ : DEnv} {s : Sto} {b : Sl} {f : Ex} {P : Res → Prop} (h : f Γ = some .non) (h0 : Γ[0]? = some (stoF s b)) (hl : s.runs.length < 1000000) (q : P (.nx (Γ.set 0 (stoF { s with runs := s.runs ++ [none] } b)))) : W (sApp 0 [(16, 5)] f) Γ P := by
  refine ⟨_, ?_, q⟩
  refine (sv_app (rp := [(16, 5)]) (xs := s.runs.map optR) (s := stoF s b) (s2 := stoF { s with runs := s.runs ++ [none] } b) h h0 rfl (by rw [List.length_map]; exact hl) ?_)
  show some _ = some _
  unfold stoF
  simp only [List.map_append, List.set_cons_succ, List.set_cons_zero]
  rfl
theorem present_eq (s : Sto) (hl : s.runs.length < 1000000) : S_Store__present_runs [stoD s] = some (.lst ((s.runs.filter (·.isSome)).map optR)) := by
  refine run_WKeq ?_
  unfold B_Store__present_runs
  refine W_ret (ev_L (ev_lc (ds := s.runs.map optR) (ev_it (ev_U (x := stoD s) (ev_Bb rfl) rfl)) (by rw [List.length_map]; exact hl) (compL_filter s.runs optR optR (fun o => o.isSome) ?_))) rfl
  intro o _
  refine ⟨_, rfl, ?_, fun _ => ev_V rfl⟩
  cases o with
  | none => exact ev_T (ev_op (ev_B rfl) ev_C rfl)
  | some r => exact ev_T (ev_op (ev_B rfl) ev_C rfl)
theorem totR_app (a b : List (Option RunM)) : totR (a ++ b) = totR a + totR b := by
  unfold totR
  rw [List.map_append, List.sum_append_nat]
theorem totR_some (ps : List RunM) : totR (ps.map some) = (ps.map fun r => r.es.length).sum := by
  unfold totR
  rw [List.map_map]
  rfl
theorem totR_rep (n : Nat) : totR (List.replicate n none) = 0 := by
  induction n with
  | zero => rfl
  | succ n ih =>
    unfold totR at ih ⊢
    rw [List.replicate_succ, List.map_cons, List.sum_cons, ih]
    rfl
theorem filter_rep (n : Nat) (l : List (Option RunM)) : (List.replicate n none ++ l).filter (·.isSome) = l.filter (·.isSome) := by
  rw [List.filter_append]
  have : (List.replicate n (none : Option RunM)).filter (·.isSome) = [] := by
    rw [List.filter_eq_nil_iff]
    intro a ha
    rw [List.eq_of_mem_replicate ha]
    simp
  rw [this, List.nil_append]
/-- what a flush makes -/
structure Fl (s s' : Sto) (ps : List RunM) (rest : List (Option RunM)) (E : Ents) (nw : Option RunM) : Prop where
  was : s.runs = ps.map some ++ rest
  stop : rest = [] ∨ ∃ t, rest = none :: t
  cap : s'.cap = s.cap
  err : s'.err = s.err
  ed : s'.ed = s.ed
  mv : s'.mv = s.mv + ((s.buf.length + (ps.map fun r => r.es.length).sum : Nat) : Int)
  buf : s'.buf = []
  runs : s'.runs = List.replicate ps.length none ++ nw :: rest.tail
  eE : E = flE rest (mrgE (s.buf :: ps.map (·.es)))
  nw : (E = [] ∧ nw = none) ∨ (E ≠ [] ∧ ∃ vs, nw = some ⟨E, vs⟩ ∧ Ix (keysE E) vs)
theorem W_augMv {Γ : DEnv} {s : Sto} {b : Sl} {f : Ex} {n : Int} {P : Res → Prop} (h : f Γ = some (.int n)) (h0 : Γ[0]? = some (stoF s b)) (q : P (.nx (Γ.set 0 (stoF { s with mv := s.mv + n } b)))) : W (sAugF 0 [] 16 2 f) Γ P := by
  refine ⟨_, ?_, q⟩
  have e1 : gP 0 [] Γ = some (stoF s b) := by unfold gP; rw [h0]; rfl
  have e3 : upP 0 [] (stoF { s with mv := s.mv + n } b) Γ = some (.nx (Γ.set 0 (stoF { s with mv := s.mv + n } b))) := by unfold upP; rw [h0]; rfl
  unfold sAugF
  rw [e1]
  show ((f Γ).bind fun d => match d with
      | .int n => upP 0 [] (stoF { s with mv := s.mv + n } b) Γ
      | _ => none) = _
  rw [h]
  exact e3
theorem W_augEd {Γ : DEnv} {s : Sto} {b : Sl} {f : Ex} {n : Int} {P : Res → Prop} (h : f Γ = some (.int n)) (h0 : Γ[0]? = some (stoF s b)) (q : P (.nx (Γ.set 0 (stoF { s with ed := s.ed + n } b)))) : W (sAugF 0 [] 16 3 f) Γ P := by
  refine ⟨_, ?_, q⟩
  have e1 : gP 0 [] Γ = some (stoF s b) := by unfold gP; rw [h0]; rfl
  have e3 : upP 0 [] (stoF { s with ed := s.ed + n } b) Γ = some (.nx (Γ.set 0 (stoF { s with ed := s.ed + n } b))) := by unfold upP; rw [h0]; rfl
  unfold sAugF
  rw [e1]
  show ((f Γ).bind fun d => match d with
      | .int n => upP 0 [] (stoF { s with ed := s.ed + n } b) Γ
      | _ => none) = _
  rw [h]
  exact e3
theorem sum_cast (l : List Nat) : (l.map (fun n : Nat => (n : Int))).sum = (l.sum : Nat) := by
  induction l with
  | nil => rfl
  | cons a l ih => rw [List.map_cons, List.sum_cons, List.sum_cons, ih]; omega
theorem len_fil_none {l : List (Option RunM)} : l.filter (·.isSome) = [] ↔ l.all (·.isNone) = true := by
  rw [List.filter_eq_nil_iff, List.all_eq_true]
  constructor
  · intro h x hx
    have := h x hx
    cases x with
    | none => rfl
    | some r => simp at this
  · intro h x hx
    have := h x hx
    cases x with
    | none => simp
    | some r => simp at this
theorem flush_eq {s : Sto} (cap : 1 ≤ s.cap ∧ s.cap < 2 ^ 40) (err : 0 ≤ s.err ∧ s.err < 2 ^ 20) (sm : ∀ k ∈ keysE s.buf, -(2 ^ 55) < k ∧ k < 2 ^ 55) (runs : ∀ r, some r ∈ s.runs → RunOk r) (tot : ((s.buf.length + totR s.runs : Nat) : Int) ≤ 4000) (few : s.runs.length < 100000) :
    ∃ s' ps rest E nw, S_Store__flush (stoS s) [] = some (.non, stoS s') ∧ Fl s s' ps rest E nw := by
  obtain ⟨ps, rest, hr, hs⟩ := runs_split s.runs
  obtain ⟨parts, hp⟩ : ∃ parts, parts = s.buf :: ps.map (·.es) := ⟨_, rfl⟩
  obtain ⟨E0, hE0⟩ : ∃ E0, E0 = mrgE parts := ⟨_, rfl⟩
  obtain ⟨E, hE⟩ : ∃ E, E = flE rest E0 := ⟨_, rfl⟩
  have tot2 : s.buf.length + ((ps.map fun r => r.es.length).sum + totR rest) ≤ 4000 := by
    rw [hr, totR_app, totR_some] at tot
    omega
  have psum : (parts.map List.length).sum = s.buf.length + (ps.map fun r => r.es.length).sum := by
    rw [hp, List.map_cons, List.sum_cons, List.map_map]
    rfl
  obtain ⟨m1, m2, m3⟩ := mrgE_spec parts
  rw [← hE0] at m1 m2 m3
  have aE : AscE E := by
    rw [hE]; unfold flE
    split
    · exact m1.filter _
    · exact m1
  have sub : ∀ k ∈ keysE E, k ∈ keysE E0 := fun k hk => by
    rw [hE] at hk; unfold flE at hk
    split at hk
    · unfold keysE at hk ⊢
      obtain ⟨e, he, rfl⟩ := List.mem_map.mp hk
      exact List.mem_map_of_mem (List.mem_filter.mp he).1
    · exact hk
  have lE : E.length ≤ E0.length := by
    rw [hE]; unfold flE
    split
    · exact List.length_filter_le _ _
    · exact Nat.le_refl _
  have smE : ∀ k ∈ keysE E, -(2 ^ 55) < k ∧ k < 2 ^ 55 := fun k hk => by
    have hk := sub k hk
    have q : lookE E0 k ≠ none := fun z => lookE_none.mp z hk
    rw [m2 k] at q
    obtain ⟨v, hv⟩ := Option.ne_none_iff_exists'.mp q
    obtain ⟨p, hpm, hpv⟩ := List.exists_of_findSome?_eq_some hv
    have mk : k ∈ keysE p := by
      by_cases w : k ∈ keysE p
      · exact w
      · rw [lookE_none.mpr w] at hpv; cases hpv
    rw [hp] at hpm
    rcases List.mem_cons.mp hpm with rfl | hpm
    · exact sm k mk
    · obtain ⟨r, hr', rfl⟩ := List.mem_map.mp hpm
      exact run_sm (runs r (by rw [hr]; exact List.mem_append_left _ (List.mem_map_of_mem hr'))) k mk
  obtain ⟨vs, hrun, hix⟩ := run_mk (e := s.err) aE smE (by omega) err
  obtain ⟨nw, hnw⟩ : ∃ nw : Option RunM, nw = if E = [] then none else some ⟨E, vs⟩ := ⟨_, rfl⟩
  have lens : s.runs.length = ps.length + rest.length := by rw [hr, List.length_append, List.length_map]
  refine ⟨{ s with mv := s.mv + ((s.buf.length + (ps.map fun r => r.es.length).sum : Nat) : Int), buf := [], runs := List.replicate ps.length none ++ nw :: rest.tail }, ps, rest, E, nw, ?_, hr, hs, rfl, rfl, rfl, rfl, rfl, rfl, by rw [hE, hE0, hp], ?_⟩
  rotate_left
  · by_cases z : E = []
    · exact .inl ⟨z, by rw [hnw, if_pos z]⟩
    · exact .inr ⟨z, vs, by rw [hnw, if_neg z], hix⟩
  have W1 : W B_Store__flush [stoS s, .no, .no, .no, .no] (fun r => ∃ Γ, r = .nx Γ ∧ Γ[0]? = some (stoS { s with mv := s.mv + ((s.buf.length + (ps.map fun r => r.es.length).sum : Nat) : Int), buf := [], runs := List.replicate ps.length none ++ nw :: rest.tail })) := by
    unfold B_Store__flush
    have frz : frzPE 0 [(16, 4)] [stoS s, .no, .no, .no, .no] = [stoF s (.sh (.lst (s.buf.map encE))), .no, .no, .no, .no] := rfl
    refine W_seq ⟨.nx [stoF s (.sh (.lst (s.buf.map encE))), .ow [.lst (s.buf.map encE)], .no, .no, .no], ?_, ?_⟩
    · unfold sFrzP
      rw [frz]
      exact sv_setO (ev_cs (d := .lst (s.buf.map encE)) rfl ev_nl)
    show W _ [stoF s (.sh (.lst (s.buf.map encE))), .ow [.lst (s.buf.map encE)], .no, .no, .no] _
    refine wq_set ev_I ?_
    obtain ⟨bf, hbf⟩ : ∃ bf : Sl, bf = .sh (.lst (s.buf.map encE)) := ⟨_, rfl⟩
    rw [← hbf]
    refine wq_while (fun m Γ => ∃ j, Γ = [stoF { s with runs := List.replicate j none ++ ((ps.drop j).map some ++ rest) } bf, .ow ((s.buf :: (ps.take j).map (·.es)).map fun p => .lst (p.map encE)), .sh (.int (j : Nat)), .no, .no] ∧ j ≤ ps.length ∧ ps.length - j = m) ⟨ps.length, 0, by rw [List.replicate_zero, List.nil_append, List.drop_zero, List.take_zero, ← hr]; rfl, Nat.zero_le _, by omega⟩ ?_
    rintro m Γ ⟨j, rfl, hj, hm⟩
    have lruns : (List.replicate j none ++ ((ps.drop j).map some ++ rest)).length = s.runs.length := by
      rw [List.length_append, List.length_append, List.length_replicate, List.length_map, List.length_drop, lens]
      omega
    have c1 : gT (gOp dLt (gV 2) (gU dLen (gPB 0 [(16, 5)]))) [stoF { s with runs := List.replicate j none ++ ((ps.drop j).map some ++ rest) } bf, .ow ((s.buf :: (ps.take j).map (·.es)).map fun p => .lst (p.map encE)), .sh (.int (j : Nat)), .no, .no] = some (decide ((j : Int) < s.runs.length)) :=
      ev_T (ev_op (ev_V rfl) (ev_U (x := .lst ((List.replicate j none ++ ((ps.drop j).map some ++ rest)).map optR)) rfl (by rw [d_lenL, List.length_map, lruns])) rfl)
    -- what is there behind the merged ones
    have after : ∀ Γ, Γ = [stoF { s with runs := List.replicate ps.length none ++ rest } bf, .ow ((s.buf :: ps.map (·.es)).map fun p => .lst (p.map encE)), .sh (.int (ps.length : Nat)), .no, .no] → W (sSeq (sAugF 0 [] 16 2 (gU dSum (gL (gLc [4] (gIt (gB 1)) (gN 4) gYes (gU dLen (gB 4))))))
  (sSeq (sFrz 1 (sSet 3 (gCall S_merged (aC (gV 1) aN))))
  (sSeq (sIf (gNot (gTru (gMeth 16 S_Store__present_runs (gB 0) aN)))
  (sSet 3 (gCall S_without_removed (aC (gV 3) aN)))
  sNil)
  (sSeq (sIf (gT (gOp dEq (gB 2) (gU dLen (gPB 0 [(16, 5)]))))
  (sApp 0 [(16, 5)] (gC .non))
  sNil)
  (sSeq (sIf (gTru (gB 3))
  (sIxS 0 [(16, 5)] (gV 2) (nD (gMk 5 S_Run___init__ (aC (gV 3) (aC (gPE 0 [(16, 1)]) aN)))))
  sNil)
  (DL.sFld 0 [] 16 4 (nOw aN))))))) Γ (fun r => ∃ Γ, r = .nx Γ ∧ Γ[0]? = some (stoS { s with mv := s.mv + ((s.buf.length + (ps.map fun r => r.es.length).sum : Nat) : Int), buf := [], runs := List.replicate ps.length none ++ nw :: rest.tail })) := by
      rintro Γ rfl
      rw [← hp]
      have lp : parts.length = ps.length + 1 := by rw [hp, List.length_cons, List.length_map]
      have hsum : (gU dSum (gL (gLc [4] (gIt (gB 1)) (gN 4) gYes (gU dLen (gB 4))))) [stoF { s with runs := List.replicate ps.length none ++ rest } bf, .ow (parts.map fun p => .lst (p.map encE)), .sh (.int (ps.length : Nat)), .no, .no] = some (.int ((parts.map List.length).sum : Nat)) := by
        refine ev_U (x := .lst ((parts.map fun p => ((p.length : Nat) : Int)).map D.int)) (ev_L (ev_lc (ds := parts.map fun p => .lst (p.map encE)) (ev_it (ev_Bo rfl)) (by rw [List.length_map, lp]; omega) ?_)) ?_
        · rw [List.map_map]
          refine compL_map parts (fun p => D.lst (p.map encE)) (fun p => D.int ((p.length : Nat) : Int)) fun p _ => ⟨_, rfl, ev_U (ev_B rfl) (by rw [d_lenL, List.length_map])⟩
        · rw [d_sum]
          have := sum_cast (parts.map List.length)
          rw [List.map_map] at this
          rw [← this]
          rfl
      refine W_seq (W_augMv hsum rfl ?_)
      rw [psum]
      show W _ [stoF { s with mv := s.mv + ((s.buf.length + (ps.map fun r => r.es.length).sum : Nat) : Int), runs := List.replicate ps.length none ++ rest } bf, .ow (parts.map fun p => .lst (p.map encE)), .sh (.int (ps.length : Nat)), .no, .no] _
      have hmerged := merged_eq parts (by omega) (by rw [lp]; omega)
      rw [← hE0] at hmerged
      refine W_seq (W_frz ?_)
      show W _ [stoF { s with mv := s.mv + ((s.buf.length + (ps.map fun r => r.es.length).sum : Nat) : Int), runs := List.replicate ps.length none ++ rest } bf, .sh (partsD parts), .sh (.int (ps.length : Nat)), .no, .no] _
      refine W_set (ev_call (ev_cs (ev_V rfl) ev_nl) hmerged) ?_
      show W _ [stoF { s with mv := s.mv + ((s.buf.length + (ps.map fun r => r.es.length).sum : Nat) : Int), runs := List.replicate ps.length none ++ rest } bf, .sh (partsD parts), .sh (.int (ps.length : Nat)), .sh (.lst (E0.map encE)), .no] _
      generalize hmv : s.mv + ((s.buf.length + (ps.map fun r => r.es.length).sum : Nat) : Int) = mv'
      have hpres := present_eq { s with mv := mv', runs := List.replicate ps.length none ++ rest } (by show (List.replicate ps.length none ++ rest).length < 1000000; rw [List.length_append, List.length_replicate]; omega)
      have fr : (List.replicate ps.length (none : Option RunM) ++ rest).filter (·.isSome) = rest.filter (·.isSome) := filter_rep _ _
      have ctest : gNot (gTru (gMeth 16 S_Store__present_runs (gB 0) aN)) [stoF { s with mv := mv', runs := List.replicate ps.length none ++ rest } bf, .sh (partsD parts), .sh (.int (ps.length : Nat)), .sh (.lst (E0.map encE)), .no] = some (rest.all (·.isNone)) := by
        have hB0 : gB 0 [stoF { s with mv := mv', runs := List.replicate ps.length none ++ rest } bf, .sh (partsD parts), .sh (.int (ps.length : Nat)), .sh (.lst (E0.map encE)), .no] = some (stoD { s with mv := mv', runs := List.replicate ps.length none ++ rest }) := by
          rw [hbf]
          exact stoF_sh { s with mv := mv', runs := List.replicate ps.length none ++ rest } s.buf
        refine (ev_not (ev_Tru (b := !(rest.filter (·.isSome)).isEmpty) (ev_meth hB0 ev_nl hpres) ?_)).trans ?_
        · show some (!(((List.replicate ps.length (none : Option RunM) ++ rest).filter (·.isSome)).map optR).isEmpty) = _
          rw [fr, List.isEmpty_map]
        · rw [Bool.not_not]
          congr 1
          rw [Bool.eq_iff_iff, List.isEmpty_iff]
          exact len_fil_none
      have hE' : (if rest.all (·.isNone) then E0.filter (fun e => e.2.isSome) else E0) = E := by rw [hE]; rfl
      have key : W (sSeq (sIf (gT (gOp dEq (gB 2) (gU dLen (gPB 0 [(16, 5)]))))
  (sApp 0 [(16, 5)] (gC .non))
  sNil)
  (sSeq (sIf (gTru (gB 3))
  (sIxS 0 [(16, 5)] (gV 2) (nD (gMk 5 S_Run___init__ (aC (gV 3) (aC (gPE 0 [(16, 1)]) aN)))))
  sNil)
  (DL.sFld 0 [] 16 4 (nOw aN)))) [stoF { s with mv := mv', runs := List.replicate ps.length none ++ rest } bf, .sh (partsD parts), .sh (.int (ps.length : Nat)), .sh (.lst (E.map encE)), .no] (fun r => ∃ Γ, r = .nx Γ ∧ Γ[0]? = some (stoS { s with mv := mv', buf := [], runs := List.replicate ps.length none ++ nw :: rest.tail })) := by
        have c4 : gT (gOp dEq (gB 2) (gU dLen (gPB 0 [(16, 5)]))) [stoF { s with mv := mv', runs := List.replicate ps.length none ++ rest } bf, .sh (partsD parts), .sh (.int (ps.length : Nat)), .sh (.lst (E.map encE)), .no] = some (((ps.length : Nat) : Int) == ((ps.length + rest.length : Nat) : Int)) :=
          ev_T (ev_op (ev_B rfl) (ev_U (x := .lst ((List.replicate ps.length none ++ rest).map optR)) rfl (by rw [d_lenL, List.length_map, List.length_append, List.length_replicate])) (d_eq eqOk_int eqOk_int eqd_int))
        have last : ∀ o, W (sSeq (sIf (gTru (gB 3))
  (sIxS 0 [(16, 5)] (gV 2) (nD (gMk 5 S_Run___init__ (aC (gV 3) (aC (gPE 0 [(16, 1)]) aN)))))
  sNil)
  (DL.sFld 0 [] 16 4 (nOw aN))) [stoF { s with mv := mv', runs := List.replicate ps.length none ++ (none :: o) } bf, .sh (partsD parts), .sh (.int (ps.length : Nat)), .sh (.lst (E.map encE)), .no] (fun r => ∃ Γ, r = .nx Γ ∧ Γ[0]? = some (stoS { s with mv := mv', buf := [], runs := List.replicate ps.length none ++ nw :: o })) := fun o => by
          have c5 : gTru (gB 3) [stoF { s with mv := mv', runs := List.replicate ps.length none ++ (none :: o) } bf, .sh (partsD parts), .sh (.int (ps.length : Nat)), .sh (.lst (E.map encE)), .no] = some (!E.isEmpty) := by
            refine ev_Tru (ev_B rfl) ?_
            show some (!(E.map encE).isEmpty) = _
            rw [List.isEmpty_map]
          have fin : ∀ rs, W (DL.sFld 0 [] 16 4 (nOw aN)) [stoF { s with mv := mv', runs := rs } bf, .sh (partsD parts), .sh (.int (ps.length : Nat)), .sh (.lst (E.map encE)), .no] (fun r => ∃ Γ, r = .nx Γ ∧ Γ[0]? = some (stoS { s with mv := mv', buf := [], runs := rs })) := fun rs => ⟨_, rfl, _, rfl, rfl⟩
          refine wq_if c5 (fun e => ?_) fun e => ?_
          · have ne : E ≠ [] := fun z => by rw [z] at e; cases e
            have en : nw = some ⟨E, vs⟩ := by rw [hnw, if_neg ne]
            refine W_runS (o := some ⟨E, vs⟩) (mk_at (ev_cs (ev_V rfl) (ev_cs (d := .int s.err) rfl ev_nl)) hrun) (ev_V rfl) rfl (by show ps.length < (List.replicate ps.length none ++ none :: o).length; rw [List.length_append, List.length_replicate, List.length_cons]; omega) ?_
            show W _ [stoF { s with mv := mv', runs := (List.replicate ps.length none ++ none :: o).set ps.length (some ⟨E, vs⟩) } bf, .sh (partsD parts), .sh (.int (ps.length : Nat)), .sh (.lst (E.map encE)), .no] _
            rw [set_rep, ← en]
            exact fin _
          · have em : E = [] := by
              cases hh : E with
              | nil => rfl
              | cons a l => rw [hh] at e; cases e
            have en : nw = none := by rw [hnw, if_pos em]
            refine W_nil ?_
            rw [en]
            exact fin _
        refine wq_if c4 (fun e => ?_) fun e => ?_
        · have e : rest = [] := by
            have : ((ps.length : Nat) : Int) = ((ps.length + rest.length : Nat) : Int) := by simpa using e
            exact List.eq_nil_of_length_eq_zero (by omega)
          refine W_runApp ev_C rfl (by show (List.replicate ps.length none ++ rest).length < 1000000; rw [List.length_append, List.length_replicate]; omega) ?_
          show W _ [stoF { s with mv := mv', runs := (List.replicate ps.length none ++ rest) ++ [none] } bf, .sh (partsD parts), .sh (.int (ps.length : Nat)), .sh (.lst (E.map encE)), .no] _
          rw [e, List.append_nil]
          exact last []
        · have e : rest ≠ [] := fun z => by rw [z] at e; simp at e
          obtain ⟨t, ht⟩ := hs.resolve_left e
          refine W_nil ?_
          rw [ht]
          exact last t
      refine wq_if ctest (fun e => ?_) (fun e => ?_)
      rotate_left
      · refine W_nil ?_
        have e0 : E0 = E := by rw [← hE', if_neg (by rw [e]; simp)]
        rw [e0]
        exact key
      · have e0 : E0.filter (fun e => e.2.isSome) = E := by rw [← hE', if_pos e]
        have hw := without_eq E0 (by omega)
        rw [e0] at hw
        refine W_set (ev_call (ev_cs (ev_V rfl) ev_nl) hw) ?_
        exact key
    by_cases z : j < ps.length
    · have hd : ps.drop j = ps[j] :: ps.drop (j + 1) := List.drop_eq_getElem_cons z
      have ht : ps.take (j + 1) = ps.take j ++ [ps[j]] := by rw [List.take_add_one, List.getElem?_eq_getElem z]; rfl
      have ixr : (gIx (gPB 0 [(16, 5)]) (gV 2)) [stoF { s with runs := List.replicate j none ++ ((ps.drop j).map some ++ rest) } bf, .ow ((s.buf :: (ps.take j).map (·.es)).map fun p => .lst (p.map encE)), .sh (.int (j : Nat)), .no, .no] = some (runDD ps[j]) := by
        refine ev_op (x := .lst ((List.replicate j none ++ ((ps.drop j).map some ++ rest)).map optR)) (y := .int (j : Nat)) rfl (ev_V rfl) (d_ixL ?_)
        rw [List.getElem?_map, hd, List.map_cons, List.cons_append, get_rep]
        rfl
      refine ⟨true, ev_andT (b := true) (c := true) (c1.trans (by rw [decide_eq_true (by omega)])) fun _ => ev_T (ev_op ixr ev_C rfl), (fun e => by cases e), fun _ => ?_⟩
      refine wq_app (ev_U ixr rfl) rfl (by rw [List.length_map, List.length_cons, List.length_map, List.length_take]; omega) ?_
      refine W_seq (W_runS (o := none) ev_C (ev_V rfl) rfl (by show j < (List.replicate j none ++ ((ps.drop j).map some ++ rest)).length; rw [lruns]; omega) ?_)
      refine W_aug rfl ev_I rfl ?_
      refine ⟨ps.length - (j + 1), by omega, j + 1, ?_, by omega, rfl⟩
      show [_, _, _, _, _] = [_, _, _, _, _]
      have er : (List.replicate j none ++ ((ps.drop j).map some ++ rest)).set j none = List.replicate (j + 1) none ++ ((ps.drop (j + 1)).map some ++ rest) := by
        rw [hd, List.map_cons, List.cons_append, set_rep, rep_snoc]
      have ep : (s.buf :: (ps.take j).map (·.es)).map (fun p => D.lst (p.map encE)) ++ [D.lst (ps[j].es.map encE)] = (s.buf :: (ps.take (j + 1)).map (·.es)).map fun p => D.lst (p.map encE) := by
        rw [ht, List.map_append, List.map_cons, List.map_cons, List.map_append]
        rfl
      show [stoF { s with runs := (List.replicate j none ++ ((ps.drop j).map some ++ rest)).set j none } bf, Sl.ow ((s.buf :: (ps.take j).map (·.es)).map (fun p => D.lst (p.map encE)) ++ [D.lst (ps[j].es.map encE)]), Sl.sh (D.int ((j : Int) + 1)), Sl.no, Sl.no] = _
      rw [er, ep]
      rfl
    · have ej : j = ps.length := by omega
      subst ej
      have hdr : ps.drop ps.length = [] := List.drop_length
      rw [hdr, List.map_nil, List.nil_append, List.take_length]
      rw [hdr, List.map_nil, List.nil_append, List.take_length] at c1
      refine ⟨false, ?_, (fun _ => after _ rfl), (fun e => by cases e)⟩
      rcases hs with e | ⟨t, e⟩
      · refine (ev_andT (c := true) c1 fun w => ?_).trans ?_
        · rw [lens, e] at w
          simp at w
        · rw [lens, e]
          simp
      · have hlt : ((ps.length : Nat) : Int) < s.runs.length := by rw [lens, e, List.length_cons]; omega
        refine ev_andT (b := true) (c := false) (c1.trans (by rw [decide_eq_true hlt])) fun _ => ev_T (ev_op (x := .non) (ev_op (x := .lst ((List.replicate ps.length none ++ rest).map optR)) (y := .int (ps.length : Nat)) rfl (ev_V rfl) (d_ixL ?_)) ev_C rfl)
        rw [List.getElem?_map, e, get_rep]
        rfl
  obtain ⟨r, h1, Γ, rfl, h2⟩ := W1
  unfold S_Store__flush runM
  show ((B_Store__flush [stoS s, .no, .no, .no, .no]).bind _) = _
  rw [h1]
  show ((Γ[0]?).bind fun s' => if isOwn s' then some (D.non, s') else none) = _
  rw [h2]
  rfl
/-- what a writing makes -/
def wrS (s : Sto) (k : Int) (v : Option Int) : Sto := { s with ed := s.ed + 1, buf := wrE s.buf k v }
inductive Wr (s : Sto) (k : Int) (v : Option Int) (s' : Sto) : Prop
  | small (h : ((wrE s.buf k v).length : Int) < s.cap) (e : s' = wrS s k v)
  | big (ps : List RunM) (rest : List (Option RunM)) (E : Ents) (nw : Option RunM) (h : s.cap ≤ (wrE s.buf k v).length) (f : Fl (wrS s k v) s' ps rest E nw)
theorem W_bufSet {Γ : DEnv} {s : Sto} {kf f : Ex} {p : Nat} {e : Int × Option Int} {P : Res → Prop} (h : f Γ = some (encE e)) (hk : kf Γ = some (.int (p : Nat))) (h0 : Γ[0]? = some (stoS s)) (hp : p < s.buf.length) (q : P (.nx (Γ.set 0 (stoS { s with buf := s.buf.set p e })))) : W (sIxS 0 [(16, 4)] kf f) Γ P := by
  refine ⟨_, ?_, q⟩
  have e1 : gP 0 [(16, 4)] Γ = some (.ow (s.buf.map encE)) := by unfold gP; rw [h0]; rfl
  have e3 : upP 0 [(16, 4)] (.ow ((s.buf.set p e).map encE)) Γ = some (.nx (Γ.set 0 (stoS { s with buf := s.buf.set p e }))) := by unfold upP; rw [h0]; rfl
  unfold sIxS
  rw [h]
  show ((kf Γ).bind _) = _
  rw [hk]
  show (match gP 0 [(16, 4)] Γ, D.int (p : Nat) with
    | some (.ow xs), .int n => (ixN xs.length n).bind fun m => upP 0 [(16, 4)] (.ow (xs.set m (encE e))) Γ
    | _, _ => none) = _
  rw [e1]
  show ((ixN (s.buf.map encE).length (p : Int)).bind fun m => upP 0 [(16, 4)] (.ow ((s.buf.map encE).set m (encE e))) Γ) = _
  have e4 : ixN (s.buf.map encE).length (p : Int) = some p := by
    rw [List.length_map]
    unfold ixN
    rw [if_pos (by omega), Int.toNat_natCast, if_pos (by omega)]
  rw [e4]
  show upP 0 [(16, 4)] (.ow ((s.buf.map encE).set p (encE e))) Γ = _
  rw [← List.map_set]
  exact e3
theorem W_bufIns {Γ : DEnv} {s : Sto} {kf f : Ex} {p : Nat} {e : Int × Option Int} {P : Res → Prop} (h : f Γ = some (encE e)) (hk : kf Γ = some (.int (p : Nat))) (h0 : Γ[0]? = some (stoS s)) (hp : p ≤ s.buf.length) (hl : s.buf.length < 1000000) (q : P (.nx (Γ.set 0 (stoS { s with buf := s.buf.take p ++ [e] ++ s.buf.drop p })))) : W (sIns 0 [(16, 4)] kf f) Γ P := by
  refine ⟨_, ?_, q⟩
  have e1 : gP 0 [(16, 4)] Γ = some (.ow (s.buf.map encE)) := by unfold gP; rw [h0]; rfl
  have e3 : upP 0 [(16, 4)] (.ow ((s.buf.take p ++ [e] ++ s.buf.drop p).map encE)) Γ = some (.nx (Γ.set 0 (stoS { s with buf := s.buf.take p ++ [e] ++ s.buf.drop p }))) := by unfold upP; rw [h0]; rfl
  unfold sIns
  rw [hk]
  show ((f Γ).bind _) = _
  rw [h]
  show (match gP 0 [(16, 4)] Γ, D.int (p : Nat) with
    | some (.ow xs), .int j => if xs.length < 1000000 ∧ 0 ≤ j ∧ j < 2 ^ 63 then upP 0 [(16, 4)] (.ow (xs.take j.toNat ++ [encE e] ++ xs.drop j.toNat)) Γ else none
    | _, _ => none) = _
  rw [e1]
  show (if (s.buf.map encE).length < 1000000 ∧ 0 ≤ (p : Int) ∧ (p : Int) < 2 ^ 63 then upP 0 [(16, 4)] (.ow ((s.buf.map encE).take p ++ [encE e] ++ (s.buf.map encE).drop p)) Γ else none) = _
  rw [if_pos (by rw [List.length_map]; omega), ← e3, List.map_append, List.map_append, List.map_take, List.map_drop]
  rfl
theorem write_eq {s : Sto} (ok : StoOk s) (k : Int) (v : Option Int) (hk : -(2 ^ 55) < k ∧ k < 2 ^ 55) (hd : s.ed < 3999) : ∃ s', S_Store_write (stoS s) [.int k, optD v] = some (.non, stoS s') ∧ Wr s k v s' := by
  obtain ⟨p, hp⟩ := pos_ex ok.asc k
  have tot := ok.tot
  have bl : s.buf.length < 4000 := by omega
  have hpl := place_eq ok.asc hp (by omega)
  have hho := holds_eq ok.asc hp (by omega)
  have wl := wrE_len s.buf k v
  have smw : ∀ j ∈ keysE (wrE s.buf k v), -(2 ^ 55) < j ∧ j < 2 ^ 55 := fun j hj => by
    have q : lookE (wrE s.buf k v) j ≠ none := fun z => lookE_none.mp z hj
    rw [wrE_look] at q
    by_cases z : k = j
    · rw [← z]; exact hk
    · rw [if_neg z] at q
      refine ok.sm j ?_
      by_cases w : j ∈ keysE s.buf
      · exact w
      · exact absurd (lookE_none.mpr w) q
  have few := ok.few
  have W1 : W B_Store_write [stoS s, .sh (.int k), .sh (optD v), .no] (fun r => ∃ Γ s', r = .nx Γ ∧ Γ[0]? = some (stoS s') ∧ Wr s k v s') := by
    unfold B_Store_write
    refine W_seq (W_augEd (s := s) (b := .ow (s.buf.map encE)) ev_I rfl ?_)
    show W _ [stoS { s with ed := s.ed + 1 }, .sh (.int k), .sh (optD v), .no] _
    refine wq_set (ev_call (ev_cs (d := .lst (s.buf.map encE)) rfl (ev_cs (ev_V rfl) ev_nl)) hpl) ?_
    have c : gTru (gCall S_holds (aC (gPB 0 [(16, 4)]) (aC (gV 3) (aC (gV 1) aN)))) [stoS { s with ed := s.ed + 1 }, .sh (.int k), .sh (optD v), .sh (.int p)] = some (lookE s.buf k).isSome :=
      ev_Tru (ev_call (ev_cs (d := .lst (s.buf.map encE)) rfl (ev_cs (ev_V rfl) (ev_cs (ev_V rfl) ev_nl))) hho) rfl
    have after : W (sIf (gT (gOp dGe (gU dLen (gPB 0 [(16, 4)])) (gPE 0 [(16, 0)])))
  (sExpM (gMM 0 [] 16 S_Store__flush aN))
  sNil) [stoS (wrS s k v), .sh (.int k), .sh (optD v), .sh (.int p)] (fun r => ∃ Γ s', r = .nx Γ ∧ Γ[0]? = some (stoS s') ∧ Wr s k v s') := by
      refine W_if (b := decide (((wrE s.buf k v).length : Int) ≥ s.cap)) (ev_T (ev_op (x := .int ((wrE s.buf k v).length : Nat)) (y := .int s.cap) (ev_U (x := .lst ((wrE s.buf k v).map encE)) rfl (by rw [d_lenL, List.length_map])) rfl rfl)) (fun e => ?_) fun e => ?_
      · have e : s.cap ≤ ((wrE s.buf k v).length : Int) := by simpa using e
        obtain ⟨s', ps, rest, E, nw, h1, h2⟩ := flush_eq (s := wrS s k v) ok.cap ok.err smw ok.runs (by show (((wrE s.buf k v).length + totR s.runs : Nat) : Int) ≤ 4000; omega) (by show s.runs.length < 100000; omega)
        refine ⟨.nx [stoS s', .sh (.int k), .sh (optD v), .sh (.int p)], ?_, _, s', rfl, rfl, .big ps rest E nw e h2⟩
        unfold sExpM
        have g : gMM 0 [] 16 S_Store__flush aN [stoS (wrS s k v), .sh (.int k), .sh (optD v), .sh (.int p)] = some (.non, [stoS s', .sh (.int k), .sh (optD v), .sh (.int p)]) := by
          show (((some []).bind fun ds => (S_Store__flush (stoS (wrS s k v)) ds).bind _) = _)
          show (((S_Store__flush (stoS (wrS s k v)) []).bind _) = _)
          rw [h1]
          rfl
        rw [g]
        rfl
      · have e : ((wrE s.buf k v).length : Int) < s.cap := by
          have : ¬ ((wrE s.buf k v).length : Int) ≥ s.cap := by simpa using e
          omega
        exact W_nil ⟨_, wrS s k v, rfl, rfl, .small e rfl⟩
    refine wq_if c (fun e => ?_) fun e => ?_
    · obtain ⟨w, hw⟩ := (hp.hold ok.asc).mp e
      have pl := (List.getElem?_eq_some_iff.mp hw).1
      refine W_bufSet (s := { s with ed := s.ed + 1 }) (e := (k, v)) (ev_tu (ev_cs (ev_V rfl) (ev_cs (ev_V rfl) ev_nl))) (ev_V rfl) rfl pl ?_
      show W _ [stoS { s with ed := s.ed + 1, buf := s.buf.set p (k, v) }, .sh (.int k), .sh (optD v), .sh (.int p)] _
      rw [wrE_set ok.asc hp v w hw]
      exact after
    · have e : lookE s.buf k = none := by simpa using e
      refine W_bufIns (s := { s with ed := s.ed + 1 }) (e := (k, v)) (ev_tu (ev_cs (ev_V rfl) (ev_cs (ev_V rfl) ev_nl))) (ev_V rfl) rfl hp.le (by show s.buf.length < 1000000; omega) ?_
      show W _ [stoS { s with ed := s.ed + 1, buf := s.buf.take p ++ [(k, v)] ++ s.buf.drop p }, .sh (.int k), .sh (optD v), .sh (.int p)] _
      rw [wrE_ins ok.asc hp v e]
      exact after
  obtain ⟨r, h1, Γ, s', rfl, h2, h3⟩ := W1
  refine ⟨s', ?_, h3⟩
  unfold S_Store_write runM
  show ((B_Store_write [stoS s, .sh (.int k), .sh (optD v), .no]).bind _) = _
  rw [h1]
  show ((Γ[0]?).bind fun s' => if isOwn s' then some (D.non, s') else none) = _
  rw [h2]
  rfl
theorem gMM_eq {S : Sl → List D → Option (D × Sl)} {fs : Ag} {ds : List D} {s s' : Sto} {Γ : DEnv} {i : Nat} (h0 : Γ[i]? = some (stoS s)) (hf : fs Γ = some ds) (h : S (stoS s) ds = some (.non, stoS s')) : gMM i [] 16 S fs Γ = some (.non, Γ.set i (stoS s')) := by
  unfold gMM gCM
  have e : gP i [] Γ = some (stoS s) := by unfold gP; rw [h0]; rfl
  rw [e]
  show (if isOwn (stoS s) = true then (fs Γ).bind fun ds => (S (stoS s) ds).bind fun r => (Γ[i]?).bind fun s => (setR [] r.2 s).bind fun s2 => some (r.1, Γ.set i s2) else none) = _
  rw [if_pos (show isOwn (stoS s) = true from rfl), hf]
  show ((S (stoS s) ds).bind _) = _
  rw [h]
  show ((Γ[i]?).bind _) = _
  rw [h0]
  rfl
theorem put_eq {s s' : Sto} {k : Int} {v : D} (h : S_Store_write (stoS s) [.int k, v] = some (.non, stoS s')) : S_Store_put (stoS s) [.int k, v] = some (.non, stoS s') := by
  unfold S_Store_put runM B_Store_put
  show ((sExpM (gMM 0 [] 16 S_Store_write (aC (gV 1) (aC (gV 2) aN))) [stoS s, .sh (.int k), .sh v]).bind _) = _
  unfold sExpM
  rw [gMM_eq (i := 0) rfl (ev_cs (ev_V rfl) (ev_cs (ev_V rfl) ev_nl)) h]
  rfl
theorem remove_eq {s s' : Sto} {k : Int} (h : S_Store_write (stoS s) [.int k, .non] = some (.non, stoS s')) : S_Store_remove (stoS s) [.int k] = some (.non, stoS s') := by
  unfold S_Store_remove runM B_Store_remove
  show ((sExpM (gMM 0 [] 16 S_Store_write (aC (gV 1) (aC (gC .non) aN))) [stoS s, .sh (.int k)]).bind _) = _
  unfold sExpM
  rw [gMM_eq (i := 0) rfl (ev_cs (ev_V rfl) (ev_cs ev_C ev_nl)) h]
  rfl
theorem ledit_eq {s s' : Sto} {k : Int} {v : Option Int} (h : S_Store_write (stoS s) [.int k, optD v] = some (.non, stoS s')) : S__law_edit (stoS s) [encE (k, v)] = some (.non, stoS s') := by
  have W1 : W B__law_edit [stoS s, .sh (encE (k, v))] (fun r => r = .rm .non (stoS s')) := by
    unfold B__law_edit
    have ret : ∀ (S : Sl → List D → Option (D × Sl)) (fs : Ag) (ds : List D), fs [stoS s, .sh (encE (k, v))] = some ds → S (stoS s) ds = some (.non, stoS s') → W (sRetCM (gMM 0 [] 16 S fs)) [stoS s, .sh (encE (k, v))] (fun r => r = .rm .non (stoS s')) := fun S fs ds hf hS => by
      refine ⟨_, ?_, rfl⟩
      unfold sRetCM
      rw [gMM_eq (i := 0) rfl hf hS]
      rfl
    cases v with
    | none => exact wq_if (b := true) (ev_T (ev_op (ev_op (ev_B rfl) ev_I rfl) ev_C rfl)) (fun _ => W_mono (ret _ _ [.int k] (ev_cs (ev_op (ev_B rfl) ev_I rfl) ev_nl) (remove_eq h)) fun r e => by subst e; rfl) fun e => by cases e
    | some i => exact wq_if (b := false) (ev_T (ev_op (ev_op (ev_B rfl) ev_I rfl) ev_C rfl)) (fun e => by cases e) fun _ => W_nil (ret _ _ [.int k, .int i] (ev_cs (ev_op (ev_B rfl) ev_I rfl) (ev_cs (ev_op (ev_B rfl) ev_I rfl) ev_nl)) (put_eq h))
  obtain ⟨r, h1, rfl⟩ := W1
  unfold S__law_edit runM
  show ((B__law_edit [stoS s, .sh (encE (k, v))]).bind _) = _
  rw [h1]
  rfl
/-! the store stays well -/
theorem Fl.asc {s s' : Sto} {ps : List RunM} {rest : List (Option RunM)} {E : Ents} {nw : Option RunM} (f : Fl s s' ps rest E nw) : AscE E ∧ E.length ≤ s.buf.length + (ps.map fun r => r.es.length).sum := by
  obtain ⟨m1, m2, m3⟩ := mrgE_spec (s.buf :: ps.map (·.es))
  rw [List.map_cons, List.sum_cons, List.map_map] at m3
  rw [f.eE]
  unfold flE
  split
  · exact ⟨m1.filter _, Nat.le_trans (List.length_filter_le _ _) m3⟩
  · exact ⟨m1, m3⟩
theorem Wr.ok {s s' : Sto} {k : Int} {v : Option Int} (ok : StoOk s) (hk : -(2 ^ 55) < k ∧ k < 2 ^ 55) (hd : s.ed < 3999) (w : Wr s k v s') : StoOk s' := by
  have wl := wrE_len s.buf k v
  have tot := ok.tot
  have few := ok.few
  have smw : ∀ j ∈ keysE (wrE s.buf k v), -(2 ^ 55) < j ∧ j < 2 ^ 55 := fun j hj => by
    have q : lookE (wrE s.buf k v) j ≠ none := fun z => lookE_none.mp z hj
    rw [wrE_look] at q
    by_cases z : k = j
    · rw [← z]; exact hk
    · rw [if_neg z] at q
      refine ok.sm j ?_
      by_cases w : j ∈ keysE s.buf
      · exact w
      · exact absurd (lookE_none.mpr w) q
  cases w with
  | small h e =>
    subst e
    exact ⟨ok.cap, ok.err, wrE_asc _ _ _, smw, ok.runs, by show (((wrE s.buf k v).length + totR s.runs : Nat) : Int) ≤ s.ed + 1; omega, by show s.ed + 1 < 4000; omega, by show (s.runs.length : Int) ≤ s.ed + 1; omega⟩
  | big ps rest E nw h f =>
    obtain ⟨aE, lE⟩ := f.asc
    have hr : s.runs = ps.map some ++ rest := f.was
    have lE : E.length ≤ (wrE s.buf k v).length + (ps.map fun r => r.es.length).sum := lE
    have ln : runLen nw ≤ E.length := by
      rcases f.nw with ⟨_, rfl⟩ | ⟨_, vs, rfl, _⟩
      · exact Nat.zero_le _
      · exact Nat.le_refl _
    have t1 : totR s.runs = (ps.map fun r => r.es.length).sum + totR rest := by rw [hr, totR_app, totR_some]
    have t2 : totR s'.runs = runLen nw + totR rest.tail := by
      rw [f.runs, totR_app, totR_rep, Nat.zero_add]
      unfold totR
      rw [List.map_cons, List.sum_cons]
    have t3 : totR rest.tail ≤ totR rest := by
      cases rest with
      | nil => exact Nat.le_refl _
      | cons a l =>
        show totR l ≤ totR (a :: l)
        unfold totR
        rw [List.map_cons, List.sum_cons]
        omega
    have l1 : s.runs.length = ps.length + rest.length := by rw [hr, List.length_append, List.length_map]
    have l2 : s'.runs.length = ps.length + (rest.tail.length + 1) := by rw [f.runs, List.length_append, List.length_replicate, List.length_cons]
    have l3 : rest.tail.length + 1 ≤ rest.length + 1 := by rw [List.length_tail]; omega
    have ed' : s'.ed = s.ed + 1 := f.ed
    refine ⟨by rw [f.cap]; exact ok.cap, by rw [f.err]; exact ok.err, by rw [f.buf]; exact List.Pairwise.nil, by rw [f.buf]; intro j hj; simp [keysE] at hj, fun r hr' => ?_, by rw [f.buf, ed', List.length_nil, t2]; omega, by rw [ed']; omega, by rw [ed', l2]; omega⟩
    rw [f.runs] at hr'
    rcases List.mem_append.mp hr' with z | z
    · exact absurd (List.eq_of_mem_replicate z) (by simp)
    · rcases List.mem_cons.mp z with z | z
      · rcases f.nw with ⟨_, rfl⟩ | ⟨ne, vs, rfl, ix⟩
        · cases z
        · cases z; exact ⟨aE, ne, ix⟩
      · exact ok.runs r (by rw [hr]; exact List.mem_append_right _ (List.mem_of_mem_tail z))
/-- a new store -/
theorem new_eq (cap err : Int) : gMk 16 S_Store___init__ (fun _ => some [.int cap, .int err]) [] = some (stoS ⟨cap, err, 0, 0, [], []⟩) := rfl
theorem new_ok {cap err : Int} (h : 1 ≤ cap ∧ cap < 2 ^ 40) (he : 0 ≤ err ∧ err < 2 ^ 20) : StoOk ⟨cap, err, 0, 0, [], []⟩ :=
  ⟨h, he, List.Pairwise.nil, fun k hk => by simp [keysE] at hk, fun r hr => by simp at hr, by simp [totR], by show (0 : Int) < 4000; omega, by simp⟩
/-! the law's own store -/
def esR : Option RunM → Ents
  | none => []
  | some r => r.es
def lruns (rs : List (Option RunM)) : List Ents := rs.map esR
def entsD (es : Ents) : D := .lst (es.map encE)
def modD (s : Sto) : D := .tup [.int s.cap, entsD s.buf, .lst ((lruns s.runs).map entsD), .int s.mv]
theorem mrgE_snoc (ps : List Ents) (q : Ents) : mrgE (ps ++ [q]) = mrgE [mrgE ps, q] := by
  refine asc_ext (mrgE_spec _).1 (mrgE_spec _).1 fun k => ?_
  rw [(mrgE_spec _).2.1, (mrgE_spec _).2.1, List.findSome?_append, List.findSome?_cons, List.findSome?_cons, (mrgE_spec ps).2.1, List.findSome?_cons]
  cases List.findSome? (fun p => lookE p k) ps <;> cases lookE q k <;> simp
theorem lruns_rep (n : Nat) (l : List (Option RunM)) : lruns (List.replicate n none ++ l) = List.replicate n [] ++ lruns l := by
  unfold lruns
  rw [List.map_append, List.map_replicate]
  rfl
theorem lruns_some (ps : List RunM) (l : List (Option RunM)) : lruns (ps.map some ++ l) = ps.map (fun x : RunM => x.es) ++ lruns l := by
  unfold lruns
  rw [List.map_append, List.map_map]
  rfl
theorem esR_len {o : Option RunM} (h : ∀ r, o = some r → r.es ≠ []) : ((esR o).length == 0) = o.isNone := by
  cases o with
  | none => rfl
  | some r =>
    have := h r rfl
    show (r.es.length == 0) = false
    rw [beq_eq_false_iff_ne]
    intro z
    exact this (List.eq_nil_of_length_eq_zero z)
theorem ix_ents {l : List Ents} {j : Nat} {e : Ents} (h : l[j]? = some e) : dIx (.lst (l.map entsD)) (.int (j : Nat)) = some (entsD e) := d_ixL (by rw [List.getElem?_map, h]; rfl)
theorem len_ents {e : Ents} : dLen (entsD e) = some (.int e.length) := by
  unfold entsD
  rw [d_lenL, List.length_map]
theorem lflushed_eq {s s' : Sto} {ps : List RunM} {rest : List (Option RunM)} {E : Ents} {nw : Option RunM} (asc : AscE s.buf) (runs : ∀ r, some r ∈ s.runs → RunOk r) (tot : ((s.buf.length + totR s.runs : Nat) : Int) ≤ 4000) (few : s.runs.length < 100000) (f : Fl s s' ps rest E nw) : S__law_flushed [modD s] = some (modD s') := by
  have hr := f.was
  have lens : s.runs.length = ps.length + rest.length := by rw [hr, List.length_append, List.length_map]
  have psok : ∀ r ∈ ps, RunOk r := fun r h => runs r (by rw [hr]; exact List.mem_append_left _ (List.mem_map_of_mem h))
  have restok : ∀ o ∈ rest, ∀ r, o = some r → r.es ≠ [] := fun o ho r e => (runs r (by rw [hr, ← e]; exact List.mem_append_right _ ho)).ne
  have tot2 : s.buf.length + ((ps.map fun r : RunM => r.es.length).sum + totR rest) ≤ 4000 := by
    rw [hr, totR_app, totR_some] at tot
    omega
  obtain ⟨R0, hR0⟩ : ∃ R0, R0 = lruns rest := ⟨_, rfl⟩
  have lR0 : R0.length = rest.length := by rw [hR0]; unfold lruns; rw [List.length_map]
  have hl0 : lruns s.runs = ps.map (fun x : RunM => x.es) ++ R0 := by rw [hr, lruns_some, hR0]
  refine run_Weq ?_
  unfold B__law_flushed
  refine wq_unp (d := modD s) (ev_V rfl) rfl ?_
  refine wq_set (ev_V rfl) ?_
  refine wq_set (d := .int (s.mv + (s.buf.length : Nat))) (ev_op (ev_V rfl) (ev_U (ev_B rfl) len_ents) d_add) ?_
  refine wq_setO (ds := (lruns s.runs).map entsD) (ev_UL (ev_B rfl) rfl) ?_
  refine wq_set ev_I ?_
  walk_at "ev norm"
  -- after the merged ones
  have after : ∀ s7 : Sl, W (sSeq (sIf (gTru (gU dAll (gL (gLc [8] (gIt (gL (gSl (gB 3) (gSo (gV 6)) gNo))) (gN 8) gYes (gOp dEq (gU dLen (gB 8)) (gI 0))))))
  (sSet 5 (gL (gLc [9] (gIt (gV 5)) (gN 9) (gT (gOp dNoN (gIx (gB 9) (gI 1)) (gC .non))) (gV 9))))
  sNil)
  (sSeq (sIf (gT (gOp dEq (gB 6) (gU dLen (gB 3))))
  (sApp 3 [] (gL aN))
  sNil)
  (sSeq (sIxS 3 [] (gV 6) (gV 5))
  (sFrz 3 (sRet (gTu 4 (aC (gV 1) (aC (gL aN) (aC (gV 3) (aC (gV 4) aN)))))))))) [.sh (modD s), .sh (.int s.cap), .sh (entsD s.buf), .ow ((List.replicate ps.length [] ++ R0).map entsD), .sh (.int (s.mv + (s.buf.length : Nat) + ((ps.map fun r : RunM => r.es.length).sum : Nat))), .sh (entsD (mrgE (s.buf :: ps.map (fun x : RunM => x.es)))), .sh (.int (ps.length : Nat)), s7, .no, .no] (isRt (· = modD s')) := fun s7 => by
    obtain ⟨E0, hE0⟩ : ∃ E0, E0 = mrgE (s.buf :: ps.map (fun x : RunM => x.es)) := ⟨_, rfl⟩
    rw [← hE0]
    have lE0 : E0.length < 900000 := by
      have := (mrgE_spec (s.buf :: ps.map (fun x : RunM => x.es))).2.2
      rw [List.map_cons, List.sum_cons, List.map_map, ← hE0] at this
      have t : ((ps.map (List.length ∘ fun x => x.es)).sum) = (ps.map fun r : RunM => r.es.length).sum := rfl
      omega
    have dr : cutD (List.replicate ps.length [] ++ R0) (some (ps.length : Nat)) none = R0 := by
      rw [cutD_from]
      rw [List.drop_append_of_le_length (by rw [List.length_replicate]; exact Nat.le_refl _)]
      rw [List.drop_eq_nil_of_le (by rw [List.length_replicate]; exact Nat.le_refl _), List.nil_append]
    have call : gTru (gU dAll (gL (gLc [8] (gIt (gL (gSl (gB 3) (gSo (gV 6)) gNo))) (gN 8) gYes (gOp dEq (gU dLen (gB 8)) (gI 0))))) [.sh (modD s), .sh (.int s.cap), .sh (entsD s.buf), .ow ((List.replicate ps.length [] ++ R0).map entsD), .sh (.int (s.mv + (s.buf.length : Nat) + ((ps.map fun r : RunM => r.es.length).sum : Nat))), .sh (entsD E0), .sh (.int (ps.length : Nat)), s7, .no, .no] = some (rest.all (·.isNone)) := by
      refine ev_Tru (x := .bl (R0.all fun e => e.length == 0)) (ev_U (x := .lst (R0.map fun e => .bl (e.length == 0))) (ev_L (ev_lc (ds := R0.map entsD) (ev_it (ev_L (ev_Sl (ev_Bo rfl) (ev_So (ev_V rfl)) ev_No (by rw [d_cut, dr]))) ) (by rw [List.length_map, lR0]; omega) (compL_map R0 entsD (fun e => D.bl (e.length == 0)) fun e _ => ⟨_, rfl, ?_⟩))) (all_map_bl _ _)) ?_
      · refine (ev_op (ev_U (ev_B rfl) len_ents) ev_I (d_eq eqOk_int eqOk_int eqd_int)).trans ?_
        congr 2
        rw [Bool.eq_iff_iff]
        simp
      · show some (R0.all fun e => e.length == 0) = _
        rw [hR0]
        unfold lruns
        rw [List.all_map]
        congr 1
        rw [Bool.eq_iff_iff, List.all_eq_true, List.all_eq_true]
        constructor
        · intro h o ho
          have := h o ho
          rw [← esR_len (restok o ho)]
          exact this
        · intro h o ho
          have := h o ho
          show ((esR o).length == 0) = true
          rw [esR_len (restok o ho)]
          exact this
    have hE : (if rest.all (·.isNone) then E0.filter (fun e => e.2.isSome) else E0) = E := by rw [hE0]; exact f.eE.symm
    have key : W (sSeq (sIf (gT (gOp dEq (gB 6) (gU dLen (gB 3))))
  (sApp 3 [] (gL aN))
  sNil)
  (sSeq (sIxS 3 [] (gV 6) (gV 5))
  (sFrz 3 (sRet (gTu 4 (aC (gV 1) (aC (gL aN) (aC (gV 3) (aC (gV 4) aN))))))))) [.sh (modD s), .sh (.int s.cap), .sh (entsD s.buf), .ow ((List.replicate ps.length [] ++ R0).map entsD), .sh (.int (s.mv + (s.buf.length : Nat) + ((ps.map fun r : RunM => r.es.length).sum : Nat))), .sh (entsD E), .sh (.int (ps.length : Nat)), s7, .no, .no] (isRt (· = modD s')) := by
      have last : ∀ o : List Ents, o = lruns rest.tail → W (sSeq (sIxS 3 [] (gV 6) (gV 5))
  (sFrz 3 (sRet (gTu 4 (aC (gV 1) (aC (gL aN) (aC (gV 3) (aC (gV 4) aN)))))))) [.sh (modD s), .sh (.int s.cap), .sh (entsD s.buf), .ow ((List.replicate ps.length [] ++ [] :: o).map entsD), .sh (.int (s.mv + (s.buf.length : Nat) + ((ps.map fun r : RunM => r.es.length).sum : Nat))), .sh (entsD E), .sh (.int (ps.length : Nat)), s7, .no, .no] (isRt (· = modD s')) := fun o ho => by
        refine W_seq (W_ixS (m := ps.length) (ev_V rfl) (ev_V rfl) rfl (by rw [List.length_map, List.length_append, List.length_replicate, List.length_cons]; omega) ?_)
        rw [← List.map_set, set_rep]
        refine W_frz (W_ret (ev_tu (ev_cs (ev_V rfl) (ev_cs (ev_L ev_nl) (ev_cs (ev_V rfl) (ev_cs (ev_V rfl) ev_nl))))) ?_)
        have e1 : lruns s'.runs = List.replicate ps.length [] ++ E :: o := by
          rw [f.runs, lruns_rep, ho]
          have : lruns (nw :: rest.tail) = esR nw :: lruns rest.tail := rfl
          rw [this]
          rcases f.nw with ⟨a, b⟩ | ⟨a, vs, b, _⟩
          · rw [b, a]; rfl
          · rw [b]; rfl
        show D.tup _ = modD s'
        unfold modD
        rw [f.cap, f.buf, f.mv, e1]
        have e2 : s.mv + (s.buf.length : Nat) + ((ps.map fun r : RunM => r.es.length).sum : Nat) = s.mv + ((s.buf.length + (ps.map fun r : RunM => r.es.length).sum : Nat) : Int) := by omega
        rw [e2]
        rfl
      have c4 : gT (gOp dEq (gB 6) (gU dLen (gB 3))) [.sh (modD s), .sh (.int s.cap), .sh (entsD s.buf), .ow ((List.replicate ps.length [] ++ R0).map entsD), .sh (.int (s.mv + (s.buf.length : Nat) + ((ps.map fun r : RunM => r.es.length).sum : Nat))), .sh (entsD E), .sh (.int (ps.length : Nat)), s7, .no, .no] = some (((ps.length : Nat) : Int) == ((ps.length + rest.length : Nat) : Int)) :=
        ev_T (ev_op (ev_B rfl) (ev_U (ev_Bo rfl) (by rw [d_lenL, List.length_map, List.length_append, List.length_replicate, lR0])) (d_eq eqOk_int eqOk_int eqd_int))
      refine wq_if c4 (fun e => ?_) fun e => W_nil ?_
      · have e : rest = [] := by
          have : ((ps.length : Nat) : Int) = ((ps.length + rest.length : Nat) : Int) := by simpa using e
          exact List.eq_nil_of_length_eq_zero (by omega)
        refine W_app (d := entsD []) (ev_L ev_nl) rfl (by rw [List.length_map, List.length_append, List.length_replicate, lR0]; omega) ?_
        have z : (List.replicate ps.length [] ++ R0).map entsD ++ [entsD []] = (List.replicate ps.length [] ++ [] :: lruns rest.tail).map entsD := by
          rw [hR0, e, List.map_append, List.map_append]
          show _ ++ [] ++ [entsD []] = _ ++ [entsD []]
          rw [List.append_nil]
        show W _ [.sh (modD s), .sh (.int s.cap), .sh (entsD s.buf), .ow ((List.replicate ps.length [] ++ R0).map entsD ++ [entsD []]), _, _, _, _, _, _] _
        rw [z]
        exact last _ rfl
      · have e : rest ≠ [] := fun z => by rw [z] at e; simp at e
        obtain ⟨t, ht⟩ := f.stop.resolve_left e
        have z : R0 = [] :: lruns rest.tail := by rw [hR0, ht]; rfl
        rw [z]
        exact last _ rfl
    refine wq_if call (fun e => ?_) fun e => W_nil ?_
    · have e0 : E0.filter (fun e => e.2.isSome) = E := by rw [← hE, if_pos e]
      refine W_set (d := entsD E) ?_ key
      rw [← e0]
      refine ev_L (ev_lc (ds := E0.map encE) (ev_it (ev_V rfl)) (by rw [List.length_map]; omega) (compL_filter E0 encE encE (fun e => e.2.isSome) ?_))
      rintro ⟨k, v⟩ _
      refine ⟨_, rfl, ?_, fun _ => ev_V rfl⟩
      cases v with
      | none => exact ev_T (ev_op (ev_op (ev_B rfl) ev_I rfl) ev_C rfl)
      | some i => exact ev_T (ev_op (ev_op (ev_B rfl) ev_I rfl) ev_C rfl)
    · have e0 : E0 = E := by rw [← hE, if_neg (by rw [e]; simp)]
      rw [e0]
      exact key
  have lruns0 : (lruns s.runs).length = s.runs.length := by unfold lruns; rw [List.length_map]
  -- the state of a turn
  refine wq_rng (fun k Γ => ∃ j s7, j = min k ps.length ∧ Γ = [.sh (modD s), .sh (.int s.cap), .sh (entsD s.buf), .ow ((List.replicate j [] ++ ((ps.drop j).map (fun x : RunM => x.es) ++ R0)).map entsD), .sh (.int (s.mv + (s.buf.length : Nat) + (((ps.take j).map fun r : RunM => r.es.length).sum : Nat))), .sh (entsD (mrgE (s.buf :: (ps.take j).map (fun x : RunM => x.es)))), .sh (.int (j : Nat)), s7, .no, .no]) (n := s.runs.length) (ev_rng1 (m := s.runs.length) (ev_cs (ev_U (ev_Bo rfl) (by rw [d_lenL, List.length_map, lruns0])) ev_nl) (by omega) (by omega)) ⟨0, .no, by omega, ?_⟩ ?_ ?_
  · rw [List.take_zero, List.drop_zero, hl0]
    show _ = [_, _, _, _, Sl.sh (D.int (s.mv + (s.buf.length : Nat) + ((0 : Nat) : Int))), Sl.sh (entsD (mrgE [s.buf])), _, _, _, _]
    rw [mrgE_one asc]
    have : s.mv + (s.buf.length : Nat) + ((0 : Nat) : Int) = s.mv + (s.buf.length : Nat) := by omega
    rw [this]
    rfl
  · rintro k Γ hk ⟨j, s7, hj, rfl⟩
    refine ⟨_, rfl, ?_⟩
    have e2 : (0 + (k : Int)) = (k : Nat) := by omega
    rw [e2]
    by_cases z : k < ps.length
    · obtain rfl : j = k := by omega
      have hd : ps.drop j = ps[j] :: ps.drop (j + 1) := List.drop_eq_getElem_cons z
      have ht : ps.take (j + 1) = ps.take j ++ [ps[j]] := by rw [List.take_add_one, List.getElem?_eq_getElem z]; rfl
      have pk := psok ps[j] (List.getElem_mem z)
      have hget : (List.replicate j [] ++ ((ps.drop j).map (fun x : RunM => x.es) ++ R0))[j]? = some ps[j].es := by
        rw [hd, List.map_cons, List.cons_append, get_rep]
      have ixr : ∀ a b, (gIx (gB 3) (gV 7)) [.sh (modD s), .sh (.int s.cap), .sh (entsD s.buf), .ow ((List.replicate j [] ++ ((ps.drop j).map (fun x : RunM => x.es) ++ R0)).map entsD), a, b, .sh (.int (j : Nat)), .sh (.int (j : Nat)), .no, .no] = some (entsD ps[j].es) := fun a b => ev_op (ev_Bo rfl) (ev_V rfl) (ix_ents hget)
      have nz : ps[j].es.length ≠ 0 := fun w => pk.ne (List.eq_nil_of_length_eq_zero w)
      refine W_if (b := true) (ev_andT (b := true) (c := true) (ev_T (ev_op (ev_B rfl) (ev_B rfl) (d_eq eqOk_int eqOk_int (by rw [eqd_int]; simp)))) fun _ => ev_T (ev_op (ev_U (ixr _ _) len_ents) ev_I (show dGt (.int _) (.int _) = some (.bl true) from by show some (D.bl (decide _)) = _; rw [decide_eq_true (by omega)]))) (fun _ => ?_) fun e => by cases e
      refine wq_set (ev_op (ev_V rfl) (ev_U (ixr _ _) len_ents) d_add) ?_
      have lm : (mrgE (s.buf :: (ps.take j).map (fun x : RunM => x.es))).length + ps[j].es.length < 900000 := by
        have a := (mrgE_spec (s.buf :: (ps.take j).map (fun x : RunM => x.es))).2.2
        rw [List.map_cons, List.sum_cons, List.map_map] at a
        have b : (ps.map fun r : RunM => r.es.length).sum = ((ps.take j).map fun r : RunM => r.es.length).sum + ((ps.drop j).map fun r : RunM => r.es.length).sum := by rw [← List.sum_append_nat, ← List.map_append, List.take_append_drop]
        rw [hd, List.map_cons, List.sum_cons] at b
        have c : ((ps.take j).map (List.length ∘ fun x => x.es)).sum = ((ps.take j).map fun r : RunM => r.es.length).sum := rfl
        omega
      have hm := lmerged_eq (mrgE_spec (s.buf :: (ps.take j).map (fun x : RunM => x.es))).1 pk.asc lm
      rw [← mrgE_snoc] at hm
      refine wq_set (ev_call (ev_cs (ev_V rfl) (ev_cs (ixr _ _) ev_nl)) hm) ?_
      refine W_seq (W_ixS (m := j) (d := entsD []) (ev_L ev_nl) (ev_V rfl) rfl (by rw [List.length_map]; exact (List.getElem?_eq_some_iff.mp hget).1) ?_)
      refine W_set (d := .int ((j + 1 : Nat) : Int)) (ev_op (ev_V rfl) ev_I d_add) ?_
      refine ⟨j + 1, .sh (.int (j : Nat)), by omega, ?_⟩
      have er : ((List.replicate j [] ++ ((ps.drop j).map (fun x : RunM => x.es) ++ R0)).map entsD).set j (entsD []) = (List.replicate (j + 1) [] ++ ((ps.drop (j + 1)).map (fun x : RunM => x.es) ++ R0)).map entsD := by
        rw [← List.map_set, hd, List.map_cons, List.cons_append, set_rep, rep_snoc]
      have es : s.mv + (s.buf.length : Nat) + (((ps.take j).map fun r : RunM => r.es.length).sum : Nat) + ((ps[j].es.length : Nat) : Int) = s.mv + (s.buf.length : Nat) + (((ps.take (j + 1)).map fun r : RunM => r.es.length).sum : Nat) := by
        rw [ht, List.map_append, List.sum_append_nat]
        simp
        omega
      have ee : s.buf :: (ps.take j).map (fun x : RunM => x.es) ++ [ps[j].es] = s.buf :: (ps.take (j + 1)).map (fun x : RunM => x.es) := by rw [ht, List.map_append]; rfl
      rw [← es, ← ee, ← er]
      rfl
    · have ej : j = ps.length := by omega
      subst ej
      refine W_if (b := false) ?_ (fun e => by cases e) fun _ => W_nil ⟨ps.length, .sh (.int (k : Nat)), by omega, rfl⟩
      by_cases y : k = ps.length
      · subst y
        have hne : rest ≠ [] := fun w => by rw [lens, w] at hk; simp at hk
        obtain ⟨t, ht⟩ := f.stop.resolve_left hne
        have hget : (List.replicate ps.length [] ++ ((ps.drop ps.length).map (fun x : RunM => x.es) ++ R0))[ps.length]? = some [] := by
          rw [List.drop_length, hR0, ht]
          exact get_rep _ _ _ _
        exact ev_andT (b := true) (c := false) (ev_T (ev_op (ev_B rfl) (ev_B rfl) (d_eq eqOk_int eqOk_int (by rw [eqd_int]; simp)))) fun _ => ev_T (ev_op (ev_U (ev_op (ev_Bo rfl) (ev_V rfl) (ix_ents hget)) len_ents) ev_I rfl)
      · exact ev_andF (ev_T (ev_op (ev_B rfl) (ev_B rfl) (d_eq eqOk_int eqOk_int (by rw [eqd_int]; simp; omega))))
  · rintro Γ ⟨j, s7, hj, rfl⟩
    have ej : j = ps.length := by omega
    subst ej
    rw [List.drop_length, List.map_nil, List.nil_append, List.take_length]
    exact after s7
theorem lafter_eq {s s' : Sto} (ok : StoOk s) {k : Int} {v : Option Int} (hd : s.ed < 3999) (w : Wr s k v s') : S__law_after [modD s, encE (k, v)] = some (modD s') := by
  have tot := ok.tot
  have few := ok.few
  have wl := wrE_len s.buf k v
  have one : AscE [(k, v)] := by simp [AscE, keysE]
  have hm := lmerged_eq one ok.asc (by simp; omega)
  refine run_Weq ?_
  unfold B__law_after
  refine wq_unp (d := modD s) (ev_V rfl) rfl ?_
  refine wq_set (d := modD (wrS s k v)) (ev_tu (ev_cs (ev_V rfl) (ev_cs (ev_call (ev_cs (ev_L (ev_cs (ev_V rfl) ev_nl)) (ev_cs (ev_V rfl) ev_nl)) hm) (ev_cs (ev_V rfl) (ev_cs (ev_V rfl) ev_nl))))) ?_
  have c : gT (gOp dGe (gU dLen (gIx (gB 0) (gI 1))) (gV 2)) [.sh (modD (wrS s k v)), .sh (encE (k, v)), .sh (.int s.cap), .sh (entsD s.buf), .sh (.lst ((lruns s.runs).map entsD)), .sh (.int s.mv)] = some (decide (((wrE s.buf k v).length : Int) ≥ s.cap)) :=
    ev_T (ev_op (x := .int ((wrE s.buf k v).length : Nat)) (y := .int s.cap) (ev_U (x := entsD (wrE s.buf k v)) (ev_op (ev_B rfl) ev_I rfl) len_ents) (ev_V rfl) rfl)
  refine wq_ifR c (fun e => ?_) fun e => ?_
  · have e : s.cap ≤ ((wrE s.buf k v).length : Int) := by simpa using e
    cases w with
    | small h _ => omega
    | big ps rest E nw h f => exact ⟨_, ev_call (ev_cs (ev_V rfl) ev_nl) (lflushed_eq (wrE_asc _ _ _) ok.runs (by show (((wrE s.buf k v).length + totR s.runs : Nat) : Int) ≤ 4000; omega) (by show s.runs.length < 100000; omega) f), rfl⟩
  · have e : ¬ ((wrE s.buf k v).length : Int) ≥ s.cap := by simpa using e
    cases w with
    | small h e' => subst e'; exact W_ret (ev_V rfl) rfl
    | big ps rest E nw h f => exact absurd h e
theorem W_appX {Γ : DEnv} {P : Res → Prop} {sx : Sx} {f : Ex} {xs : List D} {d : D} (h : sx Γ = some (.ow xs)) (hf : f Γ = some d) (hl : xs.length < 1000000) (k : P (.nx Γ)) : W (sAppX sx f) Γ P := by
  refine ⟨.nx Γ, ?_, k⟩
  unfold sAppX
  rw [h]
  show ((f Γ).bind fun _ => if xs.length < 1000000 then some (Res.nx Γ) else none) = _
  rw [hf]
  show (if xs.length < 1000000 then some (Res.nx Γ) else none) = _
  rw [if_pos hl]
/-- an edit of a law's list -/
def SmE (e : Int × Option Int) : Prop := (-(2 ^ 25) < e.1 ∧ e.1 < 2 ^ 25) ∧ ∀ v, e.2 = some v → -100 < v ∧ v < 100
theorem ledits_eq (ns : List Int) (q mo : Int) (hq : 0 ≤ q) (hmo : 0 ≤ mo ∧ mo ≤ 100) : ∃ es : Ents, S__law_edits [.scr ns, .int q, .int mo] = some (.lst (es.map encE)) ∧ (es.length : Int) ≤ mo ∧ ∀ e ∈ es, SmE e := by
  have c0 := cell_eq ns q (by omega)
  have c1 := cell_eq ns (q + 1) (by omega)
  generalize cell ns q.toNat = w0 at c0
  generalize cell ns (q + 1).toNat = w1 at c1
  have z0 := Int.emod_nonneg w0 (show (mo + 1 : Int) ≠ 0 by omega)
  have z1 := Int.emod_lt_of_pos w0 (show (0 : Int) < mo + 1 by omega)
  have t0 := Int.emod_nonneg (w0 / (mo + 1)) (show (4 : Int) ≠ 0 by omega)
  have t1 := Int.emod_lt_of_pos (w0 / (mo + 1)) (show (0 : Int) < 4 by omega)
  generalize hz : w0 % (mo + 1) = size at *
  obtain ⟨g, hg, ig⟩ := ixm [3, 8, 30, 10 ^ 6] (w0 / (mo + 1) % 4) t0 (by simpa using t1)
  obtain ⟨o, ho, io⟩ := ixm [1, 3, 9, 500000] (w0 / (mo + 1) % 4) t0 (by simpa using t1)
  have bg : 0 < g ∧ g ≤ 10 ^ 6 := by simp at hg; omega
  have bo : 0 ≤ o ∧ o ≤ 500000 := by simp at ho; omega
  obtain ⟨ds, dd, ld, vd⟩ := digits_eq w1 (10 ^ 7) size (by omega) (by omega) (by omega) (by omega)
  obtain ⟨n, rfl⟩ := Int.eq_ofNat_of_zero_le z0
  have W1 : W B__law_edits ([.sh (.scr ns), .sh (.int q), .sh (.int mo), .no, .no, .no, .no, .no, .no, .no, .no]) (isRt fun d => ∃ es : Ents, d = .lst (es.map encE) ∧ (es.length : Int) ≤ mo ∧ ∀ e ∈ es, SmE e) := by
    unfold B__law_edits
    refine wq_set (ev_call (ev_cs (ev_V rfl) (ev_cs (ev_V rfl) ev_nl)) c0) ?_
    refine wq_set (d := .int n) (by rw [← hz]; exact ev_op (ev_U (ev_B rfl) rfl) (ev_op (ev_V rfl) ev_I d_add) (d_mod (by omega))) ?_
    have hw : ∀ s4 s5 s6 s7 s8 s9 s10, (gOp dMod (gU dInt (gOp dDiv (gV 3) (gOp dAdd (gV 2) (gI 1)))) (gI 4)) [.sh (.scr ns), .sh (.int q), .sh (.int mo), .sh (.int w0), s4, s5, s6, s7, s8, s9, s10] = some (.int (w0 / (mo + 1) % 4)) := fun _ _ _ _ _ _ _ => ev_op (ev_U (ev_op (ev_V rfl) (ev_op (ev_V rfl) ev_I d_add) (d_div (by omega) (log_of (k := 100) (by omega) (by decide) (by decide)))) rfl) ev_I (d_mod (by decide))
    refine wq_set (d := .int g) (ev_op (ev_L (ev_cs ev_I (ev_cs ev_I (ev_cs ev_I (ev_cs (ev_op ev_I ev_I (d_pow (by decide))) ev_nl))))) (hw ..) ig) ?_
    refine wq_set (ev_call (ev_cs (ev_call (ev_cs (ev_V rfl) (ev_cs (ev_op (ev_V rfl) ev_I d_add) ev_nl)) c1) (ev_cs (ev_op ev_I ev_I (d_pow (by decide))) (ev_cs (ev_V rfl) ev_nl))) dd) ?_
    refine wq_setO ev_nl ?_
    walk_at "ev norm"
    refine wq_rng (fun k Γ => ∃ (es : Ents) (s8 s9 s10 : Sl), Γ = [.sh (.scr ns), .sh (.int q), .sh (.int mo), .sh (.int w0), .sh (.int n), .sh (.int g), .sh (.lst (ds.map D.int)), .ow (es.map encE), s8, s9, s10] ∧ es.length = k ∧ ∀ e ∈ es, SmE e) (n := n) (ev_rng1 (m := (n : Nat)) (ev_cs (ev_V rfl) ev_nl) (by omega) (by omega)) ⟨[], .no, .no, .no, rfl, rfl, fun e he => by simp at he⟩ ?_ ?_
    · rintro k Γ hk ⟨es, s8, s9, s10, rfl, hl, hs⟩
      refine ⟨_, rfl, ?_⟩
      have e2 : (0 + (k : Int)) = (k : Nat) := by omega
      rw [e2]
      obtain ⟨dk, mk, ik⟩ := ixm ds (k : Nat) (by omega) (by omega)
      have vk := vd _ mk
      have a0 := Int.emod_nonneg dk (show (g : Int) ≠ 0 by omega)
      have a1 := Int.emod_lt_of_pos dk bg.1
      have b0 := Int.emod_nonneg (dk / 7) (show (19 : Int) ≠ 0 by omega)
      have b1 := Int.emod_lt_of_pos (dk / 7) (show (0 : Int) < 19 by omega)
      refine wq_set (d := .int (dk % g - o)) (ev_op (ev_op (ev_U (ev_op (ev_B rfl) (ev_V rfl) ik) rfl) (ev_V rfl) (d_mod bg.1)) (ev_op (ev_L (ev_cs ev_I (ev_cs ev_I (ev_cs ev_I (ev_cs ev_I ev_nl))))) (hw ..) io) d_sub) ?_
      refine wq_set (d := .int (dk / 7 % 19 - 9)) (ev_op (ev_op (ev_U (ev_op (ev_op (ev_B rfl) (ev_V rfl) ik) ev_I (d_div (by decide) (by decide +kernel))) rfl) ev_I (d_mod (by decide))) ev_I d_sub) ?_
      have sm : ∀ v : Option Int, (∀ x, v = some x → -100 < x ∧ x < 100) → SmE (dk % g - o, v) := fun v h => ⟨by show -(2 ^ 25) < dk % g - o ∧ dk % g - o < 2 ^ 25; omega, h⟩
      have fin : ∀ v : Option Int, SmE (dk % g - o, v) → ∃ (es' : Ents) (a b c : Sl), [Sl.sh (.scr ns), .sh (.int q), .sh (.int mo), .sh (.int w0), .sh (.int n), .sh (.int g), .sh (.lst (ds.map D.int)), .ow (es.map encE ++ [encE (dk % g - o, v)]), .sh (.int (k : Nat)), .sh (.int (dk % g - o)), .sh (.int (dk / 7 % 19 - 9))] = [.sh (.scr ns), .sh (.int q), .sh (.int mo), .sh (.int w0), .sh (.int n), .sh (.int g), .sh (.lst (ds.map D.int)), .ow (es'.map encE), a, b, c] ∧ es'.length = k + 1 ∧ ∀ e ∈ es', SmE e := fun v h => by
        refine ⟨es ++ [(dk % g - o, v)], _, _, _, by rw [List.map_append]; rfl, by simp [hl], fun e he => ?_⟩
        rcases List.mem_append.mp he with z | z
        · exact hs e z
        · rw [List.mem_singleton] at z; rw [z]; exact h
      refine W_if (b := dk / 1000 % 4 == 0) (ev_T (ev_op (ev_op (ev_U (ev_op (ev_op (ev_B rfl) (ev_V rfl) ik) ev_I (d_div (by decide) (by decide +kernel))) rfl) ev_I (d_mod (by decide))) ev_I (d_eq eqOk_int eqOk_int eqd_int))) (fun _ => ?_) fun _ => ?_
      · exact W_app (ev_tu (ev_cs (ev_V rfl) (ev_cs ev_C ev_nl))) rfl (by rw [List.length_map]; omega) (fin none (sm none fun x e => by cases e))
      · exact W_app (ev_tu (ev_cs (ev_V rfl) (ev_cs (ev_V rfl) ev_nl))) rfl (by rw [List.length_map]; omega) (fin (some _) (sm (some _) fun x e => by cases e; omega))
    · rintro Γ ⟨es, s8, s9, s10, rfl, hl, hs⟩
      exact W_frz (W_ret (ev_V rfl) ⟨es, rfl, by omega, hs⟩)
  obtain ⟨d, h1, es, rfl, h2⟩ := run_W (N := 11) (ds := [.scr ns, .int q, .int mo]) W1
  exact ⟨es, h1, h2⟩
/-- the sizes up to the last run that is there -/
structure LastN (l : List Nat) (n : Nat) : Prop where
  le : n ≤ l.length
  at0 : n = 0 ∨ ∃ x, l[n - 1]? = some x ∧ x ≠ 0
  hi : ∀ i x, n ≤ i → l[i]? = some x → x = 0
theorem LastN.uniq {l : List Nat} {n m : Nat} (h : LastN l n) (g : LastN l m) : n = m := by
  have key : ∀ {n m : Nat}, LastN l n → LastN l m → ¬ n < m := fun {n m} h g lt => by
    rcases g.at0 with z | ⟨x, hx, nx⟩
    · omega
    · exact nx (h.hi (m - 1) x (by omega) hx)
  have := key h g
  have := key g h
  omega
def natD (n : Nat) : D := .int (n : Nat)
theorem rsizes_eq (s : Sto) (hl : s.runs.length < 1000000) : ∃ n, LastN (s.runs.map runLen) n ∧ S_Store_run_sizes [stoD s] = some (.ow (((s.runs.map runLen).take n).map natD)) := by
  obtain ⟨l, hll⟩ : ∃ l, l = s.runs.map runLen := ⟨_, rfl⟩
  rw [← hll]
  have W1 : W B_Store_run_sizes [.bo (stoD s), .no, .no] (isRo fun r => ∃ n, LastN l n ∧ r = .ow ((l.take n).map natD)) := by
    unfold B_Store_run_sizes
    refine wq_setO (ds := l.map natD) (ev_lc (ds := s.runs.map optR) (ev_it (ev_U (x := stoD s) (ev_Bb rfl) rfl)) (by rw [List.length_map]; exact hl) ?_) ?_
    · rw [hll, List.map_map]
      refine compL_map s.runs optR (fun o => natD (runLen o)) fun o _ => ⟨_, rfl, ?_⟩
      cases o with
      | none => exact ev_if (b := true) (ev_T (ev_op (ev_B rfl) ev_C rfl)) (fun _ => ev_I) fun e => by cases e
      | some r => exact ev_if (b := false) (ev_T (ev_op (ev_B rfl) ev_C rfl)) (fun e => by cases e) fun _ => ev_U (x := .lst (r.es.map encE)) (ev_U (ev_V rfl) rfl) (by rw [d_lenL, List.length_map]; rfl)
    refine wq_while (fun m Γ => Γ = [.bo (stoD s), .ow ((l.take m).map natD), .no] ∧ m ≤ l.length ∧ ∀ i x, m ≤ i → l[i]? = some x → x = 0) ⟨l.length, by rw [List.take_length]; rfl, Nat.le_refl _, fun i x h e => by rw [List.getElem?_eq_none h] at e; cases e⟩ ?_
    rintro m Γ ⟨rfl, hm, hz⟩
    cases m with
    | zero =>
      refine ⟨false, ev_andF (ev_Tru (ev_Bo rfl) rfl), fun _ => ?_, fun e => by cases e⟩
      exact W_retO rfl ⟨0, ⟨Nat.zero_le _, .inl rfl, hz⟩, rfl⟩
    | succ m =>
      have lt : (l.take (m + 1)).length = m + 1 := by rw [List.length_take]; omega
      obtain ⟨x, hx⟩ : ∃ x, l[m]? = some x := ⟨_, List.getElem?_eq_getElem (by omega)⟩
      have hne : (l.take (m + 1)).map natD ≠ [] := fun z => by
        have := congrArg List.length z
        rw [List.length_map, lt] at this
        simp at this
      have hlast : dIx (.lst ((l.take (m + 1)).map natD)) (.int (-1)) = some (natD x) := by
        show atI _ (-1) = _
        rw [atI_end (z := natD 0) hne, List.length_map, lt, List.getD_eq_getElem?_getD, List.getElem?_map, List.getElem?_take_of_lt (by omega), Nat.add_sub_cancel, hx]
        rfl
      have c1 : gTru (gB 1) [.bo (stoD s), .ow ((l.take (m + 1)).map natD), .no] = some true := by
        refine ev_Tru (ev_Bo rfl) ?_
        show some (!((l.take (m + 1)).map natD).isEmpty) = _
        cases hh : (l.take (m + 1)).map natD with
        | nil => exact absurd hh hne
        | cons => rfl
      refine ⟨((x : Nat) : Int) == 0, ev_andT (b := true) c1 fun _ => ev_T (ev_op (ev_op (ev_Bo rfl) (ev_U ev_I rfl) hlast) ev_I (d_eq eqOk_int eqOk_int eqd_int)), fun e => ?_, fun e => ?_⟩
      · have e : ¬ ((x : Nat) : Int) = 0 := by simpa using e
        refine W_retO rfl ⟨m + 1, ⟨hm, .inr ⟨x, by rw [Nat.add_sub_cancel]; exact hx, by omega⟩, hz⟩, rfl⟩
      · have e : ((x : Nat) : Int) = 0 := by simpa using e
        refine ⟨.nx [.bo (stoD s), .ow ((l.take m).map natD), .no], ?_, m, by omega, rfl, by omega, fun i y hi hy => ?_⟩
        · have e1 : gP 1 [] [.bo (stoD s), .ow ((l.take (m + 1)).map natD), .no] = some (.ow ((l.take (m + 1)).map natD)) := rfl
          unfold sDelI
          rw [e1]
          show (if -(2 ^ 63) ≤ (-1 : Int) ∧ (-1 : Int) < 2 ^ 63 then (seqIndex? (-1) ((l.take (m + 1)).map natD).length).bind fun j => upP 1 [] (.ow (((l.take (m + 1)).map natD).eraseIdx j)) [.bo (stoD s), .ow ((l.take (m + 1)).map natD), .no] else none) = _
          rw [if_pos ⟨by decide, by decide⟩, List.length_map, lt]
          have sx : seqIndex? (-1) (m + 1) = some m := by
            unfold seqIndex?
            simp
            omega
          rw [sx]
          show some _ = some _
          have er : ((l.take (m + 1)).map natD).eraseIdx m = (l.take m).map natD := by
            rw [List.take_add_one, hx, List.map_append]
            show (List.map natD (l.take m) ++ [natD x]).eraseIdx m = _
            rw [List.eraseIdx_append_of_length_le (by rw [List.length_map, List.length_take]; omega), List.length_map, List.length_take]
            have : m - min m l.length = 0 := by omega
            rw [this]
            show _ ++ [] = _
            rw [List.append_nil]
          rw [er]
          rfl
        · by_cases z : i = m
          · subst z; rw [hx] at hy; cases hy; omega
          · exact hz i y (by omega) hy
  obtain ⟨r, h1, h2⟩ := W1
  cases r with
  | ro sl =>
    obtain ⟨n, hn, rfl⟩ := h2
    refine ⟨n, hn, ?_⟩
    unfold S_Store_run_sizes runKN
    show ((B_Store_run_sizes [.bo (stoD s), .no, .no]).bind _) = _
    rw [h1]
    rfl
  | _ => exact h2.elim
theorem lsizes_eq (s : Sto) (hl : s.runs.length < 1000000) : ∃ n, LastN (s.runs.map runLen) n ∧ S__law_sizes [modD s] = some (.lst (((s.runs.map runLen).take n).map natD)) := by
  obtain ⟨l, hll⟩ : ∃ l, l = s.runs.map runLen := ⟨_, rfl⟩
  rw [← hll]
  have ll : l.length = s.runs.length := by rw [hll, List.length_map]
  have W1 : W B__law_sizes [.sh (modD s), .no, .no, .no, .no] (isRt fun r => ∃ n, LastN l n ∧ r = .lst ((l.take n).map natD)) := by
    unfold B__law_sizes
    refine wq_set (d := .lst (l.map natD)) (ev_L (ev_lc (ds := (lruns s.runs).map entsD) (ev_it (ev_op (ev_B rfl) ev_I rfl)) (by unfold lruns; rw [List.length_map, List.length_map]; exact hl) ?_)) ?_
    · rw [hll, List.map_map]
      unfold lruns
      rw [List.map_map]
      refine compL_map s.runs (entsD ∘ esR) (natD ∘ runLen) fun o _ => ⟨_, rfl, ev_U (ev_B rfl) ?_⟩
      show dLen (entsD (esR o)) = _
      rw [len_ents]
      cases o <;> rfl
    refine wq_set ev_I ?_
    refine wq_rng (fun k Γ => ∃ (n : Nat) (s3 : Sl), Γ = [.sh (modD s), .sh (.lst (l.map natD)), .sh (.int (n : Nat)), s3, .no] ∧ n ≤ k ∧ (n = 0 ∨ ∃ x, l[n - 1]? = some x ∧ x ≠ 0) ∧ ∀ i x, n ≤ i → i < k → l[i]? = some x → x = 0) (n := l.length) (ev_rng1 (m := l.length) (ev_cs (ev_U (ev_B rfl) (by rw [d_lenL, List.length_map])) ev_nl) (by omega) (by omega)) ⟨0, .no, rfl, Nat.le_refl _, .inl rfl, fun i x _ h => by omega⟩ ?_ ?_
    · rintro k Γ hk ⟨n, s3, rfl, h1, h2, h3⟩
      refine ⟨_, rfl, ?_⟩
      have e2 : (0 + (k : Int)) = (k : Nat) := by omega
      rw [e2]
      obtain ⟨x, hx⟩ : ∃ x, l[k]? = some x := ⟨_, List.getElem?_eq_getElem hk⟩
      refine W_if (b := decide (((x : Nat) : Int) > 0)) (ev_T (ev_op (ev_op (x := .lst (l.map natD)) (y := .int (k : Nat)) (ev_B rfl) (ev_V rfl) (d_ixL (d := natD x) (by rw [List.getElem?_map, hx]; rfl))) ev_I rfl)) (fun e => ?_) fun e => W_nil ?_
      · have e : ((x : Nat) : Int) > 0 := by simpa using e
        refine W_set (d := .int ((k + 1 : Nat) : Int)) (ev_op (ev_V rfl) ev_I d_add) ?_
        exact ⟨k + 1, .sh (.int (k : Nat)), rfl, Nat.le_refl _, .inr ⟨x, by rw [Nat.add_sub_cancel]; exact hx, by omega⟩, fun i y h h' => by omega⟩
      · have e : ¬ ((x : Nat) : Int) > 0 := by simpa using e
        refine ⟨n, .sh (.int (k : Nat)), rfl, by omega, h2, fun i y hi hk' hy => ?_⟩
        by_cases z : i = k
        · subst z; rw [hx] at hy; cases hy; omega
        · exact h3 i y hi (by omega) hy
    · rintro Γ ⟨n, s3, rfl, h1, h2, h3⟩
      refine W_ret (ev_L (ev_Sl (x := .lst (l.map natD)) (l := none) (h := some (n : Nat)) (ev_B rfl) ev_No (ev_So (ev_V rfl)) (ds := (l.take n).map natD) (by rw [d_cut, cutD_to]))) ⟨n, ⟨h1, h2, fun i x hi hx => h3 i x hi (List.getElem?_eq_some_iff.mp hx).1 hx⟩, rfl⟩
  obtain ⟨d, h1, n, h2, e⟩ := run_W (N := 5) (ds := [modD s]) W1
  exact ⟨n, h2, by rw [← e]; exact h1⟩
/-! data that are equal to themselves -/
def Okd (n : Nat) (d : D) : Prop := pyOk d = true ∧ (toPy d).canLay0 = true ∧ (toPy d).depth ≤ n
theorem okd_int (i : Int) : Okd 1 (.int i) := ⟨by simp [pyOk], by simp [toPy, PyData.canLay0], by simp [toPy, PyData.depth]⟩
theorem okd_non : Okd 1 .non := ⟨by simp [pyOk], by simp [toPy, PyData.canLay0], by simp [toPy, PyData.depth]⟩
theorem okd_all {n : Nat} : ∀ {xs : List D}, (∀ d ∈ xs, Okd n d) → pyOks xs = true ∧ PyData.canLayAll0 (toPys xs) = true ∧ PyData.depthAll (toPys xs) ≤ n
  | [], _ => ⟨rfl, rfl, by simp [toPys, PyData.depthAll]⟩
  | x :: xs, h => by
    obtain ⟨h1, h2, h3⟩ := h x List.mem_cons_self
    obtain ⟨k1, k2, k3⟩ := okd_all (xs := xs) fun d hd => h d (List.mem_cons_of_mem _ hd)
    refine ⟨?_, ?_, ?_⟩
    · rw [pyOks, h1, k1]; rfl
    · rw [toPys, PyData.canLayAll0, h2, k2]; rfl
    · rw [toPys, PyData.depthAll]; omega
theorem okd_lst {n : Nat} {xs : List D} (h : ∀ d ∈ xs, Okd n d) : Okd (n + 1) (.lst xs) := by
  obtain ⟨k1, k2, k3⟩ := okd_all h
  refine ⟨by rw [pyOk]; exact k1, by rw [toPy, PyData.canLay0]; exact k2, by rw [toPy, PyData.depth]; omega⟩
theorem okd_tup {n : Nat} {xs : List D} (h : ∀ d ∈ xs, Okd n d) : Okd (n + 1) (.tup xs) := by
  obtain ⟨k1, k2, k3⟩ := okd_all h
  refine ⟨by rw [pyOk]; exact k1, by rw [toPy, PyData.canLay0]; exact k2, by rw [toPy, PyData.depth]; omega⟩
theorem okd_map {α : Type} {n : Nat} {f : α → D} (h : ∀ a, Okd n (f a)) (xs : List α) : Okd (n + 1) (.lst (xs.map f)) := okd_lst fun d hd => by
  obtain ⟨a, _, rfl⟩ := List.mem_map.mp hd
  exact h a
theorem okd_eq {n : Nat} {d : D} (h : Okd n d) (hn : n < 60) : eqOk d = true ∧ eqd d d = true := by
  obtain ⟨h1, h2, h3⟩ := h
  refine ⟨?_, ?_⟩
  · unfold eqOk SeqAt.shaped
    rw [h2, h1]
    simp
    omega
  · unfold eqd
    exact SeqAt.eqv_refl _ h2
theorem ne_same {n : Nat} {d : D} (h : Okd n d) (hn : n < 60) : dNe d d = some (.bl false) := by
  obtain ⟨h1, h2⟩ := okd_eq h hn
  exact d_ne (bb := true) h1 h1 h2
theorem eq_same {n : Nat} {d : D} (h : Okd n d) (hn : n < 60) : dEq d d = some (.bl true) := by
  obtain ⟨h1, h2⟩ := okd_eq h hn
  exact d_eq (bb := true) h1 h1 h2
theorem gCM_eq {S : Sl → List D → Option (D × Sl)} {fs : Ag} {ds : List D} {s s' : Sto} {Γ : DEnv} {i : Nat} (h0 : Γ[i]? = some (stoS s)) (hf : fs Γ = some ds) (h : S (stoS s) ds = some (.non, stoS s')) : gCM i [] S fs Γ = some (.non, Γ.set i (stoS s')) := by
  unfold gCM
  have e : gP i [] Γ = some (stoS s) := by unfold gP; rw [h0]; rfl
  rw [e]
  show (if isOwn (stoS s) = true then (fs Γ).bind fun ds => (S (stoS s) ds).bind fun r => (Γ[i]?).bind fun s => (setR [] r.2 s).bind fun s2 => some (r.1, Γ.set i s2) else none) = _
  rw [if_pos (show isOwn (stoS s) = true from rfl), hf]
  show ((S (stoS s) ds).bind _) = _
  rw [h]
  show ((Γ[i]?).bind _) = _
  rw [h0]
  rfl
theorem W_expM {f : Mx} {Γ Γ' : DEnv} {d : D} {P : Res → Prop} (h : f Γ = some (d, Γ')) (k : P (.nx Γ')) : W (sExpM f) Γ P := ⟨_, by unfold sExpM; rw [h]; rfl, k⟩
theorem buffered_eq (s : Sto) : S_Store_buffered [stoD s] = some (.int s.buf.length) := by
  refine run_WKeq ?_
  unfold B_Store_buffered
  exact W_ret (ev_U (x := .lst (s.buf.map encE)) (ev_U (x := stoD s) (ev_Bb rfl) rfl) (by rw [d_lenL, List.length_map])) rfl
theorem okd_nat (l : List Nat) : Okd 2 (.lst (l.map natD)) := okd_map (f := natD) (fun n => okd_int _) l
theorem ev_methN {Γ : DEnv} {c : Nat} {S : List D → Option Sl} {f : Ex} {fs : Ag} {vs ds : List D} {s : Sl} (h1 : f Γ = some (.obj c vs)) (h2 : fs Γ = some ds) (h3 : S (.obj c vs :: ds) = some s) : gMethN c S f fs Γ = some s := by
  unfold gMethN
  rw [h1]
  show (if c = c then (fs Γ).bind fun ds => S (.obj c vs :: ds) else none) = _
  rw [if_pos rfl, h2]
  exact h3
theorem mkN_at {c : Nat} {S : Sl → List D → Option (D × Sl)} {fs : Ag} {Γ : DEnv} {ds : List D} {s : Sl} (h : fs Γ = some ds) (h2 : gMk c S (fun _ => some ds) [] = some s) : gMk c S fs Γ = some s := by
  unfold gMk at h2 ⊢
  rw [h]
  exact h2
theorem nD_ow {f : Sx} {Γ : DEnv} {xs : List D} (h : f Γ = some (.ow xs)) : nD f Γ = some (.lst xs) := by unfold nD; rw [h]; rfl
theorem ne_sm {f g : Ex} {Γ : DEnv} {d : D} {n : Nat} (h1 : f Γ = some d) (h2 : g Γ = some d) (ok : Okd n d) (hn : n < 60) : gT (gOp dNe f g) Γ = some false := ev_T (ev_op h1 h2 (ne_same ok hn))
theorem law_true (ns : List Int) (hl : ns.length ≤ 63) : S_law [.scr ns] = some (.bl true) := by
  obtain ⟨es, hes, le, sm⟩ := ledits_eq ns 1 60 (by omega) (by omega)
  have c0 := cell_eq ns 0 (by omega)
  generalize cell ns (0 : Int).toNat = w0 at c0
  have e50 := Int.emod_nonneg w0 (show (5 : Int) ≠ 0 by omega)
  have e51 := Int.emod_lt_of_pos w0 (show (0 : Int) < 5 by omega)
  have e40 := Int.emod_nonneg (w0 / 5) (show (4 : Int) ≠ 0 by omega)
  have e41 := Int.emod_lt_of_pos (w0 / 5) (show (0 : Int) < 4 by omega)
  obtain ⟨s0, hs0⟩ : ∃ s0 : Sto, s0 = ⟨1 + w0 % 5, w0 / 5 % 4, 0, 0, [], []⟩ := ⟨_, rfl⟩
  have ok0 : StoOk s0 := by rw [hs0]; exact new_ok (by omega) (by omega)
  have hnew := new_eq (1 + w0 % 5) (w0 / 5 % 4)
  rw [← hs0] at hnew
  obtain ⟨n0, L0, r0⟩ := rsizes_eq s0 (by rw [hs0]; simp)
  have nz : ((s0.runs.map runLen).take n0).map natD = [] := by rw [hs0]; simp
  rw [nz] at r0
  have hB : ∀ (s : Sto) (Γ : DEnv), Γ[2]? = some (stoS s) → gB 2 Γ = some (stoD s) := fun s Γ h => by
    unfold gB
    rw [h]
    exact stoF_ow s s.buf
  refine run_Weq ?_
  unfold B_law
  refine wq_set (d := .int (1 + w0 % 5)) (ev_op ev_I (ev_op (ev_U (ev_call (ev_cs (ev_V rfl) (ev_cs ev_I ev_nl)) c0) rfl) ev_I (d_mod (by decide))) d_add) ?_
  refine wq_setN (s := stoS s0) (mkN_at (ev_cs (ev_V rfl) (ev_cs (ev_op (ev_U (ev_op (ev_call (ev_cs (ev_V rfl) (ev_cs ev_I ev_nl)) c0) ev_I (d_div (by decide) (by decide +kernel))) rfl) ev_I (d_mod (by decide))) ev_nl)) hnew) ?_
  have hmod : modD s0 = .tup [.int (1 + w0 % 5), .lst [], .lst [], .int 0] := by rw [hs0]; rfl
  refine wq_set (d := modD s0) (by rw [hmod]; exact ev_tu (ev_cs (ev_V rfl) (ev_cs (ev_L ev_nl) (ev_cs (ev_L ev_nl) (ev_cs ev_I ev_nl))))) ?_
  walk_at "ev norm"
  refine wq_ifR (b := false) (ev_orF (b := false) (c := false) (ne_sm (nD_ow (ev_methN (hB s0 _ rfl) ev_nl r0)) (ev_L ev_nl) (okd_map (f := natD) (fun n => okd_int _) []) (by omega)) fun _ => ev_orF (b := false) (c := false) (ne_sm (d := .int (0 : Nat)) (ev_meth (hB s0 _ rfl) ev_nl (by have h := buffered_eq s0; rw [hs0] at h ⊢; exact h)) ev_I (okd_int _) (by omega)) fun _ => ne_sm (d := .int 0) (by rw [hs0]; rfl) ev_I (okd_int _) (by omega)) (fun e => by cases e) fun _ => ?_
  refine wq_map (enc := encE) (xs := es) (fun k Γ => ∃ (s : Sto) (s4 : Sl), Γ = [.sh (.scr ns), .sh (.int (1 + w0 % 5)), stoS s, .sh (modD s), s4] ∧ StoOk s ∧ s.ed = k) (ev_it (ev_call (ev_cs (ev_V rfl) (ev_cs ev_I (ev_cs ev_I ev_nl))) hes)) ⟨s0, .no, rfl, ok0, by rw [hs0]; rfl⟩ ?_ ?_
  · rintro j ⟨k, v⟩ Γ hj ⟨s, s4, rfl, ok, ed⟩
    have jl := (List.getElem?_eq_some_iff.mp hj).1
    have se := sm _ (List.mem_of_getElem? hj)
    have kb : -(2 ^ 55) < k ∧ k < 2 ^ 55 := by have h1 := se.1; simp only at h1; omega
    obtain ⟨s', hw, wr⟩ := write_eq ok k v kb (by omega)
    have ok' := wr.ok ok kb (by omega)
    have hle := ledit_eq hw
    have hla := lafter_eq ok (by omega) wr
    have ed' : s'.ed = s.ed + 1 := by
      cases wr with
      | small h e => rw [e]; rfl
      | big ps rest E nw h f => exact f.ed
    have few := ok'.few
    obtain ⟨n, Ln, hr⟩ := rsizes_eq s' (by omega)
    obtain ⟨m, Lm, hm⟩ := lsizes_eq s' (by omega)
    rw [Lm.uniq Ln] at hm
    refine ⟨_, rfl, ?_⟩
    refine W_seq (W_expM (gCM_eq (s := s) (s' := s') rfl (ev_cs (ev_V rfl) ev_nl) hle) ?_)
    show W _ _ _
    refine wq_set (ev_call (ev_cs (ev_V rfl) (ev_cs (ev_V rfl) ev_nl)) hla) ?_
    walk_at "ev norm"
    have hB' := hB s' [.sh (.scr ns), .sh (.int (1 + w0 % 5)), stoS s', .sh (modD s'), .sh (encE (k, v))] rfl
    refine wq_ifR (b := false) (ev_orF (b := false) (c := false) (ne_sm (ev_meth hB' ev_nl (buffered_eq s')) (ev_U (x := entsD s'.buf) (ev_op (ev_B rfl) ev_I rfl) len_ents) (okd_int _) (by omega)) fun _ => ev_orF (b := false) (c := false) (ne_sm (d := .int s'.mv) rfl (ev_op (ev_B rfl) ev_I rfl) (okd_int _) (by omega)) fun _ => ne_sm (nD_ow (ev_methN hB' ev_nl hr)) (ev_call (ev_cs (ev_V rfl) ev_nl) hm) (okd_nat _) (by omega)) (fun e => by cases e) fun _ => ?_
    refine W_appX (ev_methN hB' ev_nl hr) ev_I (by rw [List.length_map, List.length_take, List.length_map]; omega) ?_
    exact ⟨s', _, rfl, ok', by rw [ed', ed]; omega⟩
  · rintro Γ ⟨s, s4, rfl, ok, ed⟩
    exact W_ret ev_C rfl
end K41

namespace K41
open PySem L2 DL
def spLaw0 (K : PySem.W.Frag) : Sp := fun vs H Q _ => ∃ (a : Addr) (ns : List Int), vs = [.ref a] ∧ SqL K H a (ns.map V.int) ∧ ns.length ≤ 63 ∧ ∀ H', Q (.bl true) H'
theorem all_mk {l : PySem.W.OpenLaw} {w : World} {K : PySem.W.Frag} {h : Heap} {mg : Str → Option Value} {fa : Addr} (X : K.In h) (G : h.Ns mainGlobals mg) (hfa : mg "law" = some (.ref fa))
    {C0 : Addr} (gC0 : PySem.W.nsIn K mainGlobals "Cutting" = some (some (.ref C0))) (pg0 : PySem.W.plainGet K C0 Str.empty = true) (hd0 : PySem.W.hasDictIn K C0 = true) (po0 : PySem.W.plainOver K C0 = true) (sa0 : PySem.W.findIn K (.ref C0) "__setattr__" = some (some (.builtin "object.__setattr__")))
    (nf0_0 : PySem.W.findIn K (.ref C0) "pieces" = some none)
    (nf0_1 : PySem.W.findIn K (.ref C0) "reasons" = some none)
    (mk0 : PySem.W.makesIn K C0 = true) (kc0 : PySem.W.keepIn K (.ref C0) = true)
    {C1 : Addr} (gC1 : PySem.W.nsIn K mainGlobals "Level" = some (some (.ref C1))) (pg1 : PySem.W.plainGet K C1 Str.empty = true) (hd1 : PySem.W.hasDictIn K C1 = true) (po1 : PySem.W.plainOver K C1 = true) (sa1 : PySem.W.findIn K (.ref C1) "__setattr__" = some (some (.builtin "object.__setattr__")))
    (nf1_0 : PySem.W.findIn K (.ref C1) "stored" = some none)
    (nf1_1 : PySem.W.findIn K (.ref C1) "error" = some none)
    (nf1_2 : PySem.W.findIn K (.ref C1) "pieces" = some none)
    (mk1 : PySem.W.makesIn K C1 = true) (kc1 : PySem.W.keepIn K (.ref C1) = true)
    {C2 : Addr} (gC2 : PySem.W.nsIn K mainGlobals "Index" = some (some (.ref C2))) (pg2 : PySem.W.plainGet K C2 Str.empty = true) (hd2 : PySem.W.hasDictIn K C2 = true) (po2 : PySem.W.plainOver K C2 = true) (sa2 : PySem.W.findIn K (.ref C2) "__setattr__" = some (some (.builtin "object.__setattr__")))
    (nf2_0 : PySem.W.findIn K (.ref C2) "stored" = some none)
    (nf2_1 : PySem.W.findIn K (.ref C2) "_levels" = some none)
    (mk2 : PySem.W.makesIn K C2 = true) (kc2 : PySem.W.keepIn K (.ref C2) = true)
    {C4 : Addr} (gC4 : PySem.W.nsIn K mainGlobals "Strip" = some (some (.ref C4))) (pg4 : PySem.W.plainGet K C4 Str.empty = true) (hd4 : PySem.W.hasDictIn K C4 = true) (po4 : PySem.W.plainOver K C4 = true) (sa4 : PySem.W.findIn K (.ref C4) "__setattr__" = some (some (.builtin "object.__setattr__")))
    (nf4_0 : PySem.W.findIn K (.ref C4) "_upper" = some none)
    (nf4_1 : PySem.W.findIn K (.ref C4) "_lower" = some none)
    (nf4_2 : PySem.W.findIn K (.ref C4) "_greatest" = some none)
    (mk4 : PySem.W.makesIn K C4 = true) (kc4 : PySem.W.keepIn K (.ref C4) = true)
    {C5 : Addr} (gC5 : PySem.W.nsIn K mainGlobals "Run" = some (some (.ref C5))) (pg5 : PySem.W.plainGet K C5 Str.empty = true) (hd5 : PySem.W.hasDictIn K C5 = true) (po5 : PySem.W.plainOver K C5 = true) (sa5 : PySem.W.findIn K (.ref C5) "__setattr__" = some (some (.builtin "object.__setattr__")))
    (nf5_0 : PySem.W.findIn K (.ref C5) "entries" = some none)
    (nf5_1 : PySem.W.findIn K (.ref C5) "_index" = some none)
    (mk5 : PySem.W.makesIn K C5 = true) (kc5 : PySem.W.keepIn K (.ref C5) = true)
    {C16 : Addr} (gC16 : PySem.W.nsIn K mainGlobals "Store" = some (some (.ref C16))) (pg16 : PySem.W.plainGet K C16 Str.empty = true) (hd16 : PySem.W.hasDictIn K C16 = true) (po16 : PySem.W.plainOver K C16 = true) (sa16 : PySem.W.findIn K (.ref C16) "__setattr__" = some (some (.builtin "object.__setattr__")))
    (nf16_0 : PySem.W.findIn K (.ref C16) "capacity" = some none)
    (nf16_1 : PySem.W.findIn K (.ref C16) "error" = some none)
    (nf16_2 : PySem.W.findIn K (.ref C16) "moves" = some none)
    (nf16_3 : PySem.W.findIn K (.ref C16) "edits" = some none)
    (nf16_4 : PySem.W.findIn K (.ref C16) "_buffer" = some none)
    (nf16_5 : PySem.W.findIn K (.ref C16) "_runs" = some none)
    (mk16 : PySem.W.makesIn K C16 = true) (kc16 : PySem.W.keepIn K (.ref C16) = true)
    {f1 : Addr} {od1 an1 : Option Addr} {sl1 : Array (Option Value)} {oc1 kV1 dc1 pm1 cd1 ct1 : Value} (a1 : PySem.W.nsIn K mainGlobals "_wall" = some (some (.ref f1))) (l1 : K.lookup f1 = some ⟨oc1, od1, .func (PySem.W.fnOf "_wall" "_wall" (defArgs s__wall) (defBody s__wall) (defScope s__wall) .none kV1 dc1 pm1 an1 cd1 ct1), sl1⟩) (c1 : PySem.W.codeIn K cd1 "_wall" = true) (k1 : PySem.W.keepIn K (.ref f1) = true)
    {f2 : Addr} {od2 an2 : Option Addr} {sl2 : Array (Option Value)} {oc2 kV2 dc2 pm2 cd2 ct2 : Value} (a2 : PySem.W.nsIn K mainGlobals "kept" = some (some (.ref f2))) (l2 : K.lookup f2 = some ⟨oc2, od2, .func (PySem.W.fnOf "kept" "kept" (defArgs s_kept) (defBody s_kept) (defScope s_kept) .none kV2 dc2 pm2 an2 cd2 ct2), sl2⟩) (c2 : PySem.W.codeIn K cd2 "kept" = true) (k2 : PySem.W.keepIn K (.ref f2) = true)
    {f3 : Addr} {od3 an3 : Option Addr} {sl3 : Array (Option Value)} {oc3 kV3 dc3 pm3 cd3 ct3 : Value} (a3 : PySem.W.nsIn K mainGlobals "farthest" = some (some (.ref f3))) (l3 : K.lookup f3 = some ⟨oc3, od3, .func (PySem.W.fnOf "farthest" "farthest" (defArgs s_farthest) (defBody s_farthest) (defScope s_farthest) .none kV3 dc3 pm3 an3 cd3 ct3), sl3⟩) (c3 : PySem.W.codeIn K cd3 "farthest" = true) (k3 : PySem.W.keepIn K (.ref f3) = true)
    {f4 : Addr} {od4 an4 : Option Addr} {sl4 : Array (Option Value)} {oc4 kV4 dc4 pm4 cd4 ct4 : Value} (a4 : PySem.W.nsIn K mainGlobals "reduced" = some (some (.ref f4))) (l4 : K.lookup f4 = some ⟨oc4, od4, .func (PySem.W.fnOf "reduced" "reduced" (defArgs s_reduced) (defBody s_reduced) (defScope s_reduced) .none kV4 dc4 pm4 an4 cd4 ct4), sl4⟩) (c4 : PySem.W.codeIn K cd4 "reduced" = true) (k4 : PySem.W.keepIn K (.ref f4) = true)
    {f5 : Addr} {od5 an5 : Option Addr} {sl5 : Array (Option Value)} {oc5 kV5 dc5 pm5 cd5 ct5 : Value} (a5 : PySem.W.nsIn K mainGlobals "floor_at" = some (some (.ref f5))) (l5 : K.lookup f5 = some ⟨oc5, od5, .func (PySem.W.fnOf "floor_at" "floor_at" (defArgs s_floor_at) (defBody s_floor_at) (defScope s_floor_at) .none kV5 dc5 pm5 an5 cd5 ct5), sl5⟩) (c5 : PySem.W.codeIn K cd5 "floor_at" = true) (k5 : PySem.W.keepIn K (.ref f5) = true)
    {f6 : Addr} {od6 an6 : Option Addr} {sl6 : Array (Option Value)} {oc6 kV6 dc6 pm6 cd6 ct6 : Value} (a6 : PySem.W.nsIn K mainGlobals "ceiling_at" = some (some (.ref f6))) (l6 : K.lookup f6 = some ⟨oc6, od6, .func (PySem.W.fnOf "ceiling_at" "ceiling_at" (defArgs s_ceiling_at) (defBody s_ceiling_at) (defScope s_ceiling_at) .none kV6 dc6 pm6 an6 cd6 ct6), sl6⟩) (c6 : PySem.W.codeIn K cd6 "ceiling_at" = true) (k6 : PySem.W.keepIn K (.ref f6) = true)
    {f7 : Addr} {od7 an7 : Option Addr} {sl7 : Array (Option Value)} {oc7 kV7 dc7 pm7 cd7 ct7 : Value} (a7 : PySem.W.nsIn K mainGlobals "exceeds" = some (some (.ref f7))) (l7 : K.lookup f7 = some ⟨oc7, od7, .func (PySem.W.fnOf "exceeds" "exceeds" (defArgs s_exceeds) (defBody s_exceeds) (defScope s_exceeds) .none kV7 dc7 pm7 an7 cd7 ct7), sl7⟩) (c7 : PySem.W.codeIn K cd7 "exceeds" = true) (k7 : PySem.W.keepIn K (.ref f7) = true)
    {f8 : Addr} {od8 an8 : Option Addr} {sl8 : Array (Option Value)} {oc8 kV8 dc8 pm8 cd8 ct8 : Value} (a8 : PySem.W.nsIn K mainGlobals "middle_line" = some (some (.ref f8))) (l8 : K.lookup f8 = some ⟨oc8, od8, .func (PySem.W.fnOf "middle_line" "middle_line" (defArgs s_middle_line) (defBody s_middle_line) (defScope s_middle_line) .none kV8 dc8 pm8 an8 cd8 ct8), sl8⟩) (c8 : PySem.W.codeIn K cd8 "middle_line" = true) (k8 : PySem.W.keepIn K (.ref f8) = true)
    {f9 : Addr} {od9 an9 : Option Addr} {sl9 : Array (Option Value)} {oc9 kV9 dc9 pm9 cd9 ct9 : Value} (a9 : PySem.W.nsIn K mainGlobals "indexes_of" = some (some (.ref f9))) (l9 : K.lookup f9 = some ⟨oc9, od9, .func (PySem.W.fnOf "indexes_of" "indexes_of" (defArgs s_indexes_of) (defBody s_indexes_of) (defScope s_indexes_of) .none kV9 dc9 pm9 an9 cd9 ct9), sl9⟩) (c9 : PySem.W.codeIn K cd9 "indexes_of" = true) (k9 : PySem.W.keepIn K (.ref f9) = true)
    {f10 : Addr} {od10 an10 : Option Addr} {sl10 : Array (Option Value)} {oc10 kV10 dc10 pm10 cd10 ct10 : Value} (a10 : PySem.W.nsIn K mainGlobals "deviation_under" = some (some (.ref f10))) (l10 : K.lookup f10 = some ⟨oc10, od10, .func (PySem.W.fnOf "deviation_under" "deviation_under" (defArgs s_deviation_under) (defBody s_deviation_under) (defScope s_deviation_under) .none kV10 dc10 pm10 an10 cd10 ct10), sl10⟩) (c10 : PySem.W.codeIn K cd10 "deviation_under" = true) (k10 : PySem.W.keepIn K (.ref f10) = true)
    {f11 : Addr} {od11 an11 : Option Addr} {sl11 : Array (Option Value)} {oc11 kV11 dc11 pm11 cd11 ct11 : Value} (a11 : PySem.W.findIn K (.ref C4) "__init__" = some (some (.ref f11))) (i11 : PySem.W.isFn K (.ref f11) = true) (l11 : K.lookup f11 = some ⟨oc11, od11, .func (PySem.W.fnOf "__init__" "Strip.__init__" (defArgs s_Strip___init__) (defBody s_Strip___init__) (defScope s_Strip___init__) .none kV11 dc11 pm11 an11 cd11 ct11), sl11⟩) (c11 : PySem.W.codeIn K cd11 "Strip.__init__" = true) (k11 : PySem.W.keepIn K (.ref f11) = true)
    {f12 : Addr} {od12 an12 : Option Addr} {sl12 : Array (Option Value)} {oc12 kV12 dc12 pm12 cd12 ct12 : Value} (a12 : PySem.W.findIn K (.ref C4) "step_with" = some (some (.ref f12))) (i12 : PySem.W.isFn K (.ref f12) = true) (l12 : K.lookup f12 = some ⟨oc12, od12, .func (PySem.W.fnOf "step_with" "Strip.step_with" (defArgs s_Strip_step_with) (defBody s_Strip_step_with) (defScope s_Strip_step_with) .none kV12 dc12 pm12 an12 cd12 ct12), sl12⟩) (c12 : PySem.W.codeIn K cd12 "Strip.step_with" = true) (k12 : PySem.W.keepIn K (.ref f12) = true)
    {f13 : Addr} {od13 an13 : Option Addr} {sl13 : Array (Option Value)} {oc13 kV13 dc13 pm13 cd13 ct13 : Value} (a13 : PySem.W.findIn K (.ref C4) "take" = some (some (.ref f13))) (i13 : PySem.W.isFn K (.ref f13) = true) (l13 : K.lookup f13 = some ⟨oc13, od13, .func (PySem.W.fnOf "take" "Strip.take" (defArgs s_Strip_take) (defBody s_Strip_take) (defScope s_Strip_take) .none kV13 dc13 pm13 an13 cd13 ct13), sl13⟩) (c13 : PySem.W.codeIn K cd13 "Strip.take" = true) (k13 : PySem.W.keepIn K (.ref f13) = true)
    {f14 : Addr} {od14 an14 : Option Addr} {sl14 : Array (Option Value)} {oc14 kV14 dc14 pm14 cd14 ct14 : Value} (a14 : PySem.W.findIn K (.ref C4) "line" = some (some (.ref f14))) (i14 : PySem.W.isFn K (.ref f14) = true) (l14 : K.lookup f14 = some ⟨oc14, od14, .func (PySem.W.fnOf "line" "Strip.line" (defArgs s_Strip_line) (defBody s_Strip_line) (defScope s_Strip_line) .none kV14 dc14 pm14 an14 cd14 ct14), sl14⟩) (c14 : PySem.W.codeIn K cd14 "Strip.line" = true) (k14 : PySem.W.keepIn K (.ref f14) = true)
    {f15 : Addr} {od15 an15 : Option Addr} {sl15 : Array (Option Value)} {oc15 kV15 dc15 pm15 cd15 ct15 : Value} (a15 : PySem.W.nsIn K mainGlobals "longest_piece" = some (some (.ref f15))) (l15 : K.lookup f15 = some ⟨oc15, od15, .func (PySem.W.fnOf "longest_piece" "longest_piece" (defArgs s_longest_piece) (defBody s_longest_piece) (defScope s_longest_piece) .none kV15 dc15 pm15 an15 cd15 ct15), sl15⟩) (c15 : PySem.W.codeIn K cd15 "longest_piece" = true) (k15 : PySem.W.keepIn K (.ref f15) = true)
    {f16 : Addr} {od16 an16 : Option Addr} {sl16 : Array (Option Value)} {oc16 kV16 dc16 pm16 cd16 ct16 : Value} (a16 : PySem.W.nsIn K mainGlobals "taken_in_turn" = some (some (.ref f16))) (l16 : K.lookup f16 = some ⟨oc16, od16, .func (PySem.W.fnOf "taken_in_turn" "taken_in_turn" (defArgs s_taken_in_turn) (defBody s_taken_in_turn) (defScope s_taken_in_turn) .none kV16 dc16 pm16 an16 cd16 ct16), sl16⟩) (c16 : PySem.W.codeIn K cd16 "taken_in_turn" = true) (k16 : PySem.W.keepIn K (.ref f16) = true)
    {f17 : Addr} {od17 an17 : Option Addr} {sl17 : Array (Option Value)} {oc17 kV17 dc17 pm17 cd17 ct17 : Value} (a17 : PySem.W.findIn K (.ref C0) "__init__" = some (some (.ref f17))) (i17 : PySem.W.isFn K (.ref f17) = true) (l17 : K.lookup f17 = some ⟨oc17, od17, .func (PySem.W.fnOf "__init__" "Cutting.__init__" (defArgs s_Cutting___init__) (defBody s_Cutting___init__) (defScope s_Cutting___init__) .none kV17 dc17 pm17 an17 cd17 ct17), sl17⟩) (c17 : PySem.W.codeIn K cd17 "Cutting.__init__" = true) (k17 : PySem.W.keepIn K (.ref f17) = true)
    {f18 : Addr} {od18 an18 : Option Addr} {sl18 : Array (Option Value)} {oc18 kV18 dc18 pm18 cd18 ct18 : Value} (a18 : PySem.W.nsIn K mainGlobals "cut" = some (some (.ref f18))) (l18 : K.lookup f18 = some ⟨oc18, od18, .func (PySem.W.fnOf "cut" "cut" (defArgs s_cut) (defBody s_cut) (defScope s_cut) .none kV18 dc18 pm18 an18 cd18 ct18), sl18⟩) (c18 : PySem.W.codeIn K cd18 "cut" = true) (k18 : PySem.W.keepIn K (.ref f18) = true)
    {cL18 PL18 : Addr} {oq18 : Option Addr} {vl18 : Array Value} {os18 : Array (Option Value)} (e18 : cd18 = .ref cL18) (lc18 : K.lookup cL18 = some ⟨.type "code", oq18, .fields vl18, os18⟩) (vp18 : vl18[11]? = some (.ref PL18))
    (t018 : h.get? PL18 = some (PySem.W.tabObj #[])) (nk18 : K.lookup PL18 = none) (hc18 : PySem.W.codeHdIn K cL18 PL18 = true)
    {f19 : Addr} {od19 an19 : Option Addr} {sl19 : Array (Option Value)} {oc19 kV19 dc19 pm19 cd19 ct19 : Value} (a19 : PySem.W.nsIn K mainGlobals "place_of" = some (some (.ref f19))) (l19 : K.lookup f19 = some ⟨oc19, od19, .func (PySem.W.fnOf "place_of" "place_of" (defArgs s_place_of) (defBody s_place_of) (defScope s_place_of) .none kV19 dc19 pm19 an19 cd19 ct19), sl19⟩) (c19 : PySem.W.codeIn K cd19 "place_of" = true) (k19 : PySem.W.keepIn K (.ref f19) = true)
    {f20 : Addr} {od20 an20 : Option Addr} {sl20 : Array (Option Value)} {oc20 kV20 dc20 pm20 cd20 ct20 : Value} (a20 : PySem.W.nsIn K mainGlobals "holds" = some (some (.ref f20))) (l20 : K.lookup f20 = some ⟨oc20, od20, .func (PySem.W.fnOf "holds" "holds" (defArgs s_holds) (defBody s_holds) (defScope s_holds) .none kV20 dc20 pm20 an20 cd20 ct20), sl20⟩) (c20 : PySem.W.codeIn K cd20 "holds" = true) (k20 : PySem.W.keepIn K (.ref f20) = true)
    {f21 : Addr} {od21 an21 : Option Addr} {sl21 : Array (Option Value)} {oc21 kV21 dc21 pm21 cd21 ct21 : Value} (a21 : PySem.W.nsIn K mainGlobals "merged" = some (some (.ref f21))) (l21 : K.lookup f21 = some ⟨oc21, od21, .func (PySem.W.fnOf "merged" "merged" (defArgs s_merged) (defBody s_merged) (defScope s_merged) .none kV21 dc21 pm21 an21 cd21 ct21), sl21⟩) (c21 : PySem.W.codeIn K cd21 "merged" = true) (k21 : PySem.W.keepIn K (.ref f21) = true)
    {f22 : Addr} {od22 an22 : Option Addr} {sl22 : Array (Option Value)} {oc22 kV22 dc22 pm22 cd22 ct22 : Value} (a22 : PySem.W.nsIn K mainGlobals "without_removed" = some (some (.ref f22))) (l22 : K.lookup f22 = some ⟨oc22, od22, .func (PySem.W.fnOf "without_removed" "without_removed" (defArgs s_without_removed) (defBody s_without_removed) (defScope s_without_removed) .none kV22 dc22 pm22 an22 cd22 ct22), sl22⟩) (c22 : PySem.W.codeIn K cd22 "without_removed" = true) (k22 : PySem.W.keepIn K (.ref f22) = true)
    {f23 : Addr} {od23 an23 : Option Addr} {sl23 : Array (Option Value)} {oc23 kV23 dc23 pm23 cd23 ct23 : Value} (a23 : PySem.W.nsIn K mainGlobals "_law_cell" = some (some (.ref f23))) (l23 : K.lookup f23 = some ⟨oc23, od23, .func (PySem.W.fnOf "_law_cell" "_law_cell" (defArgs s__law_cell) (defBody s__law_cell) (defScope s__law_cell) .none kV23 dc23 pm23 an23 cd23 ct23), sl23⟩) (c23 : PySem.W.codeIn K cd23 "_law_cell" = true) (k23 : PySem.W.keepIn K (.ref f23) = true)
    {f24 : Addr} {od24 an24 : Option Addr} {sl24 : Array (Option Value)} {oc24 kV24 dc24 pm24 cd24 ct24 : Value} (a24 : PySem.W.nsIn K mainGlobals "_law_digits" = some (some (.ref f24))) (l24 : K.lookup f24 = some ⟨oc24, od24, .func (PySem.W.fnOf "_law_digits" "_law_digits" (defArgs s__law_digits) (defBody s__law_digits) (defScope s__law_digits) .none kV24 dc24 pm24 an24 cd24 ct24), sl24⟩) (c24 : PySem.W.codeIn K cd24 "_law_digits" = true) (k24 : PySem.W.keepIn K (.ref f24) = true)
    {f25 : Addr} {od25 an25 : Option Addr} {sl25 : Array (Option Value)} {oc25 kV25 dc25 pm25 cd25 ct25 : Value} (a25 : PySem.W.nsIn K mainGlobals "_law_edits" = some (some (.ref f25))) (l25 : K.lookup f25 = some ⟨oc25, od25, .func (PySem.W.fnOf "_law_edits" "_law_edits" (defArgs s__law_edits) (defBody s__law_edits) (defScope s__law_edits) .none kV25 dc25 pm25 an25 cd25 ct25), sl25⟩) (c25 : PySem.W.codeIn K cd25 "_law_edits" = true) (k25 : PySem.W.keepIn K (.ref f25) = true)
    {f26 : Addr} {od26 an26 : Option Addr} {sl26 : Array (Option Value)} {oc26 kV26 dc26 pm26 cd26 ct26 : Value} (a26 : PySem.W.findIn K (.ref C16) "_present_runs" = some (some (.ref f26))) (i26 : PySem.W.isFn K (.ref f26) = true) (l26 : K.lookup f26 = some ⟨oc26, od26, .func (PySem.W.fnOf "_present_runs" "Store._present_runs" (defArgs s_Store__present_runs) (defBody s_Store__present_runs) (defScope s_Store__present_runs) .none kV26 dc26 pm26 an26 cd26 ct26), sl26⟩) (c26 : PySem.W.codeIn K cd26 "Store._present_runs" = true) (k26 : PySem.W.keepIn K (.ref f26) = true)
    {f27 : Addr} {od27 an27 : Option Addr} {sl27 : Array (Option Value)} {oc27 kV27 dc27 pm27 cd27 ct27 : Value} (a27 : PySem.W.findIn K (.ref C1) "__init__" = some (some (.ref f27))) (i27 : PySem.W.isFn K (.ref f27) = true) (l27 : K.lookup f27 = some ⟨oc27, od27, .func (PySem.W.fnOf "__init__" "Level.__init__" (defArgs s_Level___init__) (defBody s_Level___init__) (defScope s_Level___init__) .none kV27 dc27 pm27 an27 cd27 ct27), sl27⟩) (c27 : PySem.W.codeIn K cd27 "Level.__init__" = true) (k27 : PySem.W.keepIn K (.ref f27) = true)
    {f28 : Addr} {od28 an28 : Option Addr} {sl28 : Array (Option Value)} {oc28 kV28 dc28 pm28 cd28 ct28 : Value} (a28 : PySem.W.findIn K (.ref C1) "first_keys" = some (some (.ref f28))) (i28 : PySem.W.isFn K (.ref f28) = true) (l28 : K.lookup f28 = some ⟨oc28, od28, .func (PySem.W.fnOf "first_keys" "Level.first_keys" (defArgs s_Level_first_keys) (defBody s_Level_first_keys) (defScope s_Level_first_keys) .none kV28 dc28 pm28 an28 cd28 ct28), sl28⟩) (c28 : PySem.W.codeIn K cd28 "Level.first_keys" = true) (k28 : PySem.W.keepIn K (.ref f28) = true)
    {f29 : Addr} {od29 an29 : Option Addr} {sl29 : Array (Option Value)} {oc29 kV29 dc29 pm29 cd29 ct29 : Value} (a29 : PySem.W.findIn K (.ref C2) "__init__" = some (some (.ref f29))) (i29 : PySem.W.isFn K (.ref f29) = true) (l29 : K.lookup f29 = some ⟨oc29, od29, .func (PySem.W.fnOf "__init__" "Index.__init__" (defArgs s_Index___init__) (defBody s_Index___init__) (defScope s_Index___init__) .none kV29 dc29 pm29 an29 cd29 ct29), sl29⟩) (c29 : PySem.W.codeIn K cd29 "Index.__init__" = true) (k29 : PySem.W.keepIn K (.ref f29) = true)
    {f30 : Addr} {od30 an30 : Option Addr} {sl30 : Array (Option Value)} {oc30 kV30 dc30 pm30 cd30 ct30 : Value} (a30 : PySem.W.findIn K (.ref C5) "__init__" = some (some (.ref f30))) (i30 : PySem.W.isFn K (.ref f30) = true) (l30 : K.lookup f30 = some ⟨oc30, od30, .func (PySem.W.fnOf "__init__" "Run.__init__" (defArgs s_Run___init__) (defBody s_Run___init__) (defScope s_Run___init__) .none kV30 dc30 pm30 an30 cd30 ct30), sl30⟩) (c30 : PySem.W.codeIn K cd30 "Run.__init__" = true) (k30 : PySem.W.keepIn K (.ref f30) = true)
    {f31 : Addr} {od31 an31 : Option Addr} {sl31 : Array (Option Value)} {oc31 kV31 dc31 pm31 cd31 ct31 : Value} (a31 : PySem.W.findIn K (.ref C16) "_flush" = some (some (.ref f31))) (i31 : PySem.W.isFn K (.ref f31) = true) (l31 : K.lookup f31 = some ⟨oc31, od31, .func (PySem.W.fnOf "_flush" "Store._flush" (defArgs s_Store__flush) (defBody s_Store__flush) (defScope s_Store__flush) .none kV31 dc31 pm31 an31 cd31 ct31), sl31⟩) (c31 : PySem.W.codeIn K cd31 "Store._flush" = true) (k31 : PySem.W.keepIn K (.ref f31) = true)
    {f32 : Addr} {od32 an32 : Option Addr} {sl32 : Array (Option Value)} {oc32 kV32 dc32 pm32 cd32 ct32 : Value} (a32 : PySem.W.findIn K (.ref C16) "write" = some (some (.ref f32))) (i32 : PySem.W.isFn K (.ref f32) = true) (l32 : K.lookup f32 = some ⟨oc32, od32, .func (PySem.W.fnOf "write" "Store.write" (defArgs s_Store_write) (defBody s_Store_write) (defScope s_Store_write) .none kV32 dc32 pm32 an32 cd32 ct32), sl32⟩) (c32 : PySem.W.codeIn K cd32 "Store.write" = true) (k32 : PySem.W.keepIn K (.ref f32) = true)
    {f33 : Addr} {od33 an33 : Option Addr} {sl33 : Array (Option Value)} {oc33 kV33 dc33 pm33 cd33 ct33 : Value} (a33 : PySem.W.findIn K (.ref C16) "put" = some (some (.ref f33))) (i33 : PySem.W.isFn K (.ref f33) = true) (l33 : K.lookup f33 = some ⟨oc33, od33, .func (PySem.W.fnOf "put" "Store.put" (defArgs s_Store_put) (defBody s_Store_put) (defScope s_Store_put) .none kV33 dc33 pm33 an33 cd33 ct33), sl33⟩) (c33 : PySem.W.codeIn K cd33 "Store.put" = true) (k33 : PySem.W.keepIn K (.ref f33) = true)
    {f34 : Addr} {od34 an34 : Option Addr} {sl34 : Array (Option Value)} {oc34 kV34 dc34 pm34 cd34 ct34 : Value} (a34 : PySem.W.findIn K (.ref C16) "remove" = some (some (.ref f34))) (i34 : PySem.W.isFn K (.ref f34) = true) (l34 : K.lookup f34 = some ⟨oc34, od34, .func (PySem.W.fnOf "remove" "Store.remove" (defArgs s_Store_remove) (defBody s_Store_remove) (defScope s_Store_remove) .none kV34 dc34 pm34 an34 cd34 ct34), sl34⟩) (c34 : PySem.W.codeIn K cd34 "Store.remove" = true) (k34 : PySem.W.keepIn K (.ref f34) = true)
    {f35 : Addr} {od35 an35 : Option Addr} {sl35 : Array (Option Value)} {oc35 kV35 dc35 pm35 cd35 ct35 : Value} (a35 : PySem.W.nsIn K mainGlobals "_law_edit" = some (some (.ref f35))) (l35 : K.lookup f35 = some ⟨oc35, od35, .func (PySem.W.fnOf "_law_edit" "_law_edit" (defArgs s__law_edit) (defBody s__law_edit) (defScope s__law_edit) .none kV35 dc35 pm35 an35 cd35 ct35), sl35⟩) (c35 : PySem.W.codeIn K cd35 "_law_edit" = true) (k35 : PySem.W.keepIn K (.ref f35) = true)
    {f36 : Addr} {od36 an36 : Option Addr} {sl36 : Array (Option Value)} {oc36 kV36 dc36 pm36 cd36 ct36 : Value} (a36 : PySem.W.nsIn K mainGlobals "_law_merged" = some (some (.ref f36))) (l36 : K.lookup f36 = some ⟨oc36, od36, .func (PySem.W.fnOf "_law_merged" "_law_merged" (defArgs s__law_merged) (defBody s__law_merged) (defScope s__law_merged) .none kV36 dc36 pm36 an36 cd36 ct36), sl36⟩) (c36 : PySem.W.codeIn K cd36 "_law_merged" = true) (k36 : PySem.W.keepIn K (.ref f36) = true)
    {f37 : Addr} {od37 an37 : Option Addr} {sl37 : Array (Option Value)} {oc37 kV37 dc37 pm37 cd37 ct37 : Value} (a37 : PySem.W.nsIn K mainGlobals "_law_flushed" = some (some (.ref f37))) (l37 : K.lookup f37 = some ⟨oc37, od37, .func (PySem.W.fnOf "_law_flushed" "_law_flushed" (defArgs s__law_flushed) (defBody s__law_flushed) (defScope s__law_flushed) .none kV37 dc37 pm37 an37 cd37 ct37), sl37⟩) (c37 : PySem.W.codeIn K cd37 "_law_flushed" = true) (k37 : PySem.W.keepIn K (.ref f37) = true)
    {f38 : Addr} {od38 an38 : Option Addr} {sl38 : Array (Option Value)} {oc38 kV38 dc38 pm38 cd38 ct38 : Value} (a38 : PySem.W.nsIn K mainGlobals "_law_after" = some (some (.ref f38))) (l38 : K.lookup f38 = some ⟨oc38, od38, .func (PySem.W.fnOf "_law_after" "_law_after" (defArgs s__law_after) (defBody s__law_after) (defScope s__law_after) .none kV38 dc38 pm38 an38 cd38 ct38), sl38⟩) (c38 : PySem.W.codeIn K cd38 "_law_after" = true) (k38 : PySem.W.keepIn K (.ref f38) = true)
    {f39 : Addr} {od39 an39 : Option Addr} {sl39 : Array (Option Value)} {oc39 kV39 dc39 pm39 cd39 ct39 : Value} (a39 : PySem.W.nsIn K mainGlobals "_law_sizes" = some (some (.ref f39))) (l39 : K.lookup f39 = some ⟨oc39, od39, .func (PySem.W.fnOf "_law_sizes" "_law_sizes" (defArgs s__law_sizes) (defBody s__law_sizes) (defScope s__law_sizes) .none kV39 dc39 pm39 an39 cd39 ct39), sl39⟩) (c39 : PySem.W.codeIn K cd39 "_law_sizes" = true) (k39 : PySem.W.keepIn K (.ref f39) = true)
    {f40 : Addr} {od40 an40 : Option Addr} {sl40 : Array (Option Value)} {oc40 kV40 dc40 pm40 cd40 ct40 : Value} (a40 : PySem.W.findIn K (.ref C16) "__init__" = some (some (.ref f40))) (i40 : PySem.W.isFn K (.ref f40) = true) (l40 : K.lookup f40 = some ⟨oc40, od40, .func (PySem.W.fnOf "__init__" "Store.__init__" (defArgs s_Store___init__) (defBody s_Store___init__) (defScope s_Store___init__) .none kV40 dc40 pm40 an40 cd40 ct40), sl40⟩) (c40 : PySem.W.codeIn K cd40 "Store.__init__" = true) (k40 : PySem.W.keepIn K (.ref f40) = true)
    {f41 : Addr} {od41 an41 : Option Addr} {sl41 : Array (Option Value)} {oc41 kV41 dc41 pm41 cd41 ct41 : Value} (a41 : PySem.W.findIn K (.ref C16) "run_sizes" = some (some (.ref f41))) (i41 : PySem.W.isFn K (.ref f41) = true) (l41 : K.lookup f41 = some ⟨oc41, od41, .func (PySem.W.fnOf "run_sizes" "Store.run_sizes" (defArgs s_Store_run_sizes) (defBody s_Store_run_sizes) (defScope s_Store_run_sizes) .none kV41 dc41 pm41 an41 cd41 ct41), sl41⟩) (c41 : PySem.W.codeIn K cd41 "Store.run_sizes" = true) (k41 : PySem.W.keepIn K (.ref f41) = true)
    {f42 : Addr} {od42 an42 : Option Addr} {sl42 : Array (Option Value)} {oc42 kV42 dc42 pm42 cd42 ct42 : Value} (a42 : PySem.W.findIn K (.ref C16) "buffered" = some (some (.ref f42))) (i42 : PySem.W.isFn K (.ref f42) = true) (l42 : K.lookup f42 = some ⟨oc42, od42, .func (PySem.W.fnOf "buffered" "Store.buffered" (defArgs s_Store_buffered) (defBody s_Store_buffered) (defScope s_Store_buffered) .none kV42 dc42 pm42 an42 cd42 ct42), sl42⟩) (c42 : PySem.W.codeIn K cd42 "Store.buffered" = true) (k42 : PySem.W.keepIn K (.ref f42) = true)
    {f43 : Addr} {od43 an43 : Option Addr} {sl43 : Array (Option Value)} {oc43 kV43 dc43 pm43 cd43 ct43 : Value} (a43 : PySem.W.nsIn K mainGlobals "law" = some (some (.ref f43))) (l43 : K.lookup f43 = some ⟨oc43, od43, .func (PySem.W.fnOf "law" "law" (defArgs s_law) (defBody s_law) (defScope s_law) .none kV43 dc43 pm43 an43 cd43 ct43), sl43⟩) (c43 : PySem.W.codeIn K cd43 "law" = true) (k43 : PySem.W.keepIn K (.ref f43) = true)
    {f44 : Addr} {od44 an44 : Option Addr} {sl44 : Array (Option Value)} {oc44 kV44 dc44 pm44 cd44 ct44 : Value} (a44 : PySem.W.findIn K (.ref C1) "window" = some (some (.ref f44))) (i44 : PySem.W.isFn K (.ref f44) = true) (l44 : K.lookup f44 = some ⟨oc44, od44, .func (PySem.W.fnOf "window" "Level.window" (defArgs s_Level_window) (defBody s_Level_window) (defScope s_Level_window) .none kV44 dc44 pm44 an44 cd44 ct44), sl44⟩) (c44 : PySem.W.codeIn K cd44 "Level.window" = true) (k44 : PySem.W.keepIn K (.ref f44) = true)
    {f45 : Addr} {od45 an45 : Option Addr} {sl45 : Array (Option Value)} {oc45 kV45 dc45 pm45 cd45 ct45 : Value} (a45 : PySem.W.findIn K (.ref C1) "search" = some (some (.ref f45))) (i45 : PySem.W.isFn K (.ref f45) = true) (l45 : K.lookup f45 = some ⟨oc45, od45, .func (PySem.W.fnOf "search" "Level.search" (defArgs s_Level_search) (defBody s_Level_search) (defScope s_Level_search) .none kV45 dc45 pm45 an45 cd45 ct45), sl45⟩) (c45 : PySem.W.codeIn K cd45 "Level.search" = true) (k45 : PySem.W.keepIn K (.ref f45) = true)
    {f46 : Addr} {od46 an46 : Option Addr} {sl46 : Array (Option Value)} {oc46 kV46 dc46 pm46 cd46 ct46 : Value} (a46 : PySem.W.findIn K (.ref C2) "level_keys" = some (some (.ref f46))) (i46 : PySem.W.isFn K (.ref f46) = true) (l46 : K.lookup f46 = some ⟨oc46, od46, .func (PySem.W.fnOf "level_keys" "Index.level_keys" (defArgs s_Index_level_keys) (defBody s_Index_level_keys) (defScope s_Index_level_keys) .none kV46 dc46 pm46 an46 cd46 ct46), sl46⟩) (c46 : PySem.W.codeIn K cd46 "Index.level_keys" = true) (k46 : PySem.W.keepIn K (.ref f46) = true)
    {f47 : Addr} {od47 an47 : Option Addr} {sl47 : Array (Option Value)} {oc47 kV47 dc47 pm47 cd47 ct47 : Value} (a47 : PySem.W.findIn K (.ref C2) "pieces" = some (some (.ref f47))) (i47 : PySem.W.isFn K (.ref f47) = true) (l47 : K.lookup f47 = some ⟨oc47, od47, .func (PySem.W.fnOf "pieces" "Index.pieces" (defArgs s_Index_pieces) (defBody s_Index_pieces) (defScope s_Index_pieces) .none kV47 dc47 pm47 an47 cd47 ct47), sl47⟩) (c47 : PySem.W.codeIn K cd47 "Index.pieces" = true) (k47 : PySem.W.keepIn K (.ref f47) = true)
    {f48 : Addr} {od48 an48 : Option Addr} {sl48 : Array (Option Value)} {oc48 kV48 dc48 pm48 cd48 ct48 : Value} (a48 : PySem.W.findIn K (.ref C2) "look_up" = some (some (.ref f48))) (i48 : PySem.W.isFn K (.ref f48) = true) (l48 : K.lookup f48 = some ⟨oc48, od48, .func (PySem.W.fnOf "look_up" "Index.look_up" (defArgs s_Index_look_up) (defBody s_Index_look_up) (defScope s_Index_look_up) .none kV48 dc48 pm48 an48 cd48 ct48), sl48⟩) (c48 : PySem.W.codeIn K cd48 "Index.look_up" = true) (k48 : PySem.W.keepIn K (.ref f48) = true)
    {f49 : Addr} {od49 an49 : Option Addr} {sl49 : Array (Option Value)} {oc49 kV49 dc49 pm49 cd49 ct49 : Value} (a49 : PySem.W.findIn K (.ref C2) "rank" = some (some (.ref f49))) (i49 : PySem.W.isFn K (.ref f49) = true) (l49 : K.lookup f49 = some ⟨oc49, od49, .func (PySem.W.fnOf "rank" "Index.rank" (defArgs s_Index_rank) (defBody s_Index_rank) (defScope s_Index_rank) .none kV49 dc49 pm49 an49 cd49 ct49), sl49⟩) (c49 : PySem.W.codeIn K cd49 "Index.rank" = true) (k49 : PySem.W.keepIn K (.ref f49) = true)
    {f50 : Addr} {od50 an50 : Option Addr} {sl50 : Array (Option Value)} {oc50 kV50 dc50 pm50 cd50 ct50 : Value} (a50 : PySem.W.findIn K (.ref C2) "key_at" = some (some (.ref f50))) (i50 : PySem.W.isFn K (.ref f50) = true) (l50 : K.lookup f50 = some ⟨oc50, od50, .func (PySem.W.fnOf "key_at" "Index.key_at" (defArgs s_Index_key_at) (defBody s_Index_key_at) (defScope s_Index_key_at) .none kV50 dc50 pm50 an50 cd50 ct50), sl50⟩) (c50 : PySem.W.codeIn K cd50 "Index.key_at" = true) (k50 : PySem.W.keepIn K (.ref f50) = true)
    {f51 : Addr} {od51 an51 : Option Addr} {sl51 : Array (Option Value)} {oc51 kV51 dc51 pm51 cd51 ct51 : Value} (a51 : PySem.W.findIn K (.ref C2) "at_most" = some (some (.ref f51))) (i51 : PySem.W.isFn K (.ref f51) = true) (l51 : K.lookup f51 = some ⟨oc51, od51, .func (PySem.W.fnOf "at_most" "Index.at_most" (defArgs s_Index_at_most) (defBody s_Index_at_most) (defScope s_Index_at_most) .none kV51 dc51 pm51 an51 cd51 ct51), sl51⟩) (c51 : PySem.W.codeIn K cd51 "Index.at_most" = true) (k51 : PySem.W.keepIn K (.ref f51) = true)
    {f52 : Addr} {od52 an52 : Option Addr} {sl52 : Array (Option Value)} {oc52 kV52 dc52 pm52 cd52 ct52 : Value} (a52 : PySem.W.findIn K (.ref C2) "has" = some (some (.ref f52))) (i52 : PySem.W.isFn K (.ref f52) = true) (l52 : K.lookup f52 = some ⟨oc52, od52, .func (PySem.W.fnOf "has" "Index.has" (defArgs s_Index_has) (defBody s_Index_has) (defScope s_Index_has) .none kV52 dc52 pm52 an52 cd52 ct52), sl52⟩) (c52 : PySem.W.codeIn K cd52 "Index.has" = true) (k52 : PySem.W.keepIn K (.ref f52) = true)
    {f53 : Addr} {od53 an53 : Option Addr} {sl53 : Array (Option Value)} {oc53 kV53 dc53 pm53 cd53 ct53 : Value} (a53 : PySem.W.findIn K (.ref C2) "count" = some (some (.ref f53))) (i53 : PySem.W.isFn K (.ref f53) = true) (l53 : K.lookup f53 = some ⟨oc53, od53, .func (PySem.W.fnOf "count" "Index.count" (defArgs s_Index_count) (defBody s_Index_count) (defScope s_Index_count) .none kV53 dc53 pm53 an53 cd53 ct53), sl53⟩) (c53 : PySem.W.codeIn K cd53 "Index.count" = true) (k53 : PySem.W.keepIn K (.ref f53) = true)
    {f54 : Addr} {od54 an54 : Option Addr} {sl54 : Array (Option Value)} {oc54 kV54 dc54 pm54 cd54 ct54 : Value} (a54 : PySem.W.findIn K (.ref C2) "at_least" = some (some (.ref f54))) (i54 : PySem.W.isFn K (.ref f54) = true) (l54 : K.lookup f54 = some ⟨oc54, od54, .func (PySem.W.fnOf "at_least" "Index.at_least" (defArgs s_Index_at_least) (defBody s_Index_at_least) (defScope s_Index_at_least) .none kV54 dc54 pm54 an54 cd54 ct54), sl54⟩) (c54 : PySem.W.codeIn K cd54 "Index.at_least" = true) (k54 : PySem.W.keepIn K (.ref f54) = true)
    {f55 : Addr} {od55 an55 : Option Addr} {sl55 : Array (Option Value)} {oc55 kV55 dc55 pm55 cd55 ct55 : Value} (a55 : PySem.W.findIn K (.ref C5) "entry_of" = some (some (.ref f55))) (i55 : PySem.W.isFn K (.ref f55) = true) (l55 : K.lookup f55 = some ⟨oc55, od55, .func (PySem.W.fnOf "entry_of" "Run.entry_of" (defArgs s_Run_entry_of) (defBody s_Run_entry_of) (defScope s_Run_entry_of) .none kV55 dc55 pm55 an55 cd55 ct55), sl55⟩) (c55 : PySem.W.codeIn K cd55 "Run.entry_of" = true) (k55 : PySem.W.keepIn K (.ref f55) = true)
    {f56 : Addr} {od56 an56 : Option Addr} {sl56 : Array (Option Value)} {oc56 kV56 dc56 pm56 cd56 ct56 : Value} (a56 : PySem.W.findIn K (.ref C5) "between" = some (some (.ref f56))) (i56 : PySem.W.isFn K (.ref f56) = true) (l56 : K.lookup f56 = some ⟨oc56, od56, .func (PySem.W.fnOf "between" "Run.between" (defArgs s_Run_between) (defBody s_Run_between) (defScope s_Run_between) .none kV56 dc56 pm56 an56 cd56 ct56), sl56⟩) (c56 : PySem.W.codeIn K cd56 "Run.between" = true) (k56 : PySem.W.keepIn K (.ref f56) = true)
    {f57 : Addr} {od57 an57 : Option Addr} {sl57 : Array (Option Value)} {oc57 kV57 dc57 pm57 cd57 ct57 : Value} (a57 : PySem.W.findIn K (.ref C16) "between" = some (some (.ref f57))) (i57 : PySem.W.isFn K (.ref f57) = true) (l57 : K.lookup f57 = some ⟨oc57, od57, .func (PySem.W.fnOf "between" "Store.between" (defArgs s_Store_between) (defBody s_Store_between) (defScope s_Store_between) .none kV57 dc57 pm57 an57 cd57 ct57), sl57⟩) (c57 : PySem.W.codeIn K cd57 "Store.between" = true) (k57 : PySem.W.keepIn K (.ref f57) = true)
    {f58 : Addr} {od58 an58 : Option Addr} {sl58 : Array (Option Value)} {oc58 kV58 dc58 pm58 cd58 ct58 : Value} (a58 : PySem.W.findIn K (.ref C16) "get" = some (some (.ref f58))) (i58 : PySem.W.isFn K (.ref f58) = true) (l58 : K.lookup f58 = some ⟨oc58, od58, .func (PySem.W.fnOf "get" "Store.get" (defArgs s_Store_get) (defBody s_Store_get) (defScope s_Store_get) .none kV58 dc58 pm58 an58 cd58 ct58), sl58⟩) (c58 : PySem.W.codeIn K cd58 "Store.get" = true) (k58 : PySem.W.keepIn K (.ref f58) = true)
    {f59 : Addr} {od59 an59 : Option Addr} {sl59 : Array (Option Value)} {oc59 kV59 dc59 pm59 cd59 ct59 : Value} (a59 : PySem.W.findIn K (.ref C16) "contents" = some (some (.ref f59))) (i59 : PySem.W.isFn K (.ref f59) = true) (l59 : K.lookup f59 = some ⟨oc59, od59, .func (PySem.W.fnOf "contents" "Store.contents" (defArgs s_Store_contents) (defBody s_Store_contents) (defScope s_Store_contents) .none kV59 dc59 pm59 an59 cd59 ct59), sl59⟩) (c59 : PySem.W.codeIn K cd59 "Store.contents" = true) (k59 : PySem.W.keepIn K (.ref f59) = true)
    {f60 : Addr} {od60 an60 : Option Addr} {sl60 : Array (Option Value)} {oc60 kV60 dc60 pm60 cd60 ct60 : Value} (a60 : PySem.W.findIn K (.ref C16) "buffer_entries" = some (some (.ref f60))) (i60 : PySem.W.isFn K (.ref f60) = true) (l60 : K.lookup f60 = some ⟨oc60, od60, .func (PySem.W.fnOf "buffer_entries" "Store.buffer_entries" (defArgs s_Store_buffer_entries) (defBody s_Store_buffer_entries) (defScope s_Store_buffer_entries) .none kV60 dc60 pm60 an60 cd60 ct60), sl60⟩) (c60 : PySem.W.codeIn K cd60 "Store.buffer_entries" = true) (k60 : PySem.W.keepIn K (.ref f60) = true)
    {f61 : Addr} {od61 an61 : Option Addr} {sl61 : Array (Option Value)} {oc61 kV61 dc61 pm61 cd61 ct61 : Value} (a61 : PySem.W.findIn K (.ref C16) "level_entries" = some (some (.ref f61))) (i61 : PySem.W.isFn K (.ref f61) = true) (l61 : K.lookup f61 = some ⟨oc61, od61, .func (PySem.W.fnOf "level_entries" "Store.level_entries" (defArgs s_Store_level_entries) (defBody s_Store_level_entries) (defScope s_Store_level_entries) .none kV61 dc61 pm61 an61 cd61 ct61), sl61⟩) (c61 : PySem.W.codeIn K cd61 "Store.level_entries" = true) (k61 : PySem.W.keepIn K (.ref f61) = true)
    {f62 : Addr} {od62 an62 : Option Addr} {sl62 : Array (Option Value)} {oc62 kV62 dc62 pm62 cd62 ct62 : Value} (a62 : PySem.W.findIn K (.ref C16) "restore" = some (some (.ref f62))) (i62 : PySem.W.isFn K (.ref f62) = true) (l62 : K.lookup f62 = some ⟨oc62, od62, .func (PySem.W.fnOf "restore" "Store.restore" (defArgs s_Store_restore) (defBody s_Store_restore) (defScope s_Store_restore) .none kV62 dc62 pm62 an62 cd62 ct62), sl62⟩) (c62 : PySem.W.codeIn K cd62 "Store.restore" = true) (k62 : PySem.W.keepIn K (.ref f62) = true)
    (z_len : PySem.W.nsIn K mainGlobals "len" = some none)
    (z_gcd : PySem.W.nsIn K mainGlobals "gcd" = some (some (.builtin "math.gcd")))
    (z_range : PySem.W.nsIn K mainGlobals "range" = some none)
    (z_list : PySem.W.nsIn K mainGlobals "list" = some none)
    (z_sorted : PySem.W.nsIn K mainGlobals "sorted" = some none)
    (z_int : PySem.W.nsIn K mainGlobals "int" = some none)
    (z_enumerate : PySem.W.nsIn K mainGlobals "enumerate" = some none)
    (z_sum : PySem.W.nsIn K mainGlobals "sum" = some none)
    (z_all : PySem.W.nsIn K mainGlobals "all" = some none)
    (z_min : PySem.W.nsIn K mainGlobals "min" = some none)
    (z_max : PySem.W.nsIn K mainGlobals "max" = some none)
    (z_reversed : PySem.W.nsIn K mainGlobals "reversed" = some none)
    (ndT : [PL18].Nodup) :
    LamX.LawAtS l w K CX0 18 63 "script" mg fa h := by
  letI TCi : TabCtx := tabCx ([(PL18, lamQ "cut")] : List (Addr × Str))
  have e := hfa.symm.trans (PySem.W.mg_of X G a43)
  cases e
  have M_len := PySem.W.mg_none_of X G z_len
  have M_gcd := PySem.W.mg_of X G z_gcd
  have M_range := PySem.W.mg_none_of X G z_range
  have M_list := PySem.W.mg_none_of X G z_list
  have M_sorted := PySem.W.mg_none_of X G z_sorted
  have M_int := PySem.W.mg_none_of X G z_int
  have M_enumerate := PySem.W.mg_none_of X G z_enumerate
  have M_sum := PySem.W.mg_none_of X G z_sum
  have M_all := PySem.W.mg_none_of X G z_all
  have M_min := PySem.W.mg_none_of X G z_min
  have M_max := PySem.W.mg_none_of X G z_max
  have M_reversed := PySem.W.mg_none_of X G z_reversed
  have M_ck0 : CK K mg 0 C0 := ⟨PySem.W.mg_of X G gC0, ⟨pg0, hd0, po0, sa0⟩, by
    intro x hx
    replace hx : x ∈ (["pieces", "reasons"] : List Str) := hx
    simp only [List.mem_cons, List.not_mem_nil, or_false] at hx
    rcases hx with hx | hx
    all_goals (subst hx; assumption)⟩
  have M_ck1 : CK K mg 1 C1 := ⟨PySem.W.mg_of X G gC1, ⟨pg1, hd1, po1, sa1⟩, by
    intro x hx
    replace hx : x ∈ (["stored", "error", "pieces"] : List Str) := hx
    simp only [List.mem_cons, List.not_mem_nil, or_false] at hx
    rcases hx with hx | hx | hx
    all_goals (subst hx; assumption)⟩
  have M_ck2 : CK K mg 2 C2 := ⟨PySem.W.mg_of X G gC2, ⟨pg2, hd2, po2, sa2⟩, by
    intro x hx
    replace hx : x ∈ (["stored", "_levels"] : List Str) := hx
    simp only [List.mem_cons, List.not_mem_nil, or_false] at hx
    rcases hx with hx | hx
    all_goals (subst hx; assumption)⟩
  have M_ck4 : CK K mg 4 C4 := ⟨PySem.W.mg_of X G gC4, ⟨pg4, hd4, po4, sa4⟩, by
    intro x hx
    replace hx : x ∈ (["_upper", "_lower", "_greatest"] : List Str) := hx
    simp only [List.mem_cons, List.not_mem_nil, or_false] at hx
    rcases hx with hx | hx | hx
    all_goals (subst hx; assumption)⟩
  have M_ck5 : CK K mg 5 C5 := ⟨PySem.W.mg_of X G gC5, ⟨pg5, hd5, po5, sa5⟩, by
    intro x hx
    replace hx : x ∈ (["entries", "_index"] : List Str) := hx
    simp only [List.mem_cons, List.not_mem_nil, or_false] at hx
    rcases hx with hx | hx
    all_goals (subst hx; assumption)⟩
  have M_ck16 : CK K mg 16 C16 := ⟨PySem.W.mg_of X G gC16, ⟨pg16, hd16, po16, sa16⟩, by
    intro x hx
    replace hx : x ∈ (["capacity", "error", "moves", "edits", "_buffer", "_runs"] : List Str) := hx
    simp only [List.mem_cons, List.not_mem_nil, or_false] at hx
    rcases hx with hx | hx | hx | hx | hx | hx
    all_goals (subst hx; assumption)⟩
  have F1 := fun_mk (st := s__wall) l1 c1 k1
  have b1 := F1.binds (ps := ["k"]) fun _ _ _ _ _ _ us hl => match us, hl with | [_], _ => rfl
  have C__wall : ∀ base : Heap, (∀ p ∈ ([(cL18, PL18)] : List (Addr × Addr)), LamX.TabB base mg p.1 p.2) → Cal l.prog w K mg base "_wall" 1 ["k"] S__wall := fun base TBs => ⟨f1, _, ok__wall F1, PySem.W.mg_of X G a1, k1, b1⟩
  have F2 := fun_mk (st := s_kept) l2 c2 k2
  have b2 := F2.binds (ps := ["chain", "vertex", "side"]) fun _ _ _ _ _ _ us hl => match us, hl with | [_, _, _], _ => rfl
  have C_kept : ∀ base : Heap, (∀ p ∈ ([(cL18, PL18)] : List (Addr × Addr)), LamX.TabB base mg p.1 p.2) → CalK l.prog w K mg base "kept" 1 ["chain", "vertex", "side"] [true, false, false] S_kept := fun base TBs => ⟨f2, _, ok_kept F2 M_len, PySem.W.mg_of X G a2, k2, b2⟩
  have F3 := fun_mk (st := s_farthest) l3 c3 k3
  have b3 := F3.binds (ps := ["chain", "rise", "run"]) fun _ _ _ _ _ _ us hl => match us, hl with | [_, _, _], _ => rfl
  have C_farthest : ∀ base : Heap, (∀ p ∈ ([(cL18, PL18)] : List (Addr × Addr)), LamX.TabB base mg p.1 p.2) → CalK l.prog w K mg base "farthest" 1 ["chain", "rise", "run"] [true, false, false] S_farthest := fun base TBs => ⟨f3, _, ok_farthest F3 M_len, PySem.W.mg_of X G a3, k3, b3⟩
  have F4 := fun_mk (st := s_reduced) l4 c4 k4
  have b4 := F4.binds (ps := ["line"]) fun _ _ _ _ _ _ us hl => match us, hl with | [_], _ => rfl
  have C_reduced : ∀ base : Heap, (∀ p ∈ ([(cL18, PL18)] : List (Addr × Addr)), LamX.TabB base mg p.1 p.2) → Cal l.prog w K mg base "reduced" 1 ["line"] S_reduced := fun base TBs => ⟨f4, _, ok_reduced F4 M_gcd, PySem.W.mg_of X G a4, k4, b4⟩
  have F5 := fun_mk (st := s_floor_at) l5 c5 k5
  have b5 := F5.binds (ps := ["line", "place"]) fun _ _ _ _ _ _ us hl => match us, hl with | [_, _], _ => rfl
  have C_floor_at : ∀ base : Heap, (∀ p ∈ ([(cL18, PL18)] : List (Addr × Addr)), LamX.TabB base mg p.1 p.2) → Cal l.prog w K mg base "floor_at" 1 ["line", "place"] S_floor_at := fun base TBs => ⟨f5, _, ok_floor_at F5, PySem.W.mg_of X G a5, k5, b5⟩
  have F6 := fun_mk (st := s_ceiling_at) l6 c6 k6
  have b6 := F6.binds (ps := ["line", "place"]) fun _ _ _ _ _ _ us hl => match us, hl with | [_, _], _ => rfl
  have C_ceiling_at : ∀ base : Heap, (∀ p ∈ ([(cL18, PL18)] : List (Addr × Addr)), LamX.TabB base mg p.1 p.2) → Cal l.prog w K mg base "ceiling_at" 1 ["line", "place"] S_ceiling_at := fun base TBs => ⟨f6, _, ok_ceiling_at F6, PySem.W.mg_of X G a6, k6, b6⟩
  have F7 := fun_mk (st := s_exceeds) l7 c7 k7
  have b7 := F7.binds (ps := ["deviation", "error"]) fun _ _ _ _ _ _ us hl => match us, hl with | [_, _], _ => rfl
  have C_exceeds : ∀ base : Heap, (∀ p ∈ ([(cL18, PL18)] : List (Addr × Addr)), LamX.TabB base mg p.1 p.2) → Cal l.prog w K mg base "exceeds" 1 ["deviation", "error"] S_exceeds := fun base TBs => ⟨f7, _, ok_exceeds F7, PySem.W.mg_of X G a7, k7, b7⟩
  have F8 := fun_mk (st := s_middle_line) l8 c8 k8
  have b8 := F8.binds (ps := ["deviation"]) fun _ _ _ _ _ _ us hl => match us, hl with | [_], _ => rfl
  have C_middle_line : ∀ base : Heap, (∀ p ∈ ([(cL18, PL18)] : List (Addr × Addr)), LamX.TabB base mg p.1 p.2) → Cal l.prog w K mg base "middle_line" 2 ["deviation"] S_middle_line := fun base TBs => ⟨f8, _, ok_middle_line F8 (C_reduced base TBs), PySem.W.mg_of X G a8, k8, b8⟩
  have F9 := fun_mk (st := s_indexes_of) l9 c9 k9
  have b9 := F9.binds (ps := ["deviation"]) fun _ _ _ _ _ _ us hl => match us, hl with | [_], _ => rfl
  have C_indexes_of : ∀ base : Heap, (∀ p ∈ ([(cL18, PL18)] : List (Addr × Addr)), LamX.TabB base mg p.1 p.2) → Cal l.prog w K mg base "indexes_of" 1 ["deviation"] S_indexes_of := fun base TBs => ⟨f9, _, ok_indexes_of F9, PySem.W.mg_of X G a9, k9, b9⟩
  have F10 := fun_mk (st := s_deviation_under) l10 c10 k10
  have b10 := F10.binds (ps := ["first", "vertex", "other", "side"]) fun _ _ _ _ _ _ us hl => match us, hl with | [_, _, _, _], _ => rfl
  have C_deviation_under : ∀ base : Heap, (∀ p ∈ ([(cL18, PL18)] : List (Addr × Addr)), LamX.TabB base mg p.1 p.2) → CalK l.prog w K mg base "deviation_under" 2 ["first", "vertex", "other", "side"] [false, false, true, false] S_deviation_under := fun base TBs => ⟨f10, _, ok_deviation_under F10 (C_farthest base TBs), PySem.W.mg_of X G a10, k10, b10⟩
  have F11 := fun_mk (st := s_Strip___init__) l11 c11 k11
  have b11 := F11.binds (ps := ["self"]) fun _ _ _ _ _ _ us hl => match us, hl with | [_], _ => rfl
  have K_Strip : ∀ base : Heap, (∀ p ∈ ([(cL18, PL18)] : List (Addr × Addr)), LamX.TabB base mg p.1 p.2) → Mak l.prog w K mg base 4 1 ["self"] S_Strip___init__ := fun base TBs => ⟨C4, f11, _, _, _, rfl, PySem.W.mg_of X G gC4, ⟨mk4, a11, i11, kc4⟩, ok_Strip___init__ F11 M_ck4, b11⟩
  have F12 := fun_mk (st := s_Strip_step_with) l12 c12 k12
  have b12 := F12.binds (ps := ["self", "vertex"]) fun _ _ _ _ _ _ us hl => match us, hl with | [_, _], _ => rfl
  have C_Strip_step_with : ∀ base : Heap, (∀ p ∈ ([(cL18, PL18)] : List (Addr × Addr)), LamX.TabB base mg p.1 p.2) → MetK l.prog w K mg base 4 "step_with" 3 ["self", "vertex"] [true, false] S_Strip_step_with := fun base TBs => ⟨C4, f12, _, M_ck4, ⟨a12, i12, k12⟩, ok_Strip_step_with F12 M_ck4 (C_kept base TBs) (C_deviation_under base TBs), b12⟩
  have F13 := fun_mk (st := s_Strip_take) l13 c13 k13
  have b13 := F13.binds (ps := ["self", "vertex", "step"]) fun _ _ _ _ _ _ us hl => match us, hl with | [_, _, _], _ => rfl
  have C_Strip_take : ∀ base : Heap, (∀ p ∈ ([(cL18, PL18)] : List (Addr × Addr)), LamX.TabB base mg p.1 p.2) → MetM l.prog w K mg base 4 "take" 1 ["self", "vertex", "step"] S_Strip_take := fun base TBs => ⟨C4, f13, _, _, rfl, M_ck4, ⟨a13, i13, k13⟩, ok_Strip_take F13 M_ck4, b13⟩
  have F14 := fun_mk (st := s_Strip_line) l14 c14 k14
  have b14 := F14.binds (ps := ["self"]) fun _ _ _ _ _ _ us hl => match us, hl with | [_], _ => rfl
  have C_Strip_line : ∀ base : Heap, (∀ p ∈ ([(cL18, PL18)] : List (Addr × Addr)), LamX.TabB base mg p.1 p.2) → MetK l.prog w K mg base 4 "line" 3 ["self"] [true] S_Strip_line := fun base TBs => ⟨C4, f14, _, M_ck4, ⟨a14, i14, k14⟩, ok_Strip_line F14 M_ck4 (C_middle_line base TBs), b14⟩
  have F15 := fun_mk (st := s_longest_piece) l15 c15 k15
  have b15 := F15.binds (ps := ["points", "start", "error"]) fun _ _ _ _ _ _ us hl => match us, hl with | [_, _, _], _ => rfl
  have C_longest_piece : ∀ base : Heap, (∀ p ∈ ([(cL18, PL18)] : List (Addr × Addr)), LamX.TabB base mg p.1 p.2) → Cal l.prog w K mg base "longest_piece" 4 ["points", "start", "error"] S_longest_piece := fun base TBs => ⟨f15, _, ok_longest_piece F15 (K_Strip base TBs) M_len M_range (C_Strip_step_with base TBs) (C_exceeds base TBs) (C_indexes_of base TBs) (C_Strip_line base TBs) (C_Strip_take base TBs), PySem.W.mg_of X G a15, k15, b15⟩
  have F16 := fun_mk (st := s_taken_in_turn) l16 c16 k16
  have b16 := F16.binds (ps := ["longest", "length"]) fun _ _ _ _ _ _ us hl => match us, hl with | [_, _], _ => rfl
  have C_taken_in_turn : ∀ base : Heap, (∀ p ∈ ([(cL18, PL18)] : List (Addr × Addr)), LamX.TabB base mg p.1 p.2) → CalF l.prog w K mg base "taken_in_turn" 0 N_taken_in_turn ["longest", "length"] "longest" 0 1 s_taken_in_turn B_taken_in_turn := fun base TBs => ⟨f16, _, F16, PySem.W.mg_of X G a16, k16, b16, sc_taken_in_turn, rfl, .inl rfl, rfl, ok_taken_in_turn (base := base)⟩
  have F17 := fun_mk (st := s_Cutting___init__) l17 c17 k17
  have b17 := F17.binds (ps := ["self", "pieces", "reasons"]) fun _ _ _ _ _ _ us hl => match us, hl with | [_, _, _], _ => rfl
  have K_Cutting : ∀ base : Heap, (∀ p ∈ ([(cL18, PL18)] : List (Addr × Addr)), LamX.TabB base mg p.1 p.2) → Mak l.prog w K mg base 0 1 ["self", "pieces", "reasons"] S_Cutting___init__ := fun base TBs => ⟨C0, f17, _, _, _, rfl, PySem.W.mg_of X G gC0, ⟨mk0, a17, i17, kc0⟩, ok_Cutting___init__ F17 M_list M_ck0, b17⟩
  have F18 := fun_mk (st := s_cut) l18 c18 k18
  have TH18 := tabHas (T := ([(PL18, lamQ "cut")] : List (Addr × Str))) (P := PL18) (q := lamQ "cut") (by simp) ndT
  have b18 := F18.binds (ps := ["points", "error"]) fun _ _ _ _ _ _ us hl => match us, hl with | [_, _], _ => rfl
  have C_cut : ∀ base : Heap, (∀ p ∈ ([(cL18, PL18)] : List (Addr × Addr)), LamX.TabB base mg p.1 p.2) → Cal l.prog w K mg base "cut" 7 ["points", "error"] S_cut := fun base TBs => ⟨f18, _, ok_cut F18 e18 (TBs (cL18, PL18) (by simp)) TH18 M_len (C_longest_piece base TBs) (C_taken_in_turn base TBs) (K_Cutting base TBs), PySem.W.mg_of X G a18, k18, b18⟩
  have F19 := fun_mk (st := s_place_of) l19 c19 k19
  have b19 := F19.binds (ps := ["entries", "key"]) fun _ _ _ _ _ _ us hl => match us, hl with | [_, _], _ => rfl
  have C_place_of : ∀ base : Heap, (∀ p ∈ ([(cL18, PL18)] : List (Addr × Addr)), LamX.TabB base mg p.1 p.2) → CalK l.prog w K mg base "place_of" 1 ["entries", "key"] [true, false] S_place_of := fun base TBs => ⟨f19, _, ok_place_of F19 M_len, PySem.W.mg_of X G a19, k19, b19⟩
  have F20 := fun_mk (st := s_holds) l20 c20 k20
  have b20 := F20.binds (ps := ["entries", "place", "key"]) fun _ _ _ _ _ _ us hl => match us, hl with | [_, _, _], _ => rfl
  have C_holds : ∀ base : Heap, (∀ p ∈ ([(cL18, PL18)] : List (Addr × Addr)), LamX.TabB base mg p.1 p.2) → CalK l.prog w K mg base "holds" 1 ["entries", "place", "key"] [true, false, false] S_holds := fun base TBs => ⟨f20, _, ok_holds F20 M_len, PySem.W.mg_of X G a20, k20, b20⟩
  have F21 := fun_mk (st := s_merged) l21 c21 k21
  have b21 := F21.binds (ps := ["parts"]) fun _ _ _ _ _ _ us hl => match us, hl with | [_], _ => rfl
  have C_merged : ∀ base : Heap, (∀ p ∈ ([(cL18, PL18)] : List (Addr × Addr)), LamX.TabB base mg p.1 p.2) → Cal l.prog w K mg base "merged" 1 ["parts"] S_merged := fun base TBs => ⟨f21, _, ok_merged F21 M_sorted, PySem.W.mg_of X G a21, k21, b21⟩
  have F22 := fun_mk (st := s_without_removed) l22 c22 k22
  have b22 := F22.binds (ps := ["entries"]) fun _ _ _ _ _ _ us hl => match us, hl with | [_], _ => rfl
  have C_without_removed : ∀ base : Heap, (∀ p ∈ ([(cL18, PL18)] : List (Addr × Addr)), LamX.TabB base mg p.1 p.2) → Cal l.prog w K mg base "without_removed" 1 ["entries"] S_without_removed := fun base TBs => ⟨f22, _, ok_without_removed F22, PySem.W.mg_of X G a22, k22, b22⟩
  have F23 := fun_mk (st := s__law_cell) l23 c23 k23
  have b23 := F23.binds (ps := ["script", "k"]) fun _ _ _ _ _ _ us hl => match us, hl with | [_, _], _ => rfl
  have C__law_cell : ∀ base : Heap, (∀ p ∈ ([(cL18, PL18)] : List (Addr × Addr)), LamX.TabB base mg p.1 p.2) → Cal l.prog w K mg base "_law_cell" 1 ["script", "k"] S__law_cell := fun base TBs => ⟨f23, _, ok__law_cell F23 M_len, PySem.W.mg_of X G a23, k23, b23⟩
  have F24 := fun_mk (st := s__law_digits) l24 c24 k24
  have b24 := F24.binds (ps := ["cell", "many", "count"]) fun _ _ _ _ _ _ us hl => match us, hl with | [_, _, _], _ => rfl
  have C__law_digits : ∀ base : Heap, (∀ p ∈ ([(cL18, PL18)] : List (Addr × Addr)), LamX.TabB base mg p.1 p.2) → Cal l.prog w K mg base "_law_digits" 1 ["cell", "many", "count"] S__law_digits := fun base TBs => ⟨f24, _, ok__law_digits F24 M_range M_int, PySem.W.mg_of X G a24, k24, b24⟩
  have F25 := fun_mk (st := s__law_edits) l25 c25 k25
  have b25 := F25.binds (ps := ["script", "place", "most"]) fun _ _ _ _ _ _ us hl => match us, hl with | [_, _, _], _ => rfl
  have C__law_edits : ∀ base : Heap, (∀ p ∈ ([(cL18, PL18)] : List (Addr × Addr)), LamX.TabB base mg p.1 p.2) → Cal l.prog w K mg base "_law_edits" 2 ["script", "place", "most"] S__law_edits := fun base TBs => ⟨f25, _, ok__law_edits F25 (C__law_cell base TBs) M_int (C__law_digits base TBs) M_range, PySem.W.mg_of X G a25, k25, b25⟩
  have F26 := fun_mk (st := s_Store__present_runs) l26 c26 k26
  have b26 := F26.binds (ps := ["self"]) fun _ _ _ _ _ _ us hl => match us, hl with | [_], _ => rfl
  have C_Store__present_runs : ∀ base : Heap, (∀ p ∈ ([(cL18, PL18)] : List (Addr × Addr)), LamX.TabB base mg p.1 p.2) → MetK l.prog w K mg base 16 "_present_runs" 1 ["self"] [true] S_Store__present_runs := fun base TBs => ⟨C16, f26, _, M_ck16, ⟨a26, i26, k26⟩, ok_Store__present_runs F26 M_ck16, b26⟩
  have F27 := fun_mk (st := s_Level___init__) l27 c27 k27
  have b27 := F27.binds (ps := ["self", "stored", "error"]) fun _ _ _ _ _ _ us hl => match us, hl with | [_, _, _], _ => rfl
  have K_Level : ∀ base : Heap, (∀ p ∈ ([(cL18, PL18)] : List (Addr × Addr)), LamX.TabB base mg p.1 p.2) → Mak l.prog w K mg base 1 8 ["self", "stored", "error"] S_Level___init__ := fun base TBs => ⟨C1, f27, _, _, _, rfl, PySem.W.mg_of X G gC1, ⟨mk1, a27, i27, kc1⟩, ok_Level___init__ F27 M_list M_ck1 M_enumerate (C_cut base TBs) M_ck0, b27⟩
  have F28 := fun_mk (st := s_Level_first_keys) l28 c28 k28
  have b28 := F28.binds (ps := ["self"]) fun _ _ _ _ _ _ us hl => match us, hl with | [_], _ => rfl
  have C_Level_first_keys : ∀ base : Heap, (∀ p ∈ ([(cL18, PL18)] : List (Addr × Addr)), LamX.TabB base mg p.1 p.2) → Met l.prog w K mg base 1 "first_keys" 1 ["self"] S_Level_first_keys := fun base TBs => ⟨C1, f28, _, M_ck1, ⟨a28, i28, k28⟩, ok_Level_first_keys F28 M_ck1, b28⟩
  have F29 := fun_mk (st := s_Index___init__) l29 c29 k29
  have b29 := F29.binds (ps := ["self", "stored", "error", "upper"]) fun _ _ _ _ _ _ us hl => match us, hl with | [_, _, _, _], _ => rfl
  have K_Index : ∀ base : Heap, (∀ p ∈ ([(cL18, PL18)] : List (Addr × Addr)), LamX.TabB base mg p.1 p.2) → Mak l.prog w K mg base 2 10 ["self", "stored", "error", "upper"] S_Index___init__ := fun base TBs => ⟨C2, f29, _, _, _, rfl, PySem.W.mg_of X G gC2, ⟨mk2, a29, i29, kc2⟩, ok_Index___init__ F29 M_list M_ck2 (K_Level base TBs) M_ck1 M_len (C_Level_first_keys base TBs), b29⟩
  have F30 := fun_mk (st := s_Run___init__) l30 c30 k30
  have b30 := F30.binds (ps := ["self", "entries", "error"]) fun _ _ _ _ _ _ us hl => match us, hl with | [_, _, _], _ => rfl
  have K_Run : ∀ base : Heap, (∀ p ∈ ([(cL18, PL18)] : List (Addr × Addr)), LamX.TabB base mg p.1 p.2) → Mak l.prog w K mg base 5 12 ["self", "entries", "error"] S_Run___init__ := fun base TBs => ⟨C5, f30, _, _, _, rfl, PySem.W.mg_of X G gC5, ⟨mk5, a30, i30, kc5⟩, ok_Run___init__ F30 M_list M_ck5 (K_Index base TBs), b30⟩
  have F31 := fun_mk (st := s_Store__flush) l31 c31 k31
  have b31 := F31.binds (ps := ["self"]) fun _ _ _ _ _ _ us hl => match us, hl with | [_], _ => rfl
  have C_Store__flush : ∀ base : Heap, (∀ p ∈ ([(cL18, PL18)] : List (Addr × Addr)), LamX.TabB base mg p.1 p.2) → MetM l.prog w K mg base 16 "_flush" 14 ["self"] S_Store__flush := fun base TBs => ⟨C16, f31, _, _, rfl, M_ck16, ⟨a31, i31, k31⟩, ok_Store__flush F31 M_ck16 M_len M_ck5 M_sum (C_merged base TBs) (C_Store__present_runs base TBs) (C_without_removed base TBs) (K_Run base TBs), b31⟩
  have F32 := fun_mk (st := s_Store_write) l32 c32 k32
  have b32 := F32.binds (ps := ["self", "key", "value"]) fun _ _ _ _ _ _ us hl => match us, hl with | [_, _, _], _ => rfl
  have C_Store_write : ∀ base : Heap, (∀ p ∈ ([(cL18, PL18)] : List (Addr × Addr)), LamX.TabB base mg p.1 p.2) → MetM l.prog w K mg base 16 "write" 15 ["self", "key", "value"] S_Store_write := fun base TBs => ⟨C16, f32, _, _, rfl, M_ck16, ⟨a32, i32, k32⟩, ok_Store_write F32 M_ck16 (C_place_of base TBs) (C_holds base TBs) M_len (C_Store__flush base TBs), b32⟩
  have F33 := fun_mk (st := s_Store_put) l33 c33 k33
  have b33 := F33.binds (ps := ["self", "key", "value"]) fun _ _ _ _ _ _ us hl => match us, hl with | [_, _, _], _ => rfl
  have C_Store_put : ∀ base : Heap, (∀ p ∈ ([(cL18, PL18)] : List (Addr × Addr)), LamX.TabB base mg p.1 p.2) → MetM l.prog w K mg base 16 "put" 16 ["self", "key", "value"] S_Store_put := fun base TBs => ⟨C16, f33, _, _, rfl, M_ck16, ⟨a33, i33, k33⟩, ok_Store_put F33 (C_Store_write base TBs), b33⟩
  have F34 := fun_mk (st := s_Store_remove) l34 c34 k34
  have b34 := F34.binds (ps := ["self", "key"]) fun _ _ _ _ _ _ us hl => match us, hl with | [_, _], _ => rfl
  have C_Store_remove : ∀ base : Heap, (∀ p ∈ ([(cL18, PL18)] : List (Addr × Addr)), LamX.TabB base mg p.1 p.2) → MetM l.prog w K mg base 16 "remove" 16 ["self", "key"] S_Store_remove := fun base TBs => ⟨C16, f34, _, _, rfl, M_ck16, ⟨a34, i34, k34⟩, ok_Store_remove F34 (C_Store_write base TBs), b34⟩
  have F35 := fun_mk (st := s__law_edit) l35 c35 k35
  have b35 := F35.binds (ps := ["store", "edit"]) fun _ _ _ _ _ _ us hl => match us, hl with | [_, _], _ => rfl
  have C__law_edit : ∀ base : Heap, (∀ p ∈ ([(cL18, PL18)] : List (Addr × Addr)), LamX.TabB base mg p.1 p.2) → CalM l.prog w K mg base "_law_edit" 17 ["store", "edit"] S__law_edit := fun base TBs => ⟨f35, _, _, rfl, ok__law_edit F35 (C_Store_remove base TBs) (C_Store_put base TBs), PySem.W.mg_of X G a35, k35, b35⟩
  have F36 := fun_mk (st := s__law_merged) l36 c36 k36
  have b36 := F36.binds (ps := ["newer", "older"]) fun _ _ _ _ _ _ us hl => match us, hl with | [_, _], _ => rfl
  have C__law_merged : ∀ base : Heap, (∀ p ∈ ([(cL18, PL18)] : List (Addr × Addr)), LamX.TabB base mg p.1 p.2) → Cal l.prog w K mg base "_law_merged" 1 ["newer", "older"] S__law_merged := fun base TBs => ⟨f36, _, ok__law_merged F36 M_list M_sorted, PySem.W.mg_of X G a36, k36, b36⟩
  have F37 := fun_mk (st := s__law_flushed) l37 c37 k37
  have b37 := F37.binds (ps := ["model"]) fun _ _ _ _ _ _ us hl => match us, hl with | [_], _ => rfl
  have C__law_flushed : ∀ base : Heap, (∀ p ∈ ([(cL18, PL18)] : List (Addr × Addr)), LamX.TabB base mg p.1 p.2) → Cal l.prog w K mg base "_law_flushed" 2 ["model"] S__law_flushed := fun base TBs => ⟨f37, _, ok__law_flushed F37 M_len M_list M_range (C__law_merged base TBs) M_all, PySem.W.mg_of X G a37, k37, b37⟩
  have F38 := fun_mk (st := s__law_after) l38 c38 k38
  have b38 := F38.binds (ps := ["model", "edit"]) fun _ _ _ _ _ _ us hl => match us, hl with | [_, _], _ => rfl
  have C__law_after : ∀ base : Heap, (∀ p ∈ ([(cL18, PL18)] : List (Addr × Addr)), LamX.TabB base mg p.1 p.2) → Cal l.prog w K mg base "_law_after" 3 ["model", "edit"] S__law_after := fun base TBs => ⟨f38, _, ok__law_after F38 (C__law_merged base TBs) M_len (C__law_flushed base TBs), PySem.W.mg_of X G a38, k38, b38⟩
  have F39 := fun_mk (st := s__law_sizes) l39 c39 k39
  have b39 := F39.binds (ps := ["model"]) fun _ _ _ _ _ _ us hl => match us, hl with | [_], _ => rfl
  have C__law_sizes : ∀ base : Heap, (∀ p ∈ ([(cL18, PL18)] : List (Addr × Addr)), LamX.TabB base mg p.1 p.2) → Cal l.prog w K mg base "_law_sizes" 1 ["model"] S__law_sizes := fun base TBs => ⟨f39, _, ok__law_sizes F39 M_len M_range, PySem.W.mg_of X G a39, k39, b39⟩
  have F40 := fun_mk (st := s_Store___init__) l40 c40 k40
  have b40 := F40.binds (ps := ["self", "capacity", "error"]) fun _ _ _ _ _ _ us hl => match us, hl with | [_, _, _], _ => rfl
  have K_Store : ∀ base : Heap, (∀ p ∈ ([(cL18, PL18)] : List (Addr × Addr)), LamX.TabB base mg p.1 p.2) → Mak l.prog w K mg base 16 1 ["self", "capacity", "error"] S_Store___init__ := fun base TBs => ⟨C16, f40, _, _, _, rfl, PySem.W.mg_of X G gC16, ⟨mk16, a40, i40, kc16⟩, ok_Store___init__ F40 M_ck16, b40⟩
  have F41 := fun_mk (st := s_Store_run_sizes) l41 c41 k41
  have b41 := F41.binds (ps := ["self"]) fun _ _ _ _ _ _ us hl => match us, hl with | [_], _ => rfl
  have C_Store_run_sizes : ∀ base : Heap, (∀ p ∈ ([(cL18, PL18)] : List (Addr × Addr)), LamX.TabB base mg p.1 p.2) → MetKN l.prog w K mg base 16 "run_sizes" 1 ["self"] [true] S_Store_run_sizes := fun base TBs => ⟨C16, f41, _, M_ck16, ⟨a41, i41, k41⟩, ok_Store_run_sizes F41 M_ck16 M_ck5 M_len, b41⟩
  have F42 := fun_mk (st := s_Store_buffered) l42 c42 k42
  have b42 := F42.binds (ps := ["self"]) fun _ _ _ _ _ _ us hl => match us, hl with | [_], _ => rfl
  have C_Store_buffered : ∀ base : Heap, (∀ p ∈ ([(cL18, PL18)] : List (Addr × Addr)), LamX.TabB base mg p.1 p.2) → MetK l.prog w K mg base 16 "buffered" 1 ["self"] [true] S_Store_buffered := fun base TBs => ⟨C16, f42, _, M_ck16, ⟨a42, i42, k42⟩, ok_Store_buffered F42 M_ck16 M_len, b42⟩
  have F43 := fun_mk (st := s_law) l43 c43 k43
  have F44 := fun_mk (st := s_Level_window) l44 c44 k44
  have b44 := F44.binds (ps := ["self", "piece", "x"]) fun _ _ _ _ _ _ us hl => match us, hl with | [_, _, _], _ => rfl
  have C_Level_window : ∀ base : Heap, (∀ p ∈ ([(cL18, PL18)] : List (Addr × Addr)), LamX.TabB base mg p.1 p.2) → Met l.prog w K mg base 1 "window" 2 ["self", "piece", "x"] S_Level_window := fun base TBs => ⟨C1, f44, _, M_ck1, ⟨a44, i44, k44⟩, ok_Level_window F44 M_ck1 M_len (C_ceiling_at base TBs) M_min (C_floor_at base TBs) M_max, b44⟩
  have F45 := fun_mk (st := s_Level_search) l45 c45 k45
  have b45 := F45.binds (ps := ["self", "piece", "x"]) fun _ _ _ _ _ _ us hl => match us, hl with | [_, _, _], _ => rfl
  have C_Level_search : ∀ base : Heap, (∀ p ∈ ([(cL18, PL18)] : List (Addr × Addr)), LamX.TabB base mg p.1 p.2) → Met l.prog w K mg base 1 "search" 3 ["self", "piece", "x"] S_Level_search := fun base TBs => ⟨C1, f45, _, M_ck1, ⟨a45, i45, k45⟩, ok_Level_search F45 (C_Level_window base TBs) M_ck1, b45⟩
  have F46 := fun_mk (st := s_Index_level_keys) l46 c46 k46
  have b46 := F46.binds (ps := ["self"]) fun _ _ _ _ _ _ us hl => match us, hl with | [_], _ => rfl
  have C_Index_level_keys : ∀ base : Heap, (∀ p ∈ ([(cL18, PL18)] : List (Addr × Addr)), LamX.TabB base mg p.1 p.2) → Met l.prog w K mg base 2 "level_keys" 2 ["self"] S_Index_level_keys := fun base TBs => ⟨C2, f46, _, M_ck2, ⟨a46, i46, k46⟩, ok_Index_level_keys F46 (C__wall base TBs), b46⟩
  have F47 := fun_mk (st := s_Index_pieces) l47 c47 k47
  have b47 := F47.binds (ps := ["self"]) fun _ _ _ _ _ _ us hl => match us, hl with | [_], _ => rfl
  have C_Index_pieces : ∀ base : Heap, (∀ p ∈ ([(cL18, PL18)] : List (Addr × Addr)), LamX.TabB base mg p.1 p.2) → Met l.prog w K mg base 2 "pieces" 1 ["self"] S_Index_pieces := fun base TBs => ⟨C2, f47, _, M_ck2, ⟨a47, i47, k47⟩, ok_Index_pieces F47 M_ck2 M_ck1 M_len, b47⟩
  have F48 := fun_mk (st := s_Index_look_up) l48 c48 k48
  have b48 := F48.binds (ps := ["self", "x"]) fun _ _ _ _ _ _ us hl => match us, hl with | [_, _], _ => rfl
  have C_Index_look_up : ∀ base : Heap, (∀ p ∈ ([(cL18, PL18)] : List (Addr × Addr)), LamX.TabB base mg p.1 p.2) → Met l.prog w K mg base 2 "look_up" 4 ["self", "x"] S_Index_look_up := fun base TBs => ⟨C2, f48, _, M_ck2, ⟨a48, i48, k48⟩, ok_Index_look_up F48 M_ck2 M_len M_reversed M_range (C_Level_search base TBs), b48⟩
  have F49 := fun_mk (st := s_Index_rank) l49 c49 k49
  have b49 := F49.binds (ps := ["self", "x"]) fun _ _ _ _ _ _ us hl => match us, hl with | [_, _], _ => rfl
  have C_Index_rank : ∀ base : Heap, (∀ p ∈ ([(cL18, PL18)] : List (Addr × Addr)), LamX.TabB base mg p.1 p.2) → Met l.prog w K mg base 2 "rank" 5 ["self", "x"] S_Index_rank := fun base TBs => ⟨C2, f49, _, M_ck2, ⟨a49, i49, k49⟩, ok_Index_rank F49 (C_Index_look_up base TBs), b49⟩
  have F50 := fun_mk (st := s_Index_key_at) l50 c50 k50
  have b50 := F50.binds (ps := ["self", "index"]) fun _ _ _ _ _ _ us hl => match us, hl with | [_, _], _ => rfl
  have C_Index_key_at : ∀ base : Heap, (∀ p ∈ ([(cL18, PL18)] : List (Addr × Addr)), LamX.TabB base mg p.1 p.2) → Met l.prog w K mg base 2 "key_at" 1 ["self", "index"] S_Index_key_at := fun base TBs => ⟨C2, f50, _, M_ck2, ⟨a50, i50, k50⟩, ok_Index_key_at F50 M_ck2 M_len, b50⟩
  have F51 := fun_mk (st := s_Index_at_most) l51 c51 k51
  have b51 := F51.binds (ps := ["self", "x"]) fun _ _ _ _ _ _ us hl => match us, hl with | [_, _], _ => rfl
  have C_Index_at_most : ∀ base : Heap, (∀ p ∈ ([(cL18, PL18)] : List (Addr × Addr)), LamX.TabB base mg p.1 p.2) → Met l.prog w K mg base 2 "at_most" 6 ["self", "x"] S_Index_at_most := fun base TBs => ⟨C2, f51, _, M_ck2, ⟨a51, i51, k51⟩, ok_Index_at_most F51 (C_Index_rank base TBs) (C_Index_key_at base TBs), b51⟩
  have F52 := fun_mk (st := s_Index_has) l52 c52 k52
  have b52 := F52.binds (ps := ["self", "x"]) fun _ _ _ _ _ _ us hl => match us, hl with | [_, _], _ => rfl
  have C_Index_has : ∀ base : Heap, (∀ p ∈ ([(cL18, PL18)] : List (Addr × Addr)), LamX.TabB base mg p.1 p.2) → Met l.prog w K mg base 2 "has" 7 ["self", "x"] S_Index_has := fun base TBs => ⟨C2, f52, _, M_ck2, ⟨a52, i52, k52⟩, ok_Index_has F52 (C_Index_at_most base TBs), b52⟩
  have F53 := fun_mk (st := s_Index_count) l53 c53 k53
  have b53 := F53.binds (ps := ["self", "a", "b"]) fun _ _ _ _ _ _ us hl => match us, hl with | [_, _, _], _ => rfl
  have C_Index_count : ∀ base : Heap, (∀ p ∈ ([(cL18, PL18)] : List (Addr × Addr)), LamX.TabB base mg p.1 p.2) → Met l.prog w K mg base 2 "count" 6 ["self", "a", "b"] S_Index_count := fun base TBs => ⟨C2, f53, _, M_ck2, ⟨a53, i53, k53⟩, ok_Index_count F53 (C_Index_rank base TBs), b53⟩
  have F54 := fun_mk (st := s_Index_at_least) l54 c54 k54
  have b54 := F54.binds (ps := ["self", "x"]) fun _ _ _ _ _ _ us hl => match us, hl with | [_, _], _ => rfl
  have C_Index_at_least : ∀ base : Heap, (∀ p ∈ ([(cL18, PL18)] : List (Addr × Addr)), LamX.TabB base mg p.1 p.2) → Met l.prog w K mg base 2 "at_least" 2 ["self", "x"] S_Index_at_least := fun base TBs => ⟨C2, f54, _, M_ck2, ⟨a54, i54, k54⟩, ok_Index_at_least F54 (C__wall base TBs), b54⟩
  have F55 := fun_mk (st := s_Run_entry_of) l55 c55 k55
  have b55 := F55.binds (ps := ["self", "key"]) fun _ _ _ _ _ _ us hl => match us, hl with | [_, _], _ => rfl
  have C_Run_entry_of : ∀ base : Heap, (∀ p ∈ ([(cL18, PL18)] : List (Addr × Addr)), LamX.TabB base mg p.1 p.2) → Met l.prog w K mg base 5 "entry_of" 6 ["self", "key"] S_Run_entry_of := fun base TBs => ⟨C5, f55, _, M_ck5, ⟨a55, i55, k55⟩, ok_Run_entry_of F55 M_ck5 (C_Index_rank base TBs), b55⟩
  have F56 := fun_mk (st := s_Run_between) l56 c56 k56
  have b56 := F56.binds (ps := ["self", "a", "b"]) fun _ _ _ _ _ _ us hl => match us, hl with | [_, _, _], _ => rfl
  have C_Run_between : ∀ base : Heap, (∀ p ∈ ([(cL18, PL18)] : List (Addr × Addr)), LamX.TabB base mg p.1 p.2) → Met l.prog w K mg base 5 "between" 6 ["self", "a", "b"] S_Run_between := fun base TBs => ⟨C5, f56, _, M_ck5, ⟨a56, i56, k56⟩, ok_Run_between F56 M_ck5 (C_Index_rank base TBs), b56⟩
  have F57 := fun_mk (st := s_Store_between) l57 c57 k57
  have b57 := F57.binds (ps := ["self", "a", "b"]) fun _ _ _ _ _ _ us hl => match us, hl with | [_, _, _], _ => rfl
  have C_Store_between : ∀ base : Heap, (∀ p ∈ ([(cL18, PL18)] : List (Addr × Addr)), LamX.TabB base mg p.1 p.2) → Met l.prog w K mg base 16 "between" 7 ["self", "a", "b"] S_Store_between := fun base TBs => ⟨C16, f57, _, M_ck16, ⟨a57, i57, k57⟩, ok_Store_between F57 M_ck16 (C_place_of base TBs) (C_Store__present_runs base TBs) (C_Run_between base TBs) (C_merged base TBs) (C_without_removed base TBs), b57⟩
  have F58 := fun_mk (st := s_Store_get) l58 c58 k58
  have b58 := F58.binds (ps := ["self", "key"]) fun _ _ _ _ _ _ us hl => match us, hl with | [_, _], _ => rfl
  have C_Store_get : ∀ base : Heap, (∀ p ∈ ([(cL18, PL18)] : List (Addr × Addr)), LamX.TabB base mg p.1 p.2) → Met l.prog w K mg base 16 "get" 7 ["self", "key"] S_Store_get := fun base TBs => ⟨C16, f58, _, M_ck16, ⟨a58, i58, k58⟩, ok_Store_get F58 M_ck16 (C_place_of base TBs) (C_holds base TBs) (C_Store__present_runs base TBs) (C_Run_entry_of base TBs), b58⟩
  have F59 := fun_mk (st := s_Store_contents) l59 c59 k59
  have b59 := F59.binds (ps := ["self"]) fun _ _ _ _ _ _ us hl => match us, hl with | [_], _ => rfl
  have C_Store_contents : ∀ base : Heap, (∀ p ∈ ([(cL18, PL18)] : List (Addr × Addr)), LamX.TabB base mg p.1 p.2) → Met l.prog w K mg base 16 "contents" 2 ["self"] S_Store_contents := fun base TBs => ⟨C16, f59, _, M_ck16, ⟨a59, i59, k59⟩, ok_Store_contents F59 (C_Store__present_runs base TBs) M_ck5 M_ck16 (C_merged base TBs) (C_without_removed base TBs), b59⟩
  have F60 := fun_mk (st := s_Store_buffer_entries) l60 c60 k60
  have b60 := F60.binds (ps := ["self"]) fun _ _ _ _ _ _ us hl => match us, hl with | [_], _ => rfl
  have C_Store_buffer_entries : ∀ base : Heap, (∀ p ∈ ([(cL18, PL18)] : List (Addr × Addr)), LamX.TabB base mg p.1 p.2) → Met l.prog w K mg base 16 "buffer_entries" 2 ["self"] S_Store_buffer_entries := fun base TBs => ⟨C16, f60, _, M_ck16, ⟨a60, i60, k60⟩, ok_Store_buffer_entries F60 (C__wall base TBs), b60⟩
  have F61 := fun_mk (st := s_Store_level_entries) l61 c61 k61
  have b61 := F61.binds (ps := ["self"]) fun _ _ _ _ _ _ us hl => match us, hl with | [_], _ => rfl
  have C_Store_level_entries : ∀ base : Heap, (∀ p ∈ ([(cL18, PL18)] : List (Addr × Addr)), LamX.TabB base mg p.1 p.2) → Met l.prog w K mg base 16 "level_entries" 2 ["self"] S_Store_level_entries := fun base TBs => ⟨C16, f61, _, M_ck16, ⟨a61, i61, k61⟩, ok_Store_level_entries F61 (C__wall base TBs), b61⟩
  have F62 := fun_mk (st := s_Store_restore) l62 c62 k62
  have b62 := F62.binds (ps := ["self", "edits", "moves", "buffer", "levels"]) fun _ _ _ _ _ _ us hl => match us, hl with | [_, _, _, _, _], _ => rfl
  have C_Store_restore : ∀ base : Heap, (∀ p ∈ ([(cL18, PL18)] : List (Addr × Addr)), LamX.TabB base mg p.1 p.2) → Met l.prog w K mg base 16 "restore" 2 ["self", "edits", "moves", "buffer", "levels"] S_Store_restore := fun base TBs => ⟨C16, f62, _, M_ck16, ⟨a62, i62, k62⟩, ok_Store_restore F62 (C__wall base TBs), b62⟩
  refine ⟨PySem.W.fnOf "law" "law" (defArgs s_law) (defBody s_law) (defScope s_law) .none kV43 dc43 pm43 an43 cd43 ct43, ([(cL18, PL18)] : List (Addr × Addr)), spLawT K ([(PL18, lamQ "cut")] : List (Addr × Str)), ?_, ?_, ?_, fun s v => .of_eq rfl, ?_, fun base _ _ TBs => law_startT ([(PL18, lamQ "cut")] : List (Addr × Str)) (ok_law (P := l.prog) (w := w) (base := base) F43 (C__law_cell base TBs) M_int (K_Store base TBs) M_ck16 (C_Store_buffered base TBs) (C_Store_run_sizes base TBs) (C__law_edits base TBs) (C__law_edit base TBs) (C__law_after base TBs) (C__law_sizes base TBs) M_len) law_true⟩
  · intro p hp
    simp only [List.mem_cons, List.not_mem_nil, or_false] at hp
    rcases hp with rfl
    · exact t018
  · intro p hp
    simp only [List.mem_cons, List.not_mem_nil, or_false] at hp
    rcases hp with rfl
    · exact nk18
  · intro p hp
    simp only [List.mem_cons, List.not_mem_nil, or_false] at hp
    rcases hp with rfl
    · exact PySem.W.codeHd_of_K X hc18
  · intro H a ns hl _ hT hS
    refine ⟨a, ns, rfl, hS, hl, fun p hp => ?_, fun _ => rfl⟩
    simp only [List.mem_cons, List.not_mem_nil, or_false] at hp
    rcases hp with rfl
    · exact hT (cL18, PL18) (by simp)
end K41
open PySem PySem.W PyProof.Rows
set_option maxHeartbeats 0 in
theorem PySem.Challenge.cw_fewestlines_k41_runs_of_a_store_holds : PySem.Challenge.rw_fewestlines_k41_runs_of_a_store.Holds := by
  w_on; o_law; k_head; (case hw => w_witness2)
  k_fill
  refine LamX.walk_ofTs (l := PySem.Challenge.rw_fewestlines_k41_runs_of_a_store) (n := 63) (k := 18) (x := "script") (CX := fun _ => L2.CX0) rfl (by decide) rfl ⟨rfl, by decide, by decide⟩ (fun w h Y => PySem.W.km_in_of Y) ?F (fun _ _ _ _ _ h => h)
  case F =>
    intro w mg fa h Y KX G hmg
    have hT8 := PySem.W.km_tabs_of Y
    refine' K41.all_mk KX G hmg ?gC0 ?pg0 ?hd0 ?po0 ?sa0 ?nf0_0 ?nf0_1 ?mk0 ?kc0 ?gC1 ?pg1 ?hd1 ?po1 ?sa1 ?nf1_0 ?nf1_1 ?nf1_2 ?mk1 ?kc1 ?gC2 ?pg2 ?hd2 ?po2 ?sa2 ?nf2_0 ?nf2_1 ?mk2 ?kc2 ?gC4 ?pg4 ?hd4 ?po4 ?sa4 ?nf4_0 ?nf4_1 ?nf4_2 ?mk4 ?kc4 ?gC5 ?pg5 ?hd5 ?po5 ?sa5 ?nf5_0 ?nf5_1 ?mk5 ?kc5 ?gC16 ?pg16 ?hd16 ?po16 ?sa16 ?nf16_0 ?nf16_1 ?nf16_2 ?nf16_3 ?nf16_4 ?nf16_5 ?mk16 ?kc16 ?a1 ?l1 ?c1 ?k1 ?a2 ?l2 ?c2 ?k2 ?a3 ?l3 ?c3 ?k3 ?a4 ?l4 ?c4 ?k4 ?a5 ?l5 ?c5 ?k5 ?a6 ?l6 ?c6 ?k6 ?a7 ?l7 ?c7 ?k7 ?a8 ?l8 ?c8 ?k8 ?a9 ?l9 ?c9 ?k9 ?a10 ?l10 ?c10 ?k10 ?a11 ?i11 ?l11 ?c11 ?k11 ?a12 ?i12 ?l12 ?c12 ?k12 ?a13 ?i13 ?l13 ?c13 ?k13 ?a14 ?i14 ?l14 ?c14 ?k14 ?a15 ?l15 ?c15 ?k15 ?a16 ?l16 ?c16 ?k16 ?a17 ?i17 ?l17 ?c17 ?k17 ?a18 ?l18 ?c18 ?k18 ?e18 ?lc18 ?vp18 ?t018 ?nk18 ?hc18 ?a19 ?l19 ?c19 ?k19 ?a20 ?l20 ?c20 ?k20 ?a21 ?l21 ?c21 ?k21 ?a22 ?l22 ?c22 ?k22 ?a23 ?l23 ?c23 ?k23 ?a24 ?l24 ?c24 ?k24 ?a25 ?l25 ?c25 ?k25 ?a26 ?i26 ?l26 ?c26 ?k26 ?a27 ?i27 ?l27 ?c27 ?k27 ?a28 ?i28 ?l28 ?c28 ?k28 ?a29 ?i29 ?l29 ?c29 ?k29 ?a30 ?i30 ?l30 ?c30 ?k30 ?a31 ?i31 ?l31 ?c31 ?k31 ?a32 ?i32 ?l32 ?c32 ?k32 ?a33 ?i33 ?l33 ?c33 ?k33 ?a34 ?i34 ?l34 ?c34 ?k34 ?a35 ?l35 ?c35 ?k35 ?a36 ?l36 ?c36 ?k36 ?a37 ?l37 ?c37 ?k37 ?a38 ?l38 ?c38 ?k38 ?a39 ?l39 ?c39 ?k39 ?a40 ?i40 ?l40 ?c40 ?k40 ?a41 ?i41 ?l41 ?c41 ?k41 ?a42 ?i42 ?l42 ?c42 ?k42 ?a43 ?l43 ?c43 ?k43 ?a44 ?i44 ?l44 ?c44 ?k44 ?a45 ?i45 ?l45 ?c45 ?k45 ?a46 ?i46 ?l46 ?c46 ?k46 ?a47 ?i47 ?l47 ?c47 ?k47 ?a48 ?i48 ?l48 ?c48 ?k48 ?a49 ?i49 ?l49 ?c49 ?k49 ?a50 ?i50 ?l50 ?c50 ?k50 ?a51 ?i51 ?l51 ?c51 ?k51 ?a52 ?i52 ?l52 ?c52 ?k52 ?a53 ?i53 ?l53 ?c53 ?k53 ?a54 ?i54 ?l54 ?c54 ?k54 ?a55 ?i55 ?l55 ?c55 ?k55 ?a56 ?i56 ?l56 ?c56 ?k56 ?a57 ?i57 ?l57 ?c57 ?k57 ?a58 ?i58 ?l58 ?c58 ?k58 ?a59 ?i59 ?l59 ?c59 ?k59 ?a60 ?i60 ?l60 ?c60 ?k60 ?a61 ?i61 ?l61 ?c61 ?k61 ?a62 ?i62 ?l62 ?c62 ?k62 ?z_len ?z_gcd ?z_range ?z_list ?z_sorted ?z_int ?z_enumerate ?z_sum ?z_all ?z_min ?z_max ?z_reversed ?ndT
    (case gC0 => k_is); (case pg0 => k_is); (case hd0 => k_is); (case po0 => k_is); (case sa0 => k_is); (case nf0_0 => k_is); (case nf0_1 => k_is); (case mk0 => k_is); (case kc0 => k_is); (case gC1 => k_is); (case pg1 => k_is); (case hd1 => k_is); (case po1 => k_is); (case sa1 => k_is); (case nf1_0 => k_is); (case nf1_1 => k_is); (case nf1_2 => k_is); (case mk1 => k_is); (case kc1 => k_is); (case gC2 => k_is); (case pg2 => k_is); (case hd2 => k_is); (case po2 => k_is); (case sa2 => k_is); (case nf2_0 => k_is); (case nf2_1 => k_is); (case mk2 => k_is); (case kc2 => k_is); (case gC4 => k_is); (case pg4 => k_is); (case hd4 => k_is); (case po4 => k_is); (case sa4 => k_is); (case nf4_0 => k_is); (case nf4_1 => k_is); (case nf4_2 => k_is); (case mk4 => k_is); (case kc4 => k_is); (case gC5 => k_is); (case pg5 => k_is); (case hd5 => k_is); (case po5 => k_is); (case sa5 => k_is); (case nf5_0 => k_is); (case nf5_1 => k_is); (case mk5 => k_is); (case kc5 => k_is); (case gC16 => k_is); (case pg16 => k_is); (case hd16 => k_is); (case po16 => k_is); (case sa16 => k_is); (case nf16_0 => k_is); (case nf16_1 => k_is); (case nf16_2 => k_is); (case nf16_3 => k_is); (case nf16_4 => k_is); (case nf16_5 => k_is); (case mk16 => k_is); (case kc16 => k_is); (case a1 => k_is); (case l1 => k_is); (case c1 => k_is); (case k1 => k_is); (case a2 => k_is); (case l2 => k_is); (case c2 => k_is); (case k2 => k_is); (case a3 => k_is); (case l3 => k_is); (case c3 => k_is); (case k3 => k_is); (case a4 => k_is); (case l4 => k_is); (case c4 => k_is); (case k4 => k_is); (case a5 => k_is); (case l5 => k_is); (case c5 => k_is); (case k5 => k_is); (case a6 => k_is); (case l6 => k_is); (case c6 => k_is); (case k6 => k_is); (case a7 => k_is); (case l7 => k_is); (case c7 => k_is); (case k7 => k_is); (case a8 => k_is); (case l8 => k_is); (case c8 => k_is); (case k8 => k_is); (case a9 => k_is); (case l9 => k_is); (case c9 => k_is); (case k9 => k_is); (case a10 => k_is); (case l10 => k_is); (case c10 => k_is); (case k10 => k_is); (case a11 => k_is); (case i11 => k_is); (case l11 => k_is); (case c11 => k_is); (case k11 => k_is); (case a12 => k_is); (case i12 => k_is); (case l12 => k_is); (case c12 => k_is); (case k12 => k_is); (case a13 => k_is); (case i13 => k_is); (case l13 => k_is); (case c13 => k_is); (case k13 => k_is); (case a14 => k_is); (case i14 => k_is); (case l14 => k_is); (case c14 => k_is); (case k14 => k_is); (case a15 => k_is); (case l15 => k_is); (case c15 => k_is); (case k15 => k_is); (case a16 => k_is); (case l16 => k_is); (case c16 => k_is); (case k16 => k_is); (case a17 => k_is); (case i17 => k_is); (case l17 => k_is); (case c17 => k_is); (case k17 => k_is); (case a18 => k_is); (case l18 => k_is); (case c18 => k_is); (case k18 => k_is); (case e18 => rfl); (case lc18 => k_is); (case vp18 => rfl); (case t018 => exact hT8 _ (by k_mem)); (case nk18 => kernel_rfl); (case hc18 => kernel_rfl); (case a19 => k_is); (case l19 => k_is); (case c19 => k_is); (case k19 => k_is); (case a20 => k_is); (case l20 => k_is); (case c20 => k_is); (case k20 => k_is); (case a21 => k_is); (case l21 => k_is); (case c21 => k_is); (case k21 => k_is); (case a22 => k_is); (case l22 => k_is); (case c22 => k_is); (case k22 => k_is); (case a23 => k_is); (case l23 => k_is); (case c23 => k_is); (case k23 => k_is); (case a24 => k_is); (case l24 => k_is); (case c24 => k_is); (case k24 => k_is); (case a25 => k_is); (case l25 => k_is); (case c25 => k_is); (case k25 => k_is); (case a26 => k_is); (case i26 => k_is); (case l26 => k_is); (case c26 => k_is); (case k26 => k_is); (case a27 => k_is); (case i27 => k_is); (case l27 => k_is); (case c27 => k_is); (case k27 => k_is); (case a28 => k_is); (case i28 => k_is); (case l28 => k_is); (case c28 => k_is); (case k28 => k_is); (case a29 => k_is); (case i29 => k_is); (case l29 => k_is); (case c29 => k_is); (case k29 => k_is); (case a30 => k_is); (case i30 => k_is); (case l30 => k_is); (case c30 => k_is); (case k30 => k_is); (case a31 => k_is); (case i31 => k_is); (case l31 => k_is); (case c31 => k_is); (case k31 => k_is); (case a32 => k_is); (case i32 => k_is); (case l32 => k_is); (case c32 => k_is); (case k32 => k_is); (case a33 => k_is); (case i33 => k_is); (case l33 => k_is); (case c33 => k_is); (case k33 => k_is); (case a34 => k_is); (case i34 => k_is); (case l34 => k_is); (case c34 => k_is); (case k34 => k_is); (case a35 => k_is); (case l35 => k_is); (case c35 => k_is); (case k35 => k_is); (case a36 => k_is); (case l36 => k_is); (case c36 => k_is); (case k36 => k_is); (case a37 => k_is); (case l37 => k_is); (case c37 => k_is); (case k37 => k_is); (case a38 => k_is); (case l38 => k_is); (case c38 => k_is); (case k38 => k_is); (case a39 => k_is); (case l39 => k_is); (case c39 => k_is); (case k39 => k_is); (case a40 => k_is); (case i40 => k_is); (case l40 => k_is); (case c40 => k_is); (case k40 => k_is); (case a41 => k_is); (case i41 => k_is); (case l41 => k_is); (case c41 => k_is); (case k41 => k_is); (case a42 => k_is); (case i42 => k_is); (case l42 => k_is); (case c42 => k_is); (case k42 => k_is); (case a43 => k_is); (case l43 => k_is); (case c43 => k_is); (case k43 => k_is); (case a44 => k_is); (case i44 => k_is); (case l44 => k_is); (case c44 => k_is); (case k44 => k_is); (case a45 => k_is); (case i45 => k_is); (case l45 => k_is); (case c45 => k_is); (case k45 => k_is); (case a46 => k_is); (case i46 => k_is); (case l46 => k_is); (case c46 => k_is); (case k46 => k_is); (case a47 => k_is); (case i47 => k_is); (case l47 => k_is); (case c47 => k_is); (case k47 => k_is); (case a48 => k_is); (case i48 => k_is); (case l48 => k_is); (case c48 => k_is); (case k48 => k_is); (case a49 => k_is); (case i49 => k_is); (case l49 => k_is); (case c49 => k_is); (case k49 => k_is); (case a50 => k_is); (case i50 => k_is); (case l50 => k_is); (case c50 => k_is); (case k50 => k_is); (case a51 => k_is); (case i51 => k_is); (case l51 => k_is); (case c51 => k_is); (case k51 => k_is); (case a52 => k_is); (case i52 => k_is); (case l52 => k_is); (case c52 => k_is); (case k52 => k_is); (case a53 => k_is); (case i53 => k_is); (case l53 => k_is); (case c53 => k_is); (case k53 => k_is); (case a54 => k_is); (case i54 => k_is); (case l54 => k_is); (case c54 => k_is); (case k54 => k_is); (case a55 => k_is); (case i55 => k_is); (case l55 => k_is); (case c55 => k_is); (case k55 => k_is); (case a56 => k_is); (case i56 => k_is); (case l56 => k_is); (case c56 => k_is); (case k56 => k_is); (case a57 => k_is); (case i57 => k_is); (case l57 => k_is); (case c57 => k_is); (case k57 => k_is); (case a58 => k_is); (case i58 => k_is); (case l58 => k_is); (case c58 => k_is); (case k58 => k_is); (case a59 => k_is); (case i59 => k_is); (case l59 => k_is); (case c59 => k_is); (case k59 => k_is); (case a60 => k_is); (case i60 => k_is); (case l60 => k_is); (case c60 => k_is); (case k60 => k_is); (case a61 => k_is); (case i61 => k_is); (case l61 => k_is); (case c61 => k_is); (case k61 => k_is); (case a62 => k_is); (case i62 => k_is); (case l62 => k_is); (case c62 => k_is); (case k62 => k_is); (case z_len => k_is); (case z_gcd => k_is); (case z_range => k_is); (case z_list => k_is); (case z_sorted => k_is); (case z_int => k_is); (case z_enumerate => k_is); (case z_sum => k_is); (case z_all => k_is); (case z_min => k_is); (case z_max => k_is); (case z_reversed => k_is); (case ndT => decide)


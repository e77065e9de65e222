import PyProof.Rows.All
import Wide.All
import OpenK.AllK
import Wide.FinOn
import HandS.ForMost
import HandS.IsInst
import HandS.Gcd
import HandS.Wide
import HandS.Style
import HandS.SortInts
import HandS.RevRange
import HandS.Conv
import HandS.Lambda
import HandS.Exc
import HandS.Flow
import KE.GoesMore
import HandS.More
import HandS.OwnIter
import HandS.Iter
import KE.KDictZip
import PyProof.AssignAttr
import HandS.Deep
import HandS.Text
import HandS.FStr
import HandS.StrMore
import KE.IntTextLaws
import HandS.NoneIn
import KE.KSuper
import KE.KExcSuper
import HandS.ExcInit
import HandS.ExcField
import HandS.ExcSuper
import KE.KTryMore
import HandS.TryOnly
import KE.KExcIs
import PyProof.StrBlock2
import PySem.Challenge.RW_fewestlines_k37_first_wrong_line_of_a_cu
set_option Elab.async false
set_option linter.all false
set_option maxRecDepth 100000
set_option maxHeartbeats 4000000
namespace DL
open PySem L2

/-! ### data, and how a value holds it -/
inductive D where
  | non | bl (b : Bool) | int (i : Int) | str (x : Str)
  | lst (xs : List D) | tup (xs : List D) | scr (ns : List Int)
  | obj (c : Nat) (vs : List D) | fn (a c : Addr) (q : Str) (vs : List V) (ds : List D) | dic (ks : List Key) (xs : List D) | lls (xs : List D) | exc (a dx : Addr) (n : Int)

/-- the program's classes: names, fields in the order in which __init__ sets them -/
def cTab : List (Str × List Str) := [("Cutting", ["pieces", "reasons"]), ("Level", ["stored", "error", "pieces"]), ("Index", ["stored", "_levels"]), ("Fitter", ["error", "count", "_strip"]), ("Strip", ["_upper", "_lower", "_greatest"]), ("Run", ["entries", "_index"]), ("FlatCutting", ["pieces", "reasons"]), ("SpanCutting", ["pieces", "reasons"]), ("LeastSlope", ["_chain", "bound"]), ("Bundle", ["count", "_first", "_least", "_greatest"]), ("Stream", ["error", "length", "_closed", "_start", "_bundle"]), ("Plan", ["pieces", "reaches", "prices"]), ("Coded", ["pieces", "corrections"]), ("Outline", ["error", "length", "pieces"]), ("Row", ["errors", "_strip"]), ("Reaches", ["_points", "_rows"]), ("Store", ["capacity", "error", "moves", "edits", "_buffer", "_runs"]), ("Starts", ["_row", "_waiting", "_passed"]), ("InvalidPaper", ["line"]), ("Cursor", ["_pairs"]), ("View", ["edits", "_values"]), ("PlainStore", ["_values"]), ("Paper", ["_lines", "number"]), ("Durable", ["store", "base", "journal", "synced", "_serial"]), ("Boxes", ["_bits", "_points", "_index"])]
def cN (c : Nat) : Str := (cTab.getD c ("", [])).1
def cF (c : Nat) : List Str := (cTab.getD c ("", [])).2
theorem sqt_same {K : PySem.W.Frag} {H H' : Hp} {a : Addr} {xs : List V} (e : Same H H') (h : SqT K H a xs) : SqT K H' a xs := by
  rcases h with (h | ⟨o, h⟩) | h
  · exact .inl (.inl (e _ _ h))
  · exact .inl (.inr ⟨o, e _ _ h⟩)
  · exact .inr h
mutual
inductive Rep (K : PySem.W.Frag) (mg : Str → Option Value) (G : Hp) : V → D → Prop
  | non : Rep K mg G .non .non
  | bl (b : Bool) : Rep K mg G (.bl b) (.bl b)
  | int (i : Int) : Rep K mg G (.int i) (.int i)
  | str (x : Str) : Rep K mg G (.str x) (.str x)
  | lst {a : Addr} {vs : List V} {xs : List D} (h : G a = some (.lst vs)) (r : RepL K mg G vs xs) : Rep K mg G (.ref a) (.lst xs)
  | tup {a : Addr} {vs : List V} {xs : List D} (h : SqT K G a vs) (r : RepL K mg G vs xs) : Rep K mg G (.ref a) (.tup xs)
  | scr {a : Addr} {ns : List Int} (h : SqL K G a (ns.map V.int)) : Rep K mg G (.ref a) (.scr ns)
  | obj {a C dx : Addr} {c : Nat} {vs : List V} {ds : List D} (hm : mg (cN c) = some (.ref C)) (h : G a = some (.ins C dx ((cF c).zip vs))) (r : RepL K mg G vs ds) : Rep K mg G (.ref a) (.obj c ds)
  | fn {a c : Addr} {q : Str} {vs : List V} {ds : List D} (hc : G c = some (LamX.CodeO c q)) (r : RepL K mg G vs ds) : Rep K mg G (.ref a) (.fn a c q vs ds)
  | dic {a : Addr} {ks : List Key} {vs : List V} {xs : List D} (h : G a = some (.dK (ks.zip vs))) (l : ks.length = vs.length) (r : RepL K mg G vs xs) : Rep K mg G (.ref a) (.dic ks xs)
  | lls {a : Addr} {vs : List V} {xs : List D} (h : G a = some (.lst vs)) (r : RepL K mg G vs xs) : Rep K mg G (.ref a) (.lls xs)
  | exc {a dx : Addr} {n : Int} (h : G dx = some (.xd [("line", .int n)])) : Rep K mg G (.ref a) (.exc a dx n)
inductive RepL (K : PySem.W.Frag) (mg : Str → Option Value) (G : Hp) : List V → List D → Prop
  | nil : RepL K mg G [] []
  | cons {v : V} {vs : List V} {d : D} {ds : List D} (h : Rep K mg G v d) (r : RepL K mg G vs ds) : RepL K mg G (v :: vs) (d :: ds)
end

section
variable {K : PySem.W.Frag} {mg : Str → Option Value} {G G' : Hp}
mutual
theorem Rep.mono (e : Same G G') : ∀ {v : V} {d : D}, Rep K mg G v d → Rep K mg G' v d
  | _, _, .non => .non
  | _, _, .bl b => .bl b
  | _, _, .int i => .int i
  | _, _, .str x => .str x
  | _, _, .lst h r => .lst (e _ _ h) (RepL.mono e r)
  | _, _, .tup h r => .tup (sqt_same e h) (RepL.mono e r)
  | _, _, .scr h => .scr (e.seq h)
  | _, _, .obj hm h r => .obj hm (e _ _ h) (RepL.mono e r)
  | _, _, .fn hc r => .fn (e _ _ hc) (RepL.mono e r)
  | _, _, .dic h l r => .dic (e _ _ h) l (RepL.mono e r)
  | _, _, .lls h r => .lls (e _ _ h) (RepL.mono e r)
  | _, _, .exc h => .exc (e _ _ h)
theorem RepL.mono (e : Same G G') : ∀ {v : List V} {d : List D}, RepL K mg G v d → RepL K mg G' v d
  | _, _, .nil => .nil
  | _, _, .cons h r => .cons (Rep.mono e h) (RepL.mono e r)
end
theorem RepL.length : ∀ {vs : List V} {ds : List D}, RepL K mg G vs ds → vs.length = ds.length
  | _, _, .nil => rfl
  | _, _, .cons _ r => by simp [RepL.length r]
theorem RepL.get : ∀ {vs : List V} {ds : List D} (i : Nat) {d : D}, RepL K mg G vs ds → ds[i]? = some d → ∃ v, vs[i]? = some v ∧ Rep K mg G v d
  | _, _, _, _, .nil, h => by simp at h
  | _, _, 0, _, .cons h _, e => by simp at e; subst e; exact ⟨_, rfl, h⟩
  | _, _, i + 1, _, .cons _ r, e => by
    obtain ⟨v, h1, h2⟩ := RepL.get i r (by simpa using e)
    exact ⟨v, by simpa using h1, h2⟩
theorem RepL.append : ∀ {vs ws : List V} {ds es : List D}, RepL K mg G vs ds → RepL K mg G ws es → RepL K mg G (vs ++ ws) (ds ++ es)
  | _, _, _, _, .nil, s => s
  | _, _, _, _, .cons h r, s => .cons h (r.append s)
theorem RepL.take : ∀ (n : Nat) {vs : List V} {ds : List D}, RepL K mg G vs ds → RepL K mg G (vs.take n) (ds.take n)
  | 0, _, _, _ => by simp; exact .nil
  | _ + 1, _, _, .nil => .nil
  | n + 1, _, _, .cons h r => .cons h (r.take n)
theorem RepL.drop : ∀ (n : Nat) {vs : List V} {ds : List D}, RepL K mg G vs ds → RepL K mg G (vs.drop n) (ds.drop n)
  | 0, _, _, r => r
  | _ + 1, _, _, .nil => .nil
  | n + 1, _, _, .cons _ r => r.drop n
theorem RepL.set : ∀ (i : Nat) {vs : List V} {ds : List D} {v : V} {d : D}, RepL K mg G vs ds → Rep K mg G v d → RepL K mg G (vs.set i v) (ds.set i d)
  | _, _, _, _, _, .nil, _ => .nil
  | 0, _, _, _, _, .cons _ r, h => .cons h r
  | i + 1, _, _, _, _, .cons h r, q => .cons h (r.set i q)
theorem RepL.reverse : ∀ {vs : List V} {ds : List D}, RepL K mg G vs ds → RepL K mg G vs.reverse ds.reverse
  | _, _, .nil => .nil
  | _, _, .cons h r => by
    rw [List.reverse_cons, List.reverse_cons]
    exact r.reverse.append (.cons h .nil)
theorem RepL.ints : ∀ {ns : List Int} {vs : List V}, RepL K mg G vs (ns.map D.int) → vs = ns.map V.int
  | [], _, r => by cases r; rfl
  | n :: ns, _, r => by
    cases r with
    | cons h r => cases h; rw [RepL.ints r]; rfl
theorem RepL.ofInts : ∀ {ns : List Int}, RepL K mg G (ns.map V.int) (ns.map D.int)
  | [] => .nil
  | n :: ns => .cons (.int n) RepL.ofInts
theorem RepL.bls : ∀ {ns : List Bool} {vs : List V}, RepL K mg G vs (ns.map D.bl) → vs = ns.map V.bl
  | [], _, r => by cases r; rfl
  | n :: ns, _, r => by
    cases r with
    | cons h r => cases h; rw [RepL.bls r]; rfl
end

/-! what is looked at: a datum, or a list or an object of somebody's own -/
/-- no table of code objects -/
def NT (o : HO) : Prop := ∀ ps, o ≠ .tbl ps
def SameN (H H' : Hp) : Prop := ∀ a o, H a = some o → NT o → H' a = some o
theorem same_n {H H' : Hp} (e : Same H H') : SameN H H' := fun a o q _ => e a o q
theorem SameN.trans {H H1 H2 : Hp} (a : SameN H H1) (b : SameN H1 H2) : SameN H H2 := fun x o q n => b x o (a x o q n) n
mutual
inductive RepB (K : PySem.W.Frag) (mg : Str → Option Value) (G H : Hp) : V → D → Prop
  | sh {v : V} {d : D} (h : Rep K mg G v d) : RepB K mg G H v d
  | li {p : Addr} {vs : List V} {xs : List D} (h : H p = some (.lst vs)) (r : RepL K mg G vs xs) : RepB K mg G H (.ref p) (.lst xs)
  | obj {p C dx : Addr} {c : Nat} {vs : List V} {ds : List D} (hm : mg (cN c) = some (.ref C)) (h : H p = some (.ins C dx ((cF c).zip vs))) (r : RepBL K mg G H vs ds) : RepB K mg G H (.ref p) (.obj c ds)
  | dic {p : Addr} {ks : List Key} {vs : List V} {xs : List D} (h : H p = some (.dK (ks.zip vs))) (l : ks.length = vs.length) (r : RepL K mg G vs xs) : RepB K mg G H (.ref p) (.dic ks xs)
  | lls {p : Addr} {vs : List V} {xs : List D} (h : H p = some (.lst vs)) (r : RepBL K mg G H vs xs) : RepB K mg G H (.ref p) (.lls xs)
inductive RepBL (K : PySem.W.Frag) (mg : Str → Option Value) (G H : Hp) : List V → List D → Prop
  | nil : RepBL K mg G H [] []
  | cons {v : V} {vs : List V} {d : D} {ds : List D} (h : RepB K mg G H v d) (r : RepBL K mg G H vs ds) : RepBL K mg G H (v :: vs) (d :: ds)
end
section
variable {K : PySem.W.Frag} {mg : Str → Option Value} {G G' H H' : Hp}
mutual
theorem RepB.mono (g : Same G G') (k : SameN H H') : ∀ {v : V} {d : D}, RepB K mg G H v d → RepB K mg G' H' v d
  | _, _, .sh h => .sh (h.mono g)
  | _, _, .li h r => .li (k _ _ h nofun) (r.mono g)
  | _, _, .obj hm h r => .obj hm (k _ _ h nofun) (RepBL.mono g k r)
  | _, _, .dic h l r => .dic (k _ _ h nofun) l (r.mono g)
  | _, _, .lls h r => .lls (k _ _ h nofun) (RepBL.mono g k r)
theorem RepBL.mono (g : Same G G') (k : SameN H H') : ∀ {v : List V} {d : List D}, RepBL K mg G H v d → RepBL K mg G' H' v d
  | _, _, .nil => .nil
  | _, _, .cons h r => .cons (RepB.mono g k h) (RepBL.mono g k r)
end
theorem RepBL.length : ∀ {vs : List V} {ds : List D}, RepBL K mg G H vs ds → vs.length = ds.length
  | _, _, .nil => rfl
  | _, _, .cons _ r => by simp [RepBL.length r]
theorem RepBL.get : ∀ {vs : List V} {ds : List D} (i : Nat) {d : D}, RepBL K mg G H vs ds → ds[i]? = some d → ∃ v, vs[i]? = some v ∧ RepB K mg G H v d
  | _, _, _, _, .nil, h => by simp at h
  | _, _, 0, _, .cons h _, e => by simp at e; subst e; exact ⟨_, rfl, h⟩
  | _, _, i + 1, _, .cons _ r, e => by
    obtain ⟨v, h1, h2⟩ := RepBL.get i r (by simpa using e)
    exact ⟨v, by simpa using h1, h2⟩
theorem RepL.bo : ∀ {vs : List V} {ds : List D}, RepL K mg G vs ds → RepBL K mg G H vs ds
  | _, _, .nil => .nil
  | _, _, .cons h r => .cons (.sh h) r.bo
end

theorem nn {H H' : Hp} (e : Same H H') {a : Addr} (h : H a ≠ Option.none) : H' a ≠ Option.none := by
  cases q : H a with
  | none => exact absurd q h
  | some o => rw [e a o q]; simp
theorem same_at {H H' : Hp} (e : Same H H') {a : Addr} (h : H a ≠ Option.none) : H' a = H a := by
  cases q : H a with
  | none => exact absurd q h
  | some o => rw [e a o q]
/-- a list, an instance, a dict -/
def LID (o : HO) : Prop := (∃ vs, o = .lst vs) ∨ (∃ C dx fs, o = .ins C dx fs) ∨ ∃ kvs, o = .dK kvs
/-- what is known of tables: it outlasts all that leaves them as they are -/
structure TabI where
  tz : Addr → Prop
  t : Hp → Hp → Prop
  keep : ∀ {G H G' H' : Hp}, t G H → Same G G' → (∀ a, tz a → H' a = H a) → (∀ a, tz a → G a = Option.none → G' a = Option.none) → t G' H'
  live : ∀ {G H : Hp}, t G H → ∀ a, tz a → H a ≠ Option.none ∧ G a = Option.none
  tbl : ∀ {G H : Hp}, t G H → ∀ a, tz a → ∃ ps, H a = some (.tbl ps)
  less : ∀ {G G' H : Hp}, t G H → (∀ a o, G' a = some o → G a = some o) → (∀ a o, G a = some o → G' a = some o ∨ LID o) → t G' H
def TabI.none : TabI := ⟨fun _ => False, fun _ _ => True, fun _ _ _ _ => trivial, fun _ _ h => h.elim, fun _ _ h => h.elim, fun _ _ _ => trivial⟩
/-- the tables that a program is about -/
class TabCtx where
  ti : TabI
instance (priority := low) TabCtx.none : TabCtx := ⟨TabI.none⟩
variable [TC : TabCtx]
/-! ### how heaps grow: G what is known and stays, H all that is tracked -/
structure Ext [TC : TabCtx] (G H G' H' : Hp) : Prop where
  gg : Same G G'
  hh : SameN H H'
  gh : Same G' H'
  new : ∀ a, G' a ≠ none → G a ≠ none ∨ H a = none
  hn : ∀ a, H a ≠ none → H' a ≠ none
  tb : TC.ti.t G H → TC.ti.t G' H'
theorem Ext.hf {G H G' H' : Hp} (e : Ext G H G' H') {a : Addr} (h : H' a = none) : H a = none := by
  cases q : H a with
  | none => rfl
  | some o => exact absurd h (e.hn a (by rw [q]; simp))
theorem Ext.same {G H G' H' : Hp} (gg : Same G G') (hh : Same H H') (gh : Same G' H') (new : ∀ a, G' a ≠ none → G a ≠ none ∨ H a = none) : Ext G H G' H' :=
  ⟨gg, same_n hh, gh, new, fun _ h => nn hh h, fun t => TC.ti.keep t gg (fun a h => same_at hh (TC.ti.live t a h).1) (fun a h g => by
    cases q : G' a with
    | none => rfl
    | some u =>
      rcases new a (by rw [q]; simp) with z | z
      · exact absurd g z
      · exact absurd z (TC.ti.live t a h).1)⟩
theorem Ext.refl {G H : Hp} (h : Same G H) : Ext G H G H := Ext.same (Same.refl _) (Same.refl _) h fun _ h => .inl h
theorem Ext.trans {G H G1 H1 G2 H2 : Hp} (a : Ext G H G1 H1) (b : Ext G1 H1 G2 H2) : Ext G H G2 H2 :=
  ⟨a.gg.trans b.gg, a.hh.trans b.hh, b.gh, fun x h => by
    rcases b.new x h with h | h
    · exact a.new x h
    · exact .inr (a.hf h), fun x h => b.hn x (a.hn x h), fun t => b.tb (a.tb t)⟩
theorem same_upd {H : Hp} {p : Addr} {o : HO} (h : H p = none) : Same H (upd H p o) := fun b x e => by
  rw [upd_ne (ne_of_none e h)]
  exact e
theorem same_upd2 {G H : Hp} {p : Addr} {o : HO} (e : Same G H) : Same (upd G p o) (upd H p o) := fun b x h => by
  by_cases q : b = p
  · subst q; rw [upd_same] at h ⊢; exact h
  · rw [upd_ne q] at h ⊢; exact e _ _ h
/-- a new object, known from now on -/
theorem Ext.new1 {G H : Hp} {p : Addr} {o : HO} (gh : Same G H) (h : H p = none) : Ext G H (upd G p o) (upd H p o) :=
  Ext.same (same_upd (gh.free h)) (same_upd h) (same_upd2 gh) fun a q => by
    by_cases e : a = p
    · subst e; exact .inr h
    · rw [upd_ne e] at q; exact .inl q
/-- a new object that is kept for oneself -/
theorem Ext.own1 {G H : Hp} {p : Addr} {o : HO} (gh : Same G H) (h : H p = none) : Ext G H G (upd H p o) :=
  Ext.same (Same.refl _) (same_upd h) (fun a x q => by rw [upd_ne (ne_of_none (gh a x q) h)]; exact gh a x q) fun a q => .inl q

/-- a new object of one's own is given away -/
theorem Ext.frz1 {G H G1 H1 : Hp} {p : Addr} {o : HO} (x : Ext G H G1 H1) (hp : H p = none) (gp : G1 p = none) (h : H1 p = some o) : Ext G H (upd G1 p o) H1 :=
  ⟨x.gg.trans (same_upd gp), x.hh, fun a u q => by
    by_cases z : a = p
    · subst z; rw [upd_same] at q; cases q; exact h
    · rw [upd_ne z] at q; exact x.gh _ _ q, fun a q => by
    by_cases z : a = p
    · subst z; exact .inr hp
    · rw [upd_ne z] at q; exact x.new a q, x.hn, fun t => TC.ti.keep (x.tb t) (same_upd gp) (fun _ _ => rfl) (fun a h g => by
      rw [upd_ne (fun z => (TC.ti.live t a h).1 (by rw [z]; exact hp))]
      exact g)⟩

/-! ### slots -/
inductive Sl where
  | no | sh (d : D) | ow (xs : List D) | dk (ks : List Key) (xs : List D) | ob (c : Nat) (fs : List Sl) | bo (d : D) | ol (ss : List Sl)
/-- a slot that may be written at its places -/
def SlP (s : Sl) : Prop := s ≠ .no ∧ ∀ d, s ≠ .bo d
abbrev DEnv := List Sl

/-! a value that holds what a slot says; F: the objects that are one's own in it (or some more) -/
mutual
inductive Hd (K : PySem.W.Frag) (mg : Str → Option Value) (G H : Hp) : V → (Addr → Prop) → Sl → Prop
  | sh {v : V} {d : D} {F : Addr → Prop} (h : Rep K mg G v d) : Hd K mg G H v F (.sh d)
  | ow {p : Addr} {vs : List V} {xs : List D} {F : Addr → Prop} (f : F p) (h : H p = some (.lst vs)) (r : RepL K mg G vs xs) : Hd K mg G H (.ref p) F (.ow xs)
  | dk {p : Addr} {ks : List Key} {vs : List V} {xs : List D} {F : Addr → Prop} (f : F p) (h : H p = some (.dK (ks.zip vs))) (l : ks.length = vs.length) (r : RepL K mg G vs xs) : Hd K mg G H (.ref p) F (.dk ks xs)
  | ob {p C dx : Addr} {c : Nat} {vs : List V} {fs : List Sl} {F F' : Addr → Prop} (f : F p) (hm : mg (cN c) = some (.ref C)) (h : H p = some (.ins C dx ((cF c).zip vs))) (n : ¬ F' p) (s : ∀ a, F' a → F a) (r : HdL K mg G H vs F' fs) : Hd K mg G H (.ref p) F (.ob c fs)
  | ol {p : Addr} {vs : List V} {ss : List Sl} {F F' : Addr → Prop} (f : F p) (h : H p = some (.lst vs)) (n : ¬ F' p) (s : ∀ a, F' a → F a) (r : HdL K mg G H vs F' ss) : Hd K mg G H (.ref p) F (.ol ss)
inductive HdL (K : PySem.W.Frag) (mg : Str → Option Value) (G H : Hp) : List V → (Addr → Prop) → List Sl → Prop
  | nil {F : Addr → Prop} : HdL K mg G H [] F []
  | cons {v : V} {vs : List V} {s : Sl} {ss : List Sl} {F F1 F2 : Addr → Prop} (h : Hd K mg G H v F1 s) (r : HdL K mg G H vs F2 ss) (s1 : ∀ a, F1 a → F a) (s2 : ∀ a, F2 a → F a) (d : ∀ a, F1 a → ¬ F2 a) : HdL K mg G H (v :: vs) F (s :: ss)
end
section
variable {K : PySem.W.Frag} {mg : Str → Option Value} {G G' H H' : Hp}
mutual
theorem Hd.mono (g : Same G G') : ∀ {v : V} {F : Addr → Prop} {s : Sl}, (∀ a o, F a → H a = some o → NT o → H' a = some o) → Hd K mg G H v F s → Hd K mg G' H' v F s
  | _, _, _, _, .sh h => .sh (h.mono g)
  | _, _, _, e, .ow f h r => .ow f (e _ _ f h nofun) (r.mono g)
  | _, _, _, e, .dk f h l r => .dk f (e _ _ f h nofun) l (r.mono g)
  | _, _, _, e, .ob f hm h n s r => .ob f hm (e _ _ f h nofun) n s (HdL.mono g (fun a o fa => e a o (s a fa)) r)
  | _, _, _, e, .ol f h n s r => .ol f (e _ _ f h nofun) n s (HdL.mono g (fun a o fa => e a o (s a fa)) r)
theorem HdL.mono (g : Same G G') : ∀ {v : List V} {F : Addr → Prop} {s : List Sl}, (∀ a o, F a → H a = some o → NT o → H' a = some o) → HdL K mg G H v F s → HdL K mg G' H' v F s
  | _, _, _, _, .nil => .nil
  | _, _, _, e, .cons h r s1 s2 d => .cons (Hd.mono g (fun a o fa => e a o (s1 a fa)) h) (HdL.mono g (fun a o fa => e a o (s2 a fa)) r) s1 s2 d
end
theorem Hd.wide {v : V} {F F' : Addr → Prop} {s : Sl} (w : ∀ a, F a → F' a) (h : Hd K mg G H v F s) : Hd K mg G H v F' s := by
  cases h with
  | sh h => exact .sh h
  | ow f h r => exact .ow (w _ f) h r
  | dk f h l r => exact .dk (w _ f) h l r
  | ob f hm h n s r => exact .ob (w _ f) hm h n (fun a x => w a (s a x)) r
  | ol f h n s r => exact .ol (w _ f) h n (fun a x => w a (s a x)) r
theorem HdL.wide {vs : List V} {F F' : Addr → Prop} {ss : List Sl} (w : ∀ a, F a → F' a) (h : HdL K mg G H vs F ss) : HdL K mg G H vs F' ss := by
  cases h with
  | nil => exact .nil
  | cons h r s1 s2 d => exact .cons h r (fun a x => w a (s1 a x)) (fun a x => w a (s2 a x)) d
theorem HdL.wide2 {vs : List V} {F F' : Addr → Prop} {ss : List Sl} (w : ∀ a, F a → F' a) (h : HdL K mg G H vs F ss) : HdL K mg G H vs F' ss := h.wide w
theorem Hd.mono2 {v : V} {F F' : Addr → Prop} {s : Sl} (g : Same G G') (k : ∀ a o, F a → H a = some o → NT o → H' a = some o) (w : ∀ a, F a → F' a) (h : Hd K mg G H v F s) : Hd K mg G' H' v F' s := (h.mono g k).wide w
theorem HdL.length : ∀ {vs : List V} {F : Addr → Prop} {ss : List Sl}, HdL K mg G H vs F ss → vs.length = ss.length
  | _, _, _, .nil => rfl
  | _, _, _, .cons _ r _ _ _ => by simp [HdL.length r]
end

def SlOk (K : PySem.W.Frag) (mg : Str → Option Value) (H0 G H : Hp) (F : Addr → Prop) (o : Option (Option V)) (s : Sl) : Prop := s = .no ∨ (∃ v, o = some (some v) ∧ Hd K mg G H v F s) ∨ ∃ v d, s = .bo d ∧ o = some (some v) ∧ RepB K mg G H0 v d

def isOwn : Sl → Bool
  | .ow _ => true
  | .dk _ _ => true
  | .ob _ _ => true
  | .ol _ => true
  | _ => false
/-- what belongs to others; the value that the first slot keeps as long as it is one's own -/
structure Zs where
  z : Addr → Prop
  a : Option V
  t : TabI
structure Rel [TC : TabCtx] (K : PySem.W.Frag) (mg : Str → Option Value) (G0 H0 : Hp) (Z : Zs) (Γ : DEnv) (σ : St) (G H : Hp) : Prop where
  len : σ.length = Γ.length
  gh : Same G H
  hh : SameN H0 H
  gg : Same G0 G
  new : ∀ a, G a ≠ none → G0 a ≠ none ∨ H0 a = none
  zz : ∀ a, Z.z a → H a ≠ none
  an : ∀ v s, Z.a = some v → Γ[0]? = some s → isOwn s = true → σ[0]? = some (some v)
  tb : Z.t.t G H
  tz : ∀ a, Z.t.tz a → Z.z a
  tc : Z.t = TC.ti
  hn : ∀ a, H0 a ≠ Option.none → H a ≠ Option.none
  own : ∃ own : Nat → Addr → Prop, (∀ i a, own i a → G a = none ∧ H0 a = none ∧ H a ≠ none ∧ ¬ Z.z a) ∧ (∀ i j a, own i a → own j a → i = j) ∧ ∀ (i : Nat) s, Γ[i]? = some s → SlOk K mg H0 G H (own i) (σ[i]?) s

section
variable {K : PySem.W.Frag} {mg : Str → Option Value} {G0 H0 G H G' H' : Hp} {Z : Zs} {Γ : DEnv} {σ : St}
theorem Ext.none {a : Addr} (e : Ext G H G' H') (h1 : G a = Option.none) (h2 : H a ≠ Option.none) : G' a = Option.none := by
  cases q : G' a with
  | none => rfl
  | some u =>
    rcases e.new a (by rw [q]; simp) with z | z
    · exact absurd h1 z
    · exact absurd z h2
theorem SlOk.ext {F : Addr → Prop} {o : Option (Option V)} {s : Sl} (e : Ext G H G' H') (h : SlOk K mg H0 G H F o s) : SlOk K mg H0 G' H' F o s := by
  rcases h with h | ⟨v, h1, h2⟩ | ⟨v, d, h0, h1, h2⟩
  · exact .inl h
  · exact .inr (.inl ⟨v, h1, h2.mono e.gg fun a o _ q n => e.hh a o q n⟩)
  · exact .inr (.inr ⟨v, d, h0, h1, h2.mono e.gg (same_n (Same.refl _))⟩)
theorem Rel.hf (r : Rel K mg G0 H0 Z Γ σ G H) {a : Addr} (h : H a = Option.none) : H0 a = Option.none := by
  cases q : H0 a with
  | none => rfl
  | some o => exact absurd h (r.hn a (by rw [q]; simp))
theorem Rel.tbx (r : Rel K mg G0 H0 Z Γ σ G H) (e : TC.ti.t G H → TC.ti.t G' H') : Z.t.t G' H' := by
  rw [r.tc]
  exact e (by rw [← r.tc]; exact r.tb)
theorem Rel.tbc (r : Rel K mg G0 H0 Z Γ σ G H) : TC.ti.t G H := by rw [← r.tc]; exact r.tb
theorem Rel.ext (r : Rel K mg G0 H0 Z Γ σ G H) (e : Ext G H G' H') : Rel K mg G0 H0 Z Γ σ G' H' := by
  obtain ⟨own, o1, o2, o3⟩ := r.own
  exact ⟨r.len, e.gh, r.hh.trans e.hh, r.gg.trans e.gg, fun a q => by
    rcases e.new a q with z | z
    · exact r.new a z
    · exact .inr (r.hf z), fun a z => e.hn _ (r.zz a z), r.an, r.tbx e.tb, r.tz, r.tc, fun a h => e.hn a (r.hn a h), own, fun i a h => by
      obtain ⟨h1, h2, h3, h4⟩ := o1 i a h
      exact ⟨e.none h1 h3, h2, e.hn _ h3, h4⟩, o2, fun i s h => (o3 i s h).ext e⟩
theorem set_get {α : Type} {l : List α} {i j : Nat} {x y : α} (h : (l.set i x)[j]? = some y) : (i = j ∧ i < l.length ∧ y = x) ∨ (i ≠ j ∧ l[j]? = some y) := by
  by_cases e : i = j
  · subst e
    rw [List.getElem?_set] at h
    by_cases z : i < l.length
    · simp [z] at h; exact .inl ⟨rfl, z, h.symm⟩
    · simp [z] at h
  · rw [List.getElem?_set_ne e] at h
    exact .inr ⟨e, h⟩
/-- a slot gets something that was made anew -/
theorem Rel.setNew (r : Rel K mg G0 H0 Z Γ σ G H) (e : Ext G H G' H') (i : Nat) {v : V} {s : Sl} {F : Addr → Prop} (h : Hd K mg G' H' v F s) (hF : ∀ a, F a → G' a = none ∧ H a = none ∧ H' a ≠ none) (hi : i ≠ 0 ∨ isOwn s = false) : Rel K mg G0 H0 Z (Γ.set i s) (σ.set i (some v)) G' H' := by
  obtain ⟨own, o1, o2, o3⟩ := r.own
  have r' := r.ext e
  refine ⟨by simpa using r.len, r'.gh, r'.hh, r'.gg, r'.new, r'.zz, fun w s' e1 e2 e3 => ?_, r'.tb, r'.tz, r'.tc, r'.hn, fun j a => if j = i then F a else own j a, fun j a q => ?_, fun j k a q1 q2 => ?_, fun j s' q => ?_⟩
  · rcases set_get e2 with ⟨ei, hl, rfl⟩ | ⟨ei, q⟩
    · rcases hi with h | h
      · exact absurd ei h
      · rw [h] at e3; cases e3
    · rw [List.getElem?_set_ne ei]
      exact r.an w s' e1 q e3
  · by_cases ei : j = i
    · simp only [ei, if_true] at q
      obtain ⟨h1, h2, h3⟩ := hF a q
      exact ⟨h1, r.hf h2, h3, fun z => r.zz a z h2⟩
    · simp only [ei, if_false] at q
      obtain ⟨h1, h2, h3, h4⟩ := o1 j a q
      exact ⟨e.none h1 h3, h2, e.hn _ h3, h4⟩
  · by_cases e1 : j = i
    · by_cases e2 : k = i
      · rw [e1, e2]
      · simp only [e1, e2, if_true, if_false] at q1 q2
        exact absurd (hF a q1).2.1 (o1 k a q2).2.2.1
    · by_cases e2 : k = i
      · simp only [e1, e2, if_true, if_false] at q1 q2
        exact absurd (hF a q2).2.1 (o1 j a q1).2.2.1
      · simp only [e1, e2, if_false] at q1 q2
        exact o2 j k a q1 q2
  · rcases set_get q with ⟨ei, hl, rfl⟩ | ⟨ei, q⟩
    · subst ei
      refine .inr (.inl ⟨v, by simp [List.getElem?_set, r.len, hl], ?_⟩)
      simp only [if_true]
      exact h
    · rw [List.getElem?_set_ne ei]
      simp only [Ne.symm ei, if_false]
      exact (o3 j s' q).ext e
/-- a slot gets a datum -/
theorem Rel.set (r : Rel K mg G0 H0 Z Γ σ G H) (i : Nat) {v : V} {d : D} (h : Rep K mg G v d) : Rel K mg G0 H0 Z (Γ.set i (.sh d)) (σ.set i (some v)) G H :=
  r.setNew (Ext.refl r.gh) i (F := fun _ => False) (.sh h) (fun _ z => z.elim) (.inr rfl)
/-- slots forgotten -/
theorem Rel.drop (r : Rel K mg G0 H0 Z Γ σ G H) (i : Nat) : Rel K mg G0 H0 Z (Γ.set i .no) (σ.set i none) G H := by
  obtain ⟨own, o1, o2, o3⟩ := r.own
  refine ⟨by simpa using r.len, r.gh, r.hh, r.gg, r.new, r.zz, fun w s' e1 e2 e3 => ?_, r.tb, r.tz, r.tc, r.hn, own, o1, o2, fun j s q => ?_⟩
  · rcases set_get e2 with ⟨ei, hl, rfl⟩ | ⟨ei, q⟩
    · cases e3
    · rw [List.getElem?_set_ne ei]
      exact r.an w s' e1 q e3
  rcases set_get q with ⟨ei, hl, rfl⟩ | ⟨ei, q⟩
  · exact .inl rfl
  · rw [List.getElem?_set_ne ei]
    exact o3 j s q
def wipeE (Γ : DEnv) : List Nat → DEnv
  | [] => Γ
  | v :: vs => (wipeE Γ vs).set v .no
theorem Rel.wipe (r : Rel K mg G0 H0 Z Γ σ G H) : ∀ vs : List Nat, Rel K mg G0 H0 Z (wipeE Γ vs) (L2.wipe σ vs) G H
  | [] => r
  | v :: vs => (r.wipe vs).drop v
/-- an object of somebody else is written -/
theorem Rel.aside (r : Rel K mg G0 H0 Z Γ σ G H) {p : Addr} {o : HO} (hz : Z.z p) (ht : ¬ Z.t.tz p) (hg : G p = none) (h0 : H0 p = none) : Rel K mg G0 H0 Z Γ σ G (upd H p o) := by
  obtain ⟨own, o1, o2, o3⟩ := r.own
  have up : ∀ a, H a ≠ Option.none → upd H p o a ≠ Option.none := fun a q => by
    by_cases e : a = p
    · subst e; rw [upd_same]; simp
    · rw [upd_ne e]; exact q
  refine ⟨r.len, fun a u q => ?_, fun a u q n => ?_, r.gg, r.new, fun a z => up a (r.zz a z), r.an, Z.t.keep r.tb (Same.refl _) (fun a h => upd_ne (fun e => ht (by rw [← e]; exact h))) (fun _ _ g => g), r.tz, r.tc, fun a h => up a (r.hn a h), own, fun i a q => ?_, o2, fun j s q => ?_⟩
  · rw [upd_ne (ne_of_none q hg)]; exact r.gh _ _ q
  · rw [upd_ne (ne_of_none q h0)]; exact r.hh _ _ q n
  · obtain ⟨h1, h2, h3, h4⟩ := o1 i a q
    exact ⟨h1, h2, up a h3, h4⟩
  · rcases o3 j s q with h | ⟨v, h1, h2⟩ | h
    · exact .inl h
    · refine .inr (.inl ⟨v, h1, h2.mono (Same.refl _) fun a u fa q _ => ?_⟩)
      rw [upd_ne]
      · exact q
      · intro e; subst e; exact (o1 j a fa).2.2.2 hz
    · exact .inr (.inr h)
/-- an object that is new becomes somebody else's -/
theorem Rel.zput (r : Rel K mg G0 H0 Z Γ σ G H) {p : Addr} {o : HO} (hp : H p = none) : Rel K mg G0 H0 ⟨fun a => Z.z a ∨ a = p, Z.a, Z.t⟩ Γ σ G (upd H p o) := by
  obtain ⟨own, o1, o2, o3⟩ := r.own
  have x := Ext.own1 (o := o) r.gh hp
  have r' := r.ext x
  refine ⟨r'.len, r'.gh, r'.hh, r'.gg, r'.new, fun a z => ?_, r.an, r'.tb, fun a h => .inl (r.tz a h), r.tc, r'.hn, own, fun i a q => ?_, o2, fun j s q => (o3 j s q).ext x⟩
  · rcases z with z | z
    · exact r'.zz a z
    · subst z; rw [upd_same]; simp
  · obtain ⟨h1, h2, h3, h4⟩ := o1 i a q
    exact ⟨h1, h2, x.hn _ h3, fun z => by
      rcases z with z | z
      · exact h4 z
      · subst z; exact h3 hp⟩
/-! ### places: a slot, or a field of a field .. of it (the last field first) -/
abbrev Pth := List (Nat × Nat)
def getR : Pth → Sl → Option Sl
  | [], s => some s
  | (c, j) :: r, s => match getR r s with
    | some (.ob c' fs) => if c' = c then fs[j]? else none
    | some (.ol ss) => if c = 1000 then ss[j]? else none
    | _ => none
def setR : Pth → Sl → Sl → Option Sl
  | [], s', _ => some s'
  | (c, j) :: r, s', s => match getR r s with
    | some (.ob c' fs) => if c' = c ∧ j < fs.length then setR r (.ob c (fs.set j s')) s else none
    | some (.ol ss) => if c = 1000 ∧ j < ss.length then setR r (.ol (ss.set j s')) s else none
    | _ => none
/-- a field's part, and what a change of it makes -/
theorem HdL.upd : ∀ {vs : List V} {F : Addr → Prop} {ss : List Sl} (j : Nat) {s : Sl}, HdL K mg G H vs F ss → ss[j]? = some s → ∃ v F1, vs[j]? = some v ∧ Hd K mg G H v F1 s ∧ (∀ a, F1 a → F a) ∧
    ∀ (G' H' : Hp) (F1' : Addr → Prop) (s' : Sl), Same G G' → (∀ a o, F a → ¬ F1 a → H a = some o → NT o → H' a = some o) → Hd K mg G' H' v F1' s' → (∀ a, F1' a → F1 a ∨ ¬ F a) → HdL K mg G' H' vs (fun a => (F a ∧ ¬ F1 a) ∨ F1' a) (ss.set j s')
  | _, _, _, _, _, .nil, h => by simp at h
  | _, _, _, 0, _, .cons (v := v) (vs := vs) (ss := ss) (F := F) (F1 := F1) (F2 := F2) h r s1 s2 d, e => by
    simp at e; subst e
    refine ⟨v, F1, rfl, h, s1, fun G' H' F1' s' sg k h' nf => ?_⟩
    refine .cons (F1 := F1') (F2 := fun a => F2 a ∧ ¬ F1' a) h' (HdL.wide2 (fun a x => ⟨x, fun y => ?_⟩) (HdL.mono sg (fun a o fa q n => k a o (s2 a fa) (fun y => d a y fa) q n) r)) (fun a x => .inr x) (fun a x => ?_) fun a x y => y.2 x
    · rcases nf a y with z | z
      · exact d a z x
      · exact z (s2 a x)
    · exact .inl ⟨s2 a x.1, fun y => d a y x.1⟩
  | _, _, _, j + 1, s, .cons (v := v0) (vs := vs) (ss := ss) (F := F) (F1 := Fh) (F2 := Ft) h r s1 s2 d, e => by
    obtain ⟨v, F1, e1, e2, e3, k'⟩ := HdL.upd j r (by simpa using e)
    refine ⟨v, F1, by simpa using e1, e2, fun a x => s2 a (e3 a x), fun G' H' F1' s' sg k h' nf => ?_⟩
    have t := k' G' H' F1' s' sg (fun a o fa nfa q n => k a o (s2 a fa) nfa q n) h' fun a x => by
      rcases nf a x with z | z
      · exact .inl z
      · exact .inr fun y => z (s2 a y)
    refine .cons (F1 := fun a => Fh a ∧ ¬ F1' a) (h.mono2 sg (fun a o fa q n => k a o (s1 a fa) (fun y => d a fa (e3 a y)) q n) fun a x => ⟨x, fun y => ?_⟩) t (fun a x => .inl ⟨s1 a x.1, fun y => d a x.1 (e3 a y)⟩) (fun a x => ?_) fun a x y => ?_
    · rcases nf a y with z | z
      · exact d a x (e3 a z)
      · exact z (s1 a x)
    · rcases x with x | x
      · exact .inl ⟨s2 a x.1, x.2⟩
      · exact .inr x
    · rcases y with y | y
      · exact d a x.1 y.1
      · exact x.2 y
/-- a place's part, and what a change of it makes -/
theorem Hd.upd : ∀ (rp : Pth) {v : V} {F : Addr → Prop} {s s1 : Sl}, Hd K mg G H v F s → getR rp s = some s1 → ∃ v1 F1, (rp = [] → v1 = v) ∧ Hd K mg G H v1 F1 s1 ∧ (∀ a, F1 a → F a) ∧
    ∀ (G' H' : Hp) (F1' : Addr → Prop) (s1' s' : Sl), Same G G' → (∀ a o, F a → ¬ F1 a → H a = some o → NT o → H' a = some o) → Hd K mg G' H' v1 F1' s1' → (∀ a, F1' a → F1 a ∨ ¬ F a) → setR rp s1' s = some s' →
      Hd K mg G' H' v (fun a => (F a ∧ ¬ F1 a) ∨ F1' a) s'
  | [], v, F, s, s1, h, e => by
    cases e
    refine ⟨v, F, fun _ => rfl, h, fun _ x => x, fun G' H' F1' s1' s' sg k h' nf es => ?_⟩
    cases es
    exact h'.wide fun a x => .inr x
  | (c, j) :: rp, v, F, s, s1, h, e => by
    unfold getR at e
    cases q : getR rp s with
    | none => rw [q] at e; cases e
    | some par =>
      rw [q] at e
      cases par with
      | ob c' fs =>
        replace e : (if c' = c then fs[j]? else none) = some s1 := e
        split at e
        · rename_i hc
          subst hc
          obtain ⟨vp, Fp, evp, hp, sp, kp⟩ := Hd.upd rp h q
          cases hp with
          | ob f hm ho n sF r =>
            rename_i p C dx vs F'
            obtain ⟨v1, F1, e1, h1, s1F, k1⟩ := r.upd j e
            refine ⟨v1, F1, (fun e => by cases e), h1, fun a x => sp a (sF a (s1F a x)), fun G' H' F1' s1' s' sg k h' nf es => ?_⟩
            unfold setR at es
            rw [q] at es
            have hlt : j < fs.length := (List.getElem?_eq_some_iff.mp e).1
            replace es : (if c' = c' ∧ j < fs.length then setR rp (.ob c' (fs.set j s1')) s else none) = some s' := es
            rw [if_pos ⟨rfl, hlt⟩] at es
            have t := k1 G' H' F1' s1' sg (fun a o fa nfa q => k a o (sp a (sF a fa)) nfa q) h' fun a x => by
              rcases nf a x with z | z
              · exact .inl z
              · exact .inr fun y => z (sp a (sF a y))
            have np1 : ¬ F1 p := fun y => n (s1F p y)
            have np1' : ¬ F1' p := fun y => by
              rcases nf p y with z | z
              · exact np1 z
              · exact z (sp p f)
            have hob : Hd K mg G' H' (.ref p) (fun a => (Fp a ∧ ¬ F1 a) ∨ F1' a) (.ob c' (fs.set j s1')) := by
              refine .ob (.inl ⟨f, np1⟩) hm (k p _ (sp p f) np1 ho nofun) (F' := fun a => (F' a ∧ ¬ F1 a) ∨ F1' a) (fun y => ?_) (fun a y => ?_) t
              · rcases y with y | y
                · exact n y.1
                · exact np1' y
              · rcases y with y | y
                · exact .inl ⟨sF a y.1, y.2⟩
                · exact .inr y
            refine (kp G' H' _ _ s' sg (fun a o fa nfa q => k a o fa (fun y => nfa (sF a (s1F a y))) q) hob (fun a y => ?_) es).wide fun a y => ?_
            · rcases y with y | y
              · exact .inl y.1
              · rcases nf a y with z | z
                · exact .inl (sF a (s1F a z))
                · exact .inr z
            · rcases y with y | y
              · exact .inl ⟨y.1, fun z => y.2 (sF a (s1F a z))⟩
              · rcases y with y | y
                · exact .inl ⟨sp a y.1, y.2⟩
                · exact .inr y
        · cases e
      | ol ss =>
        replace e : (if c = 1000 then ss[j]? else none) = some s1 := e
        split at e
        · rename_i hc
          subst hc
          obtain ⟨vp, Fp, evp, hp, sp, kp⟩ := Hd.upd rp h q
          cases hp with
          | ol f ho n sF r =>
            rename_i p vs F'
            obtain ⟨v1, F1, e1, h1, s1F, k1⟩ := r.upd j e
            refine ⟨v1, F1, (fun e => by cases e), h1, fun a x => sp a (sF a (s1F a x)), fun G' H' F1' s1' s' sg k h' nf es => ?_⟩
            unfold setR at es
            rw [q] at es
            have hlt : j < ss.length := (List.getElem?_eq_some_iff.mp e).1
            replace es : (if 1000 = 1000 ∧ j < ss.length then setR rp (.ol (ss.set j s1')) s else none) = some s' := es
            rw [if_pos ⟨rfl, hlt⟩] at es
            have t := k1 G' H' F1' s1' sg (fun a o fa nfa q => k a o (sp a (sF a fa)) nfa q) h' fun a x => by
              rcases nf a x with z | z
              · exact .inl z
              · exact .inr fun y => z (sp a (sF a y))
            have np1 : ¬ F1 p := fun y => n (s1F p y)
            have np1' : ¬ F1' p := fun y => by
              rcases nf p y with z | z
              · exact np1 z
              · exact z (sp p f)
            have hob : Hd K mg G' H' (.ref p) (fun a => (Fp a ∧ ¬ F1 a) ∨ F1' a) (.ol (ss.set j s1')) := by
              refine .ol (.inl ⟨f, np1⟩) (k p _ (sp p f) np1 ho nofun) (F' := fun a => (F' a ∧ ¬ F1 a) ∨ F1' a) (fun y => ?_) (fun a y => ?_) t
              · rcases y with y | y
                · exact n y.1
                · exact np1' y
              · rcases y with y | y
                · exact .inl ⟨sF a y.1, y.2⟩
                · exact .inr y
            refine (kp G' H' _ _ s' sg (fun a o fa nfa q => k a o fa (fun y => nfa (sF a (s1F a y))) q) hob (fun a y => ?_) es).wide fun a y => ?_
            · rcases y with y | y
              · exact .inl y.1
              · rcases nf a y with z | z
                · exact .inl (sF a (s1F a z))
                · exact .inr z
            · rcases y with y | y
              · exact .inl ⟨y.1, fun z => y.2 (sF a (s1F a z))⟩
              · rcases y with y | y
                · exact .inl ⟨sp a y.1, y.2⟩
                · exact .inr y
        · cases e
      | _ => cases e
mutual
def toD : Sl → Option D
  | .no => none
  | .sh d => some d
  | .ow xs => some (.lst xs)
  | .dk ks xs => some (.dic ks xs)
  | .bo _ => none
  | .ol _ => none
  | .ob c fs => (toDs fs).map (.obj c)
def toDs : List Sl → Option (List D)
  | [] => some []
  | s :: ss => (toD s).bind fun d => (toDs ss).map (d :: ·)
end
/-- what is one's own becomes known: the known part grows by it -/
structure Frz (K : PySem.W.Frag) (mg : Str → Option Value) (G H : Hp) (F : Addr → Prop) (G' : Hp) : Prop where
  gg : Same G G'
  gh : Same G' H
  new : ∀ a, G' a ≠ none → G a ≠ none ∨ F a
  tup : ∀ a vs, G' a = some (.tup vs) → G a = some (.tup vs)
theorem frz_one {K : PySem.W.Frag} {mg : Str → Option Value} {G H : Hp} {F : Addr → Prop} {p : Addr} {o : HO} (gh : Same G H) (f : F p) (gp : G p = none) (h : H p = some o) (nt : ∀ vs, o ≠ .tup vs) : Frz K mg G H F (upd G p o) := by
  refine ⟨fun a u q => ?_, fun a u q => ?_, fun a q => ?_, fun a vs q => ?_⟩
  · rw [upd_ne (ne_of_none q gp)]; exact q
  · by_cases e : a = p
    · subst e; rw [upd_same] at q; cases q; exact h
    · rw [upd_ne e] at q; exact gh _ _ q
  · by_cases e : a = p
    · subst e; exact .inr f
    · rw [upd_ne e] at q; exact .inl q
  · by_cases e : a = p
    · subst e; rw [upd_same] at q; cases q; exact absurd rfl (nt vs)
    · rw [upd_ne e] at q; exact q
theorem Frz.trans {K : PySem.W.Frag} {mg : Str → Option Value} {G H G1 G2 : Hp} {F F1 F2 : Addr → Prop} (a : Frz K mg G H F1 G1) (b : Frz K mg G1 H F2 G2) (s1 : ∀ a, F1 a → F a) (s2 : ∀ a, F2 a → F a) : Frz K mg G H F G2 :=
  ⟨a.gg.trans b.gg, b.gh, fun x q => by
    rcases b.new x q with z | z
    · rcases a.new x z with z | z
      · exact .inl z
      · exact .inr (s1 x z)
    · exact .inr (s2 x z), fun x vs q => a.tup x vs (b.tup x vs q)⟩
mutual
theorem Hd.frz : ∀ {G H : Hp} {v : V} {F : Addr → Prop} {s : Sl} {d : D}, Hd K mg G H v F s → toD s = some d → Same G H → (∀ a, F a → G a = none) → ∃ G', Frz K mg G H F G' ∧ Rep K mg G' v d
  | G, H, _, _, _, _, .sh h, e, gh, _ => by
    simp only [toD] at e; cases e
    exact ⟨G, ⟨Same.refl _, gh, fun _ h => .inl h, fun _ _ h => h⟩, h⟩
  | G, H, _, _, _, _, .ow f h r, e, gh, gn => by
    simp only [toD] at e; cases e
    have x := frz_one (K := K) (mg := mg) gh f (gn _ f) h (fun vs z => by cases z)
    exact ⟨_, x, .lst upd_same (r.mono x.gg)⟩
  | G, H, _, _, _, _, .dk f h l r, e, gh, gn => by
    simp only [toD] at e; cases e
    have x := frz_one (K := K) (mg := mg) gh f (gn _ f) h (fun vs z => by cases z)
    exact ⟨_, x, .dic upd_same l (r.mono x.gg)⟩
  | G, H, _, F, _, _, .ob (p := p) f hm h n s r, e, gh, gn => by
    simp only [toD, Option.map_eq_some_iff] at e
    obtain ⟨ds, e1, rfl⟩ := e
    obtain ⟨G1, x1, r1⟩ := HdL.frz r e1 gh fun a z => gn a (s a z)
    have gp : G1 p = none := by
      cases q : G1 p with
      | none => rfl
      | some u =>
        rcases x1.new p (by rw [q]; simp) with z | z
        · exact absurd (gn _ f) z
        · exact absurd z n
    have x2 := frz_one (K := K) (mg := mg) (F := F) x1.gh f gp h (fun vs z => by cases z)
    exact ⟨_, x1.trans x2 s fun _ z => z, .obj hm upd_same (r1.mono x2.gg)⟩
  | _, _, _, _, _, _, .ol _ _ _ _ _, e, _, _ => by simp only [toD] at e; cases e
theorem HdL.frz : ∀ {G H : Hp} {vs : List V} {F : Addr → Prop} {ss : List Sl} {ds : List D}, HdL K mg G H vs F ss → toDs ss = some ds → Same G H → (∀ a, F a → G a = none) → ∃ G', Frz K mg G H F G' ∧ RepL K mg G' vs ds
  | G, H, _, _, _, _, .nil, e, gh, _ => by
    simp only [toDs] at e; cases e
    exact ⟨G, ⟨Same.refl _, gh, fun _ h => .inl h, fun _ _ h => h⟩, .nil⟩
  | G, H, _, _, _, _, .cons h r s1 s2 dj, e, gh, gn => by
    simp only [toDs] at e
    cases q1 : toD _ with
    | none => rw [q1] at e; cases e
    | some d =>
      rw [q1] at e
      simp only [Option.bind_some, Option.map_eq_some_iff] at e
      obtain ⟨ds, e2, rfl⟩ := e
      obtain ⟨G1, x1, r1⟩ := Hd.frz h q1 gh fun a z => gn a (s1 a z)
      have r' := HdL.mono (H' := H) x1.gg (fun _ _ _ q _ => q) r
      obtain ⟨G2, x2, r2⟩ := HdL.frz r' e2 x1.gh fun a z => by
        cases q : G1 a with
        | none => rfl
        | some u =>
          rcases x1.new a (by rw [q]; simp) with w | w
          · exact absurd (gn a (s2 a z)) w
          · exact absurd z (dj a w)
      exact ⟨G2, x1.trans x2 s1 s2, .cons (r1.mono x2.gg) r2⟩
end
mutual
theorem getR_own : ∀ {rp : Pth} {s : Sl} {c : Nat} {fs : List Sl}, getR rp s = some (.ob c fs) → isOwn s = true
  | [], _, _, _, h => by cases h; rfl
  | (c, j) :: rp, s, _, _, h => by
    unfold getR at h
    cases q : getR rp s with
    | none => rw [q] at h; cases h
    | some par =>
      cases par with
      | ob c' fs => exact getR_own q
      | ol ss => exact getR_ownL q
      | _ => rw [q] at h; cases h
theorem getR_ownL : ∀ {rp : Pth} {s : Sl} {fs : List Sl}, getR rp s = some (.ol fs) → isOwn s = true
  | [], _, _, h => by cases h; rfl
  | (c, j) :: rp, s, _, h => by
    unfold getR at h
    cases q : getR rp s with
    | none => rw [q] at h; cases h
    | some par =>
      cases par with
      | ob c' fs => exact getR_own q
      | ol ss => exact getR_ownL q
      | _ => rw [q] at h; cases h
end
theorem setR_own {rp : Pth} {s s1 s1' s' : Sl} (hg : getR rp s = some s1) (hs : setR rp s1' s = some s') (h : isOwn s1' = true → isOwn s1 = true) : isOwn s' = true → isOwn s = true := by
  cases rp with
  | nil => cases hg; cases hs; exact h
  | cons p rp =>
    obtain ⟨c, j⟩ := p
    unfold getR at hg
    cases q : getR rp s with
    | none => rw [q] at hg; cases hg
    | some par =>
      cases par with
      | ob c' fs => exact fun _ => getR_own q
      | ol ss => exact fun _ => getR_ownL q
      | _ => rw [q] at hg; cases hg
/-- a place of a slot: what it holds, and how it may be changed -/
structure Pack (K : PySem.W.Frag) (mg : Str → Option Value) (G0 H0 : Hp) (Z : Zs) (Γ : DEnv) (σ : St) (i : Nat) (rp : Pth) (s s1 : Sl) (v : V) (F1 : Addr → Prop) (Hb G H : Hp) : Prop where
  hd : Hd K mg G H v F1 s1
  fr : ∀ a, F1 a → G a = none ∧ H0 a = none ∧ H a ≠ none ∧ ¬ Z.z a ∧ Hb a ≠ none
  tb : TC.ti.t G H
  ntz : ∀ a, F1 a → ¬ TC.ti.tz a
  hbt : ∀ a, TC.ti.tz a → Hb a ≠ none
  upC : ∀ (G' H' : Hp) (F1' : Addr → Prop) (s1' s' : Sl), Same G G' → Same G' H' → TC.ti.t G' H' → (∀ a, ¬ F1 a → H a ≠ none → H' a ≠ none) → (∀ a, G' a ≠ none → G a ≠ none ∨ Hb a = none ∨ F1 a) → (∀ a o, ¬ F1 a → H a = some o → NT o → H' a = some o) → Hd K mg G' H' v F1' s1' →
    (∀ a, F1' a → G' a = none ∧ H' a ≠ none ∧ (F1 a ∨ Hb a = none)) → (isOwn s1' = true → isOwn s1 = true) → setR rp s1' s = some s' → Rel K mg G0 H0 Z (Γ.set i s') σ G' H'
theorem Pack.up {i : Nat} {rp : Pth} {s s1 : Sl} {v : V} {F1 : Addr → Prop} {Hb : Hp} (P : Pack K mg G0 H0 Z Γ σ i rp s s1 v F1 Hb G H) (G' H' : Hp) (F1' : Addr → Prop) (s1' s' : Sl) (sg : Same G G') (gh : Same G' H') (nw : ∀ a, G' a ≠ none → G a ≠ none ∨ Hb a = none ∨ F1 a) (keep : ∀ a o, ¬ F1 a → H a = some o → H' a = some o) (h' : Hd K mg G' H' v F1' s1')
    (nf : ∀ a, F1' a → G' a = none ∧ H' a ≠ none ∧ (F1 a ∨ Hb a = none)) (io : isOwn s1' = true → isOwn s1 = true) (es : setR rp s1' s = some s') : Rel K mg G0 H0 Z (Γ.set i s') σ G' H' := by
  have hn' : ∀ a, ¬ F1 a → H a ≠ none → H' a ≠ none := fun a nf h => by
    cases q : H a with
    | none => exact absurd q h
    | some o => rw [keep a o nf q]; simp
  refine P.upC G' H' F1' s1' s' sg gh (TC.ti.keep P.tb sg (fun a h => ?_) (fun a h g => ?_)) hn' nw (fun a o nf q _ => keep a o nf q) h' nf io es
  · cases q : H a with
    | none => exact absurd q (TC.ti.live P.tb a h).1
    | some o => exact keep a o (fun y => P.ntz a y h) q
  · cases q : G' a with
    | none => rfl
    | some u =>
      rcases nw a (by rw [q]; simp) with z | z | z
      · exact absurd g z
      · exact absurd z (P.hbt a h)
      · exact absurd h (P.ntz a z)
theorem Rel.pack (R : Rel K mg G0 H0 Z Γ σ G H) {i : Nat} {rp : Pth} {s s1 : Sl} (hi : Γ[i]? = some s) (hg : getR rp s = some s1) (hn : s1 ≠ .no) (hs : SlP s) :
    ∃ v F1, (rp = [] → σ[i]? = some (some v)) ∧ ∀ G1 H1, Ext G H G1 H1 → Pack K mg G0 H0 Z Γ σ i rp s s1 v F1 H G1 H1 := by
  obtain ⟨own, o1, o2, o3⟩ := R.own
  rcases o3 i s hi with z | ⟨v0, e0, h0⟩ | ⟨_, d0, z, _⟩
  · exact absurd z hs.1
  rotate_left
  · exact absurd z (hs.2 d0)
  obtain ⟨v1, F1, ev, h1, sF, kk⟩ := Hd.upd rp h0 hg
  refine ⟨v1, F1, fun e => by rw [ev e]; exact e0, fun G1 H1 x => ?_⟩
  have R1 := R.ext x
  have old : ∀ a, F1 a → G a = none ∧ H0 a = none ∧ H a ≠ none ∧ ¬ Z.z a := fun a y => o1 i a (sF a y)
  refine ⟨h1.mono x.gg fun a o _ q n => x.hh a o q n, fun a y => ?_, R1.tbc, fun a y h => (old a y).2.2.2 (R.tz a (by rw [R.tc]; exact h)), fun a h => R.zz a (R.tz a (by rw [R.tc]; exact h)), fun G' H' F1' s1' s' sg gh tb' hn' nw keep h' nf io es => ?_⟩
  · obtain ⟨z1, z2, z3, z4⟩ := old a y
    exact ⟨x.none z1 z3, z2, x.hn _ z3, z4, z3⟩
  · have big : Hd K mg G' H' v0 (fun a => (own i a ∧ ¬ F1 a) ∨ F1' a) s' := by
      have hx : Hd K mg G1 H1 v0 (own i) s := h0.mono x.gg fun a o _ q n => x.hh a o q n
      refine kk G' H' F1' s1' s' (x.gg.trans sg) (fun a o fa nfa q n => keep a o nfa (x.hh a o q n) n) h' (fun a y => ?_) es
      rcases (nf a y).2.2 with z | z
      · exact .inl z
      · exact .inr fun w => (o1 i a w).2.2.1 z
    have stay : ∀ j a, own j a → ¬ F1 a → G' a = none ∧ H' a ≠ none := fun j a w nf1 => by
      obtain ⟨z1, z2, z3, z4⟩ := o1 j a w
      have g1 := x.none z1 z3
      have h1' := x.hn _ z3
      refine ⟨?_, ?_⟩
      · cases q : G' a with
        | none => rfl
        | some u =>
          rcases nw a (by rw [q]; simp) with z | z | z
          · exact absurd g1 z
          · exact absurd z z3
          · exact absurd z nf1
      · exact hn' a nf1 h1'
    refine ⟨by simpa using R.len, gh, fun a o q n => ?_, R1.gg.trans sg, fun a q => ?_, fun a z => ?_, fun w s'' e1 e2 e3 => ?_, (by rw [R.tc]; exact tb'), R.tz, R.tc, fun a h => hn' a (fun y => h (old a y).2.1) (R1.hn a h), fun j a => if j = i then (own i a ∧ ¬ F1 a) ∨ F1' a else own j a, fun j a w => ?_, fun j k a w1 w2 => ?_, fun j s'' q => ?_⟩
    · refine keep a o (fun y => ?_) (R1.hh a o q n) n
      rw [(old a y).2.1] at q; cases q
    · rcases nw a q with z | z | z
      · exact R1.new a z
      · exact .inr (R.hf z)
      · exact .inr (old a z).2.1
    · exact hn' a (fun y => (old a y).2.2.2 z) (R1.zz a z)
    · rcases set_get e2 with ⟨ei, hl, rfl⟩ | ⟨ei, q⟩
      · subst ei
        exact R.an w s e1 hi (setR_own hg es io e3)
      · exact R.an w s'' e1 q e3
    · by_cases ej : j = i
      · simp only [ej, if_true] at w
        rcases w with w | w
        · obtain ⟨z1, z2, z3, z4⟩ := o1 i a w.1
          obtain ⟨y1, y2⟩ := stay i a w.1 w.2
          exact ⟨y1, z2, y2, z4⟩
        · obtain ⟨y1, y2, y3⟩ := nf a w
          rcases y3 with y3 | y3
          · exact ⟨y1, (old a y3).2.1, y2, (old a y3).2.2.2⟩
          · exact ⟨y1, R.hf y3, y2, fun z => R.zz a z y3⟩
      · simp only [ej, if_false] at w
        have nf1 : ¬ F1 a := fun y => ej (o2 j i a w (sF a y))
        obtain ⟨z1, z2, z3, z4⟩ := o1 j a w
        obtain ⟨y1, y2⟩ := stay j a w nf1
        exact ⟨y1, z2, y2, z4⟩
    · have cross : ∀ j', j' ≠ i → own j' a → ¬ ((own i a ∧ ¬ F1 a) ∨ F1' a) := fun j' ne w y => by
        rcases y with y | y
        · exact ne (o2 j' i a w y.1)
        · rcases (nf a y).2.2 with z | z
          · exact ne (o2 j' i a w (sF a z))
          · exact (o1 j' a w).2.2.1 z
      by_cases e1 : j = i
      · by_cases e2 : k = i
        · rw [e1, e2]
        · simp only [e1, e2, if_true, if_false] at w1 w2
          exact absurd w1 (cross k e2 w2)
      · by_cases e2 : k = i
        · simp only [e1, e2, if_true, if_false] at w1 w2
          exact absurd w2 (cross j e1 w1)
        · simp only [e1, e2, if_false] at w1 w2
          exact o2 j k a w1 w2
    · rcases set_get q with ⟨ej, hl, rfl⟩ | ⟨ej, q⟩
      · subst ej
        refine .inr (.inl ⟨v0, e0, ?_⟩)
        simp only [if_true]
        exact big
      · rcases o3 j s'' q with z | ⟨w, z1, z2⟩ | ⟨w, d, z0, z1, z2⟩
        · exact .inl z
        · refine .inr (.inl ⟨w, z1, ?_⟩)
          simp only [Ne.symm ej, if_false]
          refine z2.mono (x.gg.trans sg) fun a o fa q n => keep a o (fun y => ?_) (x.hh a o q n) n
          exact ej (o2 i j a (sF a y) fa)
        · exact .inr (.inr ⟨w, d, z0, z1, z2.mono (x.gg.trans sg) (same_n (Same.refl _))⟩)
theorem Rel.sh (R : Rel K mg G0 H0 Z Γ σ G H) {i : Nat} {d : D} (hi : Γ[i]? = some (.sh d)) : ∃ v, σ[i]? = some (some v) ∧ Rep K mg G v d := by
  obtain ⟨own, o1, o2, o3⟩ := R.own
  rcases o3 i _ hi with z | ⟨v, h1, h2⟩ | ⟨_, _, z, _⟩
  · cases z
  · cases h2 with
    | sh h => exact ⟨v, h1, h⟩
  · cases z
theorem Rel.bo (R : Rel K mg G0 H0 Z Γ σ G H) {i : Nat} {d : D} (hi : Γ[i]? = some (.bo d)) : ∃ v, σ[i]? = some (some v) ∧ RepB K mg G H v d := by
  obtain ⟨own, o1, o2, o3⟩ := R.own
  rcases o3 i _ hi with z | ⟨v, h1, h2⟩ | ⟨v, d', z, h1, h2⟩
  · cases z
  · cases h2
  · cases z; exact ⟨v, h1, h2.mono (Same.refl _) R.hh⟩
theorem Rel.ow (R : Rel K mg G0 H0 Z Γ σ G H) {i : Nat} {xs : List D} (hi : Γ[i]? = some (.ow xs)) : ∃ p vs, σ[i]? = some (some (.ref p)) ∧ G p = none ∧ H0 p = none ∧ H p = some (.lst vs) ∧ RepL K mg G vs xs := by
  obtain ⟨own, o1, o2, o3⟩ := R.own
  rcases o3 i _ hi with z | ⟨v, h1, h2⟩ | ⟨_, _, z, _⟩
  · cases z
  · cases h2 with
    | ow f h r => exact ⟨_, _, h1, (o1 i _ f).1, (o1 i _ f).2.1, h, r⟩
  · cases z
/-- a field of a place -/
theorem Pack.fld {i : Nat} {rp : Pth} {s s1 : Sl} {c j : Nat} {fs : List Sl} {v : V} {F : Addr → Prop} {Hb : Hp} (P : Pack K mg G0 H0 Z Γ σ i rp s (.ob c fs) v F Hb G H) (hg : getR rp s = some (.ob c fs)) (hj : fs[j]? = some s1) :
    ∃ p C dx vs v1 F1, v = .ref p ∧ mg (cN c) = some (.ref C) ∧ H p = some (.ins C dx ((cF c).zip vs)) ∧ vs[j]? = some v1 ∧ Pack K mg G0 H0 Z Γ σ i ((c, j) :: rp) s s1 v1 F1 Hb G H := by
  have hd := P.hd
  cases hd with
  | ob f hm ho n sF r =>
    rename_i p C dx vs F'
    obtain ⟨v1, F1, e1, h1, s1F, k1⟩ := r.upd j hj
    refine ⟨p, C, dx, vs, v1, F1, rfl, hm, ho, e1, h1, fun a y => P.fr a (sF a (s1F a y)), P.tb, fun a y => P.ntz a (sF a (s1F a y)), P.hbt, fun G' H' F1' s1' s' sg gh tb' hn' nw keep h' nf io es => ?_⟩
    have hlt : j < fs.length := (List.getElem?_eq_some_iff.mp hj).1
    unfold setR at es
    rw [hg] at es
    replace es : (if c = c ∧ j < fs.length then setR rp (.ob c (fs.set j s1')) s else none) = some s' := es
    rw [if_pos ⟨rfl, hlt⟩] at es
    have nf' : ∀ a, F1' a → F1 a ∨ ¬ F a := fun a x => by
      rcases (nf a x).2.2 with z | z
      · exact .inl z
      · exact .inr fun y => (P.fr a y).2.2.2.2 z
    have t := k1 G' H' F1' s1' sg (fun a o fa nfa q n => keep a o nfa q n) h' fun a x => by
      rcases nf' a x with z | z
      · exact .inl z
      · exact .inr fun y => z (sF a y)
    have np1 : ¬ F1 p := fun y => n (s1F p y)
    have np1' : ¬ F1' p := fun y => by
      rcases nf' p y with z | z
      · exact np1 z
      · exact z f
    have hob : Hd K mg G' H' (.ref p) (fun a => (F a ∧ ¬ F1 a) ∨ F1' a) (.ob c (fs.set j s1')) := by
      refine .ob (.inl ⟨f, np1⟩) hm (keep p _ np1 ho nofun) (F' := fun a => (F' a ∧ ¬ F1 a) ∨ F1' a) (fun y => ?_) (fun a y => ?_) t
      · rcases y with y | y
        · exact n y.1
        · exact np1' y
      · rcases y with y | y
        · exact .inl ⟨sF a y.1, y.2⟩
        · exact .inr y
    refine P.upC G' H' _ _ s' sg gh tb' (fun a nfa h => hn' a (fun y => nfa (sF a (s1F a y))) h) (fun a q => ?_) (fun a o nfa q n => keep a o (fun y => nfa (sF a (s1F a y))) q n) hob (fun a y => ?_) (fun _ => rfl) es
    · rcases nw a q with z | z | z
      · exact .inl z
      · exact .inr (.inl z)
      · exact .inr (.inr (sF a (s1F a z)))
    · rcases y with y | y
      · obtain ⟨z1, z2, z3, z4, z5⟩ := P.fr a y.1
        refine ⟨?_, ?_, .inl y.1⟩
        · cases q : G' a with
          | none => rfl
          | some u =>
            rcases nw a (by rw [q]; simp) with w | w | w
            · exact absurd z1 w
            · exact absurd w z5
            · exact absurd w y.2
        · exact hn' a y.2 z3
      · obtain ⟨z1, z2, z3⟩ := nf a y
        refine ⟨z1, z2, ?_⟩
        rcases z3 with z3 | z3
        · exact .inl (sF a (s1F a z3))
        · exact .inr z3
/-- an item of a place that is a list of things -/
theorem Pack.itm {i : Nat} {rp : Pth} {s s1 : Sl} {j : Nat} {fs : List Sl} {v : V} {F : Addr → Prop} {Hb : Hp} (P : Pack K mg G0 H0 Z Γ σ i rp s (.ol fs) v F Hb G H) (hg : getR rp s = some (.ol fs)) (hj : fs[j]? = some s1) :
    ∃ p vs v1 F1, v = .ref p ∧ H p = some (.lst vs) ∧ vs.length = fs.length ∧ vs[j]? = some v1 ∧ Pack K mg G0 H0 Z Γ σ i ((1000, j) :: rp) s s1 v1 F1 Hb G H := by
  have hd := P.hd
  cases hd with
  | ol f ho n sF r =>
    rename_i p vs F'
    obtain ⟨v1, F1, e1, h1, s1F, k1⟩ := r.upd j hj
    refine ⟨p, vs, v1, F1, rfl, ho, r.length, e1, h1, fun a y => P.fr a (sF a (s1F a y)), P.tb, fun a y => P.ntz a (sF a (s1F a y)), P.hbt, fun G' H' F1' s1' s' sg gh tb' hn' nw keep h' nf io es => ?_⟩
    have hlt : j < fs.length := (List.getElem?_eq_some_iff.mp hj).1
    unfold setR at es
    rw [hg] at es
    replace es : (if 1000 = 1000 ∧ j < fs.length then setR rp (.ol (fs.set j s1')) s else none) = some s' := es
    rw [if_pos ⟨rfl, hlt⟩] at es
    have nf' : ∀ a, F1' a → F1 a ∨ ¬ F a := fun a x => by
      rcases (nf a x).2.2 with z | z
      · exact .inl z
      · exact .inr fun y => (P.fr a y).2.2.2.2 z
    have t := k1 G' H' F1' s1' sg (fun a o fa nfa q n => keep a o nfa q n) h' fun a x => by
      rcases nf' a x with z | z
      · exact .inl z
      · exact .inr fun y => z (sF a y)
    have np1 : ¬ F1 p := fun y => n (s1F p y)
    have np1' : ¬ F1' p := fun y => by
      rcases nf' p y with z | z
      · exact np1 z
      · exact z f
    have hob : Hd K mg G' H' (.ref p) (fun a => (F a ∧ ¬ F1 a) ∨ F1' a) (.ol (fs.set j s1')) := by
      refine .ol (.inl ⟨f, np1⟩) (keep p _ np1 ho nofun) (F' := fun a => (F' a ∧ ¬ F1 a) ∨ F1' a) (fun y => ?_) (fun a y => ?_) t
      · rcases y with y | y
        · exact n y.1
        · exact np1' y
      · rcases y with y | y
        · exact .inl ⟨sF a y.1, y.2⟩
        · exact .inr y
    refine P.upC G' H' _ _ s' sg gh tb' (fun a nfa h => hn' a (fun y => nfa (sF a (s1F a y))) h) (fun a q => ?_) (fun a o nfa q n => keep a o (fun y => nfa (sF a (s1F a y))) q n) hob (fun a y => ?_) (fun _ => rfl) es
    · rcases nw a q with z | z | z
      · exact .inl z
      · exact .inr (.inl z)
      · exact .inr (.inr (sF a (s1F a z)))
    · rcases y with y | y
      · obtain ⟨z1, z2, z3, z4, z5⟩ := P.fr a y.1
        refine ⟨?_, ?_, .inl y.1⟩
        · cases q : G' a with
          | none => rfl
          | some u =>
            rcases nw a (by rw [q]; simp) with w | w | w
            · exact absurd z1 w
            · exact absurd w z5
            · exact absurd w y.2
        · exact hn' a y.2 z3
      · obtain ⟨z1, z2, z3⟩ := nf a y
        refine ⟨z1, z2, ?_⟩
        rcases z3 with z3 | z3
        · exact .inl (sF a (s1F a z3))
        · exact .inr z3
/-- a place of one's own becomes known to all -/
theorem Rel.frzP (R : Rel K mg G0 H0 Z Γ σ G H) {i : Nat} {rp : Pth} {s s1 s' : Sl} {d : D} (hi : Γ[i]? = some s) (hg : getR rp s = some s1) (hn : s1 ≠ .no) (hs : SlP s) (hd : toD s1 = some d) (es : setR rp (.sh d) s = some s') :
    ∃ G', Rel K mg G0 H0 Z (Γ.set i s') σ G' H ∧ Same G G' := by
  obtain ⟨v, F1, _, pk⟩ := R.pack hi hg hn hs
  have p := pk G H (Ext.refl R.gh)
  obtain ⟨G', x, r⟩ := p.hd.frz hd R.gh fun a z => (p.fr a z).1
  refine ⟨G', p.up G' H (fun _ => False) (.sh d) s' x.gg x.gh (fun a q => ?_) (fun _ _ _ q => q) (.sh r) (fun _ z => z.elim) (fun z => nomatch z) es, x.gg⟩
  rcases x.new a q with z | z
  · exact .inl z
  · exact .inr (.inr z)
end

/-! ### judgements over data -/
abbrev Ex := DEnv → Option D
abbrev Te := DEnv → Option Bool
abbrev Ag := DEnv → Option (List D)
inductive Res where
  | nx (Γ : DEnv) | rt (d : D) | rm (d : D) (s : Sl) | ro (s : Sl) | bk (Γ : DEnv) | ct (Γ : DEnv) | ra (n : Int)
abbrev Sm := DEnv → Option Res

structure E (X : Cx) (e : Expr) (f : Ex) : Prop where
  ex : ∃ t, PE X e t ∧ ∀ G0 H0 Z Γ σ G H Q d, Rel X.K X.mg G0 H0 Z Γ σ G H → f Γ = some d → (∀ G' H' v, Ext G H G' H' → Rep X.K X.mg G' v d → Q v H') → t σ H Q
/-- a new list -/
structure EL (X : Cx) (e : Expr) (f : Ag) : Prop where
  ex : ∃ t, PE X e t ∧ ∀ G0 H0 Z Γ σ G H Q ds, Rel X.K X.mg G0 H0 Z Γ σ G H → f Γ = some ds → (∀ G' H' p vs, Ext G H G' H' → H p = none → G' p = none → H' p = some (.lst vs) → RepL X.K X.mg G' vs ds → Q (.ref p) H') → t σ H Q
/-- a list, maybe one's own, that is only looked at -/
structure EB (X : Cx) (e : Expr) (f : Ag) : Prop where
  ex : ∃ t, PE X e t ∧ ∀ G0 H0 Z Γ σ G H Q ds, Rel X.K X.mg G0 H0 Z Γ σ G H → f Γ = some ds → (∀ G' H' p vs, Ext G H G' H' → SqL X.K H' p vs → RepL X.K X.mg G' vs ds → Q (.ref p) H') → t σ H Q
structure T (X : Cx) (e : Expr) (f : Te) : Prop where
  ex : ∃ t, PT X e t ∧ ∀ G0 H0 Z Γ σ G H Q b, Rel X.K X.mg G0 H0 Z Γ σ G H → f Γ = some b → (∀ G' H', Ext G H G' H' → Q b H') → t σ H Q
structure W (X : Cx) (e : Expr) (f : Te) : Prop where
  ex : ∃ t, PW X e t ∧ ∀ G0 H0 Z Γ σ G H Q b, Rel X.K X.mg G0 H0 Z Γ σ G H → f Γ = some b → (∀ G' H', Ext G H G' H' → Q b H') → t σ H Q
structure A (X : Cx) (es : List Expr) (f : Ag) : Prop where
  ex : ∃ t, PA X es t ∧ ∀ G0 H0 Z Γ σ G H Q ds, Rel X.K X.mg G0 H0 Z Γ σ G H → f Γ = some ds → (∀ G' H' vs, Ext G H G' H' → RepL X.K X.mg G' vs ds → Q vs H') → t σ H Q
/-! an exception with a number -/
def WS (X : Cx) : WX := fun cls d σ H => ∀ u s', XE X (fun c' d' σ' H' => c' = cls ∧ d' = d ∧ σ' = σ ∧ H' = H) u s' → X.xe u s'
theorem takes_WS {X : Cx} : Takes X (WS X) := fun u s' ⟨a, B, sI, pins, σ, H, cls, d, e, I, nb, up, sky, na, os, ag, w⟩ =>
  w u s' ⟨a, B, sI, pins, σ, H, cls, d, e, I, nb, up, sky, na, os, ag, rfl, rfl, rfl, rfl⟩
/-- its class, its field line -/
def XIp (mg : Str → Option Value) (n : Int) (cls : Value) (d : Option Addr) (H0 H : Hp) : Prop := ∃ C dx, mg "InvalidPaper" = some (.ref C) ∧ cls = .ref C ∧ d = some dx ∧ H dx = some (.xd [("line", .int n)]) ∧ H0 dx = none
def RaiseOk (X : Cx) (G0 H0 : Hp) (Z : Zs) (n : Int) : Prop := ∀ cls d σ G H, Rel X.K X.mg G0 H0 Z (List.replicate σ.length .no) σ G H → XIp X.mg n cls d H0 H → WS X cls d σ H
/-- what is wanted behind a statement -/
def Fin (X : Cx) (G0 H0 : Hp) (Z : Zs) (D : Ends) : Res → Prop
  | .nx Γ => ∀ σ G H, Rel X.K X.mg G0 H0 Z Γ σ G H → D.nx σ H
  | .bk Γ => ∀ σ G H, Rel X.K X.mg G0 H0 Z Γ σ G H → D.bk σ H
  | .ct Γ => ∀ σ G H, Rel X.K X.mg G0 H0 Z Γ σ G H → D.ct σ H
  | .rt d => ∀ G H v, Ext G0 H0 G H → Rep X.K X.mg G v d → D.rt v H
  | .ro s => ∀ G H v F, Ext G0 H0 G H → Hd X.K X.mg G H v F s → (∀ a, F a → G a = none ∧ H0 a = none ∧ H a ≠ none) → D.rt v H
  | .ra n => RaiseOk X G0 H0 Z n
  | .rm d s => ∀ Γ σ G H v, Rel X.K X.mg G0 H0 Z Γ σ G H → Γ[0]? = some s → Rep X.K X.mg G v d → D.rt v H
structure S (X : Cx) (st : Stmt) (f : Sm) : Prop where
  ex : ∃ t, PS X st t ∧ ∀ G0 H0 Z Γ σ G H D r, Rel X.K X.mg G0 H0 Z Γ σ G H → f Γ = some r → Fin X G0 H0 Z D r → t D σ H
structure Ss (X : Cx) (st : List Stmt) (f : Sm) : Prop where
  ex : ∃ t, PSs X st t ∧ ∀ G0 H0 Z Γ σ G H D r, Rel X.K X.mg G0 H0 Z Γ σ G H → f Γ = some r → Fin X G0 H0 Z D r → t D σ H
end DL

namespace DL
open PySem L2
variable [TC : TabCtx]

theorem obind {α β : Type} {o : Option α} {f : α → Option β} {b : β} (h : o.bind f = some b) : ∃ a, o = some a ∧ f a = some b := by
  cases o with
  | none => cases h
  | some a => exact ⟨a, rfl, h⟩

/-! ### what is looked at: a datum, or a list of one's own -/
structure B (X : Cx) (e : Expr) (f : Ex) : Prop where
  ex : ∃ t, PE X e t ∧ ∀ G0 H0 Z Γ σ G H Q d, Rel X.K X.mg G0 H0 Z Γ σ G H → f Γ = some d → (∀ G' H' v, Ext G H G' H' → RepB X.K X.mg G' H' v d → Q v H') → t σ H Q

section
variable {K : PySem.W.Frag} {mg : Str → Option Value} {G H G' H' : Hp} {v : V} {d : D}
theorem RepB.ext (r : RepB K mg G H v d) (e : Ext G H G' H') : RepB K mg G' H' v d := by
  exact r.mono e.gg e.hh
/-- a list that is looked at -/
theorem RepB.lst {xs : List D} (gh : Same G H) (r : RepB K mg G H v (.lst xs)) : ∃ p vs, v = .ref p ∧ H p = some (.lst vs) ∧ RepL K mg G vs xs := by
  cases r with
  | sh r => cases r with
    | lst h r => exact ⟨_, _, rfl, gh _ _ h, r⟩
  | li h r => exact ⟨_, _, rfl, h, r⟩
theorem RepB.tup {xs : List D} (gh : Same G H) (r : RepB K mg G H v (.tup xs)) : ∃ p vs, v = .ref p ∧ SqT K H p vs ∧ RepL K mg G vs xs := by
  cases r with
  | sh r => cases r with
    | tup h r => exact ⟨_, _, rfl, sqt_same gh h, r⟩
theorem RepB.scr {ns : List Int} (gh : Same G H) (r : RepB K mg G H v (.scr ns)) : ∃ p, v = .ref p ∧ SqL K H p (ns.map V.int) := by
  cases r with
  | sh r => cases r with
    | scr h => exact ⟨_, rfl, gh.seq h⟩
mutual
theorem Hd.bo : ∀ {v : V} {F : Addr → Prop} {s : Sl} {d : D}, Hd K mg G H v F s → toD s = some d → RepB K mg G H v d
  | _, _, _, _, .sh h, e => by simp only [toD] at e; cases e; exact .sh h
  | _, _, _, _, .ow f h r, e => by simp only [toD] at e; cases e; exact .li h r
  | _, _, _, _, .dk _ h l r, e => by simp only [toD] at e; cases e; exact .dic h l r
  | _, _, _, _, .ob f hm h n s r, e => by
    simp only [toD, Option.map_eq_some_iff] at e
    obtain ⟨ds, e1, rfl⟩ := e
    exact .obj hm h (HdL.bo r e1)
  | _, _, _, _, .ol _ _ _ _ _, e => by simp only [toD] at e; cases e
theorem HdL.bo : ∀ {vs : List V} {F : Addr → Prop} {ss : List Sl} {ds : List D}, HdL K mg G H vs F ss → toDs ss = some ds → RepBL K mg G H vs ds
  | _, _, _, _, .nil, e => by simp only [toDs] at e; cases e; exact .nil
  | _, _, _, _, .cons h r s1 s2 dj, e => by
    simp only [toDs] at e
    cases q1 : toD _ with
    | none => rw [q1] at e; cases e
    | some d =>
      rw [q1] at e
      simp only [Option.bind_some, Option.map_eq_some_iff] at e
      obtain ⟨ds, e2, rfl⟩ := e
      exact .cons (Hd.bo h q1) (HdL.bo r e2)
end
theorem Rep.flat (r : Rep K mg G v d) : (∀ i, d = .int i → v = .int i) ∧ (∀ b, d = .bl b → v = .bl b) ∧ (d = .non → v = .non) ∧ (∀ x, d = .str x → v = .str x) := by
  cases r <;> simp
end

/-! ### expressions -/
def gV (i : Nat) : Ex := fun Γ => match Γ[i]? with | some (.sh d) => some d | _ => none
def gB (i : Nat) : Ex := fun Γ => match Γ[i]? with | some (.sh d) => some d | some (.ow xs) => some (.lst xs) | some (.bo d) => some d | some (.ob c fs) => toD (.ob c fs) | some (.dk ks xs) => some (.dic ks xs) | _ => none
def gC (d : D) : Ex := fun _ => some d
def gI (i : Int) : Ex := fun _ => some (.int i)

section
variable {X : Cx} {e a b : Expr} {es : List Expr} {f g : Ex} {fs : Ag} {pos : Pos}

theorem e_var (i : Nat) {x : Str} (hN : X.N[i]? = some x := by rfl) (hv : Vis X.env.scope x := by first | exact Or.inl rfl | exact Or.inr (Or.inl rfl) | exact Or.inr (Or.inr rfl)) (hd : (x == ("__debug__" : Str)) = false := by decide)
    (hcd : (x == ("__classdict__" : Str)) = false := by decide) : E X (.Name x pos) (gV i) := by
  refine ⟨⟨_, pe_var hN hv hd hcd, fun G0 H0 Z Γ σ G H Q d R hf k => ?_⟩⟩
  unfold gV at hf
  cases q : Γ[i]? with
  | none => rw [q] at hf; cases hf
  | some s =>
    rw [q] at hf
    cases s with
    | sh d' =>
      cases hf
      obtain ⟨v, h1, h2⟩ := R.sh q
      exact ⟨v, h1, k G H v (Ext.refl R.gh) h2⟩
    | _ => cases hf
theorem b_var (i : Nat) {x : Str} (hN : X.N[i]? = some x := by rfl) (hv : Vis X.env.scope x := by first | exact Or.inl rfl | exact Or.inr (Or.inl rfl) | exact Or.inr (Or.inr rfl)) (hd : (x == ("__debug__" : Str)) = false := by decide)
    (hcd : (x == ("__classdict__" : Str)) = false := by decide) : B X (.Name x pos) (gB i) := by
  refine ⟨⟨_, pe_var hN hv hd hcd, fun G0 H0 Z Γ σ G H Q d R hf k => ?_⟩⟩
  unfold gB at hf
  cases q : Γ[i]? with
  | none => rw [q] at hf; cases hf
  | some s =>
    rw [q] at hf
    cases s with
    | ow xs =>
      cases hf
      obtain ⟨p, vs, h1, h2, h3, h4, h5⟩ := R.ow q
      exact ⟨_, h1, k G H _ (Ext.refl R.gh) (.li h4 h5)⟩
    | sh d' =>
      cases hf
      obtain ⟨v, h1, h2⟩ := R.sh q
      exact ⟨v, h1, k G H v (Ext.refl R.gh) (.sh h2)⟩
    | bo d' =>
      cases hf
      obtain ⟨v, h1, h2⟩ := R.bo q
      exact ⟨v, h1, k G H v (Ext.refl R.gh) h2⟩
    | ob c fs =>
      obtain ⟨own, o1, o2, o3⟩ := R.own
      rcases o3 i _ q with z | ⟨v, h1, h2⟩ | ⟨_, _, z, _⟩
      · cases z
      · exact ⟨v, h1, k G H v (Ext.refl R.gh) (h2.bo hf)⟩
      · cases z
    | dk ks xs =>
      obtain ⟨own, o1, o2, o3⟩ := R.own
      rcases o3 i _ q with z | ⟨v, h1, h2⟩ | ⟨_, _, z, _⟩
      · cases z
      · exact ⟨v, h1, k G H v (Ext.refl R.gh) (h2.bo (by cases hf; simp only [toD]))⟩
      · cases z
    | _ => cases hf
theorem E.bo (h : E X e f) : B X e f := by
  obtain ⟨t, h1, h2⟩ := h.ex
  exact ⟨⟨t, h1, fun G0 H0 Z Γ σ G H Q d R hf k => h2 G0 H0 Z Γ σ G H Q d R hf fun G' H' v e r => k G' H' v e (.sh r)⟩⟩
theorem e_int {i : Int} {j} : E X (.Constant (.int i) j pos) (gI i) := ⟨⟨_, pe_int, fun G0 H0 Z Γ σ G H Q d R hf k => by cases hf; exact k G H _ (Ext.refl R.gh) (.int i)⟩⟩
theorem e_bl {i : Bool} {j} : E X (.Constant (.bool i) j pos) (gC (.bl i)) := ⟨⟨_, pe_bl, fun G0 H0 Z Γ σ G H Q d R hf k => by cases hf; exact k G H _ (Ext.refl R.gh) (.bl i)⟩⟩
theorem e_non {j} : E X (.Constant .none j pos) (gC .non) := ⟨⟨_, pe_non, fun G0 H0 Z Γ σ G H Q d R hf k => by cases hf; exact k G H _ (Ext.refl R.gh) .non⟩⟩
theorem e_str {x : Str} {j} : E X (.Constant (.str x) j pos) (gC (.str x)) := ⟨⟨_, pe_str, fun G0 H0 Z Γ σ G H Q d R hf k => by cases hf; exact k G H _ (Ext.refl R.gh) (.str x)⟩⟩

/-! argument lists, displays -/
def aN : Ag := fun _ => some []
def aC (f : Ex) (r : Ag) : Ag := fun Γ => (f Γ).bind fun d => (r Γ).bind fun ds => some (d :: ds)
theorem a_nil : A X [] aN := ⟨⟨_, pa_nil, fun G0 H0 Z Γ σ G H Q ds R hf k => by cases hf; exact k G H _ (Ext.refl R.gh) .nil⟩⟩
theorem a_cons (he : E X e f) (hr : A X es fs) (hs : starEach (e :: es) X.env = (false, eval e X.env) :: starEach es X.env := by rfl) : A X (e :: es) (aC f fs) := by
  obtain ⟨t, h1, h2⟩ := he.ex
  obtain ⟨u, q1, q2⟩ := hr.ex
  refine ⟨⟨_, pa_cons h1 q1 hs, fun G0 H0 Z Γ σ G H Q ds R hf k => ?_⟩⟩
  obtain ⟨d, e1, hf⟩ := obind hf
  obtain ⟨es, e2, hf⟩ := obind hf
  cases hf
  refine h2 G0 H0 Z Γ σ G H _ d R e1 fun G1 H1 v x1 r1 => ?_
  refine q2 G0 H0 Z Γ σ G1 H1 _ es (R.ext x1) e2 fun G2 H2 vs x2 r2 => ?_
  exact k G2 H2 _ (x1.trans x2) (.cons (r1.mono x2.gg) r2)
/-- the number of items is known -/
def gTu (n : Nat) (fs : Ag) : Ex := fun Γ => (fs Γ).bind fun ds => some (.tup ds)
def gLst (fs : Ag) : Ag := fs
/-- displays are short: how many items is seen from the text -/
theorem A.len {X : Cx} : True := True.intro
end

/-- .. as a list of as many items as written -/
structure AN (X : Cx) (es : List Expr) (n : Nat) (f : Ag) : Prop where
  a : A X es f
  n : ∀ Γ ds, f Γ = some ds → ds.length = n
section
variable {X : Cx} {e a b : Expr} {es : List Expr} {f g : Ex} {fs : Ag} {pos : Pos} {n : Nat}
theorem n_nil : AN X [] 0 aN := ⟨a_nil, fun _ _ h => by cases h; rfl⟩
theorem n_cons (he : E X e f) (hr : AN X es n fs) (hs : starEach (e :: es) X.env = (false, eval e X.env) :: starEach es X.env := by rfl) : AN X (e :: es) (n + 1) (aC f fs) :=
  ⟨a_cons he hr.a hs, fun Γ ds h => by
    obtain ⟨d, e1, h⟩ := obind h
    obtain ⟨es, e2, h⟩ := obind h
    cases h
    simp [hr.n Γ es e2]⟩
theorem e_tup {x1} (h : AN X es n fs) (hn : n ≤ 1000 := by decide) : E X (.Tuple es x1 pos) (gTu n fs) := by
  obtain ⟨t, h1, h2⟩ := h.a.ex
  refine ⟨⟨_, pe_tup h1, fun G0 H0 Z Γ σ G H Q d R hf k => ?_⟩⟩
  obtain ⟨ds, e1, hf⟩ := obind hf
  cases hf
  refine h2 G0 H0 Z Γ σ G H _ ds R e1 fun G1 H1 vs x1 r1 => ⟨?_, fun p hp => ?_⟩
  · rw [r1.length, h.n Γ ds e1]; exact Nat.le_of_lt (small1000 hn)
  · have x2 := Ext.new1 (o := .tup vs) x1.gh hp
    exact k _ _ _ (x1.trans x2) (.tup (SqT.of upd_same) (r1.mono x2.gg))
theorem el_lst (h : AN X es n fs) (hn : n ≤ 1000 := by decide) : EL X (.List es pos) fs := by
  obtain ⟨t, h1, h2⟩ := h.a.ex
  refine ⟨⟨_, pe_lst h1, fun G0 H0 Z Γ σ G H Q ds R hf k => ?_⟩⟩
  refine h2 G0 H0 Z Γ σ G H _ ds R hf fun G1 H1 vs x1 r1 => ⟨?_, fun p hp => ?_⟩
  · rw [r1.length, h.n Γ ds hf]; exact Nat.le_of_lt (small1000 hn)
  · exact k _ _ p vs (x1.trans (Ext.own1 x1.gh hp)) (x1.hf hp) (x1.gh.free hp) upd_same r1
/-- a new list is handed on: known from now on -/
def gL (fs : Ag) : Ex := fun Γ => (fs Γ).bind fun ds => some (.lst ds)
theorem EL.fz (h : EL X e fs) : E X e (gL fs) := by
  obtain ⟨t, h1, h2⟩ := h.ex
  refine ⟨⟨_, h1, fun G0 H0 Z Γ σ G H Q d R hf k => ?_⟩⟩
  obtain ⟨ds, e1, hf⟩ := obind hf
  cases hf
  refine h2 G0 H0 Z Γ σ G H _ ds R e1 fun G1 H1 p vs x1 hp gp h r => ?_
  have sg : Same G1 (upd G1 p (.lst vs)) := same_upd gp
  exact k (upd G1 p (.lst vs)) H1 _ (x1.frz1 hp gp h) (.lst upd_same (r.mono sg))

/-! operators -/
def OpD (X : Cx) (fn : Value → Value → Sem Value) (o : D → D → Option D) : Prop :=
  ∃ r, OpR X fn r ∧ ∀ x y d v w G H Q, Same G H → o x y = some d → Rep X.K X.mg G v x → Rep X.K X.mg G w y → (∀ G' H' u, Ext G H G' H' → Rep X.K X.mg G' u d → Q u H') → r v w H Q
def gOp (o : D → D → Option D) (f g : Ex) : Ex := fun Γ => (f Γ).bind fun x => (g Γ).bind fun y => o x y
theorem op_run {r : R2} {o : D → D → Option D} (hr : ∀ x y d v w G H Q, Same G H → o x y = some d → Rep X.K X.mg G v x → Rep X.K X.mg G w y → (∀ G' H' u, Ext G H G' H' → Rep X.K X.mg G' u d → Q u H') → r v w H Q)
    {t u : TE} (h2 : ∀ G0 H0 Z Γ σ G H Q d, Rel X.K X.mg G0 H0 Z Γ σ G H → f Γ = some d → (∀ G' H' v, Ext G H G' H' → Rep X.K X.mg G' v d → Q v H') → t σ H Q)
    (q2 : ∀ G0 H0 Z Γ σ G H Q d, Rel X.K X.mg G0 H0 Z Γ σ G H → g Γ = some d → (∀ G' H' v, Ext G H G' H' → Rep X.K X.mg G' v d → Q v H') → u σ H Q) :
    ∀ G0 H0 Z Γ σ G H Q d, Rel X.K X.mg G0 H0 Z Γ σ G H → gOp o f g Γ = some d → (∀ G' H' v, Ext G H G' H' → Rep X.K X.mg G' v d → Q v H') → tOp r t u σ H Q := fun G0 H0 Z Γ σ G H Q d R hf k => by
  obtain ⟨x, e1, hf⟩ := obind hf
  obtain ⟨y, e2, hf⟩ := obind hf
  refine h2 G0 H0 Z Γ σ G H _ x R e1 fun G1 H1 v x1 r1 => ?_
  refine q2 G0 H0 Z Γ σ G1 H1 _ y (R.ext x1) e2 fun G2 H2 w x2 r2 => ?_
  exact hr x y d v w G2 H2 Q x2.gh hf (r1.mono x2.gg) r2 fun G3 H3 u x3 r3 => k G3 H3 u ((x1.trans x2).trans x3) r3
theorem e_op {op : Operator} {o : D → D → Option D} (ho : OpD X (binaryOp op) o) (ha : E X a f) (hb : E X b g) : E X (.BinOp a op b pos) (gOp o f g) := by
  obtain ⟨r, hr, hr2⟩ := ho
  obtain ⟨t, h1, h2⟩ := ha.ex
  obtain ⟨u, q1, q2⟩ := hb.ex
  exact ⟨⟨_, pe_op hr h1 q1, op_run hr2 h2 q2⟩⟩
theorem e_cmp {op : CmpOp} {o : D → D → Option D} (ho : OpD X (compareOp op) o) (ha : E X a f) (hb : E X b g) (hm : behindInMarks op b = false := by first | exact nomark _ | rfl) : E X (.Compare a [op] [b] pos) (gOp o f g) := by
  obtain ⟨r, hr, hr2⟩ := ho
  obtain ⟨t, h1, h2⟩ := ha.ex
  obtain ⟨u, q1, q2⟩ := hb.ex
  exact ⟨⟨_, pe_cmpR hr h1 q1 hm, op_run hr2 h2 q2⟩⟩
/-- an expression that gives True or False, as a test -/
def gT (f : Ex) : Te := fun Γ => (f Γ).bind fun d => match d with | .bl b => some b | _ => none
theorem gT_some {Γ : DEnv} {b : Bool} (h : gT f Γ = some b) : f Γ = some (.bl b) := by
  obtain ⟨d, e, h⟩ := obind h
  cases d with
  | bl c => cases h; exact e
  | _ => cases h
theorem t_cmp {op : CmpOp} {o : D → D → Option D} (ho : OpD X (compareOp op) o) (ha : E X a f) (hb : E X b g) (hm : behindInMarks op b = false := by first | exact nomark _ | rfl) : T X (.Compare a [op] [b] pos) (gT (gOp o f g)) := by
  obtain ⟨r, hr, hr2⟩ := ho
  obtain ⟨t, h1, h2⟩ := ha.ex
  obtain ⟨u, q1, q2⟩ := hb.ex
  refine ⟨⟨_, pt_cmpR hr h1 q1 hm, fun G0 H0 Z Γ σ G H Q c R hf k => ?_⟩⟩
  refine op_run hr2 h2 q2 G0 H0 Z Γ σ G H _ _ R (gT_some hf) fun G' H' v x r => ?_
  cases r
  exact ⟨_, rfl, k G' H' x⟩
theorem t_val (h : E X e f) (he : ∀ whole, isTrue e X.env whole = (do let v ← whole; standAt e.pos; holding [v] (truthy v)) := by intro _; rfl) : T X e (gT f) := by
  obtain ⟨t, h1, h2⟩ := h.ex
  refine ⟨⟨_, pt_val h1 he, fun G0 H0 Z Γ σ G H Q c R hf k => ?_⟩⟩
  refine h2 G0 H0 Z Γ σ G H _ _ R (gT_some hf) fun G' H' v x r => ?_
  cases r
  exact ⟨_, rfl, k G' H' x⟩
/-- .. of any kind, by its truth -/
def dTru : D → Option Bool
  | .non => some false
  | .bl b => some b
  | .int i => some (i != 0)
  | .lst xs => some (!xs.isEmpty)
  | .tup xs => some (!xs.isEmpty)
  | .str x => if x.length < 1000000 then some ((x.length : Int) != 0) else none
  | _ => none
def gTru (f : Ex) : Te := fun Γ => (f Γ).bind dTru
theorem line_big : (1000000 : Nat) ≤ sizeLine := by decide
theorem dTru_ok {K : PySem.W.Frag} {mg : Str → Option Value} {G' H' : Hp} {v : V} {d : D} {c : Bool} (gh : Same G' H') (hf : dTru d = some c) (r : RepB K mg G' H' v d) : TruV K v H' c := by
  have emp : ∀ {vs : List V} {xs : List D}, RepL K mg G' vs xs → (!vs.isEmpty) = !xs.isEmpty := fun r => by cases r <;> rfl
  cases d with
  | non => cases hf; cases r with | sh r => cases r; rfl
  | bl b => cases hf; cases r with | sh r => cases r; rfl
  | int i => cases hf; cases r with | sh r => cases r; rfl
  | str y =>
    cases r with
    | sh r =>
      cases r
      simp only [dTru] at hf
      split at hf
      · cases hf
        rename_i z
        exact ⟨Nat.le_trans (Nat.le_of_lt z) line_big, rfl⟩
      · cases hf
  | lst xs =>
    cases hf
    obtain ⟨p, vs, rfl, h, r⟩ := r.lst gh
    exact .inl ⟨vs, SqL.of h, (emp r).symm⟩
  | tup xs =>
    cases hf
    obtain ⟨p, vs, rfl, h, r⟩ := r.tup gh
    exact .inr (.inl ⟨vs, h, (emp r).symm⟩)
  | scr ns => cases hf
  | obj c ds => cases hf
  | fn a c q vs ds => cases hf
  | dic ks xs => cases hf
  | lls xs => cases hf
  | exc a dx n => cases hf
theorem t_tru (h : B X e f) (he : ∀ whole, isTrue e X.env whole = (do let v ← whole; standAt e.pos; holding [v] (truthy v)) := by intro _; rfl) : T X e (gTru f) := by
  obtain ⟨t, h1, h2⟩ := h.ex
  refine ⟨⟨_, pt_truth h1 he, fun G0 H0 Z Γ σ G H Q c R hf k => ?_⟩⟩
  obtain ⟨d, e1, hf⟩ := obind hf
  exact h2 G0 H0 Z Γ σ G H _ _ R e1 fun G' H' v x r => ⟨c, dTru_ok x.gh hf r, k G' H' x⟩
def gNot (f : Te) : Te := fun Γ => (f Γ).bind fun b => some (!b)
def gAnd (f g : Te) : Te := fun Γ => (f Γ).bind fun b => if b then g Γ else some false
def gOr (f g : Te) : Te := fun Γ => (f Γ).bind fun b => if b then some true else g Γ
variable {p q : Te} {rest : List Expr}
theorem t_not (h : T X e p) : T X (.UnaryOp .Not e pos) (gNot p) := by
  obtain ⟨t, h1, h2⟩ := h.ex
  refine ⟨⟨_, pt_not h1, fun G0 H0 Z Γ σ G H Q c R hf k => ?_⟩⟩
  obtain ⟨d, e1, hf⟩ := obind hf
  cases hf
  exact h2 G0 H0 Z Γ σ G H _ _ R e1 k
theorem W.t (h : W X e p) : T X e p := by
  obtain ⟨t, h1, h2⟩ := h.ex
  exact ⟨⟨t, h1.pt, h2⟩⟩
theorem w_and1 (h : T X a p) : W X (.BoolOp .And [a] pos) p := by
  obtain ⟨t, h1, h2⟩ := h.ex
  exact ⟨⟨_, pw_and1 h1, h2⟩⟩
theorem w_or1 (h : T X a p) : W X (.BoolOp .Or [a] pos) p := by
  obtain ⟨t, h1, h2⟩ := h.ex
  exact ⟨⟨_, pw_or1 h1, h2⟩⟩
theorem w_and (h : T X a p) (hr : W X (.BoolOp .And (b :: rest) pos) q) : W X (.BoolOp .And (a :: b :: rest) pos) (gAnd p q) := by
  obtain ⟨t, h1, h2⟩ := h.ex
  obtain ⟨u, q1, q2⟩ := hr.ex
  refine ⟨⟨_, pw_and h1 q1, fun G0 H0 Z Γ σ G H Q c R hf k => ?_⟩⟩
  obtain ⟨d, e1, hf⟩ := obind hf
  refine h2 G0 H0 Z Γ σ G H _ _ R e1 fun G' H' x => ?_
  cases d with
  | true =>
    refine iteT ?_
    exact q2 G0 H0 Z Γ σ G' H' _ _ (R.ext x) hf fun G2 H2 x2 => k G2 H2 (x.trans x2)
  | false =>
    refine iteF ?_
    cases hf
    exact k G' H' x
theorem w_or (h : T X a p) (hr : W X (.BoolOp .Or (b :: rest) pos) q) : W X (.BoolOp .Or (a :: b :: rest) pos) (gOr p q) := by
  obtain ⟨t, h1, h2⟩ := h.ex
  obtain ⟨u, q1, q2⟩ := hr.ex
  refine ⟨⟨_, pw_or h1 q1, fun G0 H0 Z Γ σ G H Q c R hf k => ?_⟩⟩
  obtain ⟨d, e1, hf⟩ := obind hf
  refine h2 G0 H0 Z Γ σ G H _ _ R e1 fun G' H' x => ?_
  cases d with
  | true =>
    refine iteT ?_
    cases hf
    exact k G' H' x
  | false =>
    refine iteF ?_
    exact q2 G0 H0 Z Γ σ G' H' _ _ (R.ext x) hf fun G2 H2 x2 => k G2 H2 (x.trans x2)
/-- tests as values -/
def gBl (p : Te) : Ex := fun Γ => (p Γ).bind fun b => some (.bl b)
/-- and, or of truth values as values -/
structure V1 (X : Cx) (e : Expr) (p : Te) : Prop where
  e : E X e (gBl p)
theorem E.v (h : E X e f) : V1 X e (gT f) := by
  obtain ⟨t, h1, h2⟩ := h.ex
  refine ⟨⟨⟨t, h1, fun G0 H0 Z Γ σ G H Q c R hf k => ?_⟩⟩⟩
  obtain ⟨d, e1, hf⟩ := obind hf
  cases hf
  exact h2 G0 H0 Z Γ σ G H _ _ R (gT_some e1) k
theorem v_one {op} (h : V1 X a p) : V1 X (.BoolOp op [a] pos) p := by
  obtain ⟨t, h1, h2⟩ := h.e.ex
  exact ⟨⟨⟨_, pe_one h1, h2⟩⟩⟩
theorem v_and (h : V1 X a p) (hr : V1 X (.BoolOp .And (b :: rest) pos) q) : V1 X (.BoolOp .And (a :: b :: rest) pos) (gAnd p q) := by
  obtain ⟨t, h1, h2⟩ := h.e.ex
  obtain ⟨u, q1, q2⟩ := hr.e.ex
  refine ⟨⟨⟨_, pe_and h1 q1, fun G0 H0 Z Γ σ G H Q c R hf k => ?_⟩⟩⟩
  obtain ⟨d0, e0, hf⟩ := obind hf
  cases hf
  obtain ⟨d, e1, hf⟩ := obind e0
  refine h2 G0 H0 Z Γ σ G H _ (.bl d) R (by show (p Γ).bind _ = _; rw [e1]; rfl) fun G' H' v x r => ?_
  cases r
  refine ⟨d, rfl, ?_⟩
  cases d with
  | true =>
    refine iteT ?_
    exact q2 G0 H0 Z Γ σ G' H' _ (.bl d0) (R.ext x) (by show (q Γ).bind _ = _; rw [show q Γ = some d0 from hf]; rfl) fun G2 H2 v x2 r => k G2 H2 v (x.trans x2) r
  | false =>
    refine iteF ?_
    cases hf
    exact k G' H' _ x (.bl _)
theorem v_or (h : V1 X a p) (hr : V1 X (.BoolOp .Or (b :: rest) pos) q) : V1 X (.BoolOp .Or (a :: b :: rest) pos) (gOr p q) := by
  obtain ⟨t, h1, h2⟩ := h.e.ex
  obtain ⟨u, q1, q2⟩ := hr.e.ex
  refine ⟨⟨⟨_, pe_or h1 q1, fun G0 H0 Z Γ σ G H Q c R hf k => ?_⟩⟩⟩
  obtain ⟨d0, e0, hf⟩ := obind hf
  cases hf
  obtain ⟨d, e1, hf⟩ := obind e0
  refine h2 G0 H0 Z Γ σ G H _ (.bl d) R (by show (p Γ).bind _ = _; rw [e1]; rfl) fun G' H' v x r => ?_
  cases r
  refine ⟨d, rfl, ?_⟩
  cases d with
  | true =>
    refine iteT ?_
    cases hf
    exact k G' H' _ x (.bl _)
  | false =>
    refine iteF ?_
    exact q2 G0 H0 Z Γ σ G' H' _ (.bl d0) (R.ext x) (by show (q Γ).bind _ = _; rw [show q Γ = some d0 from hf]; rfl) fun G2 H2 v x2 r => k G2 H2 v (x.trans x2) r
/-- not x as a value, x a truth value; or x by its truth (a list, a number) -/
theorem v_not (h : V1 X e p) : V1 X (.UnaryOp .Not e pos) (gNot p) := by
  obtain ⟨t, h1, h2⟩ := h.e.ex
  refine ⟨⟨⟨_, pe_not h1, fun G0 H0 Z Γ σ G H Q c R hf k => ?_⟩⟩⟩
  obtain ⟨d0, e0, hf⟩ := obind hf
  cases hf
  obtain ⟨d, e1, hf⟩ := obind e0
  cases hf
  refine h2 G0 H0 Z Γ σ G H _ (.bl d) R (by show (p Γ).bind _ = _; rw [e1]; rfl) fun G' H' v x r => ?_
  cases r
  exact ⟨d, rfl, k G' H' _ x (.bl _)⟩
/-- a if t else b -/
def gIf (t : Te) (f g : Ex) : Ex := fun Γ => (t Γ).bind fun b => if b then f Γ else g Γ
theorem e_if {c : Expr} (hc : T X c p) (ha : E X a f) (hb : E X b g) : E X (.IfExp c a b pos) (gIf p f g) := by
  obtain ⟨t, h1, h2⟩ := hc.ex
  obtain ⟨u, q1, q2⟩ := ha.ex
  obtain ⟨w, z1, z2⟩ := hb.ex
  refine ⟨⟨_, pe_ifExp h1 q1 z1, fun G0 H0 Z Γ σ G H Q d R hf k => ?_⟩⟩
  obtain ⟨b, e1, hf⟩ := obind hf
  refine h2 G0 H0 Z Γ σ G H _ _ R e1 fun G' H' x => ?_
  cases b with
  | true => exact iteT (q2 G0 H0 Z Γ σ G' H' _ _ (R.ext x) hf fun G2 H2 v x2 r => k G2 H2 v (x.trans x2) r)
  | false => exact iteF (z2 G0 H0 Z Γ σ G' H' _ _ (R.ext x) hf fun G2 H2 v x2 r => k G2 H2 v (x.trans x2) r)
end
end DL

namespace DL
open PySem L2
variable [TC : TabCtx]

/-! ### operators by data -/
theorem opr_or {X : Cx} {fn : Value → Value → Sem Value} {r r' : R2} (h : OpR X fn r) (h' : OpR X fn r') : OpR X fn (fun x y H Q => r x y H Q ∨ r' x y H Q) := by
  intro pins s σ H x y v u Q I rx ry q
  rcases q with q | q
  · exact h pins s σ H x y v u Q I rx ry q
  · exact h' pins s σ H x y v u Q I rx ry q
def dAdd : D → D → Option D
  | .int i, .int j => some (.int (i + j))
  | .str x, .str y => if x.length + y.length < 1000000 then some (.str (x ++ y)) else none
  | .lst xs, .lst ys => if xs.length + ys.length < 1000000 then some (.lst (xs ++ ys)) else none
  | _, _ => none
def dSub : D → D → Option D
  | .int i, .int j => some (.int (i - j))
  | _, _ => none
def mulOk (a b : Int) : Bool := !(decide (Builtin.Int.intBits a > shortFactorBits) && decide (Builtin.Int.intBits b > shortFactorBits) && Builtin.Int.intTooBig (Builtin.Int.intBits a + Builtin.Int.intBits b))
def dMul : D → D → Option D
  | .int i, .int j => if mulOk i j then some (.int (i * j)) else none
  | _, _ => none
def dDiv : D → D → Option D
  | .int i, .int j => if 0 < j ∧ j.natAbs.log2 < 9000 then some (.int (i / j)) else none
  | _, _ => none
def dMod : D → D → Option D
  | .int i, .int j => if 0 < j then some (.int (i % j)) else none
  | _, _ => none
def dPow : D → D → Option D
  | .int i, .int j => if 0 ≤ j ∧ j ≤ 1000000 ∧ i.natAbs < 2 ^ 64 then some (.int (i ^ j.toNat)) else none
  | _, _ => none
def dLt : D → D → Option D
  | .int i, .int j => some (.bl (decide (i < j)))
  | _, _ => none
def dLe : D → D → Option D
  | .int i, .int j => some (.bl (decide (i ≤ j)))
  | _, _ => none
def dGt : D → D → Option D
  | .int i, .int j => some (.bl (decide (j < i)))
  | _, _ => none
def dGe : D → D → Option D
  | .int i, .int j => some (.bl (decide (j ≤ i)))
  | _, _ => none
section
variable {X : Cx}
theorem op_mulOk : OpR X (binaryOp .Mult) (rI (fun i j => mulOk i j = true) fun i j => .int (i * j)) := opI fun _ _ _ _ _ _ _ hc q => PyProof.Rows.mul_int q (by
  unfold IntMulOk
  unfold mulOk at hc
  intro z
  rw [z] at hc
  cases hc)
/-- an operator of two ints whose answer is a scalar -/
theorem opd_i {fn : Value → Value → Sem Value} {C : Int → Int → Prop} {g : Int → Int → V} {o : D → D → Option D} (h : OpR X fn (rI C g)) (ho : ∀ x y d, o x y = some d → ∃ i j, x = .int i ∧ y = .int j ∧ C i j ∧ ∀ K mg G, Rep K mg G (g i j) d) : OpD X fn o := by
  refine ⟨_, h, fun x y d v w G H Q gh e rx ry k => ?_⟩
  obtain ⟨i, j, rfl, rfl, c, q⟩ := ho x y d e
  cases rx
  cases ry
  exact ⟨i, j, rfl, rfl, c, k G H _ (Ext.refl gh) (q _ _ _)⟩
theorem opd_i0 {fn : Value → Value → Sem Value} {g : Int → Int → V} {o : D → D → Option D} (h : OpR X fn (rI0 g)) (ho : ∀ x y d, o x y = some d → ∃ i j, x = .int i ∧ y = .int j ∧ ∀ K mg G, Rep K mg G (g i j) d) : OpD X fn o := by
  refine ⟨_, h, fun x y d v w G H Q gh e rx ry k => ?_⟩
  obtain ⟨i, j, rfl, rfl, q⟩ := ho x y d e
  cases rx
  cases ry
  exact ⟨i, j, rfl, rfl, k G H _ (Ext.refl gh) (q _ _ _)⟩
theorem od_add : OpD X (binaryOp .Add) dAdd := by
  refine ⟨_, opr_or op_add (opr_or op_add_str op_cat), fun x y d v w G H Q gh e rx ry k => ?_⟩
  unfold dAdd at e
  split at e
  · cases e; cases rx; cases ry
    exact .inl ⟨_, _, rfl, rfl, k G H _ (Ext.refl gh) (.int _)⟩
  · split at e
    · cases e; cases rx; cases ry
      rename_i z
      exact .inr (.inl ⟨_, _, rfl, rfl, Nat.le_trans (Nat.le_of_lt z) line_big, k G H _ (Ext.refl gh) (.str _)⟩)
    · cases e
  · split at e
    · cases e
      rename_i z
      cases rx with
      | lst h1 r1 =>
        cases ry with
        | lst h2 r2 =>
          refine .inr (.inr ⟨_, _, _, _, rfl, rfl, gh _ _ h1, gh _ _ h2, ?_, fun p hp => ?_⟩)
          · rw [r1.length, r2.length]; exact Nat.le_trans (Nat.le_of_lt z) line_big
          · exact k _ _ _ (Ext.new1 gh hp) (.lst upd_same ((r1.append r2).mono (same_upd (gh.free hp))))
    · cases e
  · cases e
theorem od_sub : OpD X (binaryOp .Sub) dSub := opd_i0 op_sub fun x y d e => by
  unfold dSub at e
  split at e
  · cases e; exact ⟨_, _, rfl, rfl, fun _ _ _ => .int _⟩
  · cases e
theorem od_mul : OpD X (binaryOp .Mult) dMul := opd_i op_mulOk fun x y d e => by
  unfold dMul at e
  split at e
  · split at e
    · cases e; rename_i z; exact ⟨_, _, rfl, rfl, z, fun _ _ _ => .int _⟩
    · cases e
  · cases e
theorem od_div : OpD X (binaryOp .FloorDiv) dDiv := opd_i op_fdivW fun x y d e => by
  unfold dDiv at e
  split at e
  · split at e
    · cases e; rename_i z; exact ⟨_, _, rfl, rfl, z, fun _ _ _ => .int _⟩
    · cases e
  · cases e
theorem od_mod : OpD X (binaryOp .Mod) dMod := opd_i op_mod fun x y d e => by
  unfold dMod at e
  split at e
  · split at e
    · cases e; rename_i z; exact ⟨_, _, rfl, rfl, z, fun _ _ _ => .int _⟩
    · cases e
  · cases e
theorem od_pow : OpD X (binaryOp .Pow) dPow := opd_i op_pow fun x y d e => by
  unfold dPow at e
  split at e
  · split at e
    · cases e; rename_i z; exact ⟨_, _, rfl, rfl, z, fun _ _ _ => .int _⟩
    · cases e
  · cases e
theorem od_lt : OpD X (compareOp .Lt) dLt := opd_i0 op_lt fun x y d e => by
  unfold dLt at e
  split at e
  · cases e; exact ⟨_, _, rfl, rfl, fun _ _ _ => .bl _⟩
  · cases e
theorem od_le : OpD X (compareOp .LtE) dLe := opd_i0 op_le fun x y d e => by
  unfold dLe at e
  split at e
  · cases e; exact ⟨_, _, rfl, rfl, fun _ _ _ => .bl _⟩
  · cases e
theorem od_gt : OpD X (compareOp .Gt) dGt := opd_i0 op_gt fun x y d e => by
  unfold dGt at e
  split at e
  · cases e; exact ⟨_, _, rfl, rfl, fun _ _ _ => .bl _⟩
  · cases e
theorem od_ge : OpD X (compareOp .GtE) dGe := opd_i0 op_ge fun x y d e => by
  unfold dGe at e
  split at e
  · cases e; exact ⟨_, _, rfl, rfl, fun _ _ _ => .bl _⟩
  · cases e
end

/-! equality -/
mutual
def toPy : D → PyData
  | .non => .none
  | .bl b => .bool b
  | .int i => .int i
  | .str x => .str x
  | .lst xs => .list (toPys xs)
  | .tup xs => .tuple (toPys xs)
  | .scr ns => .list (ns.map PyData.int)
  | .obj _ _ => .none
  | .fn _ _ _ _ _ => .none
  | .dic _ _ => .none
  | .lls _ => .none
  | .exc _ _ _ => .none
def toPys : List D → List PyData
  | [] => []
  | x :: xs => toPy x :: toPys xs
end
mutual
def pyOk : D → Bool
  | .obj _ _ => false
  | .fn _ _ _ _ _ => false
  | .dic _ _ => false
  | .lls _ => false
  | .exc _ _ _ => false
  | .lst xs => pyOks xs
  | .tup xs => pyOks xs
  | _ => true
def pyOks : List D → Bool
  | [] => true
  | x :: xs => pyOk x && pyOks xs
end
section
variable {K : PySem.W.Frag} {mg : Str → Option Value} {G H : Hp}
theorem dpInts : ∀ ns : List Int, DpAll K H (ns.map V.int) (ns.map PyData.int)
  | [] => .nil
  | n :: ns => .cons (.int n) (dpInts ns)
mutual
theorem Rep.dp (gh : Same G H) : ∀ {v : V} {d : D}, Rep K mg G v d → pyOk d = true → Dp K H v (toPy d)
  | _, _, .non, _ => by rw [toPy]; exact .non
  | _, _, .bl b, _ => by rw [toPy]; exact .bl b
  | _, _, .int i, _ => by rw [toPy]; exact .int i
  | _, _, .str x, _ => by rw [toPy]; exact .str x
  | _, _, .lst h r, e => by rw [toPy]; exact .lst (SqL.of (gh _ _ h)) (RepL.dp gh r (by simpa [pyOk] using e))
  | _, _, .tup h r, e => by rw [toPy]; exact .tup (sqt_same gh h) (RepL.dp gh r (by simpa [pyOk] using e))
  | _, _, .scr h, _ => by rw [toPy]; exact .lst (gh.seq h) (dpInts _)
  | _, _, .obj _ _ _, e => by simp [pyOk] at e
  | _, _, .fn _ _, e => by simp [pyOk] at e
  | _, _, .dic _ _ _, e => by simp [pyOk] at e
  | _, _, .lls _ _, e => by simp [pyOk] at e
  | _, _, .exc _, e => by simp [pyOk] at e
theorem RepL.dp (gh : Same G H) : ∀ {v : List V} {d : List D}, RepL K mg G v d → pyOks d = true → DpAll K H v (toPys d)
  | _, _, .nil, _ => by rw [toPys]; exact .nil
  | _, _, .cons h r, e => by
    rw [toPys]
    have e' := e
    simp only [pyOks, Bool.and_eq_true] at e'
    exact .cons (Rep.dp gh h e'.1) (RepL.dp gh r e'.2)
end
theorem RepB.dp (gh : Same G H) {v : V} {d : D} (r : RepB K mg G H v d) (e : pyOk d = true) : Dp K H v (toPy d) := by
  cases r with
  | sh r => exact r.dp gh e
  | li h r => rw [toPy]; exact .lst (SqL.of h) (r.dp gh (by simpa [pyOk] using e))
  | obj hm h r => simp [pyOk] at e
  | dic h l r => simp [pyOk] at e
  | lls h r => simp [pyOk] at e
end
/-- == of data -/
def eqd (x y : D) : Bool := PyData.eqv (toPy x) (toPy y)
def eqOk (x : D) : Bool := pyOk x && SeqAt.shaped (toPy x)
def dEq (x y : D) : Option D := if eqOk x && eqOk y then some (.bl (eqd x y)) else none
def dNe (x y : D) : Option D := if eqOk x && eqOk y then some (.bl (!eqd x y)) else none
/-- is None, is not None -/
def isNon : D → Bool
  | .non => true
  | _ => false
def dIsN : D → D → Option D
  | x, .non => some (.bl (isNon x))
  | .bl a, .bl b => some (.bl (decide (a = b)))
  | _, _ => none
def dNoN : D → D → Option D
  | x, .non => some (.bl (!isNon x))
  | .bl a, .bl b => some (.bl (!decide (a = b)))
  | _, _ => none
section
variable {X : Cx} {e a b : Expr} {es : List Expr} {f g : Ex} {fs : Ag} {pos : Pos} {n : Nat}
/-- of what is looked at -/
def OpB (X : Cx) (fn : Value → Value → Sem Value) (o : D → D → Option D) : Prop :=
  ∃ r, OpR X fn r ∧ ∀ x y d v w G H Q, Same G H → o x y = some d → RepB X.K X.mg G H v x → RepB X.K X.mg G H w y → (∀ G' H' u, Ext G H G' H' → Rep X.K X.mg G' u d → Q u H') → r v w H Q
theorem opb_run {r : R2} {o : D → D → Option D} (hr : ∀ x y d v w G H Q, Same G H → o x y = some d → RepB X.K X.mg G H v x → RepB X.K X.mg G H w y → (∀ G' H' u, Ext G H G' H' → Rep X.K X.mg G' u d → Q u H') → r v w H Q)
    {t u : TE} (h2 : ∀ G0 H0 Z Γ σ G H Q d, Rel X.K X.mg G0 H0 Z Γ σ G H → f Γ = some d → (∀ G' H' v, Ext G H G' H' → RepB X.K X.mg G' H' v d → Q v H') → t σ H Q)
    (q2 : ∀ G0 H0 Z Γ σ G H Q d, Rel X.K X.mg G0 H0 Z Γ σ G H → g Γ = some d → (∀ G' H' v, Ext G H G' H' → RepB X.K X.mg G' H' v d → Q v H') → u σ H Q) :
    ∀ G0 H0 Z Γ σ G H Q d, Rel X.K X.mg G0 H0 Z Γ σ G H → gOp o f g Γ = some d → (∀ G' H' v, Ext G H G' H' → Rep X.K X.mg G' v d → Q v H') → tOp r t u σ H Q := fun G0 H0 Z Γ σ G H Q d R hf k => by
  obtain ⟨x, e1, hf⟩ := obind hf
  obtain ⟨y, e2, hf⟩ := obind hf
  refine h2 G0 H0 Z Γ σ G H _ x R e1 fun G1 H1 v x1 r1 => ?_
  refine q2 G0 H0 Z Γ σ G1 H1 _ y (R.ext x1) e2 fun G2 H2 w x2 r2 => ?_
  exact hr x y d v w G2 H2 Q x2.gh hf (r1.ext x2) r2 fun G3 H3 u x3 r3 => k G3 H3 u ((x1.trans x2).trans x3) r3
theorem e_cmpB {op : CmpOp} {o : D → D → Option D} (ho : OpB X (compareOp op) o) (ha : B X a f) (hb : B X b g) (hm : behindInMarks op b = false := by first | exact nomark _ | rfl) : E X (.Compare a [op] [b] pos) (gOp o f g) := by
  obtain ⟨r, hr, hr2⟩ := ho
  obtain ⟨t, h1, h2⟩ := ha.ex
  obtain ⟨u, q1, q2⟩ := hb.ex
  exact ⟨⟨_, pe_cmpR hr h1 q1 hm, opb_run hr2 h2 q2⟩⟩
theorem t_cmpB {op : CmpOp} {o : D → D → Option D} (ho : OpB X (compareOp op) o) (ha : B X a f) (hb : B X b g) (hm : behindInMarks op b = false := by first | exact nomark _ | rfl) : T X (.Compare a [op] [b] pos) (gT (gOp o f g)) := by
  obtain ⟨r, hr, hr2⟩ := ho
  obtain ⟨t, h1, h2⟩ := ha.ex
  obtain ⟨u, q1, q2⟩ := hb.ex
  refine ⟨⟨_, pt_cmpR hr h1 q1 hm, fun G0 H0 Z Γ σ G H Q c R hf k => ?_⟩⟩
  refine opb_run hr2 h2 q2 G0 H0 Z Γ σ G H _ _ R (gT_some hf) fun G' H' v x r => ?_
  cases r
  exact ⟨_, rfl, k G' H' x⟩
theorem ob_eq (hu : X.A.units + 64 < cLine) : OpB X (compareOp .Eq) dEq := by
  refine ⟨_, op_eqD hu, fun x y d v w G H Q gh e rx ry k => ?_⟩
  unfold dEq at e
  split at e
  · rename_i z
    cases e
    simp only [eqOk, Bool.and_eq_true] at z
    exact ⟨_, _, rx.dp gh z.1.1, ry.dp gh z.2.1, z.1.2, z.2.2, k G H _ (Ext.refl gh) (.bl _)⟩
  · cases e
theorem ob_ne (hu : X.A.units + 64 < cLine) : OpB X (compareOp .NotEq) dNe := by
  refine ⟨_, op_neD hu, fun x y d v w G H Q gh e rx ry k => ?_⟩
  unfold dNe at e
  split at e
  · rename_i z
    cases e
    simp only [eqOk, Bool.and_eq_true] at z
    exact ⟨_, _, rx.dp gh z.1.1, ry.dp gh z.2.1, z.1.2, z.2.2, k G H _ (Ext.refl gh) (.bl _)⟩
  · cases e
theorem ob_isN : OpB X (compareOp .Is) dIsN := by
  refine ⟨_, opr_or op_isN op_isBl, fun x y d v w G H Q gh e rx ry k => ?_⟩
  have nb : ∀ {w : V}, RepB X.K X.mg G H w .non → w = .non := fun r => by
    cases r with | sh r => cases r; rfl
  have bb : ∀ {w : V} {b : Bool}, RepB X.K X.mg G H w (.bl b) → w = .bl b := fun r => by
    cases r with | sh r => cases r; rfl
  unfold dIsN at e
  split at e
  · cases e
    have e2 := nb ry
    subst e2
    refine .inl ⟨rfl, k G H _ (Ext.refl gh) ?_⟩
    have q : decide (v = V.non) = isNon x := by
      cases x with
      | non => rw [nb rx]; rfl
      | lst xs => obtain ⟨_, _, rfl, _⟩ := rx.lst gh; rfl
      | bl b => rw [bb rx]; rfl
      | obj c ds => cases rx with
        | sh rx => cases rx; rfl
        | obj _ _ _ => rfl
      | dic _ _ => cases rx with
        | sh rx => cases rx; rfl
        | dic _ _ _ => rfl
      | lls _ => cases rx with
        | sh rx => cases rx; rfl
        | lls _ _ => rfl
      | _ => cases rx with | sh rx => cases rx; rfl
    rw [q]
    exact .bl _
  · cases e
    rw [bb rx, bb ry]
    exact .inr ⟨_, _, rfl, rfl, k G H _ (Ext.refl gh) (.bl _)⟩
  · cases e
theorem ob_noN : OpB X (compareOp .IsNot) dNoN := by
  refine ⟨_, opr_or op_notN op_notBl, fun x y d v w G H Q gh e rx ry k => ?_⟩
  have nb : ∀ {w : V}, RepB X.K X.mg G H w .non → w = .non := fun r => by
    cases r with | sh r => cases r; rfl
  have bb : ∀ {w : V} {b : Bool}, RepB X.K X.mg G H w (.bl b) → w = .bl b := fun r => by
    cases r with | sh r => cases r; rfl
  unfold dNoN at e
  split at e
  · cases e
    have e2 := nb ry
    subst e2
    refine .inl ⟨rfl, k G H _ (Ext.refl gh) ?_⟩
    have q : (!decide (v = V.non)) = !isNon x := by
      cases x with
      | non => rw [nb rx]; rfl
      | lst xs => obtain ⟨_, _, rfl, _⟩ := rx.lst gh; rfl
      | bl b => rw [bb rx]; rfl
      | obj c ds => cases rx with
        | sh rx => cases rx; rfl
        | obj _ _ _ => rfl
      | dic _ _ => cases rx with
        | sh rx => cases rx; rfl
        | dic _ _ _ => rfl
      | lls _ => cases rx with
        | sh rx => cases rx; rfl
        | lls _ _ => rfl
      | _ => cases rx with | sh rx => cases rx; rfl
    rw [q]
    exact .bl _
  · cases e
    rw [bb rx, bb ry]
    exact .inr ⟨_, _, rfl, rfl, k G H _ (Ext.refl gh) (.bl _)⟩
  · cases e

/-! a comparison in a row: a < b <= c -/
structure PCh (X : Cx) (ops : List CmpOp) (es : List Expr) (t : V → TE) : Prop where
  run : ∀ (pos : Pos) (pins : List (Addr × Obj)) (s : Shared) (σ : L2.St) (H : Hp) (Q : VK) (x : V) (v : Value), Inv X pins σ H s → RelV x v → t x σ H Q →
    wpAny (model X.prog X.w) X.A (compareChain pos v ops (evalEach es X.env)) (EP X pins σ Q) X.xe s
structure PTCh (X : Cx) (ops : List CmpOp) (es : List Expr) (t : V → TT) : Prop where
  run : ∀ (pos : Pos) (pins : List (Addr × Obj)) (s : Shared) (σ : L2.St) (H : Hp) (Q : Bool → Hp → Prop) (x : V) (v : Value), Inv X pins σ H s → RelV x v → t x σ H Q →
    wpAny (model X.prog X.w) X.A (testChain pos v ops (evalEach es X.env)) (TP X pins σ Q) X.xe s
variable {op op' : CmpOp} {ops : List CmpOp} {r r' : R2} {ta tb : TE} {tc : V → TE} {tt : V → TT} {pos' : Pos}
theorem pch_last (ho : OpR X (compareOp op) r) (hb : PE X b tb) : PCh X [op] [b] (fun x σ H Q => tb σ H fun y H1 => r x y H1 Q) := by
  refine ⟨fun pos pins s σ H Q x v I rx h => ?_⟩
  exact PyProof.Rows.chain_last (thn (hb.run pins s σ H _ I h) fun u s2 ⟨y, H2, I2, r2, q2⟩ => ho pins s2 σ H2 x y v u _ I2 rx r2 q2)
theorem pch_cons (ho : OpR X (compareOp op) r) (ha : PE X a ta) (hc : PCh X (op' :: ops) (b :: es) tc) : PCh X (op :: op' :: ops) (a :: b :: es) (fun x σ H Q => ta σ H fun y H1 => r x y H1 fun z H2 => ∃ k, z = .bl k ∧ if k = true then tc y σ H2 Q else Q (.bl false) H2) := by
  refine ⟨fun pos pins s σ H Q x v I rx h => ?_⟩
  refine PyProof.Rows.chain_link (thn (ha.run pins s σ H _ I h) fun u s2 ⟨y, H2, I2, r2, q2⟩ => thn (ho pins s2 σ H2 x y v u _ I2 rx r2 q2) fun d s3 ⟨z, H3, I3, r3, k, e, q3⟩ => ?_)
  subst e
  cases r3
  refine wpAny_truthy_bool ?_
  cases k with
  | false => exact PyProof.Rows.ite_ff ⟨.bl false, H3, I3, rfl, q3⟩
  | true => exact PyProof.Rows.ite_tt (hc.run pos pins s3 σ H3 Q y u I3 r2 q3)
theorem pe_chn (ha : PE X e ta) (hc : PCh X (op :: op' :: ops) (a :: b :: es) tc) (hm : lastMarks (op :: op' :: ops) (a :: b :: es) = false := by with_unfolding_all rfl) : PE X (.Compare e (op :: op' :: ops) (a :: b :: es) pos) (fun σ H Q => ta σ H fun x H1 => tc x σ H1 Q) := by
  refine ⟨fun pins s σ H Q I h => ?_⟩
  exact PyProof.Rows.Compare_chain (thn (ha.run pins s σ H _ I h) fun v s1 ⟨x, H1, I1, r1, q1⟩ => hc.run pos pins s1 σ H1 Q x v I1 r1 q1) hm
theorem ptch_last (ho : OpR X (compareOp op) r) (hb : PE X b tb) : PTCh X [op] [b] (fun x σ H Q => tb σ H fun y H1 => r x y H1 fun z H2 => ∃ k, z = .bl k ∧ Q k H2) := by
  refine ⟨fun pos pins s σ H Q x v I rx h => ?_⟩
  refine PyProof.Rows.test_last (thn (hb.run pins s σ H _ I h) fun u s2 ⟨y, H2, I2, r2, q2⟩ => thn (ho pins s2 σ H2 x y v u _ I2 rx r2 q2) fun d s3 ⟨z, H3, I3, r3, k, e, q3⟩ => ?_)
  subst e
  cases r3
  exact wpAny_truthy_bool ⟨H3, I3, q3⟩
theorem ptch_cons (ho : OpR X (compareOp op) r) (ha : PE X a ta) (hc : PTCh X (op' :: ops) (b :: es) tt) : PTCh X (op :: op' :: ops) (a :: b :: es) (fun x σ H Q => ta σ H fun y H1 => r x y H1 fun z H2 => ∃ k, z = .bl k ∧ if k = true then tt y σ H2 Q else Q false H2) := by
  refine ⟨fun pos pins s σ H Q x v I rx h => ?_⟩
  refine PyProof.Rows.test_link (thn (ha.run pins s σ H _ I h) fun u s2 ⟨y, H2, I2, r2, q2⟩ => thn (ho pins s2 σ H2 x y v u _ I2 rx r2 q2) fun d s3 ⟨z, H3, I3, r3, k, e, q3⟩ => ?_)
  subst e
  cases r3
  refine wpAny_truthy_bool ?_
  cases k with
  | false => exact PyProof.Rows.ite_ff ⟨H3, I3, q3⟩
  | true => exact PyProof.Rows.ite_tt (hc.run pos pins s3 σ H3 Q y u I3 r2 q3)
theorem pt_chn (ha : PE X e ta) (hc : PTCh X (op :: op' :: ops) (a :: b :: es) tt) (hm : lastMarks (op :: op' :: ops) (a :: b :: es) = false := by with_unfolding_all rfl) : PT X (.Compare e (op :: op' :: ops) (a :: b :: es) pos) (fun σ H Q => ta σ H fun x H1 => tt x σ H1 Q) := by
  refine ⟨fun pins s σ H Q I h => ?_⟩
  exact PyProof.Rows.isTrue_chain (thn (ha.run pins s σ H _ I h) fun v s1 ⟨x, H1, I1, r1, q1⟩ => hc.run pos pins s1 σ H1 Q x v I1 r1 q1) hm
/-- by data -/
structure Ch (X : Cx) (ops : List CmpOp) (es : List Expr) (f : D → Te) : Prop where
  ex : ∃ t u, PCh X ops es t ∧ PTCh X ops es u ∧
    (∀ G0 H0 Z Γ σ G H Q d x v, Rel X.K X.mg G0 H0 Z Γ σ G H → Rep X.K X.mg G v x → f x Γ = some d → (∀ G' H', Ext G H G' H' → Q (.bl d) H') → t v σ H Q) ∧
    (∀ G0 H0 Z Γ σ G H Q d x v, Rel X.K X.mg G0 H0 Z Γ σ G H → Rep X.K X.mg G v x → f x Γ = some d → (∀ G' H', Ext G H G' H' → Q d H') → u v σ H Q)
def dB : Option D → Option Bool
  | some (.bl b) => some b
  | _ => none
theorem dB_some {o : Option D} {b : Bool} (h : dB o = some b) : o = some (.bl b) := by
  unfold dB at h
  split at h
  · cases h; rfl
  · cases h
def gCh1 (o : D → D → Option D) (f : Ex) : D → Te := fun x Γ => (f Γ).bind fun y => dB (o x y)
def gChn (o : D → D → Option D) (f : Ex) (r : D → Te) : D → Te := fun x Γ => (f Γ).bind fun y => (dB (o x y)).bind fun b => if b then r y Γ else some false
variable {o : D → D → Option D} {c : D → Te}
theorem c_last (ho : OpD X (compareOp op) o) (hb : E X b f) : Ch X [op] [b] (gCh1 o f) := by
  obtain ⟨r, hr, hr2⟩ := ho
  obtain ⟨t, h1, h2⟩ := hb.ex
  refine ⟨⟨_, _, pch_last hr h1, ptch_last hr h1, fun G0 H0 Z Γ σ G H Q d x v R rx hf k => ?_, fun G0 H0 Z Γ σ G H Q d x v R rx hf k => ?_⟩⟩
  · obtain ⟨y, e1, hf⟩ := obind hf
    refine h2 G0 H0 Z Γ σ G H _ y R e1 fun G1 H1 w x1 r1 => ?_
    refine hr2 x y _ v w G1 H1 _ x1.gh (dB_some hf) (rx.mono x1.gg) r1 fun G2 H2 u x2 r2 => ?_
    cases r2
    exact k G2 H2 (x1.trans x2)
  · obtain ⟨y, e1, hf⟩ := obind hf
    refine h2 G0 H0 Z Γ σ G H _ y R e1 fun G1 H1 w x1 r1 => ?_
    refine hr2 x y _ v w G1 H1 _ x1.gh (dB_some hf) (rx.mono x1.gg) r1 fun G2 H2 u x2 r2 => ?_
    cases r2
    exact ⟨_, rfl, k G2 H2 (x1.trans x2)⟩
theorem c_cons (ho : OpD X (compareOp op) o) (ha : E X a f) (hc : Ch X (op' :: ops) (b :: es) c) : Ch X (op :: op' :: ops) (a :: b :: es) (gChn o f c) := by
  obtain ⟨r, hr, hr2⟩ := ho
  obtain ⟨t, h1, h2⟩ := ha.ex
  obtain ⟨tc, tt, c1, c2, c3, c4⟩ := hc.ex
  refine ⟨⟨_, _, pch_cons hr h1 c1, ptch_cons hr h1 c2, fun G0 H0 Z Γ σ G H Q d x v R rx hf k => ?_, fun G0 H0 Z Γ σ G H Q d x v R rx hf k => ?_⟩⟩
  · obtain ⟨y, e1, hf⟩ := obind hf
    obtain ⟨z, e2, hf⟩ := obind hf
    refine h2 G0 H0 Z Γ σ G H _ y R e1 fun G1 H1 w x1 r1 => ?_
    refine hr2 x y _ v w G1 H1 _ x1.gh (dB_some e2) (rx.mono x1.gg) r1 fun G2 H2 u x2 r2 => ?_
    cases r2
    refine ⟨_, rfl, ?_⟩
    cases z with
    | true => exact iteT (c3 G0 H0 Z Γ σ G2 H2 Q d y w ((R.ext x1).ext x2) (r1.mono x2.gg) hf fun G3 H3 x3 => k G3 H3 ((x1.trans x2).trans x3))
    | false => cases hf; exact iteF (k G2 H2 (x1.trans x2))
  · obtain ⟨y, e1, hf⟩ := obind hf
    obtain ⟨z, e2, hf⟩ := obind hf
    refine h2 G0 H0 Z Γ σ G H _ y R e1 fun G1 H1 w x1 r1 => ?_
    refine hr2 x y _ v w G1 H1 _ x1.gh (dB_some e2) (rx.mono x1.gg) r1 fun G2 H2 u x2 r2 => ?_
    cases r2
    refine ⟨_, rfl, ?_⟩
    cases z with
    | true => exact iteT (c4 G0 H0 Z Γ σ G2 H2 Q d y w ((R.ext x1).ext x2) (r1.mono x2.gg) hf fun G3 H3 x3 => k G3 H3 ((x1.trans x2).trans x3))
    | false => cases hf; exact iteF (k G2 H2 (x1.trans x2))
def gCh (f : Ex) (c : D → Te) : Te := fun Γ => (f Γ).bind fun x => c x Γ
theorem v_chn (ha : E X e f) (hc : Ch X (op :: op' :: ops) (a :: b :: es) c) (hm : lastMarks (op :: op' :: ops) (a :: b :: es) = false := by with_unfolding_all rfl) : V1 X (.Compare e (op :: op' :: ops) (a :: b :: es) pos) (gCh f c) := by
  obtain ⟨t, h1, h2⟩ := ha.ex
  obtain ⟨tc, tt, c1, c2, c3, c4⟩ := hc.ex
  refine ⟨⟨⟨_, pe_chn h1 c1 hm, fun G0 H0 Z Γ σ G H Q d R hf k => ?_⟩⟩⟩
  obtain ⟨y, e1, hf⟩ := obind hf
  cases hf
  obtain ⟨x, e1, hf⟩ := obind e1
  refine h2 G0 H0 Z Γ σ G H _ x R e1 fun G1 H1 w x1 r1 => ?_
  exact c3 G0 H0 Z Γ σ G1 H1 Q _ x w (R.ext x1) r1 hf fun G2 H2 x2 => k G2 H2 _ (x1.trans x2) (.bl _)
theorem t_chn (ha : E X e f) (hc : Ch X (op :: op' :: ops) (a :: b :: es) c) (hm : lastMarks (op :: op' :: ops) (a :: b :: es) = false := by with_unfolding_all rfl) : T X (.Compare e (op :: op' :: ops) (a :: b :: es) pos) (gCh f c) := by
  obtain ⟨t, h1, h2⟩ := ha.ex
  obtain ⟨tc, tt, c1, c2, c3, c4⟩ := hc.ex
  refine ⟨⟨_, pt_chn h1 c2 hm, fun G0 H0 Z Γ σ G H Q d R hf k => ?_⟩⟩
  obtain ⟨x, e1, hf⟩ := obind hf
  refine h2 G0 H0 Z Γ σ G H _ x R e1 fun G1 H1 w x1 r1 => ?_
  exact c4 G0 H0 Z Γ σ G1 H1 Q _ x w (R.ext x1) r1 hf fun G2 H2 x2 => k G2 H2 (x1.trans x2)
end
end DL

namespace DL
open PySem L2
variable [TC : TabCtx]

section
variable {K : PySem.W.Frag} {mg : Str → Option Value} {G H : Hp}
theorem atI_map {α β : Type} {xs : List α} {i : Int} {f : α → β} : atI (xs.map f) i = (atI xs i).map f := by
  unfold atI
  rw [List.length_map]
  cases ixN xs.length i with
  | none => rfl
  | some j => simp [List.getElem?_map]
theorem RepL.at {vs : List V} {ds : List D} {i : Int} {d : D} (r : RepL K mg G vs ds) (h : atI ds i = some d) : ∃ v, atI vs i = some v ∧ Rep K mg G v d := by
  unfold atI at h ⊢
  rw [r.length]
  cases e : ixN ds.length i with
  | none => rw [e] at h; cases h
  | some j =>
    rw [e] at h
    exact r.get j h
/-- what a slice takes -/
def cutD {α : Type} (xs : List α) (lo hi : Option Int) : List α := (xs.drop (HT.sIx xs.length 0 lo)).take (HT.sIx xs.length xs.length hi - HT.sIx xs.length 0 lo)
theorem RepL.cut {vs : List V} {ds : List D} {lo hi : Option Int} (r : RepL K mg G vs ds) : RepL K mg G (cutV vs lo hi) (cutD ds lo hi) := by
  unfold cutV cutD
  rw [r.length]
  exact (r.drop _).take _
theorem cutV_ints (ns : List Int) (lo hi : Option Int) : cutV (ns.map V.int) lo hi = (cutD ns lo hi).map V.int := by
  unfold cutV cutD
  rw [List.length_map, List.map_take, List.map_drop]
end

/-! ### the classes -/
structure CK (K : PySem.W.Frag) (mg : Str → Option Value) (c : Nat) (C : Addr) : Prop where
  hm : mg (cN c) = some (.ref C)
  cl : Cls K C
  na : ∀ f ∈ cF c, NoAttr K C f
theorem zip_lookup : ∀ {ns : List Str} {vs : List V} {j : Nat} {x : Str} {v : V}, ns.Nodup → ns[j]? = some x → vs[j]? = some v → (ns.zip vs).lookup x = some v
  | [], _, _, _, _, _, h, _ => by simp at h
  | _ :: _, [], _, _, _, _, _, h => by simp at h
  | n :: ns, w :: vs, 0, x, v, nd, h1, h2 => by
    simp at h1 h2; subst h1; subst h2
    simp [List.zip, List.lookup]
  | n :: ns, w :: vs, j + 1, x, v, nd, h1, h2 => by
    have hn : x ≠ n := fun e => by
      subst e
      exact (List.nodup_cons.mp nd).1 (List.mem_of_getElem? (by simpa using h1))
    rw [List.zip_cons_cons, List.lookup_cons]
    have e : (x == n) = false := beq_eq_false_iff_ne.mpr hn
    rw [e]
    exact zip_lookup (j := j) (List.nodup_cons.mp nd).2 (by simpa using h1) (by simpa using h2)
theorem zip_lookup_none : ∀ {ns : List Str} {vs : List V} {x : Str}, x ∉ ns → (ns.zip vs).lookup x = none
  | [], _, _, _ => by simp
  | _ :: _, [], _, _ => by simp
  | n :: ns, w :: vs, x, h => by
    rw [List.zip_cons_cons, List.lookup_cons]
    have e : (x == n) = false := beq_eq_false_iff_ne.mpr fun e => h (by simp [e])
    rw [e]
    exact zip_lookup_none fun z => h (List.mem_cons_of_mem _ z)

section
variable {X : Cx} {e a b o : Expr} {es : List Expr} {f g : Ex} {fs : Ag} {pos : Pos} {n : Nat}

/-! subscripts -/
def dIx : D → D → Option D
  | .lst xs, .int i => atI xs i
  | .tup xs, .int i => atI xs i
  | .scr ns, .int i => (atI ns i).map D.int
  | .str z, .int i => if z.length < 1000000 then (atI z.cps.toList i).map fun c => .str ⟨#[c]⟩ else none
  | _, _ => none
abbrev gIx (f g : Ex) : Ex := gOp dIx f g
theorem Rep.intv {K mg G v i} (r : Rep K mg G v (.int i)) : v = .int i := by cases r; rfl
theorem Rep.strv {K mg G v i} (r : Rep K mg G v (.str i)) : v = .str i := by cases r; rfl
theorem Rep.blv {K mg G v i} (r : Rep K mg G v (.bl i)) : v = .bl i := by cases r; rfl
theorem RepB.flat {K mg G H v d} (r : RepB K mg G H v d) (h : ∀ xs, d ≠ .lst xs) (h' : ∀ c xs, d ≠ .obj c xs := by simp) (h'' : ∀ ks xs, d ≠ .dic ks xs := by simp) (h3 : ∀ xs, d ≠ .lls xs := by simp) : Rep K mg G v d := by
  cases r with
  | sh r => exact r
  | li _ _ => exact absurd rfl (h _)
  | obj _ _ _ => exact absurd rfl (h' _ _)
  | dic _ _ _ => exact absurd rfl (h'' _ _)
  | lls _ _ => exact absurd rfl (h3 _)
theorem e_ix (ha : B X a f) (hb : E X b g) (hs : PlainIx b := by exact fun _ _ => rfl) : E X (.Subscript a b pos) (gIx f g) := by
  obtain ⟨t, h1, h2⟩ := ha.ex
  obtain ⟨u, q1, q2⟩ := hb.ex
  refine ⟨⟨_, pe_ix ix_seq h1 q1 hs, fun G0 H0 Z Γ σ G H Q d R hf k => ?_⟩⟩
  obtain ⟨x, e1, hf⟩ := obind hf
  obtain ⟨y, e2, hf⟩ := obind hf
  refine h2 G0 H0 Z Γ σ G H _ x R e1 fun G1 H1 v x1 r1 => ?_
  refine q2 G0 H0 Z Γ σ G1 H1 _ y (R.ext x1) e2 fun G2 H2 w x2 r2 => ?_
  have r1' := r1.ext x2
  have fin : ∀ v, Rep X.K X.mg G2 v d → Q v H2 := fun v r => k G2 H2 v (x1.trans x2) r
  cases x with
  | lst xs =>
    cases y with
    | int i =>
      obtain ⟨p, vs, rfl, h, r⟩ := r1'.lst x2.gh
      obtain ⟨v, h3, h4⟩ := r.at hf
      rw [r2.intv]
      exact .inl ⟨p, vs, _, v, rfl, rfl, SqL.of h, h3, fin v h4⟩
    | _ => cases hf
  | tup xs =>
    cases y with
    | int i =>
      obtain ⟨p, vs, rfl, h, r⟩ := r1'.tup x2.gh
      obtain ⟨v, h3, h4⟩ := r.at hf
      rw [r2.intv]
      exact .inr (.inl ⟨p, vs, _, v, rfl, rfl, h, h3, fin v h4⟩)
    | _ => cases hf
  | scr ns =>
    cases y with
    | int i =>
      obtain ⟨p, rfl, h⟩ := r1'.scr x2.gh
      rw [r2.intv]
      replace hf : (atI ns i).map D.int = some d := hf
      cases e3 : atI ns i with
      | none => rw [e3] at hf; cases hf
      | some m =>
        rw [e3] at hf; cases hf
        exact .inl ⟨p, _, i, .int m, rfl, rfl, h, by rw [atI_map, e3]; rfl, fin _ (.int m)⟩
    | _ => cases hf
  | str z =>
    cases y with
    | int i =>
      replace hf : (if z.length < 1000000 then (atI z.cps.toList i).map fun c => D.str ⟨#[c]⟩ else none) = some d := hf
      split at hf
      · rename_i hz
        rw [r2.intv, (r1'.flat (by simp)).strv]
        cases e3 : atI z.cps.toList i with
        | none => rw [e3] at hf; cases hf
        | some c =>
          rw [e3] at hf; cases hf
          exact .inr (.inr ⟨z, i, c, rfl, rfl, Nat.le_trans (Nat.le_of_lt hz) line_big, e3, fin _ (.str _)⟩)
      · cases hf
    | _ => cases hf
  | _ => cases hf

/-! slices of lists -/
abbrev Op := DEnv → Option (Option Int)
structure O (X : Cx) (e : Option Expr) (f : Op) : Prop where
  ex : ∃ t, PO X e t ∧ ∀ G0 H0 Z Γ σ G H Q d, Rel X.K X.mg G0 H0 Z Γ σ G H → f Γ = some d → (∀ G' H', Ext G H G' H' → Q d H') → t σ H Q
def gNo : Op := fun _ => some none
def gSo (f : Ex) : Op := fun Γ => (f Γ).bind fun d => match d with | .int i => some (some i) | _ => none
theorem o_no : O X none gNo := ⟨⟨_, po_none, fun G0 H0 Z Γ σ G H Q d R hf k => by cases hf; exact k G H (Ext.refl R.gh)⟩⟩
theorem o_so (h : E X e f) : O X (some e) (gSo f) := by
  obtain ⟨t, h1, h2⟩ := h.ex
  refine ⟨⟨_, po_some h1, fun G0 H0 Z Γ σ G H Q d R hf k => ?_⟩⟩
  obtain ⟨x, e1, hf⟩ := obind hf
  cases x with
  | int i =>
    cases hf
    refine h2 G0 H0 Z Γ σ G H _ _ R e1 fun G1 H1 v x1 r1 => ?_
    rw [r1.intv]
    exact ⟨i, rfl, k G1 H1 x1⟩
  | _ => cases hf
def dCut : D → Option Int → Option Int → Option (List D)
  | .lst xs, lo, hi => some (cutD xs lo hi)
  | .scr ns, lo, hi => some ((cutD ns lo hi).map D.int)
  | _, _, _ => none
def gSl (f : Ex) (lo hi : Op) : Ag := fun Γ => (f Γ).bind fun x => (lo Γ).bind fun l => (hi Γ).bind fun h => dCut x l h
theorem el_sl {lo hi : Option Expr} {p2 : Pos} {fl fh : Op} (he : B X e f) (hl : O X lo fl) (hh : O X hi fh) : EL X (.Subscript e (.Slice lo hi none p2) pos) (gSl f fl fh) := by
  obtain ⟨t, h1, h2⟩ := he.ex
  obtain ⟨u, q1, q2⟩ := hl.ex
  obtain ⟨w, z1, z2⟩ := hh.ex
  refine ⟨⟨_, pe_slice sl_list h1 q1 z1, fun G0 H0 Z Γ σ G H Q ds R hf k => ?_⟩⟩
  obtain ⟨x, e1, hf⟩ := obind hf
  obtain ⟨l, e2, hf⟩ := obind hf
  obtain ⟨h, e3, hf⟩ := obind hf
  refine h2 G0 H0 Z Γ σ G H _ x R e1 fun G1 H1 v x1 r1 => ?_
  refine q2 G0 H0 Z Γ σ G1 H1 _ l (R.ext x1) e2 fun G2 H2 x2 => ?_
  refine z2 G0 H0 Z Γ σ G2 H2 _ h ((R.ext x1).ext x2) e3 fun G3 H3 x3 => ?_
  have x23 := x2.trans x3
  have r1' := r1.ext x23
  have xx := x1.trans x23
  cases x with
  | lst xs =>
    cases hf
    obtain ⟨p, vs, rfl, h', r⟩ := r1'.lst x3.gh
    refine ⟨p, vs, rfl, SqL.of h', fun q hq => ?_⟩
    exact k G3 _ q _ (xx.trans (Ext.own1 x3.gh hq)) (xx.hf hq) (x3.gh.free hq) upd_same r.cut
  | scr ns =>
    cases hf
    obtain ⟨p, rfl, h'⟩ := r1'.scr x3.gh
    refine ⟨p, _, rfl, h', fun q hq => ?_⟩
    refine k G3 _ q _ (xx.trans (Ext.own1 x3.gh hq)) (xx.hf hq) (x3.gh.free hq) upd_same ?_
    rw [cutV_ints]
    exact RepL.ofInts
  | _ => cases hf

/-! calls of built-ins -/
/-- an argument that is looked at, alone -/
def CbB (X : Cx) (v : Value) (o : D → Option D) : Prop :=
  ∃ r, CallR X v r ∧ ∀ x d v G H Q, Same G H → o x = some d → RepB X.K X.mg G H v x → (∀ G' H' u, Ext G H G' H' → Rep X.K X.mg G' u d → Q u H') → r [v] H Q
def gU (o : D → Option D) (f : Ex) : Ex := fun Γ => (f Γ).bind o
theorem e_cb {id : String} {x : Str} {p : Pos} {q : D → Option D} (hc : CbB X (.builtin id) q) (hg : Gl X x) (hm : X.mg x = none) (hv : bootBuiltins x = some (.builtin id)) (ha : B X a f) (hn : x ≠ "__name__" := by decide) (hdb : (x == ("__debug__" : Str)) = false := by decide)
    (he : starEach [a] X.env = (false, eval a X.env) :: starEach [] X.env := by rfl) (hpl : (backTo pos (starEach [] X.env)).any (·.1) = false := by rfl) : E X (.Call (.Name x p) [a] [] pos) (gU q f) := by
  obtain ⟨r, c1, c2⟩ := hc
  obtain ⟨t, h1, h2⟩ := ha.ex
  refine ⟨⟨_, pe_callB c1 hg hm hv (pa_cons h1 pa_nil he) hn hdb he hpl, fun G0 H0 Z Γ σ G H Q d R hf k => ?_⟩⟩
  obtain ⟨y, e1, hf⟩ := obind hf
  refine h2 G0 H0 Z Γ σ G H _ y R e1 fun G1 H1 v x1 r1 => ?_
  exact c2 y d v G1 H1 Q x1.gh hf r1 fun G2 H2 u x2 r2 => k G2 H2 u (x1.trans x2) r2
theorem e_cty {id : String} {x : Str} {p : Pos} {q : D → Option D} (hc : CbB X (.type id) q) (hg : Gl X x) (hm : X.mg x = none) (hv : bootBuiltins x = some (.type id)) (ha : B X a f) (hn : x ≠ "__name__" := by decide) (hdb : (x == ("__debug__" : Str)) = false := by decide)
    (he : starEach [a] X.env = (false, eval a X.env) :: starEach [] X.env := by rfl) (hpl : (backTo pos (starEach [] X.env)).any (·.1) = false := by rfl) : E X (.Call (.Name x p) [a] [] pos) (gU q f) := by
  obtain ⟨r, c1, c2⟩ := hc
  obtain ⟨t, h1, h2⟩ := ha.ex
  refine ⟨⟨_, pe_callTy c1 hg hm hv (pa_cons h1 pa_nil he) hn hdb he hpl, fun G0 H0 Z Γ σ G H Q d R hf k => ?_⟩⟩
  obtain ⟨y, e1, hf⟩ := obind hf
  refine h2 G0 H0 Z Γ σ G H _ y R e1 fun G1 H1 v x1 r1 => ?_
  exact c2 y d v G1 H1 Q x1.gh hf r1 fun G2 H2 u x2 r2 => k G2 H2 u (x1.trans x2) r2
def dLen : D → Option D
  | .lst xs => some (.int xs.length)
  | .tup xs => some (.int xs.length)
  | .scr ns => some (.int ns.length)
  | .str z => if z.length < 1000000 then some (.int z.length) else none
  | _ => none
theorem callr_or {v : Value} {r r' : List V → Hp → VK → Prop} (h : CallR X v r) (h' : CallR X v r') : CallR X v (fun xs H Q => r xs H Q ∨ r' xs H Q) := by
  intro pins s σ H xs us Q I rx q
  rcases q with q | q
  · exact h pins s σ H xs us Q I rx q
  · exact h' pins s σ H xs us Q I rx q
theorem cb_len : CbB X (.builtin "len") dLen := by
  refine ⟨_, callr_or call_len_seq call_len_str, fun x d v G H Q gh e r k => ?_⟩
  unfold dLen at e
  split at e
  · cases e
    obtain ⟨p, vs, rfl, h, r⟩ := r.lst gh
    exact .inl ⟨p, vs, rfl, .inl (SqL.of h), by rw [r.length]; exact k G H _ (Ext.refl gh) (.int _)⟩
  · cases e
    obtain ⟨p, vs, rfl, h, r⟩ := r.tup gh
    exact .inl ⟨p, vs, rfl, .inr h, by rw [r.length]; exact k G H _ (Ext.refl gh) (.int _)⟩
  · cases e
    obtain ⟨p, rfl, h⟩ := r.scr gh
    exact .inl ⟨p, _, rfl, .inl h, by rw [List.length_map]; exact k G H _ (Ext.refl gh) (.int _)⟩
  · split at e
    · cases e
      rename_i z hz
      rw [(r.flat (by simp)).strv]
      exact .inr ⟨z, rfl, Nat.le_trans (Nat.le_of_lt hz) line_big, k G H _ (Ext.refl gh) (.int _)⟩
    · cases e
  · cases e
def dAbs : D → Option D
  | .int i => some (.int (if i < 0 then -i else i))
  | _ => none
theorem cb_abs : CbB X (.builtin "abs") dAbs := by
  refine ⟨_, call_abs, fun x d v G H Q gh e r k => ?_⟩
  unfold dAbs at e
  split at e
  · cases e
    rw [(r.flat (by simp)).intv]
    exact ⟨_, rfl, k G H _ (Ext.refl gh) (.int _)⟩
  · cases e
def dInt : D → Option D
  | .int i => some (.int i)
  | .bl b => some (.int (if b then 1 else 0))
  | _ => none
theorem cb_int : CbB X (.type "int") dInt := by
  refine ⟨_, call_int1, fun x d v G H Q gh e r k => ?_⟩
  unfold dInt at e
  split at e
  · cases e
    rw [(r.flat (by simp)).intv]
    exact .inl ⟨_, rfl, k G H _ (Ext.refl gh) (.int _)⟩
  · cases e
    rw [(r.flat (by simp)).blv]
    exact .inr ⟨_, rfl, k G H _ (Ext.refl gh) (.int _)⟩
  · cases e
/-! lists of ints, of truth values -/
def ints? : List D → Option (List Int)
  | [] => some []
  | .int i :: r => (ints? r).map (i :: ·)
  | _ :: _ => none
def bls? : List D → Option (List Bool)
  | [] => some []
  | .bl i :: r => (bls? r).map (i :: ·)
  | _ :: _ => none
theorem ints?_map : ∀ ns : List Int, ints? (ns.map D.int) = some ns
  | [] => rfl
  | n :: ns => by simp [ints?, ints?_map ns]
theorem bls?_map : ∀ ns : List Bool, bls? (ns.map D.bl) = some ns
  | [] => rfl
  | n :: ns => by simp [bls?, bls?_map ns]
theorem ints?_some : ∀ {ds : List D} {ns : List Int}, ints? ds = some ns → ds = ns.map D.int
  | [], _, h => by cases h; rfl
  | .int i :: r, ns, h => by
    simp only [ints?, Option.map_eq_some_iff] at h
    obtain ⟨m, h1, rfl⟩ := h
    rw [ints?_some h1]; rfl
  | .non :: _, _, h => by simp [ints?] at h
  | .bl _ :: _, _, h => by simp [ints?] at h
  | .str _ :: _, _, h => by simp [ints?] at h
  | .lst _ :: _, _, h => by simp [ints?] at h
  | .tup _ :: _, _, h => by simp [ints?] at h
  | .scr _ :: _, _, h => by simp [ints?] at h
  | .obj _ _ :: _, _, h => by simp [ints?] at h
theorem bls?_some : ∀ {ds : List D} {ns : List Bool}, bls? ds = some ns → ds = ns.map D.bl
  | [], _, h => by cases h; rfl
  | .bl i :: r, ns, h => by
    simp only [bls?, Option.map_eq_some_iff] at h
    obtain ⟨m, h1, rfl⟩ := h
    rw [bls?_some h1]; rfl
  | .non :: _, _, h => by simp [bls?] at h
  | .int _ :: _, _, h => by simp [bls?] at h
  | .str _ :: _, _, h => by simp [bls?] at h
  | .lst _ :: _, _, h => by simp [bls?] at h
  | .tup _ :: _, _, h => by simp [bls?] at h
  | .scr _ :: _, _, h => by simp [bls?] at h
  | .obj _ _ :: _, _, h => by simp [bls?] at h
def dInts : D → Option (List Int)
  | .lst xs => ints? xs
  | .scr ns => some ns
  | _ => none
theorem RepB.ints {K mg G H v d ns} (gh : Same G H) (r : RepB K mg G H v d) (e : dInts d = some ns) : ∃ p, v = .ref p ∧ SqL K H p (ns.map V.int) := by
  unfold dInts at e
  split at e
  · obtain ⟨p, vs, rfl, h, r⟩ := r.lst gh
    rw [ints?_some e] at r
    rw [r.ints] at h
    exact ⟨p, rfl, SqL.of h⟩
  · cases e
    exact r.scr gh
  · cases e
def maxI : List Int → Int
  | [] => 0
  | [x] => x
  | x :: r => if maxI r > x then maxI r else x
def minI : List Int → Int
  | [] => 0
  | [x] => x
  | x :: r => if minI r < x then minI r else x
theorem maxI_spec : ∀ ns : List Int, 0 < ns.length → maxI ns ∈ ns ∧ ∀ y ∈ ns, y ≤ maxI ns
  | [], h => by simp at h
  | [x], _ => by simp [maxI]
  | x :: y :: r, _ => by
    obtain ⟨h1, h2⟩ := maxI_spec (y :: r) (by simp)
    simp only [maxI]
    by_cases h : maxI (y :: r) > x
    · rw [if_pos h]
      exact ⟨List.mem_cons_of_mem _ h1, fun z hz => by
        rcases List.mem_cons.mp hz with rfl | hz
        · omega
        · exact h2 z hz⟩
    · rw [if_neg h]
      exact ⟨by simp, fun z hz => by
        rcases List.mem_cons.mp hz with rfl | hz
        · omega
        · have := h2 z hz; omega⟩
theorem minI_spec : ∀ ns : List Int, 0 < ns.length → minI ns ∈ ns ∧ ∀ y ∈ ns, minI ns ≤ y
  | [], h => by simp at h
  | [x], _ => by simp [minI]
  | x :: y :: r, _ => by
    obtain ⟨h1, h2⟩ := minI_spec (y :: r) (by simp)
    simp only [minI]
    by_cases h : minI (y :: r) < x
    · rw [if_pos h]
      exact ⟨List.mem_cons_of_mem _ h1, fun z hz => by
        rcases List.mem_cons.mp hz with rfl | hz
        · omega
        · exact h2 z hz⟩
    · rw [if_neg h]
      exact ⟨by simp, fun z hz => by
        rcases List.mem_cons.mp hz with rfl | hz
        · omega
        · have := h2 z hz; omega⟩
def dMax (d : D) : Option D := (dInts d).bind fun ns => if ns.isEmpty then none else some (.int (maxI ns))
def dMin (d : D) : Option D := (dInts d).bind fun ns => if ns.isEmpty then none else some (.int (minI ns))
def dSum (d : D) : Option D := (dInts d).bind fun ns => some (.int ns.sum)
theorem cb_max (hc : X.calm = true) : CbB X (.builtin "max") dMax := by
  refine ⟨_, cr_max hc, fun x d v G H Q gh e r k => ?_⟩
  obtain ⟨ns, e1, e⟩ := obind e
  split at e
  · cases e
  · rename_i z
    cases e
    obtain ⟨p, rfl, h⟩ := r.ints gh e1
    have hl : 0 < ns.length := by
      cases ns with
      | nil => simp at z
      | cons => simp
    obtain ⟨m1, m2⟩ := maxI_spec ns hl
    refine ⟨p, ns, rfl, h, hl, fun m hm hle => ?_⟩
    have : m = maxI ns := Int.le_antisymm (m2 m hm) (hle _ m1)
    rw [this]
    exact k G H _ (Ext.refl gh) (.int _)
theorem cb_min (hc : X.calm = true) : CbB X (.builtin "min") dMin := by
  refine ⟨_, cr_min hc, fun x d v G H Q gh e r k => ?_⟩
  obtain ⟨ns, e1, e⟩ := obind e
  split at e
  · cases e
  · rename_i z
    cases e
    obtain ⟨p, rfl, h⟩ := r.ints gh e1
    have hl : 0 < ns.length := by
      cases ns with
      | nil => simp at z
      | cons => simp
    obtain ⟨m1, m2⟩ := minI_spec ns hl
    refine ⟨p, ns, rfl, h, hl, fun m hm hle => ?_⟩
    have : m = minI ns := Int.le_antisymm (hle _ m1) (m2 m hm)
    rw [this]
    exact k G H _ (Ext.refl gh) (.int _)
theorem cb_sum (hc : X.calm = true) : CbB X (.builtin "sum") dSum := by
  refine ⟨_, cr_sum hc, fun x d v G H Q gh e r k => ?_⟩
  obtain ⟨ns, e1, e⟩ := obind e
  cases e
  obtain ⟨p, rfl, h⟩ := r.ints gh e1
  exact ⟨p, ns, rfl, h, k G H _ (Ext.refl gh) (.int _)⟩
def dBls : D → Option (List Bool)
  | .lst xs => bls? xs
  | _ => none
theorem RepB.bls {K mg G H v d ns} (gh : Same G H) (r : RepB K mg G H v d) (e : dBls d = some ns) : ∃ p, v = .ref p ∧ SqL K H p (ns.map V.bl) := by
  unfold dBls at e
  split at e
  · obtain ⟨p, vs, rfl, h, r⟩ := r.lst gh
    rw [bls?_some e] at r
    rw [r.bls] at h
    exact ⟨p, rfl, SqL.of h⟩
  · cases e
def dAll (d : D) : Option D := (dBls d).bind fun ns => some (.bl (ns.all id))
def dAny (d : D) : Option D := (dBls d).bind fun ns => some (.bl (ns.any id))
theorem cb_all (hc : X.calm = true) : CbB X (.builtin "all") dAll := by
  refine ⟨_, cr_all hc, fun x d v G H Q gh e r k => ?_⟩
  obtain ⟨ns, e1, e⟩ := obind e
  cases e
  obtain ⟨p, rfl, h⟩ := r.bls gh e1
  exact ⟨p, ns, rfl, h, k G H _ (Ext.refl gh) (.bl _)⟩
theorem cb_any (hc : X.calm = true) : CbB X (.builtin "any") dAny := by
  refine ⟨_, cr_any hc, fun x d v G H Q gh e r k => ?_⟩
  obtain ⟨ns, e1, e⟩ := obind e
  cases e
  obtain ⟨p, rfl, h⟩ := r.bls gh e1
  exact ⟨p, ns, rfl, h, k G H _ (Ext.refl gh) (.bl _)⟩
/-! a new list of a call: list(x), sorted(x) -/
def CbL (X : Cx) (v : Value) (o : D → Option (List D)) : Prop :=
  ∃ r, CallR X v r ∧ ∀ x ds v G H Q, Same G H → o x = some ds → RepB X.K X.mg G H v x → (∀ p vs, H p = none → RepL X.K X.mg G vs ds → Q (.ref p) (upd H p (.lst vs))) → r [v] H Q
def gUL (o : D → Option (List D)) (f : Ex) : Ag := fun Γ => (f Γ).bind o
theorem el_cb {id : String} {x : Str} {p : Pos} {q : D → Option (List D)} (hc : CbL X (.builtin id) q) (hg : Gl X x) (hm : X.mg x = none) (hv : bootBuiltins x = some (.builtin id)) (ha : B X a f) (hn : x ≠ "__name__" := by decide) (hdb : (x == ("__debug__" : Str)) = false := by decide)
    (he : starEach [a] X.env = (false, eval a X.env) :: starEach [] X.env := by rfl) (hpl : (backTo pos (starEach [] X.env)).any (·.1) = false := by rfl) : EL X (.Call (.Name x p) [a] [] pos) (gUL q f) := by
  obtain ⟨r, c1, c2⟩ := hc
  obtain ⟨t, h1, h2⟩ := ha.ex
  refine ⟨⟨_, pe_callB c1 hg hm hv (pa_cons h1 pa_nil he) hn hdb he hpl, fun G0 H0 Z Γ σ G H Q d R hf k => ?_⟩⟩
  obtain ⟨y, e1, hf⟩ := obind hf
  refine h2 G0 H0 Z Γ σ G H _ y R e1 fun G1 H1 v x1 r1 => ?_
  exact c2 y d v G1 H1 Q x1.gh hf r1 fun p vs hp r2 => k G1 _ p vs (x1.trans (Ext.own1 x1.gh hp)) (x1.hf hp) (x1.gh.free hp) upd_same r2
theorem el_cty {id : String} {x : Str} {p : Pos} {q : D → Option (List D)} (hc : CbL X (.type id) q) (hg : Gl X x) (hm : X.mg x = none) (hv : bootBuiltins x = some (.type id)) (ha : B X a f) (hn : x ≠ "__name__" := by decide) (hdb : (x == ("__debug__" : Str)) = false := by decide)
    (he : starEach [a] X.env = (false, eval a X.env) :: starEach [] X.env := by rfl) (hpl : (backTo pos (starEach [] X.env)).any (·.1) = false := by rfl) : EL X (.Call (.Name x p) [a] [] pos) (gUL q f) := by
  obtain ⟨r, c1, c2⟩ := hc
  obtain ⟨t, h1, h2⟩ := ha.ex
  refine ⟨⟨_, pe_callTy c1 hg hm hv (pa_cons h1 pa_nil he) hn hdb he hpl, fun G0 H0 Z Γ σ G H Q d R hf k => ?_⟩⟩
  obtain ⟨y, e1, hf⟩ := obind hf
  refine h2 G0 H0 Z Γ σ G H _ y R e1 fun G1 H1 v x1 r1 => ?_
  exact c2 y d v G1 H1 Q x1.gh hf r1 fun p vs hp r2 => k G1 _ p vs (x1.trans (Ext.own1 x1.gh hp)) (x1.hf hp) (x1.gh.free hp) upd_same r2
def dList : D → Option (List D)
  | .lst xs => some xs
  | .tup xs => some xs
  | .scr ns => some (ns.map D.int)
  | _ => none
theorem cb_list : CbL X (.type "list") dList := by
  refine ⟨_, call_list_of, fun x d v G H Q gh e r k => ?_⟩
  unfold dList at e
  split at e
  · cases e
    obtain ⟨p, vs, rfl, h, r⟩ := r.lst gh
    exact ⟨p, vs, rfl, .inl (SqL.of h), fun l hl => k l vs hl r⟩
  · cases e
    obtain ⟨p, vs, rfl, h, r⟩ := r.tup gh
    exact ⟨p, vs, rfl, .inr h, fun l hl => k l vs hl r⟩
  · cases e
    obtain ⟨p, rfl, h⟩ := r.scr gh
    exact ⟨p, _, rfl, .inl h, fun l hl => k l _ hl .ofInts⟩
  · cases e
/-- the one ascending arrangement -/
def srt (ns : List Int) : List Int := ns.mergeSort (fun a b => decide (a ≤ b))
theorem srt_perm (ns : List Int) : (srt ns).Perm ns := List.mergeSort_perm ns _
theorem srt_le (ns : List Int) : (srt ns).Pairwise (· ≤ ·) := by
  have h := List.pairwise_mergeSort (le := fun a b : Int => decide (a ≤ b)) (fun a b c h1 h2 => by simp at *; omega) (fun a b => by simp; omega) ns
  exact h.imp fun h => by simpa using h
theorem srt_unique {xs ys : List Int} (h : xs.Perm ys) (hx : xs.Pairwise (· ≤ ·)) (hy : ys.Pairwise (· ≤ ·)) : xs = ys :=
  List.Perm.eq_of_pairwise (fun a b _ _ h1 h2 => Int.le_antisymm h1 h2) hx hy h
def dSorted (d : D) : Option (List D) := (dInts d).bind fun ns => some ((srt ns).map D.int)
theorem cb_sorted : CbL X (.builtin "sorted") dSorted := by
  refine ⟨_, cr_sortedI, fun x d v G H Q gh e r k => ?_⟩
  obtain ⟨ns, e1, e⟩ := obind e
  cases e
  obtain ⟨p, rfl, h⟩ := r.ints gh e1
  refine ⟨p, ns, rfl, h, fun ns' q hp ho hq => ?_⟩
  have e2 : ns' = srt ns := srt_unique (hp.trans (srt_perm ns).symm) ho (srt_le ns)
  subst e2
  exact k q _ hq .ofInts
/-! two arguments -/
def CbA (X : Cx) (v : Value) (o : List D → Option D) : Prop :=
  ∃ r, CallR X v r ∧ ∀ xs d vs G H Q, Same G H → o xs = some d → RepL X.K X.mg G vs xs → (∀ G' H' u, Ext G H G' H' → Rep X.K X.mg G' u d → Q u H') → r vs H Q
def gA (o : List D → Option D) (fs : Ag) : Ex := fun Γ => (fs Γ).bind o
theorem e_cba {id : String} {x : Str} {p : Pos} {q : List D → Option D} (hc : CbA X (.builtin id) q) (hg : Gl X x) (hm : X.mg x = none) (hv : bootBuiltins x = some (.builtin id)) (ha : A X (a :: es) fs) (hn : x ≠ "__name__" := by decide) (hdb : (x == ("__debug__" : Str)) = false := by decide)
    (he : starEach (a :: es) X.env = (false, eval a X.env) :: starEach es X.env := by rfl) (hpl : (backTo pos (starEach es X.env)).any (·.1) = false := by rfl) : E X (.Call (.Name x p) (a :: es) [] pos) (gA q fs) := by
  obtain ⟨r, c1, c2⟩ := hc
  obtain ⟨t, h1, h2⟩ := ha.ex
  refine ⟨⟨_, pe_callB c1 hg hm hv h1 hn hdb he hpl, fun G0 H0 Z Γ σ G H Q d R hf k => ?_⟩⟩
  obtain ⟨y, e1, hf⟩ := obind hf
  refine h2 G0 H0 Z Γ σ G H _ y R e1 fun G1 H1 v x1 r1 => ?_
  exact c2 y d v G1 H1 Q x1.gh hf r1 fun G2 H2 u x2 r2 => k G2 H2 u (x1.trans x2) r2
/-- a module's name for a built-in -/
theorem e_cbf {id : String} {x : Str} {p : Pos} {q : List D → Option D} (hc : CbA X (.builtin id) q) (hg : Gl X x) (hm : X.mg x = some (.builtin id)) (ha : A X (a :: es) fs) (hdb : (x == ("__debug__" : Str)) = false := by decide)
    (he : starEach (a :: es) X.env = (false, eval a X.env) :: starEach es X.env := by rfl) (hpl : (backTo pos (starEach es X.env)).any (·.1) = false := by rfl) : E X (.Call (.Name x p) (a :: es) [] pos) (gA q fs) := by
  obtain ⟨r, c1, c2⟩ := hc
  obtain ⟨t, h1, h2⟩ := ha.ex
  refine ⟨⟨_, pe_callBfun c1 hg hm h1 hdb he hpl, fun G0 H0 Z Γ σ G H Q d R hf k => ?_⟩⟩
  obtain ⟨y, e1, hf⟩ := obind hf
  refine h2 G0 H0 Z Γ σ G H _ y R e1 fun G1 H1 v x1 r1 => ?_
  exact c2 y d v G1 H1 Q x1.gh hf r1 fun G2 H2 u x2 r2 => k G2 H2 u (x1.trans x2) r2
def dGcd : List D → Option D
  | [.int a, .int b] => some (.int ((Nat.gcd a.natAbs b.natAbs : Nat) : Int))
  | _ => none
theorem cb_gcd : CbA X (.builtin "math.gcd") dGcd := by
  refine ⟨_, cr_gcd, fun x d v G H Q gh e r k => ?_⟩
  unfold dGcd at e
  split at e
  · cases e
    cases r with
    | cons h1 r => cases h1; cases r with
      | cons h2 r => cases h2; cases r; exact ⟨_, _, rfl, k G H _ (Ext.refl gh) (.int _)⟩
  · cases e
def dMax2 : List D → Option D
  | [.int a, .int b] => some (.int (if b > a then b else a))
  | _ => none
theorem cb_max2 (hc : X.calm = true) : CbA X (.builtin "max") dMax2 := by
  refine ⟨_, call_max2 hc, fun x d v G H Q gh e r k => ?_⟩
  unfold dMax2 at e
  split at e
  · cases e
    cases r with
    | cons h1 r => cases h1; cases r with
      | cons h2 r => cases h2; cases r; exact ⟨_, _, rfl, k G H _ (Ext.refl gh) (.int _)⟩
  · cases e
def dMin2 : List D → Option D
  | [.int a, .int b] => some (.int (if b < a then b else a))
  | _ => none
theorem cb_min2 (hc : X.calm = true) : CbA X (.builtin "min") dMin2 := by
  refine ⟨_, call_min2 hc, fun x d v G H Q gh e r k => ?_⟩
  unfold dMin2 at e
  split at e
  · cases e
    cases r with
    | cons h1 r => cases h1; cases r with
      | cons h2 r => cases h2; cases r; exact ⟨_, _, rfl, k G H _ (Ext.refl gh) (.int _)⟩
  · cases e
/-! isinstance(x, T) -/
def dTy : D → String
  | .non => "NoneType" | .bl _ => "bool" | .int _ => "int" | .str _ => "str" | .lst _ => "list" | .tup _ => "?" | .scr _ => "list" | .obj _ _ => "?" | .fn _ _ _ _ _ => "?" | .dic _ _ => "?" | .lls _ => "?" | .exc _ _ _ => "?"
def dIsi (T : String) (d : D) : Option D := match d with
  | .obj _ _ => none
  | .scr _ => none
  | .tup _ => none
  | .fn _ _ _ _ _ => none
  | .dic _ _ => none
  | .lls _ => none
  | .exc _ _ _ => none
  | d => (kitB (dTy d) T).map D.bl
theorem e_isi {T : String} {x y : Str} {p p2 : Pos} (hg : Gl X x) (hm : X.mg x = none) (hv : bootBuiltins x = some (.builtin "isinstance")) (hgy : Gl X y) (hmy : X.mg y = none) (hvy : bootBuiltins y = some (.type T)) (ha : B X a f)
    (hn : x ≠ "__name__" := by decide) (hdb : (x == ("__debug__" : Str)) = false := by decide) (hny : y ≠ "__name__" := by decide) (hdby : (y == ("__debug__" : Str)) = false := by decide)
    (he : starEach [a, .Name y p2] X.env = (false, eval a X.env) :: starEach [.Name y p2] X.env := by rfl) (hpl : (backTo pos (starEach [.Name y p2] X.env)).any (·.1) = false := by rfl) (he2 : starEach [.Name y p2] X.env = (false, eval (.Name y p2) X.env) :: starEach [] X.env := by rfl) :
    E X (.Call (.Name x p) [a, .Name y p2] [] pos) (gU (dIsi T) f) := by
  obtain ⟨t, h1, h2⟩ := ha.ex
  refine ⟨⟨_, pe_callB call_isi hg hm hv (pa_cons h1 (pa_cons (pe_bltn (v := .ty T) hgy hmy hvy rfl hny hdby) pa_nil he2) he) hn hdb he hpl, fun G0 H0 Z Γ σ G H Q d R hf k => ?_⟩⟩
  obtain ⟨y, e1, hf⟩ := obind hf
  refine h2 G0 H0 Z Γ σ G H _ y R e1 fun G1 H1 v x1 r1 => ?_
  have fin : ∀ {b : Bool}, d = .bl b → Q (.bl b) H1 := fun e => by subst e; exact k G1 H1 _ x1 (.bl _)
  have go : ∀ (tn : String), TyOf X.K H1 v (.type tn) → (kitB tn T).map D.bl = some d → rIsi X.K [v, .ty T] H1 Q := fun tn ty e => by
    cases q : kitB tn T with
    | none => rw [q] at e; cases e
    | some b =>
      rw [q] at e
      exact ⟨v, .ty T, .type tn, .type T, b, rfl, .ty T, .base ty, kit_ty q, fin (Option.some.inj e).symm⟩
  cases y with
  | non => have := r1.flat (by simp); cases this; exact go _ .non hf
  | bl b => have z := (r1.flat (by simp)).blv; subst z; exact go _ (.bl _) hf
  | int b => have z := (r1.flat (by simp)).intv; subst z; exact go _ (.int _) hf
  | str b => have z := (r1.flat (by simp)).strv; subst z; exact go _ (.str _) hf
  | lst xs => obtain ⟨p, vs, rfl, h, r⟩ := r1.lst x1.gh; exact go _ (.lst h) hf
  | tup xs => cases hf
  | scr ns => cases hf
  | obj c ds => cases hf
  | fn a c q vs ds => cases hf
  | dic ks xs => cases hf
  | lls xs => cases hf
  | exc a dx n => cases hf
/-! -x -/
def dNeg : D → Option D
  | .int i => some (.int (-i))
  | _ => none
theorem e_neg (ha : E X a f) : E X (.UnaryOp .USub a pos) (gU dNeg f) := by
  obtain ⟨t, h1, h2⟩ := ha.ex
  refine ⟨⟨_, pe_un un_neg h1, fun G0 H0 Z Γ σ G H Q d R hf k => ?_⟩⟩
  obtain ⟨y, e1, hf⟩ := obind hf
  unfold dNeg at hf
  split at hf
  · cases hf
    refine h2 G0 H0 Z Γ σ G H _ _ R e1 fun G1 H1 v x1 r1 => ?_
    rw [r1.intv]
    exact ⟨_, rfl, k G1 H1 _ x1 (.int _)⟩
  · cases hf
/-! fields -/
def dFld (c j : Nat) : D → Option D
  | .obj c' vs => if c' = c then vs[j]? else none
  | _ => none
theorem e_fld {c j : Nat} {C : Addr} {x : Str} (ck : CK X.K X.mg c C) (he : E X o f) (hj : (cF c)[j]? = some x := by rfl) (nd : (cF c).Nodup := by decide +kernel) (hb : attributeBase o x X.env (eval o X.env) = eval o X.env := by rfl) : E X (.Attribute o x pos) (gU (dFld c j) f) := by
  obtain ⟨t, h1, h2⟩ := he.ex
  refine ⟨⟨_, pe_fld h1 hb, fun G0 H0 Z Γ σ G H Q d R hf k => ?_⟩⟩
  obtain ⟨y, e1, hv⟩ := obind hf
  cases y with
  | obj c' vs =>
    replace hv : (if c' = c then vs[j]? else none) = some d := hv
    split at hv
    · rename_i cz
      subst cz
      refine h2 G0 H0 Z Γ σ G H _ _ R e1 fun G1 H1 v x1 r1 => ?_
      cases r1 with
      | obj hm h r =>
        rw [ck.hm] at hm
        cases hm
        obtain ⟨w, g1, g2⟩ := r.get j hv
        exact ⟨_, _, _, _, w, rfl, x1.gh _ _ h, ck.cl, ck.na x (List.mem_of_getElem? hj), zip_lookup nd hj g1, k G1 H1 w x1 g2⟩
    · cases hv
  | _ => cases hv

/-! ### defs -/
/-- the promise of a def that changes nothing: its value by data -/
def spD (K : PySem.W.Frag) (mg : Str → Option Value) (n : Nat) (F : List D → Option D) : Sp := fun vs H Q _ =>
  ∃ G ds d, vs.length = n ∧ Same G H ∧ TC.ti.t G H ∧ RepL K mg G vs ds ∧ F ds = some d ∧ ∀ G' H' v, Ext G H G' H' → Rep K mg G' v d → Q v H'
def gCall (F : List D → Option D) (fs : Ag) : Ex := fun Γ => (fs Γ).bind F
theorem e_call {k : Nat} {fa : Addr} {fd : FuncData} {ps : List Str} {F : List D → Option D} {x : Str} {p : Pos} (FO : FnOk X.prog X.w X.K X.mg X.base CX0 k fa fd ps (spD X.K X.mg n F)) (hr : Room k X.A) (hm : X.mg x = some (.ref fa)) (hk : PySem.W.keepIn X.K (.ref fa) = true) (hb : Binds X.K fd ps [])
    (ha : AN X (a :: es) n fs) (hg : Gl X x := by rfl) (hdb : (x == ("__debug__" : Str)) = false := by decide) (he : starEach (a :: es) X.env = (false, eval a X.env) :: starEach es X.env := by rfl) (hpl : (backTo pos (starEach es X.env)).any (·.1) = false := by rfl) :
    E X (.Call (.Name x p) (a :: es) [] pos) (gCall F fs) := by
  obtain ⟨t, h1, h2⟩ := ha.a.ex
  refine ⟨⟨_, pe_call FO hr hg hm hk hb .nil pass0 h1 hdb he hpl, fun G0 H0 Z Γ σ G H Q d R hf k => ?_⟩⟩
  obtain ⟨ds, e1, hf⟩ := obind hf
  refine h2 G0 H0 Z Γ σ G H _ _ R e1 fun G1 H1 vs x1 r1 => ?_
  refine ⟨G1, ds, d, ?_, x1.gh, (R.ext x1).tbc, ?_, hf, fun G' H' v x2 r2 => k G' H' v (x1.trans x2) r2⟩
  · rw [List.append_nil, r1.length, ha.n Γ ds e1]
  · rw [List.append_nil]; exact r1
theorem e_call0 {k : Nat} {fa : Addr} {fd : FuncData} {ps : List Str} {F : List D → Option D} {x : Str} {p : Pos} (FO : FnOk X.prog X.w X.K X.mg X.base CX0 k fa fd ps (spD X.K X.mg 0 F)) (hr : Room k X.A) (hm : X.mg x = some (.ref fa)) (hk : PySem.W.keepIn X.K (.ref fa) = true) (hb : Binds X.K fd ps [])
    (hg : Gl X x := by rfl) (hdb : (x == ("__debug__" : Str)) = false := by decide) : E X (.Call (.Name x p) [] [] pos) (gCall F aN) := by
  refine ⟨⟨_, pe_call0 FO hr hg hm hk hb .nil pass0 hdb, fun G0 H0 Z Γ σ G H Q d R hf k => ?_⟩⟩
  obtain ⟨ds, e1, hf⟩ := obind hf
  cases e1
  exact ⟨G, [], d, rfl, R.gh, R.tbc, .nil, hf, fun G' H' v x2 r2 => k G' H' v x2 r2⟩
/-- o.m(..) of an object that does not change -/
def gMeth (c : Nat) (F : List D → Option D) (f : Ex) (fs : Ag) : Ex := fun Γ => (f Γ).bind fun d => match d with
  | .obj c' vs => if c' = c then (fs Γ).bind fun ds => F (.obj c' vs :: ds) else none
  | _ => none
theorem e_meth {pl : Sem Bool} {c k : Nat} {C fa : Addr} {fd : FuncData} {ps : List Str} {F : List D → Option D} {m : Str} {apos : Pos} (ck : CK X.K X.mg c C) (hme : Meth X.K C m fa) (FO : FnOk X.prog X.w X.K X.mg X.base CX0 k fa fd ps (spD X.K X.mg (n + 1) F)) (hr : Room k X.A) (hb : Binds X.K fd ps [])
    (ho : E X o f) (ha : AN X (a :: es) n fs) (hno : m ∉ cF c := by decide +kernel)
    (hst : starEach (a :: es) X.env = (false, eval a X.env) :: starEach es X.env := by rfl) (hpl : (backTo pos (starEach es X.env)).any (·.1) = false := by rfl)
    (ht : eval (.Call (.Attribute o m apos) (a :: es) [] pos) X.env = (do
      let ov ← eval o X.env
      standAt apos.atName
      let (f, first) ← holding [ov] (getMethod ov m pl)
      callWith pos f first (backTo pos (starEach (a :: es) X.env)) (backToKw pos (keywordEach [] X.env))) := by rfl) : E X (.Call (.Attribute o m apos) (a :: es) [] pos) (gMeth c F f fs) := by
  obtain ⟨t, h1, h2⟩ := ha.a.ex
  obtain ⟨u, q1, q2⟩ := ho.ex
  refine ⟨⟨_, pe_meth q1 ck.cl hme FO hr hb .nil pass0 h1 hst hpl ht, fun G0 H0 Z Γ σ G H Q d R hf k => ?_⟩⟩
  obtain ⟨y, e1, hv⟩ := obind hf
  cases y with
  | obj c' vs' =>
    replace hv : (if c' = c then (fs Γ).bind fun ds => F (.obj c' vs' :: ds) else none) = some d := hv
    split at hv
    · rename_i cz
      subst cz
      obtain ⟨ds, e2, hv⟩ := obind hv
      refine q2 G0 H0 Z Γ σ G H _ _ R e1 fun G1 H1 v x1 r1 => ?_
      cases r1 with
      | obj hm h r =>
        have hm' := hm
        rw [ck.hm] at hm'
        cases hm'
        refine ⟨_, _, _, rfl, x1.gh _ _ h, zip_lookup_none hno, ?_⟩
        refine h2 G0 H0 Z Γ σ G1 H1 _ _ (R.ext x1) e2 fun G2 H2 vs x2 r2 => ?_
        refine ⟨G2, _, d, ?_, x2.gh, ((R.ext x1).ext x2).tbc, .cons (.obj hm (x2.gg _ _ h) (r.mono x2.gg)) (by rw [List.append_nil]; exact r2), hv, fun G' H' v x3 r3 => k G' H' v ((x1.trans x2).trans x3) r3⟩
        rw [List.append_nil, List.length_cons, r2.length, ha.n Γ ds e2]
    · cases hv
  | _ => cases hv
theorem e_meth0 {pl : Sem Bool} {c k : Nat} {C fa : Addr} {fd : FuncData} {ps : List Str} {F : List D → Option D} {m : Str} {apos : Pos} (ck : CK X.K X.mg c C) (hme : Meth X.K C m fa) (FO : FnOk X.prog X.w X.K X.mg X.base CX0 k fa fd ps (spD X.K X.mg 1 F)) (hr : Room k X.A) (hb : Binds X.K fd ps [])
    (ho : E X o f) (hno : m ∉ cF c := by decide +kernel)
    (ht : eval (.Call (.Attribute o m apos) [] [] pos) X.env = (do
      let ov ← eval o X.env
      standAt apos.atName
      let (f, first) ← holding [ov] (getMethod ov m pl)
      callWith pos f first (backTo pos (starEach [] X.env)) (backToKw pos (keywordEach [] X.env))) := by rfl) : E X (.Call (.Attribute o m apos) [] [] pos) (gMeth c F f aN) := by
  obtain ⟨u, q1, q2⟩ := ho.ex
  refine ⟨⟨_, pe_meth0 q1 ck.cl hme FO hr hb .nil pass0 ht, fun G0 H0 Z Γ σ G H Q d R hf k => ?_⟩⟩
  obtain ⟨y, e1, hv⟩ := obind hf
  cases y with
  | obj c' vs' =>
    replace hv : (if c' = c then (aN Γ).bind fun ds => F (.obj c' vs' :: ds) else none) = some d := hv
    split at hv
    · rename_i cz
      subst cz
      obtain ⟨ds, e2, hv⟩ := obind hv
      cases e2
      refine q2 G0 H0 Z Γ σ G H _ _ R e1 fun G1 H1 v x1 r1 => ?_
      cases r1 with
      | obj hm h r =>
        have hm' := hm
        rw [ck.hm] at hm'
        cases hm'
        refine ⟨_, _, _, rfl, x1.gh _ _ h, zip_lookup_none hno, ?_⟩
        exact ⟨G1, _, d, rfl, x1.gh, (R.ext x1).tbc, .cons (.obj hm h r) .nil, hv, fun G' H' v x3 r3 => k G' H' v (x1.trans x3) r3⟩
    · cases hv
  | _ => cases hv
end
end DL

namespace DL
open PySem L2
variable [TC : TabCtx]

/-! ### targets -/
theorem wipe_set {σ : L2.St} {i : Nat} {x : Option V} : ∀ (vs : List Nat), L2.wipe (σ.set i x) vs = if i ∈ vs then L2.wipe σ vs else (L2.wipe σ vs).set i x
  | [] => by simp [L2.wipe]
  | v :: vs => by
    simp only [L2.wipe]
    rw [wipe_set vs]
    by_cases h1 : i ∈ vs
    · rw [if_pos h1, if_pos (List.mem_cons_of_mem _ h1)]
    · rw [if_neg h1]
      by_cases h2 : i = v
      · subst h2
        rw [if_pos List.mem_cons_self, List.set_set]
      · rw [if_neg (by simp [h1, h2]), List.set_comm _ _ h2]
theorem wipe_in {σ : L2.St} {i : Nat} {x : Option V} {vs : List Nat} (h : i ∈ vs) : L2.wipe (σ.set i x) vs = L2.wipe σ vs := by rw [wipe_set, if_pos h]
theorem wipe_sub {σ : L2.St} {vs : List Nat} : ∀ us : List Nat, (∀ i ∈ us, i ∈ vs) → L2.wipe (L2.wipe σ us) vs = L2.wipe σ vs
  | [], _ => rfl
  | u :: us, h => by
    show L2.wipe ((L2.wipe σ us).set u none) vs = _
    rw [wipe_in (h u List.mem_cons_self)]
    exact wipe_sub us fun i hi => h i (List.mem_cons_of_mem _ hi)
abbrev Gs := D → DEnv → Option DEnv
abbrev Gss := List D → DEnv → Option DEnv
structure G (X : Cx) (tg : Expr) (ix : List Nat) (g : Gs) : Prop where
  ex : ∃ t, PG X tg t ∧ ∀ G0 H0 Z Γ σ G H Q d v Γ', Rel X.K X.mg G0 H0 Z Γ σ G H → Rep X.K X.mg G v d → g d Γ = some Γ' → (∀ σ', Rel X.K X.mg G0 H0 Z Γ' σ' G H → (∀ vs, (∀ i ∈ ix, i ∈ vs) → L2.wipe σ' vs = L2.wipe σ vs) → Q σ' H) → t v σ H Q
structure GL (X : Cx) (tgs : List Expr) (ix : List Nat) (g : Gss) : Prop where
  ex : ∃ t, PGs X tgs t ∧ ∀ G0 H0 Z Γ σ G H Q ds vs Γ', Rel X.K X.mg G0 H0 Z Γ σ G H → RepL X.K X.mg G vs ds → g ds Γ = some Γ' → (∀ σ', Rel X.K X.mg G0 H0 Z Γ' σ' G H → (∀ us, (∀ i ∈ ix, i ∈ us) → L2.wipe σ' us = L2.wipe σ us) → Q σ' H) → t vs σ H Q
def gN (i : Nat) : Gs := fun d Γ => some (Γ.set i (.sh d))
def gEnd : Gss := fun ds Γ => match ds with | [] => some Γ | _ => none
def gTo (g : Gs) (r : Gss) : Gss := fun ds Γ => match ds with | [] => none | d :: ds => (g d Γ).bind fun Γ1 => r ds Γ1
def gTg (n : Nat) (r : Gss) : Gs := fun d Γ => match d with | .tup ds => if ds.length = n then r ds Γ else none | _ => none
section
variable {X : Cx} {e a b o tg : Expr} {es : List Expr} {f : Ex} {fs : Ag} {pos pos' : Pos} {n : Nat} {ix jx : List Nat} {g : Gs} {gs : Gss}
theorem g_name (i : Nat) {x : Str} (hN : X.N.Nodup) (hi : X.N[i]? = some x := by rfl) (hx : Loc X.env.scope x := by first | exact Or.inl rfl | exact Or.inr rfl) (hf : X.fn x = true ∨ X.env.scope.names.lookup x = some .local := by first | exact .inl rfl | exact .inr rfl | assumption) : G X (.Name x pos) [i] (gN i) := by
  refine ⟨⟨_, pg_name hN hi hx hf, fun G0 H0 Z Γ σ G H Q d v Γ' R r hf k => ?_⟩⟩
  cases hf
  exact k _ (R.set i r) fun vs h => wipe_in (h i List.mem_cons_self)
theorem gl_nil : GL X [] [] gEnd := by
  refine ⟨⟨_, pgs_nil, fun G0 H0 Z Γ σ G H Q ds vs Γ' R r hf k => ?_⟩⟩
  cases r with
  | nil => cases hf; exact ⟨rfl, k σ R fun _ _ => rfl⟩
  | cons _ _ => cases hf
theorem gl_cons (h : G X e ix g) (hr : GL X es jx gs) (hs : (assignEach (e :: es) X.env).map (·.2) = assign e X.env :: (assignEach es X.env).map (·.2) := by rfl) : GL X (e :: es) (ix ++ jx) (gTo g gs) := by
  obtain ⟨t, h1, h2⟩ := h.ex
  obtain ⟨u, q1, q2⟩ := hr.ex
  refine ⟨⟨_, pgs_cons h1 q1 hs, fun G0 H0 Z Γ σ G H Q ds vs Γ' R r hf k => ?_⟩⟩
  cases r with
  | nil => cases hf
  | cons r1 r2 =>
    obtain ⟨Γ1, e1, hf⟩ := obind hf
    refine ⟨_, _, rfl, ?_⟩
    refine h2 G0 H0 Z Γ σ G H _ _ _ Γ1 R r1 e1 fun σ1 R1 w1 => ?_
    exact q2 G0 H0 Z Γ1 σ1 G H _ _ _ Γ' R1 r2 hf fun σ2 R2 w2 => k σ2 R2 fun us hu => (w2 us fun i hi => hu i (List.mem_append_right _ hi)).trans (w1 us fun i hi => hu i (List.mem_append_left _ hi))
theorem g_tup {k : Nat} (hc : X.calm = true) (h : GL X es ix gs) (hn : (assignEach es X.env).length = n := by rfl) (hst : (assignEach es X.env).findIdx? (·.1) = none := by rfl) : G X (.Tuple es k pos) ix (gTg n gs) := by
  obtain ⟨t, h1, h2⟩ := h.ex
  refine ⟨⟨_, pg_tup hc h1 hn hst, fun G0 H0 Z Γ σ G H Q d v Γ' R r hf k => ?_⟩⟩
  cases d with
  | tup ds =>
    replace hf : (if ds.length = n then gs ds Γ else none) = some Γ' := hf
    split at hf
    · rename_i hl
      cases r with
      | tup h r => exact ⟨_, _, rfl, sqt_same R.gh h, by rw [r.length, hl], h2 G0 H0 Z Γ σ G H Q ds _ Γ' R r hf k⟩
    · cases hf
  | _ => cases hf
end

/-! ### what is walked -/
def Itm (K : PySem.W.Frag) (mg : Str → Option Value) (J : It) (G : Hp) (items : List D) : Prop :=
  ∀ i G1 H1, Same G G1 → Same G1 H1 → (items.length ≤ i → J.stop i H1) ∧ ∀ d, items[i]? = some d → J.go i H1 ∧ ∀ x H2, J.yld i H1 x H2 → ∃ G2, Ext G1 H1 G2 H2 ∧ Rep K mg G2 x d
structure I (X : Cx) (tg iter : Expr) (f : Ag) : Prop where
  ex : ∃ t, PI X tg iter t ∧ ∀ G0 H0 Z Γ σ G H R ds, Rel X.K X.mg G0 H0 Z Γ σ G H → f Γ = some ds → (∀ G' H' J, Ext G H G' H' → Itm X.K X.mg J G' ds → R J H') → t σ H R
def dItems : D → Option (List D)
  | .lst xs => some xs
  | .scr ns => some (ns.map D.int)
  | _ => none
section
variable {X : Cx} {e a b o tg iter : Expr} {es : List Expr} {f f' : Ex} {fs : Ag} {pos pos' : Pos} {n : Nat} {ix jx : List Nat} {g : Gs} {gs : Gss}
theorem itm_list {K mg} {G : Hp} {p : Addr} {vs : List V} {ds : List D} (h : SqL K G p vs) (r : RepL K mg G vs ds) (inj : ∀ {H1 : Hp} {xs : List V}, Same G H1 → SqL K H1 p xs → True) : Itm K mg (Itl K p) G ds := by
  intro i G1 H1 s1 s2
  have h1 : SqL K H1 p vs := (s1.trans s2).seq h
  refine ⟨fun hi => ⟨vs, h1, by rw [r.length]; exact hi⟩, fun d hd => ?_⟩
  obtain ⟨v, e1, e2⟩ := r.get i hd
  refine ⟨⟨vs, v, h1, e1⟩, fun x H2 y => ?_⟩
  obtain ⟨rfl, y⟩ := y
  have e3 := y vs h1
  rw [e1] at e3
  cases e3
  exact ⟨G1, Ext.refl s2, e2.mono s1⟩
theorem pi_or {w w' : TI} (h : PI X tg iter w) (h' : PI X tg iter w') : PI X tg iter (fun σ H R => w σ H R ∨ w' σ H R) := by
  refine ⟨fun pins s σ H R I q => ?_⟩
  rcases q with q | q
  · exact h.run pins s σ H R I q
  · exact h'.run pins s σ H R I q
theorem itm_tup {K mg} {G : Hp} {p : Addr} {vs : List V} {ds : List D} (h : SqT K G p vs) (r : RepL K mg G vs ds) : Itm K mg (Itt K p) G ds := by
  intro i G2 H2 s1 s2
  have h1 := sqt_same s2 (sqt_same s1 h)
  refine ⟨fun hi => ⟨_, h1, by rw [r.length]; exact hi⟩, fun d hd => ?_⟩
  obtain ⟨v, e1, e2⟩ := r.get i hd
  refine ⟨⟨_, v, h1, e1⟩, fun x H2 y => ?_⟩
  obtain ⟨rfl, y⟩ := y
  have e3 := y _ h1
  rw [e1] at e3
  cases e3
  exact ⟨G2, Ext.refl s2, e2.mono s1⟩
def dWalk : D → Option (List D)
  | .lst xs => some xs
  | .tup xs => some xs
  | .scr ns => some (ns.map D.int)
  | _ => none
def gIt (f : Ex) : Ag := fun Γ => (f Γ).bind dWalk
theorem i_list (h : E X iter f) : I X tg iter (gIt f) := by
  obtain ⟨t, h1, h2⟩ := h.ex
  refine ⟨⟨_, pi_or (pi_list h1) (pi_tup h1), fun G0 H0 Z Γ σ G H R ds Rl hf k => ?_⟩⟩
  obtain ⟨d, e1, hf⟩ := obind hf
  cases d with
  | lst xs =>
    cases hf
    refine .inl (h2 G0 H0 Z Γ σ G H _ _ Rl e1 fun G1 H1 v x1 r1 => ?_)
    cases r1 with
    | lst h r => exact ⟨_, rfl, ⟨_, SqL.of (x1.gh _ _ h)⟩, k G1 H1 _ x1 (itm_list (SqL.of h) r fun _ _ => True.intro)⟩
  | scr ns =>
    cases hf
    refine .inl (h2 G0 H0 Z Γ σ G H _ _ Rl e1 fun G1 H1 v x1 r1 => ?_)
    cases r1 with
    | scr h => exact ⟨_, rfl, ⟨_, x1.gh.seq h⟩, k G1 H1 _ x1 (itm_list h .ofInts fun _ _ => True.intro)⟩
  | tup xs =>
    cases hf
    refine .inr (h2 G0 H0 Z Γ σ G H _ _ Rl e1 fun G1 H1 v x1 r1 => ?_)
    cases r1 with
    | tup h r => exact ⟨_, rfl, ⟨_, sqt_same x1.gh h⟩, k G1 H1 _ x1 (itm_tup h r)⟩
  | _ => cases hf
/-! ranges -/
def rngD (lo : Int) (n : Nat) : List D := (List.range n).map fun i => .int (lo + (i : Nat))
theorem itm_range {K mg} {G : Hp} {lo : Int} {n : Nat} : Itm K mg (Itr lo n) G (rngD lo n) := by
  intro i G1 H1 s1 s2
  refine ⟨fun hi => by show n ≤ i; simpa [rngD] using hi, fun d hd => ?_⟩
  have hi : i < n := by
    have := (List.getElem?_eq_some_iff.mp hd).1
    simpa [rngD] using this
  refine ⟨hi, fun x H2 y => ?_⟩
  obtain ⟨rfl, rfl⟩ := y
  have e : d = .int (lo + (i : Nat)) := by
    simp [rngD, hi] at hd
    exact hd.symm
  subst e
  exact ⟨G1, Ext.refl s2, .int _⟩
def dRng : List D → Option (List D)
  | [.int j] => if -(2 ^ 62) ≤ j ∧ j < 2 ^ 62 then some (rngD 0 j.toNat) else none
  | [.int i, .int j] => if -(2 ^ 62) ≤ i ∧ i < 2 ^ 62 ∧ -(2 ^ 62) ≤ j ∧ j < 2 ^ 62 then some (rngD i (j - i).toNat) else none
  | _ => none
def gRng (fs : Ag) : Ag := fun Γ => (fs Γ).bind dRng
theorem i_rng1 {p : Pos} (hg : Gl X "range") (hm : X.mg "range" = none) (ha : AN X [a] 1 fs) (hs : starEach [a] X.env = [(false, eval a X.env)] := by rfl) : I X tg (.Call (.Name "range" p) [a] [] pos) (gRng fs) := by
  obtain ⟨t, h1, h2⟩ := ha.a.ex
  refine ⟨⟨_, pi_range1 hg hm h1 hs, fun G0 H0 Z Γ σ G H R ds Rl hf k => ?_⟩⟩
  obtain ⟨xs, e1, hf⟩ := obind hf
  have hl := ha.n Γ xs e1
  refine h2 G0 H0 Z Γ σ G H _ _ Rl e1 fun G1 H1 vs x1 r1 => ?_
  match xs, hl, hf, r1 with
  | [.int j], _, hf, .cons r .nil =>
    replace hf : (if -(2 ^ 62) ≤ j ∧ j < 2 ^ 62 then some (rngD 0 j.toNat) else none) = some ds := hf
    split at hf
    · rename_i z
      cases hf
      rw [r.intv]
      exact ⟨j, rfl, z.1, z.2, k G1 H1 _ x1 itm_range⟩
    · cases hf
theorem i_rng2 {p : Pos} (hg : Gl X "range") (hm : X.mg "range" = none) (ha : AN X [a, b] 2 fs) (hs : starEach [a, b] X.env = [(false, eval a X.env), (false, eval b X.env)] := by rfl) (hs2 : starEach [b] X.env = [(false, eval b X.env)] := by rfl) : I X tg (.Call (.Name "range" p) [a, b] [] pos) (gRng fs) := by
  obtain ⟨t, h1, h2⟩ := ha.a.ex
  refine ⟨⟨_, pi_range2 hg hm h1 hs hs2, fun G0 H0 Z Γ σ G H R ds Rl hf k => ?_⟩⟩
  obtain ⟨xs, e1, hf⟩ := obind hf
  have hl := ha.n Γ xs e1
  refine h2 G0 H0 Z Γ σ G H _ _ Rl e1 fun G1 H1 vs x1 r1 => ?_
  match xs, hl, hf, r1 with
  | [.int i, .int j], _, hf, .cons r (.cons q .nil) =>
    replace hf : (if -(2 ^ 62) ≤ i ∧ i < 2 ^ 62 ∧ -(2 ^ 62) ≤ j ∧ j < 2 ^ 62 then some (rngD i (j - i).toNat) else none) = some ds := hf
    split at hf
    · rename_i z
      cases hf
      rw [r.intv, q.intv]
      exact ⟨i, j, rfl, z, k G1 H1 _ x1 itm_range⟩
    · cases hf
/-! reversed(range(..)) -/
def rngR (lo : Int) (n : Nat) : List D := (List.range n).map fun i => .int (lo + (n : Int) - 1 + (i : Nat) * (-1))
def dRngR : List D → Option (List D)
  | [.int j] => if -(2 ^ 62) ≤ j ∧ j < 2 ^ 62 then some (rngR 0 j.toNat) else none
  | [.int i, .int j] => if -(2 ^ 62) ≤ i ∧ i < 2 ^ 62 ∧ -(2 ^ 62) ≤ j ∧ j < 2 ^ 62 then some (rngR i (j - i).toNat) else none
  | _ => none
theorem itm_rangeR {K mg} {G : Hp} {lo : Int} {n : Nat} : Itm K mg (Itc (lo + (n : Int) - 1) (-1) n) G (rngR lo n) := by
  intro i G1 H1 s1 s2
  refine ⟨fun hi => by show n ≤ i; simpa [rngR] using hi, fun d hd => ?_⟩
  have hi : i < n := by
    have := (List.getElem?_eq_some_iff.mp hd).1
    simpa [rngR] using this
  refine ⟨hi, fun x H2 y => ?_⟩
  obtain ⟨rfl, rfl⟩ := y
  have e : d = .int (lo + (n : Int) - 1 + (i : Nat) * (-1)) := by
    simp [rngR, hi] at hd
    rw [← hd]
    congr 1
    omega
  subst e
  exact ⟨G1, Ext.refl s2, .int _⟩
/-! zip, enumerate -/
def zipD : List D → List D → List D
  | x :: xs, y :: ys => .tup [x, y] :: zipD xs ys
  | _, _ => []
theorem zipD_get : ∀ {xs ys : List D} {i : Nat} {d : D}, (zipD xs ys)[i]? = some d → ∃ x y, xs[i]? = some x ∧ ys[i]? = some y ∧ d = .tup [x, y]
  | [], _, _, _, h => by simp [zipD] at h
  | _ :: _, [], _, _, h => by simp [zipD] at h
  | x :: xs, y :: ys, 0, d, h => by simp [zipD] at h; exact ⟨x, y, rfl, rfl, h.symm⟩
  | x :: xs, y :: ys, i + 1, d, h => by
    obtain ⟨x', y', h1, h2, h3⟩ := zipD_get (xs := xs) (ys := ys) (i := i) (d := d) (by simpa [zipD] using h)
    exact ⟨x', y', by simpa using h1, by simpa using h2, h3⟩
theorem zipD_len : ∀ {xs ys : List D}, (zipD xs ys).length = min xs.length ys.length
  | [], _ => by simp [zipD]
  | _ :: _, [] => by simp [zipD]
  | x :: xs, y :: ys => by simp [zipD, zipD_len (xs := xs) (ys := ys)]
def dZip : List D → Option (List D)
  | [x, y] => (dItems x).bind fun xs => (dItems y).bind fun ys => some (zipD xs ys)
  | _ => none
def gZip (fs : Ag) : Ag := fun Γ => (fs Γ).bind dZip
theorem Rep.items {K mg} {G : Hp} {v : V} {d : D} {xs : List D} (r : Rep K mg G v d) (h : dItems d = some xs) : ∃ p vs, v = .ref p ∧ SqL K G p vs ∧ RepL K mg G vs xs := by
  cases d with
  | lst ys => cases h; cases r with | lst h r => exact ⟨_, _, rfl, SqL.of h, r⟩
  | scr ns => cases h; cases r with | scr h => exact ⟨_, _, rfl, h, .ofInts⟩
  | _ => cases h
theorem i_zip {p tpos : Pos} {elts : List Expr} {kk : Nat} (hg : Gl X "zip") (hm : X.mg "zip" = none) (ha : AN X [a, b] 2 fs) (hs : starEach [a, b] X.env = (false, eval a X.env) :: starEach [b] X.env := by rfl) (hpl : (backTo pos (starEach [b] X.env)).any (·.1) = false := by rfl) :
    I X (.Tuple elts kk tpos) (.Call (.Name "zip" p) [a, b] [] pos) (gZip fs) := by
  obtain ⟨t, h1, h2⟩ := ha.a.ex
  refine ⟨⟨_, pi_zip hg hm h1 hs hpl, fun G0 H0 Z Γ σ G H R ds Rl hf k => ?_⟩⟩
  obtain ⟨xs, e1, hf⟩ := obind hf
  have hl := ha.n Γ xs e1
  refine h2 G0 H0 Z Γ σ G H _ _ Rl e1 fun G1 H1 vs x1 r1 => ?_
  match xs, hl, hf, r1 with
  | [x, y], _, hf, .cons r (.cons q .nil) =>
    replace hf : ((dItems x).bind fun xs => (dItems y).bind fun ys => some (zipD xs ys)) = some ds := hf
    obtain ⟨as, a1, hf⟩ := obind hf
    obtain ⟨bs, a2, hf⟩ := obind hf
    cases hf
    obtain ⟨p1, v1, rfl, s1, r1⟩ := r.items a1
    obtain ⟨p2, v2, rfl, s2, r2⟩ := q.items a2
    refine ⟨p1, p2, v1, v2, rfl, x1.gh.seq s1, x1.gh.seq s2, k G1 H1 _ x1 fun i G2 H2 t1 t2 => ?_⟩
    have q1 : SqL X.K H2 p1 v1 := (t1.trans t2).seq s1
    have q2 : SqL X.K H2 p2 v2 := (t1.trans t2).seq s2
    refine ⟨fun hi => ⟨v1, v2, q1, q2, ?_⟩, fun d hd => ?_⟩
    · rw [zipD_len] at hi
      rw [r1.length, r2.length]
      omega
    · obtain ⟨x, y, g1, g2, rfl⟩ := zipD_get hd
      obtain ⟨w1, b1, c1⟩ := r1.get i g1
      obtain ⟨w2, b2, c2⟩ := r2.get i g2
      refine ⟨⟨v1, v2, w1, w2, q1, q2, b1, b2⟩, fun u H3 yl => ?_⟩
      obtain ⟨T, z1, z2, rfl, hT, rfl, f1, f2⟩ := yl
      have z3 := f1 v1 q1
      have z4 := f2 v2 q2
      rw [b1] at z3
      rw [b2] at z4
      cases z3
      cases z4
      have x2 := Ext.new1 (o := .tup [w1, w2]) t2 hT
      exact ⟨_, x2, .tup (SqT.of upd_same) (.cons ((c1.mono t1).mono x2.gg) (.cons ((c2.mono t1).mono x2.gg) .nil))⟩
def enumD : Nat → List D → List D
  | _, [] => []
  | i, x :: xs => .tup [.int (i : Nat), x] :: enumD (i + 1) xs
theorem enumD_get : ∀ {xs : List D} {k i : Nat} {d : D}, (enumD k xs)[i]? = some d → ∃ x, xs[i]? = some x ∧ d = .tup [.int ((k + i : Nat) : Int), x]
  | [], _, _, _, h => by simp [enumD] at h
  | x :: xs, k, 0, d, h => by simp [enumD] at h; exact ⟨x, rfl, by rw [← h]; simp⟩
  | x :: xs, k, i + 1, d, h => by
    obtain ⟨x', h1, h2⟩ := enumD_get (xs := xs) (k := k + 1) (i := i) (d := d) (by simpa [enumD] using h)
    exact ⟨x', by simpa using h1, by rw [h2]; congr 3; omega⟩
theorem enumD_len : ∀ {xs : List D} {k : Nat}, (enumD k xs).length = xs.length
  | [], _ => rfl
  | x :: xs, k => by simp [enumD, enumD_len (xs := xs) (k := k + 1)]
def dEnum : List D → Option (List D)
  | [x] => (dItems x).bind fun xs => some (enumD 0 xs)
  | _ => none
def gEnum (fs : Ag) : Ag := fun Γ => (fs Γ).bind dEnum
theorem i_enum {p tpos : Pos} {elts : List Expr} {kk : Nat} (hg : Gl X "enumerate") (hm : X.mg "enumerate" = none) (ha : AN X [a] 1 fs) (hs : starEach [a] X.env = [(false, eval a X.env)] := by rfl) :
    I X (.Tuple elts kk tpos) (.Call (.Name "enumerate" p) [a] [] pos) (gEnum fs) := by
  obtain ⟨t, h1, h2⟩ := ha.a.ex
  refine ⟨⟨_, pi_enum hg hm h1 hs, fun G0 H0 Z Γ σ G H R ds Rl hf k => ?_⟩⟩
  obtain ⟨xs, e1, hf⟩ := obind hf
  have hl := ha.n Γ xs e1
  refine h2 G0 H0 Z Γ σ G H _ _ Rl e1 fun G1 H1 vs x1 r1 => ?_
  match xs, hl, hf, r1 with
  | [x], _, hf, .cons r .nil =>
    replace hf : ((dItems x).bind fun xs => some (enumD 0 xs)) = some ds := hf
    obtain ⟨as, a1, hf⟩ := obind hf
    cases hf
    obtain ⟨p1, v1, rfl, s1, r1⟩ := r.items a1
    refine ⟨p1, v1, rfl, x1.gh.seq s1, k G1 H1 _ x1 fun i G2 H2 t1 t2 => ?_⟩
    have q1 : SqL X.K H2 p1 v1 := (t1.trans t2).seq s1
    refine ⟨fun hi => ⟨v1, q1, ?_⟩, fun d hd => ?_⟩
    · rw [enumD_len] at hi
      rw [r1.length]
      omega
    · obtain ⟨x, g1, rfl⟩ := enumD_get hd
      obtain ⟨w1, b1, c1⟩ := r1.get i g1
      refine ⟨⟨v1, w1, q1, b1⟩, fun u H3 yl => ?_⟩
      obtain ⟨T, z1, rfl, hT, rfl, f1⟩ := yl
      have z3 := f1 v1 q1
      rw [b1] at z3
      cases z3
      have x2 := Ext.new1 (o := .tup [.int (i : Nat), w1]) t2 hT
      refine ⟨_, x2, .tup (SqT.of upd_same) (.cons ?_ (.cons ((c1.mono t1).mono x2.gg) .nil))⟩
      rw [Nat.zero_add]
      exact .int _
theorem i_rev1 {p p2 pos2 : Pos} (hg : Gl X "reversed") (hm : X.mg "reversed" = none) (hg2 : Gl X "range") (hm2 : X.mg "range" = none) (ha : E X a f) (na : starEach [a] X.env = (false, eval a X.env) :: starEach [] X.env := by rfl)
    (hs : starEach [.Call (.Name "range" p2) [a] [] pos2] X.env = (false, eval (.Call (.Name "range" p2) [a] [] pos2) X.env) :: starEach [] X.env := by rfl) : I X tg (.Call (.Name "reversed" p) [.Call (.Name "range" p2) [a] [] pos2] [] pos) (fun Γ => (aC f aN Γ).bind dRngR) := by
  obtain ⟨t, h1, h2⟩ := ha.ex
  refine ⟨⟨_, pi_revR hg hm (prg_1 hg2 hm2 h1 na) hs, fun G0 H0 Z Γ σ G H R ds Rl hf k => ?_⟩⟩
  obtain ⟨xs, e1, hf⟩ := obind hf
  obtain ⟨d, e2, e1⟩ := obind e1
  cases e1
  refine h2 G0 H0 Z Γ σ G H _ _ Rl e2 fun G1 H1 v x1 r1 => ?_
  cases d with
  | int j =>
    replace hf : (if -(2 ^ 62) ≤ j ∧ j < 2 ^ 62 then some (rngR 0 j.toNat) else none) = some ds := hf
    split at hf
    · rename_i z
      cases hf
      rw [r1.intv]
      refine ⟨j, rfl, by decide, by decide, z.1, z.2, ?_⟩
      have e : (j - 0).toNat = j.toNat := by congr 1; omega
      rw [e]
      exact k G1 H1 _ x1 itm_rangeR
    · cases hf
  | _ => cases hf

/-! ### comprehensions -/
def tEx (K : PySem.W.Frag) (mg : Str → Option Value) (f : Ex) : TE := fun σ H Q => ∃ G0 H0 Z Γ G d, Rel K mg G0 H0 Z Γ σ G H ∧ f Γ = some d ∧ ∀ G' H' v, Ext G H G' H' → Rep K mg G' v d → Q v H'
def tGx (K : PySem.W.Frag) (mg : Str → Option Value) (ix : List Nat) (g : Gs) : TG := fun v σ H Q => ∃ G0 H0 Z Γ G d Γ', Rel K mg G0 H0 Z Γ σ G H ∧ Rep K mg G v d ∧ g d Γ = some Γ' ∧ ∀ σ', Rel K mg G0 H0 Z Γ' σ' G H → (∀ vs, (∀ i ∈ ix, i ∈ vs) → L2.wipe σ' vs = L2.wipe σ vs) → Q σ' H
def tTx (K : PySem.W.Frag) (mg : Str → Option Value) (f : Te) : TT := fun σ H Q => ∃ G0 H0 Z Γ G d, Rel K mg G0 H0 Z Γ σ G H ∧ f Γ = some d ∧ ∀ G' H', Ext G H G' H' → Q d H'
theorem E.pe (h : E X e f) : PE X e (tEx X.K X.mg f) := by
  obtain ⟨t, h1, h2⟩ := h.ex
  exact ⟨fun pins s σ H Q I ⟨G0, H0, Z, Γ, G, d, R, hf, k⟩ => h1.run pins s σ H Q I (h2 G0 H0 Z Γ σ G H Q d R hf k)⟩
theorem G.pg (h : G X tg ix g) : PG X tg (tGx X.K X.mg ix g) := by
  obtain ⟨t, h1, h2⟩ := h.ex
  exact ⟨fun pins s σ H v u Q I ru ⟨G0, H0, Z, Γ, G, d, Γ', R, r, hf, k⟩ => h1.run pins s σ H v u Q I ru (h2 G0 H0 Z Γ σ G H Q d v Γ' R r hf k)⟩
/-- a comprehension's tests: none or one -/
structure Ts (X : Cx) (ifs : List Expr) (f : Te) : Prop where
  pt : PTs X ifs (tTx X.K X.mg f)
def gYes : Te := fun _ => some true
theorem ts_nil : Ts X [] gYes := ⟨⟨fun pins s σ H Q I ⟨G0, H0, Z, Γ, G, d, R, hf, k⟩ => by
  cases hf
  exact pts_nil.run pins s σ H Q I (k G H (Ext.refl R.gh))⟩⟩
theorem ts_one {p : Te} (h : T X e p) : Ts X [e] p := by
  obtain ⟨t, h1, h2⟩ := h.ex
  exact ⟨⟨fun pins s σ H Q I ⟨G0, H0, Z, Γ, G, d, R, hf, k⟩ => (pts_one h1).run pins s σ H Q I (h2 G0 H0 Z Γ σ G H Q d R hf k)⟩⟩
def compL (g : Gs) (t : Te) (e : Ex) : List D → DEnv → Option (List D)
  | [], _ => some []
  | d :: ds, Γ => (g d Γ).bind fun Γ1 => (t Γ1).bind fun b => if b then (e Γ1).bind fun y => (compL g t e ds Γ).bind fun r => some (y :: r) else compL g t e ds Γ
/-! walks: I over what is known; IB, IC over what is looked at (IB: that stands since the entry) -/
def ItmB (K : PySem.W.Frag) (mg : Str → Option Value) (J : It) (G Hb : Hp) (items : List D) : Prop :=
  ∀ i G1 H1, Same G G1 → Same G1 H1 → SameN Hb H1 → (items.length ≤ i → J.stop i H1) ∧ ∀ d, items[i]? = some d → J.go i H1 ∧ ∀ x H2, J.yld i H1 x H2 → ∃ G2, Ext G1 H1 G2 H2 ∧ Rep K mg G2 x d
structure IB (X : Cx) (tg iter : Expr) (f : Ag) : Prop where
  ex : ∃ t, PI X tg iter t ∧ ∀ G0 H0 Z Γ σ G H R ds, Rel X.K X.mg G0 H0 Z Γ σ G H → f Γ = some ds → (∀ G' H' J, Ext G H G' H' → ItmB X.K X.mg J G' H0 ds → R J H') → t σ H R
structure IC (X : Cx) (tg iter : Expr) (f : Ag) : Prop where
  ex : ∃ t, PI X tg iter t ∧ ∀ G0 H0 Z Γ σ G H R ds, Rel X.K X.mg G0 H0 Z Γ σ G H → f Γ = some ds → (∀ G' H' J, Ext G H G' H' → ItmB X.K X.mg J G' H' ds → R J H') → t σ H R
theorem I.fb {it : Ag} (h : I X tg iter it) : IB X tg iter it := by
  obtain ⟨t, h1, h2⟩ := h.ex
  exact ⟨⟨t, h1, fun G0 H0 Z Γ σ G H R ds Rl hf k => h2 G0 H0 Z Γ σ G H R ds Rl hf fun G' H' J x hJ => k G' H' J x fun i G1 H1 s1 s2 _ => hJ i G1 H1 s1 s2⟩⟩
theorem IB.c {it : Ag} (h : IB X tg iter it) : IC X tg iter it := by
  obtain ⟨t, h1, h2⟩ := h.ex
  exact ⟨⟨t, h1, fun G0 H0 Z Γ σ G H R ds Rl hf k => h2 G0 H0 Z Γ σ G H R ds Rl hf fun G' H' J x hJ => k G' H' J x fun i G1 H1 s1 s2 s3 => hJ i G1 H1 s1 s2 ((Rl.hh.trans x.hh).trans s3)⟩⟩
theorem I.c {it : Ag} (h : I X tg iter it) : IC X tg iter it := h.fb.c
theorem itmB_lst {K mg} {G H Hb : Hp} {v : V} {xs : List D} (gh : Same G H) (bh : SameN Hb H) (r : RepB K mg G Hb v (.lst xs)) : ∃ p vs, v = .ref p ∧ SqL K H p vs ∧ ItmB K mg (Itl K p) G Hb xs := by
  cases r with
  | sh r => cases r with
    | lst h r => exact ⟨_, _, rfl, SqL.of (gh _ _ h), fun i G1 H1 s1 s2 _ => itm_list (SqL.of h) r (fun _ _ => True.intro) i G1 H1 s1 s2⟩
  | li h r =>
    refine ⟨_, _, rfl, SqL.of (bh _ _ h nofun), fun i G1 H1 s1 s2 s3 => ?_⟩
    have h1 : SqL K H1 _ _ := SqL.of (s3 _ _ h nofun)
    refine ⟨fun hi => ⟨_, h1, by rw [r.length]; exact hi⟩, fun d hd => ?_⟩
    obtain ⟨v, e1, e2⟩ := r.get i hd
    refine ⟨⟨_, v, h1, e1⟩, fun x H2 y => ?_⟩
    obtain ⟨rfl, y⟩ := y
    have e3 := y _ h1
    rw [e1] at e3
    cases e3
    exact ⟨G1, Ext.refl s2, e2.mono s1⟩
theorem itmB_scr {K mg} {G H Hb : Hp} {v : V} {ns : List Int} (gh : Same G H) (r : RepB K mg G Hb v (.scr ns)) : ∃ p vs, v = .ref p ∧ SqL K H p vs ∧ ItmB K mg (Itl K p) G Hb (ns.map D.int) := by
  cases r with
  | sh r => cases r with
    | scr h => exact ⟨_, _, rfl, gh.seq h, fun i G1 H1 s1 s2 _ => itm_list h .ofInts (fun _ _ => True.intro) i G1 H1 s1 s2⟩
theorem itmB_tup {K mg} {G H Hb : Hp} {v : V} {xs : List D} (gh : Same G H) (r : RepB K mg G Hb v (.tup xs)) : ∃ p vs, v = .ref p ∧ SqT K H p vs ∧ ItmB K mg (Itt K p) G Hb xs := by
  cases r with
  | sh r => cases r with
    | tup h r => exact ⟨_, _, rfl, sqt_same gh h, fun i G1 H1 s1 s2 _ => itm_tup h r i G1 H1 s1 s2⟩
/-- a walk of a comprehension over what is looked at -/
theorem ic_b (h : B X iter f) : IC X tg iter (gIt f) := by
  obtain ⟨t, h1, h2⟩ := h.ex
  refine ⟨⟨_, pi_or (pi_list h1) (pi_tup h1), fun G0 H0 Z Γ σ G H R ds Rl hf k => ?_⟩⟩
  obtain ⟨d, e1, hf⟩ := obind hf
  cases d with
  | lst xs =>
    cases hf
    refine .inl (h2 G0 H0 Z Γ σ G H _ _ Rl e1 fun G1 H1 v x1 r1 => ?_)
    obtain ⟨p, vs, rfl, hs, it⟩ := itmB_lst x1.gh (same_n (Same.refl _)) r1
    exact ⟨_, rfl, ⟨_, hs⟩, k G1 H1 _ x1 it⟩
  | scr ns =>
    cases hf
    refine .inl (h2 G0 H0 Z Γ σ G H _ _ Rl e1 fun G1 H1 v x1 r1 => ?_)
    obtain ⟨p, vs, rfl, hs, it⟩ := itmB_scr x1.gh r1
    exact ⟨_, rfl, ⟨_, hs⟩, k G1 H1 _ x1 it⟩
  | tup xs =>
    cases hf
    refine .inr (h2 G0 H0 Z Γ σ G H _ _ Rl e1 fun G1 H1 v x1 r1 => ?_)
    obtain ⟨p, vs, rfl, hs, it⟩ := itmB_tup x1.gh r1
    exact ⟨_, rfl, ⟨_, hs⟩, k G1 H1 _ x1 it⟩
  | _ => cases hf
/-- what has been there since the entry -/
structure B0 (X : Cx) (e : Expr) (f : Ex) : Prop where
  ex : ∃ t, PE X e t ∧ ∀ G0 H0 Z Γ σ G H Q d, Rel X.K X.mg G0 H0 Z Γ σ G H → f Γ = some d → (∀ G' H' v, Ext G H G' H' → RepB X.K X.mg G' H0 v d → Q v H') → t σ H Q
def gB0 (i : Nat) : Ex := fun Γ => match Γ[i]? with | some (.bo d) => some d | some (.sh d) => some d | _ => none
theorem b0_var (i : Nat) {x : Str} (hN : X.N[i]? = some x := by rfl) (hv : Vis X.env.scope x := by first | exact Or.inl rfl | exact Or.inr (Or.inl rfl) | exact Or.inr (Or.inr rfl)) (hd : (x == ("__debug__" : Str)) = false := by decide)
    (hcd : (x == ("__classdict__" : Str)) = false := by decide) : B0 X (.Name x pos) (gB0 i) := by
  refine ⟨⟨_, pe_var hN hv hd hcd, fun G0 H0 Z Γ σ G H Q d R hf k => ?_⟩⟩
  unfold gB0 at hf
  cases q : Γ[i]? with
  | none => rw [q] at hf; cases hf
  | some s =>
    rw [q] at hf
    cases s with
    | sh d' =>
      cases hf
      obtain ⟨v, h1, h2⟩ := R.sh q
      exact ⟨v, h1, k G H v (Ext.refl R.gh) (.sh h2)⟩
    | bo d' =>
      cases hf
      obtain ⟨own, o1, o2, o3⟩ := R.own
      rcases o3 i _ q with z | ⟨v, h1, h2⟩ | ⟨v, d1, z, h1, h2⟩
      · cases z
      · cases h2
      · cases z; exact ⟨v, h1, k G H v (Ext.refl R.gh) h2⟩
    | _ => cases hf
theorem ib_b (h : B0 X iter f) : IB X tg iter (gIt f) := by
  obtain ⟨t, h1, h2⟩ := h.ex
  refine ⟨⟨_, pi_or (pi_list h1) (pi_tup h1), fun G0 H0 Z Γ σ G H R ds Rl hf k => ?_⟩⟩
  obtain ⟨d, e1, hf⟩ := obind hf
  cases d with
  | lst xs =>
    cases hf
    refine .inl (h2 G0 H0 Z Γ σ G H _ _ Rl e1 fun G1 H1 v x1 r1 => ?_)
    obtain ⟨p, vs, rfl, hs, it⟩ := itmB_lst x1.gh (Rl.hh.trans x1.hh) r1
    exact ⟨_, rfl, ⟨_, hs⟩, k G1 H1 _ x1 it⟩
  | scr ns =>
    cases hf
    refine .inl (h2 G0 H0 Z Γ σ G H _ _ Rl e1 fun G1 H1 v x1 r1 => ?_)
    obtain ⟨p, vs, rfl, hs, it⟩ := itmB_scr x1.gh r1
    exact ⟨_, rfl, ⟨_, hs⟩, k G1 H1 _ x1 it⟩
  | tup xs =>
    cases hf
    refine .inr (h2 G0 H0 Z Γ σ G H _ _ Rl e1 fun G1 H1 v x1 r1 => ?_)
    obtain ⟨p, vs, rfl, hs, it⟩ := itmB_tup x1.gh r1
    exact ⟨_, rfl, ⟨_, hs⟩, k G1 H1 _ x1 it⟩
  | _ => cases hf
def gLc (own : List Nat) (it : Ag) (g : Gs) (t : Te) (e : Ex) : Ag := fun Γ => (it Γ).bind fun ds => if ds.length < 1000000 then compL g t e ds (wipeE Γ own) else none
theorem lc_run {K : PySem.W.Frag} {mg : Str → Option Value} {own : List (Str × Nat)} {it : Ag} {p : Te} {wi : TI} (hix : ∀ i ∈ ix, i ∈ own.map (·.2))
    (hw : ∀ G0 H0 Z Γ σ G H R ds, Rel K mg G0 H0 Z Γ σ G H → it Γ = some ds → (∀ G' H' J, Ext G H G' H' → ItmB K mg J G' H' ds → R J H') → wi σ H R)
    {G0 H0 : Hp} {Z : Zs} {Γ : DEnv} {σ : L2.St} {G H : Hp} {Q : VK} {ds : List D} (R : Rel K mg G0 H0 Z Γ σ G H) (hf : gLc (own.map (·.2)) it g p f Γ = some ds)
    (k : ∀ G' H' D vs, Ext G H G' H' → H D = none → G' D = none → H' D = some (.lst vs) → RepL K mg G' vs ds → Q (.ref D) H') :
    tLc wi (tGx K mg ix g) (tTx K mg p) (tEx K mg f) (own.map (·.2)) σ H Q := by
  obtain ⟨items, e1, hf⟩ := obind hf
  split at hf
  · rename_i hlen
    refine hw G0 H0 Z Γ σ G H _ items R e1 fun G1 H1 J x1 hJ D hD => ?_
    have R1 := R.ext x1
    -- the state within: the list so far at D
    have ntD : ¬ Z.t.tz D := fun h => R1.zz _ (R1.tz _ h) hD
    refine ⟨fun i m Hc => m = items.length - i ∧ i ≤ items.length ∧ ∃ Gc acc dacc rest, Ext G1 H1 Gc Hc ∧ Gc D = none ∧ Hc D = some (.lst acc) ∧ acc.length ≤ i ∧ RepL K mg Gc acc dacc ∧ Rel K mg G0 H0 ⟨fun a => Z.z a ∨ a = D, Z.a, Z.t⟩ (wipeE Γ (own.map (·.2))) (L2.wipe σ (own.map (·.2))) Gc Hc ∧
      compL g p f (items.drop i) (wipeE Γ (own.map (·.2))) = some rest ∧ dacc ++ rest = ds, ⟨items.length, ?_⟩, ?_⟩
    · exact ⟨by simp, Nat.zero_le _, G1, [], [], ds, Ext.own1 x1.gh hD, x1.gh.free hD, upd_same, Nat.le_refl _, .nil, (R1.wipe (own.map (·.2))).zput hD, by simpa using hf, rfl⟩
    · rintro i m Hc ⟨rfl, hi, Gc, acc, dacc, rest, xc, gD, hcD, la, ra, Rc, hr, hds⟩
      obtain ⟨st, go⟩ := hJ i Gc Hc xc.gg xc.gh xc.hh
      have nn : ∀ {H : Hp}, H D = some (.lst acc) → H D ≠ none := fun e => by rw [e]; simp
      by_cases hlt : i < items.length
      · have hd : items.drop i = items[i] :: items.drop (i + 1) := List.drop_eq_getElem_cons hlt
        obtain ⟨g1, g2⟩ := go items[i] (List.getElem?_eq_getElem hlt)
        rw [hd] at hr
        obtain ⟨Γ1, c1, hr⟩ := obind hr
        obtain ⟨b, c2, hr⟩ := obind hr
        refine .inr ⟨g1, fun H' => ∃ m', (m' = items.length - (i + 1) ∧ i + 1 ≤ items.length ∧ ∃ Gc acc dacc rest, Ext G1 H1 Gc H' ∧ Gc D = none ∧ H' D = some (.lst acc) ∧ acc.length ≤ i + 1 ∧ RepL K mg Gc acc dacc ∧ Rel K mg G0 H0 ⟨fun a => Z.z a ∨ a = D, Z.a, Z.t⟩ (wipeE Γ (own.map (·.2))) (L2.wipe σ (own.map (·.2))) Gc H' ∧
          compL g p f (items.drop (i + 1)) (wipeE Γ (own.map (·.2))) = some rest ∧ dacc ++ rest = ds), fun H' ⟨m', h⟩ => ⟨m', by have := h.1; omega, h⟩, fun x H2 y => ?_⟩
        obtain ⟨G2, x2, r2⟩ := g2 x H2 y
        have xc2 := xc.trans x2
        have R2 := Rc.ext x2
        have gD2 : G2 D = none := x2.none gD (nn hcD)
        have hD2 := x2.hh _ _ hcD nofun
        refine ⟨G0, H0, _, _, G2, items[i], Γ1, R2, r2, c1, fun σ3 R3 w3 => ⟨(w3 _ hix).trans (wipe_sub _ fun _ h => h), ?_⟩⟩
        refine ⟨G0, H0, _, Γ1, G2, b, R3, c2, fun G4 H4 x4 => ?_⟩
        have gD4 : G4 D = none := x4.none gD2 (nn hD2)
        have hD4 := x4.hh _ _ hD2 nofun
        cases b with
        | false =>
          refine iteF ⟨_, rfl, hlt, G4, acc, dacc, rest, xc2.trans x4, gD4, hD4, by omega, (ra.mono x2.gg).mono x4.gg, R2.ext x4, hr, hds⟩
        | true =>
          refine iteT ⟨G0, H0, ⟨fun a => Z.z a ∨ a = D, Z.a, Z.t⟩, Γ1, G4, ?_⟩
          replace hr : ((f Γ1).bind fun y => (compL g p f (items.drop (i + 1)) (wipeE Γ (own.map (·.2)))).bind fun r => some (y :: r)) = some rest := hr
          obtain ⟨yv, c3, hr⟩ := obind hr
          obtain ⟨rr, c4, hr⟩ := obind hr
          cases hr
          refine ⟨yv, R3.ext x4, c3, fun G5 H5 v x5 r5 => ?_⟩
          have gD5 : G5 D = none := x5.none gD4 (nn hD4)
          have hD5 : H5 D = some (.lst acc) := x5.hh _ _ hD4 nofun
          refine ⟨acc, hD5, Nat.lt_of_lt_of_le (Nat.lt_of_le_of_lt la (Nat.lt_trans hlt hlen)) line_big, _, rfl, hlt, G5, acc ++ [v], dacc ++ [yv], rr, ?_, gD5, upd_same, by simp; omega, ((((ra.mono x2.gg).mono x4.gg).mono x5.gg).append (.cons r5 .nil)), ((R2.ext x4).ext x5).aside (.inr rfl) ntD gD5 (R1.hf hD), c4, by rw [← hds]; simp⟩
          have xx := (xc2.trans x4).trans x5
          refine ⟨xx.gg, fun a o q n => ?_, fun a o q => ?_, xx.new, fun a h => ?_, fun t => TC.ti.keep (xx.tb t) (Same.refl _) (fun a h => upd_ne (fun z => (TC.ti.live t a h).1 (by rw [z]; exact hD))) (fun _ _ g => g)⟩
          · rw [upd_ne (ne_of_none q hD)]; exact xx.hh _ _ q n
          · rw [upd_ne (ne_of_none q gD5)]; exact xx.gh _ _ q
          · by_cases z : a = D
            · subst z; rw [upd_same]; simp
            · rw [upd_ne z]; exact xx.hn a h
      · have e : i = items.length := by omega
        subst e
        refine .inl ⟨st (Nat.le_refl _), ?_⟩
        rw [List.drop_length] at hr
        cases hr
        rw [List.append_nil] at hds
        subst hds
        exact k Gc Hc D acc (x1.trans xc) (x1.hf hD) gD hcD ra
  · cases hf
theorem el_lc {elt : Expr} {ifs : List Expr} {scope : Scope} {own : List (Str × Nat)} {it : Ag} {p : Te} (hc : X.calm = true) (hN : X.N.Nodup) (hi : IC X tg iter it) (ok : BlkOk X.N X.env.scope scope own) (hix : ∀ i ∈ ix, i ∈ own.map (·.2))
    (hg : ∀ (s : Shared) (H : Hp) (C : Addr) (cl : List (Str × Addr)) (fp : List Addr), G (X.blk s H scope (compEnvC scope cl C X.env) fp) tg ix g)
    (ht : ∀ (s : Shared) (H : Hp) (C : Addr) (cl : List (Str × Addr)) (fp : List Addr), Ts (X.blk s H scope (compEnvC scope cl C X.env) fp) ifs p)
    (he : ∀ (s : Shared) (H : Hp) (C : Addr) (cl : List (Str × Addr)) (fp : List Addr), E (X.blk s H scope (compEnvC scope cl C X.env) fp) elt f) (hs : ∀ x, foldedSetIterable iter X.env x = pure x := by intro _; rfl) :
    EL X (.ListComp elt [⟨tg, iter, ifs, 0⟩] scope pos) (gLc (own.map (·.2)) it g p f) := by
  obtain ⟨wi, w1, w2⟩ := hi.ex
  exact ⟨⟨_, pe_lc hc hN w1 ok (fun s H C cl fp => (hg s H C cl fp).pg) (fun s H C cl fp => (ht s H C cl fp).pt) (fun s H C cl fp => (he s H C cl fp).pe) hs, fun G0 H0 Z Γ σ G H Q ds R hf k => lc_run hix w2 R hf k⟩⟩
end
end DL

namespace DL
open PySem L2
variable [TC : TabCtx]

/-! ### statements -/
def sNil : Sm := fun Γ => some (.nx Γ)
def sSeq (f g : Sm) : Sm := fun Γ => (f Γ).bind fun r => match r with | .nx Γ' => g Γ' | r => some r
def sBrk : Sm := fun Γ => some (.bk Γ)
def sCnt : Sm := fun Γ => some (.ct Γ)
def sSet (i : Nat) (f : Ex) : Sm := fun Γ => (f Γ).bind fun d => some (.nx (Γ.set i (.sh d)))
def sSetO (i : Nat) (f : Ag) : Sm := fun Γ => (f Γ).bind fun d => some (.nx (Γ.set i (.ow d)))
def sExp (f : Ex) : Sm := fun Γ => (f Γ).bind fun _ => some (.nx Γ)
def sRet (f : Ex) : Sm := fun Γ => (f Γ).bind fun d => some (.rt d)
def sRetN : Sm := fun _ => some (.rt .non)
def sIf (c : Te) (f g : Sm) : Sm := fun Γ => (c Γ).bind fun b => if b then f Γ else g Γ
def frzE (i : Nat) (Γ : DEnv) : DEnv := match Γ[i]? with | some (.ow xs) => Γ.set i (.sh (.lst xs)) | some (.dk ks xs) => Γ.set i (.sh (.dic ks xs)) | _ => Γ
def sFrz (i : Nat) (f : Sm) : Sm := fun Γ => f (frzE i Γ)
/-- a place of a slot, read and changed -/
def gP (i : Nat) (rp : Pth) (Γ : DEnv) : Option Sl := (Γ[i]?).bind (getR rp)
def upP (i : Nat) (rp : Pth) (s' : Sl) (Γ : DEnv) : Option Res := (Γ[i]?).bind fun s => (setR rp s' s).bind fun s2 => some (.nx (Γ.set i s2))
def sApp (i : Nat) (rp : Pth) (f : Ex) : Sm := fun Γ => (f Γ).bind fun d => match gP i rp Γ with
  | some (.ow xs) => if xs.length < 1000000 then upP i rp (.ow (xs ++ [d])) Γ else none
  | _ => none
def sAug (o : D → D → Option D) (i : Nat) (f : Ex) : Sm := fun Γ => (gV i Γ).bind fun x => (f Γ).bind fun y => (o x y).bind fun d => some (.nx (Γ.set i (.sh d)))
def sUnp (g : Gs) (f : Ex) : Sm := fun Γ => (f Γ).bind fun d => (g d Γ).bind fun Γ' => some (.nx Γ')
def sPar (is : List Nat) (fs : Ag) : Sm := fun Γ => (fs Γ).bind fun ds => some (.nx ((is.zip ds).foldl (fun Γ p => Γ.set p.1 (.sh p.2)) Γ))
def sIxS (i : Nat) (rp : Pth) (k : Ex) (f : Ex) : Sm := fun Γ => (f Γ).bind fun d => (k Γ).bind fun j => match gP i rp Γ, j with
  | some (.ow xs), .int n => (ixN xs.length n).bind fun m => upP i rp (.ow (xs.set m d)) Γ
  | _, _ => none

section
variable {X : Cx} {e a b o tg : Expr} {es : List Expr} {f k : Ex} {fs : Ag} {st : Stmt} {sts : List Stmt} {F F' : Sm} {p : Te} {pos pos' : Pos} {n : Nat} {ix : List Nat} {g : Gs}
theorem ss_nil : Ss X [] sNil := ⟨⟨_, pss_nil, fun G0 H0 Z Γ σ G H D r R hf k => by cases hf; exact k σ G H R⟩⟩
theorem ss_cons (h : S X st F) (hr : Ss X sts F') : Ss X (st :: sts) (sSeq F F') := by
  obtain ⟨t, h1, h2⟩ := h.ex
  obtain ⟨u, q1, q2⟩ := hr.ex
  refine ⟨⟨_, pss_cons h1 q1, fun G0 H0 Z Γ σ G H D r R hf k => ?_⟩⟩
  obtain ⟨r1, e1, hf⟩ := obind hf
  refine h2 G0 H0 Z Γ σ G H _ r1 R e1 ?_
  cases r1 with
  | nx Γ1 => exact fun σ1 G1 H1 R1 => q2 G0 H0 Z Γ1 σ1 G1 H1 D r R1 hf k
  | rt d => cases hf; exact k
  | rm d s => cases hf; exact k
  | ro s => cases hf; exact k
  | bk Γ1 => cases hf; exact k
  | ct Γ1 => cases hf; exact k
  | ra n => cases hf; exact k
theorem ss_one (h : S X st F) : Ss X [st] F := by
  obtain ⟨t, h1, h2⟩ := h.ex
  exact ⟨⟨_, pss_one h1, h2⟩⟩
theorem s_pass : S X (.Pass pos) sNil := ⟨⟨_, ps_pass, fun G0 H0 Z Γ σ G H D r R hf k => by cases hf; exact k σ G H R⟩⟩
theorem s_break : S X (.Break pos) sBrk := ⟨⟨_, ps_break, fun G0 H0 Z Γ σ G H D r R hf k => by cases hf; exact k σ G H R⟩⟩
theorem s_cont : S X (.Continue pos) sCnt := ⟨⟨_, ps_continue, fun G0 H0 Z Γ σ G H D r R hf k => by cases hf; exact k σ G H R⟩⟩
theorem s_set (i : Nat) {x : Str} (hN : X.N.Nodup) (he : E X e f) (hi : X.N[i]? = some x := by rfl) (hx : Loc X.env.scope x := by first | exact Or.inl rfl | exact Or.inr rfl) (hs : swapsWith e (some (.Name x pos')) pos.line X.env = pure false := by rfl)
    (hf : X.fn x = true ∨ X.env.scope.names.lookup x = some .local := by first | exact .inl rfl | exact .inr rfl | assumption) : S X (.Assign [.Name x pos'] e pos) (sSet i f) := by
  obtain ⟨t, h1, h2⟩ := he.ex
  refine ⟨⟨_, ps_set hN hi hx h1 hs hf, fun G0 H0 Z Γ σ G H D r R hf k => ?_⟩⟩
  obtain ⟨d, e1, hf⟩ := obind hf
  cases hf
  exact h2 G0 H0 Z Γ σ G H _ d R e1 fun G1 H1 v x1 r1 => k _ G1 H1 ((R.ext x1).set i r1)
theorem set_own {K : PySem.W.Frag} {mg : Str → Option Value} {G0 H0 : Hp} {Z : Zs} {Γ : DEnv} {σ : L2.St} {G H G1 H1 : Hp} {q : Addr} {vs : List V} {xs : List D} (R : Rel K mg G0 H0 Z Γ σ G H) (x1 : Ext G H G1 H1) (hq : H q = none) (gq : G1 q = none) (h : H1 q = some (.lst vs)) (r : RepL K mg G1 vs xs) (i : Nat) (h0 : i ≠ 0) :
    Rel K mg G0 H0 Z (Γ.set i (.ow xs)) (σ.set i (some (.ref q))) G1 H1 :=
  R.setNew x1 i (F := fun a => a = q) (.ow rfl h r) (fun a e => by subst e; exact ⟨gq, hq, by rw [h]; simp⟩) (.inl h0)
theorem s_setO (i : Nat) {x : Str} (hN : X.N.Nodup) (he : EL X e fs) (h0 : i ≠ 0 := by decide) (hi : X.N[i]? = some x := by rfl) (hx : Loc X.env.scope x := by first | exact Or.inl rfl | exact Or.inr rfl) (hs : swapsWith e (some (.Name x pos')) pos.line X.env = pure false := by rfl)
    (hf : X.fn x = true ∨ X.env.scope.names.lookup x = some .local := by first | exact .inl rfl | exact .inr rfl | assumption) : S X (.Assign [.Name x pos'] e pos) (sSetO i fs) := by
  obtain ⟨t, h1, h2⟩ := he.ex
  refine ⟨⟨_, ps_set hN hi hx h1 hs hf, fun G0 H0 Z Γ σ G H D r R hf k => ?_⟩⟩
  obtain ⟨d, e1, hf⟩ := obind hf
  cases hf
  exact h2 G0 H0 Z Γ σ G H _ d R e1 fun G1 H1 q vs x1 hq gq h r1 => k _ G1 H1 (set_own R x1 hq gq h r1 i h0)
theorem s_expr (he : E X e f) (hs : swapsWith e none pos.line X.env = pure false := by rfl) : S X (.Expr e pos) (sExp f) := by
  obtain ⟨t, h1, h2⟩ := he.ex
  refine ⟨⟨_, ps_expr h1 hs, fun G0 H0 Z Γ σ G H D r R hf k => ?_⟩⟩
  obtain ⟨d, e1, hf⟩ := obind hf
  cases hf
  exact h2 G0 H0 Z Γ σ G H _ d R e1 fun G1 H1 v x1 r1 => k σ G1 H1 (R.ext x1)
theorem Rel.end {K : PySem.W.Frag} {mg : Str → Option Value} {G0 H0 : Hp} {Z : Zs} {Γ : DEnv} {σ : L2.St} {G H : Hp} (R : Rel K mg G0 H0 Z Γ σ G H) : Ext G0 H0 G H := ⟨R.gg, R.hh, R.gh, R.new, R.hn, fun _ => by rw [← R.tc]; exact R.tb⟩
theorem s_ret (he : E X e f) : S X (.Return (some e) pos) (sRet f) := by
  obtain ⟨t, h1, h2⟩ := he.ex
  refine ⟨⟨_, ps_ret h1, fun G0 H0 Z Γ σ G H D r R hf k => ?_⟩⟩
  obtain ⟨d, e1, hf⟩ := obind hf
  cases hf
  exact h2 G0 H0 Z Γ σ G H _ d R e1 fun G1 H1 v x1 r1 => k G1 H1 v (R.ext x1).end r1
theorem s_retN : S X (.Return none pos) sRetN := ⟨⟨_, ps_retN, fun G0 H0 Z Γ σ G H D r R hf k => by cases hf; exact k G H _ R.end .non⟩⟩
theorem s_if {c : Expr} {sa sb : List Stmt} (hc : T X c p) (ha : Ss X sa F) (hb : Ss X sb F') : S X (.If c sa sb pos) (sIf p F F') := by
  obtain ⟨t, h1, h2⟩ := hc.ex
  obtain ⟨u, q1, q2⟩ := ha.ex
  obtain ⟨w, z1, z2⟩ := hb.ex
  refine ⟨⟨_, ps_if h1 q1 z1, fun G0 H0 Z Γ σ G H D r R hf k => ?_⟩⟩
  obtain ⟨b, e1, hf⟩ := obind hf
  refine h2 G0 H0 Z Γ σ G H _ b R e1 fun G1 H1 x1 => ?_
  cases b with
  | true => exact iteT (q2 G0 H0 Z Γ σ G1 H1 D r (R.ext x1) hf k)
  | false => exact iteF (z2 G0 H0 Z Γ σ G1 H1 D r (R.ext x1) hf k)
theorem Rel.frzE {K : PySem.W.Frag} {mg : Str → Option Value} {G0 H0 : Hp} {Z : Zs} {Γ : DEnv} {σ : L2.St} {G H : Hp} (R : Rel K mg G0 H0 Z Γ σ G H) (i : Nat) : ∃ G', Rel K mg G0 H0 Z (frzE i Γ) σ G' H := by
  unfold DL.frzE
  cases q : Γ[i]? with
  | none => exact ⟨G, R⟩
  | some s =>
    cases s with
    | ow xs => obtain ⟨G', R', _⟩ := R.frzP (rp := []) (d := .lst xs) q rfl (by simp) (by simp [SlP]) rfl rfl; exact ⟨G', R'⟩
    | dk ks xs => obtain ⟨G', R', _⟩ := R.frzP (rp := []) (d := .dic ks xs) q rfl (by simp) (by simp [SlP]) (by simp only [toD]) rfl; exact ⟨G', R'⟩
    | _ => exact ⟨G, R⟩
theorem s_frz (i : Nat) (h : S X st F) : S X st (sFrz i F) := by
  obtain ⟨t, h1, h2⟩ := h.ex
  refine ⟨⟨t, h1, fun G0 H0 Z Γ σ G H D r R hf k => ?_⟩⟩
  obtain ⟨G', R'⟩ := R.frzE i
  exact h2 G0 H0 _ _ σ G' H D r R' hf k
/-! places -/
structure PL (X : Cx) (e : Expr) (i : Nat) (rp : Pth) : Prop where
  ex : ∃ t, PE X e t ∧ ∀ G0 H0 Z Γ σ Gb Hb G H Q s s1, Rel X.K X.mg G0 H0 Z Γ σ Gb Hb → Ext Gb Hb G H → Γ[i]? = some s → getR rp s = some s1 → SlP s → s1 ≠ .no → (∀ v, (∀ G1 H1, Ext Gb Hb G1 H1 → ∃ F1, Pack X.K X.mg G0 H0 Z Γ σ i rp s s1 v F1 Hb G1 H1) → Q v H) → t σ H Q
theorem pl_var (i : Nat) {x : Str} (hN : X.N[i]? = some x := by rfl) (hv : Vis X.env.scope x := by first | exact Or.inl rfl | exact Or.inr (Or.inl rfl) | exact Or.inr (Or.inr rfl)) (hd : (x == ("__debug__" : Str)) = false := by decide)
    (hcd : (x == ("__classdict__" : Str)) = false := by decide) : PL X (.Name x pos) i [] := by
  refine ⟨⟨_, pe_var hN hv hd hcd, fun G0 H0 Z Γ σ Gb Hb G H Q s s1 R xb hi hg hn h1 k => ?_⟩⟩
  obtain ⟨v, F1, e, pk⟩ := R.pack hi hg h1 hn
  exact ⟨v, e rfl, k v fun G1 H1 x => ⟨F1, pk G1 H1 x⟩⟩
theorem Pack.obAt {K : PySem.W.Frag} {mg : Str → Option Value} {G0 H0 : Hp} {Z : Zs} {Γ : DEnv} {σ : L2.St} {G H Hb : Hp} {i c : Nat} {rp : Pth} {s : Sl} {fs : List Sl} {v : V} {F1 : Addr → Prop} (P : Pack K mg G0 H0 Z Γ σ i rp s (.ob c fs) v F1 Hb G H) : ∃ p C dx zs, v = .ref p ∧ H p = some (.ins C dx zs) := by
  have hd := P.hd
  cases hd with
  | ob f hm h n s r => exact ⟨_, _, _, _, rfl, h⟩
theorem pl_fld {i : Nat} {rp : Pth} {c j : Nat} {C : Addr} {x : Str} (ck : CK X.K X.mg c C) (h : PL X o i rp) (hj : (cF c)[j]? = some x := by rfl) (nd : (cF c).Nodup := by decide +kernel) (hb : attributeBase o x X.env (eval o X.env) = eval o X.env := by rfl) : PL X (.Attribute o x pos) i ((c, j) :: rp) := by
  obtain ⟨t, h1, h2⟩ := h.ex
  refine ⟨⟨_, pe_fld h1 hb, fun G0 H0 Z Γ σ Gb Hb G H Q s s1 R xb hi hg hn hs k => ?_⟩⟩
  unfold getR at hg
  cases q : getR rp s with
  | none => rw [q] at hg; cases hg
  | some par =>
    rw [q] at hg
    cases par with
    | ob c' fs =>
      replace hg : (if c' = c then fs[j]? else none) = some s1 := hg
      split at hg
      · rename_i hc
        subst hc
        refine h2 G0 H0 Z Γ σ Gb Hb G H _ s _ R xb hi q hn (by simp) fun v pk => ?_
        obtain ⟨F0, p0⟩ := pk G H xb
        obtain ⟨p, C', dx, vs, v1, F1, rfl, hm, ho, e1, _⟩ := p0.fld q hg
        rw [ck.hm] at hm
        cases hm
        have look := zip_lookup nd hj e1
        refine ⟨p, C, dx, _, v1, rfl, ho, ck.cl, ck.na x (List.mem_of_getElem? hj), look, k v1 fun G1 H1 x1 => ?_⟩
        obtain ⟨F2, p2⟩ := pk G1 H1 x1
        obtain ⟨p', C2, dx2, vs2, v2, F3, ep, _, ho2, e2, p3⟩ := p2.fld q hg
        cases ep
        obtain ⟨Fb, pb⟩ := pk Gb Hb (Ext.refl R.gh)
        obtain ⟨p', _, _, _, ep, hb1⟩ := pb.obAt
        cases ep
        have h3 := x1.hh _ _ hb1 nofun
        have h4 := xb.hh _ _ hb1 nofun
        rw [ho2] at h3
        rw [ho] at h4
        cases h4
        have ez : (cF c').zip vs2 = (cF c').zip vs := by injection h3 with h3; injection h3
        have look2 := zip_lookup nd hj e2
        rw [ez, look] at look2
        cases look2
        exact ⟨F3, p3⟩
      · cases hg
    | ol fs =>
      replace hg : (if c = 1000 then fs[j]? else none) = some s1 := hg
      split at hg
      · rename_i hc
        subst hc
        cases hj
      · cases hg
    | _ => cases hg
/-- .. read: a datum -/
def gPE (i : Nat) (rp : Pth) : Ex := fun Γ => match gP i rp Γ with | some (.sh d) => some d | _ => none
def gPB (i : Nat) (rp : Pth) : Ex := fun Γ => match gP i rp Γ with | some (.sh d) => some d | some (.ow xs) => some (.lst xs) | some (.ob c fs) => toD (.ob c fs) | some (.dk ks xs) => some (.dic ks xs) | some (.ol ss) => (toDs ss).map .lls | _ => none
theorem gP_some {i : Nat} {rp : Pth} {Γ : DEnv} {s1 : Sl} (h : gP i rp Γ = some s1) (hn : SlP s1) : ∃ s, Γ[i]? = some s ∧ getR rp s = some s1 ∧ SlP s := by
  obtain ⟨s, e1, e2⟩ := obind h
  have key : ∀ z : Sl, (∀ c fs, z ≠ .ob c fs) → (∀ fs, z ≠ .ol fs) → ∀ rp : Pth, getR rp z = none ∨ getR rp z = some z   := fun z hz hzl rp => by
    induction rp with
    | nil => exact .inr rfl
    | cons p rp ih =>
      left
      unfold getR
      rcases ih with q | q
      · rw [q]
      · rw [q]
        cases z with
        | ob c fs => exact absurd rfl (hz c fs)
        | ol fs => exact absurd rfl (hzl fs)
        | _ => rfl
  refine ⟨s, e1, e2, fun z => ?_, fun d z => ?_⟩
  · subst z
    rcases key .no (by simp) (by simp) rp with q | q
    · rw [q] at e2; cases e2
    · rw [q] at e2; cases e2; exact hn.1 rfl
  · subst z
    rcases key (.bo d) (by simp) (by simp) rp with q | q
    · rw [q] at e2; cases e2
    · rw [q] at e2; cases e2; exact hn.2 d rfl
theorem PL.er {i : Nat} {rp : Pth} (h : PL X e i rp) : E X e (gPE i rp) := by
  obtain ⟨t, h1, h2⟩ := h.ex
  refine ⟨⟨t, h1, fun G0 H0 Z Γ σ G H Q d R hf k => ?_⟩⟩
  unfold gPE at hf
  cases q : gP i rp Γ with
  | none => rw [q] at hf; cases hf
  | some s1 =>
    rw [q] at hf
    cases s1 with
    | sh d' =>
      cases hf
      obtain ⟨s, e1, e2, e3⟩ := gP_some q (by simp [SlP])
      refine h2 G0 H0 Z Γ σ G H G H Q s _ R (Ext.refl R.gh) e1 e2 e3 (by simp) fun v pk => ?_
      obtain ⟨F1, p⟩ := pk G H (Ext.refl R.gh)
      have hd := p.hd
      cases hd with
      | sh r => exact k G H v (Ext.refl R.gh) r
    | _ => cases hf
theorem PL.br {i : Nat} {rp : Pth} (h : PL X e i rp) : B X e (gPB i rp) := by
  obtain ⟨t, h1, h2⟩ := h.ex
  refine ⟨⟨t, h1, fun G0 H0 Z Γ σ G H Q d R hf k => ?_⟩⟩
  unfold gPB at hf
  cases q : gP i rp Γ with
  | none => rw [q] at hf; cases hf
  | some s1 =>
    rw [q] at hf
    cases s1 with
    | sh d' =>
      cases hf
      obtain ⟨s, e1, e2, e3⟩ := gP_some q (by simp [SlP])
      refine h2 G0 H0 Z Γ σ G H G H Q s _ R (Ext.refl R.gh) e1 e2 e3 (by simp) fun v pk => ?_
      obtain ⟨F1, p⟩ := pk G H (Ext.refl R.gh)
      have hd := p.hd
      cases hd with
      | sh r => exact k G H v (Ext.refl R.gh) (.sh r)
    | ow xs =>
      cases hf
      obtain ⟨s, e1, e2, e3⟩ := gP_some q (by simp [SlP])
      refine h2 G0 H0 Z Γ σ G H G H Q s _ R (Ext.refl R.gh) e1 e2 e3 (by simp) fun v pk => ?_
      obtain ⟨F1, p⟩ := pk G H (Ext.refl R.gh)
      have hd := p.hd
      cases hd with
      | ow f h r => exact k G H _ (Ext.refl R.gh) (.li h r)
    | ob c fs =>
      obtain ⟨s, e1, e2, e3⟩ := gP_some q (by simp [SlP])
      refine h2 G0 H0 Z Γ σ G H G H Q s _ R (Ext.refl R.gh) e1 e2 e3 (by simp) fun v pk => ?_
      obtain ⟨F1, p⟩ := pk G H (Ext.refl R.gh)
      exact k G H _ (Ext.refl R.gh) (p.hd.bo hf)
    | dk ks xs =>
      obtain ⟨s, e1, e2, e3⟩ := gP_some q (by simp [SlP])
      refine h2 G0 H0 Z Γ σ G H G H Q s _ R (Ext.refl R.gh) e1 e2 e3 (by simp) fun v pk => ?_
      obtain ⟨F1, p⟩ := pk G H (Ext.refl R.gh)
      exact k G H _ (Ext.refl R.gh) (p.hd.bo (by cases hf; simp only [toD]))
    | ol ss =>
      obtain ⟨s, e1, e2, e3⟩ := gP_some q (by simp [SlP])
      refine h2 G0 H0 Z Γ σ G H G H Q s _ R (Ext.refl R.gh) e1 e2 e3 (by simp) fun v pk => ?_
      obtain ⟨F1, p⟩ := pk G H (Ext.refl R.gh)
      replace hf : (toDs ss).map .lls = some d := hf
      obtain ⟨ds, q1, rfl⟩ := Option.map_eq_some_iff.mp hf
      have hd := p.hd
      cases hd with
      | ol f h n s r => exact k G H _ (Ext.refl R.gh) (.lls h (r.bo q1))
    | _ => cases hf
/-- one's own list at a place is changed in place -/
theorem Pack.list {K : PySem.W.Frag} {mg : Str → Option Value} {G0 H0 : Hp} {Z : Zs} {Γ : DEnv} {σ : L2.St} {G H : Hp} {i : Nat} {rp : Pth} {s : Sl} {xs : List D} {v : V} {F1 : Addr → Prop} (gh : Same G H) {Hb : Hp} (P : Pack K mg G0 H0 Z Γ σ i rp s (.ow xs) v F1 Hb G H) :
    ∃ l vs, v = .ref l ∧ H l = some (.lst vs) ∧ RepL K mg G vs xs ∧ ∀ vs' ys s', RepL K mg G vs' ys → setR rp (.ow ys) s = some s' → Rel K mg G0 H0 Z (Γ.set i s') σ G (upd H l (.lst vs')) := by
  have hd := P.hd
  cases hd with
  | ow f h r =>
    rename_i l vs
    refine ⟨l, vs, rfl, h, r, fun vs' ys s' r' es => ?_⟩
    have gl := (P.fr l f).1
    refine P.up G _ (fun a => a = l) (.ow ys) s' (Same.refl _) (fun a o q => ?_) (fun a q => .inl q) (fun a o nf q => ?_) (.ow rfl upd_same r') (fun a e => ?_) (fun _ => rfl) es
    · rw [upd_ne (ne_of_none q gl)]; exact gh _ _ q
    · rw [upd_ne]
      · exact q
      · intro e; subst e; exact nf f
    · subst e
      exact ⟨gl, by rw [upd_same]; simp, .inl f⟩
theorem upP_some {i : Nat} {rp : Pth} {s' : Sl} {Γ : DEnv} {r : Res} (h : upP i rp s' Γ = some r) : ∃ s s2, Γ[i]? = some s ∧ setR rp s' s = some s2 ∧ r = .nx (Γ.set i s2) := by
  obtain ⟨s, e1, h⟩ := obind h
  obtain ⟨s2, e2, h⟩ := obind h
  cases h
  exact ⟨s, s2, e1, e2, rfl⟩
theorem s_app {i : Nat} {rp : Pth} {ap : Pos} (hp : PL X o i rp) (he : E X e f) (hst : starEach [e] X.env = (false, eval e X.env) :: starEach [] X.env := by rfl)
    (hpe : ∀ {r : V → List V → Hp → VK → Prop} {to te : TE}, MtR X "list.append" r → PE X o to → PE X e te → PE X (.Call (.Attribute o "append" ap) [e] [] pos) (tBM X.K "list" r to (tCons te tNil)) := by intro r to te hm ho hp; exact pe_bm PySem.F.plainAttrs_list PySem.F.slot_list_append PySem.F.type_list_append hm ho (pa_cons hp pa_nil))
    (hs : swapsWith (.Call (.Attribute o "append" ap) [e] [] pos) none pos'.line X.env = pure false := by rfl) : S X (.Expr (.Call (.Attribute o "append" ap) [e] [] pos) pos') (sApp i rp f) := by
  obtain ⟨t, h1, h2⟩ := he.ex
  obtain ⟨u, u1, u2⟩ := hp.ex
  refine ⟨⟨_, ps_expr (hpe mt_append u1 h1) hs, fun G0 H0 Z Γ σ G H D r R hf k => ?_⟩⟩
  obtain ⟨d, e1, hf⟩ := obind hf
  cases q : gP i rp Γ with
  | none => rw [q] at hf; cases hf
  | some s1 =>
    rw [q] at hf
    cases s1 with
    | ow xs =>
      replace hf : (if xs.length < 1000000 then upP i rp (.ow (xs ++ [d])) Γ else none) = some r := hf
      split at hf
      · rename_i hl
        obtain ⟨s, s2, a1, a2, rfl⟩ := upP_some hf
        obtain ⟨s', b1, b2, b3⟩ := gP_some q (by simp [SlP])
        rw [a1] at b1
        cases b1
        refine u2 G0 H0 Z Γ σ G H G H _ s _ R (Ext.refl R.gh) a1 b2 b3 (by simp) fun v pk => ?_
        obtain ⟨F0, p0⟩ := pk G H (Ext.refl R.gh)
        obtain ⟨l, vs, rfl, c1, c2, _⟩ := p0.list R.gh
        refine ⟨.inl ⟨rfl, _, SqL.of c1⟩, ?_⟩
        refine h2 G0 H0 Z Γ σ G H _ d R e1 fun G1 H1 v x1 r1 => ?_
        obtain ⟨F1, p1⟩ := pk G1 H1 x1
        obtain ⟨l', vs', e', d1, d2, d3⟩ := p1.list x1.gh
        cases e'
        refine ⟨l, vs', v, rfl, rfl, d1, ?_, ?_⟩
        · rw [d2.length]; exact Nat.lt_of_lt_of_le hl line_big
        · exact k σ G1 _ (d3 _ _ _ (d2.append (.cons r1 .nil)) a2)
      · cases hf
    | _ => cases hf
theorem s_aug (i : Nat) {x : Str} {op : Operator} {C : Int → Int → Int} {o : D → D → Option D} (hN : X.N.Nodup) (he : E X e f) (ho : PIp X op (ipI C)) (hoo : ∀ x y d, o x y = some d → ∃ i j, x = .int i ∧ y = .int j ∧ d = .int (C i j)) (hi : X.N[i]? = some x := by rfl) (hx : Loc X.env.scope x := by first | exact Or.inl rfl | exact Or.inr rfl)
    (hf : X.fn x = true ∨ X.env.scope.names.lookup x = some .local := by first | exact .inl rfl | exact .inr rfl | assumption) : S X (.AugAssign (.Name x pos') op e pos) (sAug o i f) := by
  obtain ⟨t, h1, h2⟩ := he.ex
  refine ⟨⟨_, ps_aug hN hi hx h1 ho hf, fun G0 H0 Z Γ σ G H D r R hf k => ?_⟩⟩
  obtain ⟨a, e0, hf⟩ := obind hf
  obtain ⟨b, e1, hf⟩ := obind hf
  obtain ⟨c, e2, hf⟩ := obind hf
  cases hf
  obtain ⟨m, n, rfl, rfl, rfl⟩ := hoo _ _ _ e2
  unfold gV at e0
  cases q : Γ[i]? with
  | none => rw [q] at e0; cases e0
  | some s =>
    rw [q] at e0
    cases s with
    | sh d =>
      cases e0
      obtain ⟨v, a1, a2⟩ := R.sh q
      rw [a2.intv] at a1
      refine ⟨_, a1, h2 G0 H0 Z Γ σ G H _ _ R e1 fun G1 H1 v x1 r1 => ?_⟩
      rw [r1.intv]
      exact ⟨m, n, rfl, rfl, k _ G1 H1 ((R.ext x1).set i (.int _))⟩
    | _ => cases e0
theorem aug_add : ∀ x y d, dAdd x y = some d → (∃ i j, x = .int i ∧ y = .int j ∧ d = .int (i + j)) ∨ ¬ ∃ i, x = .int i := fun x y d h => by
  cases x with
  | int i => cases y with
    | int j => cases h; exact .inl ⟨i, j, rfl, rfl, rfl⟩
    | _ => cases h
  | _ => exact .inr (by simp)
/-- +=, -= of whole numbers -/
def dAddI : D → D → Option D
  | .int i, .int j => some (.int (i + j))
  | _, _ => none
theorem s_augA (i : Nat) {x : Str} (hN : X.N.Nodup) (he : E X e f) (hi : X.N[i]? = some x := by rfl) (hx : Loc X.env.scope x := by first | exact Or.inl rfl | exact Or.inr rfl)
    (hf : X.fn x = true ∨ X.env.scope.names.lookup x = some .local := by first | exact .inl rfl | exact .inr rfl | assumption) : S X (.AugAssign (.Name x pos') .Add e pos) (sAug dAddI i f) :=
  s_aug i hN he ip_add (fun x y d h => by
    cases x with
    | int i => cases y with
      | int j => cases h; exact ⟨i, j, rfl, rfl, rfl⟩
      | _ => cases h
    | _ => cases h) hi hx hf
theorem s_augS (i : Nat) {x : Str} (hN : X.N.Nodup) (he : E X e f) (hi : X.N[i]? = some x := by rfl) (hx : Loc X.env.scope x := by first | exact Or.inl rfl | exact Or.inr rfl)
    (hf : X.fn x = true ∨ X.env.scope.names.lookup x = some .local := by first | exact .inl rfl | exact .inr rfl | assumption) : S X (.AugAssign (.Name x pos') .Sub e pos) (sAug dSub i f) :=
  s_aug i hN he ip_sub (fun x y d h => by
    cases x with
    | int i => cases y with
      | int j => cases h; exact ⟨i, j, rfl, rfl, rfl⟩
      | _ => cases h
    | _ => cases h) hi hx hf
/-- a, b = e -/
theorem s_unp (he : E X e f) (hg : G X tg ix g) (hs : swapsWithSole [tg] e pos.line X.env = pure false := by rfl) (hw : swappedStores [tg] e X.env = pure none := by rfl)
    (h1 : (assignEach [tg] X.env).map (·.2) = [assign tg X.env] := by rfl) : S X (.Assign [tg] e pos) (sUnp g f) := by
  obtain ⟨t, h1', h2⟩ := he.ex
  obtain ⟨u, q1, q2⟩ := hg.ex
  refine ⟨⟨_, ps_asg h1' q1 hs hw h1, fun G0 H0 Z Γ σ G H D r R hf k => ?_⟩⟩
  obtain ⟨d, e1, hf⟩ := obind hf
  obtain ⟨Γ', e2, hf⟩ := obind hf
  cases hf
  refine h2 G0 H0 Z Γ σ G H _ d R e1 fun G1 H1 v x1 r1 => ?_
  exact q2 G0 H0 Z Γ σ G1 H1 _ d v Γ' (R.ext x1) r1 e2 fun σ' R' _ => k σ' G1 H1 R'
/-- a, b = x, y -/
theorem s_par {i j : Nat} {x y : Str} {px py pt : Pos} {kt k2 pt2} (hc : X.calm = true) (hN : X.N.Nodup) (ha : AN X [a, b] 2 fs) (hi : X.N[i]? = some x := by rfl) (hj : X.N[j]? = some y := by rfl) (hij : i ≠ j := by decide)
    (hx : X.env.scope.names.lookup x = some .local := by rfl) (hy : X.env.scope.names.lookup y = some .local := by rfl)
    (hw : swappedStores [.Tuple [.Name x px, .Name y py] kt pt] (.Tuple [a, b] k2 pt2) X.env = pure (some [x, y]) := by rfl)
    (hs : swapsWithSole [.Tuple [.Name x px, .Name y py] kt pt] (.Tuple [a, b] k2 pt2) pos.line X.env = pure false := by rfl) :
    S X (.Assign [.Tuple [.Name x px, .Name y py] kt pt] (.Tuple [a, b] k2 pt2) pos) (sPar [i, j] fs) := by
  obtain ⟨t, h1, h2⟩ := ha.a.ex
  refine ⟨⟨_, ps_par hc hN hi hj hij hx hy h1 hw hs, fun G0 H0 Z Γ σ G H D r R hf k => ?_⟩⟩
  obtain ⟨ds, e1, hf⟩ := obind hf
  cases hf
  have hl := ha.n Γ ds e1
  refine h2 G0 H0 Z Γ σ G H _ ds R e1 fun G1 H1 vs x1 r1 => ?_
  match ds, hl, r1, k with
  | [d1, d2], _, .cons r (.cons q .nil), k => exact ⟨_, _, rfl, k _ G1 H1 (((R.ext x1).set i r).set j q)⟩
theorem s_par3 {i j l : Nat} {x y z : Str} {c : Expr} {px py pz pt : Pos} {kt k2 pt2} (hc : X.calm = true) (hN : X.N.Nodup) (ha : AN X [a, b, c] 3 fs) (hi : X.N[i]? = some x := by rfl) (hj : X.N[j]? = some y := by rfl) (hl : X.N[l]? = some z := by rfl) (hij : i ≠ j := by decide) (hil : i ≠ l := by decide) (hjl : j ≠ l := by decide)
    (hx : X.env.scope.names.lookup x = some .local := by rfl) (hy : X.env.scope.names.lookup y = some .local := by rfl) (hz : X.env.scope.names.lookup z = some .local := by rfl)
    (hw : swappedStores [.Tuple [.Name x px, .Name y py, .Name z pz] kt pt] (.Tuple [a, b, c] k2 pt2) X.env = pure (some [x, y, z]) := by rfl)
    (hs : swapsWithSole [.Tuple [.Name x px, .Name y py, .Name z pz] kt pt] (.Tuple [a, b, c] k2 pt2) pos.line X.env = pure false := by rfl) :
    S X (.Assign [.Tuple [.Name x px, .Name y py, .Name z pz] kt pt] (.Tuple [a, b, c] k2 pt2) pos) (sPar [i, j, l] fs) := by
  obtain ⟨t, h1, h2⟩ := ha.a.ex
  refine ⟨⟨_, ps_par3 hc hN hi hj hl hij hil hjl hx hy hz h1 hw hs, fun G0 H0 Z Γ σ G H D r R hf k => ?_⟩⟩
  obtain ⟨ds, e1, hf⟩ := obind hf
  cases hf
  have hl := ha.n Γ ds e1
  refine h2 G0 H0 Z Γ σ G H _ ds R e1 fun G1 H1 vs x1 r1 => ?_
  match ds, hl, r1, k with
  | [d1, d2, d3], _, .cons r (.cons q (.cons w .nil)), k => exact ⟨_, _, _, rfl, k _ G1 H1 ((((R.ext x1).set i r).set j q).set l w)⟩

/-! loops -/
def forL (g : Gs) (body : Sm) : List D → Sm
  | [], Γ => some (.nx Γ)
  | d :: ds, Γ => (g d Γ).bind fun Γ1 => (body Γ1).bind fun r => match r with
    | .nx Γ2 => forL g body ds Γ2
    | .ct Γ2 => forL g body ds Γ2
    | .bk Γ2 => some (.nx Γ2)
    | .rt d => some (.rt d)
    | .rm d s => some (.rm d s)
    | .ra n => some (.ra n)
    | .ro s => some (.ro s)
def sFor (it : Ag) (g : Gs) (body : Sm) : Sm := fun Γ => (it Γ).bind fun ds => forL g body ds Γ
def whileN : Nat → Te → Sm → Sm
  | 0, _, _, _ => none
  | n + 1, c, body, Γ => (c Γ).bind fun b => if b then (body Γ).bind fun r => match r with
      | .nx Γ2 => whileN n c body Γ2
      | .ct Γ2 => whileN n c body Γ2
      | .bk Γ2 => some (.nx Γ2)
      | .rt d => some (.rt d)
      | .rm d s => some (.rm d s)
      | .ra n => some (.ra n)
      | .ro s => some (.ro s)
    else some (.nx Γ)
open Classical in
noncomputable def sWhile (c : Te) (body : Sm) : Sm := fun Γ => if h : ∃ r n, whileN n c body Γ = some r then some h.choose else none
theorem whileN_mono {c : Te} {body : Sm} : ∀ {n m : Nat} {Γ : DEnv} {r : Res}, n ≤ m → whileN n c body Γ = some r → whileN m c body Γ = some r
  | 0, _, _, _, _, h => by cases h
  | n + 1, 0, _, _, h, _ => by omega
  | n + 1, m + 1, Γ, r, hm, h => by
    unfold whileN at h ⊢
    obtain ⟨b, e1, h⟩ := obind h
    rw [e1]
    cases b with
    | false => exact h
    | true =>
      replace h : ((body Γ).bind fun r => match r with
        | .nx Γ2 => whileN n c body Γ2
        | .ct Γ2 => whileN n c body Γ2
        | .bk Γ2 => some (.nx Γ2)
        | .rt d => some (.rt d)
        | .rm d s => some (.rm d s)
        | .ra n => some (.ra n)
        | .ro s => some (.ro s)) = some r := h
      obtain ⟨r1, e2, h⟩ := obind h
      show ((body Γ).bind fun r => match r with
        | .nx Γ2 => whileN m c body Γ2
        | .ct Γ2 => whileN m c body Γ2
        | .bk Γ2 => some (.nx Γ2)
        | .rt d => some (.rt d)
        | .rm d s => some (.rm d s)
        | .ra n => some (.ra n)
        | .ro s => some (.ro s)) = some r
      rw [e2]
      cases r1 with
      | nx Γ2 => exact whileN_mono (by omega) h
      | ct Γ2 => exact whileN_mono (by omega) h
      | bk Γ2 => exact h
      | rt d => exact h
      | rm d s => exact h
      | ro s => exact h
      | ra n => exact h
theorem sWhile_of {c : Te} {body : Sm} {Γ : DEnv} {r : Res} {n : Nat} (h : whileN n c body Γ = some r) : sWhile c body Γ = some r := by
  unfold sWhile
  have ex : ∃ r n, whileN n c body Γ = some r := ⟨r, n, h⟩
  rw [dif_pos ex]
  obtain ⟨m, hm⟩ := ex.choose_spec
  have h1 := whileN_mono (Nat.le_max_left n m) h
  have h2 := whileN_mono (Nat.le_max_right n m) hm
  rw [h1] at h2
  exact h2.symm
theorem sWhile_some {c : Te} {body : Sm} {Γ : DEnv} {r : Res} (h : sWhile c body Γ = some r) : ∃ n, whileN n c body Γ = some r := by
  unfold sWhile at h
  split at h
  · rename_i ex
    cases h
    exact ex.choose_spec
  · cases h
/-- what is known grows: the base moves on -/
theorem Rel.rebase {K : PySem.W.Frag} {mg : Str → Option Value} {G0 H0 : Hp} {Z : Zs} {Γ : DEnv} {σ : L2.St} {G H : Hp} (R : Rel K mg G0 H0 Z Γ σ G H) : Rel K mg G H0 Z Γ σ G H :=
  ⟨R.len, R.gh, R.hh, Same.refl _, fun a h => .inl h, R.zz, R.an, R.tb, R.tz, R.tc, R.hn, R.own⟩
theorem Rel.unbase {K : PySem.W.Frag} {mg : Str → Option Value} {G0 H0 : Hp} {Z : Zs} {Γ Γ' : DEnv} {σ σ' : L2.St} {G H G' H' : Hp} (R : Rel K mg G0 H0 Z Γ σ G H) (R' : Rel K mg G H0 Z Γ' σ' G' H') : Rel K mg G0 H0 Z Γ' σ' G' H' :=
  ⟨R'.len, R'.gh, R'.hh, R.gg.trans R'.gg, fun a h => by
    rcases R'.new a h with z | z
    · exact R.new a z
    · exact .inr z, R'.zz, R'.an, R'.tb, R'.tz, R'.tc, R'.hn, R'.own⟩
theorem Rel.unext {K : PySem.W.Frag} {mg : Str → Option Value} {G0 H0 : Hp} {Z : Zs} {Γ : DEnv} {σ : L2.St} {G H G' H' : Hp} (R : Rel K mg G0 H0 Z Γ σ G H) (x : Ext G H0 G' H') : Ext G0 H0 G' H' :=
  ⟨R.gg.trans x.gg, x.hh, x.gh, fun a h => by
    rcases x.new a h with z | z
    · exact R.new a z
    · exact .inr z, x.hn, fun t0 => x.tb (TC.ti.keep t0 R.gg (fun _ _ => rfl) (fun a h _ => (TC.ti.live R.tbc a h).2))⟩
theorem s_for {iter : Expr} {body : List Stmt} {it : Ag} (hp : PassesOwn (model X.prog X.w) X.A X.env X.xe) (hc : X.calm = true) (hi : IB X tg iter it) (hg : G X tg ix g) (hb : Ss X body F) (hs : ∀ x, foldedSetIterable iter X.env x = pure x := by intro _; rfl) :
    S X (.For tg iter body [] pos) (sFor it g F) := by
  obtain ⟨wi, w1, w2⟩ := hi.ex
  obtain ⟨t, t1, t2⟩ := hg.ex
  obtain ⟨u, u1, u2⟩ := hb.ex
  refine ⟨⟨_, ps_for hp hc w1 t1 u1 hs, fun G0 H0 Z Γ σ G H D r R hf k => ?_⟩⟩
  obtain ⟨ds, e1, hf⟩ := obind hf
  refine w2 G0 H0 Z Γ σ G H _ ds R e1 fun G1 H1 J x1 hJ => ?_
  have R1 := R.ext x1
  refine ⟨fun i m σ' H' => m = ds.length - i ∧ i ≤ ds.length ∧ ∃ Γ' G', Rel X.K X.mg G1 H0 Z Γ' σ' G' H' ∧ forL g F (ds.drop i) Γ' = some r, ⟨ds.length, by simp, Nat.zero_le _, Γ, G1, R1.rebase, by simpa using hf⟩, ?_⟩
  rintro i m σ' H' ⟨rfl, hi, Γ', G', R', hr⟩
  obtain ⟨st, go⟩ := hJ i G' H' R'.gg R'.gh R'.hh
  by_cases hlt : i < ds.length
  · have hd : ds.drop i = ds[i] :: ds.drop (i + 1) := List.drop_eq_getElem_cons hlt
    obtain ⟨g1, g2⟩ := go ds[i] (List.getElem?_eq_getElem hlt)
    rw [hd] at hr
    obtain ⟨Γ1, c1, hr⟩ := obind hr
    obtain ⟨r1, c2, hr⟩ := obind hr
    refine .inr ⟨g1, fun σ2 H2 => ∃ Γ2 G2, Rel X.K X.mg G1 H0 Z Γ2 σ2 G2 H2 ∧ forL g F (ds.drop (i + 1)) Γ2 = some r, fun σ2 H2 ⟨Γ2, G2, R2, h2⟩ => ⟨ds.length - (i + 1), by omega, rfl, hlt, Γ2, G2, R2, h2⟩, fun x H2 y => ?_⟩
    obtain ⟨G2, x2, r2⟩ := g2 x H2 y
    refine t2 G1 H0 Z Γ' σ' G2 H2 _ _ x Γ1 (R'.ext x2) r2 c1 fun σ3 R3 _ => ?_
    refine u2 G1 H0 Z Γ1 σ3 G2 H2 _ r1 R3 c2 ?_
    cases r1 with
    | nx Γ2 => exact fun σ4 G4 H4 R4 => ⟨Γ2, G4, R4, hr⟩
    | ct Γ2 => exact fun σ4 G4 H4 R4 => ⟨Γ2, G4, R4, hr⟩
    | bk Γ2 => cases hr; exact fun σ4 G4 H4 R4 => k σ4 G4 H4 (R1.unbase R4)
    | rt d => cases hr; exact fun G4 H4 v x4 r4 => k G4 H4 v (R1.unext x4) r4
    | rm d s => cases hr; exact fun Γ4 σ4 G4 H4 v R4 e4 r4 => k Γ4 σ4 G4 H4 v (R1.unbase R4) e4 r4
    | ra n => cases hr; exact fun cls d σ4 G4 H4 R4 e4 => k cls d σ4 G4 H4 (R1.unbase R4) e4
    | ro s => cases hr; exact fun G4 H4 v F4 x4 r4 f4 => k G4 H4 v F4 (R1.unext x4) r4 f4
  · have e : i = ds.length := by omega
    subst e
    refine .inl ⟨st (Nat.le_refl _), ?_⟩
    rw [List.drop_length] at hr
    cases hr
    exact k σ' G' H' (R1.unbase R')
theorem s_while {c : Expr} {body : List Stmt} (hp : PassesOwn (model X.prog X.w) X.A X.env X.xe) (hc : T X c p) (hb : Ss X body F) : S X (.While c body [] pos) (sWhile p F) := by
  obtain ⟨t, t1, t2⟩ := hc.ex
  obtain ⟨u, u1, u2⟩ := hb.ex
  refine ⟨⟨_, ps_while hp t1 u1, fun G0 H0 Z Γ σ G H D r R hf k => ?_⟩⟩
  obtain ⟨n, hn⟩ := sWhile_some hf
  refine ⟨fun m σ' H' => ∃ Γ' G', Rel X.K X.mg G0 H0 Z Γ' σ' G' H' ∧ whileN m p F Γ' = some r, ⟨n, Γ, G, R, hn⟩, fun m σ' H' ⟨Γ', G', R', h⟩ => ?_⟩
  cases m with
  | zero => cases h
  | succ m =>
    unfold whileN at h
    obtain ⟨b, e1, h⟩ := obind h
    refine t2 G0 H0 Z Γ' σ' G' H' _ b R' e1 fun G1 H1 x1 => ?_
    cases b with
    | false =>
      cases h
      exact iteF (k σ' G1 H1 (R'.ext x1))
    | true =>
      replace h : ((F Γ').bind fun r => match r with
        | .nx Γ2 => whileN m p F Γ2
        | .ct Γ2 => whileN m p F Γ2
        | .bk Γ2 => some (.nx Γ2)
        | .rt d => some (.rt d)
        | .rm d s => some (.rm d s)
        | .ra n => some (.ra n)
        | .ro s => some (.ro s)) = some r := h
      obtain ⟨r1, e2, h⟩ := obind h
      refine iteT ⟨fun σ2 H2 => ∃ Γ2 G2, Rel X.K X.mg G0 H0 Z Γ2 σ2 G2 H2 ∧ whileN m p F Γ2 = some r, fun σ2 H2 h => ⟨m, Nat.lt_succ_self _, h⟩, ?_⟩
      refine u2 G0 H0 Z Γ' σ' G1 H1 _ r1 (R'.ext x1) e2 ?_
      cases r1 with
      | nx Γ2 => exact fun σ4 G4 H4 R4 => ⟨Γ2, G4, R4, h⟩
      | ct Γ2 => exact fun σ4 G4 H4 R4 => ⟨Γ2, G4, R4, h⟩
      | bk Γ2 => cases h; exact fun σ4 G4 H4 R4 => k σ4 G4 H4 R4
      | rt d => cases h; exact fun G4 H4 v x4 r4 => k G4 H4 v x4 r4
      | rm d s => cases h; exact fun Γ4 σ4 G4 H4 v R4 e4 r4 => k Γ4 σ4 G4 H4 v R4 e4 r4
      | ra n => cases h; exact k
      | ro s => cases h; exact fun G4 H4 v F4 x4 r4 f4 => k G4 H4 v F4 x4 r4 f4
/-- y = [.. for .. in ..] -/
theorem s_setLc (i : Nat) {y : Str} {py : Pos} {elt iter : Expr} {ifs : List Expr} {scope : Scope} {own : List (Str × Nat)} {it : Ag} {spos : Pos} (hc : X.calm = true) (hN : X.N.Nodup) (hi : IC X tg iter it) (ok : BlkOk X.N X.env.scope scope own) (hix : ∀ i ∈ ix, i ∈ own.map (·.2))
    (hg : ∀ (s : Shared) (H : Hp) (C : Addr) (cl : List (Str × Addr)) (fp : List Addr), G (X.blk s H scope (compEnvC scope cl C X.env) fp) tg ix g)
    (ht : ∀ (s : Shared) (H : Hp) (C : Addr) (cl : List (Str × Addr)) (fp : List Addr), Ts (X.blk s H scope (compEnvC scope cl C X.env) fp) ifs p)
    (he : ∀ (s : Shared) (H : Hp) (C : Addr) (cl : List (Str × Addr)) (fp : List Addr), E (X.blk s H scope (compEnvC scope cl C X.env) fp) elt f)
    (hy : X.N[i]? = some y := by rfl) (hyl : X.env.scope.names.lookup y = some .local := by rfl) (hsw : swapsWith (.ListComp elt [⟨tg, iter, ifs, 0⟩] scope pos) (some (.Name y py)) spos.line X.env = pure true := by exact sw_true rfl rfl rfl (by decide +kernel)) (hs : ∀ x, foldedSetIterable iter X.env x = pure x := by intro _; rfl) (h0 : i ≠ 0 := by decide) :
    S X (.Assign [.Name y py] (.ListComp elt [⟨tg, iter, ifs, 0⟩] scope pos) spos) (sSetO i (gLc (own.map (·.2)) it g p f)) := by
  obtain ⟨wi, w1, w2⟩ := hi.ex
  refine ⟨⟨_, ps_setLc (te := fun σ H Q => ∃ G0 H0 Z Γ G d, Rel X.K X.mg G0 H0 Z Γ σ G H ∧ f Γ = some d ∧ ∀ G' H' v, Ext G H G' H' → Rep X.K X.mg G' v d → Q v H') (tt := fun σ H Q => ∃ G0 H0 Z Γ G d, Rel X.K X.mg G0 H0 Z Γ σ G H ∧ p Γ = some d ∧ ∀ G' H', Ext G H G' H' → Q d H') (g := fun v σ H Q => ∃ G0 H0 Z Γ G d Γ', Rel X.K X.mg G0 H0 Z Γ σ G H ∧ Rep X.K X.mg G v d ∧ g d Γ = some Γ' ∧ ∀ σ', Rel X.K X.mg G0 H0 Z Γ' σ' G H → (∀ vs, (∀ i ∈ ix, i ∈ vs) → L2.wipe σ' vs = L2.wipe σ vs) → Q σ' H) hc hN hy hyl hsw w1 ok (fun s H C cl fp => (hg s H C cl fp).pg) (fun s H C cl fp => (ht s H C cl fp).pt) (fun s H C cl fp => (he s H C cl fp).pe) hs, fun G0 H0 Z Γ σ G H D r R hf k => ?_⟩⟩
  obtain ⟨d, e1, hf⟩ := obind hf
  cases hf
  exact lc_run hix w2 R e1 fun G1 H1 q vs x1 hq gq h r1 => k _ G1 H1 (set_own R x1 hq gq h r1 i h0)
/-- x[k] = e of a list of one's own -/
theorem s_ixS {i : Nat} {rp : Pth} {sp : Pos} (hp : PL X o i rp) (he : E X e f) (hk : E X a k)
    (hpg : ∀ {to ti : TE}, PE X o to → PE X a ti → PG X (.Subscript o a sp) (gSub to ti rSetL) := by intro to ti ho h; exact pg_sub ho h set_list)
    (hs : swapsWithSole [.Subscript o a sp] e pos.line X.env = pure false := by rfl) (hw : swappedStores [.Subscript o a sp] e X.env = pure none := by rfl)
    (h1 : (assignEach [.Subscript o a sp] X.env).map (·.2) = [assign (.Subscript o a sp) X.env] := by rfl) : S X (.Assign [.Subscript o a sp] e pos) (sIxS i rp k f) := by
  obtain ⟨t, t1, t2⟩ := he.ex
  obtain ⟨u, u1, u2⟩ := hk.ex
  obtain ⟨w, w1, w2⟩ := hp.ex
  refine ⟨⟨_, ps_asg t1 (hpg w1 u1) hs hw h1, fun G0 H0 Z Γ σ G H D r R hf kk => ?_⟩⟩
  obtain ⟨d, e1, hf⟩ := obind hf
  obtain ⟨j, e2, hf⟩ := obind hf
  refine t2 G0 H0 Z Γ σ G H _ d R e1 fun G1 H1 v x1 r1 => ?_
  have R1 := R.ext x1
  cases q : gP i rp Γ with
  | none => rw [q] at hf; cases hf
  | some s1 =>
    rw [q] at hf
    cases s1 with
    | ow xs =>
      cases j with
      | int m =>
        replace hf : ((ixN xs.length m).bind fun m => upP i rp (.ow (xs.set m d)) Γ) = some r := hf
        obtain ⟨j, e3, hf⟩ := obind hf
        obtain ⟨s, s2, a1, a2, rfl⟩ := upP_some hf
        obtain ⟨s', b1, b2, b3⟩ := gP_some q (by simp [SlP])
        rw [a1] at b1
        cases b1
        refine w2 G0 H0 Z Γ σ G1 H1 G1 H1 _ s _ R1 (Ext.refl x1.gh) a1 b2 b3 (by simp) fun v0 pk => ?_
        refine u2 G0 H0 Z Γ σ G1 H1 _ _ R1 e2 fun G2 H2 w x2 r2 => ?_
        obtain ⟨F1, p1⟩ := pk G2 H2 x2
        obtain ⟨l, vs, rfl, d1, d2, d3⟩ := p1.list x2.gh
        rw [r2.intv]
        refine ⟨l, vs, m, j, rfl, rfl, d1, by rw [d2.length]; exact e3, ?_⟩
        exact kk σ G2 _ (d3 _ _ _ (d2.set j (r1.mono x2.gg)) a2)
      | _ => cases hf
    | _ => cases hf
end

/-! ### a def by its body -/
def runB (n : Nat) (F : Sm) : List D → Option D := fun ds => (F (ds.map Sl.sh ++ List.replicate (n - ds.length) .no)).bind fun r => match r with
  | .rt d => some d
  | .nx _ => some .non
  | _ => none
theorem start_get {N : Nat} {ds : List D} {i : Nat} {s : Sl} (h : (ds.map Sl.sh ++ List.replicate (N - ds.length) .no)[i]? = some s) : s = .no ∨ ∃ d, ds[i]? = some d ∧ s = .sh d := by
  by_cases hi : i < ds.length
  · rw [List.getElem?_append_left (by simpa using hi), List.getElem?_map, List.getElem?_eq_getElem hi] at h
    cases h
    exact .inr ⟨_, List.getElem?_eq_getElem hi, rfl⟩
  · rw [List.getElem?_append_right (by simpa using hi), List.getElem?_replicate] at h
    split at h
    · cases h; exact .inl rfl
    · cases h
theorem start_rel {K : PySem.W.Frag} {mg : Str → Option Value} {G H : Hp} {N : List Str} {vs : List V} {ds : List D} (gh : Same G H) (tb : TC.ti.t G H) (r : RepL K mg G vs ds) : Rel K mg G H ⟨TC.ti.tz, none, TC.ti⟩ (ds.map Sl.sh ++ List.replicate (N.length - ds.length) .no) (L2.start N vs) G H := by
  have hl := r.length
  unfold L2.start
  refine ⟨by simp [hl], gh, same_n (Same.refl _), Same.refl _, fun a h => .inl h, fun a z => (TC.ti.live tb a z).1, fun _ _ z => (by cases z), tb, fun _ h => h, rfl, fun _ h => h, fun _ _ => False, fun _ _ z => z.elim, fun _ _ _ z => z.elim, fun i s h => ?_⟩
  rcases start_get h with z | ⟨d, e1, rfl⟩
  · exact .inl z
  · obtain ⟨v, e2, e3⟩ := r.get i e1
    refine .inr (.inl ⟨v, ?_, .sh e3⟩)
    have hi : i < vs.length := (List.getElem?_eq_some_iff.mp e2).1
    rw [List.getElem?_append_left (by simpa using hi), List.getElem?_map, e2]
    rfl
section
variable {P : Program} {w : World} {K : PySem.W.Frag} {mg : Str → Option Value} {base : Heap}
theorem def_ok {x qual : Str} {st : Stmt} {f : Addr} {fd : FuncData} {N ps : List Str} {k : Nat} {B : Sm} (F : Fun K x qual st f fd) (S : FnScope N ps (defScope st))
    (hbody : ∀ (cdv : Value) (A : Around) (outer : List PySem.Env) (s : Shared) (H : Hp) (E : XK), Room k (A.deeper (PyProof.Rows.envOfC qual (defScope st) s.heap.objs.size f cdv)) →
      Ss (cxOf CX0 P w K mg base N qual (defScope st) f cdv A outer s H E).nox (defBody st) B) : FnOk P w K mg base CX0 (k + 1) f fd ps (spD K mg ps.length (runB N.length B)) := by
  refine F.ok S (fun vs H Q E h => ?_) (fun cdv A outer s H vs Q E hr h => ?_)
  · obtain ⟨G, ds, d, hl, _⟩ := h
    exact hl
  · obtain ⟨G, ds, d, hl, gh, tb, r, hf, k'⟩ := h
    obtain ⟨t, h1, h2⟩ := (hbody cdv A outer s H E hr).ex
    refine ⟨t, h1, ?_⟩
    obtain ⟨r1, e1, hf⟩ := obind hf
    refine h2 G H _ _ _ G H _ r1 (start_rel gh tb r) e1 ?_
    cases r1 with
    | rt d' => cases hf; exact fun G' H' v x r => k' G' H' v x r
    | nx Γ => cases hf; exact fun σ' G' H' R => k' G' H' _ R.end .non
    | rm d s => cases hf
    | ro s => cases hf
    | bk Γ => cases hf
    | ct Γ => cases hf
    | ra n => cases hf
/-- the value said in another way -/
theorem spD_imp {n : Nat} {F F' : List D → Option D} {f : Addr} {fd : FuncData} {ps : List Str} {k : Nat} (h : FnOk P w K mg base CX0 k f fd ps (spD K mg n F)) (hF : ∀ ds d, F' ds = some d → F ds = some d) : FnOk P w K mg base CX0 k f fd ps (spD K mg n F') :=
  h.imp fun vs H Q E ⟨G, ds, d, h1, h2, h3, h3', h4, h5⟩ => ⟨G, ds, d, h1, h2, h3, h3', hF ds d h4, h5⟩
end
end DL

namespace DL
open PySem L2
variable [TC : TabCtx]

/-! ### words for callers -/
structure Cal (P : Program) (w : World) (K : PySem.W.Frag) (mg : Str → Option Value) (base : Heap) (x : Str) (L : Nat) (ps : List Str) (S : List D → Option D) : Prop where
  ex : ∃ f fd, FnOk P w K mg base CX0 L f fd ps (spD K mg ps.length S) ∧ mg x = some (.ref f) ∧ PySem.W.keepIn K (.ref f) = true ∧ Binds K fd ps []
structure Met (P : Program) (w : World) (K : PySem.W.Frag) (mg : Str → Option Value) (base : Heap) (c : Nat) (m : Str) (L : Nat) (ps : List Str) (S : List D → Option D) : Prop where
  ex : ∃ C f fd, CK K mg c C ∧ Meth K C m f ∧ FnOk P w K mg base CX0 L f fd ps (spD K mg ps.length S) ∧ Binds K fd ps []
section
variable {X : Cx} {e a b o : Expr} {es : List Expr} {f g : Ex} {fs : Ag} {pos : Pos} {n : Nat}
theorem e_callC {k L : Nat} {ps : List Str} {S : List D → Option D} {x : Str} {p : Pos} (c : Cal X.prog X.w X.K X.mg X.base x L ps S) (hr : Room k X.A) (hk : L ≤ k)
    (ha : AN X (a :: es) ps.length fs) (hg : Gl X x := by rfl) (hdb : (x == ("__debug__" : Str)) = false := by decide) (he : starEach (a :: es) X.env = (false, eval a X.env) :: starEach es X.env := by rfl) (hpl : (backTo pos (starEach es X.env)).any (·.1) = false := by rfl) :
    E X (.Call (.Name x p) (a :: es) [] pos) (gCall S fs) := by
  obtain ⟨f, fd, h1, h2, h3, h4⟩ := c.ex
  exact e_call h1 (hr.mono hk) h2 h3 h4 ha hg hdb he hpl
theorem e_callC0 {k L : Nat} {S : List D → Option D} {x : Str} {p : Pos} (c : Cal X.prog X.w X.K X.mg X.base x L [] S) (hr : Room k X.A) (hk : L ≤ k)
    (hg : Gl X x := by rfl) (hdb : (x == ("__debug__" : Str)) = false := by decide) : E X (.Call (.Name x p) [] [] pos) (gCall S aN) := by
  obtain ⟨f, fd, h1, h2, h3, h4⟩ := c.ex
  exact e_call0 h1 (hr.mono hk) h2 h3 h4 hg hdb
theorem e_metC {pl : Sem Bool} {c k L : Nat} {p0 : Str} {ps : List Str} {S : List D → Option D} {m : Str} {apos : Pos} (mt : Met X.prog X.w X.K X.mg X.base c m L (p0 :: ps) S) (hr : Room k X.A) (hk : L ≤ k)
    (ho : E X o f) (ha : AN X (a :: es) ps.length fs) (hno : m ∉ cF c := by decide +kernel)
    (hst : starEach (a :: es) X.env = (false, eval a X.env) :: starEach es X.env := by rfl) (hpl : (backTo pos (starEach es X.env)).any (·.1) = false := by rfl)
    (ht : eval (.Call (.Attribute o m apos) (a :: es) [] pos) X.env = (do
      let ov ← eval o X.env
      standAt apos.atName
      let (f, first) ← holding [ov] (getMethod ov m pl)
      callWith pos f first (backTo pos (starEach (a :: es) X.env)) (backToKw pos (keywordEach [] X.env))) := by rfl) : E X (.Call (.Attribute o m apos) (a :: es) [] pos) (gMeth c S f fs) := by
  obtain ⟨C, fa, fd, h1, h2, h3, h4⟩ := mt.ex
  exact e_meth h1 h2 h3 (hr.mono hk) h4 ho ha hno hst hpl ht
theorem e_metC0 {pl : Sem Bool} {c k L : Nat} {p0 : Str} {S : List D → Option D} {m : Str} {apos : Pos} (mt : Met X.prog X.w X.K X.mg X.base c m L [p0] S) (hr : Room k X.A) (hk : L ≤ k)
    (ho : E X o f) (hno : m ∉ cF c := by decide +kernel)
    (ht : eval (.Call (.Attribute o m apos) [] [] pos) X.env = (do
      let ov ← eval o X.env
      standAt apos.atName
      let (f, first) ← holding [ov] (getMethod ov m pl)
      callWith pos f first (backTo pos (starEach [] X.env)) (backToKw pos (keywordEach [] X.env))) := by rfl) : E X (.Call (.Attribute o m apos) [] [] pos) (gMeth c S f aN) := by
  obtain ⟨C, fa, fd, h1, h2, h3, h4⟩ := mt.ex
  exact e_meth0 h1 h2 h3 (hr.mono hk) h4 ho hno ht
/-- y = [..], known to all -/
theorem s_setLcS (i : Nat) {y : Str} {py : Pos} {elt iter tg : Expr} {ifs : List Expr} {scope : Scope} {own : List (Str × Nat)} {it : Ag} {spos : Pos} {ix : List Nat} {g : Gs} {p : Te} (hc : X.calm = true) (hN : X.N.Nodup) (hi : IC X tg iter it) (ok : BlkOk X.N X.env.scope scope own) (hix : ∀ i ∈ ix, i ∈ own.map (·.2))
    (hg : ∀ (s : Shared) (H : Hp) (C : Addr) (cl : List (Str × Addr)) (fp : List Addr), G (X.blk s H scope (compEnvC scope cl C X.env) fp) tg ix g)
    (ht : ∀ (s : Shared) (H : Hp) (C : Addr) (cl : List (Str × Addr)) (fp : List Addr), Ts (X.blk s H scope (compEnvC scope cl C X.env) fp) ifs p)
    (he : ∀ (s : Shared) (H : Hp) (C : Addr) (cl : List (Str × Addr)) (fp : List Addr), E (X.blk s H scope (compEnvC scope cl C X.env) fp) elt f)
    (hy : X.N[i]? = some y := by rfl) (hyl : X.env.scope.names.lookup y = some .local := by rfl) (hsw : swapsWith (.ListComp elt [⟨tg, iter, ifs, 0⟩] scope pos) (some (.Name y py)) spos.line X.env = pure true := by exact sw_true rfl rfl rfl (by decide +kernel)) (hs : ∀ x, foldedSetIterable iter X.env x = pure x := by intro _; rfl) (h0 : i ≠ 0 := by decide) :
    S X (.Assign [.Name y py] (.ListComp elt [⟨tg, iter, ifs, 0⟩] scope pos) spos) (sSet i (gL (gLc (own.map (·.2)) it g p f))) := by
  obtain ⟨t, h1, h2⟩ := (s_setLc (f := f) (py := py) (spos := spos) (pos := pos) i hc hN hi ok hix hg ht he hy hyl hsw hs h0).ex
  refine ⟨⟨t, h1, fun G0 H0 Z Γ σ G H D r R hf k => ?_⟩⟩
  obtain ⟨d, e1, hf⟩ := obind hf
  obtain ⟨ds, e2, e1⟩ := obind e1
  cases e1
  cases hf
  refine h2 G0 H0 Z Γ σ G H D (.nx (Γ.set i (.ow ds))) R (by show (gLc _ _ _ _ _ Γ).bind _ = _; rw [e2]; rfl) fun σ1 G1 H1 R1 => ?_
  by_cases hi : i < Γ.length
  · have q : (Γ.set i (.ow ds))[i]? = some (.ow ds) := by simp [hi]
    obtain ⟨G2, R2, _⟩ := R1.frzP (rp := []) (d := .lst ds) q rfl (by simp) (by simp [SlP]) rfl rfl
    rw [List.set_set] at R2
    exact k σ1 G2 H1 R2
  · have e : ∀ s, Γ.set i s = Γ := fun s => List.set_eq_of_length_le (by omega)
    rw [e] at R1
    refine k σ1 G1 H1 ?_
    rw [e]
    exact R1
theorem v_notT (h : B X e f) : V1 X (.UnaryOp .Not e pos) (gNot (gTru f)) := by
  obtain ⟨t, h1, h2⟩ := h.ex
  refine ⟨⟨⟨_, pe_notT h1, fun G0 H0 Z Γ σ G H Q c R hf k => ?_⟩⟩⟩
  obtain ⟨d0, e0, hf⟩ := obind hf
  cases hf
  obtain ⟨d1, e1, hf⟩ := obind e0
  cases hf
  obtain ⟨d2, e2, hf⟩ := obind e1
  refine h2 G0 H0 Z Γ σ G H _ _ R e2 fun G' H' v x r => ?_
  have z := dTru_ok x.gh hf r
  exact ⟨d1, z, k G' H' _ x (.bl _)⟩
end
theorem boot_len' : bootBuiltins "len" = some (.builtin "len") := PySem.boot_len
theorem boot_abs' : bootBuiltins "abs" = some (.builtin "abs") := by decide +kernel
theorem boot_max' : bootBuiltins "max" = some (.builtin "max") := by decide +kernel
theorem boot_min' : bootBuiltins "min" = some (.builtin "min") := by decide +kernel
theorem boot_sum' : bootBuiltins "sum" = some (.builtin "sum") := by decide +kernel
theorem boot_all' : bootBuiltins "all" = some (.builtin "all") := by decide +kernel
theorem boot_any' : bootBuiltins "any" = some (.builtin "any") := by decide +kernel
theorem boot_sorted' : bootBuiltins "sorted" = some (.builtin "sorted") := by decide +kernel
theorem boot_isinstance' : bootBuiltins "isinstance" = some (.builtin "isinstance") := by decide +kernel
theorem boot_int' : bootBuiltins "int" = some (.type "int") := by decide +kernel
theorem boot_list' : bootBuiltins "list" = some (.type "list") := by decide +kernel
theorem boot_bool' : bootBuiltins "bool" = some (.type "bool") := by decide +kernel
theorem boot_tuple' : bootBuiltins "tuple" = some (.type "tuple") := by decide +kernel
theorem boot_str' : bootBuiltins "str" = some (.type "str") := by decide +kernel
end DL

namespace DL
open PySem L2
variable [TC : TabCtx]

/-! ### reckoning a meaning step by step -/
section
variable {Γ Γ1 Γ2 : DEnv} {f g k : Ex} {fs : Ag} {p q : Te} {F F' F'' : Sm} {d x y z : D} {ds : List D} {b c : Bool} {r : Option Res} {o : D → D → Option D} {u : D → Option D} {i n : Nat} {m j : Int}
theorem ev_V (h : Γ[i]? = some (.sh d)) : gV i Γ = some d := by unfold gV; rw [h]
theorem ev_B (h : Γ[i]? = some (.sh d)) : gB i Γ = some d := by unfold gB; rw [h]
theorem ev_Bo {xs : List D} (h : Γ[i]? = some (.ow xs)) : gB i Γ = some (.lst xs) := by unfold gB; rw [h]
theorem ev_I : gI m Γ = some (.int m) := rfl
theorem ev_C : gC d Γ = some d := rfl
theorem ev_op (h1 : f Γ = some x) (h2 : g Γ = some y) (h3 : o x y = some d) : gOp o f g Γ = some d := by unfold gOp; rw [h1]; show (g Γ).bind _ = _; rw [h2]; exact h3
theorem ev_U (h1 : f Γ = some x) (h2 : u x = some d) : gU u f Γ = some d := by unfold gU; rw [h1]; exact h2
theorem ev_call {S : List D → Option D} (h1 : fs Γ = some ds) (h2 : S ds = some d) : gCall S fs Γ = some d := by unfold gCall; rw [h1]; exact h2
theorem ev_A {S : List D → Option D} (h1 : fs Γ = some ds) (h2 : S ds = some d) : gA S fs Γ = some d := by unfold gA; rw [h1]; exact h2
theorem ev_cs (h1 : f Γ = some d) (h2 : fs Γ = some ds) : aC f fs Γ = some (d :: ds) := by unfold aC; rw [h1]; show (fs Γ).bind _ = _; rw [h2]; rfl
theorem ev_nl : aN Γ = some [] := rfl
theorem ev_tu (h : fs Γ = some ds) : gTu n fs Γ = some (.tup ds) := by unfold gTu; rw [h]; rfl
theorem ev_L (h : fs Γ = some ds) : gL fs Γ = some (.lst ds) := by unfold gL; rw [h]; rfl
theorem ev_UL {u : D → Option (List D)} (h1 : f Γ = some x) (h2 : u x = some ds) : gUL u f Γ = some ds := by unfold gUL; rw [h1]; exact h2
theorem ev_Sl {fl fh : Op} {l h : Option Int} (h1 : f Γ = some x) (h2 : fl Γ = some l) (h3 : fh Γ = some h) (h4 : dCut x l h = some ds) : gSl f fl fh Γ = some ds := by unfold gSl; rw [h1]; show (fl Γ).bind _ = _; rw [h2]; show (fh Γ).bind _ = _; rw [h3]; exact h4
theorem ev_No : gNo Γ = some none := rfl
theorem ev_So (h : f Γ = some (.int m)) : gSo f Γ = some (some m) := by unfold gSo; rw [h]; rfl
theorem ev_meth {c : Nat} {S : List D → Option D} {vs : List D} (h1 : f Γ = some (.obj c vs)) (h2 : fs Γ = some ds) (h3 : S (.obj c vs :: ds) = some d) : gMeth c S f fs Γ = some d := by
  unfold gMeth; rw [h1]; show (if c = c then (fs Γ).bind fun ds => S (.obj c vs :: ds) else none) = _
  rw [if_pos rfl, h2]; exact h3
theorem ev_T (h : f Γ = some (.bl b)) : gT f Γ = some b := by unfold gT; rw [h]; rfl
theorem ev_Tru (h1 : f Γ = some x) (h2 : dTru x = some b) : gTru f Γ = some b := by unfold gTru; rw [h1]; exact h2
theorem ev_not (h : p Γ = some b) : gNot p Γ = some (!b) := by unfold gNot; rw [h]; rfl
theorem ev_and (h1 : p Γ = some b) (h2 : q Γ = some c) : gAnd p q Γ = some (b && c) := by unfold gAnd; rw [h1]; cases b <;> first | exact h2 | rfl
/-- the right one is asked only if the left one is true -/
theorem ev_andT (h1 : p Γ = some b) (h2 : b = true → q Γ = some c) : gAnd p q Γ = some (b && c) := by unfold gAnd; rw [h1]; cases b <;> first | exact h2 rfl | rfl
theorem ev_andF (h1 : p Γ = some false) : gAnd p q Γ = some false := by unfold gAnd; rw [h1]; rfl
theorem ev_or (h1 : p Γ = some b) (h2 : q Γ = some c) : gOr p q Γ = some (b || c) := by unfold gOr; rw [h1]; cases b <;> first | exact h2 | rfl
theorem ev_orF (h1 : p Γ = some b) (h2 : b = false → q Γ = some c) : gOr p q Γ = some (b || c) := by unfold gOr; rw [h1]; cases b <;> first | exact h2 rfl | rfl
theorem ev_orT (h1 : p Γ = some true) : gOr p q Γ = some true := by unfold gOr; rw [h1]; rfl
theorem ev_bl (h : p Γ = some b) : gBl p Γ = some (.bl b) := by unfold gBl; rw [h]; rfl
theorem ev_if (h1 : p Γ = some b) (h2 : b = true → f Γ = some d) (h3 : b = false → g Γ = some d) : gIf p f g Γ = some d := by unfold gIf; rw [h1]; cases b <;> first | exact h2 rfl | exact h3 rfl
theorem ev_ch {ch : D → Te} (h1 : f Γ = some x) (h2 : ch x Γ = some b) : gCh f ch Γ = some b := by unfold gCh; rw [h1]; exact h2
theorem ev_ch1 (h1 : f Γ = some y) (h2 : o x y = some (.bl b)) : gCh1 o f x Γ = some b := by unfold gCh1; rw [h1]; show dB (o x y) = _; rw [h2]; rfl
theorem ev_chn {ch : D → Te} (h1 : f Γ = some y) (h2 : o x y = some (.bl b)) (h3 : ch y Γ = some c) : gChn o f ch x Γ = some (b && c) := by
  unfold gChn; rw [h1]; show (dB (o x y)).bind _ = _; rw [h2]; show (if b = true then ch y Γ else some false) = _
  cases b <;> first | exact h3 | rfl
theorem ev_chnT {ch : D → Te} (h1 : f Γ = some y) (h2 : o x y = some (.bl b)) (h3 : b = true → ch y Γ = some c) : gChn o f ch x Γ = some (b && c) := by
  unfold gChn; rw [h1]; show (dB (o x y)).bind _ = _; rw [h2]; show (if b = true then ch y Γ else some false) = _
  cases b <;> first | exact h3 rfl | rfl
/-! statements -/
theorem sv_run {N : Nat} {B : Sm} (h : B (ds.map Sl.sh ++ List.replicate (N - ds.length) .no) = some (.rt d)) : runB N B ds = some d := by unfold runB; rw [h]; rfl
theorem sv_runN {N : Nat} {B : Sm} (h : B (ds.map Sl.sh ++ List.replicate (N - ds.length) .no) = some (.nx Γ)) : runB N B ds = some .non := by unfold runB; rw [h]; rfl
theorem sv_nx (h : F Γ = some (.nx Γ1)) (k : F' Γ1 = r) : sSeq F F' Γ = r := by unfold sSeq; rw [h]; exact k
theorem sv_rt (h : F Γ = some (.rt d)) : sSeq F F' Γ = some (.rt d) := by unfold sSeq; rw [h]; rfl
theorem sv_bk (h : F Γ = some (.bk Γ1)) : sSeq F F' Γ = some (.bk Γ1) := by unfold sSeq; rw [h]; rfl
theorem sv_ct (h : F Γ = some (.ct Γ1)) : sSeq F F' Γ = some (.ct Γ1) := by unfold sSeq; rw [h]; rfl
theorem sv_set (h : f Γ = some d) : sSet i f Γ = some (.nx (Γ.set i (.sh d))) := by unfold sSet; rw [h]; rfl
theorem sv_setO (h : fs Γ = some ds) : sSetO i fs Γ = some (.nx (Γ.set i (.ow ds))) := by unfold sSetO; rw [h]; rfl
theorem sv_exp (h : f Γ = some d) : sExp f Γ = some (.nx Γ) := by unfold sExp; rw [h]; rfl
theorem sv_ret (h : f Γ = some d) : sRet f Γ = some (.rt d) := by unfold sRet; rw [h]; rfl
theorem sv_unp {gs : Gs} (h : f Γ = some d) (h2 : gs d Γ = some Γ1) : sUnp gs f Γ = some (.nx Γ1) := by unfold sUnp; rw [h]; show (gs d Γ).bind _ = _; rw [h2]; rfl
theorem sv_par {is : List Nat} (h : fs Γ = some ds) : sPar is fs Γ = some (.nx ((is.zip ds).foldl (fun Γ p => Γ.set p.1 (.sh p.2)) Γ)) := by unfold sPar; rw [h]; rfl
theorem sv_if (h : p Γ = some b) (h1 : b = true → F Γ = r) (h2 : b = false → F' Γ = r) : sIf p F F' Γ = r := by unfold sIf; rw [h]; cases b <;> first | exact h1 rfl | exact h2 rfl
theorem sv_ifT (h : p Γ = some true) (h1 : F Γ = r) : sIf p F F' Γ = r := sv_if h (fun _ => h1) (fun e => nomatch e)
theorem sv_ifF (h : p Γ = some false) (h1 : F' Γ = r) : sIf p F F' Γ = r := sv_if h (fun e => nomatch e) (fun _ => h1)
/-- an if in a row of statements: both ways go on by themselves -/
theorem sv_ifS (h : p Γ = some b) (h1 : b = true → sSeq F F'' Γ = r) (h2 : b = false → sSeq F' F'' Γ = r) : sSeq (sIf p F F') F'' Γ = r := by
  unfold sSeq sIf; rw [h]
  cases b
  · exact h2 rfl
  · exact h1 rfl
theorem sv_nil : sNil Γ = some (.nx Γ) := rfl
theorem sv_nilS : sSeq sNil F Γ = F Γ := rfl
theorem sv_seqA : sSeq (sSeq F F') F'' Γ = sSeq F (sSeq F' F'') Γ := by
  unfold sSeq
  cases F Γ with
  | none => rfl
  | some r => cases r <;> rfl
theorem sv_app {rp : Pth} {xs : List D} {s s2 : Sl} (h : f Γ = some d) (h0 : Γ[i]? = some s) (h1 : getR rp s = some (.ow xs)) (h2 : xs.length < 1000000) (h3 : setR rp (.ow (xs ++ [d])) s = some s2) : sApp i rp f Γ = some (.nx (Γ.set i s2)) := by
  unfold sApp; rw [h]
  show (match gP i rp Γ with | some (.ow xs) => if xs.length < 1000000 then upP i rp (.ow (xs ++ [d])) Γ else none | _ => none) = _
  have e : gP i rp Γ = some (.ow xs) := by unfold gP; rw [h0]; exact h1
  rw [e]; show (if xs.length < 1000000 then upP i rp (.ow (xs ++ [d])) Γ else none) = _
  rw [if_pos h2]; unfold upP; rw [h0]; show (setR rp (.ow (xs ++ [d])) s).bind _ = _; rw [h3]; rfl
theorem sv_app0 {xs : List D} (h : f Γ = some d) (h1 : Γ[i]? = some (.ow xs)) (h2 : xs.length < 1000000) : sApp i [] f Γ = some (.nx (Γ.set i (.ow (xs ++ [d])))) := sv_app h h1 rfl h2 rfl
theorem sv_aug (h1 : Γ[i]? = some (.sh x)) (h2 : f Γ = some y) (h3 : o x y = some d) : sAug o i f Γ = some (.nx (Γ.set i (.sh d))) := by
  unfold sAug; rw [ev_V h1]; show (f Γ).bind _ = _; rw [h2]; show (o x y).bind _ = _; rw [h3]; rfl
theorem sv_frz (h : F (frzE i Γ) = r) : sFrz i F Γ = r := h
theorem sv_for {it : Ag} {gs : Gs} (h : it Γ = some ds) (h2 : forL gs F ds Γ = r) : sFor it gs F Γ = r := by unfold sFor; rw [h]; exact h2
/-! .. in a row -/
theorem sq_set (h : f Γ = some d) (k : F' (Γ.set i (.sh d)) = r) : sSeq (sSet i f) F' Γ = r := sv_nx (sv_set h) k
theorem sq_setO (h : fs Γ = some ds) (k : F' (Γ.set i (.ow ds)) = r) : sSeq (sSetO i fs) F' Γ = r := sv_nx (sv_setO h) k
theorem sq_exp (h : f Γ = some d) (k : F' Γ = r) : sSeq (sExp f) F' Γ = r := sv_nx (sv_exp h) k
theorem sq_unp {gs : Gs} (h : f Γ = some d) (h2 : gs d Γ = some Γ1) (k : F' Γ1 = r) : sSeq (sUnp gs f) F' Γ = r := sv_nx (sv_unp h h2) k
theorem sq_par {is : List Nat} (h : fs Γ = some ds) (k : F' ((is.zip ds).foldl (fun Γ p => Γ.set p.1 (.sh p.2)) Γ) = r) : sSeq (sPar is fs) F' Γ = r := sv_nx (sv_par h) k
theorem sq_app {xs : List D} (h : f Γ = some d) (h1 : Γ[i]? = some (.ow xs)) (h2 : xs.length < 1000000) (k : F' (Γ.set i (.ow (xs ++ [d]))) = r) : sSeq (sApp i [] f) F' Γ = r := sv_nx (sv_app0 h h1 h2) k
theorem sq_aug (h1 : Γ[i]? = some (.sh x)) (h2 : f Γ = some y) (h3 : o x y = some d) (k : F' (Γ.set i (.sh d)) = r) : sSeq (sAug o i f) F' Γ = r := sv_nx (sv_aug h1 h2 h3) k
theorem sq_frz (h : sSeq F F' (frzE i Γ) = r) : sSeq (sFrz i F) F' Γ = r := h
theorem sq_nil (h : F Γ = r) : sSeq sNil F Γ = r := h
theorem sq_ret (h : f Γ = some d) : sSeq (sRet f) F Γ = some (.rt d) := sv_rt (sv_ret h)
/-- an if that sets one name on each way -/
theorem sq_ifV {P : D → Prop} (h : p Γ = some b) (h1 : b = true → ∃ d, P d ∧ F Γ = some (.nx (Γ.set i (.sh d)))) (h2 : b = false → ∃ d, P d ∧ F' Γ = some (.nx (Γ.set i (.sh d)))) (k : ∀ d, P d → F'' (Γ.set i (.sh d)) = r) : sSeq (sIf p F F') F'' Γ = r := by
  cases b with
  | true => obtain ⟨d, hd, e⟩ := h1 rfl; exact sv_nx (sv_ifT h e) (k d hd)
  | false => obtain ⟨d, hd, e⟩ := h2 rfl; exact sv_nx (sv_ifF h e) (k d hd)
theorem sq_ifX {Q : DEnv → Prop} (h : p Γ = some b) (h1 : b = true → ∃ Γ', Q Γ' ∧ F Γ = some (.nx Γ')) (h2 : b = false → ∃ Γ', Q Γ' ∧ F' Γ = some (.nx Γ')) (k : ∀ Γ', Q Γ' → F'' Γ' = r) : sSeq (sIf p F F') F'' Γ = r := by
  cases b with
  | true => obtain ⟨d, hd, e⟩ := h1 rfl; exact sv_nx (sv_ifT h e) (k d hd)
  | false => obtain ⟨d, hd, e⟩ := h2 rfl; exact sv_nx (sv_ifF h e) (k d hd)
/-- a test that is false, nothing is done -/
theorem sq_ifN (h : p Γ = some b) (hb : b = false) (k : F'' Γ = r) : sSeq (sIf p F sNil) F'' Γ = r := sv_nx (sv_ifF (by rw [h, hb]) rfl) k
theorem sv_ifN (h : p Γ = some b) (hb : b = false) : sIf p F sNil Γ = some (.nx Γ) := sv_ifF (by rw [h, hb]) rfl
/-! loops -/
theorem forL_nil {gs : Gs} : forL gs F [] Γ = some (.nx Γ) := rfl
theorem forL_nx {gs : Gs} (h : gs d Γ = some Γ1) (h2 : F Γ1 = some (.nx Γ2)) (k : forL gs F ds Γ2 = r) : forL gs F (d :: ds) Γ = r := by
  show (gs d Γ).bind _ = _; rw [h]; show (F Γ1).bind _ = _; rw [h2]; exact k
theorem forL_ct {gs : Gs} (h : gs d Γ = some Γ1) (h2 : F Γ1 = some (.ct Γ2)) (k : forL gs F ds Γ2 = r) : forL gs F (d :: ds) Γ = r := by
  show (gs d Γ).bind _ = _; rw [h]; show (F Γ1).bind _ = _; rw [h2]; exact k
theorem forL_rt {gs : Gs} (h : gs d Γ = some Γ1) (h2 : F Γ1 = some (.rt x)) : forL gs F (d :: ds) Γ = some (.rt x) := by
  show (gs d Γ).bind _ = _; rw [h]; show (F Γ1).bind _ = _; rw [h2]; rfl
theorem forL_bk {gs : Gs} (h : gs d Γ = some Γ1) (h2 : F Γ1 = some (.bk Γ2)) : forL gs F (d :: ds) Γ = some (.nx Γ2) := by
  show (gs d Γ).bind _ = _; rw [h]; show (F Γ1).bind _ = _; rw [h2]; rfl
/-- a loop that is not left, by its invariant -/
theorem forL_inv {gs : Gs} (Iv : List D → DEnv → Prop) (hs : ∀ d ds Γ, Iv (d :: ds) Γ → ∃ Γ1 Γ2, gs d Γ = some Γ1 ∧ (F Γ1 = some (.nx Γ2) ∨ F Γ1 = some (.ct Γ2)) ∧ Iv ds Γ2) : ∀ (ds : List D) (Γ : DEnv), Iv ds Γ → ∃ Γ', forL gs F ds Γ = some (.nx Γ') ∧ Iv [] Γ'
  | [], Γ, h => ⟨Γ, rfl, h⟩
  | d :: ds, Γ, h => by
    obtain ⟨Γ1, Γ2, h1, h2, h3⟩ := hs d ds Γ h
    obtain ⟨Γ', h4, h5⟩ := forL_inv Iv hs ds Γ2 h3
    rcases h2 with h2 | h2
    · exact ⟨Γ', forL_nx h1 h2 h4, h5⟩
    · exact ⟨Γ', forL_ct h1 h2 h4, h5⟩
theorem compL_nil {gs : Gs} : compL gs p f [] Γ = some [] := rfl
/-- a comprehension without a test: each item by itself -/
theorem compL_map {gs : Gs} {α : Type} (xs : List α) (u v : α → D) (h : ∀ a ∈ xs, ∃ Γ1, gs (u a) Γ = some Γ1 ∧ f Γ1 = some (v a)) : compL gs gYes f (xs.map u) Γ = some (xs.map v) := by
  induction xs with
  | nil => rfl
  | cons a xs ih =>
    obtain ⟨Γ1, h1, h2⟩ := h a List.mem_cons_self
    rw [List.map_cons, List.map_cons]
    show (gs (u a) Γ).bind _ = _
    rw [h1]
    show (f Γ1).bind _ = _
    rw [h2]
    show (compL gs gYes f (xs.map u) Γ).bind _ = _
    rw [ih fun b hb => h b (List.mem_cons_of_mem _ hb)]
    rfl
/-- .. with a test -/
theorem compL_filter {gs : Gs} {α : Type} (xs : List α) (u v : α → D) (t : α → Bool) (h : ∀ a ∈ xs, ∃ Γ1, gs (u a) Γ = some Γ1 ∧ p Γ1 = some (t a) ∧ (t a = true → f Γ1 = some (v a))) : compL gs p f (xs.map u) Γ = some ((xs.filter t).map v) := by
  induction xs with
  | nil => rfl
  | cons a xs ih =>
    obtain ⟨Γ1, h1, h2, h3⟩ := h a List.mem_cons_self
    have ih := ih fun b hb => h b (List.mem_cons_of_mem _ hb)
    rw [List.map_cons]
    show (gs (u a) Γ).bind _ = _
    rw [h1]
    show (p Γ1).bind _ = _
    rw [h2]
    cases e : t a with
    | true =>
      show (f Γ1).bind _ = _
      rw [h3 e]
      show (compL gs p f (xs.map u) Γ).bind _ = _
      rw [ih, List.filter_cons_of_pos e]
      rfl
    | false =>
      show compL gs p f (xs.map u) Γ = _
      rw [ih, List.filter_cons_of_neg (by rw [e]; simp)]
theorem ev_lc {own : List Nat} {it : Ag} {gs : Gs} {ds' : List D} (h : it Γ = some ds) (hl : ds.length < 1000000) (h2 : compL gs p f ds (wipeE Γ own) = some ds') : gLc own it gs p f Γ = some ds' := by
  unfold gLc; rw [h]; show (if ds.length < 1000000 then compL gs p f ds (wipeE Γ own) else none) = _
  rw [if_pos hl]; exact h2
theorem ev_it (h : f Γ = some (.lst ds)) : gIt f Γ = some ds := by unfold gIt; rw [h]; rfl
theorem ev_itT (h : f Γ = some (.tup ds)) : gIt f Γ = some ds := by unfold gIt; rw [h]; rfl
theorem ev_itS {ns : List Int} (h : f Γ = some (.scr ns)) : gIt f Γ = some (ns.map D.int) := by unfold gIt; rw [h]; rfl
theorem ev_rng1 (h : fs Γ = some [.int m]) (h1 : -(2 ^ 62) ≤ m) (h2 : m < 2 ^ 62) : gRng fs Γ = some (rngD 0 m.toNat) := by
  unfold gRng; rw [h]; show (if -(2 ^ 62) ≤ m ∧ m < 2 ^ 62 then some (rngD 0 m.toNat) else none) = _; rw [if_pos ⟨h1, h2⟩]
theorem ev_rng2 (h : fs Γ = some [.int m, .int j]) (h1 : -(2 ^ 62) ≤ m) (h2 : m < 2 ^ 62) (h3 : -(2 ^ 62) ≤ j) (h4 : j < 2 ^ 62) : gRng fs Γ = some (rngD m (j - m).toNat) := by
  unfold gRng; rw [h]; show (if -(2 ^ 62) ≤ m ∧ m < 2 ^ 62 ∧ -(2 ^ 62) ≤ j ∧ j < 2 ^ 62 then some (rngD m (j - m).toNat) else none) = _; rw [if_pos ⟨h1, h2, h3, h4⟩]
theorem d_all {bs : List Bool} : dAll (.lst (bs.map D.bl)) = some (.bl (bs.all id)) := by show (bls? (bs.map D.bl)).bind _ = _; rw [bls?_map]; rfl
theorem d_any {bs : List Bool} : dAny (.lst (bs.map D.bl)) = some (.bl (bs.any id)) := by show (bls? (bs.map D.bl)).bind _ = _; rw [bls?_map]; rfl
theorem d_sum {ns : List Int} : dSum (.lst (ns.map D.int)) = some (.int ns.sum) := by show (ints? (ns.map D.int)).bind _ = _; rw [ints?_map]; rfl
theorem d_max {ns : List Int} (h : ns ≠ []) : dMax (.lst (ns.map D.int)) = some (.int (maxI ns)) := by show (ints? (ns.map D.int)).bind _ = _; rw [ints?_map]; cases ns with | nil => exact absurd rfl h | cons => rfl
theorem d_min {ns : List Int} (h : ns ≠ []) : dMin (.lst (ns.map D.int)) = some (.int (minI ns)) := by show (ints? (ns.map D.int)).bind _ = _; rw [ints?_map]; cases ns with | nil => exact absurd rfl h | cons => rfl
theorem d_sorted {ns : List Int} : dSorted (.lst (ns.map D.int)) = some ((srt ns).map D.int) := by show (ints? (ns.map D.int)).bind _ = _; rw [ints?_map]; rfl
/-! data -/
theorem d_add : dAdd (.int m) (.int j) = some (.int (m + j)) := rfl
theorem d_sub : dSub (.int m) (.int j) = some (.int (m - j)) := rfl
theorem mulOk_l (h1 : -(2 ^ 64) < m) (h2 : m < 2 ^ 64) : mulOk m j = true := by
  have h := intBits_le_64 h1 h2
  have h' : ¬ (Builtin.Int.intBits m > shortFactorBits) := Nat.not_lt.mpr h
  unfold mulOk
  rw [decide_eq_false h']
  rfl
theorem mulOk_r (h1 : -(2 ^ 64) < j) (h2 : j < 2 ^ 64) : mulOk m j = true := by
  have h := intBits_le_64 h1 h2
  have h' : ¬ (Builtin.Int.intBits j > shortFactorBits) := Nat.not_lt.mpr h
  unfold mulOk
  rw [decide_eq_false h', Bool.and_false]
  rfl
theorem d_mul (h : mulOk m j = true) : dMul (.int m) (.int j) = some (.int (m * j)) := by show (if mulOk m j = true then some (D.int (m * j)) else none) = _; rw [if_pos h]
theorem d_div (h : 0 < j) (h2 : j.natAbs.log2 < 9000) : dDiv (.int m) (.int j) = some (.int (m / j)) := by show (if 0 < j ∧ j.natAbs.log2 < 9000 then some (D.int (m / j)) else none) = _; rw [if_pos ⟨h, h2⟩]
theorem log_of {k : Nat} (h : j.natAbs < 2 ^ k) (hk : 0 < k) (h9 : k ≤ 9000) : j.natAbs.log2 < 9000 := Nat.lt_of_lt_of_le (PySem.Flt.log2_lt_of hk h) h9
theorem d_mod (h : 0 < j) : dMod (.int m) (.int j) = some (.int (m % j)) := by show (if 0 < j then some (D.int (m % j)) else none) = _; rw [if_pos h]
theorem d_pow (h : 0 ≤ j ∧ j ≤ 1000000 ∧ m.natAbs < 2 ^ 64) : dPow (.int m) (.int j) = some (.int (m ^ j.toNat)) := by show (if 0 ≤ j ∧ j ≤ 1000000 ∧ m.natAbs < 2 ^ 64 then some (D.int (m ^ j.toNat)) else none) = _; rw [if_pos h]
theorem d_eq {bb : Bool} (h1 : eqOk x = true) (h2 : eqOk y = true) (h : eqd x y = bb) : dEq x y = some (.bl bb) := by unfold dEq; rw [h1, h2]; show some (D.bl (eqd x y)) = _; rw [h]
theorem d_ne {bb : Bool} (h1 : eqOk x = true) (h2 : eqOk y = true) (h : eqd x y = bb) : dNe x y = some (.bl (!bb)) := by unfold dNe; rw [h1, h2]; show some (D.bl (!eqd x y)) = _; rw [h]
theorem eqd_int : eqd (.int m) (.int j) = (m == j) := by unfold eqd toPy; rfl
theorem eqd_bl {a b : Bool} : eqd (.bl a) (.bl b) = (a == b) := by unfold eqd toPy; rfl
theorem eqOk_int : eqOk (.int m) = true := by unfold eqOk pyOk toPy; rfl
theorem eqOk_bl : eqOk (.bl b) = true := by unfold eqOk pyOk toPy; rfl
theorem eqOk_non : eqOk .non = true := by unfold eqOk pyOk toPy; rfl
theorem d_lenL {xs : List D} : dLen (.lst xs) = some (.int xs.length) := rfl
theorem d_lenS {ns : List Int} : dLen (.scr ns) = some (.int ns.length) := rfl
theorem d_ixL {xs : List D} {k : Nat} (h : xs[k]? = some d) : dIx (.lst xs) (.int (k : Nat)) = some d := atI_nat h
end
end DL

namespace DL
open PySem L2
variable [TC : TabCtx]

/-! ### zip of three lists -/
def Itz3 (K : PySem.W.Frag) (a b c : Addr) : It :=
  ⟨fun i H => ∃ (xs ys zs : List V) (x y z : V), SqL K H a xs ∧ SqL K H b ys ∧ SqL K H c zs ∧ xs[i]? = some x ∧ ys[i]? = some y ∧ zs[i]? = some z,
    fun i H v H' => ∃ T x y z, v = .ref T ∧ H T = none ∧ H' = upd H T (.tup [x, y, z]) ∧ (∀ xs, SqL K H a xs → xs[i]? = some x) ∧ (∀ ys, SqL K H b ys → ys[i]? = some y) ∧ ∀ zs, SqL K H c zs → zs[i]? = some z,
    fun i H => ∃ xs ys zs : List V, SqL K H a xs ∧ SqL K H b ys ∧ SqL K H c zs ∧ (xs.length ≤ i ∨ ys.length ≤ i ∨ zs.length ≤ i)⟩
/-- a list's iterator at i, as one that draws: up to the list's end, or not at all -/
theorem draws_at {prog : Program} {w : World} {A : Around} (hh : A.handled = none) (it l : Addr) (hne : l ≠ it) (items : Array Value) (i : Nat) :
    ∃ n P St, Draws prog w A it [it, l] n P St ∧ i ≤ n ∧ (items.size ≤ i → i = n) ∧ ∀ h : Heap, h.IsListIter it l i → h.IsList l items → St i h := by
  by_cases hi : i < items.size
  · exact ⟨_, _, _, Draws.list hh it l hne items, by omega, fun z => by omega, fun h a b => ⟨a, b⟩⟩
  · refine ⟨i, fun _ _ => False, fun j h => j = i ∧ h.IsListIter it l i ∧ h.IsList l items, ⟨fun _ _ st => let ⟨o, ho, _⟩ := st.2.1; ⟨o, ho⟩, fun _ _ _ st hk => ⟨st.1, st.2.1.at fun o e => hk it (by simp) o e, st.2.2.at fun o e => hk l (by simp) o e⟩, fun j s Q E hj st hQ => absurd st.1 (by omega), fun s Q E st hE => ?_⟩, Nat.le_refl _, fun _ => rfl, fun h a b => ⟨rfl, a, b⟩⟩
    exact wpAny_nextOf_list_end hh st.2.1 st.2.2 (by simp; omega) hE
theorem turn_zip3 {P : Program} {w : World} {K : PySem.W.Frag} {elts : List Expr} {kk : Nat} {tpos : Pos} {a b c z TI TO i1 i2 i3 : Addr} (D : ZipSep3 z TI TO i1 i2 i3 [i1, a] [i2, b] [i3, c]) (na : a ≠ i1) (nb : b ≠ i2) (nc : c ≠ i3) :
    Turn P w K (.Tuple elts kk tpos) (Itz3 K a b c) [z, TI, TO, i1, i2, i3] z (fun i h => IsZip h z TI TO .none ∧ IsTupOf3 h TI (.ref i1) (.ref i2) (.ref i3) ∧ (∃ x y u, IsTupOf3 h TO x y u) ∧ h.IsListIter i1 a i ∧ h.IsListIter i2 b i ∧ h.IsListIter i3 c i) where
  mem := by simp
  obj := fun i h st q hq => by
    obtain ⟨hz, hTI, ⟨x, y, u, hTO⟩, ⟨o1, e1, _, d1⟩, ⟨o2, e2, _, d2⟩, ⟨o3, e3, _, d3⟩⟩ := st
    have e' : q = z ∨ q = TI ∨ q = TO ∨ q = i1 ∨ q = i2 ∨ q = i3 := by simpa using hq
    rcases e' with q | q | q | q | q | q
    · rw [q]; exact ⟨_, hz, fun v q => nomatch q⟩
    · rw [q]; exact ⟨_, hTI, fun v q => nomatch q⟩
    · rw [q]; exact ⟨_, hTO, fun v q => nomatch q⟩
    · rw [q]; exact ⟨o1, e1, fun v q => by rw [d1] at q; cases q⟩
    · rw [q]; exact ⟨o2, e2, fun v q => by rw [d2] at q; cases q⟩
    · rw [q]; exact ⟨o3, e3, fun v q => by rw [d3] at q; cases q⟩
  keep := fun i h h' st k => by
    obtain ⟨hz, hTI, ⟨x, y, u, hTO⟩, h1, h2, h3⟩ := st
    exact ⟨k z (by simp) _ hz, k TI (by simp) _ hTI, ⟨x, y, u, k TO (by simp) _ hTO⟩, h1.at fun o q => k i1 (by simp) o q, h2.at fun o q => k i2 (by simp) o q, h3.at fun o q => k i3 (by simp) o q⟩
  item := by
    intro X hP hw hK hc i pins s σ H E I hf st hg
    subst hP hw hK
    obtain ⟨hz, hTI, ⟨x0, y0, u0, hTO⟩, h1, h2, h3⟩ := st
    obtain ⟨xs, ys, zs, x, y, u, hqx, hqy, hqz, hx, hy, hu⟩ := hg
    obtain ⟨its, rv, p, _⟩ := I.list hqx
    obtain ⟨its2, rv2, p2, _⟩ := I.list hqy
    obtain ⟨its3, rv3, p3, _⟩ := I.list hqz
    obtain ⟨w1, hw1, rw1⟩ := rv.get hx
    obtain ⟨w2, hw2, rw2⟩ := rv2.get hy
    obtain ⟨w3, hw3, rw3⟩ := rv3.get hu
    have hzl : z < s.heap.objs.size := Heap.lt_size hz
    have hh := I.ok.hd hc
    have hh1 : (Around.in1 X.A).handled = none := hh
    have lt : ∀ {xs : List Value} {i : Nat} {x : Value}, xs[i]? = some x → i < xs.toArray.size := fun e => by simpa using (List.getElem?_eq_some_iff.mp e).1
    refine wpAny_pyNext_zipD3_item D (Draws.list hh1 i1 a na its.toArray) (Draws.list hh1 i2 b nb its2.toArray) (Draws.list hh1 i3 c nc its3.toArray) hz hTI hTO ⟨h1, p.isList⟩ ⟨h2, p2.isList⟩ ⟨h3, p3.isList⟩ (lt hw1) (lt hw2) (lt hw3) fun v1 v2 v3 h' tk y1 y2 y3 z' TO' d1 d2 d3 hT hsz hk => ?_
    obtain rfl : v1 = w1 := by have : its[i]? = some v1 := by simpa using y1
                               rw [hw1] at this; cases this; rfl
    obtain rfl : v2 = w2 := by have : its2[i]? = some v2 := by simpa using y2
                               rw [hw2] at this; cases this; rfl
    obtain rfl : v3 = w3 := by have : its3[i]? = some v3 := by simpa using y3
                               rw [hw3] at this; cases this; rfl
    refine ⟨_, rfl, wpAny_letOwnedTupleGo_zip (s := { s with heap := h', toks := tk }) z' fun h'' z'' sb => ?_⟩
    have hT2 : h''.get? s.heap.objs.size = some { cls := .type "tuple", data := .seq #[v1, v2, v3] } := (sb.2 _ (Nat.ne_of_gt hzl)).trans hT
    have new : ObjOk X.prog X.w (upd H s.heap.objs.size (.tup [x, y, u])) h'' s.heap.objs.size (.tup [x, y, u]) :=
      ⟨by show 3 ≤ sizeLine; decide, [v1, v2, v3], .cons rw1 (.cons rw2 (.cons rw3 .nil)), ⟨_, hT2, rfl, _, rfl⟩⟩
    have I1 : Inv X pins σ (upd H s.heap.objs.size (.tup [x, y, u])) { s with heap := h'', toks := tk } :=
      I.turnedNew (t' := tk) (ch := [z, TI, TO, i1, i2, i3]) (fun c o hb q => (sb.2 c (fun q' => hb (by simp [q']))).trans (hk c o (fun q' => hb (by simp [q'])) (fun q' => hb (by simp [q'])) (fun q' => hb (by simp [q'])) (fun q' => hb (by simp [q'])) (fun q' => hb (by simp [q'])) q)) hf (Nat.le_refl _) new
    refine ⟨.ref s.heap.objs.size, _, I1, rfl, ⟨_, x, y, u, rfl, I.hok.fresh (Nat.le_refl _), rfl, fun l hl => by rw [I.list_inj hl hqx]; exact hx, fun l hl => by rw [I.list_inj hl hqy]; exact hy, fun l hl => by rw [I.list_inj hl hqz]; exact hu⟩, ⟨z'', ?_, ⟨v1, v2, v3, ?_⟩, ?_, ?_, ?_⟩, fun c hcm => ?_⟩
    · exact (sb.2 _ D.TIz).trans (hk _ _ D.TIz D.TITO D.TIi1 D.TIi2 D.TIi3 hTI)
    · exact (sb.2 _ D.TOz).trans TO'
    · exact d1.1.at fun o q => (sb.2 _ D.zi1.symm).trans q
    · exact d2.1.at fun o q => (sb.2 _ D.zi2.symm).trans q
    · exact d3.1.at fun o q => (sb.2 _ D.zi3.symm).trans q
    · have hlt : c < s.heap.objs.size := by
        have e' : c = z ∨ c = TI ∨ c = TO ∨ c = i1 ∨ c = i2 ∨ c = i3 := by simpa using hcm
        rcases e' with q | q | q | q | q | q
        · rw [q]; exact hzl
        · rw [q]; exact Heap.lt_size hTI
        · rw [q]; exact Heap.lt_size hTO
        · rw [q]; obtain ⟨_, e1, _⟩ := h1; exact Heap.lt_size e1
        · rw [q]; obtain ⟨_, e2, _⟩ := h2; exact Heap.lt_size e2
        · rw [q]; obtain ⟨_, e3, _⟩ := h3; exact Heap.lt_size e3
      rw [upd_ne (Nat.ne_of_lt hlt)]
      exact (hf c hcm).1
  done := by
    intro X hP hw hK hc i pins s σ H E I hf st hg
    subst hP hw hK
    obtain ⟨hz, hTI, ⟨x0, y0, u0, hTO⟩, h1, h2, h3⟩ := st
    obtain ⟨xs, ys, zs, hqx, hqy, hqz, hend⟩ := hg
    obtain ⟨its, rv, p, _⟩ := I.list hqx
    obtain ⟨its2, rv2, p2, _⟩ := I.list hqy
    obtain ⟨its3, rv3, p3, _⟩ := I.list hqz
    have e1 := rv.length
    have e2 := rv2.length
    have e3 := rv3.length
    have hh : (Around.in1 X.A).handled = none := I.ok.hd hc
    obtain ⟨n1, P1, S1, D1, g1, f1, c1⟩ := draws_at (prog := X.prog) (w := X.w) hh i1 a na its.toArray i
    obtain ⟨n2, P2, S2, D2, g2, f2, c2⟩ := draws_at (prog := X.prog) (w := X.w) hh i2 b nb its2.toArray i
    obtain ⟨n3, P3, S3, D3, g3, f3, c3⟩ := draws_at (prog := X.prog) (w := X.w) hh i3 c nc its3.toArray i
    refine wpAny_pyNext_zipD3_end D D1 D2 D3 hz hTI hTO (c1 _ h1 p.isList) (c2 _ h2 p2.isList) (c3 _ h3 p3.isList) g1 g2 g3 (hend.imp (fun q => f1 (by simp; omega)) (Or.imp (fun q => f2 (by simp; omega)) fun q => f3 (by simp; omega))) fun h' tk hk => ⟨rfl, I.turnedL (t' := tk) (ch := [z, TI, TO, i1, i2, i3]) (fun c o hb q =>
      hk c o (fun q' => hb (by simp [q'])) (fun q' => hb (by simp [q'])) (fun q' => hb (by simp [q'])) (fun q' => hb (by simp [q'])) (fun q' => hb (by simp [q'])) q) hf⟩
  self := fun A i s Q E st h => wpAny_pyIter_zip st.1 h

theorem apart3 {n a b c : Nat} (ha : a < n) (hb : b < n) (hc : c < n) : ZipSep3 (n + 5) (n + 3) (n + 4) n (n + 1) (n + 2) [n, a] [n + 1, b] [n + 2, c] := by
  have f (x y : Nat) (h : x < y ∨ y < x) : (x : Addr) ≠ y := by
    intro e
    have e : (x : Nat) = y := e
    omega
  have m (x y z : Nat) (h : (x < y ∨ y < x) ∧ (x < z ∨ z < x)) : (x : Addr) ∉ ([y, z] : List Addr) := by
    intro e
    simp only [List.mem_cons, List.not_mem_nil, or_false] at e
    rcases e with e | e
    · exact f _ _ h.1 e
    · exact f _ _ h.2 e
  constructor
  all_goals first | (exact List.mem_cons_self ..) | (refine f _ _ ?_; omega) | (refine m _ _ _ ?_; omega)
def iZip3 (K : PySem.W.Frag) (ta : TA) : TI := fun σ H R => ta σ H fun vs H1 => ∃ a b c xs ys zs, vs = [.ref a, .ref b, .ref c] ∧ SqL K H1 a xs ∧ SqL K H1 b ys ∧ SqL K H1 c zs ∧ R (Itz3 K a b c) H1
theorem pi_zip3 {X : Cx} {e e2 e3 : Expr} {ta : TA} {p pos tpos : Pos} {elts : List Expr} {kk : Nat} (hg : Gl X "zip") (hm : X.mg "zip" = none) (ha : PA X [e, e2, e3] ta)
    (hs : starEach [e, e2, e3] X.env = (false, eval e X.env) :: starEach [e2, e3] X.env := by rfl) (hpl : (backTo pos (starEach [e2, e3] X.env)).any (·.1) = false := by rfl) :
    PI X (.Tuple elts kk tpos) (.Call (.Name "zip" p) [e, e2, e3] [] pos) (iZip3 X.K ta) := by
  refine ⟨fun pins s σ H R I h => ?_⟩
  refine PyProof.Rows.Call_ (ld_blt I hg hm PyProof.Rows.boot_zip (PyProof.Rows.callWith_type1 (thn (ha.run pos pins s σ H _ I h) fun us s1 ⟨vs, H1, I1, r1, q1⟩ => ?_) hs hpl))
  obtain ⟨a, b, c, xs, ys, zs, ex, hqx, hqy, hqz, q⟩ := q1
  subst ex
  cases r1 with
  | cons r rr =>
    cases rr with
    | cons r' rr =>
      cases rr with
      | cons r'' rr =>
        cases rr
        cases r
        cases r'
        cases r''
        obtain ⟨its, rv, p1, _⟩ := I1.list hqx
        obtain ⟨its2, rv2, p2, _⟩ := I1.list hqy
        obtain ⟨its3, rv3, p3, _⟩ := I1.list hqz
        have la : a < s1.heap.objs.size := p1.lt
        have lb : b < s1.heap.objs.size := p2.lt
        have lc : c < s1.heap.objs.size := p3.lt
        refine zip_begins3 (begins_list a its.toArray) (begins_list b its2.toArray) (begins_list c its3.toArray) p1.isList p2.isList p3.isList fun h' hz hTI hTO h1 h2 h3 hsz hk => wpAny_pyIter_zip hz ?_
        have I2 : Inv X pins σ H1 { s1 with heap := h' } := I1.kept (t' := s1.toks) hk
        refine ⟨s1.heap.objs.size + 5, [s1.heap.objs.size + 5, s1.heap.objs.size + 3, s1.heap.objs.size + 4, s1.heap.objs.size, s1.heap.objs.size + 1, s1.heap.objs.size + 2], _, _, H1, rfl, I2, turn_zip3 (apart3 la lb lc) (Nat.ne_of_lt la) (by show b ≠ _; exact Nat.ne_of_lt (Nat.lt_succ_of_lt lb)) (by show c ≠ _; exact Nat.ne_of_lt (Nat.lt_succ_of_lt (Nat.lt_succ_of_lt lc))), ⟨hz, hTI, ⟨_, _, _, hTO⟩, ⟨_, h1, rfl, rfl⟩, ⟨_, h2, rfl, rfl⟩, ⟨_, h3, rfl, rfl⟩⟩, fun d hd => ?_, q⟩
        have hle : s1.heap.objs.size ≤ d := by
          have e' : d = s1.heap.objs.size + 5 ∨ d = s1.heap.objs.size + 3 ∨ d = s1.heap.objs.size + 4 ∨ d = s1.heap.objs.size ∨ d = s1.heap.objs.size + 1 ∨ d = s1.heap.objs.size + 2 := by simpa using hd
          rcases e' with z | z | z | z | z | z <;> rw [z] <;> first | exact Nat.le_add_right _ _ | exact Nat.le_refl _
        exact I1.fpOk hle (I1.hok.fresh hle)

def zipD3 : List D → List D → List D → List D
  | x :: xs, y :: ys, z :: zs => .tup [x, y, z] :: zipD3 xs ys zs
  | _, _, _ => []
theorem zipD3_get : ∀ {xs ys zs : List D} {i : Nat} {d : D}, (zipD3 xs ys zs)[i]? = some d → ∃ x y z, xs[i]? = some x ∧ ys[i]? = some y ∧ zs[i]? = some z ∧ d = .tup [x, y, z]
  | [], _, _, _, _, h => by simp [zipD3] at h
  | _ :: _, [], _, _, _, h => by simp [zipD3] at h
  | _ :: _, _ :: _, [], _, _, h => by simp [zipD3] at h
  | x :: xs, y :: ys, z :: zs, 0, d, h => by simp [zipD3] at h; exact ⟨x, y, z, rfl, rfl, rfl, h.symm⟩
  | x :: xs, y :: ys, z :: zs, i + 1, d, h => by
    obtain ⟨x', y', z', h1, h2, h3, h4⟩ := zipD3_get (xs := xs) (ys := ys) (zs := zs) (i := i) (d := d) (by simpa [zipD3] using h)
    exact ⟨x', y', z', by simpa using h1, by simpa using h2, by simpa using h3, h4⟩
theorem zipD3_len : ∀ {xs ys zs : List D}, (zipD3 xs ys zs).length = min (min xs.length ys.length) zs.length
  | [], _, _ => by simp [zipD3]
  | _ :: _, [], _ => by simp [zipD3]
  | _ :: _, _ :: _, [] => by simp [zipD3]
  | x :: xs, y :: ys, z :: zs => by simp [zipD3, zipD3_len (xs := xs) (ys := ys) (zs := zs)]
def dZip3 : List D → Option (List D)
  | [x, y, z] => (dItems x).bind fun xs => (dItems y).bind fun ys => (dItems z).bind fun zs => some (zipD3 xs ys zs)
  | _ => none
def gZip3 (fs : Ag) : Ag := fun Γ => (fs Γ).bind dZip3
theorem i_zip3 {X : Cx} {a b c : Expr} {fs : Ag} {pos p tpos : Pos} {elts : List Expr} {kk : Nat} (hg : Gl X "zip") (hm : X.mg "zip" = none) (ha : AN X [a, b, c] 3 fs) (hs : starEach [a, b, c] X.env = (false, eval a X.env) :: starEach [b, c] X.env := by rfl) (hpl : (backTo pos (starEach [b, c] X.env)).any (·.1) = false := by rfl) :
    I X (.Tuple elts kk tpos) (.Call (.Name "zip" p) [a, b, c] [] pos) (gZip3 fs) := by
  obtain ⟨t, h1, h2⟩ := ha.a.ex
  refine ⟨⟨_, pi_zip3 hg hm h1 hs hpl, fun G0 H0 Z Γ σ G H R ds Rl hf k => ?_⟩⟩
  obtain ⟨xs, e1, hf⟩ := obind hf
  have hl := ha.n Γ xs e1
  refine h2 G0 H0 Z Γ σ G H _ _ Rl e1 fun G1 H1 vs x1 r1 => ?_
  match xs, hl, hf, r1 with
  | [x, y, z], _, hf, .cons r (.cons q (.cons o .nil)) =>
    replace hf : ((dItems x).bind fun xs => (dItems y).bind fun ys => (dItems z).bind fun zs => some (zipD3 xs ys zs)) = some ds := hf
    obtain ⟨as, a1, hf⟩ := obind hf
    obtain ⟨bs, a2, hf⟩ := obind hf
    obtain ⟨cs, a3, hf⟩ := obind hf
    cases hf
    obtain ⟨p1, v1, rfl, s1, r1⟩ := r.items a1
    obtain ⟨p2, v2, rfl, s2, r2⟩ := q.items a2
    obtain ⟨p3, v3, rfl, s3, r3⟩ := o.items a3
    refine ⟨p1, p2, p3, v1, v2, v3, rfl, x1.gh.seq s1, x1.gh.seq s2, x1.gh.seq s3, k G1 H1 _ x1 fun i G2 H2 t1 t2 => ?_⟩
    have q1 : SqL X.K H2 p1 v1 := (t1.trans t2).seq s1
    have q2 : SqL X.K H2 p2 v2 := (t1.trans t2).seq s2
    have q3 : SqL X.K H2 p3 v3 := (t1.trans t2).seq s3
    refine ⟨fun hi => ?_, fun d hd => ?_⟩
    · rw [zipD3_len] at hi
      refine ⟨v1, v2, v3, q1, q2, q3, ?_⟩
      rw [r1.length, r2.length, r3.length]
      omega
    · obtain ⟨x, y, z, g1, g2, g3, rfl⟩ := zipD3_get hd
      obtain ⟨w1, b1, c1⟩ := r1.get i g1
      obtain ⟨w2, b2, c2⟩ := r2.get i g2
      obtain ⟨w3, b3, c3⟩ := r3.get i g3
      refine ⟨⟨v1, v2, v3, w1, w2, w3, q1, q2, q3, b1, b2, b3⟩, fun u H3 yl => ?_⟩
      obtain ⟨T, z1, z2, z3, rfl, hT, rfl, f1, f2, f3⟩ := yl
      have y1 := f1 v1 q1
      have y2 := f2 v2 q2
      have y3 := f3 v3 q3
      rw [b1] at y1
      rw [b2] at y2
      rw [b3] at y3
      cases y1
      cases y2
      cases y3
      have x2 := Ext.new1 (o := .tup [w1, w2, w3]) t2 hT
      exact ⟨_, x2, .tup (SqT.of upd_same) (.cons ((c1.mono t1).mono x2.gg) (.cons ((c2.mono t1).mono x2.gg) (.cons ((c3.mono t1).mono x2.gg) .nil)))⟩
end DL

namespace DL
open PySem L2
variable [TC : TabCtx]

/-! ### fields of an object of one's own -/
section
variable {K : PySem.W.Frag} {mg : Str → Option Value} {G H : Hp}
theorem HdL.setv : ∀ {vs : List V} {F : Addr → Prop} {ss : List Sl} (j : Nat) {v : V} {s : Sl} {F1 : Addr → Prop}, HdL K mg G H vs F ss → Hd K mg G H v F1 s → (∀ a, F1 a → ¬ F a) → HdL K mg G H (vs.set j v) (fun a => F a ∨ F1 a) (ss.set j s)
  | _, _, _, _, _, _, _, .nil, _, _ => .nil
  | _, _, _, 0, _, _, _, .cons (F := F) (F1 := Fh) (F2 := Ft) h r s1 s2 d, hv, dj => .cons hv r (fun _ x => .inr x) (fun a x => .inl (s2 a x)) fun a x y => dj a x (s2 a y)
  | _, _, _, j + 1, _, _, _, .cons (F := F) (F1 := Fh) (F2 := Ft) h r s1 s2 d, hv, dj =>
    .cons h (HdL.setv j r hv fun a x y => dj a x (s2 a y)) (fun a x => .inl (s1 a x)) (fun a x => x.elim (fun x => .inl (s2 a x)) .inr) fun a x y => y.elim (d a x) fun y => dj a y (s1 a x)
theorem HdL.snoc : ∀ {vs : List V} {F : Addr → Prop} {ss : List Sl} {v : V} {s : Sl} {F1 : Addr → Prop}, HdL K mg G H vs F ss → Hd K mg G H v F1 s → (∀ a, F1 a → ¬ F a) → HdL K mg G H (vs ++ [v]) (fun a => F a ∨ F1 a) (ss ++ [s])
  | _, F, _, v, s, F1, .nil, hv, dj => .cons (F1 := F1) (F2 := fun _ => False) hv .nil (fun _ x => .inr x) (fun _ x => x.elim) fun _ _ y => y
  | _, _, _, _, _, _, .cons (F := F) (F1 := Fh) (F2 := Ft) h r s1 s2 d, hv, dj =>
    .cons h (HdL.snoc r hv fun a x y => dj a x (s2 a y)) (fun a x => .inl (s1 a x)) (fun a x => x.elim (fun x => .inl (s2 a x)) .inr) fun a x y => y.elim (d a x) fun y => dj a y (s1 a x)
theorem putF_set : ∀ {ns : List Str} {vs : List V} {j : Nat} {f : Str} {v : V}, ns.Nodup → ns[j]? = some f → j < vs.length → putF f v (ns.zip vs) = ns.zip (vs.set j v)
  | [], _, _, _, _, _, h, _ => by simp at h
  | _ :: _, [], _, _, _, _, _, h => by simp at h
  | n :: ns, w :: vs, 0, f, v, nd, h, _ => by
    simp at h; subst h
    show (if n = n then (n, v) :: ns.zip vs else _) = _
    rw [if_pos rfl]; rfl
  | n :: ns, w :: vs, j + 1, f, v, nd, h, hl => by
    have hn : ¬ n = f := fun e => by
      subst e
      exact (List.nodup_cons.mp nd).1 (List.mem_of_getElem? (by simpa using h))
    show (if n = f then (n, v) :: ns.zip vs else (n, w) :: putF f v (ns.zip vs)) = _
    rw [if_neg hn, putF_set (List.nodup_cons.mp nd).2 (by simpa using h) (by simpa using hl)]
    rfl
theorem putF_snoc : ∀ {ns : List Str} {vs : List V} {f : Str} {v : V}, ns.Nodup → ns[vs.length]? = some f → putF f v (ns.zip vs) = ns.zip (vs ++ [v])
  | [], vs, _, _, _, h => by simp at h
  | n :: ns, [], f, v, nd, h => by
    simp at h; subst h; simp [putF]
  | n :: ns, w :: vs, f, v, nd, h => by
    have hn : ¬ n = f := fun e => by
      subst e
      exact (List.nodup_cons.mp nd).1 (List.mem_of_getElem? (by simpa using h))
    show (if n = f then (n, v) :: ns.zip vs else (n, w) :: putF f v (ns.zip vs)) = _
    rw [if_neg hn, putF_snoc (List.nodup_cons.mp nd).2 (by simpa using h)]
    rfl
end

/-! ### new things -/
abbrev Sx := DEnv → Option Sl
structure EN (X : Cx) (e : Expr) (f : Sx) : Prop where
  ex : ∃ t, PE X e t ∧ ∀ G0 H0 Z Γ σ G H Q s, Rel X.K X.mg G0 H0 Z Γ σ G H → f Γ = some s → (∀ G' H' v F, Ext G H G' H' → Hd X.K X.mg G' H' v F s → (∀ a, F a → G' a = none ∧ H a = none ∧ H' a ≠ none) → Q v H') → t σ H Q
def nSh (f : Ex) : Sx := fun Γ => (f Γ).bind fun d => some (.sh d)
def nOw (f : Ag) : Sx := fun Γ => (f Γ).bind fun d => some (.ow d)
def nD (f : Sx) : Ex := fun Γ => (f Γ).bind toD
section
variable {X : Cx} {e a b o tg : Expr} {es : List Expr} {f k : Ex} {fs : Ag} {st : Stmt} {sts : List Stmt} {F F' : Sm} {p : Te} {pos pos' : Pos} {n : Nat} {ix : List Nat} {g : Gs} {sx : Sx}
theorem E.nw (h : E X e f) : EN X e (nSh f) := by
  obtain ⟨t, h1, h2⟩ := h.ex
  refine ⟨⟨t, h1, fun G0 H0 Z Γ σ G H Q s R hf k => ?_⟩⟩
  obtain ⟨d, e1, hf⟩ := obind hf
  cases hf
  exact h2 G0 H0 Z Γ σ G H Q d R e1 fun G' H' v x r => k G' H' v (fun _ => False) x (.sh r) fun _ z => z.elim
theorem EL.nw (h : EL X e fs) : EN X e (nOw fs) := by
  obtain ⟨t, h1, h2⟩ := h.ex
  refine ⟨⟨t, h1, fun G0 H0 Z Γ σ G H Q s R hf k => ?_⟩⟩
  obtain ⟨d, e1, hf⟩ := obind hf
  cases hf
  exact h2 G0 H0 Z Γ σ G H Q d R e1 fun G' H' q vs x hq gq h r => k G' H' _ (fun a => a = q) x (.ow rfl h r) fun a e => by subst e; exact ⟨gq, hq, by rw [h]; simp⟩
theorem EN.fz (h : EN X e sx) : E X e (nD sx) := by
  obtain ⟨t, h1, h2⟩ := h.ex
  refine ⟨⟨t, h1, fun G0 H0 Z Γ σ G H Q d R hf k => ?_⟩⟩
  obtain ⟨s, e1, hf⟩ := obind hf
  refine h2 G0 H0 Z Γ σ G H Q s R e1 fun G' H' v F x hd hF => ?_
  obtain ⟨G2, y, r⟩ := hd.frz hf x.gh fun a z => (hF a z).1
  refine k G2 H' v ⟨x.gg.trans y.gg, x.hh, y.gh, fun a q => ?_, x.hn, fun t => TC.ti.keep (x.tb t) y.gg (fun _ _ => rfl) (fun a h g => by
    cases q : G2 a with
    | none => rfl
    | some u =>
      rcases y.new a (by rw [q]; simp) with z | z
      · exact absurd g z
      · exact absurd (hF a z).2.1 (TC.ti.live t a h).1)⟩ r
  rcases y.new a q with z | z
  · exact x.new a z
  · exact .inr (hF a z).2.1
def sSetN (i : Nat) (f : Sx) : Sm := fun Γ => (f Γ).bind fun s => some (.nx (Γ.set i s))
theorem s_setN (i : Nat) {x : Str} (hN : X.N.Nodup) (he : EN X e sx) (h0 : i ≠ 0 := by decide) (hi : X.N[i]? = some x := by rfl) (hx : Loc X.env.scope x := by first | exact Or.inl rfl | exact Or.inr rfl) (hs : swapsWith e (some (.Name x pos')) pos.line X.env = pure false := by rfl)
    (hf : X.fn x = true ∨ X.env.scope.names.lookup x = some .local := by first | exact .inl rfl | exact .inr rfl | assumption) : S X (.Assign [.Name x pos'] e pos) (sSetN i sx) := by
  obtain ⟨t, h1, h2⟩ := he.ex
  refine ⟨⟨_, ps_set hN hi hx h1 hs hf, fun G0 H0 Z Γ σ G H D r R hf k => ?_⟩⟩
  obtain ⟨d, e1, hf⟩ := obind hf
  cases hf
  exact h2 G0 H0 Z Γ σ G H _ d R e1 fun G1 H1 v F x1 hd hF => k _ G1 H1 (R.setNew x1 i hd hF (.inl h0))

/-! P.f = e -/
def sFld (i : Nat) (rp : Pth) (c j : Nat) (f : Sx) : Sm := fun Γ => (f Γ).bind fun sn => match gP i rp Γ with
  | some (.ob c' fs) => if c' = c then (if j < fs.length then upP i rp (.ob c (fs.set j sn)) Γ else if j = fs.length then upP i rp (.ob c (fs ++ [sn])) Γ else none) else none
  | _ => none
theorem cF_short (c : Nat) : (cF c).length < 1000 := by
  have h : ∀ x ∈ cTab, x.2.length < 1000 := by decide +kernel
  unfold cF
  rw [List.getD_eq_getElem?_getD]
  cases q : cTab[c]? with
  | none => simp
  | some x => exact h x (List.mem_of_getElem? q)
theorem zip_short {c : Nat} {vs : List V} : ((cF c).zip vs).length < 1000 := by
  have := cF_short c
  rw [List.length_zip]
  omega
theorem s_fld {i : Nat} {rp : Pth} {c j : Nat} {C : Addr} {x : Str} (ck : CK X.K X.mg c C) (hp : PL X o i rp) (he : EN X e sx) (hj : (cF c)[j]? = some x := by rfl) (nd : (cF c).Nodup := by decide +kernel) (hs : swapsWith e (some (.Attribute o x pos')) pos.line X.env = pure false := by rfl) :
    S X (.Assign [.Attribute o x pos'] e pos) (sFld i rp c j sx) := by
  obtain ⟨t, t1, t2⟩ := he.ex
  obtain ⟨u, u1, u2⟩ := hp.ex
  refine ⟨⟨_, ps_fld u1 t1 hs, fun G0 H0 Z Γ σ G H D r R hf k => ?_⟩⟩
  obtain ⟨sn, e1, hf⟩ := obind hf
  cases q : gP i rp Γ with
  | none => rw [q] at hf; cases hf
  | some par =>
    rw [q] at hf
    cases par with
    | ob c' fs =>
      replace hf : (if c' = c then (if j < fs.length then upP i rp (.ob c (fs.set j sn)) Γ else if j = fs.length then upP i rp (.ob c (fs ++ [sn])) Γ else none) else none) = some r := hf
      split at hf
      · rename_i hc
        subst hc
        obtain ⟨s, b1, b2, b3⟩ := gP_some q (by simp [SlP])
        refine t2 G0 H0 Z Γ σ G H _ sn R e1 fun G1 H1 v F x1 hd hF => ?_
        refine u2 G0 H0 Z Γ σ G H G1 H1 _ s _ R x1 b1 b2 b3 (by simp) fun v0 pk => ?_
        obtain ⟨F1, P⟩ := pk G1 H1 x1
        have hdP := P.hd
        cases hdP with
        | ob f hm ho n sF rr =>
          rename_i p C' dx vs F'
          rw [ck.hm] at hm
          cases hm
          refine ⟨p, C, dx, _, rfl, ho, ck.cl, ck.na x (List.mem_of_getElem? hj), zip_short, ?_⟩
          have gp := (P.fr p f).1
          have hlen := rr.length
          have dj : ∀ a, F a → ¬ F1 a := fun a y z => (P.fr a z).2.2.2.2 (hF a y).2.1
          have njF : ¬ F p := fun y => dj p y f
          -- the object as it is then
          have fin : ∀ (vs' : List V) (fs' : List Sl) (s2 : Sl), putF x v ((cF c').zip vs) = (cF c').zip vs' → (∀ {Hx : Hp}, HdL X.K X.mg G1 Hx vs F' fs → Hd X.K X.mg G1 Hx v F sn → HdL X.K X.mg G1 Hx vs' (fun a => F' a ∨ F a) fs') → setR rp (.ob c' fs') s = some s2 →
              Rel X.K X.mg G0 H0 Z (Γ.set i s2) σ G1 (upd H1 p (.ins C dx (putF x v ((cF c').zip vs)))) := fun vs' fs' s2 ez mk es => by
            rw [ez]
            have keep : ∀ (Y : Addr → Prop), ¬ Y p → ∀ a o, Y a → H1 a = some o → upd H1 p (.ins C dx ((cF c').zip vs')) a = some o := fun Y hy a o ya q => by
              rw [upd_ne]
              · exact q
              · intro e; subst e; exact hy ya
            refine P.up G1 _ (fun a => F1 a ∨ F a) (.ob c' fs') s2 (Same.refl _) (fun a o q => ?_) (fun a q => .inl q) (fun a o nf q => ?_) ?_ (fun a y => ?_) (fun _ => rfl) es
            · rw [upd_ne (ne_of_none q gp)]; exact x1.gh _ _ q
            · rw [upd_ne]
              · exact q
              · intro e; subst e; exact nf f
            · refine .ob (.inl f) ck.hm upd_same (F' := fun a => F' a ∨ F a) (fun y => y.elim n njF) (fun a y => y.elim (fun y => .inl (sF a y)) .inr) ?_
              exact mk (rr.mono (Same.refl _) (fun a o y q _ => keep F' n a o y q)) (hd.mono (Same.refl _) (fun a o y q _ => keep F njF a o y q))
            · have up : H1 a ≠ none → upd H1 p (.ins C dx ((cF c').zip vs')) a ≠ none := fun q => by
                by_cases e : a = p
                · subst e; rw [upd_same]; simp
                · rw [upd_ne e]; exact q
              rcases y with y | y
              · exact ⟨(P.fr a y).1, up (P.fr a y).2.2.1, .inl y⟩
              · exact ⟨(hF a y).1, up (hF a y).2.2, .inr (hF a y).2.1⟩
          have djL : ∀ a, F a → ¬ F' a := fun a y z => dj a y (sF a z)
          split at hf
          · rename_i hjl
            obtain ⟨s', s2, a1, a2, rfl⟩ := upP_some hf
            rw [b1] at a1
            cases a1
            exact k σ G1 _ (fin (vs.set j v) _ s2 (putF_set nd hj (by rw [hlen]; exact hjl)) (fun r h => r.setv j h djL) a2)
          · split at hf
            · rename_i hjl
              obtain ⟨s', s2, a1, a2, rfl⟩ := upP_some hf
              rw [b1] at a1
              cases a1
              exact k σ G1 _ (fin (vs ++ [v]) _ s2 (putF_snoc nd (by rw [hlen, ← hjl]; exact hj)) (fun r h => r.snoc h djL) a2)
            · cases hf
      · cases hf
    | _ => cases hf

/-! ### defs that change their first argument -/
def spM (K : PySem.W.Frag) (mg : Str → Option Value) (n : Nat) (F : Sl → List D → Option (D × Sl)) : Sp := fun vs H Q _ =>
  ∃ v0 args G s ds d s' Fp, vs = v0 :: args ∧ args.length = n ∧ Same G H ∧ TC.ti.t G H ∧ Hd K mg G H v0 Fp s ∧ (∀ a, Fp a → G a = none ∧ H a ≠ none ∧ ¬ TC.ti.tz a) ∧ RepL K mg G args ds ∧ F s ds = some (d, s') ∧
    ∀ G' H' v Fp', Same G G' → Same G' H' → TC.ti.t G' H' → (∀ a, ¬ Fp a → H a ≠ none → H' a ≠ none) → (∀ a, G' a ≠ none → G a ≠ none ∨ H a = none ∨ Fp a) → (∀ a o, ¬ Fp a → H a = some o → NT o → H' a = some o) → Rep K mg G' v d → Hd K mg G' H' v0 Fp' s' → (∀ a, Fp' a → G' a = none ∧ H' a ≠ none ∧ (Fp a ∨ H a = none)) → Q v H'
def runM (n : Nat) (B : Sm) : Sl → List D → Option (D × Sl) := fun s ds => (B (s :: ds.map Sl.sh ++ List.replicate (n - (ds.length + 1)) .no)).bind fun r => match r with
  | .rm d s' => if isOwn s' then some (d, s') else none
  | .nx Γ => (Γ[0]?).bind fun s' => if isOwn s' then some (.non, s') else none
  | _ => none
def sRetM (f : Ex) : Sm := fun Γ => (f Γ).bind fun d => (Γ[0]?).bind fun s => if isOwn s then some (.rm d s) else none
theorem s_retM (he : E X e f) : S X (.Return (some e) pos) (sRetM f) := by
  obtain ⟨t, h1, h2⟩ := he.ex
  refine ⟨⟨_, ps_ret h1, fun G0 H0 Z Γ σ G H D r R hf k => ?_⟩⟩
  obtain ⟨d, e1, hf⟩ := obind hf
  obtain ⟨s, e2, hf⟩ := obind hf
  split at hf
  · cases hf
    exact h2 G0 H0 Z Γ σ G H _ d R e1 fun G1 H1 v x1 r1 => k Γ σ G1 H1 v (R.ext x1) e2 r1
  · cases hf
def sRetMN : Sm := fun Γ => (Γ[0]?).bind fun s => if isOwn s then some (.rm .non s) else none
theorem s_retMN : S X (.Return none pos) sRetMN := ⟨⟨_, ps_retN, fun G0 H0 Z Γ σ G H D r R hf k => by
  obtain ⟨s, e2, hf⟩ := obind hf
  split at hf
  · cases hf
    exact k Γ σ G H _ R e2 .non
  · cases hf⟩⟩
end
section
variable {P : Program} {w : World} {K : PySem.W.Frag} {mg : Str → Option Value} {base : Heap}
/-- the slots at the entry -/
theorem startM_rel {G H : Hp} {N : List Str} {v0 : V} {vs : List V} {s : Sl} {ds : List D} {Fp : Addr → Prop} (gh : Same G H) (tb : TC.ti.t G H) (hd : Hd K mg G H v0 Fp s) (fr : ∀ a, Fp a → G a = none ∧ H a ≠ none ∧ ¬ TC.ti.tz a) (r : RepL K mg G vs ds) (dec : ∀ a, Decidable (Fp a)) :
    Rel K mg G (fun a => if Fp a then none else H a) ⟨TC.ti.tz, some v0, TC.ti⟩ (s :: ds.map Sl.sh ++ List.replicate (N.length - (ds.length + 1)) .no) (L2.start N (v0 :: vs)) G H := by
  have hl := r.length
  unfold L2.start
  refine ⟨by simp [hl], gh, fun a o q _ => ?_, Same.refl _, fun a h => .inl h, fun a z => (TC.ti.live tb a z).1, fun v s' e1 _ _ => by cases e1; simp, tb, fun _ h => h, rfl, fun a h => by
    by_cases x : Fp a
    · simp [x] at h
    · simpa [x] using h, fun i a => i = 0 ∧ Fp a, fun i a z => ⟨(fr a z.2).1, by simp [z.2], (fr a z.2).2.1, (fr a z.2).2.2⟩, fun i j a z1 z2 => z1.1.trans z2.1.symm, fun i s' h => ?_⟩
  · split at q
    · cases q
    · exact q
  · cases i with
    | zero =>
      simp at h
      subst h
      exact .inr (.inl ⟨v0, by simp, hd.wide fun a x => ⟨rfl, x⟩⟩)
    | succ i =>
      have e : N.length - (ds.length + 1) = (N.length - 1) - ds.length := by omega
      rw [List.cons_append, List.getElem?_cons_succ, e] at h
      rcases start_get h with z | ⟨d, e1, rfl⟩
      · exact .inl z
      · obtain ⟨v, e2, e3⟩ := r.get i e1
        refine .inr (.inl ⟨v, ?_, .sh e3⟩)
        have hi : i < vs.length := (List.getElem?_eq_some_iff.mp e2).1
        rw [List.map_cons, List.cons_append, List.getElem?_cons_succ, List.getElem?_append_left (by simpa using hi), List.getElem?_map, e2]
        rfl
open Classical in
theorem def_okM {x qual : Str} {st : Stmt} {f : Addr} {fd : FuncData} {N ps : List Str} {k : Nat} {B : Sm} (F : Fun K x qual st f fd) (S : FnScope N ps (defScope st)) {n : Nat} (hps : ps.length = n + 1)
    (hbody : ∀ (cdv : Value) (A : Around) (outer : List PySem.Env) (s : Shared) (H : Hp) (E : XK), Room k (A.deeper (PyProof.Rows.envOfC qual (defScope st) s.heap.objs.size f cdv)) →
      Ss (cxOf CX0 P w K mg base N qual (defScope st) f cdv A outer s H E).nox (defBody st) B) : FnOk P w K mg base CX0 (k + 1) f fd ps (spM K mg n (runM N.length B)) := by
  refine F.ok S (fun vs H Q E h => ?_) (fun cdv A outer s H vs Q E hr h => ?_)
  · obtain ⟨v0, args, G, s, ds, d, s', Fp, rfl, hl, _⟩ := h
    simp [hl, hps]
  · obtain ⟨v0, args, G, sl, ds, d, s', Fp, rfl, hl, gh, tb, hd, fr, r, hf, kk⟩ := h
    obtain ⟨t, h1, h2⟩ := (hbody cdv A outer s H E hr).ex
    refine ⟨t, h1, ?_⟩
    obtain ⟨r1, e1, hf⟩ := obind hf
    have R := startM_rel (N := N) gh tb hd fr r fun a => inferInstance
    have fin : ∀ (Γ : DEnv) (σ : L2.St) (G' H' : Hp) (v : V), Rel K mg G (fun a => if Fp a then none else H a) ⟨TC.ti.tz, some v0, TC.ti⟩ Γ σ G' H' → Γ[0]? = some s' → isOwn s' = true → Rep K mg G' v d → Q v H' := fun Γ σ G' H' v R' e0 ns rv => by
      have es := R'.an v0 s' rfl e0 ns
      obtain ⟨own, o1, o2, o3⟩ := R'.own
      rcases o3 0 s' e0 with z | ⟨v', z1, z2⟩ | ⟨_, _, z, _⟩
      · rw [z] at ns; cases ns
      rotate_left
      · rw [z] at ns; cases ns
      · rw [es] at z1
        cases z1
        refine kk G' H' v (own 0) R'.gg R'.gh R'.tbc (fun a nf h => R'.hn a (by simpa [nf] using h)) (fun a q => ?_) (fun a o nf q n => R'.hh a o (by simp [nf, q]) n) rv z2 fun a y => ?_
        · rcases R'.new a q with z | z
          · exact .inl z
          · by_cases fa : Fp a
            · exact .inr (.inr fa)
            · simp [fa] at z
              exact .inr (.inl z)
        · obtain ⟨w1, w2, w3, w4⟩ := o1 0 a y
          refine ⟨w1, w3, ?_⟩
          by_cases fa : Fp a
          · exact .inl fa
          · simp [fa] at w2
            exact .inr w2
    refine h2 G _ _ _ _ G H _ r1 R e1 ?_
    cases r1 with
    | rm d' s2 =>
      replace hf : (if isOwn s2 then some (d', s2) else none) = some (d, s') := hf
      split at hf
      · rename_i ns
        cases hf
        exact fun Γ σ G' H' v R' e0 rv => fin Γ σ G' H' v R' e0 ns rv
      · cases hf
    | nx Γ =>
      obtain ⟨s2, e2, hf⟩ := obind hf
      split at hf
      · rename_i ns
        cases hf
        exact fun σ' G' H' R' => fin Γ σ' G' H' _ R' e2 ns .non
      · cases hf
    | rt d => cases hf
    | ro s => cases hf
    | bk Γ => cases hf
    | ct Γ => cases hf
    | ra n => cases hf
end

/-! ### objects that are made -/
structure Mak (P : Program) (w : World) (K : PySem.W.Frag) (mg : Str → Option Value) (base : Heap) (c L : Nat) (ps : List Str) (S : Sl → List D → Option (D × Sl)) : Prop where
  ex : ∃ C f fd p0 ps', ps = p0 :: ps' ∧ mg (cN c) = some (.ref C) ∧ Mk K C f ∧ FnOk P w K mg base CX0 L f fd ps (spM K mg ps'.length S) ∧ Binds K fd ps []
def gMk (c : Nat) (S : Sl → List D → Option (D × Sl)) (fs : Ag) : Sx := fun Γ => (fs Γ).bind fun ds => (S (.ob c []) ds).bind fun r => match r.1 with
  | .non => some r.2
  | _ => none
section
variable {X : Cx} {a : Expr} {es : List Expr} {fs : Ag} {pos p : Pos}
theorem make_ok {c : Nat} {C : Addr} {n : Nat} {S : Sl → List D → Option (D × Sl)} {t : TA} (hm : X.mg (cN c) = some (.ref C)) (hn : ∀ Γ ds, fs Γ = some ds → ds.length = n)
    (h2 : ∀ (G0 H0 : Hp) (Z : Zs) (Γ : DEnv) (σ : L2.St) (G H : Hp) (Q : List V → Hp → Prop) (ds : List D), Rel X.K X.mg G0 H0 Z Γ σ G H → fs Γ = some ds → (∀ G' H' vs, Ext G H G' H' → RepL X.K X.mg G' vs ds → Q vs H') → t σ H Q) :
    ∀ (G0 H0 : Hp) (Z : Zs) (Γ : DEnv) (σ : L2.St) (G H : Hp) (Q : VK) (s : Sl), Rel X.K X.mg G0 H0 Z Γ σ G H → gMk c S fs Γ = some s → (∀ G' H' v F, Ext G H G' H' → Hd X.K X.mg G' H' v F s → (∀ a, F a → G' a = none ∧ H a = none ∧ H' a ≠ none) → Q v H') → tMake C (spM X.K X.mg n S) [] E0 t σ H Q := by
  intro G0 H0 Z Γ σ G H Q s R hf k
  obtain ⟨ds, e1, hf⟩ := obind hf
  obtain ⟨⟨d, s'⟩, e2, hf⟩ := obind hf
  have hd : d = .non ∧ s' = s := by
    cases d with
    | non => cases hf; exact ⟨rfl, rfl⟩
    | _ => cases hf
  obtain ⟨rfl, rfl⟩ := hd
  refine h2 G0 H0 Z Γ σ G H _ ds R e1 fun G1 H1 vs x1 r1 => ?_
  intro x dx nx ndx ne
  have gx : G1 x = none := x1.gh.free nx
  have Hx : H x = none := x1.hf nx
  have T1 := (R.ext x1).tbc
  have keep : ∀ b o, H1 b = some o → upd (upd H1 dx (.own x)) x (.ins C dx []) b = some o := fun b o q => by
    rw [upd_ne (ne_of_none q nx), upd_ne (ne_of_none q ndx)]; exact q
  refine ⟨.ref x, vs, G1, .ob c [], ds, .non, s', fun b => b = x, by rw [List.append_nil], ?_, fun b o q => keep b o (x1.gh _ _ q), TC.ti.keep T1 (Same.refl _) (fun a h => same_at (fun b o q => keep b o q) (TC.ti.live T1 a h).1) (fun _ _ g => g), ?_, fun b e => by subst e; exact ⟨gx, by rw [upd_same]; simp, fun z => (TC.ti.live T1 _ z).1 nx⟩, r1, e2, ?_⟩
  · rw [r1.length, hn Γ ds e1]
  · exact .ob (F' := fun _ => False) (dx := dx) (vs := []) rfl hm (by rw [upd_same, List.zip_nil_right]) (fun z => z) (fun _ z => z.elim) .nil
  · intro G' H' v Fp' gg gh tb' hn' nw kp rv hv fr
    cases rv
    have keep' : ∀ b o, H b = some o → NT o → upd (upd H1 dx (.own x)) x (.ins C dx []) b = some o := fun b o q n => keep b o (x1.hh b o q n)
    have kn : ∀ b, H1 b ≠ none → upd (upd H1 dx (.own x)) x (.ins C dx []) b ≠ none := fun b h => nn (fun b o q => keep b o q) h
    refine ⟨rfl, k G' H' (.ref x) Fp' ⟨x1.gg.trans gg, fun b o q n => ?_, gh, fun b q => ?_, fun b h => hn' b (fun e => by subst e; exact h Hx) (kn b (x1.hn b h)), fun _ => tb'⟩ hv fun b y => ?_⟩
    · exact kp b o (fun e => by subst e; rw [Hx] at q; cases q) (keep' b o q n) n
    · rcases nw b q with z | z | z
      · exact x1.new b z
      · refine .inr ?_
        cases e : H b with
        | none => rfl
        | some o => exact absurd z (kn b (x1.hn b (by rw [e]; simp)))
      · subst z; exact .inr Hx
    · obtain ⟨w1, w2, w3⟩ := fr b y
      refine ⟨w1, ?_, w2⟩
      rcases w3 with z | z
      · subst z; exact Hx
      · cases e : H b with
        | none => rfl
        | some o => exact absurd z (kn b (x1.hn b (by rw [e]; simp)))
theorem e_mkC {c k L : Nat} {p0 : Str} {ps : List Str} {S : Sl → List D → Option (D × Sl)} (m : Mak X.prog X.w X.K X.mg X.base c L (p0 :: ps) S) (hr : Room k X.A) (hk : L + 1 ≤ k)
    (ha : AN X (a :: es) ps.length fs) (hg : Gl X (cN c) := by rfl) (hdb : (cN c == ("__debug__" : Str)) = false := by decide) (he : starEach (a :: es) X.env = (false, eval a X.env) :: starEach es X.env := by rfl) (hpl : (backTo pos (starEach es X.env)).any (·.1) = false := by rfl) :
    EN X (.Call (.Name (cN c) p) (a :: es) [] pos) (gMk c S fs) := by
  obtain ⟨C, f, fd, q0, ps', ep, h1, h2, h3, h4⟩ := m.ex
  cases ep
  obtain ⟨t, t1, t2⟩ := ha.a.ex
  exact ⟨⟨_, pe_make h2 h3 (hr.mono hk) hg h1 h4 .nil pass0 t1 hdb he hpl, make_ok h1 ha.n t2⟩⟩
theorem e_mkC0 {c k L : Nat} {p0 : Str} {S : Sl → List D → Option (D × Sl)} (m : Mak X.prog X.w X.K X.mg X.base c L [p0] S) (hr : Room k X.A) (hk : L + 1 ≤ k)
    (hg : Gl X (cN c) := by rfl) (hdb : (cN c == ("__debug__" : Str)) = false := by decide) : EN X (.Call (.Name (cN c) p) [] [] pos) (gMk c S aN) := by
  obtain ⟨C, f, fd, q0, ps', ep, h1, h2, h3, h4⟩ := m.ex
  cases ep
  exact ⟨⟨_, pe_make0 h2 h3 (hr.mono hk) hg h1 h4 .nil pass0 hdb, make_ok (fs := aN) (n := 0) h1 (fun _ _ h => by cases h; rfl) fun G0 H0 Z Γ σ G H Q ds R e kk => by cases e; exact kk G H [] (.refl R.gh) .nil⟩⟩
end

/-! ### defs that give a thing of the caller's own -/
def sRetO (i : Nat) (rp : Pth) : Sm := fun Γ => match gP i rp Γ with
  | some s => if isOwn s then some (.ro s) else none
  | none => none
section
variable {X : Cx} {a e : Expr} {es : List Expr} {fs : Ag} {pos p : Pos} {sx : Sx}
theorem isOwn_no : isOwn .no = false := rfl
theorem s_retO {i : Nat} {rp : Pth} (hp : PL X e i rp) : S X (.Return (some e) pos) (sRetO i rp) := by
  obtain ⟨t, h1, h2⟩ := hp.ex
  refine ⟨⟨_, ps_ret h1, fun G0 H0 Z Γ σ G H D r R hf k => ?_⟩⟩
  unfold sRetO at hf
  cases q : gP i rp Γ with
  | none => rw [q] at hf; cases hf
  | some s1 =>
    rw [q] at hf
    replace hf : (if isOwn s1 then some (Res.ro s1) else none) = some r := hf
    split at hf
    · rename_i ho
      cases hf
      have hn : SlP s1 := ⟨(fun z => by subst z; rw [isOwn_no] at ho; cases ho), (fun d z => by subst z; cases ho)⟩
      obtain ⟨s, b1, b2, b3⟩ := gP_some q hn
      refine h2 G0 H0 Z Γ σ G H G H _ s s1 R (Ext.refl R.gh) b1 b2 b3 hn.1 fun v pk => ?_
      obtain ⟨F1, P⟩ := pk G H (Ext.refl R.gh)
      exact k G H v F1 R.end P.hd fun a y => ⟨(P.fr a y).1, (P.fr a y).2.1, (P.fr a y).2.2.1⟩
    · cases hf
def sRetEN (sx : Sx) : Sm := fun Γ => (sx Γ).bind fun s => some (.ro s)
theorem s_retEN (he : EN X e sx) : S X (.Return (some e) pos) (sRetEN sx) := by
  obtain ⟨t, h1, h2⟩ := he.ex
  refine ⟨⟨_, ps_ret h1, fun G0 H0 Z Γ σ G H D r R hf k => ?_⟩⟩
  obtain ⟨s, e1, hf⟩ := obind hf
  cases hf
  exact h2 G0 H0 Z Γ σ G H _ s R e1 fun G1 H1 v F x1 hd hF => k G1 H1 v F (R.ext x1).end hd fun a y => ⟨(hF a y).1, R.hf (hF a y).2.1, (hF a y).2.2⟩
/-- the promise: something new -/
def spN (K : PySem.W.Frag) (mg : Str → Option Value) (n : Nat) (F : List D → Option Sl) : Sp := fun vs H Q _ =>
  ∃ G ds s, vs.length = n ∧ Same G H ∧ TC.ti.t G H ∧ RepL K mg G vs ds ∧ F ds = some s ∧ ∀ G' H' v F', Ext G H G' H' → Hd K mg G' H' v F' s → (∀ a, F' a → G' a = none ∧ H a = none ∧ H' a ≠ none) → Q v H'
def runN (n : Nat) (B : Sm) : List D → Option Sl := fun ds => (B (ds.map Sl.sh ++ List.replicate (n - ds.length) .no)).bind fun r => match r with
  | .rt d => some (.sh d)
  | .ro s => some s
  | .nx _ => some (.sh .non)
  | _ => none
structure CalN (P : Program) (w : World) (K : PySem.W.Frag) (mg : Str → Option Value) (base : Heap) (x : Str) (L : Nat) (ps : List Str) (S : List D → Option Sl) : Prop where
  ex : ∃ f fd, FnOk P w K mg base CX0 L f fd ps (spN K mg ps.length S) ∧ mg x = some (.ref f) ∧ PySem.W.keepIn K (.ref f) = true ∧ Binds K fd ps []
def gCallN (S : List D → Option Sl) (fs : Ag) : Sx := fun Γ => (fs Γ).bind S
theorem e_callN {k L : Nat} {ps : List Str} {S : List D → Option Sl} {x : Str} {p : Pos} (c : CalN X.prog X.w X.K X.mg X.base x L ps S) (hr : Room k X.A) (hk : L ≤ k)
    (ha : AN X (a :: es) ps.length fs) (hg : Gl X x := by rfl) (hdb : (x == ("__debug__" : Str)) = false := by decide) (he : starEach (a :: es) X.env = (false, eval a X.env) :: starEach es X.env := by rfl) (hpl : (backTo pos (starEach es X.env)).any (·.1) = false := by rfl) :
    EN X (.Call (.Name x p) (a :: es) [] pos) (gCallN S fs) := by
  obtain ⟨f, fd, f1, f2, f3, f4⟩ := c.ex
  obtain ⟨t, h1, h2⟩ := ha.a.ex
  refine ⟨⟨_, pe_call f1 (hr.mono hk) hg f2 f3 f4 .nil pass0 h1 hdb he hpl, fun G0 H0 Z Γ σ G H Q s R hf k => ?_⟩⟩
  obtain ⟨ds, e1, hf⟩ := obind hf
  refine h2 G0 H0 Z Γ σ G H _ _ R e1 fun G1 H1 vs x1 r1 => ?_
  refine ⟨G1, ds, s, ?_, x1.gh, (R.ext x1).tbc, ?_, hf, fun G' H' v F x2 r2 f2 => k G' H' v F (x1.trans x2) r2 fun b y => ?_⟩
  · rw [List.append_nil, r1.length, ha.n Γ ds e1]
  · rw [List.append_nil]; exact r1
  · obtain ⟨w1, w2, w3⟩ := f2 b y
    exact ⟨w1, x1.hf w2, w3⟩
end
section
variable {P : Program} {w : World} {K : PySem.W.Frag} {mg : Str → Option Value} {base : Heap}
theorem def_okN {x qual : Str} {st : Stmt} {f : Addr} {fd : FuncData} {N ps : List Str} {k : Nat} {B : Sm} (F : Fun K x qual st f fd) (S : FnScope N ps (defScope st))
    (hbody : ∀ (cdv : Value) (A : Around) (outer : List PySem.Env) (s : Shared) (H : Hp) (E : XK), Room k (A.deeper (PyProof.Rows.envOfC qual (defScope st) s.heap.objs.size f cdv)) →
      Ss (cxOf CX0 P w K mg base N qual (defScope st) f cdv A outer s H E).nox (defBody st) B) : FnOk P w K mg base CX0 (k + 1) f fd ps (spN K mg ps.length (runN N.length B)) := by
  refine F.ok S (fun vs H Q E h => ?_) (fun cdv A outer s H vs Q E hr h => ?_)
  · obtain ⟨G, ds, d, hl, _⟩ := h
    exact hl
  · obtain ⟨G, ds, sl, hl, gh, tb, r, hf, k'⟩ := h
    obtain ⟨t, h1, h2⟩ := (hbody cdv A outer s H E hr).ex
    refine ⟨t, h1, ?_⟩
    obtain ⟨r1, e1, hf⟩ := obind hf
    refine h2 G H _ _ _ G H _ r1 (start_rel gh tb r) e1 ?_
    cases r1 with
    | rt d' => cases hf; exact fun G' H' v x r => k' G' H' v (fun _ => False) x (.sh r) fun _ z => z.elim
    | ro s' => cases hf; exact fun G' H' v F' x h f => k' G' H' v F' x h f
    | nx Γ => cases hf; exact fun σ' G' H' R => k' G' H' _ (fun _ => False) R.end (.sh .non) fun _ z => z.elim
    | rm d s => cases hf
    | bk Γ => cases hf
    | ct Γ => cases hf
    | ra n => cases hf
end
end DL

namespace DL
open PySem PySem.Spec PyProof.Rows L2
variable [TC : TabCtx]

/-! ### del xs[a:] of a list -/
theorem keep_take {α : Type} (p : Nat → Bool) (a : Nat) : ∀ (xs : List α) (m : Nat), (∀ k, m ≤ k → k < m + xs.length → p k = decide (a ≤ k)) → (xs.zipIdx m).filterMap (fun t : α × Nat => if p t.2 = true then none else some t.1) = xs.take (a - m)
  | [], m, _ => by simp
  | x :: xs, m, h => by
    rw [List.zipIdx_cons, List.filterMap_cons]
    have h0 := h m (Nat.le_refl _) (by simp)
    have ih := keep_take p a xs (m + 1) fun k h1 h2 => h k (by omega) (by simp at h2 ⊢; omega)
    by_cases e : a ≤ m
    · have e1 : p m = true := by rw [h0]; exact decide_eq_true e
      rw [e1]
      have z : a - m = 0 := by omega
      have z1 : a - (m + 1) = 0 := by omega
      rw [z1] at ih
      simp [z, ih]
    · have e1 : p m = false := by rw [h0]; exact decide_eq_false e
      rw [e1]
      have z : a - m = (a - (m + 1)) + 1 := by omega
      rw [z, List.take_succ_cons]
      simp [ih]
section
variable {prog : Program} {w : World} {A : Around} {E : Value → Shared → Prop} {s : Shared}
theorem bounds_from {a n : Nat} (h : a ≤ n) : sliceBounds (some (a : Int)) none none n = ((a : Int), (n : Int), 1) := by
  simp only [sliceBounds, Option.getD_none]
  have h1 : ¬ ((a : Int) < 0) := by omega
  simp only [h1, if_false, show (1 : Int) > 0 by decide, if_true]
  congr 1
  omega
theorem delItem_from {l sl : Addr} {items : Array Value} {n : Nat} {vl : Value} {a : Nat} {Q : Unit → Shared → Prop}
    (e : s.heap.get? l = some { cls := .type "list", data := .seq items n }) (hs : s.heap.IsSliceOf sl vl .none .none) (pl : IsPart vl (some (a : Int))) (ha : a ≤ items.size)
    (hsz : items.size ≤ sizeLine) (h : ∀ f : Array Value → Array Value, f items = items.extract 0 a → Q () { s with heap := s.heap.update l (Obj.mapSeq f) }) :
    wpAny (model prog w) A (delItem (.ref l) (.ref sl)) Q E s := by
  have hl : s.heap.IsList l items := PySem.IsL.isList e
  obtain ⟨os, hos, hcs, hds⟩ := id hs
  have hTs : s.TypeIs (.ref sl) "slice" := ⟨os, hos, hcs⟩
  have hstep : ¬ ((rawPart none == rawInt 0) = true) := Bool.false_ne_true
  refine wpAny_delItem_slot hl.typeIs (by decide) PySem.F.slot_list_delitem (wpAny_call_entry PySem.F.slot_list_delitem hl.typeIs PySem.F.entry_list_delitem ?_ (PySem.F.args_list_delitem_2 _ _))
  show wpAny _ _ (Builtin.List.listSubscript? (.ref sl) >>= _) _ _ s
  refine wpAny_bind ?_
  unfold Builtin.List.listSubscript?
  refine wpAny_bind (wpAny_specialOf hTs slice_no_index ?_)
  simp only [Option.isNone_none, if_true]
  refine wpAny_pure ?_
  show wpAny _ _ (typeOf (.ref sl) >>= _) _ _ s
  refine wpAny_bind (wpAny_typeOf hTs ?_)
  first
    | rw [if_neg (by decide)]
    | refine PySem.W.KFB.if_not (by decide) ?_
  rw [listSliceParts_eq]
  refine wpAny_bind (wpAny_bind (wpAny_field hos hds (x := .none) rfl (wpAny_bind (wpAny_listPart .none ?_))))
  rw [if_neg hstep]
  refine wpAny_bind (wpAny_field hos hds (x := vl) rfl (wpAny_bind (wpAny_listPart pl ?_)))
  refine wpAny_bind (wpAny_field hos hds (x := .none) rfl (wpAny_bind (wpAny_listPart .none (wpAny_pure ?_))))
  refine wpAny_bind ?_
  unfold Builtin.List.listItems
  refine wpAny_bind (wpAny_seqItems e rfl (wpAny_pure ?_))
  refine wpAny_bind (wpAny_of_eq ((sliceIndices_raw (some (a : Int)) none none items.size (by simp)).trans (congrArg (pure : Int × Int × Int → Sem (Int × Int × Int)) (bounds_from ha))) ?_)
  refine wpAny_bind (wpAny_rule ?_)
  have hf : (items.toList.zipIdx.filterMap fun (x, k) => if (if (1 : Int) > 0 then (decide ((a : Int) ≤ (k : Int)) && decide ((k : Int) < (items.size : Int)) && (((k : Int) - (a : Int)) % 1 == 0)) else (decide ((items.size : Int) < (k : Int)) && decide ((k : Int) ≤ (a : Int)) && (((a : Int) - (k : Int)) % (-1) == 0))) = true then none else some x).toArray = items.extract 0 a := by
    have := keep_take (α := Value) (fun k => if (1 : Int) > 0 then (decide ((a : Int) ≤ (k : Int)) && decide ((k : Int) < (items.size : Int)) && (((k : Int) - (a : Int)) % 1 == 0)) else (decide ((items.size : Int) < (k : Int)) && decide ((k : Int) ≤ (a : Int)) && (((a : Int) - (k : Int)) % (-1) == 0))) a items.toList 0 fun k h1 h2 => by
      have h3 : (k : Int) < items.size := by simp at h2; omega
      simp [h3, Int.emod_one]
    rw [Nat.sub_zero] at this
    refine (congrArg List.toArray this).trans ?_
    apply Array.toList_inj.mp
    simp
  refine wpAny_bind (wpAny_updateSeq (hz := hsz) (_hz' := ?_) e rfl ?_)
  rotate_left
  · show (List.toArray _).size ≤ _
    have h2 := congrArg Array.size hf
    rw [Array.size_extract] at h2
    refine Nat.le_trans (Nat.le_of_eq h2) ?_
    omega
  refine wpAny_bind (wpAny_letGo ?_)
  first
    | exact wpAny_pure ⟨.none, rfl, h _ hf⟩
    | exact wpAny_pure (h _ hf)
    | exact ⟨.none, rfl, h _ hf⟩
end
section
variable {X : Cx}
theorem del_from {pins : List (Addr × Obj)} {s : Shared} {σ : L2.St} {H : Hp} {l sl : Addr} {xs : List V} {a : Nat} {vl : Value} {Q : Unit → Shared → Prop} (I : Inv X pins σ H s) (hH : H l = some (.lst xs))
    (hs : s.heap.IsSliceOf sl vl .none .none) (pl : RelV (.int a) vl) (ha : a ≤ xs.length) (h : ∀ s', Inv X pins σ (upd H l (.lst (xs.take a))) s' → Q () s') :
    wpAny (model X.prog X.w) X.A (delItem (.ref l) (.ref sl)) Q X.xe s := by
  obtain ⟨ta, rfl⟩ := pl
  obtain ⟨z, its, n, r, hl, e⟩ := I.lstM hH
  refine delItem_from (a := a) e hs (.int _ _) (by rw [List.size_toArray]; omega) (by rw [List.size_toArray]; omega) fun f hf => h _ ?_
  refine I.lset (its' := its.take a) (t' := s.toks) hH e ?_ (r.take a) ?_
  · rw [hf]
    apply Array.toList_inj.mp
    simp
  · rw [List.length_take]; omega
def tDelF (to ti : TE) : TS := fun D σ H => to σ H fun x H1 => ti σ H1 fun y H2 => ∃ (l : Addr) (xs : List V) (k : Nat), x = .ref l ∧ y = .int k ∧ H2 l = some (.lst xs) ∧ k ≤ xs.length ∧ D.nx σ (upd H2 l (.lst (xs.take k)))
theorem ps_delF {o i : Expr} {to ti : TE} {tpos sp pos : Pos} (ho : PE X o to) (hi : PE X i ti) : PS X (.Delete [.Subscript o (.Slice (some i) none none sp) tpos] pos) (tDelF to ti) := by
  refine ⟨fun pins s σ H D I h => ?_⟩
  refine wpAny_Delete (wpAny_deleteEach_cons (wpAny_delete_Subscript (thn (ho.run pins s σ H _ I h) fun u s1 ⟨x, H1, I1, rx, q1⟩ => ?_)))
  refine wpAny_Slice (thn (hi.run pins s1 σ H1 _ I1 q1) fun vl s2 ⟨l, H2, I2, pl, q2⟩ => ?_)
  rw [evalPart_none]
  refine wpAny_pure (wpAny_pure ?_)
  have I4 : Inv X pins σ H2 { s2 with heap := s2.heap.push { cls := .type "slice", data := .fields #[vl, .none, .none] } } := I2.kept (t' := s2.toks) fun b ob q => Heap.get?_push_of_some _ q
  obtain ⟨l', xs, k, rfl, rfl, hH, hk, q3⟩ := q2
  cases rx
  exact del_from I4 hH (Heap.IsSliceOf.new ..) pl hk fun s3 I3 => wpAny_deleteEach_nil ⟨σ, _, I3, q3⟩
end
end DL

namespace DL
open PySem L2
variable [TC : TabCtx]

/-! ### arguments that are only looked at -/
inductive RepM (K : PySem.W.Frag) (mg : Str → Option Value) (G H : Hp) : List Bool → List V → List D → Prop
  | nil : RepM K mg G H [] [] []
  | sh {ms : List Bool} {v : V} {vs : List V} {d : D} {ds : List D} (h : Rep K mg G v d) (r : RepM K mg G H ms vs ds) : RepM K mg G H (false :: ms) (v :: vs) (d :: ds)
  | bo {ms : List Bool} {v : V} {vs : List V} {d : D} {ds : List D} (h : RepB K mg G H v d) (r : RepM K mg G H ms vs ds) : RepM K mg G H (true :: ms) (v :: vs) (d :: ds)
def mkS : Bool → D → Sl
  | true, d => .bo d
  | false, d => .sh d
def slM : List Bool → List D → List Sl
  | m :: ms, d :: ds => mkS m d :: slM ms ds
  | _, _ => []
section
variable {K : PySem.W.Frag} {mg : Str → Option Value} {G H G' H' : Hp}
theorem RepM.ext (e : Ext G H G' H') : ∀ {ms : List Bool} {vs : List V} {ds : List D}, RepM K mg G H ms vs ds → RepM K mg G' H' ms vs ds
  | _, _, _, .nil => .nil
  | _, _, _, .sh h r => .sh (h.mono e.gg) (r.ext e)
  | _, _, _, .bo h r => .bo (h.ext e) (r.ext e)
theorem RepM.len : ∀ {ms : List Bool} {vs : List V} {ds : List D}, RepM K mg G H ms vs ds → vs.length = ms.length ∧ ds.length = ms.length
  | _, _, _, .nil => ⟨rfl, rfl⟩
  | _, _, _, .sh _ r => by have := r.len; simp [this.1, this.2]
  | _, _, _, .bo _ r => by have := r.len; simp [this.1, this.2]
theorem RepM.get : ∀ {ms : List Bool} {vs : List V} {ds : List D} (i : Nat) {s : Sl}, RepM K mg G H ms vs ds → (slM ms ds)[i]? = some s → ∃ v d, vs[i]? = some v ∧ ((s = .sh d ∧ Rep K mg G v d) ∨ (s = .bo d ∧ RepB K mg G H v d))
  | _, _, _, _, _, .nil, e => by simp [slM] at e
  | _, _, _, 0, _, .sh h _, e => by simp [slM, mkS] at e; subst e; exact ⟨_, _, rfl, .inl ⟨rfl, h⟩⟩
  | _, _, _, 0, _, .bo h _, e => by simp [slM, mkS] at e; subst e; exact ⟨_, _, rfl, .inr ⟨rfl, h⟩⟩
  | _, _, _, i + 1, _, .sh _ r, e => by
    obtain ⟨v, d, h1, h2⟩ := r.get i (by simpa [slM] using e)
    exact ⟨v, d, by simpa using h1, h2⟩
  | _, _, _, i + 1, _, .bo _ r, e => by
    obtain ⟨v, d, h1, h2⟩ := r.get i (by simpa [slM] using e)
    exact ⟨v, d, by simpa using h1, h2⟩
theorem slM_len : ∀ {ms : List Bool} {ds : List D}, ds.length = ms.length → (slM ms ds).length = ms.length
  | [], [], _ => rfl
  | _ :: _, _ :: _, h => by simp [slM, slM_len (Nat.succ.inj h)]
  | [], _ :: _, h => by simp at h
  | _ :: _, [], h => by simp at h
end
def runK (ms : List Bool) (n : Nat) (F : Sm) : List D → Option D := fun ds => (F (slM ms ds ++ List.replicate (n - ms.length) .no)).bind fun r => match r with
  | .rt d => some d
  | .nx _ => some .non
  | _ => none
def spK (K : PySem.W.Frag) (mg : Str → Option Value) (ms : List Bool) (F : List D → Option D) : Sp := fun vs H Q _ =>
  ∃ G ds d, Same G H ∧ TC.ti.t G H ∧ RepM K mg G H ms vs ds ∧ F ds = some d ∧ ∀ G' H' v, Ext G H G' H' → Rep K mg G' v d → Q v H'
theorem startK_rel {K : PySem.W.Frag} {mg : Str → Option Value} {G H : Hp} {N : List Str} {ms : List Bool} {vs : List V} {ds : List D} (gh : Same G H) (tb : TC.ti.t G H) (r : RepM K mg G H ms vs ds) : Rel K mg G H ⟨TC.ti.tz, none, TC.ti⟩ (slM ms ds ++ List.replicate (N.length - ms.length) .no) (L2.start N vs) G H := by
  obtain ⟨hv, hd⟩ := r.len
  have hl := slM_len hd
  unfold L2.start
  refine ⟨by simp [hl, hv], gh, same_n (Same.refl _), Same.refl _, fun a h => .inl h, fun a z => (TC.ti.live tb a z).1, fun _ _ z => (by cases z), tb, fun _ h => h, rfl, fun _ h => h, fun _ _ => False, fun _ _ z => z.elim, fun _ _ _ z => z.elim, fun i s h => ?_⟩
  by_cases hi : i < ms.length
  · rw [List.getElem?_append_left (by omega)] at h
    obtain ⟨v, d, e1, e2⟩ := r.get i h
    have st : (vs.map some ++ List.replicate (N.length - vs.length) none)[i]? = some (some v) := by
      rw [List.getElem?_append_left (by simp; omega), List.getElem?_map, e1]
      rfl
    rcases e2 with ⟨rfl, e2⟩ | ⟨rfl, e2⟩
    · exact .inr (.inl ⟨v, st, .sh e2⟩)
    · exact .inr (.inr ⟨v, d, rfl, st, e2⟩)
  · rw [List.getElem?_append_right (by omega), List.getElem?_replicate] at h
    split at h
    · cases h; exact .inl rfl
    · cases h
section
variable {P : Program} {w : World} {K : PySem.W.Frag} {mg : Str → Option Value} {base : Heap}
theorem def_okK {x qual : Str} {st : Stmt} {f : Addr} {fd : FuncData} {N ps : List Str} {k : Nat} {B : Sm} {ms : List Bool} (F : Fun K x qual st f fd) (S : FnScope N ps (defScope st)) (hms : ms.length = ps.length)
    (hbody : ∀ (cdv : Value) (A : Around) (outer : List PySem.Env) (s : Shared) (H : Hp) (E : XK), Room k (A.deeper (PyProof.Rows.envOfC qual (defScope st) s.heap.objs.size f cdv)) →
      Ss (cxOf CX0 P w K mg base N qual (defScope st) f cdv A outer s H E).nox (defBody st) B) : FnOk P w K mg base CX0 (k + 1) f fd ps (spK K mg ms (runK ms N.length B)) := by
  refine F.ok S (fun vs H Q E h => ?_) (fun cdv A outer s H vs Q E hr h => ?_)
  · obtain ⟨G, ds, d, gh, _, r, _⟩ := h
    rw [r.len.1, hms]
  · obtain ⟨G, ds, d, gh, tb, r, hf, k'⟩ := h
    obtain ⟨t, h1, h2⟩ := (hbody cdv A outer s H E hr).ex
    refine ⟨t, h1, ?_⟩
    obtain ⟨r1, e1, hf⟩ := obind hf
    refine h2 G H _ _ _ G H _ r1 (startK_rel gh tb r) e1 ?_
    cases r1 with
    | rt d' => cases hf; exact fun G' H' v x r => k' G' H' v x r
    | nx Γ => cases hf; exact fun σ' G' H' R => k' G' H' _ R.end .non
    | rm d s => cases hf
    | ro s => cases hf
    | bk Γ => cases hf
    | ct Γ => cases hf
    | ra n => cases hf
end
structure CalK (P : Program) (w : World) (K : PySem.W.Frag) (mg : Str → Option Value) (base : Heap) (x : Str) (L : Nat) (ps : List Str) (ms : List Bool) (S : List D → Option D) : Prop where
  ex : ∃ f fd, FnOk P w K mg base CX0 L f fd ps (spK K mg ms S) ∧ mg x = some (.ref f) ∧ PySem.W.keepIn K (.ref f) = true ∧ Binds K fd ps []
structure MetK (P : Program) (w : World) (K : PySem.W.Frag) (mg : Str → Option Value) (base : Heap) (c : Nat) (m : Str) (L : Nat) (ps : List Str) (ms : List Bool) (S : List D → Option D) : Prop where
  ex : ∃ C f fd, CK K mg c C ∧ Meth K C m f ∧ FnOk P w K mg base CX0 L f fd ps (spK K mg ms S) ∧ Binds K fd ps []
structure AM (X : Cx) (es : List Expr) (ms : List Bool) (f : Ag) : Prop where
  ex : ∃ t, PA X es t ∧ ∀ G0 H0 Z Γ σ G H Q ds, Rel X.K X.mg G0 H0 Z Γ σ G H → f Γ = some ds → (∀ G' H' vs, Ext G H G' H' → RepM X.K X.mg G' H' ms vs ds → Q vs H') → t σ H Q
section
variable {X : Cx} {e a b o : Expr} {es : List Expr} {f g : Ex} {fs : Ag} {pos : Pos} {ms : List Bool}
theorem m_nil : AM X [] [] aN := ⟨⟨_, pa_nil, fun G0 H0 Z Γ σ G H Q ds R hf k => by cases hf; exact k G H _ (Ext.refl R.gh) .nil⟩⟩
theorem m_sh (he : E X e f) (hr : AM X es ms fs) (hs : starEach (e :: es) X.env = (false, eval e X.env) :: starEach es X.env := by rfl) : AM X (e :: es) (false :: ms) (aC f fs) := by
  obtain ⟨t, h1, h2⟩ := he.ex
  obtain ⟨u, q1, q2⟩ := hr.ex
  refine ⟨⟨_, pa_cons h1 q1 hs, fun G0 H0 Z Γ σ G H Q ds R hf k => ?_⟩⟩
  obtain ⟨d, e1, hf⟩ := obind hf
  obtain ⟨ds', e2, hf⟩ := obind hf
  cases hf
  refine h2 G0 H0 Z Γ σ G H _ d R e1 fun G1 H1 v x1 r1 => ?_
  refine q2 G0 H0 Z Γ σ G1 H1 _ ds' (R.ext x1) e2 fun G2 H2 vs x2 r2 => ?_
  exact k G2 H2 _ (x1.trans x2) (.sh (r1.mono x2.gg) r2)
theorem m_bo (he : B X e f) (hr : AM X es ms fs) (hs : starEach (e :: es) X.env = (false, eval e X.env) :: starEach es X.env := by rfl) : AM X (e :: es) (true :: ms) (aC f fs) := by
  obtain ⟨t, h1, h2⟩ := he.ex
  obtain ⟨u, q1, q2⟩ := hr.ex
  refine ⟨⟨_, pa_cons h1 q1 hs, fun G0 H0 Z Γ σ G H Q ds R hf k => ?_⟩⟩
  obtain ⟨d, e1, hf⟩ := obind hf
  obtain ⟨ds', e2, hf⟩ := obind hf
  cases hf
  refine h2 G0 H0 Z Γ σ G H _ d R e1 fun G1 H1 v x1 r1 => ?_
  refine q2 G0 H0 Z Γ σ G1 H1 _ ds' (R.ext x1) e2 fun G2 H2 vs x2 r2 => ?_
  exact k G2 H2 _ (x1.trans x2) (.bo (r1.ext x2) r2)
theorem e_callK {k L : Nat} {ps : List Str} {S : List D → Option D} {x : Str} {p : Pos} (c : CalK X.prog X.w X.K X.mg X.base x L ps ms S) (hr : Room k X.A) (hk : L ≤ k)
    (ha : AM X (a :: es) ms fs) (hg : Gl X x := by rfl) (hdb : (x == ("__debug__" : Str)) = false := by decide) (he : starEach (a :: es) X.env = (false, eval a X.env) :: starEach es X.env := by rfl) (hpl : (backTo pos (starEach es X.env)).any (·.1) = false := by rfl) :
    E X (.Call (.Name x p) (a :: es) [] pos) (gCall S fs) := by
  obtain ⟨f, fd, f1, f2, f3, f4⟩ := c.ex
  obtain ⟨t, h1, h2⟩ := ha.ex
  refine ⟨⟨_, pe_call f1 (hr.mono hk) hg f2 f3 f4 .nil pass0 h1 hdb he hpl, fun G0 H0 Z Γ σ G H Q d R hf k => ?_⟩⟩
  obtain ⟨ds, e1, hf⟩ := obind hf
  refine h2 G0 H0 Z Γ σ G H _ _ R e1 fun G1 H1 vs x1 r1 => ?_
  refine ⟨G1, ds, d, x1.gh, (R.ext x1).tbc, ?_, hf, fun G' H' v x2 r2 => k G' H' v (x1.trans x2) r2⟩
  rw [List.append_nil]; exact r1
/-- the object that a value is, where it is only looked at -/
theorem RepB.objAt {K : PySem.W.Frag} {mg : Str → Option Value} {G H : Hp} {v : V} {c : Nat} {ds : List D} (gh : Same G H) (r : RepB K mg G H v (.obj c ds)) : ∃ p C dx vs, v = .ref p ∧ mg (cN c) = some (.ref C) ∧ H p = some (.ins C dx ((cF c).zip vs)) ∧ RepBL K mg G H vs ds := by
  cases r with
  | sh r => cases r with
    | obj hm h r => exact ⟨_, _, _, _, rfl, hm, gh _ _ h, r.bo⟩
  | obj hm h r => exact ⟨_, _, _, _, rfl, hm, h, r⟩
theorem e_metK {pl : Sem Bool} {c k L : Nat} {ps : List Str} {S : List D → Option D} {m : Str} {apos : Pos} (mt : MetK X.prog X.w X.K X.mg X.base c m L ps (true :: ms) S) (hr : Room k X.A) (hk : L ≤ k)
    (ho : B X o f) (ha : AM X (a :: es) ms fs) (hno : m ∉ cF c := by decide +kernel)
    (hst : starEach (a :: es) X.env = (false, eval a X.env) :: starEach es X.env := by rfl) (hpl : (backTo pos (starEach es X.env)).any (·.1) = false := by rfl)
    (ht : eval (.Call (.Attribute o m apos) (a :: es) [] pos) X.env = (do
      let ov ← eval o X.env
      standAt apos.atName
      let (f, first) ← holding [ov] (getMethod ov m pl)
      callWith pos f first (backTo pos (starEach (a :: es) X.env)) (backToKw pos (keywordEach [] X.env))) := by rfl) : E X (.Call (.Attribute o m apos) (a :: es) [] pos) (gMeth c S f fs) := by
  obtain ⟨C, fa, fd, ck, hme, FO, hb⟩ := mt.ex
  obtain ⟨t, h1, h2⟩ := ha.ex
  obtain ⟨u, q1, q2⟩ := ho.ex
  refine ⟨⟨_, pe_meth q1 ck.cl hme FO (hr.mono hk) hb .nil pass0 h1 hst hpl ht, fun G0 H0 Z Γ σ G H Q d R hf k => ?_⟩⟩
  obtain ⟨y, e1, hv⟩ := obind hf
  cases y with
  | obj c' vs' =>
    replace hv : (if c' = c then (fs Γ).bind fun ds => S (.obj c' vs' :: ds) else none) = some d := hv
    split at hv
    · rename_i cz
      subst cz
      obtain ⟨ds, e2, hv⟩ := obind hv
      refine q2 G0 H0 Z Γ σ G H _ _ R e1 fun G1 H1 v x1 r1 => ?_
      obtain ⟨p, C', dx, ws, rfl, hm', hp, _⟩ := r1.objAt x1.gh
      rw [ck.hm] at hm'
      cases hm'
      refine ⟨_, _, _, rfl, hp, zip_lookup_none hno, ?_⟩
      refine h2 G0 H0 Z Γ σ G1 H1 _ _ (R.ext x1) e2 fun G2 H2 vs x2 r2 => ?_
      exact ⟨G2, _, d, x2.gh, ((R.ext x1).ext x2).tbc, .bo (r1.ext x2) (by rw [List.append_nil]; exact r2), hv, fun G' H' v x3 r3 => k G' H' v ((x1.trans x2).trans x3) r3⟩
    · cases hv
  | _ => cases hv
theorem e_metK0 {pl : Sem Bool} {c k L : Nat} {ps : List Str} {S : List D → Option D} {m : Str} {apos : Pos} (mt : MetK X.prog X.w X.K X.mg X.base c m L ps [true] S) (hr : Room k X.A) (hk : L ≤ k)
    (ho : B X o f) (hno : m ∉ cF c := by decide +kernel)
    (ht : eval (.Call (.Attribute o m apos) [] [] pos) X.env = (do
      let ov ← eval o X.env
      standAt apos.atName
      let (f, first) ← holding [ov] (getMethod ov m pl)
      callWith pos f first (backTo pos (starEach [] X.env)) (backToKw pos (keywordEach [] X.env))) := by rfl) : E X (.Call (.Attribute o m apos) [] [] pos) (gMeth c S f aN) := by
  obtain ⟨C, fa, fd, ck, hme, FO, hb⟩ := mt.ex
  obtain ⟨u, q1, q2⟩ := ho.ex
  refine ⟨⟨_, pe_meth0 q1 ck.cl hme FO (hr.mono hk) hb .nil pass0 ht, fun G0 H0 Z Γ σ G H Q d R hf k => ?_⟩⟩
  obtain ⟨y, e1, hv⟩ := obind hf
  cases y with
  | obj c' vs' =>
    replace hv : (if c' = c then (aN Γ).bind fun ds => S (.obj c' vs' :: ds) else none) = some d := hv
    split at hv
    · rename_i cz
      subst cz
      obtain ⟨ds, e2, hv⟩ := obind hv
      cases e2
      refine q2 G0 H0 Z Γ σ G H _ _ R e1 fun G1 H1 v x1 r1 => ?_
      obtain ⟨p, C', dx, ws, rfl, hm', hp, _⟩ := r1.objAt x1.gh
      rw [ck.hm] at hm'
      cases hm'
      refine ⟨_, _, _, rfl, hp, zip_lookup_none hno, ?_⟩
      exact ⟨G1, _, d, x1.gh, (R.ext x1).tbc, .bo r1 .nil, hv, fun G' H' v x3 r3 => k G' H' v (x1.trans x3) r3⟩
    · cases hv
  | _ => cases hv
/-- o.f of what is only looked at -/
theorem b_fld {c j : Nat} {C : Addr} {x : Str} (ck : CK X.K X.mg c C) (he : B X o f) (hj : (cF c)[j]? = some x := by rfl) (nd : (cF c).Nodup := by decide +kernel) (hb : attributeBase o x X.env (eval o X.env) = eval o X.env := by rfl) : B X (.Attribute o x pos) (gU (dFld c j) f) := by
  obtain ⟨t, h1, h2⟩ := he.ex
  refine ⟨⟨_, pe_fld h1 hb, fun G0 H0 Z Γ σ G H Q d R hf k => ?_⟩⟩
  obtain ⟨y, e1, hv⟩ := obind hf
  cases y with
  | obj c' vs =>
    replace hv : (if c' = c then vs[j]? else none) = some d := hv
    split at hv
    · rename_i cz
      subst cz
      refine h2 G0 H0 Z Γ σ G H _ _ R e1 fun G1 H1 v x1 r1 => ?_
      obtain ⟨p, C', dx, ws, rfl, hm', hp, rl⟩ := r1.objAt x1.gh
      rw [ck.hm] at hm'
      cases hm'
      obtain ⟨w, g1, g2⟩ := rl.get j hv
      exact ⟨_, _, _, _, w, rfl, hp, ck.cl, ck.na x (List.mem_of_getElem? hj), zip_lookup nd hj g1, k G1 H1 w x1 g2⟩
    · cases hv
  | _ => cases hv
/-- neither a list nor an object: nothing can be changed in it -/
def isIm : D → Bool
  | .lst _ => false
  | .obj _ _ => false
  | .dic _ _ => false
  | .lls _ => false
  | .exc _ _ _ => false
  | _ => true
def gIm (f : Ex) : Ex := fun Γ => (f Γ).bind fun d => if isIm d then some d else none
theorem B.im (h : B X e f) : E X e (gIm f) := by
  obtain ⟨t, h1, h2⟩ := h.ex
  refine ⟨⟨t, h1, fun G0 H0 Z Γ σ G H Q d R hf k => ?_⟩⟩
  obtain ⟨y, e1, hv⟩ := obind hf
  split at hv
  · rename_i hi
    cases hv
    refine h2 G0 H0 Z Γ σ G H Q _ R e1 fun G1 H1 v x1 r1 => k G1 H1 v x1 ?_
    refine r1.flat (fun xs z => ?_) (fun c xs z => ?_) (fun ks xs z => ?_) fun xs z => ?_
    · subst z; cases hi
    · subst z; cases hi
    · subst z; cases hi
    · subst z; cases hi
  · cases hv
end

/-! ### calls that change a place of one's own -/
/-- an expression that changes slots' places (not the slots) and gives a datum -/
abbrev Mx := DEnv → Option (D × DEnv)
structure EM (X : Cx) (e : Expr) (f : Mx) : Prop where
  ex : ∃ t, PE X e t ∧ ∀ G0 H0 Z Γ σ G H Q d Γ', Rel X.K X.mg G0 H0 Z Γ σ G H → f Γ = some (d, Γ') → (∀ G' H' v, Rel X.K X.mg G0 H0 Z Γ' σ G' H' → Rep X.K X.mg G' v d → Q v H') → t σ H Q
structure CalM (P : Program) (w : World) (K : PySem.W.Frag) (mg : Str → Option Value) (base : Heap) (x : Str) (L : Nat) (ps : List Str) (S : Sl → List D → Option (D × Sl)) : Prop where
  ex : ∃ f fd n, ps.length = n + 1 ∧ FnOk P w K mg base CX0 L f fd ps (spM K mg n S) ∧ mg x = some (.ref f) ∧ PySem.W.keepIn K (.ref f) = true ∧ Binds K fd ps []
structure MetM (P : Program) (w : World) (K : PySem.W.Frag) (mg : Str → Option Value) (base : Heap) (c : Nat) (m : Str) (L : Nat) (ps : List Str) (S : Sl → List D → Option (D × Sl)) : Prop where
  ex : ∃ C f fd n, ps.length = n + 1 ∧ CK K mg c C ∧ Meth K C m f ∧ FnOk P w K mg base CX0 L f fd ps (spM K mg n S) ∧ Binds K fd ps []
/-- place i rp is changed by S -/
def gCM (i : Nat) (rp : Pth) (S : Sl → List D → Option (D × Sl)) (fs : Ag) : Mx := fun Γ => match gP i rp Γ with
  | some s1 => if isOwn s1 then (fs Γ).bind fun ds => (S s1 ds).bind fun r => (Γ[i]?).bind fun s => (setR rp r.2 s).bind fun s2 => some (r.1, Γ.set i s2) else none
  | none => none
theorem gCM_some {i : Nat} {rp : Pth} {S : Sl → List D → Option (D × Sl)} {fs : Ag} {Γ Γ' : DEnv} {d : D} (h : gCM i rp S fs Γ = some (d, Γ')) :
    ∃ s s1 ds s1' s2, Γ[i]? = some s ∧ getR rp s = some s1 ∧ SlP s ∧ SlP s1 ∧ isOwn s1 = true ∧ fs Γ = some ds ∧ S s1 ds = some (d, s1') ∧ setR rp s1' s = some s2 ∧ Γ' = Γ.set i s2 := by
  unfold gCM at h
  cases q : gP i rp Γ with
  | none => rw [q] at h; cases h
  | some s1 =>
    rw [q] at h
    replace h : (if isOwn s1 then (fs Γ).bind fun ds => (S s1 ds).bind fun r => (Γ[i]?).bind fun s => (setR rp r.2 s).bind fun s2 => some (r.1, Γ.set i s2) else none) = some (d, Γ') := h
    split at h
    · rename_i ho
      obtain ⟨ds, e1, h⟩ := obind h
      obtain ⟨⟨d', s1'⟩, e2, h⟩ := obind h
      obtain ⟨s, e3, h⟩ := obind h
      obtain ⟨s2, e4, h⟩ := obind h
      cases h
      have hP : SlP s1 := ⟨(fun z => by subst z; cases ho), (fun d z => by subst z; cases ho)⟩
      obtain ⟨s', b1, b2, b3⟩ := gP_some q hP
      rw [e3] at b1
      cases b1
      exact ⟨s, s1, ds, s1', s2, e3, b2, b3, hP, ho, e1, e2, e4, rfl⟩
    · cases h
section
variable {X : Cx} {e a b o : Expr} {es : List Expr} {f g : Ex} {fs : Ag} {pos : Pos} {n i : Nat} {rp : Pth} {S : Sl → List D → Option (D × Sl)} {mx : Mx}
/-- the callee's promise at a place -/
theorem change_ok {G0 H0 G H Hb : Hp} {Z : Zs} {Γ : DEnv} {σ : L2.St} {n : Nat} {Q : VK} {E : XK} {s s1 s1' s2 : Sl} {v : V} {F1 : Addr → Prop} {vs : List V} {ds : List D} {d : D} (P : Pack X.K X.mg G0 H0 Z Γ σ i rp s s1 v F1 Hb G H) (gh : Same G H) (hb : ∀ a, Hb a ≠ none → H a ≠ none) (r : RepL X.K X.mg G vs ds) (hn : ds.length = n) (ho : isOwn s1 = true)
    (hS : S s1 ds = some (d, s1')) (es : setR rp s1' s = some s2) (k : ∀ G' H' u, Rel X.K X.mg G0 H0 Z (Γ.set i s2) σ G' H' → Rep X.K X.mg G' u d → Q u H') : spM X.K X.mg n S (v :: vs) H Q E := by
  refine ⟨v, vs, G, s1, ds, d, s1', F1, rfl, by rw [r.length, hn], gh, P.tb, P.hd, fun a y => ⟨(P.fr a y).1, (P.fr a y).2.2.1, P.ntz a y⟩, r, hS, fun G' H' u Fp' gg gh' tb' hn' nw keep rv hd' fr => k G' H' u ?_ rv⟩
  have free : ∀ a, H a = none → Hb a = none := fun a z => by
    cases q : Hb a with
    | none => rfl
    | some o => exact absurd z (hb a (by rw [q]; simp))
  refine P.upC G' H' Fp' s1' s2 gg gh' tb' hn' (fun a q => ?_) keep hd' (fun a y => ?_) (fun _ => ho) es
  · rcases nw a q with z | z | z
    · exact .inl z
    · exact .inr (.inl (free a z))
    · exact .inr (.inr z)
  · obtain ⟨w1, w2, w3⟩ := fr a y
    exact ⟨w1, w2, w3.elim .inl fun z => .inr (free a z)⟩
theorem em_call {k L : Nat} {ps : List Str} {x : Str} {p : Pos} (c : CalM X.prog X.w X.K X.mg X.base x L ps S) (hr : Room k X.A) (hk : L ≤ k) (hp : PL X o i rp)
    (ha : AN X es n fs) (hn : ps.length = n + 1 := by rfl) (hg : Gl X x := by rfl) (hdb : (x == ("__debug__" : Str)) = false := by decide) (he : starEach (o :: es) X.env = (false, eval o X.env) :: starEach es X.env := by rfl) (hpl : (backTo pos (starEach es X.env)).any (·.1) = false := by rfl) :
    EM X (.Call (.Name x p) (o :: es) [] pos) (gCM i rp S fs) := by
  obtain ⟨f, fd, n', f0, f1, f2, f3, f4⟩ := c.ex
  have : n' = n := by omega
  subst this
  obtain ⟨t, t1, t2⟩ := ha.a.ex
  obtain ⟨u, u1, u2⟩ := hp.ex
  refine ⟨⟨_, pe_call f1 (hr.mono hk) hg f2 f3 f4 .nil pass0 (pa_cons u1 t1 he) hdb he hpl, fun G0 H0 Z Γ σ G H Q d Γ' R hf k => ?_⟩⟩
  obtain ⟨s, s1, ds, s1', s2, b1, b2, b3, b4, ho, e1, hS, es', rfl⟩ := gCM_some hf
  refine u2 G0 H0 Z Γ σ G H G H _ s s1 R (Ext.refl R.gh) b1 b2 b3 b4.1 fun v pk => ?_
  refine t2 G0 H0 Z Γ σ G H _ ds R e1 fun G1 H1 vs x1 r1 => ?_
  obtain ⟨F1, P⟩ := pk G1 H1 x1
  rw [List.append_nil]
  exact change_ok (E := E0) P x1.gh x1.hn r1 (ha.n Γ ds e1) ho hS es' k
theorem em_met {pl : Sem Bool} {c k L : Nat} {ps : List Str} {m : Str} {apos : Pos} (mt : MetM X.prog X.w X.K X.mg X.base c m L ps S) (hr : Room k X.A) (hk : L ≤ k) (hp : PL X o i rp)
    (ha : AN X (a :: es) n fs) (hn : ps.length = n + 1 := by rfl) (hno : m ∉ cF c := by decide +kernel)
    (hst : starEach (a :: es) X.env = (false, eval a X.env) :: starEach es X.env := by rfl) (hpl : (backTo pos (starEach es X.env)).any (·.1) = false := by rfl)
    (ht : eval (.Call (.Attribute o m apos) (a :: es) [] pos) X.env = (do
      let ov ← eval o X.env
      standAt apos.atName
      let (f, first) ← holding [ov] (getMethod ov m pl)
      callWith pos f first (backTo pos (starEach (a :: es) X.env)) (backToKw pos (keywordEach [] X.env))) := by rfl) :
    EM X (.Call (.Attribute o m apos) (a :: es) [] pos) (fun Γ => match gP i rp Γ with | some (.ob c' _) => if c' = c then gCM i rp S fs Γ else none | _ => none) := by
  obtain ⟨C, fa, fd, n', f0, ck, hme, FO, hb⟩ := mt.ex
  have : n' = n := by omega
  subst this
  obtain ⟨t, t1, t2⟩ := ha.a.ex
  obtain ⟨u, u1, u2⟩ := hp.ex
  refine ⟨⟨_, pe_meth u1 ck.cl hme FO (hr.mono hk) hb .nil pass0 t1 hst hpl ht, fun G0 H0 Z Γ σ G H Q d Γ' R hf k => ?_⟩⟩
  cases q : gP i rp Γ with
  | none => rw [q] at hf; cases hf
  | some s0 =>
    rw [q] at hf
    cases s0 with
    | ob c' fls =>
      replace hf : (if c' = c then gCM i rp S fs Γ else none) = some (d, Γ') := hf
      split at hf
      · rename_i cz
        subst cz
        obtain ⟨s, s1, ds, s1', s2, b1, b2, b3, b4, ho, e1, hS, es', rfl⟩ := gCM_some hf
        have e0 : s1 = .ob c' fls := by
          unfold gP at q
          rw [b1] at q
          exact Option.some.inj (b2.symm.trans q)
        subst e0
        refine u2 G0 H0 Z Γ σ G H G H _ s _ R (Ext.refl R.gh) b1 b2 b3 b4.1 fun v pk => ?_
        obtain ⟨F0, P0⟩ := pk G H (Ext.refl R.gh)
        have hd := P0.hd
        cases hd with
        | ob ff hm hh nn sF rr =>
          rw [ck.hm] at hm
          cases hm
          refine ⟨_, _, _, rfl, hh, zip_lookup_none hno, ?_⟩
          refine t2 G0 H0 Z Γ σ G H _ ds R e1 fun G1 H1 vs x1 r1 => ?_
          obtain ⟨F1, P⟩ := pk G1 H1 x1
          rw [List.append_nil]
          exact change_ok (E := E0) P x1.gh x1.hn r1 (ha.n Γ ds e1) ho hS es' k
      · cases hf
    | _ => cases hf
theorem em_met0 {pl : Sem Bool} {c k L : Nat} {ps : List Str} {m : Str} {apos : Pos} (mt : MetM X.prog X.w X.K X.mg X.base c m L ps S) (hr : Room k X.A) (hk : L ≤ k) (hp : PL X o i rp)
    (hn : ps.length = 1 := by rfl) (hno : m ∉ cF c := by decide +kernel)
    (ht : eval (.Call (.Attribute o m apos) [] [] pos) X.env = (do
      let ov ← eval o X.env
      standAt apos.atName
      let (f, first) ← holding [ov] (getMethod ov m pl)
      callWith pos f first (backTo pos (starEach [] X.env)) (backToKw pos (keywordEach [] X.env))) := by rfl) :
    EM X (.Call (.Attribute o m apos) [] [] pos) (fun Γ => match gP i rp Γ with | some (.ob c' _) => if c' = c then gCM i rp S aN Γ else none | _ => none) := by
  obtain ⟨C, fa, fd, n', f0, ck, hme, FO, hb⟩ := mt.ex
  have : n' = 0 := by omega
  subst this
  obtain ⟨u, u1, u2⟩ := hp.ex
  refine ⟨⟨_, pe_meth0 u1 ck.cl hme FO (hr.mono hk) hb .nil pass0 ht, fun G0 H0 Z Γ σ G H Q d Γ' R hf k => ?_⟩⟩
  cases q : gP i rp Γ with
  | none => rw [q] at hf; cases hf
  | some s0 =>
    rw [q] at hf
    cases s0 with
    | ob c' fls =>
      replace hf : (if c' = c then gCM i rp S aN Γ else none) = some (d, Γ') := hf
      split at hf
      · rename_i cz
        subst cz
        obtain ⟨s, s1, ds, s1', s2, b1, b2, b3, b4, ho, e1, hS, es', rfl⟩ := gCM_some hf
        have e0 : s1 = .ob c' fls := by
          unfold gP at q
          rw [b1] at q
          exact Option.some.inj (b2.symm.trans q)
        subst e0
        cases e1
        refine u2 G0 H0 Z Γ σ G H G H _ s _ R (Ext.refl R.gh) b1 b2 b3 b4.1 fun v pk => ?_
        obtain ⟨F0, P0⟩ := pk G H (Ext.refl R.gh)
        have hd := P0.hd
        cases hd with
        | ob ff hm hh nn sF rr =>
          rw [ck.hm] at hm
          cases hm
          refine ⟨_, _, _, rfl, hh, zip_lookup_none hno, ?_⟩
          obtain ⟨F1, P⟩ := pk G H (Ext.refl R.gh)
          exact change_ok (E := E0) (vs := []) (ds := []) P R.gh (fun _ h => h) .nil rfl ho hS es' k
      · cases hf
    | _ => cases hf
def gMM (i : Nat) (rp : Pth) (c : Nat) (S : Sl → List D → Option (D × Sl)) (fs : Ag) : Mx := fun Γ => match gP i rp Γ with | some (.ob c' _) => if c' = c then gCM i rp S fs Γ else none | _ => none
/-! statements of these -/
def sExpM (f : Mx) : Sm := fun Γ => (f Γ).bind fun r => some (.nx r.2)
theorem s_exprM (he : EM X e mx) (hs : swapsWith e none pos.line X.env = pure false := by rfl) : DL.S X (.Expr e pos) (sExpM mx) := by
  obtain ⟨t, h1, h2⟩ := he.ex
  refine ⟨⟨_, ps_expr h1 hs, fun G0 H0 Z Γ σ G H D r R hf k => ?_⟩⟩
  obtain ⟨⟨d, Γ'⟩, e1, hf⟩ := obind hf
  cases hf
  exact h2 G0 H0 Z Γ σ G H _ d Γ' R e1 fun G1 H1 v R1 r1 => k σ G1 H1 R1
def sSetM (j : Nat) (f : Mx) : Sm := fun Γ => (f Γ).bind fun r => some (.nx (r.2.set j (.sh r.1)))
theorem s_setM (j : Nat) {x : Str} {pos' : Pos} (hN : X.N.Nodup) (he : EM X e mx) (hi : X.N[j]? = some x := by rfl) (hx : Loc X.env.scope x := by first | exact Or.inl rfl | exact Or.inr rfl) (hs : swapsWith e (some (.Name x pos')) pos.line X.env = pure false := by rfl)
    (hf : X.fn x = true ∨ X.env.scope.names.lookup x = some .local := by first | exact .inl rfl | exact .inr rfl | assumption) : DL.S X (.Assign [.Name x pos'] e pos) (sSetM j mx) := by
  obtain ⟨t, h1, h2⟩ := he.ex
  refine ⟨⟨_, ps_set hN hi hx h1 hs hf, fun G0 H0 Z Γ σ G H D r R hf k => ?_⟩⟩
  obtain ⟨⟨d, Γ'⟩, e1, hf⟩ := obind hf
  cases hf
  exact h2 G0 H0 Z Γ σ G H _ d Γ' R e1 fun G1 H1 v R1 r1 => k _ G1 H1 (R1.set j r1)
def sRetCM (f : Mx) : Sm := fun Γ => (f Γ).bind fun r => (r.2[0]?).bind fun s => if isOwn s then some (.rm r.1 s) else none
theorem s_retCM (he : EM X e mx) : DL.S X (.Return (some e) pos) (sRetCM mx) := by
  obtain ⟨t, h1, h2⟩ := he.ex
  refine ⟨⟨_, ps_ret h1, fun G0 H0 Z Γ σ G H D r R hf k => ?_⟩⟩
  obtain ⟨⟨d, Γ'⟩, e1, hf⟩ := obind hf
  obtain ⟨s, e2, hf⟩ := obind hf
  split at hf
  · cases hf
    exact h2 G0 H0 Z Γ σ G H _ d Γ' R e1 fun G1 H1 v R1 r1 => k Γ' σ G1 H1 v R1 e2 r1
  · cases hf
/-- del P[k:] -/
def sDelF (i : Nat) (rp : Pth) (f : Ex) : Sm := fun Γ => match gP i rp Γ with
  | some (.ow xs) => (f Γ).bind fun d => match d with
    | .int k => if 0 ≤ k ∧ k.toNat ≤ xs.length then upP i rp (.ow (xs.take k.toNat)) Γ else none
    | _ => none
  | _ => none
theorem s_delF {sp tpos : Pos} (hp : PL X o i rp) (he : E X e f) : DL.S X (.Delete [.Subscript o (.Slice (some e) none none sp) tpos] pos) (sDelF i rp f) := by
  obtain ⟨t, t1, t2⟩ := he.ex
  obtain ⟨u, u1, u2⟩ := hp.ex
  refine ⟨⟨_, ps_delF u1 t1, fun G0 H0 Z Γ σ G H D r R hf k => ?_⟩⟩
  unfold sDelF at hf
  cases q : gP i rp Γ with
  | none => rw [q] at hf; cases hf
  | some par =>
    rw [q] at hf
    cases par with
    | ow xs =>
      obtain ⟨d, e1, hf⟩ := obind hf
      cases d with
      | int j =>
        replace hf : (if 0 ≤ j ∧ j.toNat ≤ xs.length then upP i rp (.ow (xs.take j.toNat)) Γ else none) = some r := hf
        split at hf
        · rename_i hj
          obtain ⟨s, s2, a1, a2, rfl⟩ := upP_some hf
          obtain ⟨s', b1, b2, b3⟩ := gP_some q (by simp [SlP])
          rw [a1] at b1
          cases b1
          refine u2 G0 H0 Z Γ σ G H G H _ s _ R (Ext.refl R.gh) a1 b2 b3 (by simp) fun v pk => ?_
          refine t2 G0 H0 Z Γ σ G H _ _ R e1 fun G1 H1 w x1 r1 => ?_
          obtain ⟨F1, p1⟩ := pk G1 H1 x1
          obtain ⟨l, vs, rfl, d1, d2, d3⟩ := p1.list x1.gh
          rw [r1.intv]
          refine ⟨l, vs, j.toNat, rfl, by rw [Int.toNat_of_nonneg hj.1], d1, by rw [d2.length]; exact hj.2, ?_⟩
          exact k σ G1 _ (d3 _ _ _ (d2.take _) a2)
        · cases hf
      | _ => cases hf
    | _ => cases hf
end
end DL

namespace DL
open PySem L2
variable [TC : TabCtx]

section
variable {X : Cx} {e a b o : Expr} {es : List Expr} {f g k : Ex} {fs : Ag} {pos pos' : Pos} {n i : Nat} {rp : Pth}
/-- a + b of lists that are looked at: a new list -/
def gCat (f g : Ex) : Ag := fun Γ => (f Γ).bind fun x => (g Γ).bind fun y => match x, y with
  | .lst xs, .lst ys => if xs.length + ys.length < 1000000 then some (xs ++ ys) else none
  | _, _ => none
theorem el_cat (ha : B X a f) (hb : B X b g) : EL X (.BinOp a .Add b pos) (gCat f g) := by
  obtain ⟨t, h1, h2⟩ := ha.ex
  obtain ⟨u, q1, q2⟩ := hb.ex
  refine ⟨⟨_, pe_op op_cat h1 q1, fun G0 H0 Z Γ σ G H Q ds R hf k => ?_⟩⟩
  obtain ⟨x, e1, hf⟩ := obind hf
  obtain ⟨y, e2, hf⟩ := obind hf
  cases x with
  | lst xs =>
    cases y with
    | lst ys =>
      replace hf : (if xs.length + ys.length < 1000000 then some (xs ++ ys) else none) = some ds := hf
      split at hf
      · rename_i hz
        cases hf
        refine h2 G0 H0 Z Γ σ G H _ _ R e1 fun G1 H1 v x1 r1 => ?_
        refine q2 G0 H0 Z Γ σ G1 H1 _ _ (R.ext x1) e2 fun G2 H2 w x2 r2 => ?_
        obtain ⟨p, vs, rfl, hp, rp⟩ := (r1.ext x2).lst x2.gh
        obtain ⟨q, ws, rfl, hq, rq⟩ := r2.lst x2.gh
        refine ⟨p, q, vs, ws, rfl, rfl, hp, hq, by rw [rp.length, rq.length]; exact Nat.le_trans (Nat.le_of_lt hz) line_big, fun l hl => ?_⟩
        exact k G2 _ l _ ((x1.trans x2).trans (Ext.own1 x2.gh hl)) ((x1.trans x2).hf hl) (x2.gh.free hl) upd_same (rp.append rq)
      · cases hf
    | _ => cases hf
  | _ => cases hf

/-! P.f += e -/
theorem Pack.setSh {K : PySem.W.Frag} {mg : Str → Option Value} {G0 H0 G H Hb : Hp} {Z : Zs} {Γ : DEnv} {σ : L2.St} {s s2 : Sl} {c j : Nat} {x : Str} {fs : List Sl} {v0 v : V} {F1 : Addr → Prop} {d : D} (P : Pack K mg G0 H0 Z Γ σ i rp s (.ob c fs) v0 F1 Hb G H) (gh : Same G H)
    (hj : (cF c)[j]? = some x) (nd : (cF c).Nodup) (r : Rep K mg G v d) (hl : j < fs.length) (es : setR rp (.ob c (fs.set j (.sh d))) s = some s2) :
    ∃ p C dx vs, v0 = .ref p ∧ mg (cN c) = some (.ref C) ∧ H p = some (.ins C dx ((cF c).zip vs)) ∧ Rel K mg G0 H0 Z (Γ.set i s2) σ G (upd H p (.ins C dx (putF x v ((cF c).zip vs)))) := by
  have hd := P.hd
  cases hd with
  | ob f hm ho n sF rr =>
    rename_i p C dx vs F'
    have gp := (P.fr p f).1
    have hlen := rr.length
    refine ⟨p, C, dx, vs, rfl, hm, ho, ?_⟩
    rw [putF_set nd hj (by rw [hlen]; exact hl)]
    have keep : ∀ (Y : Addr → Prop), ¬ Y p → ∀ a o, Y a → H a = some o → upd H p (.ins C dx ((cF c).zip (vs.set j v))) a = some o := fun Y hy a o ya q => by
      rw [upd_ne]
      · exact q
      · intro e; subst e; exact hy ya
    refine P.up G _ F1 (.ob c (fs.set j (.sh d))) s2 (Same.refl _) (fun a o q => ?_) (fun a q => .inl q) (fun a o nf q => ?_) ?_ (fun a y => ?_) (fun _ => rfl) es
    · rw [upd_ne (ne_of_none q gp)]; exact gh _ _ q
    · rw [upd_ne]
      · exact q
      · intro e; subst e; exact nf f
    · have hs := (rr.mono (H' := upd H p (.ins C dx ((cF c).zip (vs.set j v)))) (Same.refl _) (fun a o y q _ => keep F' n a o y q)).setv j (F1 := fun _ => False) (Hd.sh r) (fun _ z => z.elim)
      exact .ob f hm upd_same (F' := fun a => F' a ∨ False) (fun y => y.elim n id) (fun a y => y.elim (sF a) False.elim) hs
    · refine ⟨(P.fr a y).1, ?_, .inl y⟩
      by_cases e : a = p
      · subst e; rw [upd_same]; simp
      · rw [upd_ne e]; exact (P.fr a y).2.2.1
def sAugF (i : Nat) (rp : Pth) (c j : Nat) (f : Ex) : Sm := fun Γ => match gP i rp Γ with
  | some (.ob c' fs) => if c' = c then (match fs[j]? with
    | some (.sh (.int a)) => (f Γ).bind fun d => match d with
      | .int b => upP i rp (.ob c (fs.set j (.sh (.int (a + b))))) Γ
      | _ => none
    | _ => none) else none
  | _ => none
theorem s_augF {c j : Nat} {C : Addr} {x : Str} {tpos : Pos} (ck : CK X.K X.mg c C) (hp : PL X o i rp) (he : E X e f) (hj : (cF c)[j]? = some x := by rfl) (nd : (cF c).Nodup := by decide +kernel) :
    S X (.AugAssign (.Attribute o x tpos) .Add e pos) (sAugF i rp c j f) := by
  obtain ⟨t, t1, t2⟩ := he.ex
  obtain ⟨u, u1, u2⟩ := hp.ex
  refine ⟨⟨_, ps_fldaug u1 t1 in_add, fun G0 H0 Z Γ σ G H D r R hf k => ?_⟩⟩
  unfold sAugF at hf
  cases q : gP i rp Γ with
  | none => rw [q] at hf; cases hf
  | some par =>
    rw [q] at hf
    cases par with
    | ob c' fls =>
      replace hf : (if c' = c then (match fls[j]? with
        | some (.sh (.int a)) => (f Γ).bind fun d => match d with
          | .int b => upP i rp (.ob c (fls.set j (.sh (.int (a + b))))) Γ
          | _ => none
        | _ => none) else none) = some r := hf
      split at hf
      · rename_i hc
        subst hc
        split at hf
        · rename_i a0 hfa
          obtain ⟨d, e1, hf⟩ := obind hf
          cases d with
          | int b0 =>
            replace hf : upP i rp (.ob c' (fls.set j (.sh (.int (a0 + b0))))) Γ = some r := hf
            obtain ⟨s, s2, a1, a2, rfl⟩ := upP_some hf
            obtain ⟨s', b1, b2, b3⟩ := gP_some q (by simp [SlP])
            rw [a1] at b1
            cases b1
            refine u2 G0 H0 Z Γ σ G H G H _ s _ R (Ext.refl R.gh) a1 b2 b3 (by simp) fun v0 pk => ?_
            obtain ⟨F0, P0⟩ := pk G H (Ext.refl R.gh)
            obtain ⟨p, C1, dx, vs, v1, F2, rfl, hm, ho, e2, P1⟩ := P0.fld b2 hfa
            rw [ck.hm] at hm
            cases hm
            have hv1 := P1.hd
            cases hv1 with
            | sh rv =>
              rw [rv.intv] at e2
              refine ⟨p, _, dx, _, .int a0, rfl, ho, ck.cl, ck.na x (List.mem_of_getElem? hj), zip_lookup nd hj e2, ?_⟩
              refine t2 G0 H0 Z Γ σ G H _ _ R e1 fun G1 H1 w x1 r1 => ?_
              rw [r1.intv]
              refine ⟨a0, b0, rfl, rfl, ?_⟩
              obtain ⟨F3, P3⟩ := pk G1 H1 x1
              obtain ⟨p', C2, dx2, vs2, ep, hm2, ho2, RR⟩ := P3.setSh x1.gh hj nd (v := .int (a0 + b0)) (.int _) ((List.getElem?_eq_some_iff.mp hfa).1) a2
              cases ep
              rw [ck.hm] at hm2
              cases hm2
              exact ⟨dx2, _, ho2, zip_short, k σ G1 _ RR⟩
          | _ => cases hf
        · cases hf
      · cases hf
    | _ => cases hf

/-! del P[k] -/
def sDelI (i : Nat) (rp : Pth) (f : Ex) : Sm := fun Γ => match gP i rp Γ with
  | some (.ow xs) => (f Γ).bind fun d => match d with
    | .int k => if -(2 ^ 63) ≤ k ∧ k < 2 ^ 63 then (seqIndex? k xs.length).bind fun m => upP i rp (.ow (xs.eraseIdx m)) Γ else none
    | _ => none
  | _ => none
theorem RepL.eraseIdx {K : PySem.W.Frag} {mg : Str → Option Value} {G : Hp} : ∀ (i : Nat) {vs : List V} {ds : List D}, RepL K mg G vs ds → RepL K mg G (vs.eraseIdx i) (ds.eraseIdx i)
  | _, _, _, .nil => .nil
  | 0, _, _, .cons _ r => r
  | i + 1, _, _, .cons h r => .cons h (r.eraseIdx i)
theorem s_delI {tpos : Pos} (hp : PL X o i rp) (he : E X e f) : S X (.Delete [.Subscript o e tpos] pos) (sDelI i rp f) := by
  obtain ⟨t, t1, t2⟩ := he.ex
  obtain ⟨u, u1, u2⟩ := hp.ex
  refine ⟨⟨_, ps_delL u1 t1, fun G0 H0 Z Γ σ G H D r R hf k => ?_⟩⟩
  unfold sDelI at hf
  cases q : gP i rp Γ with
  | none => rw [q] at hf; cases hf
  | some par =>
    rw [q] at hf
    cases par with
    | ow xs =>
      obtain ⟨d, e1, hf⟩ := obind hf
      cases d with
      | int j =>
        replace hf : (if -(2 ^ 63) ≤ j ∧ j < 2 ^ 63 then (seqIndex? j xs.length).bind fun m => upP i rp (.ow (xs.eraseIdx m)) Γ else none) = some r := hf
        split at hf
        · rename_i hj
          obtain ⟨m, e3, hf⟩ := obind hf
          obtain ⟨s, s2, a1, a2, rfl⟩ := upP_some hf
          obtain ⟨s', b1, b2, b3⟩ := gP_some q (by simp [SlP])
          rw [a1] at b1
          cases b1
          refine u2 G0 H0 Z Γ σ G H G H _ s _ R (Ext.refl R.gh) a1 b2 b3 (by simp) fun v pk => ?_
          refine t2 G0 H0 Z Γ σ G H _ _ R e1 fun G1 H1 w x1 r1 => ?_
          obtain ⟨F1, p1⟩ := pk G1 H1 x1
          obtain ⟨l, vs, rfl, d1, d2, d3⟩ := p1.list x1.gh
          rw [r1.intv]
          refine ⟨l, vs, j, m, rfl, rfl, d1, hj.1, hj.2, by rw [d2.length]; exact e3, ?_⟩
          exact k σ G1 _ (d3 _ _ _ (RepL.eraseIdx m d2) a2)
        · cases hf
      | _ => cases hf
    | _ => cases hf

/-! P.insert(k, e), P.extend(e) -/
def sIns (i : Nat) (rp : Pth) (k f : Ex) : Sm := fun Γ => (k Γ).bind fun j => (f Γ).bind fun d => match gP i rp Γ, j with
  | some (.ow xs), .int j => if xs.length < 1000000 ∧ 0 ≤ j ∧ j < 2 ^ 63 then upP i rp (.ow (xs.take j.toNat ++ [d] ++ xs.drop j.toNat)) Γ else none
  | _, _ => none
theorem s_ins {ap : Pos} (hp : PL X o i rp) (hk : E X a k) (he : E X e f) (hst : starEach [a, e] X.env = (false, eval a X.env) :: starEach [e] X.env := by rfl) (hst2 : starEach [e] X.env = (false, eval e X.env) :: starEach [] X.env := by rfl)
    (hpe : ∀ {r : V → List V → Hp → VK → Prop} {to : TE} {ta : TA}, MtR X "list.insert" r → PE X o to → PA X [a, e] ta → PE X (.Call (.Attribute o "insert" ap) [a, e] [] pos) (tBM X.K "list" r to ta) := by intro r to ta hm ho hp; exact pe_bm PySem.F.plainAttrs_list PySem.F.slot_list_insert PySem.F.type_list_insert hm ho hp)
    (hs : swapsWith (.Call (.Attribute o "insert" ap) [a, e] [] pos) none pos'.line X.env = pure false := by rfl) : S X (.Expr (.Call (.Attribute o "insert" ap) [a, e] [] pos) pos') (sIns i rp k f) := by
  obtain ⟨t, h1, h2⟩ := he.ex
  obtain ⟨w, w1, w2⟩ := hk.ex
  obtain ⟨u, u1, u2⟩ := hp.ex
  refine ⟨⟨_, ps_expr (hpe mt_insert u1 (pa_cons w1 (pa_cons h1 pa_nil hst2) hst)) hs, fun G0 H0 Z Γ σ G H D r R hf kk => ?_⟩⟩
  obtain ⟨j, e1, hf⟩ := obind hf
  obtain ⟨d, e2, hf⟩ := obind hf
  cases q : gP i rp Γ with
  | none => rw [q] at hf; cases hf
  | some s1 =>
    rw [q] at hf
    cases s1 with
    | ow xs =>
      cases j with
      | int j =>
        replace hf : (if xs.length < 1000000 ∧ 0 ≤ j ∧ j < 2 ^ 63 then upP i rp (.ow (xs.take j.toNat ++ [d] ++ xs.drop j.toNat)) Γ else none) = some r := hf
        split at hf
        · rename_i hl
          obtain ⟨s, s2, a1, a2, rfl⟩ := upP_some hf
          obtain ⟨s', b1, b2, b3⟩ := gP_some q (by simp [SlP])
          rw [a1] at b1
          cases b1
          refine u2 G0 H0 Z Γ σ G H G H _ s _ R (Ext.refl R.gh) a1 b2 b3 (by simp) fun v pk => ?_
          obtain ⟨F0, p0⟩ := pk G H (Ext.refl R.gh)
          obtain ⟨l0, vs0, rfl, c1, c2, _⟩ := p0.list R.gh
          refine ⟨.inl ⟨rfl, _, SqL.of c1⟩, ?_⟩
          refine w2 G0 H0 Z Γ σ G H _ _ R e1 fun G1 H1 z x1 r1 => ?_
          refine h2 G0 H0 Z Γ σ G1 H1 _ _ (R.ext x1) e2 fun G2 H2 y x2 r2 => ?_
          obtain ⟨F1, p1⟩ := pk G2 H2 (x1.trans x2)
          obtain ⟨l, vs, el, d1, d2, d3⟩ := p1.list x2.gh
          cases el
          rw [r1.intv]
          refine ⟨_, vs, j, y, rfl, rfl, d1, by rw [d2.length]; exact Nat.lt_of_lt_of_le hl.1 line_big, hl.2.1, hl.2.2, ?_⟩
          exact kk σ G2 _ (d3 _ _ _ (((d2.take _).append (.cons r2 .nil)).append (d2.drop _)) a2)
        · cases hf
      | _ => cases hf
    | _ => cases hf
def sExt (i : Nat) (rp : Pth) (f : Ag) : Sm := fun Γ => (f Γ).bind fun ds => match gP i rp Γ with
  | some (.ow xs) => if xs.length + ds.length < 1000000 then upP i rp (.ow (xs ++ ds)) Γ else none
  | _ => none
theorem s_ext {ap : Pos} (hp : PL X o i rp) (he : EL X e fs) (hst : starEach [e] X.env = (false, eval e X.env) :: starEach [] X.env := by rfl)
    (hpe : ∀ {r : V → List V → Hp → VK → Prop} {to te : TE}, MtR X "list.extend" r → PE X o to → PE X e te → PE X (.Call (.Attribute o "extend" ap) [e] [] pos) (tBM X.K "list" r to (tCons te tNil)) := by intro r to te hm ho hp; exact pe_bm PySem.F.plainAttrs_list PySem.F.slot_list_extend PySem.F.type_list_extend hm ho (pa_cons hp pa_nil))
    (hs : swapsWith (.Call (.Attribute o "extend" ap) [e] [] pos) none pos'.line X.env = pure false := by rfl) : S X (.Expr (.Call (.Attribute o "extend" ap) [e] [] pos) pos') (sExt i rp fs) := by
  obtain ⟨t, h1, h2⟩ := he.ex
  obtain ⟨u, u1, u2⟩ := hp.ex
  refine ⟨⟨_, ps_expr (hpe mt_extend u1 h1) hs, fun G0 H0 Z Γ σ G H D r R hf k => ?_⟩⟩
  obtain ⟨ds, e1, hf⟩ := obind hf
  cases q : gP i rp Γ with
  | none => rw [q] at hf; cases hf
  | some s1 =>
    rw [q] at hf
    cases s1 with
    | ow xs =>
      replace hf : (if xs.length + ds.length < 1000000 then upP i rp (.ow (xs ++ ds)) Γ else none) = some r := hf
      split at hf
      · rename_i hl
        obtain ⟨s, s2, a1, a2, rfl⟩ := upP_some hf
        obtain ⟨s', b1, b2, b3⟩ := gP_some q (by simp [SlP])
        rw [a1] at b1
        cases b1
        refine u2 G0 H0 Z Γ σ G H G H _ s _ R (Ext.refl R.gh) a1 b2 b3 (by simp) fun v pk => ?_
        obtain ⟨F0, p0⟩ := pk G H (Ext.refl R.gh)
        obtain ⟨l0, vs0, rfl, c1, c2, _⟩ := p0.list R.gh
        refine ⟨.inl ⟨rfl, _, SqL.of c1⟩, ?_⟩
        refine h2 G0 H0 Z Γ σ G H _ _ R e1 fun G1 H1 q vs x1 hq gq hv rv => ?_
        obtain ⟨F1, p1⟩ := pk G1 H1 x1
        obtain ⟨l, ws, el, d1, d2, d3⟩ := p1.list x1.gh
        cases el
        refine ⟨_, q, ws, vs, rfl, rfl, d1, hv, by rw [d2.length, rv.length]; exact Nat.le_trans (Nat.le_of_lt hl) line_big, ?_⟩
        exact k σ G1 _ (d3 _ _ _ (d2.append rv) a2)
      · cases hf
    | _ => cases hf
end
end DL

namespace DL
open PySem L2
variable [TC : TabCtx]
/-- isinstance(x, C), C a class of the program -/
structure CI (K : PySem.W.Frag) (mg : Str → Option Value) (c : Nat) (C : Addr) : Prop where
  hm : mg (cN c) = some (.ref C)
  cl : Cls K C
  ha : PySem.W.findIn K (.ref C) "__class__" = some (some (.builtin "object.__class__"))
  hn : PySem.W.specialIn K (.builtin "object.__class__") "__get__" = some (some (.builtin "getset_descriptor.__get__"))
  ht : PySem.W.takesIn K (.builtin "object.__class__") = some true
  hr : PySem.W.mroIn K C (.type "object") = some true
def dIsiC (c : Nat) : D → Option D
  | .obj c' _ => if c' = c then some (.bl true) else none
  | _ => none
section
variable {X : Cx} {a : Expr} {f : Ex} {pos : Pos}
theorem e_isiC {c : Nat} {C : Addr} {x : Str} {p p2 : Pos} (ci : CI X.K X.mg c C) (hg : Gl X x) (hm : X.mg x = none) (hv : bootBuiltins x = some (.builtin "isinstance")) (ha : B X a f)
    (hgy : Gl X (cN c) := by rfl) (hn : x ≠ "__name__" := by decide) (hdb : (x == ("__debug__" : Str)) = false := by decide) (hdby : (cN c == ("__debug__" : Str)) = false := by decide)
    (he : starEach [a, .Name (cN c) p2] X.env = (false, eval a X.env) :: starEach [.Name (cN c) p2] X.env := by rfl) (hpl : (backTo pos (starEach [.Name (cN c) p2] X.env)).any (·.1) = false := by rfl) (he2 : starEach [.Name (cN c) p2] X.env = (false, eval (.Name (cN c) p2) X.env) :: starEach [] X.env := by rfl) :
    E X (.Call (.Name x p) [a, .Name (cN c) p2] [] pos) (gU (dIsiC c) f) := by
  obtain ⟨t, h1, h2⟩ := ha.ex
  refine ⟨⟨_, pe_callB call_isi hg hm hv (pa_cons h1 (pa_cons (pe_glob (v := .ref C) hgy ci.hm rfl hdby) pa_nil he2) he) hn hdb he hpl, fun G0 H0 Z Γ σ G H Q d R hf k => ?_⟩⟩
  obtain ⟨y, e1, hv'⟩ := obind hf
  clear hf
  refine h2 G0 H0 Z Γ σ G H _ y R e1 fun G1 H1 v x1 r1 => ?_
  cases y with
  | obj c' ds =>
    replace hv' : (if c' = c then some (D.bl true) else none) = some d := hv'
    split at hv'
    · rename_i cz
      subst cz
      cases hv'
      obtain ⟨q, C', dx, vs, rfl, hm', hp, _⟩ := r1.objAt x1.gh
      rw [ci.hm] at hm'
      cases hm'
      refine ⟨_, _, .ref C, .ref C, true, rfl, .own C, .base (.ins hp ci.cl ci.ha ci.hn ci.ht ci.hr), ?_, k G1 H1 _ x1 (.bl true)⟩
      unfold PySem.W.kitOne
      rw [if_pos (beq_self_eq_true _)]
    · cases hv'
  | _ => cases hv'
end
end DL

namespace DL
open PySem L2
variable [TC : TabCtx]

/-! ### objects that are made of things that are only looked at -/
open Classical in
noncomputable abbrev maskH (Fp : Addr → Prop) (H : Hp) : Hp := fun a => if Fp a then none else H a
def spMK (K : PySem.W.Frag) (mg : Str → Option Value) (ms : List Bool) (F : Sl → List D → Option (D × Sl)) : Sp := fun vs H Q _ =>
  ∃ v0 args G s ds d s' Fp, vs = v0 :: args ∧ Same G H ∧ TC.ti.t G H ∧ Hd K mg G H v0 Fp s ∧ (∀ a, Fp a → G a = none ∧ H a ≠ none ∧ ¬ TC.ti.tz a) ∧ RepM K mg G (maskH Fp H) ms args ds ∧ F s ds = some (d, s') ∧
    ∀ G' H' v Fp', Same G G' → Same G' H' → TC.ti.t G' H' → (∀ a, ¬ Fp a → H a ≠ none → H' a ≠ none) → (∀ a, G' a ≠ none → G a ≠ none ∨ H a = none ∨ Fp a) → (∀ a o, ¬ Fp a → H a = some o → NT o → H' a = some o) → Rep K mg G' v d → Hd K mg G' H' v0 Fp' s' → (∀ a, Fp' a → G' a = none ∧ H' a ≠ none ∧ (Fp a ∨ H a = none)) → Q v H'
def runMK (ms : List Bool) (n : Nat) (B : Sm) : Sl → List D → Option (D × Sl) := fun s ds => (B (s :: slM ms ds ++ List.replicate (n - (ms.length + 1)) .no)).bind fun r => match r with
  | .rm d s' => if isOwn s' then some (d, s') else none
  | .nx Γ => (Γ[0]?).bind fun s' => if isOwn s' then some (.non, s') else none
  | _ => none
section
variable {P : Program} {w : World} {K : PySem.W.Frag} {mg : Str → Option Value} {base : Heap}
theorem startMK_rel {G H : Hp} {N : List Str} {v0 : V} {vs : List V} {s : Sl} {ds : List D} {ms : List Bool} {Fp : Addr → Prop} (gh : Same G H) (tb : TC.ti.t G H) (hd : Hd K mg G H v0 Fp s) (fr : ∀ a, Fp a → G a = none ∧ H a ≠ none ∧ ¬ TC.ti.tz a) (r : RepM K mg G (maskH Fp H) ms vs ds) :
    Rel K mg G (maskH Fp H) ⟨TC.ti.tz, some v0, TC.ti⟩ (s :: slM ms ds ++ List.replicate (N.length - (ms.length + 1)) .no) (L2.start N (v0 :: vs)) G H := by
  obtain ⟨hv, hdl⟩ := r.len
  have hl := slM_len hdl
  unfold L2.start
  refine ⟨by simp [hl, hv], gh, fun a o q _ => ?_, Same.refl _, fun a h => .inl h, fun a z => (TC.ti.live tb a z).1, fun v s' e1 _ _ => by cases e1; simp, tb, fun _ h => h, rfl, fun a h => by
    by_cases x : Fp a
    · simp [maskH, x] at h
    · simpa [maskH, x] using h, fun i a => i = 0 ∧ Fp a, fun i a z => ⟨(fr a z.2).1, by simp [maskH, z.2], (fr a z.2).2.1, (fr a z.2).2.2⟩, fun i j a z1 z2 => z1.1.trans z2.1.symm, fun i s' h => ?_⟩
  · unfold maskH at q
    split at q
    · cases q
    · exact q
  · cases i with
    | zero =>
      simp at h
      subst h
      exact .inr (.inl ⟨v0, by simp, hd.wide fun a x => ⟨rfl, x⟩⟩)
    | succ i =>
      have e : N.length - (ms.length + 1) = (N.length - 1) - ms.length := by omega
      rw [List.cons_append, List.getElem?_cons_succ, e] at h
      by_cases hi : i < ms.length
      · rw [List.getElem?_append_left (by omega)] at h
        obtain ⟨v, d, e1, e2⟩ := r.get i h
        have st : ((v0 :: vs).map some ++ List.replicate (N.length - (v0 :: vs).length) none)[i + 1]? = some (some v) := by
          rw [List.map_cons, List.cons_append, List.getElem?_cons_succ, List.getElem?_append_left (by simp; omega), List.getElem?_map, e1]
          rfl
        rcases e2 with ⟨rfl, e2⟩ | ⟨rfl, e2⟩
        · exact .inr (.inl ⟨v, st, .sh e2⟩)
        · exact .inr (.inr ⟨v, d, rfl, st, e2⟩)
      · rw [List.getElem?_append_right (by omega), List.getElem?_replicate] at h
        split at h
        · cases h; exact .inl rfl
        · cases h
open Classical in
theorem def_okMK {x qual : Str} {st : Stmt} {f : Addr} {fd : FuncData} {N ps : List Str} {k : Nat} {B : Sm} {ms : List Bool} (F : Fun K x qual st f fd) (S : FnScope N ps (defScope st)) (hps : ps.length = ms.length + 1)
    (hbody : ∀ (cdv : Value) (A : Around) (outer : List PySem.Env) (s : Shared) (H : Hp) (E : XK), Room k (A.deeper (PyProof.Rows.envOfC qual (defScope st) s.heap.objs.size f cdv)) →
      Ss (cxOf CX0 P w K mg base N qual (defScope st) f cdv A outer s H E).nox (defBody st) B) : FnOk P w K mg base CX0 (k + 1) f fd ps (spMK K mg ms (runMK ms N.length B)) := by
  refine F.ok S (fun vs H Q E h => ?_) (fun cdv A outer s H vs Q E hr h => ?_)
  · obtain ⟨v0, args, G, s, ds, d, s', Fp, rfl, _, _, _, _, r, _⟩ := h
    simp [r.len.1, hps]
  · obtain ⟨v0, args, G, sl, ds, d, s', Fp, rfl, gh, tb, hd, fr, r, hf, kk⟩ := h
    obtain ⟨t, h1, h2⟩ := (hbody cdv A outer s H E hr).ex
    refine ⟨t, h1, ?_⟩
    obtain ⟨r1, e1, hf⟩ := obind hf
    have R := startMK_rel (N := N) gh tb hd fr r
    have fin : ∀ (Γ : DEnv) (σ : L2.St) (G' H' : Hp) (v : V), Rel K mg G (maskH Fp H) ⟨TC.ti.tz, some v0, TC.ti⟩ Γ σ G' H' → Γ[0]? = some s' → isOwn s' = true → Rep K mg G' v d → Q v H' := fun Γ σ G' H' v R' e0 ns rv => by
      have es := R'.an v0 s' rfl e0 ns
      obtain ⟨own, o1, o2, o3⟩ := R'.own
      rcases o3 0 s' e0 with z | ⟨v', z1, z2⟩ | ⟨_, _, z, _⟩
      · rw [z] at ns; cases ns
      rotate_left
      · rw [z] at ns; cases ns
      · rw [es] at z1
        cases z1
        refine kk G' H' v (own 0) R'.gg R'.gh R'.tbc (fun a nf h => R'.hn a (by simpa [nf] using h)) (fun a q => ?_) (fun a o nf q n => R'.hh a o (by simp [nf, q]) n) rv z2 fun a y => ?_
        · rcases R'.new a q with z | z
          · exact .inl z
          · by_cases fa : Fp a
            · exact .inr (.inr fa)
            · simp [fa] at z
              exact .inr (.inl z)
        · obtain ⟨w1, w2, w3, w4⟩ := o1 0 a y
          refine ⟨w1, w3, ?_⟩
          by_cases fa : Fp a
          · exact .inl fa
          · simp [fa] at w2
            exact .inr w2
    refine h2 G _ _ _ _ G H _ r1 R e1 ?_
    cases r1 with
    | rm d' s2 =>
      replace hf : (if isOwn s2 then some (d', s2) else none) = some (d, s') := hf
      split at hf
      · rename_i ns
        cases hf
        exact fun Γ σ G' H' v R' e0 rv => fin Γ σ G' H' v R' e0 ns rv
      · cases hf
    | nx Γ =>
      obtain ⟨s2, e2, hf⟩ := obind hf
      split at hf
      · rename_i ns
        cases hf
        exact fun σ' G' H' R' => fin Γ σ' G' H' _ R' e2 ns .non
      · cases hf
    | rt d => cases hf
    | ro s => cases hf
    | bk Γ => cases hf
    | ct Γ => cases hf
    | ra n => cases hf
end
structure MakK (P : Program) (w : World) (K : PySem.W.Frag) (mg : Str → Option Value) (base : Heap) (c L : Nat) (ps : List Str) (ms : List Bool) (S : Sl → List D → Option (D × Sl)) : Prop where
  ex : ∃ C f fd p0 ps', ps = p0 :: ps' ∧ mg (cN c) = some (.ref C) ∧ Mk K C f ∧ FnOk P w K mg base CX0 L f fd ps (spMK K mg ms S) ∧ Binds K fd ps []
section
variable {X : Cx} {a : Expr} {es : List Expr} {fs : Ag} {pos p : Pos}
theorem make_okK {c : Nat} {C : Addr} {ms : List Bool} {S : Sl → List D → Option (D × Sl)} {t : TA} (hm : X.mg (cN c) = some (.ref C))
    (h2 : ∀ (G0 H0 : Hp) (Z : Zs) (Γ : DEnv) (σ : L2.St) (G H : Hp) (Q : List V → Hp → Prop) (ds : List D), Rel X.K X.mg G0 H0 Z Γ σ G H → fs Γ = some ds → (∀ G' H' vs, Ext G H G' H' → RepM X.K X.mg G' H' ms vs ds → Q vs H') → t σ H Q) :
    ∀ (G0 H0 : Hp) (Z : Zs) (Γ : DEnv) (σ : L2.St) (G H : Hp) (Q : VK) (s : Sl), Rel X.K X.mg G0 H0 Z Γ σ G H → gMk c S fs Γ = some s → (∀ G' H' v F, Ext G H G' H' → Hd X.K X.mg G' H' v F s → (∀ a, F a → G' a = none ∧ H a = none ∧ H' a ≠ none) → Q v H') → tMake C (spMK X.K X.mg ms S) [] E0 t σ H Q := by
  intro G0 H0 Z Γ σ G H Q s R hf k
  obtain ⟨ds, e1, hf⟩ := obind hf
  obtain ⟨⟨d, s'⟩, e2, hf⟩ := obind hf
  have hd : d = .non ∧ s' = s := by
    cases d with
    | non => cases hf; exact ⟨rfl, rfl⟩
    | _ => cases hf
  obtain ⟨rfl, rfl⟩ := hd
  refine h2 G0 H0 Z Γ σ G H _ ds R e1 fun G1 H1 vs x1 r1 => ?_
  intro x dx nx ndx ne
  have gx : G1 x = none := x1.gh.free nx
  have Hx : H x = none := x1.hf nx
  have T1 := (R.ext x1).tbc
  have keep : ∀ b o, H1 b = some o → upd (upd H1 dx (.own x)) x (.ins C dx []) b = some o := fun b o q => by
    rw [upd_ne (ne_of_none q nx), upd_ne (ne_of_none q ndx)]; exact q
  refine ⟨.ref x, vs, G1, .ob c [], ds, .non, s', fun b => b = x, by rw [List.append_nil], fun b o q => keep b o (x1.gh _ _ q), TC.ti.keep T1 (Same.refl _) (fun a h => same_at (fun b o q => keep b o q) (TC.ti.live T1 a h).1) (fun _ _ g => g), ?_, fun b e => by subst e; exact ⟨gx, by rw [upd_same]; simp, fun z => (TC.ti.live T1 _ z).1 nx⟩, r1.ext (Ext.same (Same.refl _) (fun b o q => ?_) (fun b o q => ?_) fun b q => .inl q), e2, ?_⟩
  · exact .ob (F' := fun _ => False) (dx := dx) (vs := []) rfl hm (by rw [upd_same, List.zip_nil_right]) (fun z => z) (fun _ z => z.elim) .nil
  · unfold maskH
    rw [if_neg (fun e => by subst e; rw [nx] at q; cases q)]
    exact keep b o q
  · unfold maskH
    rw [if_neg (fun e => by subst e; rw [gx] at q; cases q)]
    exact keep b o (x1.gh _ _ q)
  · intro G' H' v Fp' gg gh tb' hn' nw kp rv hv fr
    cases rv
    have keep' : ∀ b o, H b = some o → NT o → upd (upd H1 dx (.own x)) x (.ins C dx []) b = some o := fun b o q n => keep b o (x1.hh b o q n)
    have kn : ∀ b, H1 b ≠ none → upd (upd H1 dx (.own x)) x (.ins C dx []) b ≠ none := fun b h => nn (fun b o q => keep b o q) h
    refine ⟨rfl, k G' H' (.ref x) Fp' ⟨x1.gg.trans gg, fun b o q n => ?_, gh, fun b q => ?_, fun b h => hn' b (fun e => by subst e; exact h Hx) (kn b (x1.hn b h)), fun _ => tb'⟩ hv fun b y => ?_⟩
    · exact kp b o (fun e => by subst e; rw [Hx] at q; cases q) (keep' b o q n) n
    · rcases nw b q with z | z | z
      · exact x1.new b z
      · refine .inr ?_
        cases e : H b with
        | none => rfl
        | some o => exact absurd z (kn b (x1.hn b (by rw [e]; simp)))
      · subst z; exact .inr Hx
    · obtain ⟨w1, w2, w3⟩ := fr b y
      refine ⟨w1, ?_, w2⟩
      rcases w3 with z | z
      · subst z; exact Hx
      · cases e : H b with
        | none => rfl
        | some o => exact absurd z (kn b (x1.hn b (by rw [e]; simp)))
theorem e_mkCK {c k L : Nat} {ps : List Str} {ms : List Bool} {S : Sl → List D → Option (D × Sl)} (m : MakK X.prog X.w X.K X.mg X.base c L ps ms S) (hr : Room k X.A) (hk : L + 1 ≤ k)
    (ha : AM X (a :: es) ms fs) (hg : Gl X (cN c) := by rfl) (hdb : (cN c == ("__debug__" : Str)) = false := by decide) (he : starEach (a :: es) X.env = (false, eval a X.env) :: starEach es X.env := by rfl) (hpl : (backTo pos (starEach es X.env)).any (·.1) = false := by rfl) :
    EN X (.Call (.Name (cN c) p) (a :: es) [] pos) (gMk c S fs) := by
  obtain ⟨C, f, fd, q0, ps', rfl, h1, h2, h3, h4⟩ := m.ex
  obtain ⟨t, t1, t2⟩ := ha.ex
  exact ⟨⟨_, pe_make h2 h3 (hr.mono hk) hg h1 h4 .nil pass0 t1 hdb he hpl, make_okK h1 t2⟩⟩
end
end DL

namespace DL
open PySem PySem.Spec PyProof.Rows L2
variable [TC : TabCtx]

/-! ### list(enumerate(xs)) -/
def EnumAt (h : Heap) (e it : Addr) (i : Nat) : Prop := (∃ old, IsEnum h e it ((i : Nat) : Int) old) ∨ ∃ old T f oT, IsEnumHeld h e it ((i : Nat) : Int) old T f ∧ h.get? T = some oT ∧ T ≠ e ∧ T ≠ it
/-- the pairs that are made so far, in the list at q -/
structure Built (K : PySem.W.Frag) (H0 : Hp) (a q : Addr) (xs : List V) (i : Nat) (Ts : List Addr) (H : Hp) : Prop where
  len : Ts.length = i
  lst : H q = some (.lst (Ts.map V.ref))
  keep : ∀ b o, H0 b = some o → H b = some o
  new : ∀ b, H b ≠ none → H0 b ≠ none ∨ b = q ∨ b ∈ Ts
  tup : ∀ j T, Ts[j]? = some T → H0 T = none ∧ T ≠ q ∧ ∃ x, xs[j]? = some x ∧ H T = some (.tup [.int (j : Nat), x])
  q0 : H0 q = none
  src : SqL K H0 a xs
section
variable {X : Cx} {pins : List (Addr × Obj)} {σ : L2.St} {A1 : Around} {H0 : Hp} {a q e it : Addr} {xs : List V} {Rs : Result → Shared → Prop}
theorem enum_loop (hh : A1.in1.handled = none) (hne : e ≠ it) (hdone : ∀ Ts H s, Inv X pins σ H s → Built X.K H0 a q xs xs.length Ts H → Rs (.ok (.ret .none)) s) :
    ∀ (m i : Nat) (Ts : List Addr) (H : Hp) (s : Shared), i + m = xs.length → Inv X pins σ H s → Built X.K H0 a q xs i Ts H → EnumAt s.heap e it i → s.heap.IsListIter it a i → (∀ b ∈ [e, it], FpOk X pins H b) →
      codeAny (model X.prog X.w) A1 (.builtin "list.extend.loop" ⟨[.ref q, .ref e, .none], []⟩) Rs s := by
  intro m
  induction m with
  | zero =>
    intro i Ts H s hi I B st hit hf
    obtain ⟨its, rv, pl, hz⟩ := I.list ((show Same H0 H from B.keep).seq B.src)
    have hl := rv.length
    have hx : its.toArray[i]? = none := by rw [Array.getElem?_eq_none (by simp; omega)]
    obtain ⟨f0, f1, f2, f3, f4, f5⟩ := hf it (by simp)
    refine codeAny_builtin PySem.F.entry_extend_loop ?_
    rw [Around.under_plainId PySem.F.plain_extend_loop _]
    show wpAny _ A1.in1 (pyNext (.ref e) >>= _) _ _ s
    have fin : ∀ h' : Heap, Heap.ExtBut it s.heap h' → Rs (.ok (.ret .none)) { s with heap := h' } := fun h' eb => by
      have I1 := I.turned (t' := s.toks) (fun b o hb k => eb b o hb k) f0 f1 f3 f4 f5
      have e2 : i = xs.length := by omega
      rw [e2] at B
      exact hdone Ts H _ I1 B
    rcases st with ⟨old, he⟩ | ⟨old, T, f, oT, he, hT, r1, r2⟩
    · exact wpAny_bind (wpAny_pyNext_enum_end hh he hit pl.isList hx fun h' eb => wpAny_pure (fin h' eb))
    · exact wpAny_bind (wpAny_pyNext_enum_end_held hh he hit pl.isList hx fun h' eb => wpAny_pure (fin h' eb))
  | succ m ih =>
    intro i Ts H s hi I B st hit hf
    obtain ⟨its, rv, pl, hz⟩ := I.list ((show Same H0 H from B.keep).seq B.src)
    have hl := rv.length
    obtain ⟨x, hx⟩ : ∃ x, xs[i]? = some x := ⟨_, List.getElem?_eq_getElem (by omega)⟩
    obtain ⟨u, hu, ru⟩ := rv.get hx
    have hil : it < s.heap.objs.size := by obtain ⟨_, k, _⟩ := hit; exact Heap.lt_size k
    refine codeAny_builtin PySem.F.entry_extend_loop ?_
    rw [Around.under_plainId PySem.F.plain_extend_loop _]
    show wpAny _ A1.in1 (pyNext (.ref e) >>= _) _ _ s
    have go : ∀ h' : Heap, EnumAt h' e it (i + 1) → h'.IsListIter it a (i + 1) → h'.get? s.heap.objs.size = some { cls := .type "tuple", data := .seq #[.int i s.toks, u] } → e < s.heap.objs.size →
        (∀ b o, b ≠ e → b ≠ it → s.heap.get? b = some o → h'.get? b = some o) →
        wpAny (model X.prog X.w) A1.in1 (updateSeq q (·.push (.ref s.heap.objs.size)) >>= fun _ => again (.builtin "list.extend.loop" ⟨[.ref q, .ref e, .none], []⟩)) (fun fin s' => match fin with | .done f => Rs (.ok f) s' | .again c' => c'.quiet = true ∧ codeAny (model X.prog X.w) A1 c' Rs s') (fun e s' => Rs (.error e) s') { s with heap := h', toks := s.toks + 1 } := fun h' st' hit' hT hel hk => by
      have fr : H s.heap.objs.size = none := I.hok.fresh (Nat.le_refl _)
      have new : ObjOk X.prog X.w (upd H s.heap.objs.size (.tup [.int (i : Nat), x])) h' s.heap.objs.size (.tup [.int (i : Nat), x]) :=
        ⟨by show 2 ≤ sizeLine; decide, [.int i s.toks, u], .cons ⟨_, rfl⟩ (.cons ru .nil), ⟨_, hT, rfl, _, rfl⟩⟩
      have I1 : Inv X pins σ (upd H s.heap.objs.size (.tup [.int (i : Nat), x])) { s with heap := h', toks := s.toks + 1 } :=
        I.turnedNew (ch := [e, it]) (fun b ob hb k => hk b ob (fun z => hb (by simp [z])) (fun z => hb (by simp [z])) k) hf (Nat.le_refl _) new
      have qne : q ≠ s.heap.objs.size := ne_of_none B.lst fr
      have hq1 : upd H s.heap.objs.size (.tup [.int (i : Nat), x]) q = some (.lst (Ts.map V.ref)) := by rw [upd_ne qne]; exact B.lst
      obtain ⟨z, its2, k2, r2, hl2, e2⟩ := I1.lstM hq1
      have l2 : its2.length = i := by rw [← hl2, List.length_map, B.len]
      refine wpAny_bind (wpAny_updateSeq e2 rfl (wpAny_pure ⟨plainId_quiet PySem.F.plain_extend_loop _, ?_⟩) (by show (its2.toArray).size ≤ sizeLine; rw [List.size_toArray]; omega) (by show (its2.toArray.push _).size ≤ sizeLine + 1; rw [Array.size_push, List.size_toArray]; omega))
      have I2 := I1.lset (f := (·.push (Value.ref s.heap.objs.size))) (its' := its2 ++ [.ref s.heap.objs.size]) (ys := Ts.map V.ref ++ [V.ref s.heap.objs.size]) (t' := s.toks + 1) hq1 e2 (by simp) (r2.append (.cons (show L2.RelV (V.ref s.heap.objs.size) (Value.ref s.heap.objs.size) from rfl) .nil)) (by rw [List.length_append, List.length_singleton, List.length_map, B.len]; omega)
      refine ih (i + 1) (Ts ++ [s.heap.objs.size]) _ _ (by omega) I2 ?_ ?_ ?_ ?_
      · refine ⟨by simp [B.len], by rw [upd_same, List.map_append]; rfl, fun b o k => ?_, fun b k => ?_, fun j T k => ?_, B.q0, B.src⟩
        · rw [upd_ne (ne_of_none k B.q0), upd_ne (ne_of_none (B.keep b o k) fr)]
          exact B.keep b o k
        · by_cases c1 : b = q
          · exact .inr (.inl c1)
          · rw [upd_ne c1] at k
            by_cases c2 : b = s.heap.objs.size
            · exact .inr (.inr (by simp [c2]))
            · rw [upd_ne c2] at k
              rcases B.new b k with z | z | z
              · exact .inl z
              · exact .inr (.inl z)
              · exact .inr (.inr (by simp [z]))
        · by_cases c : j < Ts.length
          · rw [List.getElem?_append_left c] at k
            obtain ⟨t1, t2, y, t3, t4⟩ := B.tup j T k
            refine ⟨t1, t2, y, t3, ?_⟩
            rw [upd_ne t2, upd_ne (ne_of_none t4 fr)]
            exact t4
          · rw [List.getElem?_append_right (by omega)] at k
            have e3 : j - Ts.length = 0 := by
              have := (List.getElem?_eq_some_iff.mp k).1
              simp at this
              omega
            rw [e3] at k
            have e4 : T = s.heap.objs.size := by simpa using k.symm
            have e5 : j = i := by rw [← B.len]; omega
            subst e4
            subst e5
            refine ⟨?_, Ne.symm qne, x, hx, by rw [upd_ne (Ne.symm qne), upd_same]⟩
            cases w : H0 s.heap.objs.size with
            | none => rfl
            | some o => rw [B.keep _ _ w] at fr; cases fr
      · have keepq : ∀ b o, b ≠ q → h'.get? b = some o → (h'.update q (Obj.mapSeq (·.push (Value.ref s.heap.objs.size)))).get? b = some o := fun b o hb k => (Heap.get?_update_other h' _ (Ne.symm hb)).trans k
        have eq : e ≠ q := fun z => by have := (hf e (by simp)).1; rw [z, B.lst] at this; cases this
        rcases st' with ⟨old, he⟩ | ⟨old, T, f, oT, he, hTT, r1, r2⟩
        · exact .inl ⟨old, keepq _ _ eq he⟩
        · by_cases c : T = q
          · exact .inr ⟨old, T, f, _, keepq _ _ eq he, by rw [c]; exact PySem.IsL.update e2 _, r1, r2⟩
          · exact .inr ⟨old, T, f, oT, keepq _ _ eq he, keepq _ _ c hTT, r1, r2⟩
      · have iq : it ≠ q := fun z => by have := (hf it (by simp)).1; rw [z, B.lst] at this; cases this
        exact hit'.at fun o k => (Heap.get?_update_other h' _ (Ne.symm iq)).trans k
      · intro b hb
        obtain ⟨f0, f1, f2, f3, f4, f5⟩ := hf b hb
        have hbl : b < s.heap.objs.size := by
          have e' : b = e ∨ b = it := by simpa using hb
          rcases e' with z | z
          · rw [z]; exact hel
          · rw [z]; exact hil
        refine ⟨?_, f1, f2, f3, f4, f5⟩
        rw [upd_ne (fun z => by rw [z, B.lst] at f0; cases f0), upd_ne (Nat.ne_of_lt hbl)]
        exact f0
    have nit : s.heap.objs.size ≠ it := Nat.ne_of_gt hil
    have ec : ((i + 1 : Nat) : Int) = (i : Int) + 1 := by omega
    have hu' : its.toArray[i]? = some u := by simpa using hu
    rcases st with ⟨old, he⟩ | ⟨old, T, f, oT, he, hT, r1, r2⟩
    · have hel := Heap.lt_size he
      exact wpAny_bind (wpAny_pyNext_enum_item he hit pl.isList hu' hne fun h' ho hit' hT hsz hk => go h' (.inr ⟨_, s.heap.objs.size, false, _, by rw [ec]; exact ho, hT, Nat.ne_of_gt hel, nit⟩) hit' hT hel hk)
    · have hel := Heap.lt_size he
      exact wpAny_bind (wpAny_pyNext_enum_item_held he hT r1 r2 hit pl.isList hu' hne fun h' ho hit' hT' hsz hk => go h' (.inr ⟨old, T, true, oT, by rw [ec]; exact ho, hk _ _ r1 r2 hT, r1, r2⟩) hit' hT' hel hk)
theorem hint_enum {prog : Program} {w : World} {A : Around} {E : Value → Shared → Prop} {s : Shared} {r : Addr} {Q : Bool → Shared → Prop} (hT : s.TypeIs (.ref r) "enumerate") (h : Q true s) :
    wpAny (model prog w) A (Builtin.List.listLengthHint (.ref r)) Q E s := by
  have hl : typeLookup (.type "enumerate") "__len__" = pure none := by rw [typeLookup_type, builtinLookup_eq_fast]; kernel_rfl
  have hn0 : typeLookup (.type "enumerate") "__length_hint__" = pure none := by rw [typeLookup_type, builtinLookup_eq_fast]; kernel_rfl
  unfold Builtin.List.listLengthHint
  refine wpAny_bind (wpAny_specialOf hT hl ?_)
  show wpAny _ A (specialOf (Value.ref r) (Str.ofString "__length_hint__") >>= _) _ _ _
  refine wpAny_bind (wpAny_specialOf hT hn0 ?_)
  exact wpAny_pure h
/-- what list(enumerate(xs)) gives -/
def tLE (ta : TA) (K : PySem.W.Frag) : TE := fun σ H Q => ta σ H fun vs H1 => ∃ a xs, vs = [.ref a] ∧ SqL K H1 a xs ∧ ∀ q Ts H', Built K H1 a q xs xs.length Ts H' → Q (.ref q) H'
theorem pe_listEnum {o : Expr} {ta : TA} {p p2 pos pos2 : Pos} (hcm : X.calm = true) (hg : Gl X "list") (hm : X.mg "list" = none) (hge : Gl X "enumerate") (hme : X.mg "enumerate" = none) (ha : PA X [o] ta)
    (hs : starEach [o] X.env = [(false, eval o X.env)] := by rfl) (na : starEach [.Call (.Name "enumerate" p2) [o] [] pos2] X.env = (false, eval (.Call (.Name "enumerate" p2) [o] [] pos2) X.env) :: starEach [] X.env := by rfl) :
    PE X (.Call (.Name "list" p) [.Call (.Name "enumerate" p2) [o] [] pos2] [] pos) (tLE ta X.K) := by
  refine ⟨fun pins s σ H Q I h => ?_⟩
  refine Call_ (ld_blt I hg hm boot_list (PyProof.Rows.callWith_type1 (args_cons (Call_ (ld_blt I hge hme boot_enumerate (PyProof.Rows.callWith_type1 (thn (ha.run pos2 pins s σ H _ I h) fun us s1 ⟨vs, H1, I1, r1, q1⟩ => ?_) hs rfl))) na) na))
  obtain ⟨a, xs, ex, hq, q⟩ := q1
  subst ex
  cases r1 with
  | cons r rr =>
    cases rr
    cases r
    obtain ⟨its, rv, p', hz⟩ := I1.list hq
    refine call_enumerate_list p'.isList fun h' he hit hsz hk => args_nil ?_
    have I2 : Inv X pins σ H1 { s1 with heap := h' } := I1.kept (t' := s1.toks) hk
    have hfp : ∀ b ∈ [s1.heap.objs.size + 1, s1.heap.objs.size], FpOk X pins H1 b := fun b hb => by
      have e' : b = s1.heap.objs.size + 1 ∨ b = s1.heap.objs.size := by simpa using hb
      have hle : s1.heap.objs.size ≤ b := by
        rcases e' with z | z
        · rw [z]; exact Nat.le_add_right _ _
        · rw [z]; exact Nat.le_refl _
      exact I1.fpOk hle (I1.hok.fresh hle)
    -- list(..)
    refine callType_codes (Q₁ := fun obj s₁ => obj = .ref h'.objs.size ∧ s₁ = { s1 with heap := h'.push { cls := .type "list", data := .seq #[] } }) PySem.F.called_list (PySem.F.typeCall_list_1 _) PySem.F.entry_list_init
      (code_list_new _ ⟨rfl, rfl⟩) fun obj s₁ h₁ => ?_
    obtain ⟨rfl, rfl⟩ := h₁
    have hS : (h'.push { cls := .type "list", data := .seq #[] }).get? h'.objs.size = some { cls := .type "list", data := .seq #[] } := Heap.get?_push_size _ rfl
    refine ⟨⟨_, hS, rfl⟩, PySem.F.args_list_init_2 _ _, ?_⟩
    have fr : H1 h'.objs.size = none := I2.hok.fresh (Nat.le_refl _)
    have J1 : Inv X pins σ (upd H1 h'.objs.size (.lst [])) { s1 with heap := h'.push { cls := .type "list", data := .seq #[] } } := I2.lnew (its := []) (t' := s1.toks) .nil (Nat.zero_le _)
    show wpAny _ _ (do let old ← Builtin.List.listItems (.ref h'.objs.size); Builtin.List.listUpdate (.ref h'.objs.size) (fun _ => #[]); letGo old.toList.reverse; Builtin.List.listExtendWith (.ref h'.objs.size) (.ref (s1.heap.objs.size + 1)) .none) _ _ _
    refine wpAny_bind ?_
    unfold Builtin.List.listItems
    refine wpAny_bind (wpAny_seqItems hS rfl (wpAny_pure ?_))
    show wpAny _ _ (updateSeq h'.objs.size (fun _ => #[]) >>= fun _ => letGo (#[] : Array Value).toList.reverse >>= fun _ => Builtin.List.listExtendWith (.ref h'.objs.size) (.ref (s1.heap.objs.size + 1)) .none) _ _ _
    refine wpAny_bind (wpAny_updateSeq hS rfl ?_)
    have J2 := J1.lset (f := fun _ => #[]) (its := []) (its' := []) (ys := []) (t' := s1.toks) upd_same hS rfl .nil (Nat.zero_le _)
    rw [upd_upd] at J2
    refine wpAny_bind (wpAny_letGo ?_)
    have qe : h'.objs.size ≠ s1.heap.objs.size + 1 := by rw [hsz]; omega
    have qi : h'.objs.size ≠ s1.heap.objs.size := by rw [hsz]; omega
    have stay : ∀ b o, h'.get? b = some o → ((h'.push { cls := .type "list", data := .seq #[] }).update h'.objs.size (Obj.mapSeq fun _ => #[])).get? b = some o := fun b o k =>
      (Heap.get?_update_other _ _ (Nat.ne_of_gt (Heap.lt_size k))).trans (Heap.get?_push_of_some _ k)
    have he2 := stay _ _ he
    unfold Builtin.List.listExtendWith
    refine wpAny_bind (wpAny_typeOf (T := "enumerate") ⟨_, he2, rfl⟩ ?_)
    have h1 : Builtin.List.listSameRef (.ref h'.objs.size) (.ref (s1.heap.objs.size + 1)) = false := by simp [Builtin.List.listSameRef, qe]
    have h2 : (Value.type "enumerate" == Value.type "list") = false := by decide
    have h3 : (Value.type "enumerate" == Value.type "tuple") = false := by decide
    simp only [h1, h2, h3, Bool.or_false, Bool.false_eq_true, if_false]
    refine wpAny_bind (wpAny_pyIter_enum he2 ?_)
    refine wpAny_bind (wpAny_holding (hint_enum ⟨_, he2, rfl⟩ ?_))
    have B0 : Built X.K H1 a h'.objs.size xs 0 [] (upd H1 h'.objs.size (.lst [])) := ⟨rfl, upd_same, fun b o k => by rw [upd_ne (ne_of_none k fr)]; exact k, fun b k => by
      by_cases c : b = h'.objs.size
      · exact .inr (.inl c)
      · rw [upd_ne c] at k; exact .inl k, fun j T k => by simp at k, fr, hq⟩
    have fin := fun (Rs : Result → Shared → Prop) (J : Inv X pins σ (upd H1 h'.objs.size (.lst [])) { s1 with heap := ((h'.push { cls := .type "list", data := .seq #[] }).update h'.objs.size (Obj.mapSeq fun _ => #[])) }) (hd : ∀ Ts H s, Inv X pins σ H s → Built X.K H1 a h'.objs.size xs xs.length Ts H → Rs (.ok (.ret .none)) s) =>
      enum_loop (A1 := X.A.in1) (Rs := Rs) (I1.ok.hd hcm) (show s1.heap.objs.size + 1 ≠ s1.heap.objs.size by omega) hd xs.length 0 [] _ _ (by omega) J B0 (.inl ⟨_, he2⟩) (hit.at fun o k => stay _ o k) (fun b hb => by
        obtain ⟨f0, f1, f2, f3, f4, f5⟩ := hfp b hb
        refine ⟨?_, f1, f2, f3, f4, f5⟩
        have e' : b = s1.heap.objs.size + 1 ∨ b = s1.heap.objs.size := by simpa using hb
        have hbn : b ≠ h'.objs.size := by
          rw [hsz]
          rcases e' with z | z
          · rw [z]; exact Nat.ne_of_lt (Nat.lt_succ_self _)
          · rw [z]; exact Nat.ne_of_lt (Nat.lt_succ_of_lt (Nat.lt_succ_self _))
        rw [upd_ne hbn]
        exact f0)
    refine wpAny_ite_split (fun _ => ?_) (fun _ => wpAny_pure ⟨plainId_quiet PySem.F.plain_extend_loop _, fin _ J2 fun Ts H' s' I' B' => ⟨rfl, .ref h'.objs.size, H', I', rfl, q _ Ts H' B'⟩⟩)
    refine wpAny_bind (wpAny_rule ?_)
    refine wpAny_bind ?_
    show wpAny _ _ (updateSeq h'.objs.size (·.push .none) >>= fun _ => updateSeq h'.objs.size (·.pop)) _ _ _
    obtain ⟨z, its3, k3, r3, hl3, e3⟩ := J2.lstM upd_same
    cases r3
    refine wpAny_bind (wpAny_updateSeq e3 rfl ?_)
    have J3 := J2.lset (f := (·.push Value.none)) (its' := [Value.none]) (ys := [.non]) (t' := s1.toks) upd_same e3 (by simp) (.cons rfl .nil) (by rw [List.length_singleton, sizeLine_eq]; decide)
    obtain ⟨z4, its4, k4, r4, hl4, e4⟩ := J3.lstM upd_same
    obtain ⟨u4, rfl, ru4⟩ := r4.one
    refine wpAny_updateSeq e4 rfl ?_ (by show 1 ≤ sizeLine; rw [sizeLine_eq]; decide) (by show 0 ≤ sizeLine + 1; exact Nat.zero_le _)
    have J4 := J3.lset (f := (·.pop)) (its := [u4]) (its' := []) (ys := []) (t' := s1.toks) upd_same e4 (by rfl) .nil (Nat.zero_le _)
    rw [upd_upd, upd_upd] at J4
    refine wpAny_pure ⟨plainId_quiet PySem.F.plain_extend_loop _, ?_⟩
    have stay2 : ∀ (h2 : Heap) (f : Array Value → Array Value) b o, b ≠ h'.objs.size → h2.get? b = some o → (h2.update h'.objs.size (Obj.mapSeq f)).get? b = some o := fun h2 f b o hb k => (Heap.get?_update_other _ _ (Ne.symm hb)).trans k
    exact enum_loop (A1 := X.A.in1) (I1.ok.hd hcm) (show s1.heap.objs.size + 1 ≠ s1.heap.objs.size by omega) (fun Ts H' s' I' B' => ⟨rfl, .ref h'.objs.size, H', I', rfl, q _ Ts H' B'⟩) xs.length 0 [] _ _ (by omega) J4 B0
      (.inl ⟨_, stay2 _ _ _ _ (Ne.symm qe) (stay2 _ _ _ _ (Ne.symm qe) he2)⟩) (hit.at fun o k => stay2 _ _ _ o (Ne.symm qi) (stay2 _ _ _ o (Ne.symm qi) (stay _ o k))) (fun b hb => by
        obtain ⟨f0, f1, f2, f3, f4, f5⟩ := hfp b hb
        refine ⟨?_, f1, f2, f3, f4, f5⟩
        have e' : b = s1.heap.objs.size + 1 ∨ b = s1.heap.objs.size := by simpa using hb
        have hbn : b ≠ h'.objs.size := by
          rw [hsz]
          rcases e' with z | z
          · rw [z]; exact Nat.ne_of_lt (Nat.lt_succ_self _)
          · rw [z]; exact Nat.ne_of_lt (Nat.lt_succ_of_lt (Nat.lt_succ_self _))
        rw [upd_ne hbn]
        exact f0)
/-- list(enumerate(xs)), a new list -/
theorem el_enum {o : Expr} {fs : Ag} {p p2 pos pos2 : Pos} (hcm : X.calm = true) (hg : Gl X "list") (hm : X.mg "list" = none) (hge : Gl X "enumerate") (hme : X.mg "enumerate" = none) (ha : AN X [o] 1 fs)
    (hs : starEach [o] X.env = [(false, eval o X.env)] := by rfl) (na : starEach [.Call (.Name "enumerate" p2) [o] [] pos2] X.env = (false, eval (.Call (.Name "enumerate" p2) [o] [] pos2) X.env) :: starEach [] X.env := by rfl) :
    EL X (.Call (.Name "list" p) [.Call (.Name "enumerate" p2) [o] [] pos2] [] pos) (gEnum fs) := by
  obtain ⟨t, h1, h2⟩ := ha.a.ex
  refine ⟨⟨_, pe_listEnum hcm hg hm hge hme h1 hs na, fun G0 H0 Z Γ σ G H Q ds R hf k => ?_⟩⟩
  obtain ⟨xs, e1, hf⟩ := obind hf
  have hl := ha.n Γ xs e1
  refine h2 G0 H0 Z Γ σ G H _ _ R e1 fun G1 H1 vs x1 r1 => ?_
  match xs, hl, hf, r1 with
  | [x], _, hf, .cons r .nil =>
    replace hf : ((dItems x).bind fun xs => some (enumD 0 xs)) = some ds := hf
    obtain ⟨as, a1, hf⟩ := obind hf
    cases hf
    obtain ⟨p1, vs1, rfl, s1, r1⟩ := r.items a1
    refine ⟨p1, vs1, rfl, x1.gh.seq s1, fun q Ts H' B => ?_⟩
    have lv := r1.length
    -- what is known now: the pairs too
    have hmem : ∀ T, T ∈ Ts → ∃ j, Ts[j]? = some T := fun T hT => List.mem_iff_getElem?.mp hT
    classical
    let G2 : Hp := fun b => if b ∈ Ts then H' b else G1 b
    have gT : ∀ T, T ∈ Ts → H1 T = none ∧ T ≠ q ∧ H' T ≠ none := fun T hT => by
      obtain ⟨j, hj⟩ := hmem T hT
      obtain ⟨t1, t2, y, t3, t4⟩ := B.tup j T hj
      exact ⟨t1, t2, by rw [t4]; simp⟩
    have qT : q ∉ Ts := fun z => (gT q z).2.1 rfl
    have sg : Same G1 G2 := fun b u z => by
      show (if b ∈ Ts then H' b else G1 b) = some u
      rw [if_neg (fun w => by have := (gT b w).1; rw [x1.gh b u z] at this; cases this)]
      exact z
    have e : Ext G1 H1 G2 H' := Ext.same sg B.keep (fun b u z => by
      have z : (if b ∈ Ts then H' b else G1 b) = some u := z
      split at z
      · exact z
      · exact B.keep _ _ (x1.gh b u z)) fun b z => by
      have z : (if b ∈ Ts then H' b else G1 b) ≠ none := z
      split at z
      · rename_i w; exact .inr (gT b w).1
      · exact .inl z
    have q2 : G2 q = none := by
      show (if q ∈ Ts then H' q else G1 q) = none
      rw [if_neg qT]
      exact x1.gh.free B.q0
    refine k G2 H' q _ (x1.trans e) (x1.hf B.q0) q2 B.lst ?_
    -- the items
    have items : ∀ (Us : List Addr) (vs2 : List V) (ds2 : List D) (j : Nat), Us.length = vs2.length → RepL X.K X.mg G1 vs2 ds2 → (∀ i T, Us[i]? = some T → ∃ x, vs2[i]? = some x ∧ G2 T = some (.tup [.int ((j + i : Nat) : Int), x])) → RepL X.K X.mg G2 (Us.map V.ref) (enumD j ds2) := by
      intro Us
      induction Us with
      | nil =>
        intro vs2 ds2 j hl hr _
        cases vs2 with
        | nil => cases hr; exact .nil
        | cons => simp at hl
      | cons U Us ih =>
        intro vs2 ds2 j hl hr hg
        cases hr with
        | nil => simp at hl
        | cons h r =>
          obtain ⟨y, y1, y2⟩ := hg 0 U rfl
          cases y1
          refine .cons (.tup (SqT.of y2) (.cons (.int _) (.cons (h.mono sg) .nil))) (ih _ _ (j + 1) (by simpa using hl) r fun i T hT => ?_)
          obtain ⟨w, w1, w2⟩ := hg (i + 1) T (by simpa using hT)
          refine ⟨w, by simpa using w1, ?_⟩
          have e5 : j + 1 + i = j + (i + 1) := by omega
          rw [e5]
          exact w2
    refine items Ts vs1 as 0 B.len r1 fun i T hT => ?_
    obtain ⟨t1, t2, y, t3, t4⟩ := B.tup i T hT
    refine ⟨y, t3, ?_⟩
    show (if T ∈ Ts then H' T else G1 T) = _
    rw [if_pos (List.mem_of_getElem? hT), t4]
    simp
end
end DL

namespace DL
open PySem L2
variable [TC : TabCtx]

def dShl : D → D → Option D
  | .int i, .int j => if 0 ≤ j ∧ j ≤ 1000000 ∧ i.natAbs < 2 ^ 64 then some (.int (i * 2 ^ j.toNat)) else none
  | _, _ => none
section
variable {X : Cx} {e a b o : Expr} {f g k : Ex} {fs : Ag} {pos pos' : Pos} {n i : Nat} {rp : Pth}
theorem od_shl : OpD X (binaryOp .LShift) dShl := opd_i op_shl fun x y d e => by
  unfold dShl at e
  split at e
  · split at e
    · cases e; rename_i z; exact ⟨_, _, rfl, rfl, z, fun _ _ _ => .int _⟩
    · cases e
  · cases e
/-- a global name that is an int -/
def GlI (mg : Str → Option Value) (x : Str) (n : Int) : Prop := ∃ t, mg x = some (.int n t)
theorem e_gint {x : Str} {n : Int} (hm : GlI X.mg x n) (hg : Gl X x := by rfl) (hd : (x == ("__debug__" : Str)) = false := by decide) : E X (.Name x pos) (gI n) := by
  obtain ⟨t, hm⟩ := hm
  exact ⟨⟨_, pe_glob hg hm (v := .int n) ⟨t, rfl⟩ hd, fun G0 H0 Z Γ σ G H Q d R hf k => by cases hf; exact k G H _ (Ext.refl R.gh) (.int n)⟩⟩
/-- xs[::-1] -/
def gRevL (f : Ex) : Ag := fun Γ => (f Γ).bind fun x => match x with
  | .lst xs => some xs.reverse
  | _ => none
theorem el_revL {kk : Nat} {p1 p2 p3 : Pos} (he : B X e f) : EL X (.Subscript e (.Slice none none (some (.UnaryOp .USub (.Constant (.int 1) kk p1) p2)) p3) pos) (gRevL f) := by
  obtain ⟨t, h1, h2⟩ := he.ex
  refine ⟨⟨_, pe_revL h1, fun G0 H0 Z Γ σ G H Q ds R hf k => ?_⟩⟩
  obtain ⟨x, e1, hf⟩ := obind hf
  cases x with
  | lst xs =>
    cases hf
    refine h2 G0 H0 Z Γ σ G H _ _ R e1 fun G1 H1 v x1 r1 => ?_
    obtain ⟨p, vs, rfl, hp, rp⟩ := r1.lst x1.gh
    refine ⟨p, vs, rfl, SqL.of hp, fun q hq => ?_⟩
    exact k G1 _ q _ (x1.trans (Ext.own1 x1.gh hq)) (x1.hf hq) (x1.gh.free hq) upd_same rp.reverse
  | _ => cases hf
/-- P.pop() -/
def sPop (i : Nat) (rp : Pth) : Sm := fun Γ => match gP i rp Γ with
  | some (.ow xs) => if xs = [] then none else upP i rp (.ow xs.dropLast) Γ
  | _ => none
theorem RepL.dropLast {K : PySem.W.Frag} {mg : Str → Option Value} {G : Hp} {vs : List V} {ds : List D} (r : RepL K mg G vs ds) : RepL K mg G vs.dropLast ds.dropLast := by
  rw [List.dropLast_eq_take, List.dropLast_eq_take, r.length]
  exact r.take _
theorem s_pop {ap : Pos} (hp : PL X o i rp)
    (hpe : ∀ {r : V → List V → Hp → VK → Prop} {to : TE}, MtR X "list.pop" r → PE X o to → PE X (.Call (.Attribute o "pop" ap) [] [] pos) (tBM0 X.K "list" r to) := by intro r to hm ho; exact pe_bm0 PySem.F.plainAttrs_list PySem.F.slot_list_pop PySem.F.type_list_pop hm ho)
    (hs : swapsWith (.Call (.Attribute o "pop" ap) [] [] pos) none pos'.line X.env = pure false := by rfl) : S X (.Expr (.Call (.Attribute o "pop" ap) [] [] pos) pos') (sPop i rp) := by
  obtain ⟨u, u1, u2⟩ := hp.ex
  refine ⟨⟨_, ps_expr (hpe mt_pop u1) hs, fun G0 H0 Z Γ σ G H D r R hf k => ?_⟩⟩
  unfold sPop at hf
  cases q : gP i rp Γ with
  | none => rw [q] at hf; cases hf
  | some s1 =>
    rw [q] at hf
    cases s1 with
    | ow xs =>
      replace hf : (if xs = [] then none else upP i rp (.ow xs.dropLast) Γ) = some r := hf
      split at hf
      · cases hf
      · rename_i hl
        obtain ⟨s, s2, a1, a2, rfl⟩ := upP_some hf
        obtain ⟨s', b1, b2, b3⟩ := gP_some q (by simp [SlP])
        rw [a1] at b1
        cases b1
        refine u2 G0 H0 Z Γ σ G H G H _ s _ R (Ext.refl R.gh) a1 b2 b3 (by simp) fun v pk => ?_
        obtain ⟨F0, p0⟩ := pk G H (Ext.refl R.gh)
        obtain ⟨l, ws, rfl, d1, d2, d3⟩ := p0.list R.gh
        refine ⟨.inl ⟨rfl, _, SqL.of d1⟩, ?_⟩
        have hlen := d2.length
        have hpos : 0 < xs.length := List.length_pos_iff.mpr hl
        refine ⟨_, ws, ws[ws.length - 1]'(by omega), rfl, rfl, d1, List.getElem?_eq_getElem _, ?_⟩
        exact k σ G _ (d3 _ _ _ d2.dropLast a2)
    | _ => cases hf
end
end DL

namespace DL
open PySem L2
variable [TC : TabCtx]
/-! ### P.f, a, b = e -/
/-- an attribute as a target -/
def gAttr (K : PySem.W.Frag) (ta : TE) (f : Str) : TG := fun v σ H Q => ta σ H fun x H1 => ∃ a C dx fs, x = .ref a ∧ H1 a = some (.ins C dx fs) ∧ Cls K C ∧ NoAttr K C f ∧ fs.length < 1000 ∧ Q σ (L2.upd H1 a (.ins C dx (putF f v fs)))
theorem pg_attr {X : Cx} {o : Expr} {ta : TE} {f : Str} {pos : Pos} (ha : PE X o ta) : PG X (.Attribute o f pos) (gAttr X.K ta f) := by
  refine ⟨fun pins s σ H v u Q I r h => ?_⟩
  rw [PySem.assign_Attribute]
  refine wpAny_bind (wpAny_holding (thn (ha.run pins s σ H _ I h) fun ov s1 ⟨x, H1, I1, rx, a, C, dx, fs, ex, ea, c, n, l, q⟩ => ?_))
  subst ex
  obtain rfl : ov = Value.ref a := rx
  refine wpAny_bind (wpAny_standAt (wpAny_bind (wpAny_holding (setattr_ok I1 ea c n l r fun s3 I3 => ?_))))
  exact wpAny_release ⟨σ, _, I3, q⟩
def sUnpF (i : Nat) (rp : Pth) (c j n : Nat) (gs : Gss) (f : Ex) : Sm := fun Γ => (f Γ).bind fun d => match d with
  | .tup (d0 :: ds) => if ds.length + 1 = n then (DL.sFld i rp c j (fun _ => some (.sh d0)) Γ).bind fun r => match r with
      | .nx Γ1 => (gs ds Γ1).bind fun Γ' => some (.nx Γ')
      | _ => none
    else none
  | _ => none
section
variable {X : Cx} {e o : Expr} {es : List Expr} {f : Ex} {pos pos' pt : Pos} {n k : Nat} {ix : List Nat} {gs : Gss}
theorem s_unpF {i : Nat} {rp : Pth} {c j : Nat} {C : Addr} {x : Str} (ck : CK X.K X.mg c C) (hp : PL X o i rp) (he : E X e f) (hl : GL X es ix gs) (hc : X.calm = true) (hj : (cF c)[j]? = some x := by rfl) (nd : (cF c).Nodup := by decide +kernel)
    (hn : (assignEach (.Attribute o x pos' :: es) X.env).length = n := by rfl) (hst : (assignEach (.Attribute o x pos' :: es) X.env).findIdx? (·.1) = none := by rfl)
    (hcs : (assignEach (.Attribute o x pos' :: es) X.env).map (·.2) = assign (.Attribute o x pos') X.env :: (assignEach es X.env).map (·.2) := by rfl)
    (hs : swapsWithSole [.Tuple (.Attribute o x pos' :: es) k pt] e pos.line X.env = pure false := by rfl) (hw : swappedStores [.Tuple (.Attribute o x pos' :: es) k pt] e X.env = pure none := by rfl)
    (h1 : (assignEach [.Tuple (.Attribute o x pos' :: es) k pt] X.env).map (·.2) = [assign (.Tuple (.Attribute o x pos' :: es) k pt) X.env] := by rfl) :
    S X (.Assign [.Tuple (.Attribute o x pos' :: es) k pt] e pos) (sUnpF i rp c j n gs f) := by
  obtain ⟨t, t1, t2⟩ := he.ex
  obtain ⟨u, u1, u2⟩ := hp.ex
  obtain ⟨w, w1, w2⟩ := hl.ex
  refine ⟨⟨_, ps_asg t1 (pg_tup hc (pgs_cons (pg_attr u1) w1 hcs) hn hst) hs hw h1, fun G0 H0 Z Γ σ G H D r R hf kk => ?_⟩⟩
  obtain ⟨d, e1, hf⟩ := obind hf
  refine t2 G0 H0 Z Γ σ G H _ d R e1 fun G1 H1 v x1 hd => ?_
  cases d with
  | tup dd =>
    cases dd with
    | nil => cases hf
    | cons d0 ds =>
      replace hf : (if ds.length + 1 = n then (DL.sFld i rp c j (fun _ => some (.sh d0)) Γ).bind fun r => match r with
        | .nx Γ1 => (gs ds Γ1).bind fun Γ' => some (.nx Γ')
        | _ => none else none) = some r := hf
      split at hf
      · rename_i hlen
        obtain ⟨r1, e2, hf⟩ := obind hf
        cases hd with
        | tup hT rr =>
          have hvl := rr.length
          cases rr with
          | cons r0 rr =>
            rename_i pa v0 vs
            refine ⟨_, _, rfl, sqt_same x1.gh hT, by rw [hvl]; simpa using hlen, _, _, rfl, ?_⟩
            have go : ∀ Γ1 H', Rel X.K X.mg G0 H0 Z Γ1 σ G1 H' → r1 = .nx Γ1 → w vs σ H' D.nx := fun Γ1 H' R1 e3 => by
              subst e3
              obtain ⟨Γ', e4, hf⟩ := obind hf
              cases hf
              exact w2 G0 H0 Z Γ1 σ G1 H' _ ds vs Γ' R1 rr e4 fun σ' R' _ => kk σ' G1 H' R'
            clear hf
            replace e2 : (match gP i rp Γ with
              | some (.ob c' fs) => if c' = c then (if j < fs.length then upP i rp (.ob c (fs.set j (.sh d0))) Γ else if j = fs.length then upP i rp (.ob c (fs ++ [.sh d0])) Γ else none) else none
              | _ => none) = some r1 := e2
            cases q : gP i rp Γ with
            | none => rw [q] at e2; cases e2
            | some par =>
              rw [q] at e2
              cases par with
              | ob c' fs =>
                replace e2 : (if c' = c then (if j < fs.length then upP i rp (.ob c (fs.set j (.sh d0))) Γ else if j = fs.length then upP i rp (.ob c (fs ++ [.sh d0])) Γ else none) else none) = some r1 := e2
                split at e2
                · rename_i hcc
                  subst hcc
                  obtain ⟨s, b1, b2, b3⟩ := gP_some q (by simp [SlP])
                  refine u2 G0 H0 Z Γ σ G H G1 H1 _ s _ R x1 b1 b2 b3 (by simp) fun vq pk => ?_
                  obtain ⟨F1, P⟩ := pk G1 H1 x1
                  have hdP := P.hd
                  cases hdP with
                  | ob f hm ho nn sF rs =>
                    rename_i p C' dx vf F'
                    rw [ck.hm] at hm
                    cases hm
                    refine ⟨p, C, dx, _, rfl, ho, ck.cl, ck.na x (List.mem_of_getElem? hj), zip_short, ?_⟩
                    have gp := (P.fr p f).1
                    have hlen2 := rs.length
                    have fin : ∀ (vs' : List V) (fs' : List Sl) (s2 : Sl), putF x v0 ((cF c').zip vf) = (cF c').zip vs' → (∀ {Hx : Hp}, HdL X.K X.mg G1 Hx vf F' fs → Hd X.K X.mg G1 Hx v0 (fun _ => False) (.sh d0) → HdL X.K X.mg G1 Hx vs' (fun a => F' a ∨ False) fs') → setR rp (.ob c' fs') s = some s2 →
                        Rel X.K X.mg G0 H0 Z (Γ.set i s2) σ G1 (upd H1 p (.ins C dx (putF x v0 ((cF c').zip vf)))) := fun vs' fs' s2 ez mk es => by
                      rw [ez]
                      have keep : ∀ (Y : Addr → Prop), ¬ Y p → ∀ a o, Y a → H1 a = some o → upd H1 p (.ins C dx ((cF c').zip vs')) a = some o := fun Y hy a o ya q => by
                        rw [upd_ne]
                        · exact q
                        · intro e; subst e; exact hy ya
                      refine P.up G1 _ (fun a => F1 a ∨ False) (.ob c' fs') s2 (Same.refl _) (fun a o q => ?_) (fun a q => .inl q) (fun a o nf q => ?_) ?_ (fun a y => ?_) (fun _ => rfl) es
                      · rw [upd_ne (ne_of_none q gp)]; exact x1.gh _ _ q
                      · rw [upd_ne]
                        · exact q
                        · intro e; subst e; exact nf f
                      · refine .ob (.inl f) ck.hm upd_same (F' := fun a => F' a ∨ False) (fun y => y.elim nn (fun y => y.elim)) (fun a y => y.elim (fun y => .inl (sF a y)) .inr) ?_
                        exact mk (rs.mono (Same.refl _) (fun a o y q _ => keep F' nn a o y q)) (.sh r0)
                      · have up : H1 a ≠ none → upd H1 p (.ins C dx ((cF c').zip vs')) a ≠ none := fun q => by
                          by_cases e : a = p
                          · subst e; rw [upd_same]; simp
                          · rw [upd_ne e]; exact q
                        rcases y with y | y
                        · exact ⟨(P.fr a y).1, up (P.fr a y).2.2.1, .inl y⟩
                        · exact y.elim
                    have djL : ∀ a, (fun _ : Addr => False) a → ¬ F' a := fun a y _ => y.elim
                    split at e2
                    · rename_i hjl
                      obtain ⟨s', s2, a1, a2, rfl⟩ := upP_some e2
                      rw [b1] at a1
                      cases a1
                      exact go _ _ (fin (vf.set j v0) _ s2 (putF_set nd hj (by rw [hlen2]; exact hjl)) (fun r h => r.setv j h djL) a2) rfl
                    · split at e2
                      · rename_i hjl
                        obtain ⟨s', s2, a1, a2, rfl⟩ := upP_some e2
                        rw [b1] at a1
                        cases a1
                        exact go _ _ (fin (vf ++ [v0]) _ s2 (putF_snoc nd (by rw [hlen2, ← hjl]; exact hj)) (fun r h => r.snoc h djL) a2) rfl
                      · cases e2
                · cases e2
              | _ => cases e2
      · cases hf
  | _ => cases hf
end
end DL

namespace DL
open PySem L2
variable [TC : TabCtx]
/-! ### an object that is new is written, and forgotten -/
theorem Ext.put {G H G1 H1 : Hp} {p : Addr} {o : HO} (x : Ext G H G1 H1) (hp : H p = Option.none) (gp : G1 p = Option.none) : Ext G H G1 (upd H1 p o) :=
  ⟨x.gg, fun a u q n => by rw [upd_ne (ne_of_none q hp)]; exact x.hh a u q n, fun a u q => by rw [upd_ne (ne_of_none q gp)]; exact x.gh a u q, x.new, fun a h => by
    by_cases z : a = p
    · subst z; rw [upd_same]; simp
    · rw [upd_ne z]; exact x.hn a h, fun t => TC.ti.keep (x.tb t) (Same.refl _) (fun a h => upd_ne (fun z => (TC.ti.live t a h).1 (by rw [z]; exact hp))) (fun _ _ g => g)⟩
section
variable {K : PySem.W.Frag} {mg : Str → Option Value} {G H : Hp}
theorem HdL.get : ∀ {vs : List V} {F : Addr → Prop} {ss : List Sl} (i : Nat) {s : Sl}, HdL K mg G H vs F ss → ss[i]? = some s → ∃ v F1, vs[i]? = some v ∧ Hd K mg G H v F1 s ∧ ∀ a, F1 a → F a
  | _, _, _, _, _, .nil, h => by simp at h
  | _, _, _, 0, _, .cons h r s1 s2 d, e => by simp at e; subst e; exact ⟨_, _, rfl, h, s1⟩
  | _, _, _, i + 1, _, .cons h r s1 s2 d, e => by
    obtain ⟨v, F1, e1, e2, e3⟩ := HdL.get i r (by simpa using e)
    exact ⟨v, F1, by simpa using e1, e2, fun a x => s2 a (e3 a x)⟩
theorem HdL.snocU : ∀ {vs : List V} {F F1 : Addr → Prop} {ss : List Sl} {v : V} {s : Sl}, HdL K mg G H vs F ss → Hd K mg G H v F1 s → (∀ a, F1 a → ¬ F a) → HdL K mg G H (vs ++ [v]) (fun a => F a ∨ F1 a) (ss ++ [s])
  | _, _, _, _, _, _, .nil, q, _ => .cons q (HdL.nil (F := fun _ => False)) (fun _ x => .inr x) (fun _ x => x.elim) (fun _ _ x => x)
  | _, _, _, _, _, _, .cons h r s1 s2 d, q, dj => by
    refine .cons h (HdL.snocU r q fun a x y => dj a x (s2 a y)) (fun a x => .inl (s1 a x)) (fun a x => ?_) fun a x y => ?_
    · rcases x with x | x
      · exact .inl (s2 a x)
      · exact .inr x
    · rcases y with y | y
      · exact d a x y
      · exact dj a y (s1 a x)
end
section
variable {X : Cx} {e o : Expr} {f : Ex} {sx : Sx} {pos pos' : Pos}
def sAppX (sx : Sx) (f : Ex) : Sm := fun Γ => (sx Γ).bind fun s => match s with
  | .ow xs => (f Γ).bind fun _ => if xs.length < 1000000 then some (.nx Γ) else none
  | _ => none
/-- o.append(e), o being new -/
theorem s_appX {ap : Pos} (ho : EN X o sx) (he : E X e f) (hst : starEach [e] X.env = (false, eval e X.env) :: starEach [] X.env := by rfl)
    (hpe : ∀ {r : V → List V → Hp → VK → Prop} {to te : TE}, MtR X "list.append" r → PE X o to → PE X e te → PE X (.Call (.Attribute o "append" ap) [e] [] pos) (tBM X.K "list" r to (tCons te tNil)) := by intro r to te hm ho hp; exact pe_bm PySem.F.plainAttrs_list PySem.F.slot_list_append PySem.F.type_list_append hm ho (pa_cons hp pa_nil))
    (hs : swapsWith (.Call (.Attribute o "append" ap) [e] [] pos) none pos'.line X.env = pure false := by rfl) : S X (.Expr (.Call (.Attribute o "append" ap) [e] [] pos) pos') (sAppX sx f) := by
  obtain ⟨t, h1, h2⟩ := he.ex
  obtain ⟨u, u1, u2⟩ := ho.ex
  refine ⟨⟨_, ps_expr (hpe mt_append u1 h1) hs, fun G0 H0 Z Γ σ G H D r R hf k => ?_⟩⟩
  obtain ⟨s, e1, hf⟩ := obind hf
  cases s with
  | ow xs =>
    obtain ⟨d, e2, hf⟩ := obind hf
    split at hf
    · rename_i hl
      cases hf
      refine u2 G0 H0 Z Γ σ G H _ _ R e1 fun G1 H1 v F x1 r1 fr => ?_
      cases r1 with
      | ow fp hp rl =>
        rename_i p vs
        obtain ⟨g1, g2, g3⟩ := fr p fp
        refine ⟨.inl ⟨rfl, _, SqL.of hp⟩, ?_⟩
        refine h2 G0 H0 Z Γ σ G1 H1 _ d (R.ext x1) e2 fun G2 H2 w x2 r2 => ?_
        refine ⟨p, vs, w, rfl, rfl, x2.hh _ _ hp nofun, ?_, ?_⟩
        · rw [rl.length]; exact Nat.lt_of_lt_of_le hl line_big
        · exact k σ G2 _ (R.ext ((x1.trans x2).put g2 (x2.none g1 g3)))
    · cases hf
  | _ => cases hf
def sAppXi (sx : Sx) (i : Int) (f : Ex) : Sm := fun Γ => (sx Γ).bind fun s => match s with
  | .ol ss => (atI ss i).bind fun s => match s with
    | .ow xs => (f Γ).bind fun _ => if xs.length < 1000000 then some (.nx Γ) else none
    | _ => none
  | _ => none
theorem atI_nth {α β : Type} {xs : List α} {ys : List β} (hl : xs.length = ys.length) {i : Int} {y : β} (h : atI ys i = some y) : ∃ n : Nat, ys[n]? = some y ∧ atI xs i = xs[n]? := by
  unfold atI at h ⊢
  rw [← hl] at h
  obtain ⟨n, e, h⟩ := obind h
  exact ⟨n, h, by rw [e]; rfl⟩
/-- o[i].append(e), o being new -/
theorem s_appXi {ap sp : Pos} {i : Int} {b : Expr} (ho : EN X o sx) (hb : E X b (gI i)) (he : E X e f) (hs2 : PlainIx b := by exact fun _ _ => rfl) (hst : starEach [e] X.env = (false, eval e X.env) :: starEach [] X.env := by rfl)
    (hpe : ∀ {r : V → List V → Hp → VK → Prop} {to te : TE}, MtR X "list.append" r → PE X (.Subscript o b sp) to → PE X e te → PE X (.Call (.Attribute (.Subscript o b sp) "append" ap) [e] [] pos) (tBM X.K "list" r to (tCons te tNil)) := by intro r to te hm ho hp; exact pe_bm PySem.F.plainAttrs_list PySem.F.slot_list_append PySem.F.type_list_append hm ho (pa_cons hp pa_nil))
    (hs : swapsWith (.Call (.Attribute (.Subscript o b sp) "append" ap) [e] [] pos) none pos'.line X.env = pure false := by rfl) : S X (.Expr (.Call (.Attribute (.Subscript o b sp) "append" ap) [e] [] pos) pos') (sAppXi sx i f) := by
  obtain ⟨t, h1, h2⟩ := he.ex
  obtain ⟨u, u1, u2⟩ := ho.ex
  obtain ⟨y, y1, y2⟩ := hb.ex
  refine ⟨⟨_, ps_expr (hpe mt_append (pe_ix ix_seq u1 y1 hs2) h1) hs, fun G0 H0 Z Γ σ G H D r R hf k => ?_⟩⟩
  obtain ⟨s, e1, hf⟩ := obind hf
  cases s with
  | ol ss =>
    obtain ⟨s1, e3, hf⟩ := obind hf
    cases s1 with
    | ow xs =>
      obtain ⟨d, e2, hf⟩ := obind hf
      split at hf
      · rename_i hl
        cases hf
        refine u2 G0 H0 Z Γ σ G H _ _ R e1 fun G1 H1 v F x1 r1 fr => ?_
        cases r1 with
        | ol fp hp n sF rl =>
          rename_i p vs F'
          refine y2 G0 H0 Z Γ σ G1 H1 _ _ (R.ext x1) rfl fun G2 H2 w x2 r2 => ?_
          have ew : w = .int i := by cases r2; rfl
          subst ew
          obtain ⟨n, n1, n2⟩ := atI_nth rl.length e3
          obtain ⟨v1, F1, w1, w2, w3⟩ := rl.get n n1
          have hp2 := x2.hh _ _ hp nofun
          refine .inl ⟨p, vs, i, v1, rfl, rfl, SqL.of hp2, n2.trans w1, ?_⟩
          have w2' := w2.mono x2.gg (fun a o _ q n => x2.hh a o q n)
          cases w2' with
          | ow fq hq rq =>
            rename_i q ws
            obtain ⟨g1, g2, g3⟩ := fr q (sF q (w3 q fq))
            have g1' := x2.none g1 g3
            refine ⟨.inl ⟨rfl, _, SqL.of hq⟩, ?_⟩
            refine h2 G0 H0 Z Γ σ G2 H2 _ d ((R.ext x1).ext x2) e2 fun G3 H3 w x3 r3 => ?_
            refine ⟨q, ws, w, rfl, rfl, x3.hh _ _ hq nofun, ?_, ?_⟩
            · rw [rq.length]; exact Nat.lt_of_lt_of_le hl line_big
            · exact k σ G3 _ (R.ext (((x1.trans x2).trans x3).put g2 (x3.none g1' (by rw [hq]; simp))))
      · cases hf
    | _ => cases hf
  | _ => cases hf
end
/-! ### methods that give a new thing; their arguments looked at or data -/
def spKN (K : PySem.W.Frag) (mg : Str → Option Value) (ms : List Bool) (F : List D → Option Sl) : Sp := fun vs H Q _ =>
  ∃ G ds s, Same G H ∧ TC.ti.t G H ∧ RepM K mg G H ms vs ds ∧ F ds = some s ∧ ∀ G' H' v F', Ext G H G' H' → Hd K mg G' H' v F' s → (∀ a, F' a → G' a = none ∧ H a = none ∧ H' a ≠ none) → Q v H'
def runKN (ms : List Bool) (n : Nat) (F : Sm) : List D → Option Sl := fun ds => (F (slM ms ds ++ List.replicate (n - ms.length) .no)).bind fun r => match r with
  | .rt d => some (.sh d)
  | .ro s => some s
  | .nx _ => some (.sh .non)
  | _ => none
section
variable {P : Program} {w : World} {K : PySem.W.Frag} {mg : Str → Option Value} {base : Heap}
theorem def_okKN {x qual : Str} {st : Stmt} {f : Addr} {fd : FuncData} {N ps : List Str} {k : Nat} {B : Sm} {ms : List Bool} (F : Fun K x qual st f fd) (S : FnScope N ps (defScope st)) (hms : ms.length = ps.length)
    (hbody : ∀ (cdv : Value) (A : Around) (outer : List PySem.Env) (s : Shared) (H : Hp) (E : XK), Room k (A.deeper (PyProof.Rows.envOfC qual (defScope st) s.heap.objs.size f cdv)) →
      Ss (cxOf CX0 P w K mg base N qual (defScope st) f cdv A outer s H E).nox (defBody st) B) : FnOk P w K mg base CX0 (k + 1) f fd ps (spKN K mg ms (runKN ms N.length B)) := by
  refine F.ok S (fun vs H Q E h => ?_) (fun cdv A outer s H vs Q E hr h => ?_)
  · obtain ⟨G, ds, d, gh, _, r, _⟩ := h
    rw [r.len.1, hms]
  · obtain ⟨G, ds, sl, gh, tb, r, hf, k'⟩ := h
    obtain ⟨t, h1, h2⟩ := (hbody cdv A outer s H E hr).ex
    refine ⟨t, h1, ?_⟩
    obtain ⟨r1, e1, hf⟩ := obind hf
    refine h2 G H _ _ _ G H _ r1 (startK_rel gh tb r) e1 ?_
    cases r1 with
    | rt d' => cases hf; exact fun G' H' v x r => k' G' H' v (fun _ => False) x (.sh r) fun _ z => z.elim
    | ro s' => cases hf; exact fun G' H' v F' x h f => k' G' H' v F' x h f
    | nx Γ => cases hf; exact fun σ' G' H' R => k' G' H' _ (fun _ => False) R.end (.sh .non) fun _ z => z.elim
    | rm d s => cases hf
    | bk Γ => cases hf
    | ct Γ => cases hf
    | ra n => cases hf
end
structure MetKN (P : Program) (w : World) (K : PySem.W.Frag) (mg : Str → Option Value) (base : Heap) (c : Nat) (m : Str) (L : Nat) (ps : List Str) (ms : List Bool) (S : List D → Option Sl) : Prop where
  ex : ∃ C f fd, CK K mg c C ∧ Meth K C m f ∧ FnOk P w K mg base CX0 L f fd ps (spKN K mg ms S) ∧ Binds K fd ps []
def gMethN (c : Nat) (F : List D → Option Sl) (f : Ex) (fs : Ag) : Sx := fun Γ => (f Γ).bind fun d => match d with
  | .obj c' vs => if c' = c then (fs Γ).bind fun ds => F (.obj c' vs :: ds) else none
  | _ => none
section
variable {X : Cx} {e a b o : Expr} {es : List Expr} {f g : Ex} {fs : Ag} {pos : Pos} {ms : List Bool}
theorem e_metKN {pl : Sem Bool} {c k L : Nat} {ps : List Str} {S : List D → Option Sl} {m : Str} {apos : Pos} (mt : MetKN X.prog X.w X.K X.mg X.base c m L ps (true :: ms) S) (hr : Room k X.A) (hk : L ≤ k)
    (ho : B X o f) (ha : AM X (a :: es) ms fs) (hno : m ∉ cF c := by decide +kernel)
    (hst : starEach (a :: es) X.env = (false, eval a X.env) :: starEach es X.env := by rfl) (hpl : (backTo pos (starEach es X.env)).any (·.1) = false := by rfl)
    (ht : eval (.Call (.Attribute o m apos) (a :: es) [] pos) X.env = (do
      let ov ← eval o X.env
      standAt apos.atName
      let (f, first) ← holding [ov] (getMethod ov m pl)
      callWith pos f first (backTo pos (starEach (a :: es) X.env)) (backToKw pos (keywordEach [] X.env))) := by rfl) : EN X (.Call (.Attribute o m apos) (a :: es) [] pos) (gMethN c S f fs) := by
  obtain ⟨C, fa, fd, ck, hme, FO, hb⟩ := mt.ex
  obtain ⟨t, h1, h2⟩ := ha.ex
  obtain ⟨u, q1, q2⟩ := ho.ex
  refine ⟨⟨_, pe_meth q1 ck.cl hme FO (hr.mono hk) hb .nil pass0 h1 hst hpl ht, fun G0 H0 Z Γ σ G H Q d R hf k => ?_⟩⟩
  obtain ⟨y, e1, hv⟩ := obind hf
  cases y with
  | obj c' vs' =>
    replace hv : (if c' = c then (fs Γ).bind fun ds => S (.obj c' vs' :: ds) else none) = some d := hv
    split at hv
    · rename_i cz
      subst cz
      obtain ⟨ds, e2, hv⟩ := obind hv
      refine q2 G0 H0 Z Γ σ G H _ _ R e1 fun G1 H1 v x1 r1 => ?_
      obtain ⟨p, C', dx, ws, rfl, hm', hp, _⟩ := r1.objAt x1.gh
      rw [ck.hm] at hm'
      cases hm'
      refine ⟨_, _, _, rfl, hp, zip_lookup_none hno, ?_⟩
      refine h2 G0 H0 Z Γ σ G1 H1 _ _ (R.ext x1) e2 fun G2 H2 vs x2 r2 => ?_
      refine ⟨G2, _, d, x2.gh, ((R.ext x1).ext x2).tbc, .bo (r1.ext x2) (by rw [List.append_nil]; exact r2), hv, fun G' H' v F' x3 r3 f3 => k G' H' v F' ((x1.trans x2).trans x3) r3 fun b y => ?_⟩
      obtain ⟨w1, w2, w3⟩ := f3 b y
      exact ⟨w1, (x1.trans x2).hf w2, w3⟩
    · cases hv
  | _ => cases hv
theorem e_metKN0 {pl : Sem Bool} {c k L : Nat} {ps : List Str} {S : List D → Option Sl} {m : Str} {apos : Pos} (mt : MetKN X.prog X.w X.K X.mg X.base c m L ps [true] S) (hr : Room k X.A) (hk : L ≤ k)
    (ho : B X o f) (hno : m ∉ cF c := by decide +kernel)
    (ht : eval (.Call (.Attribute o m apos) [] [] pos) X.env = (do
      let ov ← eval o X.env
      standAt apos.atName
      let (f, first) ← holding [ov] (getMethod ov m pl)
      callWith pos f first (backTo pos (starEach [] X.env)) (backToKw pos (keywordEach [] X.env))) := by rfl) : EN X (.Call (.Attribute o m apos) [] [] pos) (gMethN c S f aN) := by
  obtain ⟨C, fa, fd, ck, hme, FO, hb⟩ := mt.ex
  obtain ⟨u, q1, q2⟩ := ho.ex
  refine ⟨⟨_, pe_meth0 q1 ck.cl hme FO (hr.mono hk) hb .nil pass0 ht, fun G0 H0 Z Γ σ G H Q d R hf k => ?_⟩⟩
  obtain ⟨y, e1, hv⟩ := obind hf
  cases y with
  | obj c' vs' =>
    replace hv : (if c' = c then (aN Γ).bind fun ds => S (.obj c' vs' :: ds) else none) = some d := hv
    split at hv
    · rename_i cz
      subst cz
      obtain ⟨ds, e2, hv⟩ := obind hv
      cases e2
      refine q2 G0 H0 Z Γ σ G H _ _ R e1 fun G1 H1 v x1 r1 => ?_
      obtain ⟨p, C', dx, ws, rfl, hm', hp, _⟩ := r1.objAt x1.gh
      rw [ck.hm] at hm'
      cases hm'
      refine ⟨_, _, _, rfl, hp, zip_lookup_none hno, ?_⟩
      refine ⟨G1, _, d, x1.gh, (R.ext x1).tbc, .bo r1 .nil, hv, fun G' H' v F' x3 r3 f3 => k G' H' v F' (x1.trans x3) r3 fun b y => ?_⟩
      obtain ⟨w1, w2, w3⟩ := f3 b y
      exact ⟨w1, x1.hf w2, w3⟩
    · cases hv
  | _ => cases hv
end
/-! ### a list of new things -/
def tNx (K : PySem.W.Frag) (mg : Str → Option Value) (f : Sx) : TE := fun σ H Q => ∃ G0 H0 Z Γ G s, Rel K mg G0 H0 Z Γ σ G H ∧ f Γ = some s ∧ ∀ G' H' v F, Ext G H G' H' → Hd K mg G' H' v F s → (∀ a, F a → G' a = none ∧ H a = none ∧ H' a ≠ none) → Q v H'
theorem EN.pe {X : Cx} {e : Expr} {f : Sx} (h : EN X e f) : PE X e (tNx X.K X.mg f) := by
  obtain ⟨t, h1, h2⟩ := h.ex
  exact ⟨fun pins s σ H Q I ⟨G0, H0, Z, Γ, G, d, R, hf, k⟩ => h1.run pins s σ H Q I (h2 G0 H0 Z Γ σ G H Q d R hf k)⟩
def compLN (g : Gs) (t : Te) (e : Sx) : List D → DEnv → Option (List Sl)
  | [], _ => some []
  | d :: ds, Γ => (g d Γ).bind fun Γ1 => (t Γ1).bind fun b => if b then (e Γ1).bind fun y => (compLN g t e ds Γ).bind fun r => some (y :: r) else compLN g t e ds Γ
def gLcN (own : List Nat) (it : Ag) (g : Gs) (t : Te) (e : Sx) : Sx := fun Γ => (it Γ).bind fun ds => if ds.length < 1000000 then (compLN g t e ds (wipeE Γ own)).bind fun ss => some (.ol ss) else none
theorem lc_runN {K : PySem.W.Frag} {mg : Str → Option Value} {own : List (Str × Nat)} {it : Ag} {p : Te} {wi : TI} {ix : List Nat} {g : Gs} {f : Sx} (hix : ∀ i ∈ ix, i ∈ own.map (·.2))
    (hw : ∀ G0 H0 Z Γ σ G H R ds, Rel K mg G0 H0 Z Γ σ G H → it Γ = some ds → (∀ G' H' J, Ext G H G' H' → ItmB K mg J G' H' ds → R J H') → wi σ H R)
    {G0 H0 : Hp} {Z : Zs} {Γ : DEnv} {σ : L2.St} {G H : Hp} {Q : VK} {sl : Sl} (R : Rel K mg G0 H0 Z Γ σ G H) (hf : gLcN (own.map (·.2)) it g p f Γ = some sl)
    (k : ∀ G' H' v F, Ext G H G' H' → Hd K mg G' H' v F sl → (∀ a, F a → G' a = none ∧ H a = none ∧ H' a ≠ none) → Q v H') :
    tLc wi (tGx K mg ix g) (tTx K mg p) (tNx K mg f) (own.map (·.2)) σ H Q := by
  obtain ⟨items, e1, hf⟩ := obind hf
  split at hf
  · rename_i hlen
    obtain ⟨ds, hf2, es⟩ := obind hf
    cases es
    refine hw G0 H0 Z Γ σ G H _ items R e1 fun G1 H1 J x1 hJ D hD => ?_
    have R1 := R.ext x1
    have ntD : ¬ Z.t.tz D := fun h => R1.zz _ (R1.tz _ h) hD
    refine ⟨fun i m Hc => m = items.length - i ∧ i ≤ items.length ∧ ∃ Gc acc dacc rest Fa, Ext G1 H1 Gc Hc ∧ Gc D = none ∧ Hc D = some (.lst acc) ∧ acc.length ≤ i ∧ HdL K mg Gc Hc acc Fa dacc ∧ (∀ a, Fa a → Gc a = none ∧ H1 a = none ∧ Hc a ≠ none ∧ a ≠ D) ∧ Rel K mg G0 H0 ⟨fun a => Z.z a ∨ a = D, Z.a, Z.t⟩ (wipeE Γ (own.map (·.2))) (L2.wipe σ (own.map (·.2))) Gc Hc ∧
      compLN g p f (items.drop i) (wipeE Γ (own.map (·.2))) = some rest ∧ dacc ++ rest = ds, ⟨items.length, ?_⟩, ?_⟩
    · exact ⟨by simp, Nat.zero_le _, G1, [], [], ds, fun _ => False, Ext.own1 x1.gh hD, x1.gh.free hD, upd_same, Nat.le_refl _, .nil, fun _ z => z.elim, (R1.wipe (own.map (·.2))).zput hD, by simpa using hf2, rfl⟩
    · rintro i m Hc ⟨rfl, hi, Gc, acc, dacc, rest, Fa, xc, gD, hcD, la, ra, fa, Rc, hr, hds⟩
      obtain ⟨st, go⟩ := hJ i Gc Hc xc.gg xc.gh xc.hh
      have nn : ∀ {H : Hp}, H D = some (.lst acc) → H D ≠ none := fun e => by rw [e]; simp
      by_cases hlt : i < items.length
      · have hd : items.drop i = items[i] :: items.drop (i + 1) := List.drop_eq_getElem_cons hlt
        obtain ⟨g1, g2⟩ := go items[i] (List.getElem?_eq_getElem hlt)
        rw [hd] at hr
        obtain ⟨Γ1, c1, hr⟩ := obind hr
        obtain ⟨b, c2, hr⟩ := obind hr
        refine .inr ⟨g1, fun H' => ∃ m', (m' = items.length - (i + 1) ∧ i + 1 ≤ items.length ∧ ∃ Gc acc dacc rest Fa, Ext G1 H1 Gc H' ∧ Gc D = none ∧ H' D = some (.lst acc) ∧ acc.length ≤ i + 1 ∧ HdL K mg Gc H' acc Fa dacc ∧ (∀ a, Fa a → Gc a = none ∧ H1 a = none ∧ H' a ≠ none ∧ a ≠ D) ∧ Rel K mg G0 H0 ⟨fun a => Z.z a ∨ a = D, Z.a, Z.t⟩ (wipeE Γ (own.map (·.2))) (L2.wipe σ (own.map (·.2))) Gc H' ∧
          compLN g p f (items.drop (i + 1)) (wipeE Γ (own.map (·.2))) = some rest ∧ dacc ++ rest = ds), fun H' ⟨m', h⟩ => ⟨m', by have := h.1; omega, h⟩, fun x H2 y => ?_⟩
        obtain ⟨G2, x2, r2⟩ := g2 x H2 y
        have xc2 := xc.trans x2
        have R2 := Rc.ext x2
        have gD2 : G2 D = none := x2.none gD (nn hcD)
        have hD2 := x2.hh _ _ hcD nofun
        have step : ∀ {Ga Ha Gb Hb : Hp}, Ext Ga Ha Gb Hb → (∀ a, Fa a → Ga a = none ∧ H1 a = none ∧ Ha a ≠ none ∧ a ≠ D) → HdL K mg Ga Ha acc Fa dacc → (∀ a, Fa a → Gb a = none ∧ H1 a = none ∧ Hb a ≠ none ∧ a ≠ D) ∧ HdL K mg Gb Hb acc Fa dacc := fun x fa ra =>
          ⟨fun a y => by
            obtain ⟨z1, z2, z3, z4⟩ := fa a y
            exact ⟨x.none z1 z3, z2, x.hn _ z3, z4⟩, ra.mono x.gg fun a o _ q n => x.hh a o q n⟩
        obtain ⟨fa2, ra2⟩ := step x2 fa ra
        refine ⟨G0, H0, _, _, G2, items[i], Γ1, R2, r2, c1, fun σ3 R3 w3 => ⟨(w3 _ hix).trans (wipe_sub _ fun _ h => h), ?_⟩⟩
        refine ⟨G0, H0, _, Γ1, G2, b, R3, c2, fun G4 H4 x4 => ?_⟩
        have gD4 : G4 D = none := x4.none gD2 (nn hD2)
        have hD4 := x4.hh _ _ hD2 nofun
        obtain ⟨fa4, ra4⟩ := step x4 fa2 ra2
        cases b with
        | false =>
          refine iteF ⟨_, rfl, hlt, G4, acc, dacc, rest, Fa, xc2.trans x4, gD4, hD4, by omega, ra4, fa4, R2.ext x4, hr, hds⟩
        | true =>
          refine iteT ⟨G0, H0, ⟨fun a => Z.z a ∨ a = D, Z.a, Z.t⟩, Γ1, G4, ?_⟩
          replace hr : ((f Γ1).bind fun y => (compLN g p f (items.drop (i + 1)) (wipeE Γ (own.map (·.2)))).bind fun r => some (y :: r)) = some rest := hr
          obtain ⟨yv, c3, hr⟩ := obind hr
          obtain ⟨rr, c4, hr⟩ := obind hr
          cases hr
          refine ⟨yv, R3.ext x4, c3, fun G5 H5 v Fv x5 r5 f5 => ?_⟩
          have gD5 : G5 D = none := x5.none gD4 (nn hD4)
          have hD5 : H5 D = some (.lst acc) := x5.hh _ _ hD4 nofun
          obtain ⟨fa5, ra5⟩ := step x5 fa4 ra4
          have nD : ∀ a, Fv a → a ≠ D := fun a y z => by
            subst z
            have := (f5 a y).2.1
            rw [hD4] at this
            cases this
          have dj : ∀ a, Fv a → ¬ Fa a := fun a y z => (fa4 a z).2.2.1 (f5 a y).2.1
          have up : ∀ a, H5 a ≠ none → upd H5 D (.lst (acc ++ [v])) a ≠ none := fun a h => by
            by_cases z : a = D
            · subst z; rw [upd_same]; simp
            · rw [upd_ne z]; exact h
          have xx := (xc2.trans x4).trans x5
          refine ⟨acc, hD5, Nat.lt_of_lt_of_le (Nat.lt_of_le_of_lt la (Nat.lt_trans hlt hlen)) line_big, _, rfl, hlt, G5, acc ++ [v], dacc ++ [yv], rr, fun a => Fa a ∨ Fv a, ?_, gD5, upd_same, by simp; omega, ?_, ?_, ((R2.ext x4).ext x5).aside (.inr rfl) ntD gD5 (R1.hf hD), c4, by rw [← hds]; simp⟩
          · exact xx.put hD gD5
          · refine (ra5.snocU r5 dj).mono (Same.refl _) fun a o h q _ => ?_
            rw [upd_ne]
            · exact q
            · rcases h with h | h
              · exact (fa5 a h).2.2.2
              · exact nD a h
          · intro a h
            rcases h with h | h
            · obtain ⟨z1, z2, z3, z4⟩ := fa5 a h
              exact ⟨z1, z2, up a z3, z4⟩
            · obtain ⟨z1, z2, z3⟩ := f5 a h
              exact ⟨z1, (xc2.trans x4).hf z2, up a z3, nD a h⟩
      · have e : i = items.length := by omega
        subst e
        refine .inl ⟨st (Nat.le_refl _), ?_⟩
        rw [List.drop_length] at hr
        cases hr
        rw [List.append_nil] at hds
        subst hds
        refine k Gc Hc (.ref D) (fun a => a = D ∨ Fa a) (x1.trans xc) (.ol (F' := Fa) (.inl rfl) hcD (fun y => (fa D y).2.2.2 rfl) (fun a y => .inr y) ra) fun a y => ?_
        rcases y with y | y
        · subst y; exact ⟨gD, x1.hf hD, nn hcD⟩
        · obtain ⟨z1, z2, z3, z4⟩ := fa a y
          exact ⟨z1, x1.hf z2, z3⟩
  · cases hf
theorem en_lc {X : Cx} {elt tg iter : Expr} {ifs : List Expr} {scope : Scope} {own : List (Str × Nat)} {it : Ag} {p : Te} {ix : List Nat} {g : Gs} {f : Sx} {pos : Pos} (hc : X.calm = true) (hN : X.N.Nodup) (hi : IC X tg iter it) (ok : BlkOk X.N X.env.scope scope own) (hix : ∀ i ∈ ix, i ∈ own.map (·.2))
    (hg : ∀ (s : Shared) (H : Hp) (C : Addr) (cl : List (Str × Addr)) (fp : List Addr), G (X.blk s H scope (compEnvC scope cl C X.env) fp) tg ix g)
    (ht : ∀ (s : Shared) (H : Hp) (C : Addr) (cl : List (Str × Addr)) (fp : List Addr), Ts (X.blk s H scope (compEnvC scope cl C X.env) fp) ifs p)
    (he : ∀ (s : Shared) (H : Hp) (C : Addr) (cl : List (Str × Addr)) (fp : List Addr), EN (X.blk s H scope (compEnvC scope cl C X.env) fp) elt f)
    (hs : ∀ x, foldedSetIterable iter X.env x = pure x := by intro _; rfl) : EN X (.ListComp elt [⟨tg, iter, ifs, 0⟩] scope pos) (gLcN (own.map (·.2)) it g p f) := by
  obtain ⟨wi, w1, w2⟩ := hi.ex
  exact ⟨⟨_, pe_lc hc hN w1 ok (fun s H C cl fp => (hg s H C cl fp).pg) (fun s H C cl fp => (ht s H C cl fp).pt) (fun s H C cl fp => (he s H C cl fp).pe) hs, fun G0 H0 Z Γ σ G H Q ds R hf k => lc_runN hix w2 R hf k⟩⟩
end DL

namespace DL
open PySem L2
variable [TC : TabCtx]
/-! ### a comprehension of two walks -/
def tIx (K : PySem.W.Frag) (mg : Str → Option Value) (it : Ag) : TI := fun σ H R => ∃ G0 H0 Z Γ G ds, Rel K mg G0 H0 Z Γ σ G H ∧ it Γ = some ds ∧ ∀ G' H' J, Ext G H G' H' → Itm K mg J G' ds → R J H'
theorem I.pi {X : Cx} {tg iter : Expr} {it : Ag} (h : I X tg iter it) : PI X tg iter (tIx X.K X.mg it) := by
  obtain ⟨t, h1, h2⟩ := h.ex
  exact ⟨fun pins s σ H R I ⟨G0, H0, Z, Γ, G, ds, Rl, hf, k⟩ => h1.run pins s σ H R I (h2 G0 H0 Z Γ σ G H R ds Rl hf k)⟩
def compL2 (g : Gs) (t : Te) (it1 : Ag) (g1 : Gs) (t1 : Te) (e : Ex) (vs1 : List Nat) : List D → DEnv → Option (List D)
  | [], _ => some []
  | d :: ds, Γ => (g d Γ).bind fun Γ1 => (t Γ1).bind fun b => if b then (it1 Γ1).bind fun ds1 => (compL g1 t1 e ds1 (wipeE Γ1 vs1)).bind fun r1 => (compL2 g t it1 g1 t1 e vs1 ds Γ).bind fun r => some (r1 ++ r) else compL2 g t it1 g1 t1 e vs1 ds Γ
def gLc2 (own vs1 : List Nat) (it : Ag) (g : Gs) (t : Te) (it1 : Ag) (g1 : Gs) (t1 : Te) (e : Ex) : Ag := fun Γ => (it Γ).bind fun ds => (compL2 g t it1 g1 t1 e vs1 ds (wipeE Γ own)).bind fun r => if r.length < 1000000 then some r else none
theorem lc_run2 {K : PySem.W.Frag} {mg : Str → Option Value} {own : List (Str × Nat)} {vs1 ix ix1 : List Nat} {it it1 : Ag} {p p1 : Te} {g g1 : Gs} {f : Ex} {wi : TI} (hix : ∀ i ∈ ix, i ∈ own.map (·.2)) (hv : ∀ i ∈ vs1, i ∈ own.map (·.2)) (hix1 : ∀ i ∈ ix1, i ∈ vs1)
    (hw : ∀ G0 H0 Z Γ σ G H R ds, Rel K mg G0 H0 Z Γ σ G H → it Γ = some ds → (∀ G' H' J, Ext G H G' H' → ItmB K mg J G' H' ds → R J H') → wi σ H R)
    {G0 H0 : Hp} {Z : Zs} {Γ : DEnv} {σ : L2.St} {G H : Hp} {Q : VK} {ds : List D} (R : Rel K mg G0 H0 Z Γ σ G H) (hf : gLc2 (own.map (·.2)) vs1 it g p it1 g1 p1 f Γ = some ds)
    (k : ∀ G' H' D vs, Ext G H G' H' → H D = none → G' D = none → H' D = some (.lst vs) → RepL K mg G' vs ds → Q (.ref D) H') :
    tLc2 wi (tGx K mg ix g) (tTx K mg p) (tIx K mg it1) (tGx K mg ix1 g1) (tTx K mg p1) (tEx K mg f) (own.map (·.2)) vs1 σ H Q := by
  obtain ⟨items, e1, hf⟩ := obind hf
  obtain ⟨r0, hf2, hf⟩ := obind hf
  split at hf
  · rename_i hlen
    cases hf
    refine hw G0 H0 Z Γ σ G H _ items R e1 fun G1 H1 J x1 hJ D hD => ?_
    have R1 := R.ext x1
    have ntD : ¬ Z.t.tz D := fun h => R1.zz _ (R1.tz _ h) hD
    -- the state within: the list so far at D
    let St : Hp → List DL.D → Prop := fun Hc rest => ∃ Gc acc dacc, Ext G1 H1 Gc Hc ∧ Gc D = none ∧ Hc D = some (.lst acc) ∧ RepL K mg Gc acc dacc ∧ Rel K mg G0 H0 ⟨fun a => Z.z a ∨ a = D, Z.a, Z.t⟩ (wipeE Γ (own.map (·.2))) (L2.wipe σ (own.map (·.2))) Gc Hc ∧ dacc ++ rest = ds
    refine ⟨fun i m Hc => m = items.length - i ∧ i ≤ items.length ∧ ∃ rest, St Hc rest ∧ compL2 g p it1 g1 p1 f vs1 (items.drop i) (wipeE Γ (own.map (·.2))) = some rest, ⟨items.length, ?_⟩, ?_⟩
    · exact ⟨by simp, Nat.zero_le _, ds, ⟨G1, [], [], Ext.own1 x1.gh hD, x1.gh.free hD, upd_same, .nil, (R1.wipe (own.map (·.2))).zput hD, rfl⟩, by simpa using hf2⟩
    · rintro i m Hc ⟨rfl, hi, rest, ⟨Gc, acc, dacc, xc, gD, hcD, ra, Rc, hds⟩, hr⟩
      obtain ⟨st, go⟩ := hJ i Gc Hc xc.gg xc.gh xc.hh
      have nn : ∀ {H : Hp} {acc : List V}, H D = some (.lst acc) → H D ≠ none := fun e => by rw [e]; simp
      by_cases hlt : i < items.length
      · have hd : items.drop i = items[i] :: items.drop (i + 1) := List.drop_eq_getElem_cons hlt
        obtain ⟨g1', g2⟩ := go items[i] (List.getElem?_eq_getElem hlt)
        rw [hd] at hr
        obtain ⟨Γ1, c1, hr⟩ := obind hr
        obtain ⟨b, c2, hr⟩ := obind hr
        refine .inr ⟨g1', fun H' => ∃ m', (m' = items.length - (i + 1) ∧ i + 1 ≤ items.length ∧ ∃ rest, St H' rest ∧ compL2 g p it1 g1 p1 f vs1 (items.drop (i + 1)) (wipeE Γ (own.map (·.2))) = some rest), fun H' ⟨m', h⟩ => ⟨m', by have := h.1; omega, h⟩, fun x H2 y => ?_⟩
        obtain ⟨G2, x2, r2⟩ := g2 x H2 y
        have xc2 := xc.trans x2
        have R2 := Rc.ext x2
        have gD2 : G2 D = none := x2.none gD (nn hcD)
        have hD2 := x2.hh _ _ hcD nofun
        refine ⟨G0, H0, _, _, G2, items[i], Γ1, R2, r2, c1, fun σ3 R3 w3 => ⟨(w3 _ hix).trans (wipe_sub _ fun _ h => h), ?_⟩⟩
        refine ⟨G0, H0, _, Γ1, G2, b, R3, c2, fun G4 H4 x4 => ?_⟩
        have gD4 : G4 D = none := x4.none gD2 (nn hD2)
        have hD4 := x4.hh _ _ hD2 nofun
        cases b with
        | false =>
          exact iteF ⟨_, rfl, hlt, rest, ⟨G4, acc, dacc, xc2.trans x4, gD4, hD4, (ra.mono x2.gg).mono x4.gg, R2.ext x4, hds⟩, hr⟩
        | true =>
          replace hr : ((it1 Γ1).bind fun ds1 => (compL g1 p1 f ds1 (wipeE Γ1 vs1)).bind fun r1 => (compL2 g p it1 g1 p1 f vs1 (items.drop (i + 1)) (wipeE Γ (own.map (·.2)))).bind fun r => some (r1 ++ r)) = some rest := hr
          obtain ⟨ds1, d1, hr⟩ := obind hr
          obtain ⟨r1, d2, hr⟩ := obind hr
          obtain ⟨rr, d3, hr⟩ := obind hr
          cases hr
          refine iteT ⟨G0, H0, ⟨fun a => Z.z a ∨ a = D, Z.a, Z.t⟩, Γ1, G4, ds1, R3.ext x4, d1, fun G5 H5 J1 x5 hJ1 => ?_⟩
          have gD5 : G5 D = none := x5.none gD4 (nn hD4)
          have hD5 := x5.hh _ _ hD4 nofun
          have xc5 := (xc2.trans x4).trans x5
          have Ra5 := (R2.ext x4).ext x5
          have Rb5 := ((R3.ext x4).ext x5).wipe vs1
          have ra5 := ((ra.mono x2.gg).mono x4.gg).mono x5.gg
          refine ⟨fun j k Hc => k = ds1.length - j ∧ j ≤ ds1.length ∧ ∃ Gc acc dacc rest1, Same G5 Gc ∧ Ext G1 H1 Gc Hc ∧ Gc D = none ∧ Hc D = some (.lst acc) ∧ RepL K mg Gc acc dacc ∧
            Rel K mg G0 H0 ⟨fun a => Z.z a ∨ a = D, Z.a, Z.t⟩ (wipeE Γ (own.map (·.2))) (L2.wipe σ (own.map (·.2))) Gc Hc ∧ Rel K mg G0 H0 ⟨fun a => Z.z a ∨ a = D, Z.a, Z.t⟩ (wipeE Γ1 vs1) (L2.wipe σ3 vs1) Gc Hc ∧
            compL g1 p1 f (ds1.drop j) (wipeE Γ1 vs1) = some rest1 ∧ dacc ++ (rest1 ++ rr) = ds, ⟨ds1.length, ?_⟩, ?_⟩
          · exact ⟨by simp, Nat.zero_le _, G5, acc, dacc, r1, Same.refl _, xc5, gD5, hD5, ra5, Ra5, Rb5, by simpa using d2, hds⟩
          · rintro j k1 Hj ⟨rfl, hj, Gj, accj, daccj, restj, sG, xj, gDj, hDj, raj, Raj, Rbj, hrj, hdj⟩
            obtain ⟨st1, go1⟩ := hJ1 j Gj Hj sG xj.gh
            by_cases hlt1 : j < ds1.length
            · have hd1 : ds1.drop j = ds1[j] :: ds1.drop (j + 1) := List.drop_eq_getElem_cons hlt1
              obtain ⟨q1, q2⟩ := go1 ds1[j] (List.getElem?_eq_getElem hlt1)
              rw [hd1] at hrj
              obtain ⟨Γ2, y1, hrj⟩ := obind hrj
              obtain ⟨b1, y2, hrj⟩ := obind hrj
              refine .inr ⟨q1, fun H' => ∃ k', (k' = ds1.length - (j + 1) ∧ j + 1 ≤ ds1.length ∧ ∃ Gc acc dacc rest1, Same G5 Gc ∧ Ext G1 H1 Gc H' ∧ Gc D = none ∧ H' D = some (.lst acc) ∧ RepL K mg Gc acc dacc ∧
                Rel K mg G0 H0 ⟨fun a => Z.z a ∨ a = D, Z.a, Z.t⟩ (wipeE Γ (own.map (·.2))) (L2.wipe σ (own.map (·.2))) Gc H' ∧ Rel K mg G0 H0 ⟨fun a => Z.z a ∨ a = D, Z.a, Z.t⟩ (wipeE Γ1 vs1) (L2.wipe σ3 vs1) Gc H' ∧
                compL g1 p1 f (ds1.drop (j + 1)) (wipeE Γ1 vs1) = some rest1 ∧ dacc ++ (rest1 ++ rr) = ds), fun H' ⟨k', h⟩ => ⟨k', by have := h.1; omega, h⟩, fun x H6 y6 => ?_⟩
              obtain ⟨G6, x6, r6⟩ := q2 x H6 y6
              have gD6 : G6 D = none := x6.none gDj (nn hDj)
              have hD6 := x6.hh _ _ hDj nofun
              have Ra6 := Raj.ext x6
              have Rb6 := Rbj.ext x6
              refine ⟨G0, H0, _, _, G6, ds1[j], Γ2, Rb6, r6, y1, fun σ4 R4 w4 => ⟨(w4 _ hix1).trans (wipe_sub _ fun _ h => h), ?_⟩⟩
              refine ⟨G0, H0, _, Γ2, G6, b1, R4, y2, fun G7 H7 x7 => ?_⟩
              have gD7 : G7 D = none := x7.none gD6 (nn hD6)
              have hD7 := x7.hh _ _ hD6 nofun
              have x67 := (xj.trans x6).trans x7
              cases b1 with
              | false =>
                exact iteF ⟨_, rfl, hlt1, G7, accj, daccj, restj, (sG.trans x6.gg).trans x7.gg, x67, gD7, hD7, (raj.mono x6.gg).mono x7.gg, Ra6.ext x7, Rb6.ext x7, hrj, hdj⟩
              | true =>
                refine iteT ⟨G0, H0, ⟨fun a => Z.z a ∨ a = D, Z.a, Z.t⟩, Γ2, G7, ?_⟩
                replace hrj : ((f Γ2).bind fun y => (compL g1 p1 f (ds1.drop (j + 1)) (wipeE Γ1 vs1)).bind fun r => some (y :: r)) = some restj := hrj
                obtain ⟨yv, c3, hrj⟩ := obind hrj
                obtain ⟨rj, c4, hrj⟩ := obind hrj
                cases hrj
                refine ⟨yv, R4.ext x7, c3, fun G8 H8 v x8 r8 => ?_⟩
                have gD8 : G8 D = none := x8.none gD7 (nn hD7)
                have hD8 := x8.hh _ _ hD7 nofun
                have la : accj.length < sizeLine := by
                  rw [raj.length]
                  refine Nat.lt_of_lt_of_le ?_ line_big
                  have := congrArg List.length hdj
                  simp at this
                  omega
                refine ⟨accj, hD8, la, _, rfl, hlt1, G8, accj ++ [v], daccj ++ [yv], rj, ((sG.trans x6.gg).trans x7.gg).trans x8.gg, (x67.trans x8).put hD gD8, gD8, upd_same, (((raj.mono x6.gg).mono x7.gg).mono x8.gg).append (.cons r8 .nil), ((Ra6.ext x7).ext x8).aside (.inr rfl) ntD gD8 (R1.hf hD), ((Rb6.ext x7).ext x8).aside (.inr rfl) ntD gD8 (R1.hf hD), c4, by rw [← hdj]; simp⟩
            · have e : j = ds1.length := by omega
              subst e
              refine .inl ⟨st1 (Nat.le_refl _), ?_⟩
              rw [List.drop_length] at hrj
              cases hrj
              exact ⟨_, rfl, hlt, rr, ⟨Gj, accj, daccj, xj, gDj, hDj, raj, Raj, by simpa using hdj⟩, d3⟩
      · have e : i = items.length := by omega
        subst e
        refine .inl ⟨st (Nat.le_refl _), ?_⟩
        rw [List.drop_length] at hr
        cases hr
        rw [List.append_nil] at hds
        subst hds
        exact k Gc Hc D acc (x1.trans xc) (x1.hf hD) gD hcD ra
  · cases hf
theorem el_lc2 {X : Cx} {elt tg iter tg1 iter1 : Expr} {ifs ifs1 : List Expr} {scope : Scope} {own : List (Str × Nat)} {vs1 ix ix1 : List Nat} {it it1 : Ag} {p p1 : Te} {g g1 : Gs} {f : Ex} {pos : Pos} (hc : X.calm = true) (hN : X.N.Nodup) (hi : IC X tg iter it) (ok : BlkOk X.N X.env.scope scope own) (hv : ∀ i ∈ vs1, i ∈ own.map (·.2)) (hix : ∀ i ∈ ix, i ∈ own.map (·.2)) (hix1 : ∀ i ∈ ix1, i ∈ vs1)
    (hg : ∀ (s : Shared) (H : Hp) (C : Addr) (cl : List (Str × Addr)) (fp : List Addr), G (X.blk s H scope (compEnvC scope cl C X.env) fp) tg ix g)
    (ht : ∀ (s : Shared) (H : Hp) (C : Addr) (cl : List (Str × Addr)) (fp : List Addr), Ts (X.blk s H scope (compEnvC scope cl C X.env) fp) ifs p)
    (hi1 : ∀ (s : Shared) (H : Hp) (C : Addr) (cl : List (Str × Addr)) (fp : List Addr), I (X.blk s H scope (compEnvC scope cl C X.env) fp) tg1 iter1 it1)
    (hg1 : ∀ (s : Shared) (H : Hp) (C : Addr) (cl : List (Str × Addr)) (fp : List Addr), G (X.blk s H scope (compEnvC scope cl C X.env) fp) tg1 ix1 g1)
    (ht1 : ∀ (s : Shared) (H : Hp) (C : Addr) (cl : List (Str × Addr)) (fp : List Addr), Ts (X.blk s H scope (compEnvC scope cl C X.env) fp) ifs1 p1)
    (he : ∀ (s : Shared) (H : Hp) (C : Addr) (cl : List (Str × Addr)) (fp : List Addr), E (X.blk s H scope (compEnvC scope cl C X.env) fp) elt f)
    (hs : ∀ x, foldedSetIterable iter X.env x = pure x := by intro _; rfl) (hs1 : ∀ env x, foldedSetIterable iter1 env x = pure x := by intro _ _; rfl) : EL X (.ListComp elt [⟨tg, iter, ifs, 0⟩, ⟨tg1, iter1, ifs1, 0⟩] scope pos) (gLc2 (own.map (·.2)) vs1 it g p it1 g1 p1 f) := by
  obtain ⟨wi, w1, w2⟩ := hi.ex
  exact ⟨⟨_, pe_lc2 hc hN w1 ok hv (fun s H C cl fp => (hg s H C cl fp).pg) (fun s H C cl fp => (ht s H C cl fp).pt) (fun s H C cl fp => (hi1 s H C cl fp).pi) (fun s H C cl fp => (hg1 s H C cl fp).pg) (fun s H C cl fp => (ht1 s H C cl fp).pt) (fun s H C cl fp => (he s H C cl fp).pe) hs hs1, fun G0 H0 Z Γ σ G H Q ds R hf k => lc_run2 hix hv hix1 w2 R hf k⟩⟩
end DL

/-! DL23: x in l, x not in l, for data without objects -/
namespace DL
open PySem L2
variable [TC : TabCtx]
theorem _root_.L2.Room.u65 {k : Nat} {A : Around} (r : Room k A) : A.units + 65 < cLine := by have := r.un; omega
section
variable {X : Cx}
/-- x in l, l a list -/
def dIn (x y : D) : Option D := match y with
  | .lst ds => if eqOk x && eqOk (.lst ds) then some (.bl (ds.any fun z => eqd z x)) else none
  | _ => none
def dNIn (x y : D) : Option D := match y with
  | .lst ds => if eqOk x && eqOk (.lst ds) then some (.bl (!ds.any fun z => eqd z x)) else none
  | _ => none
theorem any_toPys (x : D) : ∀ ds : List D, ((toPys ds).any fun z => PyData.eqv z (toPy x)) = ds.any fun z => eqd z x
  | [] => by rw [toPys]; rfl
  | d :: ds => by
    rw [toPys, List.any_cons, List.any_cons, any_toPys x ds]
    rfl
theorem ob_in (hu : X.A.units + 65 < cLine) : OpB X (compareOp .In) dIn := by
  refine ⟨_, op_inD hu, fun x y d v w G H Q gh e rx ry k => ?_⟩
  unfold dIn at e
  split at e
  · rename_i ds
    split at e
    · rename_i z
      cases e
      simp only [eqOk, Bool.and_eq_true] at z
      have ry' := ry.dp gh z.2.1
      have s2 := z.2.2
      rw [toPy] at ry' s2
      refine ⟨_, _, rx.dp gh z.1.1, ry', z.1.2, s2, ?_⟩
      rw [any_toPys]
      exact k G H _ (Ext.refl gh) (.bl _)
    · cases e
  · cases e
theorem ob_nin (hu : X.A.units + 65 < cLine) : OpB X (compareOp .NotIn) dNIn := by
  refine ⟨_, op_notInD hu, fun x y d v w G H Q gh e rx ry k => ?_⟩
  unfold dNIn at e
  split at e
  · rename_i ds
    split at e
    · rename_i z
      cases e
      simp only [eqOk, Bool.and_eq_true] at z
      have ry' := ry.dp gh z.2.1
      have s2 := z.2.2
      rw [toPy] at ry' s2
      refine ⟨_, _, rx.dp gh z.1.1, ry', z.1.2, s2, ?_⟩
      rw [any_toPys]
      exact k G H _ (Ext.refl gh) (.bl _)
    · cases e
  · cases e
end
end DL

/-! DL24: a loop over a display of new lists that appends to each -/
namespace DL
open PySem L2
variable [TC : TabCtx]
theorem Rel.dropV {K : PySem.W.Frag} {mg : Str → Option Value} {G0 H0 : Hp} {Z : Zs} {Γ : DEnv} {σ : L2.St} {G H : Hp} (r : Rel K mg G0 H0 Z Γ σ G H) (i : Nat) (v : Option V) : Rel K mg G0 H0 Z (Γ.set i .no) (σ.set i v) G H := by
  obtain ⟨own, o1, o2, o3⟩ := r.own
  refine ⟨by simpa using r.len, r.gh, r.hh, r.gg, r.new, r.zz, fun w s' e1 e2 e3 => ?_, r.tb, r.tz, r.tc, r.hn, own, o1, o2, fun j s q => ?_⟩
  · rcases set_get e2 with ⟨ei, hl, rfl⟩ | ⟨ei, q⟩
    · cases e3
    · rw [List.getElem?_set_ne ei]
      exact r.an w s' e1 q e3
  rcases set_get q with ⟨ei, hl, rfl⟩ | ⟨ei, q⟩
  · exact .inl rfl
  · rw [List.getElem?_set_ne ei]
    exact o3 j s q
/-- new things, one after another -/
abbrev Nx := DEnv → Option (List Sl)
def nxNil : Nx := fun _ => some []
def nxCons (f : Sx) (fs : Nx) : Nx := fun Γ => (f Γ).bind fun s => (fs Γ).bind fun ss => some (s :: ss)
structure NN (X : Cx) (es : List Expr) (n : Nat) (fs : Nx) : Prop where
  ex : ∃ t, PA X es t ∧ ∀ G0 H0 Z Γ σ G H (Q : List V → Hp → Prop) ss, Rel X.K X.mg G0 H0 Z Γ σ G H → fs Γ = some ss → (∀ G' H' vs F, Ext G H G' H' → HdL X.K X.mg G' H' vs F ss → vs.length = ss.length → (∀ a, F a → G' a = none ∧ H a = none ∧ H' a ≠ none) → Q vs H') → t σ H Q
  n : ∀ Γ ss, fs Γ = some ss → ss.length = n
section
variable {X : Cx} {e : Expr} {es : List Expr} {f : Ex} {sx : Sx} {fs : Nx} {n : Nat} {pos pos' : Pos}
theorem nn_nil : NN X [] 0 nxNil := ⟨⟨_, pa_nil, fun G0 H0 Z Γ σ G H Q ss R hf k => by
  cases hf
  exact k G H [] (fun _ => False) (Ext.refl R.gh) .nil rfl fun _ z => z.elim⟩, fun Γ ss h => by cases h; rfl⟩
theorem nn_cons (he : EN X e sx) (hr : NN X es n fs) (hs : starEach (e :: es) X.env = (false, eval e X.env) :: starEach es X.env := by rfl) : NN X (e :: es) (n + 1) (nxCons sx fs) := by
  obtain ⟨t, h1, h2⟩ := he.ex
  obtain ⟨u, u1, u2⟩ := hr.ex
  refine ⟨⟨_, pa_cons h1 u1 hs, fun G0 H0 Z Γ σ G H Q ss R hf k => ?_⟩, fun Γ ss hf => ?_⟩
  · obtain ⟨s, e1, hf⟩ := obind hf
    obtain ⟨sr, e2, hf⟩ := obind hf
    cases hf
    refine h2 G0 H0 Z Γ σ G H _ s R e1 fun G1 H1 v F1 x1 r1 f1 => ?_
    refine u2 G0 H0 Z Γ σ G1 H1 _ sr (R.ext x1) e2 fun G2 H2 vs F2 x2 r2 l2 f2 => ?_
    have r1' := r1.mono x2.gg (fun a o _ q n => x2.hh a o q n)
    refine k G2 H2 (v :: vs) (fun a => F1 a ∨ F2 a) (x1.trans x2) (.cons r1' r2 (fun _ => .inl) (fun _ => .inr) fun a q1 q2 => (f1 a q1).2.2 (f2 a q2).2.1) (by simp [l2]) fun a q => ?_
    rcases q with q | q
    · obtain ⟨g1, g2, g3⟩ := f1 a q
      exact ⟨x2.none g1 g3, g2, x2.hn a g3⟩
    · obtain ⟨g1, g2, g3⟩ := f2 a q
      exact ⟨g1, x1.hf g2, g3⟩
  · obtain ⟨s, e1, hf⟩ := obind hf
    obtain ⟨sr, e2, hf⟩ := obind hf
    cases hf
    simp [hr.n Γ sr e2]
/-- for x in [n1, n2, ..]: x.append(e): x is forgotten -/
def isOwS : Sl → Bool
  | .ow xs => decide (xs.length < 1000000)
  | _ => false
def sForNA (i : Nat) (fs : Nx) (f : Ex) : Sm := fun Γ => (fs Γ).bind fun ss => (f (Γ.set i .no)).bind fun _ => if i < Γ.length ∧ 0 < ss.length ∧ ss.all isOwS = true then some (.nx (Γ.set i .no)) else none
theorem s_forNA {x : Str} {i : Nat} {tp xp ap cp ep lp : Pos} (hp : PassesOwn (model X.prog X.w) X.A X.env X.xe) (hc : X.calm = true) (hn : NN X es n fs) (hN : X.N.Nodup) (he : E X e f) (h1000 : n ≤ 1000 := by decide)
    (hi : X.N[i]? = some x := by rfl) (hx : Loc X.env.scope x := by first | exact Or.inl rfl | exact Or.inr rfl) (hv : Vis X.env.scope x := by first | exact Or.inl rfl | exact Or.inr (Or.inl rfl) | exact Or.inr (Or.inr rfl)) (hd : (x == ("__debug__" : Str)) = false := by decide)
    (hcd : (x == ("__classdict__" : Str)) = false := by decide) (hf : X.fn x = true ∨ X.env.scope.names.lookup x = some .local := by first | exact .inl rfl | exact .inr rfl | assumption)
    (hst : starEach [e] X.env = (false, eval e X.env) :: starEach [] X.env := by rfl)
    (hpe : ∀ {r : V → List V → Hp → VK → Prop} {to te : TE}, MtR X "list.append" r → PE X (.Name x xp) to → PE X e te → PE X (.Call (.Attribute (.Name x xp) "append" ap) [e] [] cp) (tBM X.K "list" r to (tCons te tNil)) := by intro r to te hm ho hp; exact pe_bm PySem.F.plainAttrs_list PySem.F.slot_list_append PySem.F.type_list_append hm ho (pa_cons hp pa_nil))
    (hs : swapsWith (.Call (.Attribute (.Name x xp) "append" ap) [e] [] cp) none ep.line X.env = pure false := by rfl)
    (hs2 : ∀ y, foldedSetIterable (.List es lp) X.env y = pure y := by intro _; rfl) :
    S X (.For (.Name x tp) (.List es lp) [.Expr (.Call (.Attribute (.Name x xp) "append" ap) [e] [] cp) ep] [] pos) (sForNA i fs f) := by
  obtain ⟨t, t1, t2⟩ := hn.ex
  obtain ⟨u, u1, u2⟩ := he.ex
  refine ⟨⟨_, ps_for hp hc (pi_list (pe_lst t1)) (pg_name hN hi hx hf) (pss_one (ps_expr (hpe mt_append (pe_var hi hv hd hcd) u1) hs)) hs2, fun G0 H0 Z Γ σ G H D r R hr k => ?_⟩⟩
  obtain ⟨ss, e1, hr⟩ := obind hr
  obtain ⟨d, e2, hr⟩ := obind hr
  split at hr
  · rename_i hall
    cases hr
    obtain ⟨hil, hpos, hall⟩ := hall
    refine t2 G0 H0 Z Γ σ G H _ ss R e1 fun G1 H1 vs F x1 r1 l1 f1 => ⟨?_, fun P hP => ?_⟩
    · rw [l1, hn.n Γ ss e1]; exact Nat.le_of_lt (small1000 h1000)
    · refine ⟨P, rfl, ⟨vs, SqL.of upd_same⟩, fun j m σ' H' => m = ss.length - j ∧ j ≤ ss.length ∧ ∃ Γ' G', Rel X.K X.mg G0 H0 Z Γ' σ' G H ∧ Γ'.length = Γ.length ∧ Γ'.set i .no = Γ.set i .no ∧ (0 < j → Γ' = Γ.set i .no) ∧ Ext G H G' H' ∧ H' P = some (.lst vs) ∧ G' P = none ∧ H P = none ∧ ∃ F', HdL X.K X.mg G' H' (vs.drop j) F' (ss.drop j) ∧ ∀ a, F' a → G' a = none ∧ H a = none ∧ a ≠ P ∧ H' a ≠ none, ?_, ?_⟩
      · refine ⟨ss.length, by omega, Nat.zero_le _, Γ, G1, R, rfl, rfl, fun z => absurd z (by omega), x1.trans (Ext.own1 x1.gh hP), upd_same, x1.gh.free hP, x1.hf hP, F, ?_, fun a q => ⟨(f1 a q).1, (f1 a q).2.1, fun z => (f1 a q).2.2 (by rw [z]; exact hP), ?_⟩⟩
        · show HdL X.K X.mg G1 (upd H1 P (.lst vs)) vs F ss
          exact r1.mono (Same.refl _) fun a o fa q _ => by rw [upd_ne (fun z => (f1 a fa).2.2 (by rw [z]; exact hP))]; exact q
        · by_cases z : a = P
          · rw [z, upd_same]; simp
          · rw [upd_ne z]; exact (f1 a q).2.2
      · rintro j m σ' H' ⟨rfl, hj, Γ', G', R', hlen, hset, hj0, x', hP', gP, hP0, F', r', f'⟩
        by_cases hlt : j < ss.length
        · have hv1 : vs.drop j = vs[j]'(by omega) :: vs.drop (j + 1) := List.drop_eq_getElem_cons (by omega)
          have hs1 : ss.drop j = ss[j] :: ss.drop (j + 1) := List.drop_eq_getElem_cons hlt
          have how : isOwS ss[j] = true := List.all_eq_true.mp hall _ (List.getElem_mem hlt)
          generalize hvj : vs[j]'(by omega) = vj at hv1
          generalize ss[j] = sj at hs1 how
          have hvj2 : vs[j]? = some vj := by rw [← hvj]; exact List.getElem?_eq_getElem (by omega)
          rw [hv1, hs1] at r'
          cases r' with
          | @cons _ _ _ _ _ F1 F2 h r q1 q2 dj =>
            refine .inr ⟨⟨vs, vj, SqL.of hP', hvj2⟩, fun σ2 H2 => ∃ Γ' G', Rel X.K X.mg G0 H0 Z Γ' σ2 G H ∧ Γ'.length = Γ.length ∧ Γ'.set i .no = Γ.set i .no ∧ (0 < j + 1 → Γ' = Γ.set i .no) ∧ Ext G H G' H2 ∧ H2 P = some (.lst vs) ∧ G' P = none ∧ H P = none ∧ ∃ F', HdL X.K X.mg G' H2 (vs.drop (j + 1)) F' (ss.drop (j + 1)) ∧ ∀ a, F' a → G' a = none ∧ H a = none ∧ a ≠ P ∧ H2 a ≠ none, fun σ2 H2 w => ⟨ss.length - (j + 1), by omega, rfl, by omega, w⟩, fun y H2 hy => ?_⟩
            obtain ⟨rfl, hy⟩ := hy
            have e3 := hy vs (SqL.of hP')
            rw [hvj2] at e3
            cases e3
            have Rn := R'.dropV i (some vj)
            refine ⟨vj, ?_, ?_⟩
            · have := R'.len
              rw [List.getElem?_set_self (by omega)]
            cases sj with
            | ow xs =>
              cases h with
              | ow fq hq rq =>
                rename_i q ws
                obtain ⟨g1, g2, g3, _⟩ := f' q (q1 q fq)
                refine ⟨.inl ⟨rfl, _, SqL.of hq⟩, ?_⟩
                refine u2 G0 H0 Z (Γ'.set i .no) _ G' _ _ d (Rn.ext x') (by rw [hset]; exact e2) fun G3 H3 w x3 r3 => ?_
                have g1' := x3.none g1 (by rw [hq]; simp)
                have hq3 := x3.hh _ _ hq nofun
                refine ⟨q, ws, w, rfl, rfl, hq3, ?_, ?_⟩
                · rw [rq.length]
                  have := of_decide_eq_true how
                  exact Nat.lt_of_lt_of_le this line_big
                · refine ⟨Γ'.set i .no, G3, Rn, by rw [List.length_set]; exact hlen, by rw [hset, List.set_set], fun _ => hset, (x'.trans x3).put g2 g1', ?_, x3.none gP (by rw [hP']; simp), hP0, F2, ?_, fun a z => ?_⟩
                  · rw [upd_ne (fun z => g3 z.symm)]
                    exact x3.hh _ _ hP' nofun
                  · exact r.mono x3.gg fun a o fa hq n => by
                      rw [upd_ne (fun z => dj q fq (by rw [← z]; exact fa))]
                      exact x3.hh _ _ hq n
                  · obtain ⟨y1, y2, y3, y4⟩ := f' a (q2 a z)
                    refine ⟨x3.none y1 y4, y2, y3, ?_⟩
                    rw [upd_ne (fun w => dj q fq (by rw [← w]; exact z))]
                    exact x3.hn a y4
            | _ => cases how
        · have ej : j = ss.length := by omega
          refine .inl ⟨⟨vs, SqL.of hP', by omega⟩, ?_⟩
          have := hj0 (by omega)
          subst this
          exact k σ' G' H' (R'.ext x')
  · cases hr
end
end DL

namespace DL
open PySem L2
variable [TC : TabCtx]

/-! ### texts -/
def strs? : List D → Option (List Str)
  | [] => some []
  | .str x :: r => (strs? r).map (x :: ·)
  | _ :: _ => none
theorem strs?_map : ∀ ys : List Str, strs? (ys.map D.str) = some ys
  | [] => rfl
  | y :: ys => by
    show (strs? (ys.map D.str)).map _ = _
    rw [strs?_map ys]
    rfl
theorem strs?_eq : ∀ {ds : List D} {ys : List Str}, strs? ds = some ys → ds = ys.map D.str
  | [], _, h => by cases h; rfl
  | d :: ds, ys, h => by
    cases d with
    | str x =>
      obtain ⟨zs, e, rfl⟩ := Option.map_eq_some_iff.mp h
      rw [strs?_eq e]
      rfl
    | _ => cases h
theorem RepL.strs {K mg} {G : Hp} : ∀ {ys : List Str} {vs : List V}, RepL K mg G vs (ys.map D.str) → vs = ys.map V.str
  | [], _, r => by cases r; rfl
  | y :: ys, _, r => by
    cases r with
    | cons h r => cases h; rw [RepL.strs r]; rfl
theorem RepL.ofStrs {K mg} {G : Hp} : ∀ ys : List Str, RepL K mg G (ys.map V.str) (ys.map D.str)
  | [] => .nil
  | y :: ys => .cons (.str y) (RepL.ofStrs ys)
theorem len_app (x y : Str) : (x ++ y).length = x.length + y.length := by
  rw [TL.len_tl, TL.len_tl x, TL.len_tl y, TL.tl_append, List.length_append]
section
variable {X : Cx} {e a b o : Expr} {f g k : Ex} {fs : Ag} {pos pos' apos : Pos} {n i : Nat} {rp : Pth}
/-- str(an int) -/
def dStrI : D → Option D
  | .int i => if i.natAbs.log2 < 1920 then some (.str (toString i)) else none
  | _ => none
theorem cb_strI : CbB X (.type "str") dStrI := by
  refine ⟨_, call_str_int, fun x d v G H Q gh e r k => ?_⟩
  unfold dStrI at e
  split at e
  · split at e
    · cases e
      rename_i z
      rw [(r.flat (by simp)).intv]
      exact ⟨_, rfl, z, k G H _ (Ext.refl gh) (.str _)⟩
    · cases e
  · cases e
/-- int(a text) -/
def dIntS : D → Option D
  | .str a => if a.length ≤ 640 then (PySem.intText? a).map D.int else none
  | _ => none
theorem cb_intS : CbB X (.type "int") dIntS := by
  refine ⟨_, call_int_str, fun x d v G H Q gh e r k => ?_⟩
  unfold dIntS at e
  split at e
  · split at e
    · obtain ⟨m, e1, rfl⟩ := Option.map_eq_some_iff.mp e
      rename_i z
      rw [(r.flat (by simp)).strv]
      exact ⟨_, _, rfl, e1, z, k G H _ (Ext.refl gh) (.int _)⟩
    · cases e
  · cases e
/-- ord(a sign) -/
def dOrd : D → Option D
  | .str x => if x.length = 1 then some (.int (x.cps.getD 0 0 : Nat)) else none
  | _ => none
theorem cb_ord : CbB X (.builtin "ord") dOrd := by
  refine ⟨_, call_ord, fun x d v G H Q gh e r k => ?_⟩
  unfold dOrd at e
  split at e
  · split at e
    · cases e
      rename_i z
      rw [(r.flat (by simp)).strv]
      exact ⟨_, rfl, z, k G H _ (Ext.refl gh) (.int _)⟩
    · cases e
  · cases e
/-- tuple(a list or a tuple) -/
def dTuple : D → Option D
  | .lst xs => some (.tup xs)
  | .tup xs => some (.tup xs)
  | _ => none
theorem cb_tuple : CbB X (.type "tuple") dTuple := by
  refine ⟨_, call_tuple_of, fun x d v G H Q gh e r k => ?_⟩
  unfold dTuple at e
  split at e
  · cases e
    obtain ⟨p, vs, rfl, h, r⟩ := r.lst gh
    refine ⟨p, vs, rfl, .inl ⟨SqL.of h, fun l hl => ?_⟩⟩
    have x2 := Ext.new1 (o := .tup vs) gh hl
    exact k _ _ _ x2 (.tup (SqT.of upd_same) (r.mono x2.gg))
  · cases e
    cases r with
    | sh r =>
      cases r with
      | tup h r => exact ⟨_, _, rfl, .inr ⟨sqt_same gh h, k G H _ (Ext.refl gh) (.tup h r)⟩⟩
  · cases e
/-! f-strings -/
def dFmt : D → Option D
  | .str y => if y.length < 1000000 then some (.str y) else none
  | .int i => if i.natAbs.log2 < 1920 then some (.str (toString i)) else none
  | _ => none
theorem e_fmt (he : E X e f) : E X (.FormattedValue e (-1) none pos) (gU dFmt f) := by
  obtain ⟨t, h1, h2⟩ := he.ex
  refine ⟨⟨_, pe_fmt h1, fun G0 H0 Z Γ σ G H Q d R hf k => ?_⟩⟩
  obtain ⟨y, e1, hf⟩ := obind hf
  refine h2 G0 H0 Z Γ σ G H _ y R e1 fun G1 H1 v x1 r1 => ?_
  cases y with
  | str y =>
    replace hf : (if y.length < 1000000 then some (D.str y) else none) = some d := hf
    split at hf
    · cases hf
      rename_i z
      rw [r1.strv]
      exact .inl ⟨_, rfl, Nat.le_trans (Nat.le_of_lt z) line_big, k G1 H1 _ x1 (.str _)⟩
    · cases hf
  | int m =>
    replace hf : (if m.natAbs.log2 < 1920 then some (D.str (toString m)) else none) = some d := hf
    split at hf
    · cases hf
      rename_i z
      rw [r1.intv]
      exact .inr ⟨_, rfl, z, k G1 H1 _ x1 (.str _)⟩
    · cases hf
  | _ => cases hf
def totS (ys : List Str) : Nat := (ys.map Str.length).sum
structure EJ (X : Cx) (es : List Expr) (fs : Ag) : Prop where
  ex : ∃ ts, PJ X es ts ∧ ∀ G0 H0 Z Γ σ G H (acc : Str) (ys : List Str) (Q : Str → Hp → Prop), Rel X.K X.mg G0 H0 Z Γ σ G H → fs Γ = some (ys.map D.str) → acc.length + totS ys < 1000000 → (∀ G' H', Ext G H G' H' → Q (ys.foldl (· ++ ·) acc) H') → tJs ts acc σ H Q
theorem ej_nil : EJ X [] aN := ⟨⟨_, .nil, fun G0 H0 Z Γ σ G H acc ys Q R hf hl k => by
  have e : ys = [] := by
    cases ys with
    | nil => rfl
    | cons y ys => cases hf
  subst e
  exact k G H (Ext.refl R.gh)⟩⟩
theorem ej_cons {es : List Expr} (he : E X e f) (hr : EJ X es fs) : EJ X (e :: es) (aC f fs) := by
  obtain ⟨t, h1, h2⟩ := he.ex
  obtain ⟨ts, q1, q2⟩ := hr.ex
  refine ⟨⟨_, .cons h1 q1, fun G0 H0 Z Γ σ G H acc ys Q R hf hl k => ?_⟩⟩
  obtain ⟨d, e1, hf⟩ := obind hf
  obtain ⟨ds, e2, hf⟩ := obind hf
  cases ys with
  | nil => cases hf
  | cons y ys =>
    have hf := Option.some.inj hf
    rw [List.map_cons] at hf
    injection hf with e3 e4
    subst e3 e4
    have tt : totS (y :: ys) = y.length + totS ys := by unfold totS; simp
    rw [tt] at hl
    refine h2 G0 H0 Z Γ σ G H _ _ R e1 fun G1 H1 v x1 r1 => ?_
    rw [r1.strv]
    refine ⟨y, rfl, ?_, ?_⟩
    · rw [len_app]
      exact Nat.le_trans (by omega) line_big
    · refine q2 G0 H0 Z Γ σ G1 H1 (acc ++ y) ys Q (R.ext x1) e2 (by rw [len_app]; omega) fun G2 H2 x2 => ?_
      exact k G2 H2 (x1.trans x2)
def gJs (fs : Ag) : Ex := fun Γ => (fs Γ).bind fun ds => (strs? ds).bind fun ys => if totS ys < 1000000 then some (.str (ys.foldl (· ++ ·) Str.empty)) else none
theorem e_js {v1 v2 : Expr} {rest : List Expr} (h : EJ X (v1 :: v2 :: rest) fs) : E X (.JoinedStr (v1 :: v2 :: rest) pos) (gJs fs) := by
  obtain ⟨ts, h1, h2⟩ := h.ex
  refine ⟨⟨_, pe_joined h1, fun G0 H0 Z Γ σ G H Q d R hf k => ?_⟩⟩
  obtain ⟨ds, e1, hf⟩ := obind hf
  obtain ⟨ys, e2, hf⟩ := obind hf
  split at hf
  · cases hf
    rename_i z
    have e3 := strs?_eq e2
    subst e3
    refine h2 G0 H0 Z Γ σ G H Str.empty ys _ R e1 (by show 0 + totS ys < 1000000; omega) fun G1 H1 x1 => ?_
    exact k G1 H1 _ x1 (.str _)
  · cases hf
/-! methods of texts -/
def dSplit : D → D → Option (List D)
  | .str a, .str b => if (b.length == 0) = false ∧ a.length < 1000000 then some ((Txt.split a b).map D.str) else none
  | _, _ => none
def gSplit (f g : Ex) : Ag := fun Γ => (f Γ).bind fun x => (g Γ).bind fun y => dSplit x y
theorem el_split (ho : E X o f) (he : E X e g) (hs : starEach [e] X.env = [(false, eval e X.env)] := by rfl) (hbase : attributeBase o "split" X.env (eval o X.env) = eval o X.env := by rfl) (hline : (apos.endLine == pos.line) = true := by rfl) : EL X (.Call (.Attribute o "split" apos) [e] [] pos) (gSplit f g) := by
  obtain ⟨t, h1, h2⟩ := ho.ex
  obtain ⟨u, q1, q2⟩ := he.ex
  refine ⟨⟨_, pe_split h1 q1 hs hbase hline, fun G0 H0 Z Γ σ G H Q ds R hf k => ?_⟩⟩
  obtain ⟨x, e1, hf⟩ := obind hf
  obtain ⟨y, e2, hf⟩ := obind hf
  refine h2 G0 H0 Z Γ σ G H _ x R e1 fun G1 H1 v x1 r1 => ?_
  cases x with
  | str a =>
    cases y with
    | str b =>
      replace hf : (if (b.length == 0) = false ∧ a.length < 1000000 then some ((Txt.split a b).map D.str) else none) = some ds := hf
      split at hf
      · cases hf
        rename_i z _
        rw [r1.strv]
        refine ⟨⟨_, rfl⟩, ?_⟩
        refine q2 G0 H0 Z Γ σ G1 H1 _ _ (R.ext x1) e2 fun G2 H2 w x2 r2 => ?_
        rw [r2.strv]
        refine ⟨_, _, rfl, rfl, z.1, Nat.le_trans (show a.length + 2 ≤ 1000002 by omega) (by decide), fun p hp => ?_⟩
        exact k G2 _ p _ ((x1.trans x2).trans (Ext.own1 x2.gh hp)) ((x1.trans x2).hf hp) (x2.gh.free hp) upd_same (.ofStrs _)
      · cases hf
    | _ => cases hf
  | _ => cases hf
def dPart : D → D → Option D
  | .str a, .str b => if (b.length == 0) = false ∧ a.length < 1000000 then some (.tup [.str (Txt.partition a b).1, .str (Txt.partition a b).2.1, .str (Txt.partition a b).2.2]) else none
  | _, _ => none
theorem e_part (ho : E X o f) (he : E X e g) (hs : starEach [e] X.env = [(false, eval e X.env)] := by rfl) (hbase : attributeBase o "partition" X.env (eval o X.env) = eval o X.env := by rfl) (hline : (apos.endLine == pos.line) = true := by rfl) : E X (.Call (.Attribute o "partition" apos) [e] [] pos) (gOp dPart f g) := by
  obtain ⟨t, h1, h2⟩ := ho.ex
  obtain ⟨u, q1, q2⟩ := he.ex
  refine ⟨⟨_, pe_partition h1 q1 hs hbase hline, fun G0 H0 Z Γ σ G H Q d R hf k => ?_⟩⟩
  obtain ⟨x, e1, hf⟩ := obind hf
  obtain ⟨y, e2, hf⟩ := obind hf
  refine h2 G0 H0 Z Γ σ G H _ x R e1 fun G1 H1 v x1 r1 => ?_
  cases x with
  | str a =>
    cases y with
    | str b =>
      replace hf : (if (b.length == 0) = false ∧ a.length < 1000000 then some (D.tup [.str (Txt.partition a b).1, .str (Txt.partition a b).2.1, .str (Txt.partition a b).2.2]) else none) = some d := hf
      split at hf
      · cases hf
        rename_i z _
        rw [r1.strv]
        refine ⟨⟨_, rfl⟩, ?_⟩
        refine q2 G0 H0 Z Γ σ G1 H1 _ _ (R.ext x1) e2 fun G2 H2 w x2 r2 => ?_
        rw [r2.strv]
        refine ⟨_, _, rfl, rfl, z.1, Nat.le_trans (Nat.le_of_lt z.2) line_big, fun p hp => ?_⟩
        have x3 := Ext.new1 (o := .tup [.str (Txt.partition a b).1, .str (Txt.partition a b).2.1, .str (Txt.partition a b).2.2]) x2.gh hp
        exact k _ _ _ ((x1.trans x2).trans x3) (.tup (SqT.of upd_same) (.cons (.str _) (.cons (.str _) (.cons (.str _) .nil))))
      · cases hf
    | _ => cases hf
  | _ => cases hf
def dJoin : D → D → Option D
  | .str a, .lst xs => (strs? xs).bind fun ys => if totS ys + ys.length * a.length ≤ 16777216 then some (.str (Txt.join a ys)) else none
  | .str a, .tup xs => (strs? xs).bind fun ys => if totS ys + ys.length * a.length ≤ 16777216 then some (.str (Txt.join a ys)) else none
  | _, _ => none
theorem e_join (ho : E X o f) (he : B X e g) (hs : starEach [e] X.env = [(false, eval e X.env)] := by rfl) (hbase : attributeBase o "join" X.env (eval o X.env) = eval o X.env := by rfl) (hline : (apos.endLine == pos.line) = true := by rfl) : E X (.Call (.Attribute o "join" apos) [e] [] pos) (gOp dJoin f g) := by
  obtain ⟨t, h1, h2⟩ := ho.ex
  obtain ⟨u, q1, q2⟩ := he.ex
  refine ⟨⟨_, pe_join h1 q1 hs hbase hline, fun G0 H0 Z Γ σ G H Q d R hf k => ?_⟩⟩
  obtain ⟨x, e1, hf⟩ := obind hf
  obtain ⟨y, e2, hf⟩ := obind hf
  refine h2 G0 H0 Z Γ σ G H _ x R e1 fun G1 H1 v x1 r1 => ?_
  cases x with
  | str a =>
    rw [r1.strv]
    refine ⟨⟨_, rfl⟩, ?_⟩
    refine q2 G0 H0 Z Γ σ G1 H1 _ _ (R.ext x1) e2 fun G2 H2 w x2 r2 => ?_
    cases y with
    | lst xs =>
      obtain ⟨ys, e3, hf⟩ := obind hf
      split at hf
      · cases hf
        rename_i z _ _
        have e4 := strs?_eq e3
        subst e4
        obtain ⟨p, vs, rfl, h, r⟩ := r2.lst x2.gh
        rw [r.strs] at h
        exact ⟨_, p, ys, rfl, rfl, .inl (SqL.of h), z, k G2 H2 _ (x1.trans x2) (.str _)⟩
      · cases hf
    | tup xs =>
      obtain ⟨ys, e3, hf⟩ := obind hf
      split at hf
      · cases hf
        rename_i z _ _
        have e4 := strs?_eq e3
        subst e4
        obtain ⟨p, vs, rfl, h, r⟩ := r2.tup x2.gh
        rw [r.strs] at h
        exact ⟨_, p, ys, rfl, rfl, .inr h, z, k G2 H2 _ (x1.trans x2) (.str _)⟩
      · cases hf
    | _ => cases hf
  | _ => cases hf
def dStarts : D → D → Option D
  | .str a, .str b => some (.bl (Txt.startswith a b))
  | _, _ => none
theorem e_starts (ho : E X o f) (he : E X e g) (hs : starEach [e] X.env = [(false, eval e X.env)] := by rfl) (hbase : attributeBase o "startswith" X.env (eval o X.env) = eval o X.env := by rfl) (hline : (apos.endLine == pos.line) = true := by rfl) : E X (.Call (.Attribute o "startswith" apos) [e] [] pos) (gOp dStarts f g) := by
  obtain ⟨t, h1, h2⟩ := ho.ex
  obtain ⟨u, q1, q2⟩ := he.ex
  refine ⟨⟨_, pe_m1 PySem.F.slot_str_startswith PySem.F.type_str_startswith mt_startswith h1 q1 hs hbase hline, fun G0 H0 Z Γ σ G H Q d R hf k => ?_⟩⟩
  obtain ⟨x, e1, hf⟩ := obind hf
  obtain ⟨y, e2, hf⟩ := obind hf
  refine h2 G0 H0 Z Γ σ G H _ x R e1 fun G1 H1 v x1 r1 => ?_
  cases x with
  | str a =>
    cases y with
    | str b =>
      cases hf
      rw [r1.strv]
      refine ⟨⟨_, rfl⟩, ?_⟩
      refine q2 G0 H0 Z Γ σ G1 H1 _ _ (R.ext x1) e2 fun G2 H2 w x2 r2 => ?_
      rw [r2.strv]
      exact ⟨_, _, rfl, rfl, k G2 H2 _ (x1.trans x2) (.bl _)⟩
    | _ => cases hf
  | _ => cases hf
def dAscii : D → Option D
  | .str a => some (.bl (Txt.isascii a))
  | _ => none
def dDigit : D → Option D
  | .str a => some (.bl (Txt.isdigit a))
  | _ => none
theorem e_ascii (ho : E X o f) (hbase : attributeBase o "isascii" X.env (eval o X.env) = eval o X.env := by rfl) (hline : (apos.endLine == pos.line) = true := by rfl) : E X (.Call (.Attribute o "isascii" apos) [] [] pos) (gU dAscii f) := by
  obtain ⟨t, h1, h2⟩ := ho.ex
  refine ⟨⟨_, pe_m0 PySem.F.slot_str_isascii PySem.F.type_str_isascii mt_isascii h1 hbase hline, fun G0 H0 Z Γ σ G H Q d R hf k => ?_⟩⟩
  obtain ⟨x, e1, hf⟩ := obind hf
  refine h2 G0 H0 Z Γ σ G H _ x R e1 fun G1 H1 v x1 r1 => ?_
  cases x with
  | str a =>
    cases hf
    rw [r1.strv]
    exact ⟨⟨_, rfl⟩, _, rfl, rfl, True.intro, k G1 H1 _ x1 (.bl _)⟩
  | _ => cases hf
theorem e_digit (ho : E X o f) (hbase : attributeBase o "isdigit" X.env (eval o X.env) = eval o X.env := by rfl) (hline : (apos.endLine == pos.line) = true := by rfl) : E X (.Call (.Attribute o "isdigit" apos) [] [] pos) (gU dDigit f) := by
  obtain ⟨t, h1, h2⟩ := ho.ex
  refine ⟨⟨_, pe_m0 PySem.F.slot_str_isdigit PySem.F.type_str_isdigit mt_isdigit h1 hbase hline, fun G0 H0 Z Γ σ G H Q d R hf k => ?_⟩⟩
  obtain ⟨x, e1, hf⟩ := obind hf
  refine h2 G0 H0 Z Γ σ G H _ x R e1 fun G1 H1 v x1 r1 => ?_
  cases x with
  | str a =>
    cases hf
    rw [r1.strv]
    exact ⟨⟨_, rfl⟩, _, rfl, rfl, True.intro, k G1 H1 _ x1 (.bl _)⟩
  | _ => cases hf
/-- x[a:b] of a text -/
def dCutS : D → Option Int → Option Int → Option D
  | .str z, lo, hi => if z.length < 1000000 then some (.str (cutS z lo hi)) else none
  | _, _, _ => none
def gSlS (f : Ex) (lo hi : Op) : Ex := fun Γ => (f Γ).bind fun x => (lo Γ).bind fun l => (hi Γ).bind fun h => dCutS x l h
theorem e_slS {lo hi : Option Expr} {p2 : Pos} {fl fh : Op} (he : E X e f) (hl : O X lo fl) (hh : O X hi fh) : E X (.Subscript e (.Slice lo hi none p2) pos) (gSlS f fl fh) := by
  obtain ⟨t, h1, h2⟩ := he.ex
  obtain ⟨u, q1, q2⟩ := hl.ex
  obtain ⟨w, z1, z2⟩ := hh.ex
  refine ⟨⟨_, pe_slice sl_str h1 q1 z1, fun G0 H0 Z Γ σ G H Q d R hf k => ?_⟩⟩
  obtain ⟨x, e1, hf⟩ := obind hf
  obtain ⟨l, e2, hf⟩ := obind hf
  obtain ⟨h, e3, hf⟩ := obind hf
  refine h2 G0 H0 Z Γ σ G H _ x R e1 fun G1 H1 v x1 r1 => ?_
  refine q2 G0 H0 Z Γ σ G1 H1 _ l (R.ext x1) e2 fun G2 H2 x2 => ?_
  refine z2 G0 H0 Z Γ σ G2 H2 _ h ((R.ext x1).ext x2) e3 fun G3 H3 x3 => ?_
  cases x with
  | str z =>
    replace hf : (if z.length < 1000000 then some (D.str (cutS z l h)) else none) = some d := hf
    split at hf
    · cases hf
      rename_i hz _ _
      rw [r1.strv]
      exact ⟨z, rfl, Nat.le_trans (Nat.le_of_lt hz) line_big, k G3 H3 _ ((x1.trans x2).trans x3) (.str _)⟩
    · cases hf
  | _ => cases hf
/-- a sign in a text -/
def dInS : D → D → Option D
  | .str x, .str z => match x.cps.toList with
    | [c] => some (.bl (decide (c ∈ z.cps.toList)))
    | _ => none
  | _, _ => none
theorem od_inS : OpD X (compareOp .In) dInS := by
  refine ⟨_, op_in_sign, fun x y d v w G H Q gh e r1 r2 k => ?_⟩
  cases x with
  | str x =>
    cases y with
    | str z =>
      replace e : (match x.cps.toList with | [c] => some (D.bl (decide (c ∈ z.cps.toList))) | _ => none) = some d := e
      split at e
      · cases e
        rename_i c hc
        have ex : x = ⟨#[c]⟩ := TL.ext_tl hc
        rw [r1.strv, r2.strv]
        exact ⟨c, z, by rw [ex], rfl, k G H _ (Ext.refl gh) (.bl _)⟩
      · cases e
    | _ => cases e
  | _ => cases e
/-- for c in a text -/
def dWalkS : D → Option (List D)
  | .str z => some (z.cps.toList.map fun c => .str ⟨#[c]⟩)
  | _ => none
def gItS (f : Ex) : Ag := fun Γ => (f Γ).bind dWalkS
theorem itm_str {K mg} {G : Hp} {z : Str} : Itm K mg (Its z) G (z.cps.toList.map fun c => .str ⟨#[c]⟩) := by
  intro i G1 H1 s1 s2
  refine ⟨fun hi => by show z.cps.size ≤ i; simpa using hi, fun d hd => ?_⟩
  have hi : i < z.cps.size := by
    have := (List.getElem?_eq_some_iff.mp hd).1
    simpa using this
  refine ⟨hi, fun x H2 y => ?_⟩
  obtain ⟨rfl, c, hc, rfl⟩ := y
  refine ⟨G1, Ext.refl s2, ?_⟩
  rw [List.getElem?_map, Array.getElem?_toList, hc] at hd
  cases hd
  exact .str _
variable {tg iter : Expr}
theorem i_str (h : E X iter f) : I X tg iter (gItS f) := by
  obtain ⟨t, h1, h2⟩ := h.ex
  refine ⟨⟨_, pi_str h1, fun G0 H0 Z Γ σ G H R ds Rl hf k => ?_⟩⟩
  obtain ⟨d, e1, hf⟩ := obind hf
  cases d with
  | str z =>
    cases hf
    refine h2 G0 H0 Z Γ σ G H _ _ Rl e1 fun G1 H1 v x1 r1 => ?_
    rw [r1.strv]
    exact ⟨z, rfl, k G1 H1 _ x1 itm_str⟩
  | _ => cases hf
/-- a statement that is never come to -/
def sDie : Sm := fun _ => none
theorem s_die {st : Stmt} : DL.S X st sDie := ⟨⟨fun _ _ _ => False, ⟨fun _ _ _ _ _ _ h => h.elim⟩, fun _ _ _ _ _ _ _ _ _ _ h _ => by cases h⟩⟩
/-- a global name that is a tuple of the written part -/
def GlT (K : PySem.W.Frag) (mg : Str → Option Value) (x : Str) (ds : List D) : Prop := ∃ a vs, mg x = some (.ref a) ∧ SqT K (fun _ => none) a vs ∧ RepL K mg (fun _ => none) vs ds
theorem e_gtup {x : Str} {ds : List D} (hm : GlT X.K X.mg x ds) (hg : Gl X x := by rfl) (hd : (x == ("__debug__" : Str)) = false := by decide) : E X (.Name x pos) (gC (.tup ds)) := by
  obtain ⟨a, vs, hm, hs, hr⟩ := hm
  refine ⟨⟨_, pe_glob hg hm (v := .ref a) rfl hd, fun G0 H0 Z Γ σ G H Q d R hf k => ?_⟩⟩
  cases hf
  have s0 : Same (fun _ => none) G := fun _ _ h => by cases h
  exact k G H _ (Ext.refl R.gh) (.tup (sqt_same s0 hs) (hr.mono s0))
end
end DL

namespace DL
open PySem L2
variable [TC : TabCtx]

/-! ### what a call that changes a place gives, handed on -/
section
variable {X : Cx} {e a b o : Expr} {es : List Expr} {f g : Ex} {fs : Ag} {mx : Mx} {pos pos' : Pos} {n : Nat}
/-- f(the call), f a type -/
def gMU (q : D → Option D) (m : Mx) : Mx := fun Γ => (m Γ).bind fun r => (q r.1).bind fun d => some (d, r.2)
theorem em_cty {id : String} {x : Str} {p : Pos} {q : D → Option D} (hc : CbB X (.type id) q) (hg : Gl X x) (hm : X.mg x = none) (hv : bootBuiltins x = some (.type id)) (ha : EM X a mx) (hn : x ≠ "__name__" := by decide) (hdb : (x == ("__debug__" : Str)) = false := by decide)
    (he : starEach [a] X.env = (false, eval a X.env) :: starEach [] X.env := by rfl) (hpl : (backTo pos (starEach [] X.env)).any (·.1) = false := by rfl) : EM X (.Call (.Name x p) [a] [] pos) (gMU q mx) := by
  obtain ⟨r, c1, c2⟩ := hc
  obtain ⟨t, h1, h2⟩ := ha.ex
  refine ⟨⟨_, pe_callTy c1 hg hm hv (pa_cons h1 pa_nil he) hn hdb he hpl, fun G0 H0 Z Γ σ G H Q d Γ' R hf k => ?_⟩⟩
  obtain ⟨⟨y, Γ1⟩, e1, hf⟩ := obind hf
  obtain ⟨d', e2, hf⟩ := obind hf
  cases hf
  refine h2 G0 H0 Z Γ σ G H _ y Γ1 R e1 fun G1 H1 v R1 r1 => ?_
  exact c2 y d v G1 H1 Q R1.gh e2 (.sh r1) fun G2 H2 u x2 r2 => k G2 H2 u (R1.ext x2) r2
/-- x[i] of what the call gives -/
def gMIx (m : Mx) (g : Ex) : Mx := fun Γ => (m Γ).bind fun r => (g r.2).bind fun i => (dIx r.1 i).bind fun d => some (d, r.2)
/-- a def whose first argument is the call -/
def gMCall (F : List D → Option D) (m : Mx) (fs : Ag) : Mx := fun Γ => (m Γ).bind fun r => (fs r.2).bind fun ds => (F (r.1 :: ds)).bind fun d => some (d, r.2)
theorem em_fn {k L : Nat} {ps : List Str} {S : List D → Option D} {x : Str} {p : Pos} (c : Cal X.prog X.w X.K X.mg X.base x L ps S) (hr : Room k X.A) (hk : L ≤ k)
    (hm : EM X a mx) (ha : AN X es n fs) (hn : ps.length = n + 1 := by rfl) (hg : Gl X x := by rfl) (hdb : (x == ("__debug__" : Str)) = false := by decide) (he : starEach (a :: es) X.env = (false, eval a X.env) :: starEach es X.env := by rfl) (hpl : (backTo pos (starEach es X.env)).any (·.1) = false := by rfl) :
    EM X (.Call (.Name x p) (a :: es) [] pos) (gMCall S mx fs) := by
  obtain ⟨f, fd, FO, hmg, hki, hb⟩ := c.ex
  obtain ⟨t, h1, h2⟩ := hm.ex
  obtain ⟨u, q1, q2⟩ := ha.a.ex
  refine ⟨⟨_, pe_call FO (hr.mono hk) hg hmg hki hb .nil pass0 (pa_cons h1 q1 he) hdb he hpl, fun G0 H0 Z Γ σ G H Q d Γ' R hf k => ?_⟩⟩
  obtain ⟨⟨y, Γ1⟩, e1, hf⟩ := obind hf
  obtain ⟨ds, e2, hf⟩ := obind hf
  obtain ⟨d', e3, hf⟩ := obind hf
  cases hf
  refine h2 G0 H0 Z Γ σ G H _ y Γ1 R e1 fun G1 H1 v R1 r1 => ?_
  refine q2 G0 H0 Z Γ1 σ G1 H1 _ _ R1 e2 fun G2 H2 vs x2 r2 => ?_
  refine ⟨G2, y :: ds, d, ?_, x2.gh, (R1.ext x2).tbc, ?_, e3, fun G' H' w x3 r3 => k G' H' w ((R1.ext x2).ext x3) r3⟩
  · rw [List.append_nil, List.length_cons, r2.length, ha.n _ ds e2, hn]
  · rw [List.append_nil]; exact .cons (r1.mono x2.gg) r2
/-- P.append(the call), P a variable -/
def sAppM (i : Nat) (m : Mx) : Sm := fun Γ => (m Γ).bind fun r => match Γ[i]?, r.2[i]? with
  | some (.ow _), some (.ow xs) => if xs.length < 1000000 then some (.nx (r.2.set i (.ow (xs ++ [r.1])))) else none
  | _, _ => none
theorem s_appM {i : Nat} {x : Str} {ap np : Pos} (he : EM X e mx) (hN : X.N[i]? = some x := by rfl) (hv : Vis X.env.scope x := by first | exact Or.inl rfl | exact Or.inr (Or.inl rfl) | exact Or.inr (Or.inr rfl)) (hd : (x == ("__debug__" : Str)) = false := by decide)
    (hcd : (x == ("__classdict__" : Str)) = false := by decide) (hst : starEach [e] X.env = (false, eval e X.env) :: starEach [] X.env := by rfl)
    (hpe : ∀ {r : V → List V → Hp → VK → Prop} {to te : TE}, MtR X "list.append" r → PE X (.Name x np) to → PE X e te → PE X (.Call (.Attribute (.Name x np) "append" ap) [e] [] pos) (tBM X.K "list" r to (tCons te tNil)) := by intro r to te hm ho hp; exact pe_bm PySem.F.plainAttrs_list PySem.F.slot_list_append PySem.F.type_list_append hm ho (pa_cons hp pa_nil))
    (hs : swapsWith (.Call (.Attribute (.Name x np) "append" ap) [e] [] pos) none pos'.line X.env = pure false := by rfl) : DL.S X (.Expr (.Call (.Attribute (.Name x np) "append" ap) [e] [] pos) pos') (sAppM i mx) := by
  obtain ⟨t, h1, h2⟩ := he.ex
  refine ⟨⟨_, ps_expr (hpe mt_append (pe_var hN hv hd hcd) h1) hs, fun G0 H0 Z Γ σ G H D r R hf k => ?_⟩⟩
  obtain ⟨⟨d, Γ1⟩, e1, hf⟩ := obind hf
  cases q0 : Γ[i]? with
  | none => simp only [q0] at hf; cases hf
  | some s0 =>
    cases q1 : Γ1[i]? with
    | none => simp only [q0, q1] at hf; cases s0 <;> cases hf
    | some s1 =>
      simp only [q0, q1] at hf
      cases s0 with
      | ow xs0 =>
        cases s1 with
        | ow xs =>
          simp only at hf
          split at hf
          · rename_i hl
            cases hf
            obtain ⟨v0, F0, g0, pk0⟩ := R.pack (rp := []) q0 rfl (by simp) (by simp [SlP])
            have p0 := pk0 G H (Ext.refl R.gh)
            obtain ⟨l, vs, rfl, c1, c2, _⟩ := p0.list R.gh
            refine ⟨_, g0 rfl, .inl ⟨rfl, _, SqL.of c1⟩, ?_⟩
            refine h2 G0 H0 Z Γ σ G H _ d Γ1 R e1 fun G1 H1 v R1 r1 => ?_
            obtain ⟨v1, F1, g1, pk1⟩ := R1.pack (rp := []) q1 rfl (by simp) (by simp [SlP])
            have ev : v1 = .ref l := Option.some.inj (Option.some.inj ((g1 rfl).symm.trans (g0 rfl)))
            subst ev
            have p1 := pk1 G1 H1 (Ext.refl R1.gh)
            obtain ⟨l', vs', e', d1, d2, d3⟩ := p1.list R1.gh
            cases e'
            refine ⟨l, vs', v, rfl, rfl, d1, ?_, ?_⟩
            · rw [d2.length]; exact Nat.lt_of_lt_of_le hl line_big
            · exact k σ G1 _ (d3 _ _ _ (d2.append (.cons r1 .nil)) rfl)
          · cases hf
        | _ => cases hf
      | _ => cases hf
/-- a, b, .. = the call -/
def sUnpM (gs : Gs) (m : Mx) : Sm := fun Γ => (m Γ).bind fun r => (gs r.1 r.2).bind fun Γ' => some (.nx Γ')
/-- o[j] of a list of things of one's own, j written out -/
theorem pl_ix {i j : Nat} {rp : Pth} {m : Int} {jj : Nat} {p2 : Pos} (h0 : X.mg "" = none) (h : PL X o i rp) (hmj : m = (j : Int) := by rfl) (hs2 : PlainIx (.Constant (.int m) jj p2) := by exact fun _ _ => rfl) : PL X (.Subscript o (.Constant (.int m) jj p2) pos) i ((1000, j) :: rp) := by
  obtain ⟨t, h1, h2⟩ := h.ex
  refine ⟨⟨_, pe_ix ix_seq h1 pe_int hs2, fun G0 H0 Z Γ σ Gb Hb G H Q s s1 R xb hi hg hn hs k => ?_⟩⟩
  unfold getR at hg
  cases q : getR rp s with
  | none => rw [q] at hg; cases hg
  | some par =>
    rw [q] at hg
    cases par with
    | ob c fs =>
      replace hg : (if c = 1000 then fs[j]? else none) = some s1 := hg
      split at hg
      · rename_i hc
        subst hc
        refine h2 G0 H0 Z Γ σ Gb Hb G H _ s _ R xb hi q hn (by simp) fun v pk => ?_
        obtain ⟨F0, p0⟩ := pk G H xb
        obtain ⟨p, C', dx, vs, v1, F1, rfl, hm, ho, e1, _⟩ := p0.fld q hg
        rw [show cN 1000 = ("" : Str) from rfl, h0] at hm
        cases hm
      · cases hg
    | ol fs =>
      replace hg : (if (1000 : Nat) = 1000 then fs[j]? else none) = some s1 := hg
      rw [if_pos rfl] at hg
      refine h2 G0 H0 Z Γ σ Gb Hb G H _ s _ R xb hi q hn (by simp) fun v pk => ?_
      obtain ⟨F0, p0⟩ := pk G H xb
      obtain ⟨p, vs, v1, F1, rfl, ho, hl, e1, _⟩ := p0.itm q hg
      have ea : atI vs m = some v1 := by
        rw [hmj]
        unfold atI ixN
        have hj : j < vs.length := (List.getElem?_eq_some_iff.mp e1).1
        rw [if_pos (by omega), if_pos (by omega)]
        exact e1
      refine .inl ⟨p, vs, m, v1, rfl, rfl, SqL.of ho, ea, k v1 fun G1 H1 x1 => ?_⟩
      obtain ⟨F2, p2⟩ := pk G1 H1 x1
      obtain ⟨p', vs2, v2, F3, ep, ho2, _, e2, p3⟩ := p2.itm q hg
      cases ep
      obtain ⟨Fb, pb⟩ := pk Gb Hb (Ext.refl R.gh)
      obtain ⟨p', vs3, v3, F4, ep, hb1, _, e3, _⟩ := pb.itm q hg
      cases ep
      have h3 := x1.hh _ _ hb1 nofun
      have h4 := xb.hh _ _ hb1 nofun
      rw [ho2] at h3
      rw [ho] at h4
      cases h3
      cases h4
      rw [e1] at e2
      cases e2
      exact ⟨F3, p3⟩
    | _ => cases hg
/-- [n1, n2, ..] of new things -/
def nOl (fs : Nx) : Sx := fun Γ => (fs Γ).bind fun ss => some (.ol ss)
theorem en_lst {fs : Nx} (h : NN X es n fs) (h1000 : n ≤ 1000 := by decide) : EN X (.List es pos) (nOl fs) := by
  obtain ⟨t, h1, h2⟩ := h.ex
  refine ⟨⟨_, pe_lst h1, fun G0 H0 Z Γ σ G H Q s R hf k => ?_⟩⟩
  obtain ⟨ss, e1, hf⟩ := obind hf
  cases hf
  refine h2 G0 H0 Z Γ σ G H _ ss R e1 fun G1 H1 vs F x1 r1 l1 f1 => ⟨?_, fun P hP => ?_⟩
  · rw [l1, h.n Γ ss e1]; exact Nat.le_of_lt (small1000 h1000)
  · have nP : ∀ a, F a → a ≠ P := fun a fa z => (f1 a fa).2.2 (by rw [z]; exact hP)
    refine k G1 _ (.ref P) (fun a => F a ∨ a = P) (x1.trans (Ext.own1 x1.gh hP)) (.ol (F' := F) (.inr rfl) upd_same (fun z => nP P z rfl) (fun a => .inl) (r1.mono (Same.refl _) fun a o fa q _ => by rw [upd_ne (nP a fa)]; exact q)) fun a y => ?_
    rcases y with y | rfl
    · obtain ⟨g1, g2, g3⟩ := f1 a y
      exact ⟨g1, g2, by rw [upd_ne (nP a y)]; exact g3⟩
    · exact ⟨x1.gh.free hP, x1.hf hP, by rw [upd_same]; simp⟩
/-- a, b, .. = a list -/
def gTgL (n : Nat) (r : Gss) : Gs := fun d Γ => match d with | .lst ds => if ds.length = n then r ds Γ else none | _ => none
theorem g_unl {k : Nat} {ix : List Nat} {gs : Gss} (hc : X.calm = true) (h : GL X es ix gs) (hn : (assignEach es X.env).length = n := by rfl) (hst : (assignEach es X.env).findIdx? (·.1) = none := by rfl) : DL.G X (.Tuple es k pos) ix (gTgL n gs) := by
  obtain ⟨t, h1, h2⟩ := h.ex
  refine ⟨⟨_, pg_unl hc h1 hn hst, fun G0 H0 Z Γ σ G H Q d v Γ' R r hf k => ?_⟩⟩
  cases d with
  | lst ds =>
    replace hf : (if ds.length = n then gs ds Γ else none) = some Γ' := hf
    split at hf
    · rename_i hl
      cases r with
      | lst h r => exact ⟨_, _, rfl, SqL.of (R.gh _ _ h), by rw [r.length, hl], h2 G0 H0 Z Γ σ G H Q ds _ Γ' R r hf k⟩
    · cases hf
  | _ => cases hf
theorem s_unpM {tg : Expr} {ix : List Nat} {g : Gs} (he : EM X e mx) (hg : DL.G X tg ix g) (hs : swapsWithSole [tg] e pos.line X.env = pure false := by rfl) (hw : swappedStores [tg] e X.env = pure none := by rfl)
    (h1 : (assignEach [tg] X.env).map (·.2) = [assign tg X.env] := by rfl) : DL.S X (.Assign [tg] e pos) (sUnpM g mx) := by
  obtain ⟨t, h1', h2⟩ := he.ex
  obtain ⟨u, q1, q2⟩ := hg.ex
  refine ⟨⟨_, ps_asg h1' q1 hs hw h1, fun G0 H0 Z Γ σ G H D r R hf k => ?_⟩⟩
  obtain ⟨⟨d, Γ1⟩, e1, hf⟩ := obind hf
  obtain ⟨Γ', e2, hf⟩ := obind hf
  cases hf
  refine h2 G0 H0 Z Γ σ G H _ d Γ1 R e1 fun G1 H1 v R1 r1 => ?_
  exact q2 G0 H0 Z Γ1 σ G1 H1 _ d v Γ' R1 r1 e2 fun σ' R' _ => k σ' G1 H1 R'
end
end DL

namespace DL
open PySem L2
variable [TC : TabCtx]

/-! ### zip of a list and a tuple -/
def Itlt (K : PySem.W.Frag) (a b : Addr) : It :=
  ⟨fun i H => ∃ (ls ts : List V) (m n : V), SqL K H a ls ∧ SqT K H b ts ∧ ls[i]? = some m ∧ ts[i]? = some n,
    fun i H v H' => ∃ T m n, v = .ref T ∧ H T = none ∧ H' = upd H T (.tup [m, n]) ∧ (∀ ls, SqL K H a ls → ls[i]? = some m) ∧ ∀ ts, SqT K H b ts → ts[i]? = some n,
    fun i H => ∃ ls ts : List V, SqL K H a ls ∧ SqT K H b ts ∧ (ls.length ≤ i ∨ ts.length ≤ i)⟩
/-- a tuple's iterator at i, as one that draws: up to the tuple's end, or not at all -/
theorem draws_atT {prog : Program} {w : World} {A : Around} (hh : A.handled = none) (it l : Addr) (hne : l ≠ it) (items : Array Value) (i : Nat) :
    ∃ n P St, Draws prog w A it [it, l] n P St ∧ i ≤ n ∧ (items.size ≤ i → i = n) ∧ ∀ h : Heap, h.IsTupleIter it l i → h.IsTuple l items → St i h := by
  by_cases hi : i < items.size
  · exact ⟨_, _, _, Draws.tuple hh it l hne items, by omega, fun z => by omega, fun h a b => ⟨a, b⟩⟩
  · refine ⟨i, fun _ _ => False, fun j h => j = i ∧ h.IsTupleIter it l i ∧ h.IsTuple l items, ⟨fun _ _ st => let ⟨o, ho, _⟩ := st.2.1; ⟨o, ho⟩, fun _ _ _ st hk => ⟨st.1, st.2.1.at fun o e => hk it (by simp) o e, st.2.2.at fun o e => hk l (by simp) o e⟩, fun j s Q E hj st hQ => absurd st.1 (by omega), fun s Q E st hE => ?_⟩, Nat.le_refl _, fun _ => rfl, fun h a b => ⟨rfl, a, b⟩⟩
    exact wpAny_nextOf_tuple_end hh st.2.1 st.2.2 (by simp; omega) hE
theorem turn_ziplt {P : Program} {w : World} {K : PySem.W.Frag} {elts : List Expr} {kk : Nat} {tpos : Pos} {a b z TI TO i1 i2 : Addr} (D : ZipSep2 z TI TO i1 i2 [i1, a] [i2, b]) (na : a ≠ i1) (nb : b ≠ i2) :
    Turn P w K (.Tuple elts kk tpos) (Itlt K a b) [z, TI, TO, i1, i2] z (fun i h => IsZip h z TI TO .none ∧ IsTupOf2 h TI (.ref i1) (.ref i2) ∧ (∃ x y, IsTupOf2 h TO x y) ∧ h.IsListIter i1 a i ∧ h.IsTupleIter i2 b i) where
  mem := by simp
  obj := fun i h st q hq => by
    obtain ⟨mz, mTI, ⟨x, y, mTO⟩, ⟨o1, e1, _, d1⟩, ⟨o2, e2, _, d2⟩⟩ := st
    have cs : q = z ∨ q = TI ∨ q = TO ∨ q = i1 ∨ q = i2 := by simpa using hq
    rcases cs with q | q | q | q | q
    · rw [q]; exact ⟨_, mz, fun v q => nomatch q⟩
    · rw [q]; exact ⟨_, mTI, fun v q => nomatch q⟩
    · rw [q]; exact ⟨_, mTO, fun v q => nomatch q⟩
    · rw [q]; exact ⟨o1, e1, fun v q => by (rw [d1] at q; cases q)⟩
    · rw [q]; exact ⟨o2, e2, fun v q => by (rw [d2] at q; cases q)⟩
  keep := fun i h h' st k => by
    obtain ⟨mz, mTI, ⟨x, y, mTO⟩, m1, m2⟩ := st
    exact ⟨k z (by simp) _ mz, k TI (by simp) _ mTI, ⟨x, y, k TO (by simp) _ mTO⟩, m1.at fun o q => k i1 (by simp) o q, m2.at fun o q => k i2 (by simp) o q⟩
  item := by
    intro X hP hw hK hc i pins s σ H E I hf st hg
    subst hP hw hK
    obtain ⟨mz, mTI, ⟨x0, y0, mTO⟩, m1, m2⟩ := st
    obtain ⟨ls, ts, m, n, hql, hqt, hm, hn⟩ := hg
    obtain ⟨lits, lrv, lp, _⟩ := I.list hql
    obtain ⟨tits, trv, tp, _⟩ := I.tuple hqt
    obtain ⟨w1, hw1, rw1⟩ := lrv.get hm
    obtain ⟨w2, hw2, rw2⟩ := trv.get hn
    have mzl : z < s.heap.objs.size := Heap.lt_size mz
    have hh := I.ok.hd hc
    have hh1 : (Around.in1 X.A).handled = none := hh
    have lt : ∀ {xs : List Value} {i : Nat} {x : Value}, xs[i]? = some x → i < xs.toArray.size := fun e => by simpa using (List.getElem?_eq_some_iff.mp e).1
    refine wpAny_pyNext_zipD2_item D (Draws.list hh1 i1 a na lits.toArray) (Draws.tuple hh1 i2 b nb tits.toArray) mz mTI mTO ⟨m1, lp.isList⟩ ⟨m2, (show s.heap.IsTuple b tits.toArray from tp)⟩ (lt hw1) (lt hw2) fun v1 v2 h' tk y1 y2 z' TO' d1 d2 hT hsz hk => ?_
    obtain rfl : v1 = w1 := by have : lits[i]? = some v1 := by simpa using y1
                               rw [hw1] at this; cases this; rfl
    obtain rfl : v2 = w2 := by have : tits[i]? = some v2 := by simpa using y2
                               rw [hw2] at this; cases this; rfl
    refine ⟨_, rfl, wpAny_letOwnedTupleGo_zip (s := { s with heap := h', toks := tk }) z' fun h'' z'' sb => ?_⟩
    have tT2 : h''.get? s.heap.objs.size = some { cls := .type "tuple", data := .seq #[v1, v2] } := (sb.2 _ (Nat.ne_of_gt mzl)).trans hT
    have fresh2 : ObjOk X.prog X.w (upd H s.heap.objs.size (.tup [m, n])) h'' s.heap.objs.size (.tup [m, n]) :=
      ⟨by show 2 ≤ sizeLine; decide, [v1, v2], .cons rw1 (.cons rw2 .nil), ⟨_, tT2, rfl, _, rfl⟩⟩
    have I2 : Inv X pins σ (upd H s.heap.objs.size (.tup [m, n])) { s with heap := h'', toks := tk } :=
      I.turnedNew (t' := tk) (ch := [z, TI, TO, i1, i2]) (fun c o hb q => (sb.2 c (fun u => hb (by simp [u]))).trans (hk c o (fun u => hb (by simp [u])) (fun u => hb (by simp [u])) (fun u => hb (by simp [u])) (fun u => hb (by simp [u])) q)) hf (Nat.le_refl _) fresh2
    refine ⟨.ref s.heap.objs.size, _, I2, rfl, ⟨_, m, n, rfl, I.hok.fresh (Nat.le_refl _), rfl, fun l hl => by (rw [I.list_inj hl hql]; exact hm), fun l hl => by (rw [I.tuple_inj hl hqt]; exact hn)⟩, ⟨z'', ?_, ⟨v1, v2, ?_⟩, ?_, ?_⟩, fun c hcm => ?_⟩
    · exact (sb.2 _ D.TIz).trans (hk _ _ D.TIz D.TITO D.TIi1 D.TIi2 mTI)
    · exact (sb.2 _ D.TOz).trans TO'
    · exact d1.1.at fun o q => (sb.2 _ D.zi1.symm).trans q
    · exact d2.1.at fun o q => (sb.2 _ D.zi2.symm).trans q
    · have clt : c < s.heap.objs.size := by
        have cs : c = z ∨ c = TI ∨ c = TO ∨ c = i1 ∨ c = i2 := by simpa using hcm
        rcases cs with q | q | q | q | q
        · rw [q]; exact mzl
        · rw [q]; exact Heap.lt_size mTI
        · rw [q]; exact Heap.lt_size mTO
        · rw [q]; obtain ⟨_, f1, _⟩ := m1; exact Heap.lt_size f1
        · rw [q]; obtain ⟨_, f2, _⟩ := m2; exact Heap.lt_size f2
      rw [upd_ne (Nat.ne_of_lt clt)]
      exact (hf c hcm).1
  done := by
    intro X hP hw hK hc i pins s σ H E I hf st hg
    subst hP hw hK
    obtain ⟨mz, mTI, ⟨x0, y0, mTO⟩, m1, m2⟩ := st
    obtain ⟨ls, ts, hql, hqt, hend⟩ := hg
    obtain ⟨lits, lrv, lp, _⟩ := I.list hql
    obtain ⟨tits, trv, tp, _⟩ := I.tuple hqt
    have e1 := lrv.length
    have e2 := trv.length
    have hh : (Around.in1 X.A).handled = none := I.ok.hd hc
    obtain ⟨n1, P1, S1, D1, g1, f1, c1⟩ := draws_at (prog := X.prog) (w := X.w) hh i1 a na lits.toArray i
    obtain ⟨n2, P2, S2, D2, g2, f2, c2⟩ := draws_atT (prog := X.prog) (w := X.w) hh i2 b nb tits.toArray i
    refine wpAny_pyNext_zipD2_end D D1 D2 mz mTI mTO (c1 _ m1 lp.isList) (c2 _ m2 tp) g1 g2 (hend.imp (fun q => f1 (by simp; omega)) fun q => f2 (by simp; omega)) fun h' tk hk => ⟨rfl, I.turnedL (t' := tk) (ch := [z, TI, TO, i1, i2]) (fun c o hb q =>
      hk c o (fun u => hb (by simp [u])) (fun u => hb (by simp [u])) (fun u => hb (by simp [u])) (fun u => hb (by simp [u])) q) hf⟩
  self := fun A i s Q E st hq => wpAny_pyIter_zip st.1 hq

theorem apart2 {n a b : Nat} (ha : a < n) (hb : b < n) : ZipSep2 (n + 4) (n + 2) (n + 3) n (n + 1) [n, a] [n + 1, b] := by
  have f (x y : Nat) (h : x < y ∨ y < x) : (x : Addr) ≠ y := by
    intro e
    have e : (x : Nat) = y := e
    omega
  have m (x y z : Nat) (h : (x < y ∨ y < x) ∧ (x < z ∨ z < x)) : (x : Addr) ∉ ([y, z] : List Addr) := by
    intro e
    simp only [List.mem_cons, List.not_mem_nil, or_false] at e
    rcases e with e | e
    · exact f _ _ h.1 e
    · exact f _ _ h.2 e
  constructor
  all_goals first | (exact List.mem_cons_self ..) | (refine f _ _ ?_; omega) | (refine m _ _ _ ?_; omega)
def iZiplt (K : PySem.W.Frag) (ta : TA) : TI := fun σ H R => ta σ H fun vs H1 => ∃ a b ls ts, vs = [.ref a, .ref b] ∧ SqL K H1 a ls ∧ SqT K H1 b ts ∧ R (Itlt K a b) H1
theorem pi_ziplt {X : Cx} {e e2 : Expr} {ta : TA} {p pos tpos : Pos} {elts : List Expr} {kk : Nat} (hg : Gl X "zip") (hm : X.mg "zip" = none) (ha : PA X [e, e2] ta)
    (hst : starEach [e, e2] X.env = (false, eval e X.env) :: starEach [e2] X.env := by rfl) (hpl : (backTo pos (starEach [e2] X.env)).any (·.1) = false := by rfl) :
    PI X (.Tuple elts kk tpos) (.Call (.Name "zip" p) [e, e2] [] pos) (iZiplt X.K ta) := by
  refine ⟨fun pins s σ H R I h => ?_⟩
  refine PyProof.Rows.Call_ (ld_blt I hg hm PyProof.Rows.boot_zip (PyProof.Rows.callWith_type1 (thn (ha.run pos pins s σ H _ I h) fun us s1 ⟨vs, H1, I1, r1, q1⟩ => ?_) hst hpl))
  obtain ⟨a, b, ls, ts, ex, hql, hqt, q⟩ := q1
  subst ex
  cases r1 with
  | cons r rr =>
    cases rr with
    | cons r' rr =>
      cases rr
      cases r
      cases r'
      obtain ⟨lits, lrv, p1, _⟩ := I1.list hql
      obtain ⟨tits, trv, p2, _⟩ := I1.tuple hqt
      have la : a < s1.heap.objs.size := p1.lt
      have lb : b < s1.heap.objs.size := by obtain ⟨o2, ho2, _⟩ := id p2; exact Heap.lt_size ho2
      refine zip_begins2 (begins_list a lits.toArray) (begins_tuple b tits.toArray) p1.isList p2 fun h' mz mTI mTO m1 m2 hsz hk => wpAny_pyIter_zip mz ?_
      have I2 : Inv X pins σ H1 { s1 with heap := h' } := I1.kept (t' := s1.toks) hk
      refine ⟨s1.heap.objs.size + 4, [s1.heap.objs.size + 4, s1.heap.objs.size + 2, s1.heap.objs.size + 3, s1.heap.objs.size, s1.heap.objs.size + 1], _, _, H1, rfl, I2, turn_ziplt (apart2 la lb) (Nat.ne_of_lt la) (by show b ≠ _; exact Nat.ne_of_lt (Nat.lt_succ_of_lt lb)), ⟨mz, mTI, ⟨_, _, mTO⟩, ⟨_, m1, rfl, rfl⟩, ⟨_, m2, rfl, rfl⟩⟩, fun d hd => ?_, q⟩
      have dle : s1.heap.objs.size ≤ d := by
        have cs : d = s1.heap.objs.size + 4 ∨ d = s1.heap.objs.size + 2 ∨ d = s1.heap.objs.size + 3 ∨ d = s1.heap.objs.size ∨ d = s1.heap.objs.size + 1 := by simpa using hd
        rcases cs with z | z | z | z | z <;> rw [z] <;> first | exact Nat.le_add_right _ _ | exact Nat.le_refl _
      exact I1.fpOk dle (I1.hok.fresh dle)
def dZiplt : List D → Option (List D)
  | [x, .tup ys] => (dItems x).bind fun xs => some (zipD xs ys)
  | _ => none
def gZiplt (fs : Ag) : Ag := fun Γ => (fs Γ).bind dZiplt
theorem i_ziplt {X : Cx} {a b : Expr} {fs : Ag} {pos p tpos : Pos} {elts : List Expr} {kk : Nat} (hg : Gl X "zip") (hm : X.mg "zip" = none) (ha : AN X [a, b] 2 fs) (hst : starEach [a, b] X.env = (false, eval a X.env) :: starEach [b] X.env := by rfl) (hpl : (backTo pos (starEach [b] X.env)).any (·.1) = false := by rfl) :
    I X (.Tuple elts kk tpos) (.Call (.Name "zip" p) [a, b] [] pos) (gZiplt fs) := by
  obtain ⟨t, h1, h2⟩ := ha.a.ex
  refine ⟨⟨_, pi_ziplt hg hm h1 hst hpl, fun G0 H0 Z Γ σ G H R ds Rl hf k => ?_⟩⟩
  obtain ⟨xs, e1, hf⟩ := obind hf
  have hl := ha.n Γ xs e1
  refine h2 G0 H0 Z Γ σ G H _ _ Rl e1 fun G1 H1 vs x1 r1 => ?_
  match xs, hl, hf, r1 with
  | [x, .tup ys], _, hf, .cons r (.cons (.tup hT rt) .nil) =>
    replace hf : ((dItems x).bind fun xs => some (zipD xs ys)) = some ds := hf
    obtain ⟨as, a1, hf⟩ := obind hf
    cases hf
    obtain ⟨p1, v1, rfl, s1, r1⟩ := r.items a1
    refine ⟨p1, _, v1, _, rfl, x1.gh.seq s1, sqt_same x1.gh hT, k G1 H1 _ x1 fun i G2 H2 t1 t2 => ?_⟩
    have q1 : SqL X.K H2 p1 v1 := (t1.trans t2).seq s1
    have q2 := sqt_same (t1.trans t2) hT
    refine ⟨fun hi => ⟨v1, _, q1, q2, ?_⟩, fun d hd => ?_⟩
    · rw [zipD_len] at hi
      rw [r1.length, rt.length]
      omega
    · obtain ⟨x, y, g1, g2, rfl⟩ := zipD_get hd
      obtain ⟨w1, b1, c1⟩ := r1.get i g1
      obtain ⟨w2, b2, c2⟩ := rt.get i g2
      refine ⟨⟨v1, _, w1, w2, q1, q2, b1, b2⟩, fun u H3 yl => ?_⟩
      obtain ⟨T, z1, z2, rfl, hTn, rfl, f1, f2⟩ := yl
      have y1 := f1 v1 q1
      have y2 := f2 _ q2
      rw [b1] at y1
      rw [b2] at y2
      cases y1
      cases y2
      have x2 := Ext.new1 (o := .tup [w1, w2]) t2 hTn
      exact ⟨_, x2, .tup (SqT.of upd_same) (.cons ((c1.mono t1).mono x2.gg) (.cons ((c2.mono t1).mono x2.gg) .nil))⟩
end DL

namespace DL
open PySem L2
variable [TC : TabCtx]

/-! ### a place of what a call that changes a place gives -/
section
variable {X : Cx} {e a b o : Expr} {es : List Expr} {f g : Ex} {fs : Ag} {mx : Mx} {pos pos' : Pos} {n : Nat}
theorem em_ix (ha : EM X a mx) (hb : E X b g) (hs : PlainIx b := by exact fun _ _ => rfl) : EM X (.Subscript a b pos) (gMIx mx g) := by
  obtain ⟨t, h1, h2⟩ := ha.ex
  obtain ⟨u, q1, q2⟩ := hb.ex
  refine ⟨⟨_, pe_ix ix_seq h1 q1 hs, fun G0 H0 Z Γ σ G H Q d Γ' R hf k => ?_⟩⟩
  obtain ⟨⟨x, Γ1⟩, e1, hf⟩ := obind hf
  obtain ⟨y, e2, hf⟩ := obind hf
  obtain ⟨d', e3, hf⟩ := obind hf
  cases hf
  refine h2 G0 H0 Z Γ σ G H _ x Γ1 R e1 fun G1 H1 v R1 r1 => ?_
  refine q2 G0 H0 Z Γ1 σ G1 H1 _ y R1 e2 fun G2 H2 w x2 r2 => ?_
  have r1' := r1.mono x2.gg
  have fin : ∀ v, Rep X.K X.mg G2 v d → Q v H2 := fun v r => k G2 H2 v (R1.ext x2) r
  cases x with
  | lst xs =>
    cases y with
    | int i =>
      obtain ⟨p, vs, rfl, h, r⟩ := (RepB.sh r1').lst x2.gh
      obtain ⟨v, h3, h4⟩ := r.at e3
      rw [r2.intv]
      exact .inl ⟨p, vs, _, v, rfl, rfl, SqL.of h, h3, fin v h4⟩
    | _ => cases e3
  | tup xs =>
    cases y with
    | int i =>
      obtain ⟨p, vs, rfl, h, r⟩ := (RepB.sh r1').tup x2.gh
      obtain ⟨v, h3, h4⟩ := r.at e3
      rw [r2.intv]
      exact .inr (.inl ⟨p, vs, _, v, rfl, rfl, h, h3, fin v h4⟩)
    | _ => cases e3
  | scr ns =>
    cases y with
    | int i =>
      obtain ⟨p, rfl, h⟩ := (RepB.sh r1').scr x2.gh
      rw [r2.intv]
      replace e3 : (atI ns i).map D.int = some d := e3
      cases e4 : atI ns i with
      | none => rw [e4] at e3; cases e3
      | some m =>
        rw [e4] at e3; cases e3
        exact .inl ⟨p, _, i, .int m, rfl, rfl, h, by rw [atI_map, e4]; rfl, fin _ (.int m)⟩
    | _ => cases e3
  | str z =>
    cases y with
    | int i =>
      replace e3 : (if z.length < 1000000 then (atI z.cps.toList i).map fun c => D.str ⟨#[c]⟩ else none) = some d := e3
      split at e3
      · rename_i hz
        rw [r2.intv, r1'.strv]
        cases e4 : atI z.cps.toList i with
        | none => rw [e4] at e3; cases e3
        | some c =>
          rw [e4] at e3; cases e3
          exact .inr (.inr ⟨z, i, c, rfl, rfl, Nat.le_trans (Nat.le_of_lt hz) line_big, e4, fin _ (.str _)⟩)
      · cases e3
    | _ => cases e3
  | _ => cases e3
/-! P.f += text -/
theorem in_addS : InOp X .Add (fun x y H Q => ∃ i j, x = .str i ∧ y = .str j ∧ i.length + j.length ≤ PySem.sizeLine ∧ Q (.str (i ++ j)) H) := by
  rintro pins s σ H x y u v Q I rx ry h
  exact iop_add_str pins s σ H x y u v Q I rx ry h
def sAugFS (i : Nat) (rp : Pth) (c j : Nat) (f : Ex) : Sm := fun Γ => match gP i rp Γ with
  | some (.ob c' fs) => if c' = c then (match fs[j]? with
    | some (.sh (.str a)) => (f Γ).bind fun d => match d with
      | .str b => if a.length + b.length < 1000000 then upP i rp (.ob c (fs.set j (.sh (.str (a ++ b))))) Γ else none
      | _ => none
    | _ => none) else none
  | _ => none
theorem s_augFS {i : Nat} {rp : Pth} {c j : Nat} {C : Addr} {x : Str} {tpos : Pos} (ck : CK X.K X.mg c C) (hp : PL X o i rp) (he : E X e f) (hj : (cF c)[j]? = some x := by rfl) (nd : (cF c).Nodup := by decide +kernel) :
    S X (.AugAssign (.Attribute o x tpos) .Add e pos) (sAugFS i rp c j f) := by
  obtain ⟨t, t1, t2⟩ := he.ex
  obtain ⟨u, u1, u2⟩ := hp.ex
  refine ⟨⟨_, ps_fldaug u1 t1 in_addS, fun G0 H0 Z Γ σ G H D r R hf k => ?_⟩⟩
  unfold sAugFS at hf
  cases q : gP i rp Γ with
  | none => rw [q] at hf; cases hf
  | some par =>
    rw [q] at hf
    cases par with
    | ob c' fls =>
      replace hf : (if c' = c then (match fls[j]? with
        | some (.sh (.str a)) => (f Γ).bind fun d => match d with
          | .str b => if a.length + b.length < 1000000 then upP i rp (.ob c (fls.set j (.sh (.str (a ++ b))))) Γ else none
          | _ => none
        | _ => none) else none) = some r := hf
      split at hf
      · rename_i hc
        subst hc
        split at hf
        · rename_i a0 hfa
          obtain ⟨d, e1, hf⟩ := obind hf
          cases d with
          | str b0 =>
            replace hf : (if a0.length + b0.length < 1000000 then upP i rp (.ob c' (fls.set j (.sh (.str (a0 ++ b0))))) Γ else none) = some r := hf
            split at hf
            · rename_i hz
              obtain ⟨s, s2, a1, a2, rfl⟩ := upP_some hf
              obtain ⟨s', b1, b2, b3⟩ := gP_some q (by simp [SlP])
              rw [a1] at b1
              cases b1
              refine u2 G0 H0 Z Γ σ G H G H _ s _ R (Ext.refl R.gh) a1 b2 b3 (by simp) fun v0 pk => ?_
              obtain ⟨F0, P0⟩ := pk G H (Ext.refl R.gh)
              obtain ⟨p, C1, dx, vs, v1, F2, rfl, hm, ho, e2, P1⟩ := P0.fld b2 hfa
              rw [ck.hm] at hm
              cases hm
              have hv1 := P1.hd
              cases hv1 with
              | sh rv =>
                rw [rv.strv] at e2
                refine ⟨p, _, dx, _, .str a0, rfl, ho, ck.cl, ck.na x (List.mem_of_getElem? hj), zip_lookup nd hj e2, ?_⟩
                refine t2 G0 H0 Z Γ σ G H _ _ R e1 fun G1 H1 w x1 r1 => ?_
                rw [r1.strv]
                refine ⟨a0, b0, rfl, rfl, Nat.le_trans (Nat.le_of_lt hz) line_big, ?_⟩
                obtain ⟨F3, P3⟩ := pk G1 H1 x1
                obtain ⟨p', C2, dx2, vs2, ep, hm2, ho2, RR⟩ := P3.setSh x1.gh hj nd (v := .str (a0 ++ b0)) (.str _) ((List.getElem?_eq_some_iff.mp hfa).1) a2
                cases ep
                rw [ck.hm] at hm2
                cases hm2
                exact ⟨dx2, _, ho2, zip_short, k σ G1 _ RR⟩
            · cases hf
          | _ => cases hf
        · cases hf
      · cases hf
    | _ => cases hf
end
end DL

/-! texts that a call gives which changes a place: cut at a separator -/
namespace DL
open PySem L2
variable [TC : TabCtx]
section
variable {X : Cx} {e o : Expr} {mx : Mx} {pos apos : Pos}
/-! i not in a tuple of whole numbers -/
def dNInT : D → D → Option D
  | .int i, .tup ds => (ints? ds).bind fun ns => some (.bl (!inV (.int i) (ns.map V.int)))
  | _, _ => none
theorem flat_ints : ∀ ns : List Int, (ns.map V.int).all flatV = true
  | [] => rfl
  | n :: ns => by
    rw [List.map_cons, List.all_cons, flat_ints ns]
    rfl
theorem ob_ninT : OpB X (compareOp .NotIn) dNInT := by
  refine ⟨_, op_notIn_seq, fun x y d v w G H Q gh e rx ry k => ?_⟩
  unfold dNInT at e
  split at e
  · rename_i i ds
    obtain ⟨ns, e1, e⟩ := obind e
    cases e
    have := ints?_some e1
    subst this
    obtain ⟨p, vs, rfl, h, r⟩ := ry.tup gh
    have := r.ints
    subst this
    rw [(rx.flat nofun).intv]
    exact ⟨p, _, rfl, .inr h, rfl, flat_ints ns, k G H _ (Ext.refl gh) (.bl _)⟩
  · cases e
def gMSplit (m : Mx) (g : Ex) : Mx := fun Γ => (m Γ).bind fun r => (g r.2).bind fun y => (dSplit r.1 y).bind fun ds => some (.lst ds, r.2)
theorem em_split {g : Ex} (ho : EM X o mx) (he : E X e g) (hs : starEach [e] X.env = [(false, eval e X.env)] := by rfl) (hbase : attributeBase o "split" X.env (eval o X.env) = eval o X.env := by rfl) (hline : (apos.endLine == pos.line) = true := by rfl) : EM X (.Call (.Attribute o "split" apos) [e] [] pos) (gMSplit mx g) := by
  obtain ⟨t, h1, h2⟩ := ho.ex
  obtain ⟨u, q1, q2⟩ := he.ex
  refine ⟨⟨_, pe_split h1 q1 hs hbase hline, fun G0 H0 Z Γ σ G H Q d Γ' R hf k => ?_⟩⟩
  obtain ⟨⟨x, Γ1⟩, e1, hf⟩ := obind hf
  obtain ⟨y, e2, hf⟩ := obind hf
  obtain ⟨ds, e3, hf⟩ := obind hf
  cases hf
  refine h2 G0 H0 Z Γ σ G H _ x Γ1 R e1 fun G1 H1 v R1 r1 => ?_
  cases x with
  | str a =>
    cases y with
    | str b =>
      replace e3 : (if (b.length == 0) = false ∧ a.length < 1000000 then some ((Txt.split a b).map D.str) else none) = some ds := e3
      by_cases z : (b.length == 0) = false ∧ a.length < 1000000
      · rw [if_pos z] at e3
        cases e3
        rw [r1.strv]
        refine ⟨⟨_, rfl⟩, ?_⟩
        refine q2 G0 H0 Z Γ1 σ G1 H1 _ _ R1 e2 fun G2 H2 w x2 r2 => ?_
        rw [r2.strv]
        refine ⟨_, _, rfl, rfl, z.1, Nat.le_trans (show a.length + 2 ≤ 1000002 by omega) (by decide), fun p hp => ?_⟩
        have gp := x2.gh.free hp
        have x3 := (Ext.own1 (o := .lst ((Txt.split a b).map V.str)) x2.gh hp)
        exact k _ _ _ (R1.ext (x2.trans (x3.frz1 hp gp upd_same))) (.lst upd_same (RepL.ofStrs _))
      · rw [if_neg z] at e3
        cases e3
    | _ => cases e3
  | _ => cases e3
/-! a comprehension over what such a call gives -/
theorem lc_runJ {ix : List Nat} {g : Gs} {f : Ex} {K : PySem.W.Frag} {mg : Str → Option Value} {own : List (Str × Nat)} {p : Te} {J : It} {items : List D} (hix : ∀ i ∈ ix, i ∈ own.map (·.2))
    {G0 H0 : Hp} {Z : Zs} {Γ : DEnv} {σ : L2.St} {G1 H1 : Hp} {Q : VK} {ds : List D} (R1 : Rel K mg G0 H0 Z Γ σ G1 H1) (hJ : ItmB K mg J G1 H1 items) (hlen : items.length < 1000000) (hf : compL g p f items (wipeE Γ (own.map (·.2))) = some ds)
    (k : ∀ G' H' D vs, Ext G1 H1 G' H' → H1 D = none → G' D = none → H' D = some (.lst vs) → RepL K mg G' vs ds → Q (.ref D) H') :
    tLc (fun _ H' R' => R' J H') (tGx K mg ix g) (tTx K mg p) (tEx K mg f) (own.map (·.2)) σ H1 Q := by
  refine fun D hD => ?_
  have x1 := Ext.refl R1.gh
  -- the state within: the list so far at D
  have ntD : ¬ Z.t.tz D := fun h => R1.zz _ (R1.tz _ h) hD
  refine ⟨fun i m Hc => m = items.length - i ∧ i ≤ items.length ∧ ∃ Gc acc dacc rest, Ext G1 H1 Gc Hc ∧ Gc D = none ∧ Hc D = some (.lst acc) ∧ acc.length ≤ i ∧ RepL K mg Gc acc dacc ∧ Rel K mg G0 H0 ⟨fun a => Z.z a ∨ a = D, Z.a, Z.t⟩ (wipeE Γ (own.map (·.2))) (L2.wipe σ (own.map (·.2))) Gc Hc ∧
    compL g p f (items.drop i) (wipeE Γ (own.map (·.2))) = some rest ∧ dacc ++ rest = ds, ⟨items.length, ?_⟩, ?_⟩
  · exact ⟨by simp, Nat.zero_le _, G1, [], [], ds, Ext.own1 x1.gh hD, x1.gh.free hD, upd_same, Nat.le_refl _, .nil, (R1.wipe (own.map (·.2))).zput hD, by simpa using hf, rfl⟩
  · rintro i m Hc ⟨rfl, hi, Gc, acc, dacc, rest, xc, gD, hcD, la, ra, Rc, hr, hds⟩
    obtain ⟨st, go⟩ := hJ i Gc Hc xc.gg xc.gh xc.hh
    have nn : ∀ {H : Hp}, H D = some (.lst acc) → H D ≠ none := fun e => by rw [e]; simp
    by_cases hlt : i < items.length
    · have hd : items.drop i = items[i] :: items.drop (i + 1) := List.drop_eq_getElem_cons hlt
      obtain ⟨g1, g2⟩ := go items[i] (List.getElem?_eq_getElem hlt)
      rw [hd] at hr
      obtain ⟨Γ1, c1, hr⟩ := obind hr
      obtain ⟨b, c2, hr⟩ := obind hr
      refine .inr ⟨g1, fun H' => ∃ m', (m' = items.length - (i + 1) ∧ i + 1 ≤ items.length ∧ ∃ Gc acc dacc rest, Ext G1 H1 Gc H' ∧ Gc D = none ∧ H' D = some (.lst acc) ∧ acc.length ≤ i + 1 ∧ RepL K mg Gc acc dacc ∧ Rel K mg G0 H0 ⟨fun a => Z.z a ∨ a = D, Z.a, Z.t⟩ (wipeE Γ (own.map (·.2))) (L2.wipe σ (own.map (·.2))) Gc H' ∧
        compL g p f (items.drop (i + 1)) (wipeE Γ (own.map (·.2))) = some rest ∧ dacc ++ rest = ds), fun H' ⟨m', h⟩ => ⟨m', by have := h.1; omega, h⟩, fun x H2 y => ?_⟩
      obtain ⟨G2, x2, r2⟩ := g2 x H2 y
      have xc2 := xc.trans x2
      have R2 := Rc.ext x2
      have gD2 : G2 D = none := x2.none gD (nn hcD)
      have hD2 := x2.hh _ _ hcD nofun
      refine ⟨G0, H0, _, _, G2, items[i], Γ1, R2, r2, c1, fun σ3 R3 w3 => ⟨(w3 _ hix).trans (wipe_sub _ fun _ h => h), ?_⟩⟩
      refine ⟨G0, H0, _, Γ1, G2, b, R3, c2, fun G4 H4 x4 => ?_⟩
      have gD4 : G4 D = none := x4.none gD2 (nn hD2)
      have hD4 := x4.hh _ _ hD2 nofun
      cases b with
      | false =>
        refine iteF ⟨_, rfl, hlt, G4, acc, dacc, rest, xc2.trans x4, gD4, hD4, by omega, (ra.mono x2.gg).mono x4.gg, R2.ext x4, hr, hds⟩
      | true =>
        refine iteT ⟨G0, H0, ⟨fun a => Z.z a ∨ a = D, Z.a, Z.t⟩, Γ1, G4, ?_⟩
        replace hr : ((f Γ1).bind fun y => (compL g p f (items.drop (i + 1)) (wipeE Γ (own.map (·.2)))).bind fun r => some (y :: r)) = some rest := hr
        obtain ⟨yv, c3, hr⟩ := obind hr
        obtain ⟨rr, c4, hr⟩ := obind hr
        cases hr
        refine ⟨yv, R3.ext x4, c3, fun G5 H5 v x5 r5 => ?_⟩
        have gD5 : G5 D = none := x5.none gD4 (nn hD4)
        have hD5 : H5 D = some (.lst acc) := x5.hh _ _ hD4 nofun
        refine ⟨acc, hD5, Nat.lt_of_lt_of_le (Nat.lt_of_le_of_lt la (Nat.lt_trans hlt hlen)) line_big, _, rfl, hlt, G5, acc ++ [v], dacc ++ [yv], rr, ?_, gD5, upd_same, by simp; omega, ((((ra.mono x2.gg).mono x4.gg).mono x5.gg).append (.cons r5 .nil)), ((R2.ext x4).ext x5).aside (.inr rfl) ntD gD5 (R1.hf hD), c4, by rw [← hds]; simp⟩
        have xx := (xc2.trans x4).trans x5
        refine ⟨xx.gg, fun a o q n => ?_, fun a o q => ?_, xx.new, fun a h => ?_, fun t => TC.ti.keep (xx.tb t) (Same.refl _) (fun a h => upd_ne (fun z => (TC.ti.live t a h).1 (by rw [z]; exact hD))) (fun _ _ g => g)⟩
        · rw [upd_ne (ne_of_none q hD)]; exact xx.hh _ _ q n
        · rw [upd_ne (ne_of_none q gD5)]; exact xx.gh _ _ q
        · by_cases z : a = D
          · subst z; rw [upd_same]; simp
          · rw [upd_ne z]; exact xx.hn a h
    · have e : i = items.length := by omega
      subst e
      refine .inl ⟨st (Nat.le_refl _), ?_⟩
      rw [List.drop_length] at hr
      cases hr
      rw [List.append_nil] at hds
      subst hds
      exact k Gc Hc D acc (x1.trans xc) (x1.hf hD) gD hcD ra

def gMLc (own : List Nat) (m : Mx) (g : Gs) (t : Te) (e : Ex) : Mx := fun Γ => (m Γ).bind fun r => match r.1 with
  | .lst ds => if ds.length < 1000000 then (compL g t e ds (wipeE r.2 own)).bind fun es => some (.lst es, r.2) else none
  | _ => none
theorem em_lc {ix : List Nat} {g : Gs} {f : Ex} {tg : Expr} {elt iter : Expr} {ifs : List Expr} {scope : Scope} {own : List (Str × Nat)} {mx : Mx} {p : Te} (hc : X.calm = true) (hN : X.N.Nodup) (hi : EM X iter mx) (ok : BlkOk X.N X.env.scope scope own) (hix : ∀ i ∈ ix, i ∈ own.map (·.2))
    (hg : ∀ (s : Shared) (H : Hp) (C : Addr) (cl : List (Str × Addr)) (fp : List Addr), G (X.blk s H scope (compEnvC scope cl C X.env) fp) tg ix g)
    (ht : ∀ (s : Shared) (H : Hp) (C : Addr) (cl : List (Str × Addr)) (fp : List Addr), Ts (X.blk s H scope (compEnvC scope cl C X.env) fp) ifs p)
    (he : ∀ (s : Shared) (H : Hp) (C : Addr) (cl : List (Str × Addr)) (fp : List Addr), E (X.blk s H scope (compEnvC scope cl C X.env) fp) elt f) (hs : ∀ x, foldedSetIterable iter X.env x = pure x := by intro _; rfl) :
    EM X (.ListComp elt [⟨tg, iter, ifs, 0⟩] scope pos) (gMLc (own.map (·.2)) mx g p f) := by
  obtain ⟨t, h1, h2⟩ := hi.ex
  refine ⟨⟨tLc (iList X.K t) (tGx X.K X.mg ix g) (tTx X.K X.mg p) (tEx X.K X.mg f) (own.map (·.2)), pe_lc hc hN (pi_list h1) ok (fun s H C cl fp => (hg s H C cl fp).pg) (fun s H C cl fp => (ht s H C cl fp).pt) (fun s H C cl fp => (he s H C cl fp).pe) hs, fun G0 H0 Z Γ σ G H Q d Γ' R hf k => ?_⟩⟩
  obtain ⟨⟨x, Γ1⟩, e1, hf⟩ := obind hf
  cases x with
  | lst items =>
    replace hf : (if items.length < 1000000 then (compL g p f items (wipeE Γ1 (own.map (·.2)))).bind fun es => some (D.lst es, Γ1) else none) = some (d, Γ') := hf
    by_cases hl : items.length < 1000000
    · rw [if_pos hl] at hf
      obtain ⟨es, e2, hf⟩ := obind hf
      cases hf
      refine h2 G0 H0 Z Γ σ G H _ _ _ R e1 fun G1 H1 v R1 r1 => ?_
      obtain ⟨q, vs, rfl, hq, it⟩ := itmB_lst R1.gh (fun _ _ z _ => z) (.sh r1 : RepB X.K X.mg G1 H1 v (.lst items))
      refine ⟨q, rfl, ⟨vs, hq⟩, ?_⟩
      exact lc_runJ hix R1 it hl e2 fun G' H' D ws x hp gp hd r => k _ _ _ (R1.ext (x.frz1 hp gp hd)) (.lst upd_same (r.mono (same_upd gp)))
    · rw [if_neg hl] at hf
      cases hf
  | _ => cases hf
theorem s_setLcM (i : Nat) {ix : List Nat} {g : Gs} {f : Ex} {tg : Expr} {y : Str} {py : Pos} {elt iter : Expr} {ifs : List Expr} {scope : Scope} {own : List (Str × Nat)} {mx : Mx} {p : Te} {spos : Pos} (hc : X.calm = true) (hN : X.N.Nodup) (hi : EM X iter mx) (ok : BlkOk X.N X.env.scope scope own) (hix : ∀ i ∈ ix, i ∈ own.map (·.2))
    (hg : ∀ (s : Shared) (H : Hp) (C : Addr) (cl : List (Str × Addr)) (fp : List Addr), G (X.blk s H scope (compEnvC scope cl C X.env) fp) tg ix g)
    (ht : ∀ (s : Shared) (H : Hp) (C : Addr) (cl : List (Str × Addr)) (fp : List Addr), Ts (X.blk s H scope (compEnvC scope cl C X.env) fp) ifs p)
    (he : ∀ (s : Shared) (H : Hp) (C : Addr) (cl : List (Str × Addr)) (fp : List Addr), E (X.blk s H scope (compEnvC scope cl C X.env) fp) elt f)
    (hy : X.N[i]? = some y := by rfl) (hyl : X.env.scope.names.lookup y = some .local := by rfl) (hsw : swapsWith (.ListComp elt [⟨tg, iter, ifs, 0⟩] scope pos) (some (.Name y py)) spos.line X.env = pure true := by exact sw_true rfl rfl rfl (by decide +kernel)) (hs : ∀ x, foldedSetIterable iter X.env x = pure x := by intro _; rfl) :
    S X (.Assign [.Name y py] (.ListComp elt [⟨tg, iter, ifs, 0⟩] scope pos) spos) (sSetM i (gMLc (own.map (·.2)) mx g p f)) := by
  obtain ⟨t, h1, h2⟩ := hi.ex
  refine ⟨⟨_, ps_setLc (te := fun σ H Q => ∃ G0 H0 Z Γ G d, Rel X.K X.mg G0 H0 Z Γ σ G H ∧ f Γ = some d ∧ ∀ G' H' v, Ext G H G' H' → Rep X.K X.mg G' v d → Q v H') (tt := fun σ H Q => ∃ G0 H0 Z Γ G d, Rel X.K X.mg G0 H0 Z Γ σ G H ∧ p Γ = some d ∧ ∀ G' H', Ext G H G' H' → Q d H') (g := fun v σ H Q => ∃ G0 H0 Z Γ G d Γ', Rel X.K X.mg G0 H0 Z Γ σ G H ∧ Rep X.K X.mg G v d ∧ g d Γ = some Γ' ∧ ∀ σ', Rel X.K X.mg G0 H0 Z Γ' σ' G H → (∀ vs, (∀ i ∈ ix, i ∈ vs) → L2.wipe σ' vs = L2.wipe σ vs) → Q σ' H) hc hN hy hyl hsw (pi_list h1) ok (fun s H C cl fp => (hg s H C cl fp).pg) (fun s H C cl fp => (ht s H C cl fp).pt) (fun s H C cl fp => (he s H C cl fp).pe) hs, fun G0 H0 Z Γ σ G H D r R hf k => ?_⟩⟩
  obtain ⟨⟨d, Γ'⟩, e0, hf⟩ := obind hf
  cases hf
  obtain ⟨⟨x, Γ1⟩, e1, e0⟩ := obind e0
  cases x with
  | lst items =>
    replace e0 : (if items.length < 1000000 then (compL g p f items (wipeE Γ1 (own.map (·.2)))).bind fun es => some (DL.D.lst es, Γ1) else none) = some (d, Γ') := e0
    by_cases hl : items.length < 1000000
    · rw [if_pos hl] at e0
      obtain ⟨es, e2, e0⟩ := obind e0
      cases e0
      refine h2 G0 H0 Z Γ σ G H _ _ _ R e1 fun G1 H1 v R1 r1 => ?_
      obtain ⟨q, vs, rfl, hq, it⟩ := itmB_lst R1.gh (fun _ _ z _ => z) (.sh r1 : RepB X.K X.mg G1 H1 v (.lst items))
      refine ⟨q, rfl, ⟨vs, hq⟩, ?_⟩
      exact lc_runJ (Q := fun v H' => D.nx (σ.set i (some v)) H') hix R1 it hl e2 fun G' H' p' ws x hp gp hd r => k _ _ _ ((R1.ext (x.frz1 hp gp hd)).set i (.lst upd_same (r.mono (same_upd gp))))
    · rw [if_neg hl] at e0
      cases e0
  | _ => cases e0
end
end DL

/-! DL44: lists of lists that are looked at; lists of own lists: `for x in P: x.append(e)`, `P.append(n)` -/
namespace DL
open PySem L2
variable [TC : TabCtx]
section
variable {K : PySem.W.Frag} {mg : Str → Option Value} {G0 H0 : Hp} {Z : Zs} {Γ : DEnv} {σ : L2.St} {G H : Hp}
theorem Rel.setB (r : Rel K mg G0 H0 Z Γ σ G H) (i : Nat) {v : V} {d : D} (h : RepB K mg G H0 v d) : Rel K mg G0 H0 Z (Γ.set i (.bo d)) (σ.set i (some v)) G H := by
  obtain ⟨own, o1, o2, o3⟩ := r.own
  refine ⟨by simpa using r.len, r.gh, r.hh, r.gg, r.new, r.zz, fun w s' e1 e2 e3 => ?_, r.tb, r.tz, r.tc, r.hn, own, o1, o2, fun j s q => ?_⟩
  · rcases set_get e2 with ⟨ei, hl, rfl⟩ | ⟨ei, q⟩
    · cases e3
    · rw [List.getElem?_set_ne ei]
      exact r.an w s' e1 q e3
  rcases set_get q with ⟨ei, hl, rfl⟩ | ⟨ei, q⟩
  · subst ei
    refine .inr (.inr ⟨v, d, rfl, ?_, h⟩)
    rw [List.getElem?_set_self (by rw [r.len]; exact hl)]
  · rw [List.getElem?_set_ne ei]
    exact o3 j s q
end
def gBo (i : Nat) : Gs := fun d Γ => some (Γ.set i (.bo d))
def gLcB (i : Nat) (own : List Nat) (g : Ex) (e : Ex) : Ag := fun Γ => (g Γ).bind fun d => match d with
  | .lls ds => if ds.length < 1000000 then compL (gBo i) gYes e ds (wipeE Γ own) else none
  | .lst ds => if ds.length < 1000000 then compL (gBo i) gYes e ds (wipeE Γ own) else none
  | _ => none
theorem lc_runB {f : Ex} {K : PySem.W.Frag} {mg : Str → Option Value} {own : List (Str × Nat)} {i0 : Nat} {p : Addr} {vs0 : List V} {items : List D} (hix : i0 ∈ own.map (·.2))
    {G0 H0 : Hp} {Z : Zs} {Γ : DEnv} {σ : L2.St} {G1 H1 : Hp} {Q : VK} {ds : List D} (R1 : Rel K mg G0 H0 Z Γ σ G1 H1) (hp : H1 p = some (.lst vs0)) (hr : RepBL K mg G1 H0 vs0 items) (hlen : items.length < 1000000) (hf : compL (gBo i0) gYes f items (wipeE Γ (own.map (·.2))) = some ds)
    (k : ∀ G' H' D vs, Ext G1 H1 G' H' → H1 D = none → G' D = none → H' D = some (.lst vs) → RepL K mg G' vs ds → Q (.ref D) H') :
    tLc (fun _ H' R' => R' (Itl K p) H') (gName i0) (tTx K mg gYes) (tEx K mg f) (own.map (·.2)) σ H1 Q := by
  refine fun D hD => ?_
  have x1 := Ext.refl R1.gh
  have ntD : ¬ Z.t.tz D := fun h => R1.zz _ (R1.tz _ h) hD
  refine ⟨fun i m Hc => m = items.length - i ∧ i ≤ items.length ∧ ∃ Gc acc dacc rest, Ext G1 H1 Gc Hc ∧ Gc D = none ∧ Hc D = some (.lst acc) ∧ acc.length ≤ i ∧ RepL K mg Gc acc dacc ∧ Rel K mg G0 H0 ⟨fun a => Z.z a ∨ a = D, Z.a, Z.t⟩ (wipeE Γ (own.map (·.2))) (L2.wipe σ (own.map (·.2))) Gc Hc ∧
    compL (gBo i0) gYes f (items.drop i) (wipeE Γ (own.map (·.2))) = some rest ∧ dacc ++ rest = ds, ⟨items.length, ?_⟩, ?_⟩
  · exact ⟨by simp, Nat.zero_le _, G1, [], [], ds, Ext.own1 x1.gh hD, x1.gh.free hD, upd_same, Nat.le_refl _, .nil, (R1.wipe (own.map (·.2))).zput hD, by simpa using hf, rfl⟩
  · rintro i m Hc ⟨rfl, hi, Gc, acc, dacc, rest, xc, gD, hcD, la, ra, Rc, hr', hds⟩
    have hpc := xc.hh _ _ hp nofun
    have nn : ∀ {H : Hp}, H D = some (.lst acc) → H D ≠ none := fun e => by rw [e]; simp
    by_cases hlt : i < items.length
    · have hd : items.drop i = items[i] :: items.drop (i + 1) := List.drop_eq_getElem_cons hlt
      obtain ⟨v0, g1, g2⟩ := hr.get i (List.getElem?_eq_getElem hlt)
      rw [hd] at hr'
      obtain ⟨Γ1, c1, hr'⟩ := obind hr'
      cases c1
      replace hr' : ((f ((wipeE Γ (own.map (·.2))).set i0 (.bo items[i]))).bind fun y => (compL (gBo i0) gYes f (items.drop (i + 1)) (wipeE Γ (own.map (·.2)))).bind fun r => some (y :: r)) = some rest := hr'
      refine .inr ⟨⟨vs0, v0, SqL.of hpc, g1⟩, fun H' => ∃ m', (m' = items.length - (i + 1) ∧ i + 1 ≤ items.length ∧ ∃ Gc acc dacc rest, Ext G1 H1 Gc H' ∧ Gc D = none ∧ H' D = some (.lst acc) ∧ acc.length ≤ i + 1 ∧ RepL K mg Gc acc dacc ∧ Rel K mg G0 H0 ⟨fun a => Z.z a ∨ a = D, Z.a, Z.t⟩ (wipeE Γ (own.map (·.2))) (L2.wipe σ (own.map (·.2))) Gc H' ∧
        compL (gBo i0) gYes f (items.drop (i + 1)) (wipeE Γ (own.map (·.2))) = some rest ∧ dacc ++ rest = ds), fun H' ⟨m', h⟩ => ⟨m', by have := h.1; omega, h⟩, fun x H2 y => ?_⟩
      obtain ⟨rfl, y⟩ := y
      have e3 := y vs0 (SqL.of hpc)
      rw [g1] at e3
      cases e3
      have R3 := Rc.setB i0 (g2.mono xc.gg (fun _ _ z _ => z))
      refine ⟨(wipe_in hix).trans (wipe_sub _ fun _ h => h), ?_⟩
      refine ⟨G0, H0, _, _, Gc, true, R3, rfl, fun G4 H4 x4 => ?_⟩
      have gD4 : G4 D = none := x4.none gD (nn hcD)
      have hD4 := x4.hh _ _ hcD nofun
      refine iteT ⟨G0, H0, ⟨fun a => Z.z a ∨ a = D, Z.a, Z.t⟩, (wipeE Γ (own.map (·.2))).set i0 (.bo items[i]), G4, ?_⟩
      obtain ⟨yv, c3, hr'⟩ := obind hr'
      obtain ⟨rr, c4, hr'⟩ := obind hr'
      cases hr'
      refine ⟨yv, R3.ext x4, c3, fun G5 H5 v x5 r5 => ?_⟩
      have gD5 : G5 D = none := x5.none gD4 (nn hD4)
      have hD5 : H5 D = some (.lst acc) := x5.hh _ _ hD4 nofun
      refine ⟨acc, hD5, Nat.lt_of_lt_of_le (Nat.lt_of_le_of_lt la (Nat.lt_trans hlt hlen)) line_big, _, rfl, hlt, G5, acc ++ [v], dacc ++ [yv], rr, ?_, gD5, upd_same, by simp; omega, (((ra.mono x4.gg).mono x5.gg).append (.cons r5 .nil)), ((Rc.ext x4).ext x5).aside (.inr rfl) ntD gD5 (R1.hf hD), c4, by rw [← hds]; simp⟩
      have xx := (xc.trans x4).trans x5
      refine ⟨xx.gg, fun a o q n => ?_, fun a o q => ?_, xx.new, fun a h => ?_, fun t => TC.ti.keep (xx.tb t) (Same.refl _) (fun a h => upd_ne (fun z => (TC.ti.live t a h).1 (by rw [z]; exact hD))) (fun _ _ g => g)⟩
      · rw [upd_ne (ne_of_none q hD)]; exact xx.hh _ _ q n
      · rw [upd_ne (ne_of_none q gD5)]; exact xx.gh _ _ q
      · by_cases z : a = D
        · subst z; rw [upd_same]; simp
        · rw [upd_ne z]; exact xx.hn a h
    · have e : i = items.length := by omega
      subst e
      refine .inl ⟨⟨vs0, SqL.of hpc, by rw [hr.length]; exact Nat.le_refl _⟩, ?_⟩
      rw [List.drop_length] at hr'
      cases hr'
      rw [List.append_nil] at hds
      subst hds
      exact k Gc Hc D acc (x1.trans xc) (x1.hf hD) gD hcD ra
section
variable {X : Cx} {e a b o : Expr} {es : List Expr} {f g : Ex} {fs : Ag} {pos pos' : Pos} {n : Nat}
theorem el_lcB (i : Nat) {elt tg iter : Expr} {scope : Scope} {own : List (Str × Nat)} (hc : X.calm = true) (hN : X.N.Nodup) (hi : B0 X iter g) (ok : BlkOk X.N X.env.scope scope own) (hix : i ∈ own.map (·.2))
    (hg : ∀ (s : Shared) (H : Hp) (C : Addr) (cl : List (Str × Addr)) (fp : List Addr), PG (X.blk s H scope (compEnvC scope cl C X.env) fp) tg (gName i))
    (he : ∀ (s : Shared) (H : Hp) (C : Addr) (cl : List (Str × Addr)) (fp : List Addr), E (X.blk s H scope (compEnvC scope cl C X.env) fp) elt f) (hs : ∀ x, foldedSetIterable iter X.env x = pure x := by intro _; rfl) :
    EL X (.ListComp elt [⟨tg, iter, [], 0⟩] scope pos) (gLcB i (own.map (·.2)) g f) := by
  obtain ⟨t, h1, h2⟩ := hi.ex
  refine ⟨⟨tLc (iList X.K t) (gName i) (tTx X.K X.mg gYes) (tEx X.K X.mg f) (own.map (·.2)), pe_lc hc hN (pi_list h1) ok hg (fun s H C cl fp => ts_nil.pt) (fun s H C cl fp => (he s H C cl fp).pe) hs, fun G0 H0 Z Γ σ G H Q ds R hf k => ?_⟩⟩
  obtain ⟨d, e1, hf⟩ := obind hf
  cases d with
  | lls items =>
    replace hf : (if items.length < 1000000 then compL (gBo i) gYes f items (wipeE Γ (own.map (·.2))) else none) = some ds := hf
    by_cases hl : items.length < 1000000
    · rw [if_pos hl] at hf
      refine h2 G0 H0 Z Γ σ G H _ _ R e1 fun G1 H1 v x1 r1 => ?_
      have R1 := R.ext x1
      have : ∃ q vs, v = .ref q ∧ H1 q = some (.lst vs) ∧ RepBL X.K X.mg G1 H0 vs items := by
        cases r1 with
        | sh r => cases r with
          | lls h r => exact ⟨_, _, rfl, x1.gh _ _ h, r.bo⟩
        | lls h r => exact ⟨_, _, rfl, R1.hh _ _ h nofun, r⟩
      obtain ⟨q, vs, rfl, hq, rr⟩ := this
      refine ⟨q, rfl, ⟨vs, SqL.of hq⟩, ?_⟩
      exact lc_runB hix R1 hq rr hl hf fun G' H' D ws x hp gp hd r => k G' H' D ws (x1.trans x) (x1.hf hp) gp hd r
    · rw [if_neg hl] at hf
      cases hf
  | lst items =>
    replace hf : (if items.length < 1000000 then compL (gBo i) gYes f items (wipeE Γ (own.map (·.2))) else none) = some ds := hf
    by_cases hl : items.length < 1000000
    · rw [if_pos hl] at hf
      refine h2 G0 H0 Z Γ σ G H _ _ R e1 fun G1 H1 v x1 r1 => ?_
      have R1 := R.ext x1
      have : ∃ q vs, v = .ref q ∧ H1 q = some (.lst vs) ∧ RepBL X.K X.mg G1 H0 vs items := by
        cases r1 with
        | sh r => cases r with
          | lst h r => exact ⟨_, _, rfl, x1.gh _ _ h, r.bo⟩
        | li h r => exact ⟨_, _, rfl, R1.hh _ _ h nofun, r.bo⟩
      obtain ⟨q, vs, rfl, hq, rr⟩ := this
      refine ⟨q, rfl, ⟨vs, SqL.of hq⟩, ?_⟩
      exact lc_runB hix R1 hq rr hl hf fun G' H' D ws x hp gp hd r => k G' H' D ws (x1.trans x) (x1.hf hp) gp hd r
    · rw [if_neg hl] at hf
      cases hf
  | _ => cases hf
end
/-! for x in P: x.append(e), P a list of own lists, e always the same -/
def apS (d : D) : Sl → Sl
  | .ow xs => .ow (xs ++ [d])
  | s => s
def sForPA (i i0 : Nat) (rp : Pth) (f : Ex) : Sm := fun Γ => match gP i0 rp Γ with
  | some (.ol ss) => (f ((Γ.set i0 .no).set i .no)).bind fun d => if ss.length < 1000000 ∧ ss.all isOwS = true ∧ i < Γ.length ∧ i ≠ i0 then (Γ[i0]?).bind fun s => (setR rp (.ol (ss.map (apS d))) s).bind fun s' => some (.nx ((Γ.set i0 s').set i .no)) else none
  | _ => none
theorem setR_any : ∀ {rp : Pth} {a b s s' : Sl}, setR rp a s = some s' → ∃ s2, setR rp b s = some s2
  | [], a, b, s, s', h => ⟨b, rfl⟩
  | (c, j) :: r, a, b, s, s', h => by
    unfold setR at h ⊢
    cases q : getR r s with
    | none => rw [q] at h; cases h
    | some z =>
      rw [q] at h
      cases z with
      | ob c' fs =>
        simp only at h ⊢
        split at h
        · rename_i hc
          rw [if_pos hc]
          exact setR_any h
        · cases h
      | ol ss =>
        simp only at h ⊢
        split at h
        · rename_i hc
          rw [if_pos hc]
          exact setR_any h
        · cases h
      | _ => cases h
theorem set_some {α : Type} : ∀ {l : List α} {i : Nat} {x : α}, l[i]? = some x → l.set i x = l
  | [], _, _, h => by simp at h
  | a :: l, 0, x, h => by simp at h; subst h; rfl
  | a :: l, i + 1, x, h => by
    rw [List.set_cons_succ, set_some (by simpa using h)]
theorem tkdr {ss : List Sl} {j : Nat} {d : D} {s : Sl} (h : ss[j]? = some s) : (((ss.take j).map (apS d)) ++ ss.drop j).set j (apS d s) = ((ss.take (j + 1)).map (apS d)) ++ ss.drop (j + 1) := by
  have hj := (List.getElem?_eq_some_iff.mp h).1
  have he := (List.getElem?_eq_some_iff.mp h).2
  have l1 : ((ss.take j).map (apS d)).length = j := by simp; omega
  rw [List.set_append_right _ _ (by omega), l1, Nat.sub_self, List.drop_eq_getElem_cons hj, List.set_cons_zero, ← List.take_append_getElem hj, List.map_append, he]
  simp
section
variable {X : Cx} {e a b o : Expr} {es : List Expr} {f g : Ex} {sx : Sx} {fs : Ag} {pos pos' : Pos} {n : Nat}
theorem s_forPA {x : Str} {i i0 : Nat} {rp : Pth} {tp xp ap cp ep : Pos} (hp : PassesOwn (model X.prog X.w) X.A X.env X.xe) (hc : X.calm = true) (hl : PL X o i0 rp) (hN : X.N.Nodup) (he : E X e f)
    (hi : X.N[i]? = some x := by rfl) (hx : Loc X.env.scope x := by first | exact Or.inl rfl | exact Or.inr rfl) (hv : Vis X.env.scope x := by first | exact Or.inl rfl | exact Or.inr (Or.inl rfl) | exact Or.inr (Or.inr rfl)) (hd : (x == ("__debug__" : Str)) = false := by decide)
    (hcd : (x == ("__classdict__" : Str)) = false := by decide) (hf : X.fn x = true ∨ X.env.scope.names.lookup x = some .local := by first | exact .inl rfl | exact .inr rfl | assumption)
    (hst : starEach [e] X.env = (false, eval e X.env) :: starEach [] X.env := by rfl)
    (hpe : ∀ {r : V → List V → Hp → VK → Prop} {to te : TE}, MtR X "list.append" r → PE X (.Name x xp) to → PE X e te → PE X (.Call (.Attribute (.Name x xp) "append" ap) [e] [] cp) (tBM X.K "list" r to (tCons te tNil)) := by intro r to te hm ho hp; exact pe_bm PySem.F.plainAttrs_list PySem.F.slot_list_append PySem.F.type_list_append hm ho (pa_cons hp pa_nil))
    (hs : swapsWith (.Call (.Attribute (.Name x xp) "append" ap) [e] [] cp) none ep.line X.env = pure false := by rfl)
    (hs2 : ∀ y, foldedSetIterable o X.env y = pure y := by intro _; rfl) :
    S X (.For (.Name x tp) o [.Expr (.Call (.Attribute (.Name x xp) "append" ap) [e] [] cp) ep] [] pos) (sForPA i i0 rp f) := by
  obtain ⟨t, t1, t2⟩ := hl.ex
  obtain ⟨u, u1, u2⟩ := he.ex
  refine ⟨⟨_, ps_for hp hc (pi_list t1) (pg_name hN hi hx hf) (pss_one (ps_expr (hpe mt_append (pe_var hi hv hd hcd) u1) hs)) hs2, fun G0 H0 Z Γ σ G H D r R hr k => ?_⟩⟩
  unfold sForPA at hr
  cases q0 : gP i0 rp Γ with
  | none => rw [q0] at hr; cases hr
  | some s1 =>
  rw [q0] at hr
  cases s1 with
  | ol ss =>
    obtain ⟨d, e2, hr⟩ := obind hr
    split at hr
    · rename_i hall
      obtain ⟨hlen, how, hil, hne⟩ := hall
      obtain ⟨s, a1, hr⟩ := obind hr
      obtain ⟨s', a2, hr⟩ := obind hr
      cases hr
      obtain ⟨sq, b1, b2, b3⟩ := gP_some q0 (by simp [SlP])
      rw [a1] at b1
      cases b1
      refine t2 G0 H0 Z Γ σ G H G H _ s _ R (Ext.refl R.gh) a1 b2 b3 (by simp) fun v pk => ?_
      obtain ⟨F1, P⟩ := pk G H (Ext.refl R.gh)
      have hd0 := P.hd
      cases hd0 with
      | @ol p vs _ _ F' fp hp0 np sF rl =>
        have hlv := rl.length
        obtain ⟨v0, hv0⟩ : ∃ v0, σ[i0]? = some v0 := by
          have : i0 < σ.length := by rw [R.len]; exact (List.getElem?_eq_some_iff.mp a1).1
          exact ⟨_, List.getElem?_eq_getElem this⟩
        refine ⟨p, rfl, ⟨vs, SqL.of hp0⟩, fun j m σ' H' => m = ss.length - j ∧ j ≤ ss.length ∧ (∃ w, σ' = σ.set i w) ∧ ∃ G', Same G G' ∧ Same G' H' ∧ TC.ti.t G' H' ∧ (∀ a, ¬ F1 a → H a ≠ none → H' a ≠ none) ∧ (∀ a, G' a ≠ none → G a ≠ none ∨ H a = none ∨ F1 a) ∧ (∀ a o, ¬ F1 a → H a = some o → NT o → H' a = some o) ∧ H' p = some (.lst vs) ∧ G' p = none ∧ HdL X.K X.mg G' H' vs F' (((ss.take j).map (apS d)) ++ ss.drop j) ∧ ∀ a, F' a → G' a = none ∧ H' a ≠ none, ?_, ?_⟩
        · refine ⟨ss.length, by omega, Nat.zero_le _, ⟨σ[i]'(by rw [R.len]; exact hil), (set_some (List.getElem?_eq_getElem _)).symm⟩, G, Same.refl _, R.gh, R.tbc, fun _ _ h => h, fun _ h => .inl h, fun _ _ _ h _ => h, hp0, (P.fr p fp).1, by simpa using rl, fun a fa => ⟨(P.fr a (sF a fa)).1, (P.fr a (sF a fa)).2.2.1⟩⟩
        · rintro j m σ' H' ⟨rfl, hj, ⟨w0, rfl⟩, G', g1, g2, g3, g4, g5, g6, hp', gp', rl', fr'⟩
          -- the state as it stands
          have back : ∀ (x : Option V), ∃ s2, setR rp (.ol (((ss.take j).map (apS d)) ++ ss.drop j)) s = some s2 ∧ Rel X.K X.mg G0 H0 Z ((Γ.set i0 s2).set i .no) (σ.set i x) G' H' := fun x => by
            obtain ⟨s2, es⟩ := setR_any (b := .ol (((ss.take j).map (apS d)) ++ ss.drop j)) a2
            refine ⟨s2, es, ?_⟩
            have := P.upC G' H' (fun a => F' a ∨ a = p) _ s2 g1 g2 g3 g4 (fun a h => g5 a h) g6 (.ol (F' := F') (.inr rfl) hp' np (fun a => .inl) rl') (fun a y => ?_) (fun _ => rfl) es
            · exact this.dropV i x
            · rcases y with y | rfl
              · exact ⟨(fr' a y).1, (fr' a y).2, .inl (sF a y)⟩
              · exact ⟨gp', by rw [hp']; simp, .inl fp⟩
          by_cases hlt : j < ss.length
          · obtain ⟨sj, hsj⟩ : ∃ sj, ss[j]? = some sj := ⟨_, List.getElem?_eq_getElem hlt⟩
            have hcur : (((ss.take j).map (apS d)) ++ ss.drop j)[j]? = some sj := by
              rw [List.getElem?_append_right (by simp; omega)]
              simp only [List.length_map, List.length_take]
              rw [show j - min j ss.length = 0 by omega, List.getElem?_drop]
              exact hsj
            obtain ⟨vj, Fj, ej, hdj, sj1, kj⟩ := rl'.upd j hcur
            have hown : isOwS sj = true := List.all_eq_true.mp how _ (List.mem_of_getElem? hsj)
            refine .inr ⟨⟨vs, vj, SqL.of hp', ej⟩, fun σ2 H2 => j + 1 ≤ ss.length ∧ (∃ w, σ2 = σ.set i w) ∧ ∃ G', Same G G' ∧ Same G' H2 ∧ TC.ti.t G' H2 ∧ (∀ a, ¬ F1 a → H a ≠ none → H2 a ≠ none) ∧ (∀ a, G' a ≠ none → G a ≠ none ∨ H a = none ∨ F1 a) ∧ (∀ a o, ¬ F1 a → H a = some o → NT o → H2 a = some o) ∧ H2 p = some (.lst vs) ∧ G' p = none ∧ HdL X.K X.mg G' H2 vs F' (((ss.take (j + 1)).map (apS d)) ++ ss.drop (j + 1)) ∧ ∀ a, F' a → G' a = none ∧ H2 a ≠ none, fun σ2 H2 w => ⟨ss.length - (j + 1), by omega, rfl, w⟩, fun y H2 hy => ?_⟩
            obtain ⟨rfl, hy⟩ := hy
            have e3 := hy vs (SqL.of hp')
            rw [ej] at e3
            cases e3
            refine ⟨vj, ?_, ?_⟩
            · rw [List.getElem?_set_self (by rw [List.length_set, R.len]; exact hil)]
            cases sj with
            | ow xs =>
              cases hdj with
              | @ow l ws _ _ fl hq rq =>
                refine ⟨.inl ⟨rfl, _, SqL.of hq⟩, ?_⟩
                have Rn : Rel X.K X.mg G0 H0 Z ((Γ.set i0 .no).set i .no) ((σ.set i w0).set i (some (V.ref l))) G' H2 := by
                  obtain ⟨s2, es, Rb⟩ := back (some (V.ref l))
                  have := Rb.dropV i0 v0
                  rw [List.set_comm _ _ hne, List.set_set, List.set_comm _ _ hne, set_some hv0] at this
                  rw [List.set_set]
                  exact this
                refine u2 G0 H0 Z _ _ G' H2 _ d Rn e2 fun G3 H3 w x3 r3 => ?_
                have hq3 := x3.hh _ _ hq nofun
                have hp3 := x3.hh _ _ hp' nofun
                have gl3 : G3 l = none := x3.none (fr' l (sj1 l fl)).1 (by rw [hq]; simp)
                have lp : l ≠ p := fun z => np (by rw [← z]; exact sj1 l fl)
                have lF : F1 l := sF l (sj1 l fl)
                have hn3 : ∀ a, H3 a ≠ none → upd H3 l (.lst (ws ++ [w])) a ≠ none := fun a h => by
                  by_cases z : a = l
                  · subst z; rw [upd_same]; simp
                  · rw [upd_ne z]; exact h
                refine ⟨l, ws, w, rfl, rfl, hq3, ?_, ?_⟩
                · rw [rq.length]
                  exact Nat.lt_of_lt_of_le (of_decide_eq_true hown) line_big
                · refine ⟨by omega, ⟨some (V.ref l), by rw [List.set_set]⟩, G3, g1.trans x3.gg, ?_, ?_, ?_, ?_, ?_, ?_, x3.none gp' (by rw [hp']; simp), ?_, ?_⟩
                  · intro a q h
                    rw [upd_ne (ne_of_none h gl3)]
                    exact x3.gh _ _ h
                  · refine TC.ti.keep (x3.tb g3) (Same.refl _) (fun a h => upd_ne (fun z => P.ntz l lF (by rw [← z]; exact h))) (fun _ _ g => g)
                  · exact fun a nf h => hn3 a (x3.hn a (g4 a nf h))
                  · intro a h
                    rcases x3.new a h with z | z
                    · exact g5 a z
                    · by_cases fa : F1 a
                      · exact .inr (.inr fa)
                      · cases qa : H a with
                        | none => exact .inr (.inl rfl)
                        | some o => exact absurd z (g4 a fa (by rw [qa]; simp))
                  · intro a o nf q n
                    rw [upd_ne (fun z => nf (by rw [z]; exact lF))]
                    exact x3.hh _ _ (g6 a o nf q n) n
                  · rw [upd_ne (fun z => lp z.symm)]
                    exact hp3
                  · have := kj G3 (upd H3 l (.lst (ws ++ [w]))) (fun a => a = l) (.ow (xs ++ [d])) x3.gg (fun a o fa nf q n => by
                      rw [upd_ne (fun z => nf (by rw [z]; exact fl))]
                      exact x3.hh _ _ q n) (.ow rfl upd_same ((rq.mono x3.gg).append (.cons r3 .nil))) (fun a z => .inl (by rw [z]; exact fl))
                    rw [show Sl.ow (xs ++ [d]) = apS d (.ow xs) from rfl, tkdr hsj] at this
                    exact this.wide fun a z => by
                      rcases z with z | z
                      · exact z.1
                      · subst z; exact sj1 _ fl
                  · exact fun a fa => ⟨x3.none (fr' a fa).1 (fr' a fa).2, hn3 a (x3.hn a (fr' a fa).2)⟩
            | _ => cases hown
          · have ej : j = ss.length := by omega
            refine .inl ⟨⟨vs, SqL.of hp', by omega⟩, ?_⟩
            obtain ⟨s2, es, Rb⟩ := back w0
            rw [ej, List.take_length, List.drop_length, List.append_nil, a2] at es
            cases es
            exact k _ G' H' Rb
    · cases hr
  | _ => cases hr
/-! P.append(n), n a new thing, P a list of own things -/
def sAppPN (i0 : Nat) (rp : Pth) (sx : Sx) : Sm := fun Γ => match gP i0 rp Γ with
  | some (.ol ss) => (sx Γ).bind fun s1 => if ss.length < 1000000 then (Γ[i0]?).bind fun s => (setR rp (.ol (ss ++ [s1])) s).bind fun s' => some (.nx (Γ.set i0 s')) else none
  | _ => none
theorem s_appPN {i0 : Nat} {rp : Pth} {ap : Pos} (hp : PL X o i0 rp) (he : EN X e sx) (hst : starEach [e] X.env = (false, eval e X.env) :: starEach [] X.env := by rfl)
    (hpe : ∀ {r : V → List V → Hp → VK → Prop} {to te : TE}, MtR X "list.append" r → PE X o to → PE X e te → PE X (.Call (.Attribute o "append" ap) [e] [] pos) (tBM X.K "list" r to (tCons te tNil)) := by intro r to te hm ho hp; exact pe_bm PySem.F.plainAttrs_list PySem.F.slot_list_append PySem.F.type_list_append hm ho (pa_cons hp pa_nil))
    (hs : swapsWith (.Call (.Attribute o "append" ap) [e] [] pos) none pos'.line X.env = pure false := by rfl) : S X (.Expr (.Call (.Attribute o "append" ap) [e] [] pos) pos') (sAppPN i0 rp sx) := by
  obtain ⟨t, h1, h2⟩ := he.ex
  obtain ⟨u, u1, u2⟩ := hp.ex
  refine ⟨⟨_, ps_expr (hpe mt_append u1 h1) hs, fun G0 H0 Z Γ σ G H D r R hr k => ?_⟩⟩
  unfold sAppPN at hr
  cases q0 : gP i0 rp Γ with
  | none => rw [q0] at hr; cases hr
  | some s1 =>
  rw [q0] at hr
  cases s1 with
  | ol ss =>
    obtain ⟨sn, e2, hr⟩ := obind hr
    split at hr
    · rename_i hlen
      obtain ⟨s, a1, hr⟩ := obind hr
      obtain ⟨s', a2, hr⟩ := obind hr
      cases hr
      obtain ⟨sq, b1, b2, b3⟩ := gP_some q0 (by simp [SlP])
      rw [a1] at b1
      cases b1
      refine u2 G0 H0 Z Γ σ G H G H _ s _ R (Ext.refl R.gh) a1 b2 b3 (by simp) fun v pk => ?_
      obtain ⟨F1, P⟩ := pk G H (Ext.refl R.gh)
      have hd0 := P.hd
      cases hd0 with
      | @ol p vs _ _ F' fp hp0 np sF rl =>
        refine ⟨.inl ⟨rfl, _, SqL.of hp0⟩, ?_⟩
        refine h2 G0 H0 Z Γ σ G H _ sn R e2 fun G1 H1 w Fw x1 r1 f1 => ?_
        have hp1 := x1.hh _ _ hp0 nofun
        obtain ⟨F1', P1⟩ := pk G1 H1 x1
        have gp : G1 p = none := x1.none (P.fr p fp).1 (by rw [hp0]; simp)
        have wp : ∀ a, Fw a → a ≠ p := fun a fa z => by
          have := (f1 a fa).2.1
          rw [z, hp0] at this
          cases this
        have hn1 : ∀ a, H1 a ≠ none → upd H1 p (.lst (vs ++ [w])) a ≠ none := fun a h => by
          by_cases z : a = p
          · subst z; rw [upd_same]; simp
          · rw [upd_ne z]; exact h
        refine ⟨p, vs, w, rfl, rfl, hp1, ?_, ?_⟩
        · rw [rl.length]; exact Nat.lt_of_lt_of_le hlen line_big
        · have rl1 := rl.mono (H' := H1) x1.gg fun a o _ q n => x1.hh a o q n
          have dj : ∀ a, Fw a → ¬ F' a := fun a y z => (P.fr a (sF a z)).2.2.1 (f1 a y).2.1
          have sn1 := (rl1.snocU r1 dj).mono (H' := upd H1 p (.lst (vs ++ [w]))) (Same.refl _) fun a o h q _ => by
            rw [upd_ne]
            · exact q
            · rcases h with h | h
              · exact fun z => np (by rw [← z]; exact h)
              · exact wp a h
          have := P.upC G1 (upd H1 p (.lst (vs ++ [w]))) (fun a => (F' a ∨ Fw a) ∨ a = p) (.ol (ss ++ [sn])) s' x1.gg (fun a o h => ?_) ?_ (fun a nf h => hn1 a (x1.hn a h)) (fun a h => ?_) (fun a o nf q n => ?_)
            (.ol (F' := fun a => F' a ∨ Fw a) (.inr rfl) upd_same (fun z => by
              rcases z with z | z
              · exact np z
              · exact wp p z rfl) (fun a => .inl) sn1) (fun a y => ?_) (fun _ => rfl) a2
          · exact k _ _ _ this
          · rw [upd_ne (ne_of_none h gp)]
            exact x1.gh _ _ h
          · exact TC.ti.keep (x1.tb R.tbc) (Same.refl _) (fun a h => upd_ne (fun z => P.ntz p fp (by rw [← z]; exact h))) (fun _ _ g => g)
          · rcases x1.new a h with z | z
            · exact .inl z
            · exact .inr (.inl z)
          · rw [upd_ne (fun z => nf (by rw [z]; exact fp))]
            exact x1.hh _ _ q n
          · rcases y with (y | y) | rfl
            · exact ⟨x1.none (P.fr a (sF a y)).1 (P.fr a (sF a y)).2.2.1, hn1 a (x1.hn a (P.fr a (sF a y)).2.2.1), .inl (sF a y)⟩
            · exact ⟨(f1 a y).1, hn1 a (f1 a y).2.2, .inr (f1 a y).2.1⟩
            · exact ⟨gp, by rw [upd_same]; simp, .inl fp⟩
    · cases hr
  | _ => cases hr
end
end DL

/-! DL45: an own exception whose __init__ says super().__init__(f"..") and keeps a field -/
namespace DL
open PySem L2 PySem.Spec PyProof.Rows
abbrev scI : Scope := { kind := .function, names := [("self", .local), ("line", .local), ("__class__", .free), ("super", .globalImplicit)], isGenerator := false, isCoroutine := false, more := [] }
def cxI (P : Program) (w : World) (K : PySem.W.Frag) (mg : Str → Option Value) (base : Heap) (CX : CXT) (qual : Str) (f cdA cc : Addr) (A : Around) (outer : List PySem.Env) (s : Shared) (H : Hp) (E : XK) : Cx where
  prog := P
  w := w
  K := K
  mg := mg
  base := base
  A := A.deeper (PySem.W.ksEnv qual scI s.heap.objs.size f (.ref cdA) cc)
  N := ["self", "line"]
  s_0 := s
  H_0 := H
  env := PySem.W.ksEnv qual scI s.heap.objs.size f (.ref cdA) cc
  outer := outer
  stack := PySem.W.ksEnv qual scI s.heap.objs.size f (.ref cdA) cc :: outer
  ex := []
  fn := fun x => x != "__class__"
  calm := true
  pn := []
  xe := fun e s' => wpAny (model P w) (A.deeper (PySem.W.ksEnv qual scI s.heap.objs.size f (.ref cdA) cc)) (leaving (PySem.W.ksEnv qual scI s.heap.objs.size f (.ref cdA) cc) e) (fun _ s'' => CX outer H s E e s'') (fun e' s'' => CX outer H s E e' s'') s'
section
variable {P : Program} {w : World} {K : PySem.W.Frag} {mg : Str → Option Value} {base : Heap} {CX : CXT} {qual : Str} {f cdA cc : Addr} {A : Around} {outer : List PySem.Env} {s : Shared} {H : Hp} {E : XK}
theorem inv_startI {cl D : Value} {cld : Option Addr} {csl : Array (Option Value)} {u0 u1 : Value} {v0 v1 : V} {h₀ : Heap} {t : Nat} (hd : A.handled = none) (e0 : Env0 P w K mg base A outer s H) (lcc : K.lookup cc = some ⟨cl, cld, .cell (some D), csl⟩)
    (hns : h₀.Ns s.heap.objs.size (fun x => ([("self", u0), ("line", u1)] : List (Str × Value)).reverse.lookup x)) (hk : ∀ b o, s.heap.get? b = some o → h₀.get? b = some o) (r0 : RelV v0 u0) (r1 : RelV v1 u1) :
    Inv (cxI P w K mg base CX qual f cdA cc A outer s H E) [] [some v0, some v1] H { s with heap := h₀, toks := t } := by
  have hcc := e0.bs _ _ (e0.mod.kin _ _ lcc)
  have key : ∀ y c, ([("__class__", cc)] : List (Str × Addr)).lookup y = some c → y = "__class__" ∧ c = cc := fun y c h => by
    rw [List.lookup_cons] at h
    split at h
    · rename_i e
      cases h
      exact ⟨eq_of_beq e, rfl⟩
    · cases h
  refine ⟨⟨e0.mod, rfl, rfl, rfl, Nat.le_refl _, fun y z c h1 h2 => ?_, fun y hy => ?_, fun y c hf h => ?_, fun _ => hd, Around.frames_deeper e0.frames, .inr ⟨rfl, rfl⟩, (fun b z => by cases z), e0.bs, e0.bsz, (fun b _ _ z => by cases z), (fun b z => by cases z), e0.funs, e0.frf⟩,
    rfl, e0.bare, Un.kept hk, ⟨_, hns, fun i y v h1 h2 h3 => ?_⟩, fun y c h => ?_, e0.hok.fresh (Nat.le_refl _), fun y c h => ?_, (fun p hp => by cases hp), e0.hok.kept hk, rfl⟩
  · exact (key y c h1).1.trans (key z c h2).1.symm
  · refine ⟨cc, ?_⟩
    have hy : scI.names.lookup y = some .cell ∨ scI.names.lookup y = some .free := hy
    have : y = "__class__" := by
      simp only [scI, List.lookup_cons, List.lookup_nil] at hy
      split at hy
      · simp at hy
      · split at hy
        · simp at hy
        · split at hy
          · rename_i e; exact eq_of_beq e
          · split at hy
            · simp at hy
            · simp at hy
    subst this
    rfl
  · have := (key y c h).1
    subst this
    exact absurd hf (show ¬ (((("__class__" : Str) != "__class__") = true)) by decide)
  · match i, h1, h2 with
    | 0, h1, h2 => cases h1; cases h2; exact ⟨u0, r0, .inl ⟨rfl, rfl⟩⟩
    | 1, h1, h2 => cases h1; cases h2; exact ⟨u1, r1, .inl ⟨rfl, rfl⟩⟩
  · obtain ⟨rfl, rfl⟩ := key y c h
    exact ⟨_, _, hk _ _ hcc.1, rfl⟩
  · obtain ⟨rfl, rfl⟩ := key y c h
    exact hcc.2
end
section
variable {prog : Program} {w : World} {A : Around} {E : Value → Shared → Prop} {s : Shared} {base : Heap} {L : Addr} {m mg : Str → Option Value} {K : PySem.W.Frag} {x C D f cc cda : Addr} {ox : Obj} {odx : Option Obj}
/-- super() in a method that closes over __class__ -/
theorem super_node {body : List Stmt} {q : Str} {scope : Scope} {p0 p1 : Pos} {attr : Str} {whole : Sem Value} {fd : FuncData} {ar : Arg} {vs : Array Value} {file : Str} {tf : Tok} {oc ccl cl : Value} {od cdd cld : Option Addr} {osl ccs csl : Array (Option Value)} {cdD : ClassData} {Q : Value → Shared → Prop}
    (M : Mod K mg base) (F : Fr base L s.heap m)
    (hf : K.lookup f = some ⟨oc, od, .func fd, osl⟩) (hp : (fd.params.posonlyargs ++ fd.params.args).head? = some ar) (hv : m ar.arg = some (.ref x)) (I : PySem.W.InstAt s.heap x ox C odx)
    (hcode : K.lookup cda = some ⟨ccl, cdd, .fields vs, ccs⟩) (hvs : vs[2]? = some (.str file tf)) (hfile : ((prog.main.file : Str) == file) = true)
    (hcell : K.lookup cc = some ⟨cl, cld, .cell (some (.ref D)), csl⟩) (hD : PySem.W.clsIn K D = some cdD) (hsub : PySem.W.mroIn K C (.ref D) = some true) (hsuper : mg "super" = none)
    (hat : (attr == ("__class__" : Str)) = false) (hks : scope.names.lookup ("super" : Str) = some .globalImplicit) (hkc : scope.names.lookup ("__class__" : Str) = some .free) (hka : scope.names.lookup ar.arg = some .local) (hk : scope.kind = .function)
    (htop : (prog.main.scope.names.lookup ("super" : Str)).isSome = false) (hboot : bootBuiltins "super" = some (.type "super"))
    (h : ∀ so h', h'.get? so = some (PySem.W.ks_superObj D x C) → (∀ y o, s.heap.get? y = some o → h'.get? y = some o) → Q (.ref so) { s with heap := h' }) :
    _root_.PySem.wpAt (model prog w) A (.func body (PySem.W.ksEnv q scope L f (.ref cda) cc)) (attributeBase (.Call (.Name "super" p0) [] [] p1) attr (PySem.W.ksEnv q scope L f (.ref cda) cc) whole) Q E s := by
  have X : K.In s.heap := M.kin.keeps F.keep
  obtain ⟨mb, hb1, hb2⟩ := M.blt
  obtain ⟨hh, g, d, t, os⟩ := s
  obtain ⟨oD, hD1, hD2⟩ : ∃ oD, hh.get? D = some oD ∧ oD.data = .cls cdD := by
    unfold PySem.W.clsIn at hD
    split at hD
    · rename_i c d cd' sl ho
      cases hD
      exact ⟨_, X _ _ ho, rfl⟩
    · cases hD
  refine ks_wpAt_super_base (env := PySem.W.ksEnv q scope L f (.ref cda) cc) hks hkc hat rfl (X _ _ hf) rfl hp rfl (X _ _ hcode) rfl hvs hfile htop ?_
  refine PySem.W.ks_loadName_global hk hks (Calls.loadGlobal_builtin (env := PySem.W.ksEnv q scope L f (.ref cda) cc) (M.glob.keeps F.keep) hsuper (hb1.keeps F.keep) ((hb2 _ (by decide +kernel)).trans hboot) ⟨rfl, ?_⟩)
  refine wpAny_loadName_free hk hkc rfl ⟨_, X _ _ hcell, rfl⟩ ?_
  refine wpAny_loadName_local hk hka F.ns hv ?_
  refine ks_wpAny_isType_cls hD1 hD2 ⟨rfl, ?_⟩
  refine ks_wpAny_call_super hD1 hD2 I.at_ I.cls (fun c e => ?_) (PySem.W.looks_mroIn X hsub) (fun h' e k => ?_)
  · have := I.no
    unfold PySem.W.notCls at this
    rw [e] at this
    exact Bool.noConfusion this
  · exact h _ _ e k
/-- the bound ValueError.__init__ called -/
theorem call_mw {nm q : Str} {N : Addr} {bs bm : List Value} {hdct : Bool} {sn : List Str} {sub : List Value} {ab : Bool} {col : Option Bool} {dd : Option Addr} {k0 k1 k2 k3 k5 : Option Value} {h : Heap} {g : Array GenState} {d : Drawn} {t : Nat} {os : OsState}
    {u e t0 : Addr} {rest : List Value} {Q : Value → Shared → Prop}
    (hC : h.get? C = some (excClassObj nm q C N bs bm hdct sn sub ab col dd k0 k1 k2 k3 k5 "ValueError.__new__")) (he : h.get? e = some (PySem.HandSPX.excO C t0)) (hu : h.get? u = some (PySem.W.kxs_mw "ValueError.__init__" e)) (hrest : rest.length ≤ sizeLine)
    (hq : ∀ h' t1, (∀ b o, b ≠ e → h.get? b = some o → h'.get? b = some o) → h'.get? e = some (PySem.HandSPX.excO C t1) → Q .none ⟨h', g, d, t, os⟩) :
    wpAny (model prog w) A (call (.ref u) rest) Q E ⟨h, g, d, t, os⟩ := by
  refine wpAny_call (codeAny_of_tree ?_)
  show wpAny _ A.in1 (callAny (.ref u) ⟨rest, []⟩) _ _ _
  simp only [callAny]
  refine wpAny_bind (wpAny_load hu ?_)
  simp only [PySem.W.kxs_mw, show (Value.type "method-wrapper" == Value.type "method" || Value.type "method-wrapper" == Value.type "builtin_function_or_method" || Value.type "method-wrapper" == Value.type "method-wrapper") = true by decide, if_true]
  refine PySem.W.KFB.if_so (by decide) ?_
  refine wpAny_bind (PySem.W.check_bound_init F.excBase_ValueError.toExcCallFacts hC he rfl ?_)
  refine wpAny_bind (wpAny_pure (wpAny_pure ?_))
  refine ⟨Code.quiet_builtin _ (by decide +kernel), codeAny_builtin F.excBase_ValueError.initEntry ?_⟩
  rw [Around.under_plainId F.excBase_ValueError.init.plain _]
  wp_walk
  refine hq _ h.objs.size (fun b o hb ho => ?_) ?_
  · rw [Heap.get?_update_other _ _ (Ne.symm hb)]
    exact Heap.get?_push_of_some _ ho
  · rw [Heap.get?_update_self _ (Heap.get?_push_of_some _ he) rfl]
    rfl
end
abbrev bodyI (p0 p1 p2 p3 p4 p5 p6 p7 p8 q0 q1 q2 q3 q4 : Pos) : List Stmt :=
  [.Expr (.Call (.Attribute (.Call (.Name "super" p0) [] [] p1) "__init__" p2) [.JoinedStr [.Constant (.str "line ") 0 q0, .FormattedValue (.Name "line" q1) (-1) none q2, .Constant (.str " cannot stand there") 0 q3] q4] [] p3) p4,
   .Assign [.Attribute (.Name "self" p5) "line" p6] (.Name "line" p7) p8]
section
variable [TC : TabCtx]
/-- a new exception is given its text and its field -/
def spIp (C : Addr) : Sp := fun vs H Q _ => ∃ (a : Addr) (n : Int) (G : Hp), vs = [.ref a, .int n] ∧ (∃ tx, dFmt (.int n) = some (.str tx) ∧ tx.length < 900000) ∧ H a = some (exo a C none) ∧ Same G H ∧ TC.ti.t G H ∧ G a = none ∧
  ∀ G' H2 d, Same G G' → Same G' H2 → TC.ti.t G' H2 → (∀ b o, b ≠ a → H b = some o → NT o → H2 b = some o) → (∀ b, H b ≠ none → H2 b ≠ none) → (∀ b, G' b ≠ none → G b ≠ none ∨ H b = none) → H d = none → G' d = none → H2 a = some (exo a C (some d)) → H2 d = some (exd d [("line", .int n)]) → Q .non H2
theorem ip_fn {P : Program} {w : World} {K : PySem.W.Frag} {mg : Str → Option Value} {base : Heap} {CX : CXT} {name qual : Str} {f cdA cc C : Addr} {params : Arguments} {p0 p1 p2 p3 p4 p5 p6 p7 p8 q0 q1 q2 q3 q4 : Pos}
    {dV kV doc pm ct oc cl ccl : Value} {an od cld cdd : Option Addr} {osl csl ccs : Array (Option Value)} {vs : Array Value} {file : Str} {tf : Tok} {ar : Arg}
    (T : OexC K C) (lk : K.lookup f = some ⟨oc, od, .func (PySem.W.ksFn name qual params (bodyI p0 p1 p2 p3 p4 p5 p6 p7 p8 q0 q1 q2 q3 q4) scI dV kV doc pm an (.ref cdA) ct cc), osl⟩) (hcd : PySem.W.codeIn K (.ref cdA) qual = true)
    (hp : (params.posonlyargs ++ params.args).head? = some ar) (har : ar.arg = "self") (hcode : K.lookup cdA = some ⟨ccl, cdd, .fields vs, ccs⟩) (hvs : vs[2]? = some (.str file tf)) (hfile : ((P.main.file : Str) == file) = true)
    (htop : (P.main.scope.names.lookup ("super" : Str)).isSome = false) (lcc : K.lookup cc = some ⟨cl, cld, .cell (some (.ref C)), csl⟩) (hm : PySem.W.mroIn K C (.ref C) = some true) (hno : PySem.W.nsIn K cStatics "thirdparty.any" = some none)
    (hsi : PySem.W.ks_superIn K C C "__init__" = some (some (.builtin "ValueError.__init__"))) (hVE : PySem.W.subIn K (.ref C) (.type "ValueError") = some true) (hln : PySem.W.findIn K (.ref C) "line" = some none) (hsup : mg "super" = none) (hboot : bootBuiltins "super" = some (.type "super")) {pl : PySem.Env → Sem Bool}
    (he : ∀ env : PySem.Env, eval (.Call (.Attribute (.Call (.Name "super" p0) [] [] p1) "__init__" p2) [.JoinedStr [.Constant (.str "line ") 0 q0, .FormattedValue (.Name "line" q1) (-1) none q2, .Constant (.str " cannot stand there") 0 q3] q4] [] p3) env = (do
      let ov ← attributeBase (.Call (.Name "super" p0) [] [] p1) "__init__" env (eval (.Call (.Name "super" p0) [] [] p1) env)
      standAt p2.atName
      let (f, first) ← holding [ov] (getMethod ov "__init__" (pl env))
      callWith p3 f first (backTo p3 (starEach [.JoinedStr [.Constant (.str "line ") 0 q0, .FormattedValue (.Name "line" q1) (-1) none q2, .Constant (.str " cannot stand there") 0 q3] q4] env)) [])) :
    FnOk P w K mg base CX 1 f (PySem.W.ksFn name qual params (bodyI p0 p1 p2 p3 p4 p5 p6 p7 p8 q0 q1 q2 q3 q4) scI dV kV doc pm an (.ref cdA) ct cc) ["self", "line"] (spIp C) := by
  refine ⟨fun vs H Q E h => ?_, fun A outer s H args us vs0 Q E hr e0 hb r hsp => ?_⟩
  · obtain ⟨a, n, G, rfl, _⟩ := h
    rfl
  obtain ⟨a, n, G, rfl, ⟨tx, hn, htx⟩, ha, gh, tg, ga, k⟩ := hsp
  cases r with
  | @cons _ u0 _ ur r0 r =>
  cases r with
  | @cons _ u1 _ ur2 r1 r =>
  cases r
  have KX : K.In s.heap := e0.mod.kin.keeps fun b o e => (e0.bs b o e).1
  have lim : s.heap.NoLimit := e0.mod.nolimit.keeps fun b o e => (e0.bs b o e).1
  obtain ⟨nm, q, N, bs, bm, sn, sub, ab, col, dd, k0, k1, k2, k3, k5, hC, hbm⟩ := T.cls
  refine ks_codeAny_call_defAt (binds := [("self", u0), ("line", u1)]) hr.depth (KX _ _ lk) rfl lim (PySem.W.codeRec_of KX hcd) rfl hb (show ∀ x ∈ scI.names, x.2 ≠ .cell by decide) ?_ (fun h₀ hns hk => ?_) rfl rfl rfl
  · intro x hx
    simp only [List.mem_cons, List.not_mem_nil, or_false] at hx
    rcases hx with rfl | rfl <;> rfl
  have I0 : Inv (cxI P w K mg base CX qual f cdA cc A outer s H E) [] [some (.ref a), some (.int n)] H { s with heap := h₀, toks := s.toks + 2 } := inv_startI hr.hd e0 lcc hns hk r0 r1
  obtain rfl : u0 = Value.ref a := r0
  refine ks_wpAt_execs_cons (ks_wpAt_Expr_any (ks_wpAt_MethodCall (pl := pl _) ?_ (he _)))
  obtain ⟨t1, ho⟩ := exo_at I0.hok ha
  have IA : PySem.W.InstAt h₀ a _ C none := ⟨ho, rfl, rfl, trivial⟩
  have hcl : PySem.W.clsIn K C = some { name := nm, bases := bs, mro := .ref C :: bm, ns := N, qualname := q, hasDict := true, slotNames := sn, subclasses := sub, abstract := ab, collection := col, hasDel := false } := by unfold PySem.W.clsIn; rw [hC] <;> rfl
  refine super_node e0.mod (m := fun x => ([("self", Value.ref a), ("line", u1)] : List (Str × Value)).reverse.lookup x) ⟨hns, fun b o e => hk b o (e0.bs b o e).1, e0.bsz⟩ lk hp (by rw [har]; rfl) IA hcode hvs hfile lcc hcl hm hsup rfl rfl rfl (by rw [har]; rfl) rfl htop hboot fun so h' hso hk' => ?_
  have I1 : Inv (cxI P w K mg base CX qual f cdA cc A outer s H E) [] [some (.ref a), some (.int n)] H { s with heap := h', toks := s.toks + 2 } := I0.kept hk'
  have IB : PySem.W.InstAt h' a _ C none := ⟨hk' _ _ ho, rfl, rfl, trivial⟩
  unfold PySem.W.ks_superIn at hsi
  rw [hcl] at hsi
  refine PySem.W.kxs_getMethod PySem.W.kxs_ValueError hso (PySem.W.looks_opaque I1.kIn hno) (l₀ := .ref C :: bm) ?_ rfl I1.kIn hsi (IB.type.andThen (PySem.W.looks_subIn I1.kIn hVE)) (PySem.W.ks_ne I1.kIn IB hcl) rfl ?_
  · exact fun A Q E s k q => wpAny_bind ((PySem.W.looks_clsIn I1.kIn hcl) A _ E s k (wpAny_pure q))
  have hu : (h'.push (PySem.W.kxs_mw "ValueError.__init__" a)).get? h'.objs.size = some (PySem.W.kxs_mw "ValueError.__init__" a) := Heap.get?_push_at rfl rfl
  have I2 : Inv (cxI P w K mg base CX qual f cdA cc A outer s H E) [] [some (.ref a), some (.int n)] H { s with heap := h'.push (PySem.W.kxs_mw "ValueError.__init__" a), toks := s.toks + 2 + 1 } := I1.kept fun b o e => Heap.get?_push_of_some _ e
  have I3 : Inv (cxI P w K mg base CX qual f cdA cc A outer s H E) [(h'.objs.size, PySem.W.kxs_mw "ValueError.__init__" a)] [some (.ref a), some (.int n)] H { s with heap := h'.push (PySem.W.kxs_mw "ValueError.__init__" a), toks := s.toks + 2 + 1 } := I2.pins_of fun p hp => by
    cases List.mem_singleton.mp hp
    refine ⟨hu, I1.hok.fresh (Nat.le_refl _), ?_, I1.nofs (Nat.le_refl _), fun v z => by cases z⟩
    exact Nat.ne_of_gt I1.lt
  obtain ⟨te, e1, e2⟩ := (e_js (ej_cons e_str (ej_cons (e_fmt (e_var 1)) (ej_cons e_str ej_nil))) : DL.E (cxI P w K mg base CX qual f cdA cc A outer s H E) (.JoinedStr [.Constant (.str "line ") 0 q0, .FormattedValue (.Name "line" q1) (-1) none q2, .Constant (.str " cannot stand there") 0 q3] q4) _).ex
  have R : Rel K mg G H ⟨TC.ti.tz, none, TC.ti⟩ [.no, .sh (.int n)] [some (.ref a), some (.int n)] G H := by
    refine ⟨rfl, gh, fun _ _ h _ => h, Same.refl _, fun a h => .inl h, fun a z => (TC.ti.live tg a z).1, (fun v s' e _ _ => by cases e), tg, fun _ h => h, rfl, fun _ h => h, fun _ _ => False, (fun _ _ z => z.elim), (fun _ _ _ z => z.elim), fun i s' h => ?_⟩
    match i, h with
    | 0, h => cases h; exact .inl rfl
    | 1, h => cases h; exact .inr (.inl ⟨_, rfl, .sh (.int n)⟩)
  have hf : gJs (aC (gC (.str "line ")) (aC (gU dFmt (gV 1)) (aC (gC (.str " cannot stand there")) aN))) [.no, .sh (.int n)] = some (.str (([("line " : Str), tx, (" cannot stand there" : Str)] : List Str).foldl (· ++ ·) Str.empty)) := by
    unfold gJs
    rw [show (aC (gC (.str "line ")) (aC (gU dFmt (gV 1)) (aC (gC (.str " cannot stand there")) aN))) [.no, .sh (.int n)] = some [.str "line ", .str tx, .str " cannot stand there"] from ?_]
    · show (if totS [("line " : Str), tx, (" cannot stand there" : Str)] < 1000000 then _ else none) = _
      rw [if_pos]
      show ("line " : Str).length + (tx.length + ((" cannot stand there" : Str).length + 0)) < 1000000
      have h1 : ("line " : Str).length = 5 := by decide +kernel
      have h2 : (" cannot stand there" : Str).length = 19 := by decide +kernel
      omega
    · have e : gU dFmt (gV 1) [.no, .sh (.int n)] = some (.str tx) := hn
      show ((gC (.str "line ") _).bind fun d => ((gU dFmt (gV 1) [.no, .sh (.int n)]).bind fun d1 => _).bind fun ds => some (d :: ds)) = _
      rw [e]
      rfl
  have kP : PA (cxI P w K mg base CX qual f cdA cc A outer s H E) [.JoinedStr [.Constant (.str "line ") 0 q0, .FormattedValue (.Name "line" q1) (-1) none q2, .Constant (.str " cannot stand there") 0 q3] q4] (tCons te tNil) := pa_cons e1 pa_nil
  refine PySem.W.kxs_callWith (i := "ValueError.__init__") (x := a) rfl (Calls.evalArgs_plain ?_)
  refine thn (kP.run p3 _ _ _ H (fun ws H1 => ∃ y G1, ws = [y] ∧ Ext G H G1 H1) I3 (e2 G H _ _ _ G H _ _ R hf fun G1 H1 v x1 _ => ⟨v, G1, rfl, x1⟩)) fun us s1 hres => ?_
  obtain ⟨ws, H1, J, rws, y, G1, rfl, x1⟩ := hres
  have ha1 := x1.hh _ _ ha nofun
  obtain ⟨t2, ho1⟩ := exo_at J.hok ha1
  have hu1 := (J.pin (h'.objs.size, PySem.W.kxs_mw "ValueError.__init__" a) (by simp)).1
  refine ⟨hu1, ?_⟩
  obtain ⟨hp1, g1, d1, tk1, os1⟩ := s1
  cases rws with
  | @cons _ z0 _ zr rz rz2 =>
  cases rz2
  refine call_mw (J.kIn _ _ hC) ho1 hu1 (Nat.le_trans (by show 1 ≤ 1000; omega) (Nat.le_of_lt (small1000 (Nat.le_refl _)))) fun h'' t3 kk hx => ?_
  have J2 := J.write (t' := tk1) (x := a) (e := a) (o := exo a C none) (by rw [ha1]; exact True.intro) (.inl rfl) kk ⟨_, hx⟩ (exo_ok hx)
  have eu : upd H1 a (exo a C none) = H1 := by
    funext b
    by_cases hb : b = a
    · rw [hb, upd_same, ha1]
    · rw [upd_ne hb]
  rw [eu] at J2
  show _root_.PySem.wpAt _ _ _ (execs [_] _) _ _ _
  have PS2 : PSs (cxI P w K mg base CX qual f cdA cc A outer s H E) [.Assign [.Attribute (.Name "self" p5) "line" p6] (.Name "line" p7) p8] _ := pss_one (ps_ost (pe_var (i := 0) rfl (Or.inl rfl) (by decide) (by decide)) (pe_var (i := 1) rfl (Or.inl rfl) (by decide) (by decide)))
  refine _root_.PySem.wpAt_of_wpAny (wpAny_mono (PS2.run _ _ _ H1 { nx := fun _ H' => Q .non H', rt := Q, bk := fun _ _ => False, ct := fun _ _ => False } J2 ?_) (fun fl s' hs => ?_) fun _ _ x => x)
  · refine ⟨V.int n, rfl, ?_⟩
    refine ⟨V.ref a, rfl, a, C, rfl, T, hln, .inl ⟨ha1, fun dx hdx hne => ?_⟩⟩
    have ga1 : G1 a = none := x1.none ga (by rw [ha]; simp)
    have gdx : G1 dx = none := x1.gh.free hdx
    have up : ∀ b o, b ≠ a → H1 b = some o → upd (upd H1 dx (exd dx [("line", V.int n)])) a (exo a C (some dx)) b = some o := fun b o h1 h2 => by
      rw [upd_ne h1, upd_ne (ne_of_none h2 hdx)]; exact h2
    refine k G1 _ dx x1.gg (fun b o h => up b o (fun z => by rw [z, ga1] at h; cases h) (x1.gh _ _ h)) ?_ (fun b o h1 h2 h3 => up b o h1 (x1.hh _ _ h2 h3)) (fun b h => ?_) x1.new (x1.hf hdx) gdx upd_same (by rw [upd_ne hne, upd_same])
    · refine TC.ti.keep (x1.tb tg) (Same.refl _) (fun b h => ?_) (fun _ _ g => g)
      have l1 := (TC.ti.live (x1.tb tg) b h).1
      rw [upd_ne (fun z => ?_), upd_ne (fun z => l1 (by rw [z]; exact hdx))]
      obtain ⟨ps, hp2⟩ := TC.ti.tbl (x1.tb tg) b h
      rw [z, ha1] at hp2
      cases hp2
    · by_cases z : b = a
      · rw [z, upd_same]; simp
      · rw [upd_ne z]
        by_cases z2 : b = dx
        · rw [z2, upd_same]; simp
        · rw [upd_ne z2]; exact x1.hn b h
  · have fin : ∀ {pn : List (Addr × Obj)} {σ' : L2.St} {H' : Hp} {v : V} {u : Value}, Inv (cxI P w K mg base CX qual f cdA cc A outer s H E) pn σ' H' s' → RelV v u → Q v H' → CE outer P w H s Q u s' :=
      fun {pn σ' H' v u} J rv q => ⟨v, H', J.os, J.bare, J.base, J.hok, rv, q⟩
    cases fl with
    | ret u =>
      obtain ⟨v, σ', H', J, rv, q⟩ := hs
      exact fin J rv q
    | next =>
      obtain ⟨σ', H', J, q⟩ := hs
      exact fin (v := V.non) (u := Value.none) J rfl q
    | brk =>
      obtain ⟨_, _, _, q⟩ := hs
      exact False.elim q
    | cont =>
      obtain ⟨_, _, _, q⟩ := hs
      exact False.elim q
end
end DL

/-! DL46: defs that raise InvalidPaper(n) -/
namespace DL
open PySem L2
variable [TC : TabCtx]
section
variable {K : PySem.W.Frag} {mg : Str → Option Value} {G0 H0 : Hp} {Z : Zs} {Γ : DEnv} {σ : L2.St} {G H G' H' : Hp}
/-- .. when nothing of the slots is wanted any more -/
theorem Rel.nosUp (R : Rel K mg G0 H0 Z Γ σ G H) {Fp : Addr → Prop} (fr : ∀ a, Fp a → H0 a = none ∧ ¬ Z.z a) (sg : Same G G') (gh : Same G' H') (t : TC.ti.t G' H') (hn : ∀ a, ¬ Fp a → H a ≠ none → H' a ≠ none)
    (nw : ∀ a, G' a ≠ none → G a ≠ none ∨ H a = none ∨ Fp a) (kp : ∀ a o, ¬ Fp a → H a = some o → NT o → H' a = some o) (σ' : L2.St) : Rel K mg G0 H0 Z (List.replicate σ'.length .no) σ' G' H' := by
  have nF : ∀ a, H0 a ≠ none → ¬ Fp a := fun a h f => h (fr a f).1
  refine ⟨by simp, gh, fun a o h n => ?_, R.gg.trans sg, fun a h => ?_, fun a z => hn a (fun f => (fr a f).2 z) (R.zz a z), fun v s' _ e2 e3 => ?_, by rw [R.tc]; exact t, R.tz, R.tc, fun a h => hn a (nF a h) (R.hn a h), fun _ _ => False, (fun _ _ z => z.elim), (fun _ _ _ z => z.elim), fun i s h => ?_⟩
  · exact kp a o (nF a (by rw [h]; simp)) (R.hh a o h n) n
  · rcases nw a h with z | z | z
    · exact R.new a z
    · exact .inr (R.hf z)
    · exact .inr (fr a z).1
  · rw [List.getElem?_replicate] at e2
    split at e2
    · cases e2; cases e3
    · cases e2
  · rw [List.getElem?_replicate] at h
    split at h
    · cases h; exact .inl rfl
    · cases h
theorem Rel.nos (R : Rel K mg G0 H0 Z Γ σ G H) (σ' : L2.St) : Rel K mg G0 H0 Z (List.replicate σ'.length .no) σ' G H :=
  R.nosUp (Fp := fun _ => False) (fun _ z => z.elim) (Same.refl _) R.gh R.tbc (fun _ _ h => h) (fun _ h => .inl h) (fun _ _ _ h _ => h) σ'
end
/-! expressions that may raise -/
abbrev Mr := DEnv → Option ((D × DEnv) ⊕ Int)
def MFin (X : Cx) (G0 H0 : Hp) (Z : Zs) (σ : L2.St) (Q : VK) : (D × DEnv) ⊕ Int → Prop
  | .inl p => ∀ G' H' v, Rel X.K X.mg G0 H0 Z p.2 σ G' H' → Rep X.K X.mg G' v p.1 → Q v H'
  | .inr n => RaiseOk X G0 H0 Z n
structure MR (X : Cx) (e : Expr) (f : Mr) : Prop where
  ex : ∃ t, PE X e t ∧ ∀ G0 H0 Z Γ σ G H Q r, Rel X.K X.mg G0 H0 Z Γ σ G H → f Γ = some r → MFin X G0 H0 Z σ Q r → t σ H Q
def mThen (m : Mr) (k : D → DEnv → Option (D × DEnv)) : Mr := fun Γ => (m Γ).bind fun r => match r with
  | .inl p => (k p.1 p.2).bind fun q => some (.inl q)
  | .inr n => some (.inr n)
def mSt (m : Mr) (k : D → DEnv → Option Res) : Sm := fun Γ => (m Γ).bind fun r => match r with
  | .inl p => k p.1 p.2
  | .inr n => some (.ra n)
def mU (q : D → Option D) (m : Mr) : Mr := mThen m fun d Γ1 => (q d).bind fun y => some (y, Γ1)
def mFn (S : List D → Option D) (m : Mr) (fs : Ag) : Mr := mThen m fun d Γ1 => (fs Γ1).bind fun ds => (S (d :: ds)).bind fun y => some (y, Γ1)
def mEm (m : Mx) : Mr := fun Γ => (m Γ).bind fun p => some (.inl p)
theorem mThen_some {m : Mr} {k : D → DEnv → Option (D × DEnv)} {Γ : DEnv} {r : (D × DEnv) ⊕ Int} (h : mThen m k Γ = some r) : (∃ d Γ1 q, m Γ = some (.inl (d, Γ1)) ∧ k d Γ1 = some q ∧ r = .inl q) ∨ ∃ n, m Γ = some (.inr n) ∧ r = .inr n := by
  obtain ⟨r1, e1, h⟩ := obind h
  cases r1 with
  | inl p =>
    obtain ⟨q, e2, h⟩ := obind h
    cases h
    exact .inl ⟨p.1, p.2, q, e1, e2, rfl⟩
  | inr n => cases h; exact .inr ⟨n, e1, rfl⟩
theorem mSt_some {m : Mr} {k : D → DEnv → Option Res} {Γ : DEnv} {r : Res} (h : mSt m k Γ = some r) : (∃ d Γ1, m Γ = some (.inl (d, Γ1)) ∧ k d Γ1 = some r) ∨ ∃ n, m Γ = some (.inr n) ∧ r = .ra n := by
  obtain ⟨r1, e1, h⟩ := obind h
  cases r1 with
  | inl p => exact .inl ⟨p.1, p.2, e1, h⟩
  | inr n => cases h; exact .inr ⟨n, e1, rfl⟩
section
variable {X : Cx} {e a b o : Expr} {es : List Expr} {f g : Ex} {fs : Ag} {mx : Mx} {mr : Mr} {pos pos' : Pos} {n : Nat}
theorem mr_em (h : EM X e mx) : MR X e (mEm mx) := by
  obtain ⟨t, h1, h2⟩ := h.ex
  refine ⟨⟨t, h1, fun G0 H0 Z Γ σ G H Q r R hf k => ?_⟩⟩
  obtain ⟨p, e1, hf⟩ := obind hf
  cases hf
  exact h2 G0 H0 Z Γ σ G H Q p.1 p.2 R e1 k
/-- T(the call), T a type -/
theorem mr_cty {id : String} {x : Str} {p : Pos} {q : D → Option D} (hc : CbB X (.type id) q) (hg : Gl X x) (hm : X.mg x = none) (hv : bootBuiltins x = some (.type id)) (ha : MR X a mr) (hn : x ≠ "__name__" := by decide) (hdb : (x == ("__debug__" : Str)) = false := by decide)
    (he : starEach [a] X.env = (false, eval a X.env) :: starEach [] X.env := by rfl) (hpl : (backTo pos (starEach [] X.env)).any (·.1) = false := by rfl) : MR X (.Call (.Name x p) [a] [] pos) (mU q mr) := by
  obtain ⟨r, c1, c2⟩ := hc
  obtain ⟨t, h1, h2⟩ := ha.ex
  refine ⟨⟨_, pe_callTy c1 hg hm hv (pa_cons h1 pa_nil he) hn hdb he hpl, fun G0 H0 Z Γ σ G H Q r R hf k => ?_⟩⟩
  rcases mThen_some hf with ⟨d, Γ1, q1, e1, e2, rfl⟩ | ⟨n, e1, rfl⟩
  · obtain ⟨y, e3, e2⟩ := obind e2
    cases e2
    exact h2 G0 H0 Z Γ σ G H _ _ R e1 fun G1 H1 v R1 r1 => c2 d y v G1 H1 Q R1.gh e3 (.sh r1) fun G2 H2 u x2 r2 => k G2 H2 u (R1.ext x2) r2
  · exact h2 G0 H0 Z Γ σ G H _ _ R e1 k
/-- a def whose first argument is the call -/
theorem mr_fn {k L : Nat} {ps : List Str} {S : List D → Option D} {x : Str} {p : Pos} (c : Cal X.prog X.w X.K X.mg X.base x L ps S) (hr : Room k X.A) (hk : L ≤ k)
    (hm : MR X a mr) (ha : AN X es n fs) (hn : ps.length = n + 1 := by rfl) (hg : Gl X x := by rfl) (hdb : (x == ("__debug__" : Str)) = false := by decide) (he : starEach (a :: es) X.env = (false, eval a X.env) :: starEach es X.env := by rfl) (hpl : (backTo pos (starEach es X.env)).any (·.1) = false := by rfl) :
    MR X (.Call (.Name x p) (a :: es) [] pos) (mFn S mr fs) := by
  obtain ⟨f, fd, FO, hmg, hki, hb⟩ := c.ex
  obtain ⟨t, h1, h2⟩ := hm.ex
  obtain ⟨u, q1, q2⟩ := ha.a.ex
  refine ⟨⟨_, pe_call FO (hr.mono hk) hg hmg hki hb .nil pass0 (pa_cons h1 q1 he) hdb he hpl, fun G0 H0 Z Γ σ G H Q r R hf k => ?_⟩⟩
  rcases mThen_some hf with ⟨y, Γ1, q1, e1, e2, rfl⟩ | ⟨n, e1, rfl⟩
  · obtain ⟨ds, e3, e2⟩ := obind e2
    obtain ⟨d', e4, e2⟩ := obind e2
    cases e2
    refine h2 G0 H0 Z Γ σ G H _ _ R e1 fun G1 H1 v R1 r1 => ?_
    refine q2 G0 H0 Z Γ1 σ G1 H1 _ _ R1 e3 fun G2 H2 vs x2 r2 => ?_
    refine ⟨G2, y :: ds, d', ?_, x2.gh, (R1.ext x2).tbc, ?_, e4, fun G' H' w x3 r3 => k G' H' w ((R1.ext x2).ext x3) r3⟩
    · rw [List.append_nil, List.length_cons, r2.length, ha.n _ ds e3, hn]
    · rw [List.append_nil]; exact .cons (r1.mono x2.gg) r2
  · exact h2 G0 H0 Z Γ σ G H _ _ R e1 k
/-! statements -/
theorem s_exprR (he : MR X e mr) (hs : swapsWith e none pos.line X.env = pure false := by rfl) : DL.S X (.Expr e pos) (mSt mr fun _ Γ1 => some (.nx Γ1)) := by
  obtain ⟨t, h1, h2⟩ := he.ex
  refine ⟨⟨_, ps_expr h1 hs, fun G0 H0 Z Γ σ G H D r R hf k => ?_⟩⟩
  rcases mSt_some hf with ⟨d, Γ1, e1, e2⟩ | ⟨n, e1, rfl⟩
  · cases e2
    exact h2 G0 H0 Z Γ σ G H _ _ R e1 fun G1 H1 v R1 r1 => k σ G1 H1 R1
  · exact h2 G0 H0 Z Γ σ G H _ _ R e1 k
theorem s_setR (j : Nat) {x : Str} (hN : X.N.Nodup) (he : MR X e mr) (hi : X.N[j]? = some x := by rfl) (hx : Loc X.env.scope x := by first | exact Or.inl rfl | exact Or.inr rfl) (hs : swapsWith e (some (.Name x pos')) pos.line X.env = pure false := by rfl)
    (hf : X.fn x = true ∨ X.env.scope.names.lookup x = some .local := by first | exact .inl rfl | exact .inr rfl | assumption) : DL.S X (.Assign [.Name x pos'] e pos) (mSt mr fun d Γ1 => some (.nx (Γ1.set j (.sh d)))) := by
  obtain ⟨t, h1, h2⟩ := he.ex
  refine ⟨⟨_, ps_set hN hi hx h1 hs hf, fun G0 H0 Z Γ σ G H D r R hf k => ?_⟩⟩
  rcases mSt_some hf with ⟨d, Γ1, e1, e2⟩ | ⟨n, e1, rfl⟩
  · cases e2
    exact h2 G0 H0 Z Γ σ G H _ _ R e1 fun G1 H1 v R1 r1 => k _ G1 H1 (R1.set j r1)
  · exact h2 G0 H0 Z Γ σ G H _ _ R e1 k
theorem s_retR (he : MR X e mr) : DL.S X (.Return (some e) pos) (mSt mr fun d _ => some (.rt d)) := by
  obtain ⟨t, h1, h2⟩ := he.ex
  refine ⟨⟨_, ps_ret h1, fun G0 H0 Z Γ σ G H D r R hf k => ?_⟩⟩
  rcases mSt_some hf with ⟨d, Γ1, e1, e2⟩ | ⟨n, e1, rfl⟩
  · cases e2
    exact h2 G0 H0 Z Γ σ G H _ _ R e1 fun G1 H1 v R1 r1 => k G1 H1 v R1.end r1
  · exact h2 G0 H0 Z Γ σ G H _ _ R e1 k
theorem s_retCR (he : MR X e mr) : DL.S X (.Return (some e) pos) (mSt mr fun d Γ1 => (Γ1[0]?).bind fun s => if isOwn s then some (.rm d s) else none) := by
  obtain ⟨t, h1, h2⟩ := he.ex
  refine ⟨⟨_, ps_ret h1, fun G0 H0 Z Γ σ G H D r R hf k => ?_⟩⟩
  rcases mSt_some hf with ⟨d, Γ1, e1, e2⟩ | ⟨n, e1, rfl⟩
  · obtain ⟨s, e3, e2⟩ := obind e2
    split at e2
    · cases e2
      exact h2 G0 H0 Z Γ σ G H _ _ R e1 fun G1 H1 v R1 r1 => k Γ1 σ G1 H1 v R1 e3 r1
    · cases e2
  · exact h2 G0 H0 Z Γ σ G H _ _ R e1 k
theorem s_unpR {tg : Expr} {ix : List Nat} {g : Gs} (he : MR X e mr) (hg : DL.G X tg ix g) (hs : swapsWithSole [tg] e pos.line X.env = pure false := by rfl) (hw : swappedStores [tg] e X.env = pure none := by rfl)
    (h1 : (assignEach [tg] X.env).map (·.2) = [assign tg X.env] := by rfl) : DL.S X (.Assign [tg] e pos) (mSt mr fun d Γ1 => (g d Γ1).bind fun Γ2 => some (.nx Γ2)) := by
  obtain ⟨t, h1', h2⟩ := he.ex
  obtain ⟨u, q1, q2⟩ := hg.ex
  refine ⟨⟨_, ps_asg h1' q1 hs hw h1, fun G0 H0 Z Γ σ G H D r R hf k => ?_⟩⟩
  rcases mSt_some hf with ⟨d, Γ1, e1, e2⟩ | ⟨n, e1, rfl⟩
  · obtain ⟨Γ2, e3, e2⟩ := obind e2
    cases e2
    exact h2 G0 H0 Z Γ σ G H _ _ R e1 fun G1 H1 v R1 r1 => q2 G0 H0 Z Γ1 σ G1 H1 _ d v Γ2 R1 r1 e3 fun σ' R' _ => k σ' G1 H1 R'
  · exact h2 G0 H0 Z Γ σ G H _ _ R e1 k
def sAppR (i : Nat) (m : Mr) : Sm := fun Γ => match Γ[i]? with | some (.ow _) => mSt m (fun d Γ1 => match Γ1[i]? with | some (.ow xs) => if xs.length < 1000000 then some (.nx (Γ1.set i (.ow (xs ++ [d])))) else none | _ => none) Γ | _ => none
/-- P.append(the call), P a variable -/
theorem s_appR {i : Nat} {x : Str} {ap np : Pos} (he : MR X e mr) (hN : X.N[i]? = some x := by rfl) (hv : Vis X.env.scope x := by first | exact Or.inl rfl | exact Or.inr (Or.inl rfl) | exact Or.inr (Or.inr rfl)) (hd : (x == ("__debug__" : Str)) = false := by decide)
    (hcd : (x == ("__classdict__" : Str)) = false := by decide) (hst : starEach [e] X.env = (false, eval e X.env) :: starEach [] X.env := by rfl)
    (hpe : ∀ {r : V → List V → Hp → VK → Prop} {to te : TE}, MtR X "list.append" r → PE X (.Name x np) to → PE X e te → PE X (.Call (.Attribute (.Name x np) "append" ap) [e] [] pos) (tBM X.K "list" r to (tCons te tNil)) := by intro r to te hm ho hp; exact pe_bm PySem.F.plainAttrs_list PySem.F.slot_list_append PySem.F.type_list_append hm ho (pa_cons hp pa_nil))
    (hs : swapsWith (.Call (.Attribute (.Name x np) "append" ap) [e] [] pos) none pos'.line X.env = pure false := by rfl) : DL.S X (.Expr (.Call (.Attribute (.Name x np) "append" ap) [e] [] pos) pos')
      (sAppR i mr) := by
  obtain ⟨t, h1, h2⟩ := he.ex
  refine ⟨⟨_, ps_expr (hpe mt_append (pe_var hN hv hd hcd) h1) hs, fun G0 H0 Z Γ σ G H D r R hf k => ?_⟩⟩
  unfold sAppR at hf
  cases q0 : Γ[i]? with
  | none => simp only [q0] at hf; cases hf
  | some s0 =>
    simp only [q0] at hf
    cases s0 with
    | ow xs0 =>
      simp only at hf
      obtain ⟨v0, F0, g0, pk0⟩ := R.pack (rp := []) q0 rfl (by simp) (by simp [SlP])
      have p0 := pk0 G H (Ext.refl R.gh)
      obtain ⟨l, vs, rfl, c1, c2, _⟩ := p0.list R.gh
      refine ⟨_, g0 rfl, .inl ⟨rfl, _, SqL.of c1⟩, ?_⟩
      rcases mSt_some hf with ⟨d, Γ1, e1, e2⟩ | ⟨n, e1, rfl⟩
      · refine h2 G0 H0 Z Γ σ G H _ _ R e1 fun G1 H1 v R1 r1 => ?_
        cases q1 : Γ1[i]? with
        | none => simp only [q1] at e2; cases e2
        | some s1 =>
          simp only [q1] at e2
          cases s1 with
          | ow xs =>
            simp only at e2
            split at e2
            · rename_i hl
              cases e2
              obtain ⟨v1, F1, g1, pk1⟩ := R1.pack (rp := []) q1 rfl (by simp) (by simp [SlP])
              have ev : v1 = .ref l := Option.some.inj (Option.some.inj ((g1 rfl).symm.trans (g0 rfl)))
              subst ev
              have p1 := pk1 G1 H1 (Ext.refl R1.gh)
              obtain ⟨l', vs', e', d1, d2, d3⟩ := p1.list R1.gh
              cases e'
              refine ⟨l, vs', v, rfl, rfl, d1, ?_, ?_⟩
              · rw [d2.length]; exact Nat.lt_of_lt_of_le hl line_big
              · exact k σ G1 _ (d3 _ _ _ (d2.append (.cons r1 .nil)) rfl)
            · cases e2
          | _ => cases e2
      · exact h2 G0 H0 Z Γ σ G H _ _ R e1 k
    | _ => cases hf
end
end DL

/-! DL47: raise InvalidPaper(e); defs that raise, called -/
namespace DL
open PySem L2
variable [TC : TabCtx]
structure IpMk (P : Program) (w : World) (K : PySem.W.Frag) (mg : Str → Option Value) (base : Heap) : Prop where
  ex : ∃ C fI fd, mg "InvalidPaper" = some (.ref C) ∧ OexC K C ∧ PySem.W.findIn K (.ref C) "__init__" = some (some (.ref fI)) ∧ PySem.W.typeIn K (.ref fI) = some (.type "function") ∧ FnOk P w K mg base CX0 1 fI fd ["self", "line"] (spIp C) ∧ Binds K fd ["self", "line"] [] ∧ PySem.W.exmOne K (.ref C) (.ref C) = some true
def okN (n : Int) : Bool := decide (n.natAbs.log2 < 1920 ∧ (toString n : Str).length < 900000)
def sRaise (f : Ex) : Sm := fun Γ => (f Γ).bind fun d => match d with
  | .int n => if okN n = true then some (.ra n) else none
  | _ => none
section
variable {X : Cx} {e a b o : Expr} {es : List Expr} {f g : Ex} {fs : Ag} {mx : Mx} {mr : Mr} {pos pos' p : Pos} {n : Nat}
theorem s_raise {k : Nat} (ip : IpMk X.prog X.w X.K X.mg X.base) (hr : Room k X.A) (hk : 2 ≤ k) (hc : X.calm = true) (he : E X e f) (hg : Gl X "InvalidPaper" := by rfl)
    (hst : starEach [e] X.env = (false, eval e X.env) :: starEach [] X.env := by rfl) : DL.S X (.Raise (some (.Call (.Name "InvalidPaper" p) [e] [] pos)) none pos') (sRaise f) := by
  obtain ⟨C, fI, fd, hm, T, iC, tI, FO, hb, _⟩ := ip.ex
  obtain ⟨t, h1, h2⟩ := he.ex
  refine ⟨⟨_, ps_raise hc takes_WS (pmk_oex T iC tI FO (hr.mono hk) hb .nil pass0 hg hm (pa_cons h1 pa_nil hst) (by decide) hst), fun G0 H0 Z Γ σ G H D r R hf k => ?_⟩⟩
  obtain ⟨d, e1, hf⟩ := obind hf
  cases d with
  | int n =>
    replace hf : (if okN n = true then some (Res.ra n) else none) = some r := hf
    split at hf
    · rename_i hn
      cases hf
      have hn := of_decide_eq_true hn
      refine h2 G0 H0 Z Γ σ G H _ _ R e1 fun G1 H1 v x1 r1 => ?_
      rw [r1.intv]
      refine ⟨by show 1 ≤ 1000; omega, fun a ha => ?_⟩
      have R1 := R.ext x1
      have ga : G1 a = none := x1.gh.free ha
      refine ⟨a, n, G1, rfl, ⟨_, by show (if n.natAbs.log2 < 1920 then _ else none) = _; rw [if_pos hn.1], hn.2⟩, upd_same, fun b o h => by rw [upd_ne (ne_of_none h ga)]; exact x1.gh _ _ h, TC.ti.keep R1.tbc (Same.refl _) (fun b h => upd_ne (fun z => (TC.ti.live R1.tbc b h).1 (by rw [z]; exact ha))) (fun _ _ g => g), ga, ?_⟩
      intro G' H2 d sg gh t kp hn2 nw hd gd e2 e3
      have da : d ≠ a := fun z => by rw [z, upd_same] at hd; cases hd
      have hd1 : H1 d = none := by rw [upd_ne da] at hd; exact hd
      have ga' : G' a = none := by
        cases q : G' a with
        | none => rfl
        | some o =>
          rcases nw a (by rw [q]; simp) with z | z
          · exact absurd ga z
          · rw [upd_same] at z; cases z
      refine ⟨rfl, d, _, e2, e3, hd1, ?_⟩
      have at3 : ∀ b, b ≠ a → b ≠ d → upd (del H2 a) d (.xd [("line", V.int n)]) b = H2 b := fun b h1 h2 => by
        rw [upd_ne h2, del_ne h1]
      refine k (.ref C) (some d) σ G' _ (R1.nosUp (Fp := fun _ => False) (fun _ z => z.elim) sg (fun b o h => ?_) ?_ (fun b _ h => ?_) (fun b h => ?_) (fun b o _ h nt => ?_) σ) ⟨C, d, hm, rfl, rfl, upd_same, R1.hf hd1⟩
      · rw [at3 b (fun z => by rw [z, ga'] at h; cases h) (fun z => by rw [z, gd] at h; cases h)]
        exact gh _ _ h
      · refine TC.ti.keep t (Same.refl _) (fun b h => ?_) (fun _ _ g => g)
        obtain ⟨ps, hp⟩ := TC.ti.tbl t b h
        refine at3 b (fun z => ?_) (fun z => ?_)
        · rw [z, e2] at hp; cases hp
        · rw [z, e3] at hp; cases hp
      · by_cases z : b = d
        · rw [z, upd_same]; simp
        · have ba : b ≠ a := fun z => h (by rw [z]; exact ha)
          rw [at3 b ba z]
          exact hn2 b (by rw [upd_ne ba]; exact h)
      · rcases nw b h with z | z
        · exact .inl z
        · by_cases ba : b = a
          · rw [ba, upd_same] at z; cases z
          · rw [upd_ne ba] at z; exact .inr (.inl z)
      · have ba : b ≠ a := fun z => by rw [z, ha] at h; cases h
        have bd : b ≠ d := fun z => by rw [z, hd1] at h; cases h
        rw [at3 b ba bd]
        exact kp b o ba (by rw [upd_ne ba]; exact h) nt
    · cases hf
  | _ => cases hf
end
/-! what such a def keeps -/
def spR (K : PySem.W.Frag) (mg : Str → Option Value) (n : Nat) (F : List D → Option (D ⊕ Int)) : Sp := fun vs H Q E =>
  ∃ G ds r, vs.length = n ∧ Same G H ∧ TC.ti.t G H ∧ RepL K mg G vs ds ∧ F ds = some r ∧ (∀ d, r = .inl d → ∀ G' H' v, Ext G H G' H' → Rep K mg G' v d → Q v H') ∧ ∀ m, r = .inr m → ∀ G' H' cls d, Ext G H G' H' → XIp mg m cls d H H' → E cls d H'
def runR (n : Nat) (B : Sm) : List D → Option (D ⊕ Int) := fun ds => (B (ds.map Sl.sh ++ List.replicate (n - ds.length) .no)).bind fun r => match r with
  | .rt d => some (.inl d)
  | .nx _ => some (.inl .non)
  | .ra m => some (.inr m)
  | _ => none
open Classical in
/-- without what is one's own -/
noncomputable abbrev maskF (Fp : Addr → Prop) (H : Hp) : Hp := fun a => if Fp a then none else H a
def spMR (K : PySem.W.Frag) (mg : Str → Option Value) (n : Nat) (F : Sl → List D → Option ((D × Sl) ⊕ Int)) : Sp := fun vs H Q E =>
  ∃ v0 args G s ds r Fp, vs = v0 :: args ∧ args.length = n ∧ Same G H ∧ TC.ti.t G H ∧ Hd K mg G H v0 Fp s ∧ (∀ a, Fp a → G a = none ∧ H a ≠ none ∧ ¬ TC.ti.tz a) ∧ RepL K mg G args ds ∧ F s ds = some r ∧
    (∀ d s', r = .inl (d, s') → ∀ G' H' v Fp', Same G G' → Same G' H' → TC.ti.t G' H' → (∀ a, ¬ Fp a → H a ≠ none → H' a ≠ none) → (∀ a, G' a ≠ none → G a ≠ none ∨ H a = none ∨ Fp a) → (∀ a o, ¬ Fp a → H a = some o → NT o → H' a = some o) → Rep K mg G' v d → Hd K mg G' H' v0 Fp' s' → (∀ a, Fp' a → G' a = none ∧ H' a ≠ none ∧ (Fp a ∨ H a = none)) → Q v H') ∧
    ∀ m, r = .inr m → ∀ G' H' cls d, Same G G' → Same G' H' → TC.ti.t G' H' → (∀ a, ¬ Fp a → H a ≠ none → H' a ≠ none) → (∀ a, G' a ≠ none → G a ≠ none ∨ H a = none ∨ Fp a) → (∀ a o, ¬ Fp a → H a = some o → NT o → H' a = some o) → XIp mg m cls d (maskF Fp H) H' → E cls d H'
def runMR (n : Nat) (B : Sm) : Sl → List D → Option ((D × Sl) ⊕ Int) := fun s ds => (B (s :: ds.map Sl.sh ++ List.replicate (n - (ds.length + 1)) .no)).bind fun r => match r with
  | .rm d s' => if isOwn s' then some (.inl (d, s')) else none
  | .nx Γ => (Γ[0]?).bind fun s' => if isOwn s' then some (.inl (.non, s')) else none
  | .ra m => some (.inr m)
  | _ => none
/-- what leaves a def is what it promises -/
theorem raise_leave {P : Program} {w : World} {K : PySem.W.Frag} {mg : Str → Option Value} {base : Heap} {N : List Str} {qual : Str} {scope : Scope} {f : Addr} {cd : Value} {A : Around} {outer : List PySem.Env} {s : Shared} {H : Hp} {E : XK} {cls : Value} {d : Option Addr} {σ : L2.St} {H' : Hp} (h : E cls d H') :
    WS (cxOf (L2.CX P w) P w K mg base N qual scope f cd A outer s H E) cls d σ H' := by
  have tk : Takes (cxOf (L2.CX P w) P w K mg base N qual scope f cd A outer s H E) (fun cls d _ H => E cls d H) := takes_of rfl rfl rfl rfl
  intro u s' ⟨a, B, sI, pins, σ1, H1, c1, d1, e, I, nb, up, sky, na, os, ag, q1, q2, q3, q4⟩
  subst q1 q2 q3 q4
  exact tk u s' ⟨a, B, sI, pins, σ1, H1, c1, d1, e, I, nb, up, sky, na, os, ag, h⟩
section
variable {P : Program} {w : World} {K : PySem.W.Frag} {mg : Str → Option Value} {base : Heap}
theorem def_okR {x qual : Str} {st : Stmt} {f : Addr} {fd : FuncData} {N ps : List Str} {k : Nat} {B : Sm} (F : Fun K x qual st f fd) (S : FnScope N ps (defScope st))
    (hbody : ∀ (cdv : Value) (A : Around) (outer : List PySem.Env) (s : Shared) (H : Hp) (E : XK), Room k (A.deeper (PyProof.Rows.envOfC qual (defScope st) s.heap.objs.size f cdv)) →
      Ss (cxOf (L2.CX P w) P w K mg base N qual (defScope st) f cdv A outer s H E) (defBody st) B) : FnOk P w K mg base (L2.CX P w) (k + 1) f fd ps (spR K mg ps.length (runR N.length B)) := by
  obtain ⟨oc, od, kV, doc, pm, an, cdv, ct, osl, rfl, lk, hcd⟩ := F.ex
  refine fn_of lk hcd S (fun vs H Q E h => ?_) fun A outer s H vs Q E hr h => ?_
  · obtain ⟨G, ds, r, hl, _⟩ := h
    exact hl
  · obtain ⟨G, ds, d, hl, gh, tb, r, hf, k', ke⟩ := h
    obtain ⟨t, h1, h2⟩ := (hbody cdv A outer s H E hr).ex
    refine ⟨t, h1, ?_⟩
    obtain ⟨r1, e1, hf⟩ := obind hf
    refine h2 G H _ _ _ G H _ r1 (start_rel gh tb r) e1 ?_
    cases r1 with
    | rt d' => cases hf; exact fun G' H' v x r => k' _ rfl G' H' v x r
    | nx Γ => cases hf; exact fun σ' G' H' R => k' _ rfl G' H' _ R.end .non
    | ra m => cases hf; exact fun cls d σ' G' H' R x => raise_leave (ke _ rfl G' H' cls d R.end x)
    | rm d s => cases hf
    | ro s => cases hf
    | bk Γ => cases hf
    | ct Γ => cases hf
open Classical in
theorem def_okMR {x qual : Str} {st : Stmt} {f : Addr} {fd : FuncData} {N ps : List Str} {k : Nat} {B : Sm} (F : Fun K x qual st f fd) (S : FnScope N ps (defScope st)) {n : Nat} (hps : ps.length = n + 1)
    (hbody : ∀ (cdv : Value) (A : Around) (outer : List PySem.Env) (s : Shared) (H : Hp) (E : XK), Room k (A.deeper (PyProof.Rows.envOfC qual (defScope st) s.heap.objs.size f cdv)) →
      Ss (cxOf (L2.CX P w) P w K mg base N qual (defScope st) f cdv A outer s H E) (defBody st) B) : FnOk P w K mg base (L2.CX P w) (k + 1) f fd ps (spMR K mg n (runMR N.length B)) := by
  obtain ⟨oc, od, kV, doc, pm, an, cdv, ct, osl, rfl, lk, hcd⟩ := F.ex
  refine fn_of lk hcd S (fun vs H Q E h => ?_) fun A outer s H vs Q E hr h => ?_
  · obtain ⟨v0, args, G, s, ds, r, Fp, rfl, hl, _⟩ := h
    simp [hl, hps]
  · obtain ⟨v0, args, G, sl, ds, rr, Fp, rfl, hl, gh, tb, hd, fr, r, hf, kk, ke⟩ := h
    obtain ⟨t, h1, h2⟩ := (hbody cdv A outer s H E hr).ex
    refine ⟨t, h1, ?_⟩
    obtain ⟨r1, e1, hf⟩ := obind hf
    have R := startM_rel (N := N) gh tb hd fr r fun a => inferInstance
    have fin : ∀ (d : D) (s' : Sl) (Γ : DEnv) (σ : L2.St) (G' H' : Hp) (v : V), rr = .inl (d, s') → Rel K mg G (fun a => if Fp a then none else H a) ⟨TC.ti.tz, some v0, TC.ti⟩ Γ σ G' H' → Γ[0]? = some s' → isOwn s' = true → Rep K mg G' v d → Q v H' := fun d s' Γ σ G' H' v er R' e0 ns rv => by
      have es := R'.an v0 s' rfl e0 ns
      obtain ⟨own, o1, o2, o3⟩ := R'.own
      rcases o3 0 s' e0 with z | ⟨v', z1, z2⟩ | ⟨_, _, z, _⟩
      · rw [z] at ns; cases ns
      rotate_left
      · rw [z] at ns; cases ns
      · rw [es] at z1
        cases z1
        refine kk d s' er G' H' v (own 0) R'.gg R'.gh R'.tbc (fun a nf h => R'.hn a (by simpa [nf] using h)) (fun a q => ?_) (fun a o nf q n => R'.hh a o (by simp [nf, q]) n) rv z2 fun a y => ?_
        · rcases R'.new a q with z | z
          · exact .inl z
          · by_cases fa : Fp a
            · exact .inr (.inr fa)
            · simp [fa] at z
              exact .inr (.inl z)
        · obtain ⟨w1, w2, w3, w4⟩ := o1 0 a y
          refine ⟨w1, w3, ?_⟩
          by_cases fa : Fp a
          · exact .inl fa
          · simp [fa] at w2
            exact .inr w2
    refine h2 G _ _ _ _ G H _ r1 R e1 ?_
    cases r1 with
    | rm d' s2 =>
      replace hf : (if isOwn s2 then some (.inl (d', s2)) else none) = some rr := hf
      split at hf
      · rename_i ns
        cases hf
        exact fun Γ σ G' H' v R' e0 rv => fin d' s2 Γ σ G' H' v rfl R' e0 ns rv
      · cases hf
    | nx Γ =>
      obtain ⟨s2, e2, hf⟩ := obind hf
      split at hf
      · rename_i ns
        cases hf
        exact fun σ' G' H' R' => fin _ _ Γ σ' G' H' _ rfl R' e2 ns .non
      · cases hf
    | ra m =>
      cases hf
      refine fun cls d σ' G' H' R' x => raise_leave (ke m rfl G' H' cls d R'.gg R'.gh R'.tbc (fun a nf h => R'.hn a (by simpa [nf] using h)) (fun a q => ?_) (fun a o nf q n => R'.hh a o (by simp [nf, q]) n) x)
      rcases R'.new a q with z | z
      · exact .inl z
      · by_cases fa : Fp a
        · exact .inr (.inr fa)
        · simp [fa] at z
          exact .inr (.inl z)
    | rt d => cases hf
    | ro s => cases hf
    | bk Γ => cases hf
    | ct Γ => cases hf
end
structure CalR (P : Program) (w : World) (K : PySem.W.Frag) (mg : Str → Option Value) (base : Heap) (x : Str) (L : Nat) (ps : List Str) (S : List D → Option (D ⊕ Int)) : Prop where
  ex : ∃ f fd, FnOk P w K mg base (L2.CX P w) L f fd ps (spR K mg ps.length S) ∧ mg x = some (.ref f) ∧ PySem.W.keepIn K (.ref f) = true ∧ Binds K fd ps []
structure MetR (P : Program) (w : World) (K : PySem.W.Frag) (mg : Str → Option Value) (base : Heap) (c : Nat) (m : Str) (L : Nat) (ps : List Str) (S : Sl → List D → Option ((D × Sl) ⊕ Int)) : Prop where
  ex : ∃ C f fd n, ps.length = n + 1 ∧ CK K mg c C ∧ Meth K C m f ∧ FnOk P w K mg base (L2.CX P w) L f fd ps (spMR K mg n S) ∧ Binds K fd ps []
/-- what a callee may let out -/
def EX (X : Cx) : XK := fun cls d H => ∀ σ : L2.St, σ.length = X.N.length → WS X cls d σ H
theorem passX {X : Cx} : Passes (L2.CX X.prog X.w) X (EX X) := by
  have tk : Takes X (fun cls d σ H => σ.length = X.N.length → WS X cls d σ H) := fun u s' ⟨a, B, sI, pins, σ, H, cls, d, e, I, nb, up, sky, na, os, ag, w⟩ =>
    takes_WS u s' ⟨a, B, sI, pins, σ, H, cls, d, e, I, nb, up, sky, na, os, ag, w I.len⟩
  exact passes_call tk fun cls d σ H h hl => h σ hl
def gCallR (S : List D → Option (D ⊕ Int)) (fs : Ag) : Mr := fun Γ => (fs Γ).bind fun ds => (S ds).bind fun r => match r with
  | .inl d => some (.inl (d, Γ))
  | .inr n => some (.inr n)
section
variable {X : Cx} {e a b o : Expr} {es : List Expr} {f g : Ex} {fs : Ag} {mx : Mx} {mr : Mr} {pos pos' p : Pos} {n : Nat}
theorem mr_call {k L : Nat} {ps : List Str} {S : List D → Option (D ⊕ Int)} {x : Str} (c : CalR X.prog X.w X.K X.mg X.base x L ps S) (hr : Room k X.A) (hk : L ≤ k)
    (ha : AN X (a :: es) ps.length fs) (hg : Gl X x := by rfl) (hdb : (x == ("__debug__" : Str)) = false := by decide) (he : starEach (a :: es) X.env = (false, eval a X.env) :: starEach es X.env := by rfl) (hpl : (backTo pos (starEach es X.env)).any (·.1) = false := by rfl) :
    MR X (.Call (.Name x p) (a :: es) [] pos) (gCallR S fs) := by
  obtain ⟨f, fd, FO, hm, hki, hb⟩ := c.ex
  obtain ⟨t, t1, t2⟩ := ha.a.ex
  refine ⟨⟨_, pe_call FO (hr.mono hk) hg hm hki hb .nil passX t1 hdb he hpl, fun G0 H0 Z Γ σ G H Q r R hf k => ?_⟩⟩
  obtain ⟨ds, e1, hf⟩ := obind hf
  obtain ⟨r1, e2, hf⟩ := obind hf
  refine t2 G0 H0 Z Γ σ G H _ ds R e1 fun G1 H1 vs x1 rv => ?_
  have R1 := R.ext x1
  refine ⟨G1, ds, r1, by rw [List.append_nil, rv.length, ha.n _ ds e1], x1.gh, R1.tbc, by rw [List.append_nil]; exact rv, e2, fun d er G' H' v x2 r2 => ?_, fun m er G' H' cls d x2 xi σ' hl => ?_⟩
  · subst er
    cases hf
    exact k G' H' v (R1.ext x2) r2
  · subst er
    cases hf
    obtain ⟨C, dx, z1, z2, z3, z4, z5⟩ := xi
    exact k cls d σ' G' H' ((R1.ext x2).nos σ') ⟨C, dx, z1, z2, z3, z4, R1.hf z5⟩
/-- P.m(..), P a place of one's own -/
def gCMR (i : Nat) (rp : Pth) (c : Nat) (S : Sl → List D → Option ((D × Sl) ⊕ Int)) (fs : Ag) : Mr := fun Γ => match gP i rp Γ with
  | some (.ob c' fls) => if c' = c then (fs Γ).bind fun ds => (S (.ob c' fls) ds).bind fun r => match r with
      | .inl q => (Γ[i]?).bind fun s => (setR rp q.2 s).bind fun s2 => some (.inl (q.1, Γ.set i s2))
      | .inr n => some (.inr n)
    else none
  | _ => none
theorem changeR_ok {i : Nat} {rp : Pth} {S : Sl → List D → Option ((D × Sl) ⊕ Int)} {G0 H0 G H Hb : Hp} {Z : Zs} {Γ : DEnv} {σ : L2.St} {n : Nat} {Q : VK} {s s1 : Sl} {v : V} {F1 : Addr → Prop} {vs : List V} {ds : List D} {rr : (D × Sl) ⊕ Int} (R : Rel X.K X.mg G0 H0 Z Γ σ G H) (P : Pack X.K X.mg G0 H0 Z Γ σ i rp s s1 v F1 Hb G H) (hb : ∀ a, Hb a ≠ none → H a ≠ none) (r : RepL X.K X.mg G vs ds) (hn : ds.length = n) (ho : isOwn s1 = true)
    (hS : S s1 ds = some rr) (k1 : ∀ d s1', rr = .inl (d, s1') → ∃ s2, setR rp s1' s = some s2 ∧ ∀ G' H' u, Rel X.K X.mg G0 H0 Z (Γ.set i s2) σ G' H' → Rep X.K X.mg G' u d → Q u H') (k2 : ∀ m, rr = .inr m → RaiseOk X G0 H0 Z m) : spMR X.K X.mg n S (v :: vs) H Q (EX X) := by
  refine ⟨v, vs, G, s1, ds, rr, F1, rfl, by rw [r.length, hn], R.gh, P.tb, P.hd, fun a y => ⟨(P.fr a y).1, (P.fr a y).2.2.1, P.ntz a y⟩, r, hS, fun d s1' er G' H' u Fp' gg gh' tb' hn' nw keep rv hd' fr => ?_, fun m er G' H' cls d gg gh' tb' hn' nw keep xi σ' hl => ?_⟩
  · obtain ⟨s2, es, k⟩ := k1 d s1' er
    refine k G' H' u ?_ rv
    have free : ∀ a, H a = none → Hb a = none := fun a z => by
      cases q : Hb a with
      | none => rfl
      | some o => exact absurd z (hb a (by rw [q]; simp))
    refine P.upC G' H' Fp' s1' s2 gg gh' tb' hn' (fun a q => ?_) keep hd' (fun a y => ?_) (fun _ => ho) es
    · rcases nw a q with z | z | z
      · exact .inl z
      · exact .inr (.inl (free a z))
      · exact .inr (.inr z)
    · obtain ⟨w1, w2, w3⟩ := fr a y
      exact ⟨w1, w2, w3.elim .inl fun z => .inr (free a z)⟩
  · obtain ⟨C, dx, z1, z2, z3, z4, z5⟩ := xi
    have z6 : H0 dx = none := by
      by_cases fx : F1 dx
      · exact (P.fr dx fx).2.1
      · exact R.hf (by unfold maskF at z5; rw [if_neg fx] at z5; exact z5)
    exact k2 m er cls d σ' G' H' (R.nosUp (fun a y => ⟨(P.fr a y).2.1, (P.fr a y).2.2.2.1⟩) gg gh' tb' hn' nw keep σ') ⟨C, dx, z1, z2, z3, z4, z6⟩
theorem mr_met {pl : Sem Bool} {i : Nat} {rp : Pth} {c k L : Nat} {ps : List Str} {S : Sl → List D → Option ((D × Sl) ⊕ Int)} {m : Str} {apos : Pos} (mt : MetR X.prog X.w X.K X.mg X.base c m L ps S) (hr : Room k X.A) (hk : L ≤ k) (hp : PL X o i rp)
    (ha : AN X (a :: es) n fs) (hn : ps.length = n + 1 := by rfl) (hno : m ∉ cF c := by decide +kernel)
    (hst : starEach (a :: es) X.env = (false, eval a X.env) :: starEach es X.env := by rfl) (hpl : (backTo pos (starEach es X.env)).any (·.1) = false := by rfl)
    (ht : eval (.Call (.Attribute o m apos) (a :: es) [] pos) X.env = (do
      let ov ← eval o X.env
      standAt apos.atName
      let (f, first) ← holding [ov] (getMethod ov m pl)
      callWith pos f first (backTo pos (starEach (a :: es) X.env)) (backToKw pos (keywordEach [] X.env))) := by rfl) :
    MR X (.Call (.Attribute o m apos) (a :: es) [] pos) (gCMR i rp c S fs) := by
  obtain ⟨C, fa, fd, n', f0, ck, hme, FO, hb⟩ := mt.ex
  have : n' = n := by omega
  subst this
  obtain ⟨t, t1, t2⟩ := ha.a.ex
  obtain ⟨u, u1, u2⟩ := hp.ex
  refine ⟨⟨_, pe_meth u1 ck.cl hme FO (hr.mono hk) hb .nil passX t1 hst hpl ht, fun G0 H0 Z Γ σ G H Q r R hf k => ?_⟩⟩
  unfold gCMR at hf
  cases q : gP i rp Γ with
  | none => rw [q] at hf; cases hf
  | some s0 =>
    rw [q] at hf
    cases s0 with
    | ob c' fls =>
      simp only at hf
      split at hf
      · rename_i cz
        subst cz
        obtain ⟨ds, e1, hf⟩ := obind hf
        obtain ⟨rr, hS, hf⟩ := obind hf
        obtain ⟨s, b1, b2, b3⟩ := gP_some q (by simp [SlP])
        refine u2 G0 H0 Z Γ σ G H G H _ s _ R (Ext.refl R.gh) b1 b2 b3 (by simp) fun v pk => ?_
        obtain ⟨F0, P0⟩ := pk G H (Ext.refl R.gh)
        have hd := P0.hd
        cases hd with
        | ob ff hm hh nn sF rr' =>
          rw [ck.hm] at hm
          cases hm
          refine ⟨_, _, _, rfl, hh, zip_lookup_none hno, ?_⟩
          refine t2 G0 H0 Z Γ σ G H _ ds R e1 fun G1 H1 vs x1 r1 => ?_
          obtain ⟨F1, P⟩ := pk G1 H1 x1
          rw [List.append_nil]
          refine changeR_ok (R.ext x1) P x1.hn r1 (ha.n Γ ds e1) rfl hS (fun d s1' er => ?_) (fun m er => ?_)
          · subst er
            obtain ⟨s', e3, hf⟩ := obind hf
            rw [b1] at e3
            cases e3
            obtain ⟨s2, e4, hf⟩ := obind hf
            cases hf
            exact ⟨s2, e4, k⟩
          · subst er
            cases hf
            exact k
      · cases hf
    | _ => cases hf
theorem mr_met0 {pl : Sem Bool} {i : Nat} {rp : Pth} {c k L : Nat} {ps : List Str} {S : Sl → List D → Option ((D × Sl) ⊕ Int)} {m : Str} {apos : Pos} (mt : MetR X.prog X.w X.K X.mg X.base c m L ps S) (hr : Room k X.A) (hk : L ≤ k) (hp : PL X o i rp)
    (hn : ps.length = 1 := by rfl) (hno : m ∉ cF c := by decide +kernel)
    (ht : eval (.Call (.Attribute o m apos) [] [] pos) X.env = (do
      let ov ← eval o X.env
      standAt apos.atName
      let (f, first) ← holding [ov] (getMethod ov m pl)
      callWith pos f first (backTo pos (starEach [] X.env)) (backToKw pos (keywordEach [] X.env))) := by rfl) :
    MR X (.Call (.Attribute o m apos) [] [] pos) (gCMR i rp c S aN) := by
  obtain ⟨C, fa, fd, n', f0, ck, hme, FO, hb⟩ := mt.ex
  have : n' = 0 := by omega
  subst this
  obtain ⟨u, u1, u2⟩ := hp.ex
  refine ⟨⟨_, pe_meth0 u1 ck.cl hme FO (hr.mono hk) hb .nil passX ht, fun G0 H0 Z Γ σ G H Q r R hf k => ?_⟩⟩
  unfold gCMR at hf
  cases q : gP i rp Γ with
  | none => rw [q] at hf; cases hf
  | some s0 =>
    rw [q] at hf
    cases s0 with
    | ob c' fls =>
      simp only at hf
      split at hf
      · rename_i cz
        subst cz
        obtain ⟨ds, e1, hf⟩ := obind hf
        cases e1
        obtain ⟨rr, hS, hf⟩ := obind hf
        obtain ⟨s, b1, b2, b3⟩ := gP_some q (by simp [SlP])
        refine u2 G0 H0 Z Γ σ G H G H _ s _ R (Ext.refl R.gh) b1 b2 b3 (by simp) fun v pk => ?_
        obtain ⟨F0, P0⟩ := pk G H (Ext.refl R.gh)
        have hd := P0.hd
        cases hd with
        | ob ff hm hh nn sF rr' =>
          rw [ck.hm] at hm
          cases hm
          refine ⟨_, _, _, rfl, hh, zip_lookup_none hno, ?_⟩
          obtain ⟨F1, P⟩ := pk G H (Ext.refl R.gh)
          refine changeR_ok (vs := []) R P (fun _ h => h) .nil rfl rfl hS (fun d s1' er => ?_) (fun m er => ?_)
          · subst er
            obtain ⟨s', e3, hf⟩ := obind hf
            rw [b1] at e3
            cases e3
            obtain ⟨s2, e4, hf⟩ := obind hf
            cases hf
            exact ⟨s2, e4, k⟩
          · subst er
            cases hf
            exact k
      · cases hf
    | _ => cases hf
end
end DL

/-! DL48: try: .. except InvalidPaper: .. -/
namespace DL
open PySem L2
variable [TC : TabCtx]
section
variable {X : Cx}
theorem ws_of {W : WX} {cls : Value} {d : Option Addr} {σ : L2.St} {H : Hp} (tk : Takes X W) (h : σ.length = X.N.length → W cls d σ H) : WS X cls d σ H := by
  intro u s' ⟨a, B, sI, pins, σ1, H1, c1, d1, e, I, nb, up, sky, na, os, ag, q1, q2, q3, q4⟩
  subst q1 q2 q3 q4
  exact tk u s' ⟨a, B, sI, pins, σ1, H1, c1, d1, e, I, nb, up, sky, na, os, ag, h I.len⟩
def FinW (X : Cx) (G0 H0 : Hp) (Z : Zs) (D : Ends) (W : WX) : Res → Prop
  | .ra n => ∀ cls d σ G H, σ.length = X.N.length → Rel X.K X.mg G0 H0 Z (List.replicate σ.length .no) σ G H → XIp X.mg n cls d H0 H → W cls d σ H
  | r => Fin X G0 H0 Z D r
/-- a suite's reading, said at once for all contexts -/
def tRx (X : Cx) (F : Sm) (W : WX) : TS := fun D σ H => ∃ G0 H0 Z Γ G r, Rel X.K X.mg G0 H0 Z Γ σ G H ∧ F Γ = some r ∧ FinW X G0 H0 Z D W r
theorem tr_pss {pn : List (Addr × Obj)} {xe : Value → Shared → Prop} {body : List Stmt} {F : Sm} {W : WX} (hb : Ss (X.tr pn xe) body F) (tk : Takes (X.tr pn xe) W) : PSs (X.tr pn xe) body (tRx X F W) := by
  obtain ⟨t, h1, h2⟩ := hb.ex
  refine ⟨fun pins s σ H D I ⟨G0, H0, Z, Γ, G, r, R, hf, k⟩ => h1.run pins s σ H D I (h2 G0 H0 Z Γ σ G H D r R hf ?_)⟩
  cases r with
  | ra n => exact fun cls d σ' G' H' R' x => ws_of tk fun hl => k cls d σ' G' H' hl R' x
  | nx Γ => exact k
  | rt d => exact k
  | rm d s => exact k
  | ro s => exact k
  | bk Γ => exact k
  | ct Γ => exact k
theorem suite_pss {a : Addr} {pn : List (Addr × Obj)} {body : List Stmt} {F : Sm} (hb : Ss (X.suite a pn) body F) : PSs (X.suite a pn) body (tRx X F fun _ _ _ _ => False) := by
  obtain ⟨t, h1, h2⟩ := hb.ex
  refine ⟨fun pins s σ H D I ⟨G0, H0, Z, Γ, G, r, R, hf, k⟩ => h1.run pins s σ H D I (h2 G0 H0 Z Γ σ G H D r R hf ?_)⟩
  cases r with
  | ra n => exact fun cls d σ' G' H' R' x => ws_of (W := fun _ _ _ _ => False) (fun _ _ ⟨_, _, _, _, _, _, _, _, _, _, _, _, _, _, _, _, w⟩ => w.elim) fun hl => k cls d σ' G' H' hl R' x
  | nx Γ => exact k
  | rt d => exact k
  | rm d s => exact k
  | ro s => exact k
  | bk Γ => exact k
  | ct Γ => exact k
def noRa : Res → Option Res
  | .ra _ => none
  | r => some r
def sTry (N : Nat) (F : Sm) (g : Sm) : Sm := fun Γ => (F Γ).bind fun r => match r with
  | .ra _ => (g (List.replicate N .no)).bind noRa
  | r => some r
theorem s_tryA {n : Nat} {body suite : List Stmt} {b₀ : Stmt} {np pos' pos : Pos} {F g : Sm} (ip : IpMk X.prog X.w X.K X.mg X.base)
    (hb : ∀ (pn : List (Addr × Obj)) (xe : Value → Shared → Prop), PassesOwn (model X.prog X.w) X.A X.env xe → Ss (X.tr pn xe) body F) (hsu : ∀ (a : Addr) (oe : Obj) (pn : List (Addr × Obj)), Ss (X.suite a ((a, oe) :: pn)) (b₀ :: suite) g)
    (hs : X.stack = X.env :: X.outer := by rfl) (hf : X.env.frame = some X.env.locals := by rfl) (hg : Gl X "InvalidPaper" := by rfl) (hn : X.N.length = n := by rfl) :
    DL.S X (.Try body [.ExceptHandler (some (.Name "InvalidPaper" np)) none (b₀ :: suite) pos'] [] [] pos) (sTry n F g) := by
  obtain ⟨C, fI, fd, hmg, T, iC, tI, FO, hbi, hex⟩ := ip.ex
  refine ⟨⟨_, ps_try_only (Wout := WS X) (tb := tRx X F) (ts := fun _ _ _ => tRx X g fun _ _ _ _ => False) hs hf ⟨hg, by decide, .inl hmg⟩ takes_WS (fun W pn xe tk hp => tr_pss (hb pn xe hp) tk) (fun a oe cls d pn _ _ => suite_pss (hsu a oe pn)), fun G0 H0 Z Γ σ G H D r R hF k => ?_⟩⟩
  obtain ⟨r1, e1, hF⟩ := obind hF
  refine ⟨G0, H0, Z, Γ, G, r1, R, e1, ?_⟩
  cases r1 with
  | ra m =>
    replace hF : (g (List.replicate n .no)).bind noRa = some r := hF
    obtain ⟨r2, e2, hF⟩ := obind hF
    have er : r2 = r ∧ ∀ n, r ≠ .ra n := by cases r2 <;> cases hF <;> exact ⟨rfl, fun _ z => by cases z⟩
    obtain ⟨rfl, nra⟩ := er
    refine fun cls d σ' G' H' hl R' xi => ?_
    obtain ⟨C', dx, hm', rfl, rfl, hx, _⟩ := xi
    rw [hmg] at hm'
    cases hm'
    refine ⟨true, hex, fun _ a ha => ?_, fun z => by cases z⟩
    refine ⟨G0, H0, Z, _, G', r2, R', by rw [hl, hn]; exact e2, ?_⟩
    cases r2 with
    | ra n => exact absurd rfl (nra n)
    | nx Γ => exact k
    | rt d => exact k
    | rm d s => exact k
    | ro s => exact k
    | bk Γ => exact k
    | ct Γ => exact k
  | nx Γ => cases hF; exact k
  | rt d => cases hF; exact k
  | rm d s => cases hF; exact k
  | ro s => cases hF; exact k
  | bk Γ => cases hF; exact k
  | ct Γ => cases hF; exact k
end
end DL

/-! DL49: try: .. except InvalidPaper as e: .. -/
namespace DL
open PySem L2
variable [TC : TabCtx]
/-- the exception's dict becomes known -/
theorem Rel.addX {K : PySem.W.Frag} {mg : Str → Option Value} {G0 H0 : Hp} {Z : Zs} {Γ : DEnv} {σ : L2.St} {G H : Hp} (R : Rel K mg G0 H0 Z Γ σ G H) (h0 : ∀ s ∈ Γ, s = .no) {dx : Addr} {fs : List (Str × V)} (hd : H dx = some (.xd fs)) (hh : H0 dx = none) :
    ∃ G', Same G G' ∧ G' dx = some (.xd fs) ∧ Rel K mg G0 H0 Z Γ σ G' H := by
  cases q : G dx with
  | some o =>
    have := R.gh _ _ q
    rw [hd] at this
    cases this
    exact ⟨G, Same.refl _, q, R⟩
  | none =>
    have sg : Same G (upd G dx (.xd fs)) := same_upd q
    refine ⟨upd G dx (.xd fs), sg, upd_same, R.len, fun a o h => ?_, R.hh, R.gg.trans sg, fun a h => ?_, R.zz, R.an, ?_, R.tz, R.tc, R.hn, fun _ _ => False, (fun _ _ z => z.elim), (fun _ _ _ z => z.elim), fun i s h => .inl (h0 s (List.mem_of_getElem? h))⟩
    · by_cases z : a = dx
      · subst z; rw [upd_same] at h; cases h; exact hd
      · rw [upd_ne z] at h; exact R.gh _ _ h
    · by_cases z : a = dx
      · subst z; exact .inr hh
      · rw [upd_ne z] at h; exact R.new a h
    · have tb := R.tb
      rw [R.tc] at tb ⊢
      refine TC.ti.keep tb sg (fun _ _ => rfl) (fun a h g => ?_)
      rw [upd_ne (fun z => ?_)]
      · exact g
      · obtain ⟨ps, hp⟩ := TC.ti.tbl tb a h
        rw [z, hd] at hp
        cases hp
/-- what is left behind the suite: the exception's name is gone -/
def noX (i : Nat) : Res → Option Res
  | .nx Γ => some (.nx (Γ.set i .no))
  | .rt d => some (.rt d)
  | _ => none
def sTryE (N i : Nat) (F : Sm) (g : Addr → Addr → Sm) : Sm := fun Γ => (F Γ).bind fun r => match r with
  | .ra n => (g 0 0 ((List.replicate N .no).set i (.sh (.exc 0 0 n)))).bind (noX i)
  | r => some r
/-- what is asked of the class -/
structure IpX (K : PySem.W.Frag) (mg : Str → Option Value) : Prop where
  ex : ∃ C, mg "InvalidPaper" = some (.ref C) ∧ PySem.W.exmOne K (.ref C) (.ref C) = some true ∧ XfC K C ∧ PySem.W.findIn K (.ref C) "line" = some none ∧ (PySem.W.clsIn K C).isSome = true ∧
    PySem.W.findIn K (.ref C) "__class__" = some (some (.builtin "object.__class__")) ∧ PySem.W.specialIn K (.builtin "object.__class__") "__get__" = some (some (.builtin "getset_descriptor.__get__")) ∧ PySem.W.takesIn K (.builtin "object.__class__") = some true ∧ PySem.W.mroIn K C (.type "object") = some true ∧ (∃ CL, mg "LinesError" = some (.ref CL) ∧ PySem.W.kitOne K (.ref C) (.ref CL) = some true) ∧ PySem.W.kitOne K (.ref C) (.type "ValueError") = some true
section
variable {X : Cx}
theorem s_tryE (i : Nat) {n : Nat} {x : Str} {body suite : List Stmt} {b₀ : Stmt} {np pos' pos : Pos} {F : Sm} {g : Addr → Addr → Sm} (ip : IpX X.K X.mg) (hN : X.N.Nodup)
    (hb : ∀ (pn : List (Addr × Obj)) (xe : Value → Shared → Prop), PassesOwn (model X.prog X.w) X.A X.env xe → Ss (X.tr pn xe) body F)
    (hsu : ∀ (a dx C : Addr) (oe : Obj) (pn : List (Addr × Obj)), X.mg "InvalidPaper" = some (.ref C) → Zc (.ref C) (some dx) oe → (∃ vs, oe.data = .fields vs) → Ss (X.suite a ((a, oe) :: pn)) (b₀ :: suite) (g a dx))
    (hpar : ∀ a dx m, (g a dx ((List.replicate n .no).set i (.sh (.exc a dx m)))).bind (noX i) = (g 0 0 ((List.replicate n .no).set i (.sh (.exc 0 0 m)))).bind (noX i))
    (hi : X.N[i]? = some x := by rfl) (hln : X.env.kindOf x = some .local := by rfl) (hs : X.stack = X.env :: X.outer := by rfl) (hf : X.env.frame = some X.env.locals := by rfl) (hg : Gl X "InvalidPaper" := by rfl) (hn : X.N.length = n := by rfl) :
    DL.S X (.Try body [.ExceptHandler (some (.Name "InvalidPaper" np)) (some x) (b₀ :: suite) pos'] [] [] pos) (sTryE n i F g) := by
  obtain ⟨C, hmg, hex, _⟩ := ip.ex
  refine ⟨⟨_, ps_try_as (Wout := WS X) (tb := tRx X F) (ts := fun a cls d D σ H => ∃ dx, cls = .ref C ∧ d = some dx ∧ tRx X (g a dx) (fun _ _ _ _ => False) D σ H) hs hf hN hi hln ⟨hg, by decide, .inl hmg⟩ takes_WS (fun W pn xe tk hp => tr_pss (hb pn xe hp) tk)
    (fun a oe cls d pn hz hf => ⟨fun pins s σ H D I ⟨dx, hc, hd, h⟩ => (suite_pss (hsu a dx C oe pn hmg (by subst hc hd; exact hz) hf)).run pins s σ H D I h⟩), fun G0 H0 Z Γ σ G H D r R hF k => ?_⟩⟩
  obtain ⟨r1, e1, hF⟩ := obind hF
  refine ⟨G0, H0, Z, Γ, G, r1, R, e1, ?_⟩
  cases r1 with
  | ra m =>
    replace hF : (g 0 0 ((List.replicate n .no).set i (.sh (.exc 0 0 m)))).bind (noX i) = some r := hF
    refine fun cls d σ' G' H' hl R' xi => ?_
    obtain ⟨C', dx, hm', rfl, rfl, hx, hx0⟩ := xi
    rw [hmg] at hm'
    cases hm'
    refine ⟨true, hex, fun _ a ha => ?_, fun z => by cases z⟩
    rw [← hpar a dx m] at hF
    obtain ⟨r2, e2, hF⟩ := obind hF
    obtain ⟨G2, s2, g2, R2⟩ := R'.addX (fun s hs => (List.mem_replicate.mp hs).2) hx hx0
    have R3 := R2.set i (v := .ref a) (d := .exc a dx m) (.exc g2)
    refine ⟨dx, rfl, rfl, G0, H0, Z, _, G2, r2, R3, by rw [hl, hn]; exact e2, ?_⟩
    cases r2 with
    | nx Γ2 => cases hF; exact fun σ3 G3 H3 R3 => k _ G3 H3 (R3.drop i)
    | rt d => cases hF; exact k
    | ra n => cases hF
    | rm d s => cases hF
    | ro s => cases hF
    | bk Γ => cases hF
    | ct Γ => cases hF
  | nx Γ => cases hF; exact k
  | rt d => cases hF; exact k
  | rm d s => cases hF; exact k
  | ro s => cases hF; exact k
  | bk Γ => cases hF; exact k
  | ct Γ => cases hF; exact k
/-- e.line -/
def gXl (a dx : Addr) (i : Nat) : Ex := fun Γ => match Γ[i]? with
  | some (.sh (.exc a' dx' n)) => if a' = a ∧ dx' = dx then some (.int n) else none
  | _ => none
theorem e_xl (i : Nat) {a dx C : Addr} {oe : Obj} {pn : List (Addr × Obj)} {x : Str} {p pos : Pos} (ip : IpX X.K X.mg) (hmg : X.mg "InvalidPaper" = some (.ref C)) (hz : Zc (.ref C) (some dx) oe) (hfd : ∃ vs, oe.data = .fields vs)
    (hN : X.N[i]? = some x := by rfl) (hv : Vis X.env.scope x := by first | exact Or.inl rfl | exact Or.inr (Or.inl rfl) | exact Or.inr (Or.inr rfl)) (hd : (x == ("__debug__" : Str)) = false := by decide)
    (hcd : (x == ("__classdict__" : Str)) = false := by decide) (hb : attributeBase (.Name x p) "line" X.env (eval (.Name x p) X.env) = eval (.Name x p) X.env := by rfl) : E (X.suite a ((a, oe) :: pn)) (.Attribute (.Name x p) "line" pos) (gXl a dx i) := by
  obtain ⟨C', hm', _, T, hno, _⟩ := ip.ex
  rw [hmg] at hm'
  cases hm'
  refine ⟨⟨_, pe_xf (X := X) T hno hz hfd (pe_var (X := X.suite a ((a, oe) :: pn)) hN hv hd hcd) hb, fun G0 H0 Z Γ σ G H Q d R hf k => ?_⟩⟩
  unfold gXl at hf
  cases q : Γ[i]? with
  | none => rw [q] at hf; cases hf
  | some s =>
    rw [q] at hf
    cases s with
    | sh d' =>
      cases d' with
      | exc a' dx' n =>
        simp only at hf
        split at hf
        · rename_i e
          obtain ⟨rfl, rfl⟩ := e
          cases hf
          obtain ⟨v, h1, h2⟩ := R.sh q
          cases h2 with
          | exc h => exact ⟨_, h1, rfl, rfl, _, _, _, rfl, R.gh _ _ h, rfl, k G H _ (Ext.refl R.gh) (.int n)⟩
        · cases hf
      | _ => cases hf
    | _ => cases hf
/-- isinstance(e, T), true -/
def gXi (a dx : Addr) (i : Nat) : Ex := fun Γ => match Γ[i]? with
  | some (.sh (.exc a' dx' _)) => if a' = a ∧ dx' = dx then some (.bl true) else none
  | _ => none
def rIsX (K : PySem.W.Frag) (a dx D : Addr) : List V → Hp → VK → Prop := fun xs H Q => ∃ (c : V) (cv : Value) (fs : List (Str × V)), xs = [.ref a, c] ∧ (∀ u, RelV c u → u = cv) ∧ PySem.W.kitOne K (.ref D) cv = some true ∧ H dx = some (.xd fs) ∧ Q (.bl true) H
theorem call_isX {a dx D : Addr} {oe : Obj} {pn : List (Addr × Obj)} (T : XfC X.K D) (hcl : (PySem.W.clsIn X.K D).isSome = true) (ha : PySem.W.findIn X.K (.ref D) "__class__" = some (some (.builtin "object.__class__"))) (hn : PySem.W.specialIn X.K (.builtin "object.__class__") "__get__" = some (some (.builtin "getset_descriptor.__get__")))
    (ht : PySem.W.takesIn X.K (.builtin "object.__class__") = some true) (hm : PySem.W.mroIn X.K D (.type "object") = some true) (hz : Zc (.ref D) (some dx) oe) (hf : ∃ vs, oe.data = .fields vs) : CallR (X.suite a ((a, oe) :: pn)) (.builtin "isinstance") (rIsX X.K a dx D) := by
  intro pins s σ H xs us Q I r h
  obtain ⟨c, cv, fs, rfl, hcv, e, hx, q⟩ := h
  cases r with
  | cons rx rr =>
    cases rr with
    | cons rt rr =>
      cases rr
      cases rx
      have ec := hcv _ rt
      subst ec
      obtain ⟨hget, _⟩ := I.pin (a, oe) (List.mem_append.mpr (.inl List.mem_cons_self))
      obtain ⟨vs, hv⟩ := hf
      have hxd : ObjOk X.prog X.w H s.heap dx (.xd fs) := I.hok dx _ hx
      obtain ⟨mA, hns, hr⟩ := hxd
      obtain ⟨od, ho, hl⟩ := lookIn_ns hns
      have J : PySem.W.InstAt s.heap a oe D (some od) := ⟨hget, hz.1, by unfold PySem.W.notCls; rw [hv] <;> rfl, by rw [hz.2]; exact ho⟩
      exact PySem.W.kia_one (PySem.W.kitx_exc hcl T.ga T.gg T.exC ha hn ht hm) I.kIn J e (fun z => nomatch z) fun tk => ⟨.bl true, H, I.kept (t' := tk) fun _ _ z => z, rfl, q⟩
theorem e_xi (i : Nat) {a dx C : Addr} {oe : Obj} {pn : List (Addr × Obj)} {x f : Str} {p p1 pos : Pos} {te : Expr} {cv : V} {cu : Value} (ip : IpX X.K X.mg) (hmg : X.mg "InvalidPaper" = some (.ref C)) (hz : Zc (.ref C) (some dx) oe) (hfd : ∃ vs, oe.data = .fields vs)
    (hT : PE (X.suite a ((a, oe) :: pn)) te (tC cv)) (hcv : ∀ u, RelV cv u → u = cu) (hk : PySem.W.kitOne X.K (.ref C) cu = some true) (hgi : Gl X f) (hmi : X.mg f = none) (hvi : bootBuiltins f = some (.builtin "isinstance"))
    (hN : X.N[i]? = some x := by rfl) (hv : Vis X.env.scope x := by first | exact Or.inl rfl | exact Or.inr (Or.inl rfl) | exact Or.inr (Or.inr rfl)) (hd : (x == ("__debug__" : Str)) = false := by decide)
    (hcd : (x == ("__classdict__" : Str)) = false := by decide) (hn : f ≠ "__name__" := by decide) (hdb : (f == ("__debug__" : Str)) = false := by decide)
    (he : starEach [.Name x p, te] X.env = (false, eval (.Name x p) X.env) :: starEach [te] X.env := by rfl) (he2 : starEach [te] X.env = (false, eval te X.env) :: starEach [] X.env := by rfl) (hpl : (backTo pos (starEach [te] X.env)).any (·.1) = false := by rfl) : E (X.suite a ((a, oe) :: pn)) (.Call (.Name f p1) [.Name x p, te] [] pos) (gXi a dx i) := by
  obtain ⟨C', hm', _, T, hno, hcl, ha, hnn, ht, hm, _⟩ := ip.ex
  rw [hmg] at hm'
  cases hm'
  refine ⟨⟨_, pe_callB (X := X.suite a ((a, oe) :: pn)) (call_isX T hcl ha hnn ht hm hz hfd) hgi hmi hvi (pa_cons (pe_var (X := X.suite a ((a, oe) :: pn)) hN hv hd hcd) (pa_cons hT pa_nil he2) he) hn hdb he hpl, fun G0 H0 Z Γ σ G H Q d R hf k => ?_⟩⟩
  unfold gXi at hf
  cases q : Γ[i]? with
  | none => rw [q] at hf; cases hf
  | some s =>
    rw [q] at hf
    cases s with
    | sh d' =>
      cases d' with
      | exc a' dx' n =>
        simp only at hf
        split at hf
        · rename_i e
          obtain ⟨rfl, rfl⟩ := e
          cases hf
          obtain ⟨v, h1, h2⟩ := R.sh q
          cases h2 with
          | exc h => exact ⟨_, h1, _, cu, _, rfl, hcv, hk, R.gh _ _ h, k G H _ (Ext.refl R.gh) (.bl true)⟩
        · cases hf
      | _ => cases hf
    | _ => cases hf
theorem e_xiL (i : Nat) {a dx C : Addr} {oe : Obj} {pn : List (Addr × Obj)} {x : Str} {p p1 p2 pos : Pos} (ip : IpX X.K X.mg) (hmg : X.mg "InvalidPaper" = some (.ref C)) (hz : Zc (.ref C) (some dx) oe) (hfd : ∃ vs, oe.data = .fields vs) (hmi : X.mg "isinstance" = none)
    (hN : X.N[i]? = some x := by rfl) (hv : Vis X.env.scope x := by first | exact Or.inl rfl | exact Or.inr (Or.inl rfl) | exact Or.inr (Or.inr rfl)) (hd : (x == ("__debug__" : Str)) = false := by decide) (hcd : (x == ("__classdict__" : Str)) = false := by decide)
    (hgi : Gl X "isinstance" := by rfl) (hgl : Gl X "LinesError" := by rfl) (he : starEach [.Name x p, .Name "LinesError" p2] X.env = (false, eval (.Name x p) X.env) :: starEach [.Name "LinesError" p2] X.env := by rfl) (he2 : starEach [.Name "LinesError" p2] X.env = (false, eval (.Name "LinesError" p2) X.env) :: starEach [] X.env := by rfl)
    (hpl : (backTo pos (starEach [.Name "LinesError" p2] X.env)).any (·.1) = false := by rfl) : E (X.suite a ((a, oe) :: pn)) (.Call (.Name "isinstance" p1) [.Name x p, .Name "LinesError" p2] [] pos) (gXi a dx i) := by
  obtain ⟨C', hm', _, _, _, _, _, _, _, _, ⟨CL, hL, hk⟩, _⟩ := ip.ex
  rw [hmg] at hm'
  cases hm'
  exact e_xi i ip hmg hz hfd (cv := .ref CL) (pe_glob (X := X.suite a ((a, oe) :: pn)) hgl hL rfl) (fun u h => h) hk hgi hmi boot_isinstance' hN hv hd hcd (by decide) (by decide) he he2 hpl
theorem e_xiV (i : Nat) {a dx C : Addr} {oe : Obj} {pn : List (Addr × Obj)} {x : Str} {p p1 p2 pos : Pos} (ip : IpX X.K X.mg) (hmg : X.mg "InvalidPaper" = some (.ref C)) (hz : Zc (.ref C) (some dx) oe) (hfd : ∃ vs, oe.data = .fields vs) (hmi : X.mg "isinstance" = none) (hmv : X.mg "ValueError" = none)
    (hN : X.N[i]? = some x := by rfl) (hv : Vis X.env.scope x := by first | exact Or.inl rfl | exact Or.inr (Or.inl rfl) | exact Or.inr (Or.inr rfl)) (hd : (x == ("__debug__" : Str)) = false := by decide) (hcd : (x == ("__classdict__" : Str)) = false := by decide)
    (hgi : Gl X "isinstance" := by rfl) (hgl : Gl X "ValueError" := by rfl) (he : starEach [.Name x p, .Name "ValueError" p2] X.env = (false, eval (.Name x p) X.env) :: starEach [.Name "ValueError" p2] X.env := by rfl) (he2 : starEach [.Name "ValueError" p2] X.env = (false, eval (.Name "ValueError" p2) X.env) :: starEach [] X.env := by rfl)
    (hpl : (backTo pos (starEach [.Name "ValueError" p2] X.env)).any (·.1) = false := by rfl) : E (X.suite a ((a, oe) :: pn)) (.Call (.Name "isinstance" p1) [.Name x p, .Name "ValueError" p2] [] pos) (gXi a dx i) := by
  obtain ⟨C', hm', _, _, _, _, _, _, _, _, _, hk⟩ := ip.ex
  rw [hmg] at hm'
  cases hm'
  exact e_xi i ip hmg hz hfd (cv := .ty "ValueError") (pe_bltn (X := X.suite a ((a, oe) :: pn)) hgl hmv PyProof.Rows.Boot.«ValueError» rfl) (fun u h => h) hk hgi hmi boot_isinstance' hN hv hd hcd (by decide) (by decide) he he2 hpl
end
end DL

/-! DL50: a text times an int -/
namespace DL
open PySem L2
variable [TC : TabCtx]
open Classical in
noncomputable def dMulS : D → D → Option D
  | .str x, .int n => if MulOk x n then some (.str (Txt.mul x n)) else none
  | _, _ => none
def rMulS : R2 := fun x y H Q => ∃ t n, x = .str t ∧ y = .int n ∧ MulOk t n ∧ Q (.str (Txt.mul t n)) H
theorem op_mulS {X : Cx} : OpR X (binaryOp .Mult) rMulS := by
  intro pins s σ H x y v u Q I rx ry h
  obtain ⟨t, n, rfl, rfl, ok, q⟩ := h
  obtain ⟨tk, rfl⟩ := rx
  obtain ⟨tn, rfl⟩ := ry
  exact SB.mul ok fun t' k => ⟨.str (Txt.mul t n), H, I.tok k, ⟨t', rfl⟩, q⟩
theorem od_mulS {X : Cx} : OpD X (binaryOp .Mult) dMulS := by
  refine ⟨_, op_mulS, fun x y d v w G H Q gh e rx ry k => ?_⟩
  unfold dMulS at e
  split at e
  · split at e
    · rename_i ok
      cases e
      rw [rx.strv, ry.intv]
      exact ⟨_, _, rfl, rfl, ok, k G H _ (Ext.refl gh) (.str _)⟩
    · cases e
  · cases e
/-- a sign not in a text -/
def dNInS : D → D → Option D
  | .str x, .str z => match x.cps.toList with
    | [c] => some (.bl (!decide (c ∈ z.cps.toList)))
    | _ => none
  | _, _ => none
theorem od_ninS {X : Cx} [TC : TabCtx] : OpD X (compareOp .NotIn) dNInS := by
  refine ⟨_, op_notIn_sign, fun x y d v w G H Q gh e r1 r2 k => ?_⟩
  cases x with
  | str x =>
    cases y with
    | str z =>
      replace e : (match x.cps.toList with | [c] => some (D.bl (!decide (c ∈ z.cps.toList))) | _ => none) = some d := e
      split at e
      · cases e
        rename_i c hc
        have ex : x = ⟨#[c]⟩ := TL.ext_tl hc
        rw [r1.strv, r2.strv]
        exact ⟨c, z, by rw [ex], rfl, k G H _ (Ext.refl gh) (.bl _)⟩
      · cases e
    | _ => cases e
  | _ => cases e
end DL

namespace K37
open PySem L2 DL
def topS (i : Nat) : Stmt := PySem.Challenge.pw_fewestlines_k37_first_wrong_line_of_a_cu.main.body.getD i (.Pass ⟨0, 0, 0, 0⟩)
section
variable {P : Program} {w : World} {K : PySem.W.Frag} {mg : Str → Option Value} {base : Heap}
/-! _law_digits -/
abbrev s__law_digits : Stmt := topS 19
abbrev N__law_digits : List Str := ["cell", "many", "count", "digits", "rest", "k", "mixed"]
theorem sc__law_digits : FnScope N__law_digits ["cell", "many", "count"] (defScope s__law_digits) := ⟨rfl, rfl, rfl, by decide +kernel, rfl, by decide +kernel, by decide +kernel⟩
noncomputable def B__law_digits : Sm :=
  (sSeq (sSetO 3 aN)
  (sSeq (sSet 4 (gV 0))
  (sSeq (sFor (gRng (aC (gV 2) aN)) (gN 5)
  (sIf (gT (gOp dGe (gV 0) (gOp dPow (gI 10) (gI 18))))
  (sSeq (sApp 3 [] (gOp dMod (gU dInt (gB 4)) (gV 1)))
  (sSet 4 (gOp dDiv (gV 4) (gV 1))))
  (sSeq (sSet 6 (gOp dMod (gU dInt (gOp dAdd (gOp dAdd (gOp dMul (gV 0) (gI 48271)) (gOp dMul (gV 5) (gI 69621))) (gI 1013))) (gI 2147483647)))
  (sSeq (sSet 6 (gOp dMod (gU dInt (gOp dAdd (gOp dAdd (gOp dMul (gV 6) (gV 6)) (gOp dMul (gI 7) (gV 6))) (gV 5))) (gI 2147483629)))
  (sApp 3 [] (gOp dMod (gU dInt (gOp dDiv (gV 6) (gI 31))) (gV 1)))))))
  (sFrz 3 (sRet (gV 3))))))
noncomputable def S__law_digits : List D → Option D := runB 7 B__law_digits
theorem ok__law_digits {f : Addr} {fd : FuncData} (F : Fun K "_law_digits" "_law_digits" s__law_digits f fd) (m_range : mg "range" = none) (m_int : mg "int" = none) : FnOk P w K mg base CX0 1 f fd ["cell", "many", "count"] (spD K mg 3 S__law_digits) :=
  def_ok F sc__law_digits fun cdv A outer s H E hr =>
  (ss_cons (s_setO 3 sc__law_digits.nd (el_lst n_nil))
  (ss_cons (s_set 4 sc__law_digits.nd (e_var 0))
  (ss_cons (s_for PassesOwn.never rfl (i_rng1 (by rfl) m_range (n_cons (e_var 2) n_nil)).fb (g_name 5 sc__law_digits.nd)
  (ss_one (s_if (t_cmp od_ge (e_var 0) (e_op od_pow e_int e_int))
  (ss_cons (s_app (pl_var 3) (e_op od_mod (e_cty cb_int (by rfl) m_int boot_int' (b_var 4)) (e_var 1)))
  (ss_one (s_set 4 sc__law_digits.nd (e_op od_div (e_var 4) (e_var 1)))))
  (ss_cons (s_set 6 sc__law_digits.nd (e_op od_mod (e_cty cb_int (by rfl) m_int boot_int' (e_op od_add (e_op od_add (e_op od_mul (e_var 0) e_int) (e_op od_mul (e_var 5) e_int)) e_int).bo) e_int))
  (ss_cons (s_set 6 sc__law_digits.nd (e_op od_mod (e_cty cb_int (by rfl) m_int boot_int' (e_op od_add (e_op od_add (e_op od_mul (e_var 6) (e_var 6)) (e_op od_mul e_int (e_var 6))) (e_var 5)).bo) e_int))
  (ss_one (s_app (pl_var 3) (e_op od_mod (e_cty cb_int (by rfl) m_int boot_int' (e_op od_div (e_var 6) e_int).bo) (e_var 1)))))))))
  (ss_one (s_frz 3 (s_ret (e_var 3)))))))
/-! _law_number -/
abbrev s__law_number : Stmt := topS 20
abbrev N__law_number : List Str := ["digit", "rest"]
theorem sc__law_number : FnScope N__law_number ["digit"] (defScope s__law_number) := ⟨rfl, rfl, rfl, by decide +kernel, rfl, by decide +kernel, by decide +kernel⟩
noncomputable def B__law_number : Sm :=
  (sSeq (sSet 1 (gU dInt (gOp dDiv (gV 0) (gI 8))))
  (sRet (gIx (gL (aC (gI 0) (aC (gI 1) (aC (gI 7) (aC (gI 10) (aC (gOp dSub (gI 0) (gI 1)) (aC (gOp dSub (gI 0) (gI 30)) (aC (gOp dAdd (gOp dMul (gV 1) (gOp dPow (gI 10) (gI 15))) (gI 5)) (aC (gOp dSub (gOp dSub (gI 0) (gOp dMul (gV 1) (gOp dPow (gI 10) (gI 15)))) (gI 1)) aN))))))))) (gOp dMod (gU dInt (gB 0)) (gI 8)))))
noncomputable def S__law_number : List D → Option D := runB 2 B__law_number
theorem ok__law_number {f : Addr} {fd : FuncData} (F : Fun K "_law_number" "_law_number" s__law_number f fd) (m_int : mg "int" = none) : FnOk P w K mg base CX0 1 f fd ["digit"] (spD K mg 1 S__law_number) :=
  def_ok F sc__law_number fun cdv A outer s H E hr =>
  (ss_cons (s_set 1 sc__law_number.nd (e_cty cb_int (by rfl) m_int boot_int' (e_op od_div (e_var 0) e_int).bo))
  (ss_one (s_ret (e_ix (el_lst (n_cons e_int (n_cons e_int (n_cons e_int (n_cons e_int (n_cons (e_op od_sub e_int e_int) (n_cons (e_op od_sub e_int e_int) (n_cons (e_op od_add (e_op od_mul (e_var 1) (e_op od_pow e_int e_int)) e_int) (n_cons (e_op od_sub (e_op od_sub e_int (e_op od_mul (e_var 1) (e_op od_pow e_int e_int))) e_int) n_nil))))))))).fz.bo (e_op od_mod (e_cty cb_int (by rfl) m_int boot_int' (b_var 0)) e_int)))))
/-! _law_cutting -/
abbrev s__law_cutting : Stmt := topS 21
abbrev N__law_cutting : List Str := ["cell", "digits", "pieces", "reasons", "k", "row"]
theorem sc__law_cutting : FnScope N__law_cutting ["cell"] (defScope s__law_cutting) := ⟨rfl, rfl, rfl, by decide +kernel, rfl, by decide +kernel, by decide +kernel⟩
noncomputable def B__law_cutting : Sm :=
  (sSeq (sSet 1 (gCall S__law_digits (aC (gV 0) (aC (gI 1600) (aC (gI 60) aN)))))
  (sSeq (sSetO 2 aN)
  (sSeq (sSetO 3 aN)
  (sSeq (sFor (gRng (aC (gOp dMod (gU dInt (gIx (gB 1) (gI 0))) (gI 7)) aN)) (gN 4)
  (sSeq (sSet 5 (gL (gSl (gB 1) (gSo (gOp dAdd (gI 1) (gOp dMul (gI 8) (gV 4)))) (gSo (gOp dAdd (gI 9) (gOp dMul (gI 8) (gV 4)))))))
  (sSeq (sApp 2 [] (gTu 2 (aC (gU dAbs (gCall S__law_number (aC (gIx (gB 5) (gI 0)) aN))) (aC (gTu 3 (aC (gCall S__law_number (aC (gIx (gB 5) (gI 1)) aN)) (aC (gCall S__law_number (aC (gIx (gB 5) (gI 2)) aN)) (aC (gU dAbs (gCall S__law_number (aC (gIx (gB 5) (gI 3)) aN))) aN)))) aN))))
  (sIf (gT (gOp dGt (gV 4) (gI 0)))
  (sApp 3 [] (gTu 3 (aC (gU dAbs (gCall S__law_number (aC (gIx (gB 5) (gI 4)) aN))) (aC (gU dAbs (gCall S__law_number (aC (gIx (gB 5) (gI 5)) aN))) (aC (gU dAbs (gCall S__law_number (aC (gIx (gB 5) (gI 6)) aN))) aN)))))
  sNil))))
  (sFrz 3 (sFrz 2 (sRet (gTu 2 (aC (gV 2) (aC (gV 3) aN))))))))))
noncomputable def S__law_cutting : List D → Option D := runB 6 B__law_cutting
theorem ok__law_cutting {f : Addr} {fd : FuncData} (F : Fun K "_law_cutting" "_law_cutting" s__law_cutting f fd) (c__law_digits : Cal P w K mg base "_law_digits" 1 ["cell", "many", "count"] S__law_digits) (m_int : mg "int" = none) (m_range : mg "range" = none) (c__law_number : Cal P w K mg base "_law_number" 1 ["digit"] S__law_number) (m_abs : mg "abs" = none) : FnOk P w K mg base CX0 2 f fd ["cell"] (spD K mg 1 S__law_cutting) :=
  def_ok F sc__law_cutting fun cdv A outer s H E hr =>
  (ss_cons (s_set 1 sc__law_cutting.nd (e_callC c__law_digits hr (by decide) (n_cons (e_var 0) (n_cons e_int (n_cons e_int n_nil)))))
  (ss_cons (s_setO 2 sc__law_cutting.nd (el_lst n_nil))
  (ss_cons (s_setO 3 sc__law_cutting.nd (el_lst n_nil))
  (ss_cons (s_for PassesOwn.never rfl (i_rng1 (by rfl) m_range (n_cons (e_op od_mod (e_cty cb_int (by rfl) m_int boot_int' (e_ix (b_var 1) e_int).bo) e_int) n_nil)).fb (g_name 4 sc__law_cutting.nd)
  (ss_cons (s_set 5 sc__law_cutting.nd (el_sl (b_var 1) (o_so (e_op od_add e_int (e_op od_mul e_int (e_var 4)))) (o_so (e_op od_add e_int (e_op od_mul e_int (e_var 4))))).fz)
  (ss_cons (s_app (pl_var 2) (e_tup (n_cons (e_cb cb_abs (by rfl) m_abs boot_abs' (e_callC c__law_number hr (by decide) (n_cons (e_ix (b_var 5) e_int) n_nil)).bo) (n_cons (e_tup (n_cons (e_callC c__law_number hr (by decide) (n_cons (e_ix (b_var 5) e_int) n_nil)) (n_cons (e_callC c__law_number hr (by decide) (n_cons (e_ix (b_var 5) e_int) n_nil)) (n_cons (e_cb cb_abs (by rfl) m_abs boot_abs' (e_callC c__law_number hr (by decide) (n_cons (e_ix (b_var 5) e_int) n_nil)).bo) n_nil)))) n_nil))))
  (ss_one (s_if (t_cmp od_gt (e_var 4) e_int)
  (ss_one (s_app (pl_var 3) (e_tup (n_cons (e_cb cb_abs (by rfl) m_abs boot_abs' (e_callC c__law_number hr (by decide) (n_cons (e_ix (b_var 5) e_int) n_nil)).bo) (n_cons (e_cb cb_abs (by rfl) m_abs boot_abs' (e_callC c__law_number hr (by decide) (n_cons (e_ix (b_var 5) e_int) n_nil)).bo) (n_cons (e_cb cb_abs (by rfl) m_abs boot_abs' (e_callC c__law_number hr (by decide) (n_cons (e_ix (b_var 5) e_int) n_nil)).bo) n_nil))))))
  ss_nil)))))
  (ss_one (s_frz 3 (s_frz 2 (s_ret (e_tup (n_cons (e_var 2) (n_cons (e_var 3) n_nil)))))))))))
/-! _law_lines -/
abbrev s__law_lines : Stmt := topS 22
abbrev N__law_lines : List Str := ["pieces", "reasons", "lines", "k", "start", "line", "number"]
theorem sc__law_lines : FnScope N__law_lines ["pieces", "reasons"] (defScope s__law_lines) := ⟨rfl, rfl, rfl, by decide +kernel, rfl, by decide +kernel, by decide +kernel⟩
noncomputable def B__law_lines : Sm :=
  (sSeq (sSetO 2 (aC (gC (.str "cutting")) aN))
  (sSeq (sFor (gRng (aC (gU dLen (gB 0)) aN)) (gN 3)
  (sSeq (sUnp (gTg 2 (gTo (gN 4) (gTo (gN 5) gEnd))) (gIx (gB 0) (gV 3)))
  (sSeq (sApp 2 [] (gOp dAdd (gOp dAdd (gOp dAdd (gC (.str "piece ")) (gU dStrI (gB 4))) (gC (.str " "))) (gOp dJoin (gC (.str " ")) (gL (gLc [6] (gIt (gV 5)) (gN 6) gYes (gU dStrI (gB 6)))))))
  (sIf (gT (gOp dLt (gV 3) (gU dLen (gB 1))))
  (sApp 2 [] (gOp dAdd (gC (.str "reason ")) (gOp dJoin (gC (.str " ")) (gL (gLc [6] (gIt (gIx (gB 1) (gV 3))) (gN 6) gYes (gU dStrI (gB 6)))))))
  sNil))))
  (sFrz 2 (sRet (gV 2)))))
noncomputable def S__law_lines : List D → Option D := runB 7 B__law_lines
theorem ok__law_lines {f : Addr} {fd : FuncData} (F : Fun K "_law_lines" "_law_lines" s__law_lines f fd) (m_len : mg "len" = none) (m_range : mg "range" = none) (m_str : mg "str" = none) : FnOk P w K mg base CX0 1 f fd ["pieces", "reasons"] (spD K mg 2 S__law_lines) :=
  def_ok F sc__law_lines fun cdv A outer s H E hr =>
  (ss_cons (s_setO 2 sc__law_lines.nd (el_lst (n_cons e_str n_nil)))
  (ss_cons (s_for PassesOwn.never rfl (i_rng1 (by rfl) m_range (n_cons (e_cb cb_len (by rfl) m_len boot_len' (b_var 0)) n_nil)).fb (g_name 3 sc__law_lines.nd)
  (ss_cons (s_unp (e_ix (b_var 0) (e_var 3)) (g_tup rfl (gl_cons (g_name 4 sc__law_lines.nd) (gl_cons (g_name 5 sc__law_lines.nd) gl_nil))))
  (ss_cons (s_app (pl_var 2) (e_op od_add (e_op od_add (e_op od_add e_str (e_cty cb_strI (by rfl) m_str rfl (b_var 4))) e_str) (e_join e_str (el_lc (own := [("number", 6)]) rfl sc__law_lines.nd (i_list (e_var 5)).c (blkOk_by (own := [("number", 6)]) (N := N__law_lines) (sc := defScope s__law_lines) (by decide +kernel)) (by decide) (fun _ _ _ _ _ => (g_name 6 sc__law_lines.nd)) (fun _ _ _ _ _ => ts_nil) (fun _ _ _ _ _ => (e_cty cb_strI (by rfl) m_str rfl (b_var 6)))).fz.bo)))
  (ss_one (s_if (t_cmp od_lt (e_var 3) (e_cb cb_len (by rfl) m_len boot_len' (b_var 1)))
  (ss_one (s_app (pl_var 2) (e_op od_add e_str (e_join e_str (el_lc (own := [("number", 6)]) rfl sc__law_lines.nd (i_list (e_ix (b_var 1) (e_var 3))).c (blkOk_by (own := [("number", 6)]) (N := N__law_lines) (sc := defScope s__law_lines) (by decide +kernel)) (by decide) (fun _ _ _ _ _ => (g_name 6 sc__law_lines.nd)) (fun _ _ _ _ _ => ts_nil) (fun _ _ _ _ _ => (e_cty cb_strI (by rfl) m_str rfl (b_var 6)))).fz.bo))))
  ss_nil)))))
  (ss_one (s_frz 2 (s_ret (e_var 2))))))
/-! _law_cell -/
abbrev s__law_cell : Stmt := topS 18
abbrev N__law_cell : List Str := ["script", "k"]
theorem sc__law_cell : FnScope N__law_cell ["script", "k"] (defScope s__law_cell) := ⟨rfl, rfl, rfl, by decide +kernel, rfl, by decide +kernel, by decide +kernel⟩
noncomputable def B__law_cell : Sm :=
  (sSeq (sIf (gT (gOp dLt (gV 1) (gU dLen (gB 0))))
  (sRet (gIx (gB 0) (gV 1)))
  sNil)
  (sRet (gI 0)))
noncomputable def S__law_cell : List D → Option D := runB 2 B__law_cell
theorem ok__law_cell {f : Addr} {fd : FuncData} (F : Fun K "_law_cell" "_law_cell" s__law_cell f fd) (m_len : mg "len" = none) : FnOk P w K mg base CX0 1 f fd ["script", "k"] (spD K mg 2 S__law_cell) :=
  def_ok F sc__law_cell fun cdv A outer s H E hr =>
  (ss_cons (s_if (t_cmp od_lt (e_var 1) (e_cb cb_len (by rfl) m_len boot_len' (b_var 0)))
  (ss_one (s_ret (e_ix (b_var 0) (e_var 1))))
  ss_nil)
  (ss_one (s_ret e_int)))
/-! _law_changed -/
abbrev s__law_changed : Stmt := topS 26
abbrev N__law_changed : List Str := ["lines", "cell", "odd", "choice", "at", "other", "text", "place", "char", "rest"]
theorem sc__law_changed : FnScope N__law_changed ["lines", "cell", "odd"] (defScope s__law_changed) := ⟨rfl, rfl, rfl, by decide +kernel, rfl, by decide +kernel, by decide +kernel⟩
noncomputable def B__law_changed : Sm :=
  (sSeq (sSet 3 (gOp dMod (gU dInt (gB 1)) (gI 9)))
  (sSeq (sSet 4 (gOp dMod (gU dInt (gOp dDiv (gV 1) (gI 9))) (gA dMax2 (aC (gI 1) (aC (gU dLen (gB 0)) aN)))))
  (sSeq (sSet 5 (gU dInt (gOp dDiv (gV 1) (gI 1000))))
  (sSeq (sIf (gT (gOp dEq (gB 3) (gI 0)))
  (sRet (gOp dAdd (gL (gSl (gB 0) gNo (gSo (gV 4)))) (gL (gSl (gB 0) (gSo (gOp dAdd (gV 4) (gI 1))) gNo))))
  sNil)
  (sSeq (sIf (gT (gOp dEq (gB 3) (gI 1)))
  (sRet (gOp dAdd (gL (gSl (gB 0) gNo (gSo (gOp dAdd (gV 4) (gI 1))))) (gL (gSl (gB 0) (gSo (gV 4)) gNo))))
  sNil)
  (sSeq (sIf (gT (gOp dEq (gB 3) (gI 2)))
  (sSeq (sSet 9 (gOp dAdd (gL (gSl (gB 0) gNo (gSo (gV 4)))) (gL (gSl (gB 0) (gSo (gOp dAdd (gV 4) (gI 1))) gNo))))
  (sSeq (sSet 7 (gOp dMod (gU dInt (gB 5)) (gOp dAdd (gU dLen (gB 9)) (gI 1))))
  (sRet (gOp dAdd (gOp dAdd (gL (gSl (gB 9) gNo (gSo (gV 7)))) (gL (gSl (gB 0) (gSo (gV 4)) (gSo (gOp dAdd (gV 4) (gI 1)))))) (gL (gSl (gB 9) (gSo (gV 7)) gNo))))))
  sNil)
  (sSeq (sIf (gT (gOp dEq (gB 3) (gI 3)))
  (sRet (gOp dAdd (gOp dAdd (gL (gSl (gB 0) gNo (gSo (gV 4)))) (gL (aC (gIx (gB 2) (gOp dMod (gU dInt (gB 5)) (gU dLen (gB 2)))) aN))) (gL (gSl (gB 0) (gSo (gOp dAdd (gV 4) (gI 1))) gNo))))
  sNil)
  (sSeq (sIf (gT (gOp dEq (gB 3) (gI 4)))
  (sRet (gOp dAdd (gOp dAdd (gL (gSl (gB 0) gNo (gSo (gV 4)))) (gL (aC (gIx (gB 2) (gOp dMod (gU dInt (gB 5)) (gU dLen (gB 2)))) aN))) (gL (gSl (gB 0) (gSo (gV 4)) gNo))))
  sNil)
  (sSeq (sIf (gT (gOp dEq (gB 3) (gI 5)))
  (sRet (gOp dAdd (gV 0) (gL (aC (gC (.str "")) aN))))
  sNil)
  (sSeq (sIf (gT (gOp dEq (gB 3) (gI 6)))
  (sRet (gL (gSl (gB 0) gNo (gSo (gV 4)))))
  sNil)
  (sSeq (sSet 6 (gOp dJoin (gC (.str "\n")) (gB 0)))
  (sSeq (sSet 7 (gOp dMod (gU dInt (gB 5)) (gOp dAdd (gU dLen (gB 6)) (gI 1))))
  (sSeq (sSet 8 (gIx (gC (.str " 0-19,\tep+x")) (gOp dMod (gU dInt (gOp dDiv (gV 5) (gI 1000))) (gI 11))))
  (sSeq (sIf (gT (gOp dEq (gB 3) (gI 7)))
  (sRet (gL (gSplit (gOp dAdd (gSlS (gV 6) gNo (gSo (gV 7))) (gSlS (gV 6) (gSo (gOp dAdd (gV 7) (gI 1))) gNo)) (gC (.str "\n")))))
  sNil)
  (sRet (gL (gSplit (gOp dAdd (gOp dAdd (gSlS (gV 6) gNo (gSo (gV 7))) (gV 8)) (gSlS (gV 6) (gSo (gOp dAdd (gV 7) (gOp dMod (gU dInt (gOp dDiv (gV 5) (gI 11000))) (gI 2)))) gNo)) (gC (.str "\n")))))))))))))))))))
noncomputable def S__law_changed : List D → Option D := runB 10 B__law_changed
theorem ok__law_changed {f : Addr} {fd : FuncData} (F : Fun K "_law_changed" "_law_changed" s__law_changed f fd) (m_int : mg "int" = none) (m_len : mg "len" = none) (m_max : mg "max" = none) : FnOk P w K mg base CX0 1 f fd ["lines", "cell", "odd"] (spD K mg 3 S__law_changed) :=
  def_ok F sc__law_changed fun cdv A outer s H E hr =>
  (ss_cons (s_set 3 sc__law_changed.nd (e_op od_mod (e_cty cb_int (by rfl) m_int boot_int' (b_var 1)) e_int))
  (ss_cons (s_set 4 sc__law_changed.nd (e_op od_mod (e_cty cb_int (by rfl) m_int boot_int' (e_op od_div (e_var 1) e_int).bo) (e_cba (cb_max2 rfl) (by rfl) m_max boot_max' (n_cons e_int (n_cons (e_cb cb_len (by rfl) m_len boot_len' (b_var 0)) n_nil)).a)))
  (ss_cons (s_set 5 sc__law_changed.nd (e_cty cb_int (by rfl) m_int boot_int' (e_op od_div (e_var 1) e_int).bo))
  (ss_cons (s_if (t_cmpB (ob_eq hr.units) (b_var 3) e_int.bo)
  (ss_one (s_ret (e_op od_add (el_sl (b_var 0) o_no (o_so (e_var 4))).fz (el_sl (b_var 0) (o_so (e_op od_add (e_var 4) e_int)) o_no).fz)))
  ss_nil)
  (ss_cons (s_if (t_cmpB (ob_eq hr.units) (b_var 3) e_int.bo)
  (ss_one (s_ret (e_op od_add (el_sl (b_var 0) o_no (o_so (e_op od_add (e_var 4) e_int))).fz (el_sl (b_var 0) (o_so (e_var 4)) o_no).fz)))
  ss_nil)
  (ss_cons (s_if (t_cmpB (ob_eq hr.units) (b_var 3) e_int.bo)
  (ss_cons (s_set 9 sc__law_changed.nd (e_op od_add (el_sl (b_var 0) o_no (o_so (e_var 4))).fz (el_sl (b_var 0) (o_so (e_op od_add (e_var 4) e_int)) o_no).fz))
  (ss_cons (s_set 7 sc__law_changed.nd (e_op od_mod (e_cty cb_int (by rfl) m_int boot_int' (b_var 5)) (e_op od_add (e_cb cb_len (by rfl) m_len boot_len' (b_var 9)) e_int)))
  (ss_one (s_ret (e_op od_add (e_op od_add (el_sl (b_var 9) o_no (o_so (e_var 7))).fz (el_sl (b_var 0) (o_so (e_var 4)) (o_so (e_op od_add (e_var 4) e_int))).fz) (el_sl (b_var 9) (o_so (e_var 7)) o_no).fz)))))
  ss_nil)
  (ss_cons (s_if (t_cmpB (ob_eq hr.units) (b_var 3) e_int.bo)
  (ss_one (s_ret (e_op od_add (e_op od_add (el_sl (b_var 0) o_no (o_so (e_var 4))).fz (el_lst (n_cons (e_ix (b_var 2) (e_op od_mod (e_cty cb_int (by rfl) m_int boot_int' (b_var 5)) (e_cb cb_len (by rfl) m_len boot_len' (b_var 2)))) n_nil)).fz) (el_sl (b_var 0) (o_so (e_op od_add (e_var 4) e_int)) o_no).fz)))
  ss_nil)
  (ss_cons (s_if (t_cmpB (ob_eq hr.units) (b_var 3) e_int.bo)
  (ss_one (s_ret (e_op od_add (e_op od_add (el_sl (b_var 0) o_no (o_so (e_var 4))).fz (el_lst (n_cons (e_ix (b_var 2) (e_op od_mod (e_cty cb_int (by rfl) m_int boot_int' (b_var 5)) (e_cb cb_len (by rfl) m_len boot_len' (b_var 2)))) n_nil)).fz) (el_sl (b_var 0) (o_so (e_var 4)) o_no).fz)))
  ss_nil)
  (ss_cons (s_if (t_cmpB (ob_eq hr.units) (b_var 3) e_int.bo)
  (ss_one (s_ret (e_op od_add (e_var 0) (el_lst (n_cons e_str n_nil)).fz)))
  ss_nil)
  (ss_cons (s_if (t_cmpB (ob_eq hr.units) (b_var 3) e_int.bo)
  (ss_one (s_ret (el_sl (b_var 0) o_no (o_so (e_var 4))).fz))
  ss_nil)
  (ss_cons (s_set 6 sc__law_changed.nd (e_join e_str (b_var 0)))
  (ss_cons (s_set 7 sc__law_changed.nd (e_op od_mod (e_cty cb_int (by rfl) m_int boot_int' (b_var 5)) (e_op od_add (e_cb cb_len (by rfl) m_len boot_len' (b_var 6)) e_int)))
  (ss_cons (s_set 8 sc__law_changed.nd (e_ix e_str.bo (e_op od_mod (e_cty cb_int (by rfl) m_int boot_int' (e_op od_div (e_var 5) e_int).bo) e_int)))
  (ss_cons (s_if (t_cmpB (ob_eq hr.units) (b_var 3) e_int.bo)
  (ss_one (s_ret (el_split (e_op od_add (e_slS (e_var 6) o_no (o_so (e_var 7))) (e_slS (e_var 6) (o_so (e_op od_add (e_var 7) e_int)) o_no)) e_str).fz))
  ss_nil)
  (ss_one (s_ret (el_split (e_op od_add (e_op od_add (e_slS (e_var 6) o_no (o_so (e_var 7))) (e_var 8)) (e_slS (e_var 6) (o_so (e_op od_add (e_var 7) (e_op od_mod (e_cty cb_int (by rfl) m_int boot_int' (e_op od_div (e_var 5) e_int).bo) e_int))) o_no)) e_str).fz))))))))))))))))
/-! Paper.__init__ -/
abbrev s_Paper___init__ : Stmt := inClass (topS 8) 0
abbrev N_Paper___init__ : List Str := ["self", "text"]
theorem sc_Paper___init__ : FnScope N_Paper___init__ ["self", "text"] (defScope s_Paper___init__) := ⟨rfl, rfl, rfl, by decide +kernel, rfl, by decide +kernel, by decide +kernel⟩
noncomputable def B_Paper___init__ : Sm :=
  (sSeq (sFld 0 [] 22 0 (nSh (gL (gSplit (gV 1) (gC (.str "\n"))))))
  (sFld 0 [] 22 1 (nSh (gI 0))))
noncomputable def S_Paper___init__ : Sl → List D → Option (D × Sl) := runM 2 B_Paper___init__
theorem ok_Paper___init__ {f : Addr} {fd : FuncData} {C22 : Addr} (F : Fun K "__init__" "Paper.__init__" s_Paper___init__ f fd) (ck22 : CK K mg 22 C22) : FnOk P w K mg base CX0 1 f fd ["self", "text"] (spM K mg 1 S_Paper___init__) :=
  def_okM F sc_Paper___init__ rfl fun cdv A outer s H E hr =>
  (ss_cons (s_fld (c := 22) (j := 0) ck22 (pl_var 0) (el_split (e_var 1) e_str).fz.nw)
  (ss_one (s_fld (c := 22) (j := 1) ck22 (pl_var 0) e_int.nw)))
/-! number_of -/
abbrev s_number_of : Stmt := topS 9
abbrev N_number_of : List Str := ["word", "signed", "digits"]
theorem sc_number_of : FnScope N_number_of ["word", "signed"] (defScope s_number_of) := ⟨rfl, rfl, rfl, by decide +kernel, rfl, by decide +kernel, by decide +kernel⟩
noncomputable def B_number_of : Sm :=
  (sSeq (sSet 2 (gV 0))
  (sSeq (sIf (gAnd (gTru (gB 1)) (gTru (gOp dStarts (gV 0) (gC (.str "-")))))
  (sSet 2 (gSlS (gV 0) (gSo (gI 1)) gNo))
  sNil)
  (sSeq (sIf (gOr (gNot (gTru (gU dAscii (gV 2)))) (gOr (gNot (gTru (gU dDigit (gV 2)))) (gT (gOp dGt (gU dLen (gB 2)) (gI 60)))))
  (sRet (gC .non))
  sNil)
  (sSeq (sIf (gAnd (gTru (gOp dStarts (gV 2) (gC (.str "0")))) (gT (gOp dNe (gB 0) (gC (.str "0")))))
  (sRet (gC .non))
  sNil)
  (sRet (gU dIntS (gB 0)))))))
noncomputable def S_number_of : List D → Option D := runB 3 B_number_of
theorem ok_number_of {f : Addr} {fd : FuncData} (F : Fun K "number_of" "number_of" s_number_of f fd) (m_len : mg "len" = none) (g_MOST_DIGITS : GlI mg "MOST_DIGITS" 60) (m_int : mg "int" = none) : FnOk P w K mg base CX0 1 f fd ["word", "signed"] (spD K mg 2 S_number_of) :=
  def_ok F sc_number_of fun cdv A outer s H E hr =>
  (ss_cons (s_set 2 sc_number_of.nd (e_var 0))
  (ss_cons (s_if (w_and (t_tru (b_var 1)) (w_and1 (t_tru (e_starts (e_var 0) e_str).bo))).t
  (ss_one (s_set 2 sc_number_of.nd (e_slS (e_var 0) (o_so e_int) o_no)))
  ss_nil)
  (ss_cons (s_if (w_or (t_not (t_tru (e_ascii (e_var 2)).bo)) (w_or (t_not (t_tru (e_digit (e_var 2)).bo)) (w_or1 (t_cmp od_gt (e_cb cb_len (by rfl) m_len boot_len' (b_var 2)) (e_gint g_MOST_DIGITS))))).t
  (ss_one (s_ret e_non))
  ss_nil)
  (ss_cons (s_if (w_and (t_tru (e_starts (e_var 2) e_str).bo) (w_and1 (t_cmpB (ob_ne hr.units) (b_var 0) e_str.bo))).t
  (ss_one (s_ret e_non))
  ss_nil)
  (ss_one (s_ret (e_cty cb_intS (by rfl) m_int rfl (b_var 0))))))))
/-! numbers_in -/
abbrev s_numbers_in : Stmt := topS 10
abbrev N_numbers_in : List Str := ["line", "word", "signs", "words", "numbers", "written", "signed"]
theorem sc_numbers_in : FnScope N_numbers_in ["line", "word", "signs"] (defScope s_numbers_in) := ⟨rfl, rfl, rfl, by decide +kernel, rfl, by decide +kernel, by decide +kernel⟩
noncomputable def B_numbers_in : Sm :=
  (sSeq (sSet 3 (gL (gSplit (gV 0) (gC (.str " ")))))
  (sSeq (sIf (gOr (gT (gOp dNe (gIx (gB 3) (gI 0)) (gB 1))) (gT (gOp dNe (gU dLen (gB 3)) (gOp dAdd (gU dLen (gB 2)) (gI 1)))))
  (sRet (gC .non))
  sNil)
  (sSeq (sSet 4 (gL (gLc [5, 6] (gZiplt (aC (gL (gSl (gB 3) (gSo (gI 1)) gNo)) (aC (gV 2) aN))) (gTg 2 (gTo (gN 5) (gTo (gN 6) gEnd))) gYes (gCall S_number_of (aC (gV 5) (aC (gV 6) aN))))))
  (sSeq (sIf (gT (gOp dIn (gC .non) (gB 4)))
  (sRet (gC .non))
  sNil)
  (sRet (gV 4))))))
noncomputable def S_numbers_in : List D → Option D := runB 7 B_numbers_in
theorem ok_numbers_in {f : Addr} {fd : FuncData} (F : Fun K "numbers_in" "numbers_in" s_numbers_in f fd) (m_len : mg "len" = none) (m_zip : mg "zip" = none) (c_number_of : Cal P w K mg base "number_of" 1 ["word", "signed"] S_number_of) : FnOk P w K mg base CX0 2 f fd ["line", "word", "signs"] (spD K mg 3 S_numbers_in) :=
  def_ok F sc_numbers_in fun cdv A outer s H E hr =>
  (ss_cons (s_set 3 sc_numbers_in.nd (el_split (e_var 0) e_str).fz)
  (ss_cons (s_if (w_or (t_cmpB (ob_ne hr.units) (e_ix (b_var 3) e_int).bo (b_var 1)) (w_or1 (t_cmpB (ob_ne hr.units) (e_cb cb_len (by rfl) m_len boot_len' (b_var 3)).bo (e_op od_add (e_cb cb_len (by rfl) m_len boot_len' (b_var 2)) e_int).bo))).t
  (ss_one (s_ret e_non))
  ss_nil)
  (ss_cons (s_setLcS 4 (own := [("written", 5), ("signed", 6)]) rfl sc_numbers_in.nd (i_ziplt (by rfl) m_zip (n_cons (el_sl (b_var 3) (o_so e_int) o_no).fz (n_cons (e_var 2) n_nil))).c (blkOk_by (own := [("written", 5), ("signed", 6)]) (N := N_numbers_in) (sc := defScope s_numbers_in) (by decide +kernel)) (by decide) (fun _ _ _ _ _ => (g_tup rfl (gl_cons (g_name 5 sc_numbers_in.nd) (gl_cons (g_name 6 sc_numbers_in.nd) gl_nil)))) (fun _ _ _ _ _ => ts_nil) (fun _ _ _ _ _ => (e_callC c_number_of hr (by decide) (n_cons (e_var 5) (n_cons (e_var 6) n_nil)))))
  (ss_cons (s_if (t_cmpB (ob_in hr.u65) e_non.bo (b_var 4))
  (ss_one (s_ret e_non))
  ss_nil)
  (ss_one (s_ret (e_var 4)))))))
/-! Paper.ended -/
abbrev s_Paper_ended : Stmt := inClass (topS 8) 1
abbrev N_Paper_ended : List Str := ["self"]
theorem sc_Paper_ended : FnScope N_Paper_ended ["self"] (defScope s_Paper_ended) := ⟨rfl, rfl, rfl, by decide +kernel, rfl, by decide +kernel, by decide +kernel⟩
noncomputable def B_Paper_ended : Sm :=
  (sRet (gOp dEq (gU (dFld 22 1) (gB 0)) (gU dLen (gU (dFld 22 0) (gB 0)))))
noncomputable def S_Paper_ended : List D → Option D := runK [true] 1 B_Paper_ended
theorem ok_Paper_ended {f : Addr} {fd : FuncData} {C22 : Addr} (F : Fun K "ended" "Paper.ended" s_Paper_ended f fd) (ck22 : CK K mg 22 C22) (m_len : mg "len" = none) : FnOk P w K mg base CX0 1 f fd ["self"] (spK K mg [true] S_Paper_ended) :=
  def_okK F sc_Paper_ended rfl fun cdv A outer s H E hr =>
  (ss_one (s_ret (e_cmpB (ob_eq hr.units) (b_fld (c := 22) (j := 1) ck22 (b_var 0)) (e_cb cb_len (by rfl) m_len boot_len' (b_fld (c := 22) (j := 0) ck22 (b_var 0))).bo)))
/-! Paper.next_line -/
abbrev s_Paper_next_line : Stmt := inClass (topS 8) 3
abbrev N_Paper_next_line : List Str := ["self"]
theorem sc_Paper_next_line : FnScope N_Paper_next_line ["self"] (defScope s_Paper_next_line) := ⟨rfl, rfl, rfl, by decide +kernel, rfl, by decide +kernel, by decide +kernel⟩
noncomputable def B_Paper_next_line : Sm :=
  (sSeq (sIf (gTru (gMeth 22 S_Paper_ended (gB 0) aN))
  (sRaise (gOp dAdd (gPE 0 [(22, 1)]) (gI 1)))
  sNil)
  (sSeq (sAugF 0 [] 22 1 (gI 1))
  (sRetM (gIx (gPB 0 [(22, 0)]) (gOp dSub (gPE 0 [(22, 1)]) (gI 1))))))
noncomputable def S_Paper_next_line : Sl → List D → Option ((D × Sl) ⊕ Int) := runMR 1 B_Paper_next_line
theorem ok_Paper_next_line {f : Addr} {fd : FuncData} {C22 : Addr} (F : Fun K "next_line" "Paper.next_line" s_Paper_next_line f fd) (c_Paper_ended : MetK P w K mg base 22 "ended" 1 ["self"] [true] S_Paper_ended) (ck22 : CK K mg 22 C22) (ip : IpMk P w K mg base) : FnOk P w K mg base (L2.CX P w) 3 f fd ["self"] (spMR K mg 0 S_Paper_next_line) :=
  def_okMR F sc_Paper_next_line rfl fun cdv A outer s H E hr =>
  (ss_cons (s_if (t_tru (e_metK0 c_Paper_ended hr (by decide) (b_var 0)).bo)
  (ss_one (s_raise ip hr (by decide) rfl (e_op od_add ((pl_fld (c := 22) (j := 1) ck22 (pl_var 0))).er e_int)))
  ss_nil)
  (ss_cons (s_augF (c := 22) (j := 1) ck22 (pl_var 0) e_int)
  (ss_one (s_retM (e_ix ((pl_fld (c := 22) (j := 0) ck22 (pl_var 0))).br (e_op od_sub ((pl_fld (c := 22) (j := 1) ck22 (pl_var 0))).er e_int))))))
/-! Paper.numbers -/
abbrev s_Paper_numbers : Stmt := inClass (topS 8) 5
abbrev N_Paper_numbers : List Str := ["self", "word", "signs", "numbers"]
theorem sc_Paper_numbers : FnScope N_Paper_numbers ["self", "word", "signs"] (defScope s_Paper_numbers) := ⟨rfl, rfl, rfl, by decide +kernel, rfl, by decide +kernel, by decide +kernel⟩
noncomputable def B_Paper_numbers : Sm :=
  (sSeq (mSt (mFn S_numbers_in (gCMR 0 [] 22 S_Paper_next_line aN) (aC (gV 1) (aC (gV 2) aN))) fun d Γ1 => some (.nx (Γ1.set 3 (.sh d))))
  (sSeq (sIf (gT (gOp dIsN (gB 3) (gC .non)))
  (sRaise (gPE 0 [(22, 1)]))
  sNil)
  (sRetM (gV 3))))
noncomputable def S_Paper_numbers : Sl → List D → Option ((D × Sl) ⊕ Int) := runMR 4 B_Paper_numbers
theorem ok_Paper_numbers {f : Addr} {fd : FuncData} {C22 : Addr} (F : Fun K "numbers" "Paper.numbers" s_Paper_numbers f fd) (c_Paper_next_line : MetR P w K mg base 22 "next_line" 3 ["self"] S_Paper_next_line) (c_numbers_in : Cal P w K mg base "numbers_in" 2 ["line", "word", "signs"] S_numbers_in) (ck22 : CK K mg 22 C22) (ip : IpMk P w K mg base) : FnOk P w K mg base (L2.CX P w) 4 f fd ["self", "word", "signs"] (spMR K mg 2 S_Paper_numbers) :=
  def_okMR F sc_Paper_numbers rfl fun cdv A outer s H E hr =>
  (ss_cons (s_setR 3 sc_Paper_numbers.nd (mr_fn c_numbers_in hr (by decide) (mr_met0 c_Paper_next_line hr (by decide) (pl_var 0)) (n_cons (e_var 1) (n_cons (e_var 2) n_nil))))
  (ss_cons (s_if (t_cmpB ob_isN (b_var 3) e_non.bo)
  (ss_one (s_raise ip hr (by decide) rfl ((pl_fld (c := 22) (j := 1) ck22 (pl_var 0))).er))
  ss_nil)
  (ss_one (s_retM (e_var 3)))))
/-! Cutting.__init__ -/
abbrev s_Cutting___init__ : Stmt := inClass (topS 2) 0
abbrev N_Cutting___init__ : List Str := ["self", "pieces", "reasons"]
theorem sc_Cutting___init__ : FnScope N_Cutting___init__ ["self", "pieces", "reasons"] (defScope s_Cutting___init__) := ⟨rfl, rfl, rfl, by decide +kernel, rfl, by decide +kernel, by decide +kernel⟩
noncomputable def B_Cutting___init__ : Sm :=
  (sSeq (sFld 0 [] 0 0 (nSh (gL (gUL dList (gB 1)))))
  (sFld 0 [] 0 1 (nSh (gL (gUL dList (gB 2))))))
noncomputable def S_Cutting___init__ : Sl → List D → Option (D × Sl) := runM 3 B_Cutting___init__
theorem ok_Cutting___init__ {f : Addr} {fd : FuncData} {C0 : Addr} (F : Fun K "__init__" "Cutting.__init__" s_Cutting___init__ f fd) (m_list : mg "list" = none) (ck0 : CK K mg 0 C0) : FnOk P w K mg base CX0 1 f fd ["self", "pieces", "reasons"] (spM K mg 2 S_Cutting___init__) :=
  def_okM F sc_Cutting___init__ rfl fun cdv A outer s H E hr =>
  (ss_cons (s_fld (c := 0) (j := 0) ck0 (pl_var 0) (el_cty cb_list (by rfl) m_list boot_list' (b_var 1)).fz.nw)
  (ss_one (s_fld (c := 0) (j := 1) ck0 (pl_var 0) (el_cty cb_list (by rfl) m_list boot_list' (b_var 2)).fz.nw)))
/-! piece_of -/
abbrev s_piece_of : Stmt := topS 16
abbrev N_piece_of : List Str := ["numbers", "start", "p", "q", "d"]
theorem sc_piece_of : FnScope N_piece_of ["numbers"] (defScope s_piece_of) := ⟨rfl, rfl, rfl, by decide +kernel, rfl, by decide +kernel, by decide +kernel⟩
noncomputable def B_piece_of : Sm :=
  (sSeq (sUnp (gTgL 4 (gTo (gN 1) (gTo (gN 2) (gTo (gN 3) (gTo (gN 4) gEnd))))) (gV 0))
  (sRet (gTu 2 (aC (gV 1) (aC (gTu 3 (aC (gV 2) (aC (gV 3) (aC (gV 4) aN)))) aN)))))
noncomputable def S_piece_of : List D → Option D := runB 5 B_piece_of
theorem ok_piece_of {f : Addr} {fd : FuncData} (F : Fun K "piece_of" "piece_of" s_piece_of f fd) : FnOk P w K mg base CX0 1 f fd ["numbers"] (spD K mg 1 S_piece_of) :=
  def_ok F sc_piece_of fun cdv A outer s H E hr =>
  (ss_cons (s_unp (e_var 0) (g_unl rfl (gl_cons (g_name 1 sc_piece_of.nd) (gl_cons (g_name 2 sc_piece_of.nd) (gl_cons (g_name 3 sc_piece_of.nd) (gl_cons (g_name 4 sc_piece_of.nd) gl_nil))))))
  (ss_one (s_ret (e_tup (n_cons (e_var 1) (n_cons (e_tup (n_cons (e_var 2) (n_cons (e_var 3) (n_cons (e_var 4) n_nil)))) n_nil))))))
/-! read_cutting -/
abbrev s_read_cutting : Stmt := topS 15
abbrev N_read_cutting : List Str := ["text", "paper", "pieces", "reasons"]
theorem sc_read_cutting : FnScope N_read_cutting ["text"] (defScope s_read_cutting) := ⟨rfl, rfl, rfl, by decide +kernel, rfl, by decide +kernel, by decide +kernel⟩
noncomputable def B_read_cutting : Sm :=
  (sSeq (sSetN 1 (gMk 22 S_Paper___init__ (aC (gV 0) aN)))
  (sSeq (mSt (gCMR 1 [] 22 S_Paper_numbers (aC (gC (.str "cutting")) (aC (gTu 0 aN) aN))) fun _ Γ1 => some (.nx Γ1))
  (sSeq (sSetO 2 aN)
  (sSeq (sSetO 3 aN)
  (sSeq (sIf (gNot (gTru (gMeth 22 S_Paper_ended (gB 1) aN)))
  (sAppR 2 (mFn S_piece_of (gCMR 1 [] 22 S_Paper_numbers (aC (gC (.str "piece")) (aC (gC (.tup [.bl false, .bl true, .bl true, .bl false])) aN))) aN))
  sNil)
  (sSeq (sWhile (gNot (gTru (gMeth 22 S_Paper_ended (gB 1) aN)))
  (sSeq (sAppR 3 (mU dTuple (gCMR 1 [] 22 S_Paper_numbers (aC (gC (.str "reason")) (aC (gC (.tup [.bl false, .bl false, .bl false])) aN)))))
  (sAppR 2 (mFn S_piece_of (gCMR 1 [] 22 S_Paper_numbers (aC (gC (.str "piece")) (aC (gC (.tup [.bl false, .bl true, .bl true, .bl false])) aN))) aN))))
  (sFrz 3 (sFrz 2 (sRet (nD (gMk 0 S_Cutting___init__ (aC (gV 2) (aC (gV 3) aN)))))))))))))
noncomputable def S_read_cutting : List D → Option (D ⊕ Int) := runR 4 B_read_cutting
theorem ok_read_cutting {f : Addr} {fd : FuncData} (F : Fun K "read_cutting" "read_cutting" s_read_cutting f fd) (k_Paper : Mak P w K mg base 22 1 ["self", "text"] S_Paper___init__) (c_Paper_numbers : MetR P w K mg base 22 "numbers" 4 ["self", "word", "signs"] S_Paper_numbers) (c_Paper_ended : MetK P w K mg base 22 "ended" 1 ["self"] [true] S_Paper_ended) (t_PIECE_SIGNS : GlT K mg "PIECE_SIGNS" [.bl false, .bl true, .bl true, .bl false]) (c_piece_of : Cal P w K mg base "piece_of" 1 ["numbers"] S_piece_of) (t_REASON_SIGNS : GlT K mg "REASON_SIGNS" [.bl false, .bl false, .bl false]) (m_tuple : mg "tuple" = none) (k_Cutting : Mak P w K mg base 0 1 ["self", "pieces", "reasons"] S_Cutting___init__) : FnOk P w K mg base (L2.CX P w) 5 f fd ["text"] (spR K mg 1 S_read_cutting) :=
  def_okR F sc_read_cutting fun cdv A outer s H E hr =>
  (ss_cons (s_setN 1 sc_read_cutting.nd (e_mkC (c := 22) k_Paper hr (by decide) (n_cons (e_var 0) n_nil)))
  (ss_cons (s_exprR (mr_met c_Paper_numbers hr (by decide) (pl_var 1) (n_cons e_str (n_cons (e_tup n_nil) n_nil))))
  (ss_cons (s_setO 2 sc_read_cutting.nd (el_lst n_nil))
  (ss_cons (s_setO 3 sc_read_cutting.nd (el_lst n_nil))
  (ss_cons (s_if (t_not (t_tru (e_metK0 c_Paper_ended hr (by decide) (b_var 1)).bo))
  (ss_one (s_appR (i := 2) (mr_fn c_piece_of hr (by decide) (mr_met c_Paper_numbers hr (by decide) (pl_var 1) (n_cons e_str (n_cons (e_gtup t_PIECE_SIGNS) n_nil))) n_nil)))
  ss_nil)
  (ss_cons (s_while (passes_of rfl) (t_not (t_tru (e_metK0 c_Paper_ended hr (by decide) (b_var 1)).bo))
  (ss_cons (s_appR (i := 3) (mr_cty cb_tuple (by rfl) m_tuple rfl (mr_met c_Paper_numbers hr (by decide) (pl_var 1) (n_cons e_str (n_cons (e_gtup t_REASON_SIGNS) n_nil)))))
  (ss_one (s_appR (i := 2) (mr_fn c_piece_of hr (by decide) (mr_met c_Paper_numbers hr (by decide) (pl_var 1) (n_cons e_str (n_cons (e_gtup t_PIECE_SIGNS) n_nil))) n_nil)))))
  (ss_one (s_frz 3 (s_frz 2 (s_ret (e_mkC (c := 0) k_Cutting hr (by decide) (n_cons (e_var 2) (n_cons (e_var 3) n_nil))).fz))))))))))
/-! write_cutting -/
abbrev s_write_cutting : Stmt := topS 14
abbrev N_write_cutting : List Str := ["cutting", "lines", "at", "start", "p", "q", "d", "first", "middle", "last"]
theorem sc_write_cutting : FnScope N_write_cutting ["cutting"] (defScope s_write_cutting) := ⟨rfl, rfl, rfl, by decide +kernel, rfl, by decide +kernel, by decide +kernel⟩
noncomputable def B_write_cutting : Sm :=
  (sSeq (sSetO 1 (aC (gC (.str "cutting")) aN))
  (sSeq (sFor (gEnum (aC (gU (dFld 0 0) (gV 0)) aN)) (gTg 2 (gTo (gN 2) (gTo (gTg 2 (gTo (gN 3) (gTo (gTg 3 (gTo (gN 4) (gTo (gN 5) (gTo (gN 6) gEnd)))) gEnd))) gEnd)))
  (sSeq (sApp 1 [] (gJs (aC (gC (.str "piece ")) (aC (gU dFmt (gV 3)) (aC (gC (.str " ")) (aC (gU dFmt (gV 4)) (aC (gC (.str " ")) (aC (gU dFmt (gV 5)) (aC (gC (.str " ")) (aC (gU dFmt (gV 6)) aN))))))))))
  (sIf (gT (gOp dLt (gV 2) (gU dLen (gU (dFld 0 1) (gV 0)))))
  (sSeq (sUnp (gTg 3 (gTo (gN 7) (gTo (gN 8) (gTo (gN 9) gEnd)))) (gIx (gU (dFld 0 1) (gV 0)) (gV 2)))
  (sApp 1 [] (gJs (aC (gC (.str "reason ")) (aC (gU dFmt (gV 7)) (aC (gC (.str " ")) (aC (gU dFmt (gV 8)) (aC (gC (.str " ")) (aC (gU dFmt (gV 9)) aN)))))))))
  sNil)))
  (sRet (gOp dJoin (gC (.str "\n")) (gB 1)))))
noncomputable def S_write_cutting : List D → Option D := runB 10 B_write_cutting
theorem ok_write_cutting {f : Addr} {fd : FuncData} {C0 : Addr} (F : Fun K "write_cutting" "write_cutting" s_write_cutting f fd) (ck0 : CK K mg 0 C0) (m_enumerate : mg "enumerate" = none) (m_len : mg "len" = none) : FnOk P w K mg base CX0 1 f fd ["cutting"] (spD K mg 1 S_write_cutting) :=
  def_ok F sc_write_cutting fun cdv A outer s H E hr =>
  (ss_cons (s_setO 1 sc_write_cutting.nd (el_lst (n_cons e_str n_nil)))
  (ss_cons (s_for PassesOwn.never rfl (i_enum (by rfl) m_enumerate (n_cons (e_fld (c := 0) (j := 0) ck0 (e_var 0)) n_nil)).fb (g_tup rfl (gl_cons (g_name 2 sc_write_cutting.nd) (gl_cons (g_tup rfl (gl_cons (g_name 3 sc_write_cutting.nd) (gl_cons (g_tup rfl (gl_cons (g_name 4 sc_write_cutting.nd) (gl_cons (g_name 5 sc_write_cutting.nd) (gl_cons (g_name 6 sc_write_cutting.nd) gl_nil)))) gl_nil))) gl_nil)))
  (ss_cons (s_app (pl_var 1) (e_js (ej_cons e_str (ej_cons (e_fmt (e_var 3)) (ej_cons e_str (ej_cons (e_fmt (e_var 4)) (ej_cons e_str (ej_cons (e_fmt (e_var 5)) (ej_cons e_str (ej_cons (e_fmt (e_var 6)) ej_nil))))))))))
  (ss_one (s_if (t_cmp od_lt (e_var 2) (e_cb cb_len (by rfl) m_len boot_len' (e_fld (c := 0) (j := 1) ck0 (e_var 0)).bo))
  (ss_cons (s_unp (e_ix (e_fld (c := 0) (j := 1) ck0 (e_var 0)).bo (e_var 2)) (g_tup rfl (gl_cons (g_name 7 sc_write_cutting.nd) (gl_cons (g_name 8 sc_write_cutting.nd) (gl_cons (g_name 9 sc_write_cutting.nd) gl_nil)))))
  (ss_one (s_app (pl_var 1) (e_js (ej_cons e_str (ej_cons (e_fmt (e_var 7)) (ej_cons e_str (ej_cons (e_fmt (e_var 8)) (ej_cons e_str (ej_cons (e_fmt (e_var 9)) ej_nil))))))))))
  ss_nil))))
  (ss_one (s_ret (e_join e_str (b_var 1))))))
/-! _law_told -/
abbrev s__law_told : Stmt := topS 28
abbrev N__law_told : List Str := ["text", "told", "cutting", "e"]
theorem sc__law_told : FnScope N__law_told ["text"] (defScope s__law_told) := ⟨rfl, rfl, rfl, by decide +kernel, rfl, by decide +kernel, by decide +kernel⟩
noncomputable def B__law_told : Sm :=
  (sSeq (sSet 1 (gI 0))
  (sSeq (sTryE 4 3
  (sSeq (mSt (gCallR S_read_cutting (aC (gV 0) aN)) fun d Γ1 => some (.nx (Γ1.set 2 (.sh d))))
  (sIf (gT (gOp dNe (gCall S_write_cutting (aC (gV 2) aN)) (gB 0)))
  (sSet 1 (gOp dSub (gI 0) (gI 2)))
  sNil))
  (fun a dx => (sSeq (sSet 1 (gXl a dx 3))
  (sIf (gOr (gNot (gTru (gXi a dx 3))) (gOr (gNot (gTru (gXi a dx 3))) (gT (gOp dLt (gV 1) (gI 1)))))
  (sSet 1 (gOp dSub (gI 0) (gI 1)))
  sNil))))
  (sRet (gV 1))))
noncomputable def S__law_told : List D → Option D := runB 4 B__law_told
theorem ok__law_told {f : Addr} {fd : FuncData} (F : Fun K "_law_told" "_law_told" s__law_told f fd) (c_read_cutting : CalR P w K mg base "read_cutting" 5 ["text"] S_read_cutting) (c_write_cutting : Cal P w K mg base "write_cutting" 1 ["cutting"] S_write_cutting) (ipx : IpX K mg) (m_isinstance : mg "isinstance" = none) (m_ValueError : mg "ValueError" = none) : FnOk P w K mg base CX0 6 f fd ["text"] (spD K mg 1 S__law_told) :=
  def_ok F sc__law_told fun cdv A outer s H E hr =>
  (ss_cons (s_set 1 sc__law_told.nd e_int)
  (ss_cons (s_tryE 3 ipx sc__law_told.nd (fun pn xe hp => (ss_cons (s_setR 2 sc__law_told.nd (mr_call c_read_cutting hr (by decide) (n_cons (e_var 0) n_nil)))
  (ss_one (s_if (t_cmpB (ob_ne hr.units) (e_callC c_write_cutting hr (by decide) (n_cons (e_var 2) n_nil)).bo (b_var 0))
  (ss_one (s_set 1 sc__law_told.nd (e_op od_sub e_int e_int)))
  ss_nil)))) (fun a dx C oe pn hmg hz hfd => (ss_cons (s_set 1 sc__law_told.nd (e_xl 3 ipx hmg hz hfd))
  (ss_one (s_if (w_or (t_not (t_tru (e_xiL 3 ipx hmg hz hfd m_isinstance).bo)) (w_or (t_not (t_tru (e_xiV 3 ipx hmg hz hfd m_isinstance m_ValueError).bo)) (w_or1 (t_cmp od_lt (e_var 1) e_int)))).t
  (ss_one (s_set 1 sc__law_told.nd (e_op od_sub e_int e_int)))
  ss_nil)))) (by
  intro a dx m
  simp only [sSeq, sSet, sIf, sRet, gXl, gXi, gOr, gAnd, gNot, gTru, gT, gOp, gIf, gV, gI, gC, sNil, List.replicate, List.set, List.getElem?_cons_succ, List.getElem?_cons_zero, and_self, if_true, Option.bind_some, dTru, dLt, dGt, Option.bind]
  all_goals first
  | (by_cases h : m < 1 <;> simp [h, noX, dSub, dNeg, Option.bind]; done)
  | (by_cases h : m > 0 <;> simp [h, noX, dSub, dNeg, Option.bind]; done)
  | (simp [noX, dSub, Option.bind]; done)))
  (ss_one (s_ret (e_var 1)))))
/-! _law_is_plain -/
abbrev s__law_is_plain : Stmt := topS 23
abbrev N__law_is_plain : List Str := ["word", "char"]
theorem sc__law_is_plain : FnScope N__law_is_plain ["word"] (defScope s__law_is_plain) := ⟨rfl, rfl, rfl, by decide +kernel, rfl, by decide +kernel, by decide +kernel⟩
noncomputable def B__law_is_plain : Sm :=
  (sSeq (sIf (gOr (gT (gOp dEq (gB 0) (gC (.str "")))) (gT (gOp dGt (gU dLen (gB 0)) (gI 60))))
  (sRet (gC (.bl false)))
  sNil)
  (sSeq (sFor (gItS (gV 0)) (gN 1)
  (sIf (gT (gOp dNInS (gV 1) (gC (.str "0123456789"))))
  (sRet (gC (.bl false)))
  sNil))
  (sRet (gBl (gOr (gT (gOp dEq (gB 0) (gC (.str "0")))) (gT (gOp dNe (gIx (gB 0) (gI 0)) (gC (.str "0")))))))))
noncomputable def S__law_is_plain : List D → Option D := runB 2 B__law_is_plain
theorem ok__law_is_plain {f : Addr} {fd : FuncData} (F : Fun K "_law_is_plain" "_law_is_plain" s__law_is_plain f fd) (m_len : mg "len" = none) : FnOk P w K mg base CX0 1 f fd ["word"] (spD K mg 1 S__law_is_plain) :=
  def_ok F sc__law_is_plain fun cdv A outer s H E hr =>
  (ss_cons (s_if (w_or (t_cmpB (ob_eq hr.units) (b_var 0) e_str.bo) (w_or1 (t_cmp od_gt (e_cb cb_len (by rfl) m_len boot_len' (b_var 0)) e_int))).t
  (ss_one (s_ret e_bl))
  ss_nil)
  (ss_cons (s_for PassesOwn.never rfl (i_str (e_var 0)).fb (g_name 1 sc__law_is_plain.nd)
  (ss_one (s_if (t_cmp od_ninS (e_var 1) e_str)
  (ss_one (s_ret e_bl))
  ss_nil)))
  (ss_one (s_ret (v_or (e_cmpB (ob_eq hr.units) (b_var 0) e_str.bo).v (v_one (e_cmpB (ob_ne hr.units) (e_ix (b_var 0) e_int).bo e_str.bo).v)).e))))
/-! _law_is_signed -/
abbrev s__law_is_signed : Stmt := topS 24
abbrev N__law_is_signed : List Str := ["word"]
theorem sc__law_is_signed : FnScope N__law_is_signed ["word"] (defScope s__law_is_signed) := ⟨rfl, rfl, rfl, by decide +kernel, rfl, by decide +kernel, by decide +kernel⟩
noncomputable def B__law_is_signed : Sm :=
  (sSeq (sIf (gT (gOp dEq (gSlS (gV 0) gNo (gSo (gI 1))) (gC (.str "-"))))
  (sRet (gBl (gAnd (gT (gOp dNe (gB 0) (gC (.str "-0")))) (gT (gCall S__law_is_plain (aC (gSlS (gV 0) (gSo (gI 1)) gNo) aN))))))
  sNil)
  (sRet (gCall S__law_is_plain (aC (gV 0) aN))))
noncomputable def S__law_is_signed : List D → Option D := runB 1 B__law_is_signed
theorem ok__law_is_signed {f : Addr} {fd : FuncData} (F : Fun K "_law_is_signed" "_law_is_signed" s__law_is_signed f fd) (c__law_is_plain : Cal P w K mg base "_law_is_plain" 1 ["word"] S__law_is_plain) : FnOk P w K mg base CX0 2 f fd ["word"] (spD K mg 1 S__law_is_signed) :=
  def_ok F sc__law_is_signed fun cdv A outer s H E hr =>
  (ss_cons (s_if (t_cmpB (ob_eq hr.units) (e_slS (e_var 0) o_no (o_so e_int)).bo e_str.bo)
  (ss_one (s_ret (v_and (e_cmpB (ob_ne hr.units) (b_var 0) e_str.bo).v (v_one (e_callC c__law_is_plain hr (by decide) (n_cons (e_slS (e_var 0) (o_so e_int) o_no) n_nil)).v)).e))
  ss_nil)
  (ss_one (s_ret (e_callC c__law_is_plain hr (by decide) (n_cons (e_var 0) n_nil)))))
/-! _law_has_form -/
abbrev s__law_has_form : Stmt := topS 25
abbrev N__law_has_form : List Str := ["line", "first", "signs", "words", "k"]
theorem sc__law_has_form : FnScope N__law_has_form ["line", "first", "signs"] (defScope s__law_has_form) := ⟨rfl, rfl, rfl, by decide +kernel, rfl, by decide +kernel, by decide +kernel⟩
noncomputable def B__law_has_form : Sm :=
  (sSeq (sSet 3 (gL (gSplit (gV 0) (gC (.str " ")))))
  (sSeq (sIf (gOr (gT (gOp dNe (gIx (gB 3) (gI 0)) (gB 1))) (gT (gOp dNe (gU dLen (gB 3)) (gOp dAdd (gU dLen (gB 2)) (gI 1)))))
  (sRet (gC (.bl false)))
  sNil)
  (sSeq (sFor (gRng (aC (gU dLen (gB 2)) aN)) (gN 4)
  (sSeq (sIf (gAnd (gT (gOp dEq (gIx (gB 2) (gV 4)) (gC (.str "+")))) (gNot (gTru (gCall S__law_is_plain (aC (gIx (gB 3) (gOp dAdd (gV 4) (gI 1))) aN)))))
  (sRet (gC (.bl false)))
  sNil)
  (sIf (gAnd (gT (gOp dEq (gIx (gB 2) (gV 4)) (gC (.str "-")))) (gNot (gTru (gCall S__law_is_signed (aC (gIx (gB 3) (gOp dAdd (gV 4) (gI 1))) aN)))))
  (sRet (gC (.bl false)))
  sNil)))
  (sRet (gC (.bl true))))))
noncomputable def S__law_has_form : List D → Option D := runB 5 B__law_has_form
theorem ok__law_has_form {f : Addr} {fd : FuncData} (F : Fun K "_law_has_form" "_law_has_form" s__law_has_form f fd) (m_len : mg "len" = none) (m_range : mg "range" = none) (c__law_is_plain : Cal P w K mg base "_law_is_plain" 1 ["word"] S__law_is_plain) (c__law_is_signed : Cal P w K mg base "_law_is_signed" 2 ["word"] S__law_is_signed) : FnOk P w K mg base CX0 3 f fd ["line", "first", "signs"] (spD K mg 3 S__law_has_form) :=
  def_ok F sc__law_has_form fun cdv A outer s H E hr =>
  (ss_cons (s_set 3 sc__law_has_form.nd (el_split (e_var 0) e_str).fz)
  (ss_cons (s_if (w_or (t_cmpB (ob_ne hr.units) (e_ix (b_var 3) e_int).bo (b_var 1)) (w_or1 (t_cmpB (ob_ne hr.units) (e_cb cb_len (by rfl) m_len boot_len' (b_var 3)).bo (e_op od_add (e_cb cb_len (by rfl) m_len boot_len' (b_var 2)) e_int).bo))).t
  (ss_one (s_ret e_bl))
  ss_nil)
  (ss_cons (s_for PassesOwn.never rfl (i_rng1 (by rfl) m_range (n_cons (e_cb cb_len (by rfl) m_len boot_len' (b_var 2)) n_nil)).fb (g_name 4 sc__law_has_form.nd)
  (ss_cons (s_if (w_and (t_cmpB (ob_eq hr.units) (e_ix (b_var 2) (e_var 4)).bo e_str.bo) (w_and1 (t_not (t_tru (e_callC c__law_is_plain hr (by decide) (n_cons (e_ix (b_var 3) (e_op od_add (e_var 4) e_int)) n_nil)).bo)))).t
  (ss_one (s_ret e_bl))
  ss_nil)
  (ss_one (s_if (w_and (t_cmpB (ob_eq hr.units) (e_ix (b_var 2) (e_var 4)).bo e_str.bo) (w_and1 (t_not (t_tru (e_callC c__law_is_signed hr (by decide) (n_cons (e_ix (b_var 3) (e_op od_add (e_var 4) e_int)) n_nil)).bo)))).t
  (ss_one (s_ret e_bl))
  ss_nil))))
  (ss_one (s_ret e_bl)))))
/-! _law_fault -/
abbrev s__law_fault : Stmt := topS 27
abbrev N__law_fault : List Str := ["lines", "k"]
theorem sc__law_fault : FnScope N__law_fault ["lines"] (defScope s__law_fault) := ⟨rfl, rfl, rfl, by decide +kernel, rfl, by decide +kernel, by decide +kernel⟩
noncomputable def B__law_fault : Sm :=
  (sSeq (sIf (gT (gOp dNe (gIx (gB 0) (gI 0)) (gC (.str "cutting"))))
  (sRet (gI 1))
  sNil)
  (sSeq (sFor (gRng (aC (gI 1) (aC (gU dLen (gB 0)) aN))) (gN 1)
  (sSeq (sIf (gAnd (gT (gOp dEq (gOp dMod (gU dInt (gB 1)) (gI 2)) (gI 1))) (gNot (gTru (gCall S__law_has_form (aC (gIx (gB 0) (gV 1)) (aC (gC (.str "piece")) (aC (gC (.str "+--+")) aN)))))))
  (sRet (gOp dAdd (gV 1) (gI 1)))
  sNil)
  (sIf (gAnd (gT (gOp dEq (gOp dMod (gU dInt (gB 1)) (gI 2)) (gI 0))) (gNot (gTru (gCall S__law_has_form (aC (gIx (gB 0) (gV 1)) (aC (gC (.str "reason")) (aC (gC (.str "+++")) aN)))))))
  (sRet (gOp dAdd (gV 1) (gI 1)))
  sNil)))
  (sSeq (sIf (gAnd (gT (gOp dGt (gU dLen (gB 0)) (gI 1))) (gT (gOp dEq (gOp dMod (gU dInt (gU dLen (gB 0))) (gI 2)) (gI 1))))
  (sRet (gOp dAdd (gU dLen (gB 0)) (gI 1)))
  sNil)
  (sRet (gI 0)))))
noncomputable def S__law_fault : List D → Option D := runB 2 B__law_fault
theorem ok__law_fault {f : Addr} {fd : FuncData} (F : Fun K "_law_fault" "_law_fault" s__law_fault f fd) (m_len : mg "len" = none) (m_range : mg "range" = none) (c__law_has_form : Cal P w K mg base "_law_has_form" 3 ["line", "first", "signs"] S__law_has_form) (m_int : mg "int" = none) : FnOk P w K mg base CX0 4 f fd ["lines"] (spD K mg 1 S__law_fault) :=
  def_ok F sc__law_fault fun cdv A outer s H E hr =>
  (ss_cons (s_if (t_cmpB (ob_ne hr.units) (e_ix (b_var 0) e_int).bo e_str.bo)
  (ss_one (s_ret e_int))
  ss_nil)
  (ss_cons (s_for PassesOwn.never rfl (i_rng2 (by rfl) m_range (n_cons e_int (n_cons (e_cb cb_len (by rfl) m_len boot_len' (b_var 0)) n_nil))).fb (g_name 1 sc__law_fault.nd)
  (ss_cons (s_if (w_and (t_cmpB (ob_eq hr.units) (e_op od_mod (e_cty cb_int (by rfl) m_int boot_int' (b_var 1)) e_int).bo e_int.bo) (w_and1 (t_not (t_tru (e_callC c__law_has_form hr (by decide) (n_cons (e_ix (b_var 0) (e_var 1)) (n_cons e_str (n_cons e_str n_nil)))).bo)))).t
  (ss_one (s_ret (e_op od_add (e_var 1) e_int)))
  ss_nil)
  (ss_one (s_if (w_and (t_cmpB (ob_eq hr.units) (e_op od_mod (e_cty cb_int (by rfl) m_int boot_int' (b_var 1)) e_int).bo e_int.bo) (w_and1 (t_not (t_tru (e_callC c__law_has_form hr (by decide) (n_cons (e_ix (b_var 0) (e_var 1)) (n_cons e_str (n_cons e_str n_nil)))).bo)))).t
  (ss_one (s_ret (e_op od_add (e_var 1) e_int)))
  ss_nil))))
  (ss_cons (s_if (w_and (t_cmp od_gt (e_cb cb_len (by rfl) m_len boot_len' (b_var 0)) e_int) (w_and1 (t_cmpB (ob_eq hr.units) (e_op od_mod (e_cty cb_int (by rfl) m_int boot_int' (e_cb cb_len (by rfl) m_len boot_len' (b_var 0)).bo) e_int).bo e_int.bo))).t
  (ss_one (s_ret (e_op od_add (e_cb cb_len (by rfl) m_len boot_len' (b_var 0)) e_int)))
  ss_nil)
  (ss_one (s_ret e_int)))))
/-! law -/
abbrev s_law : Stmt := topS 29
abbrev N_law : List Str := ["script", "pieces", "reasons", "lines", "odd", "k"]
theorem sc_law : FnScope N_law ["script"] (defScope s_law) := ⟨rfl, rfl, rfl, by decide +kernel, rfl, by decide +kernel, by decide +kernel⟩
noncomputable def B_law : Sm :=
  (sSeq (sUnp (gTg 2 (gTo (gN 1) (gTo (gN 2) gEnd))) (gCall S__law_cutting (aC (gCall S__law_cell (aC (gV 0) (aC (gI 0) aN))) aN)))
  (sSeq (sSet 3 (gCall S__law_lines (aC (gV 1) (aC (gV 2) aN))))
  (sSeq (sSet 4 (gL (aC (gC (.str "")) (aC (gC (.str " ")) (aC (gC (.str "cutting")) (aC (gC (.str "Cutting")) (aC (gC (.str "cutting ")) (aC (gC (.str "piece")) (aC (gC (.str "piece 0 0 0 1")) (aC (gC (.str "piece 0 -0 0 1")) (aC (gC (.str "piece 0 0 0 -1")) aN)))))))))))
  (sSeq (sSet 4 (gOp dAdd (gV 4) (gL (aC (gC (.str "piece 00 0 0 1")) (aC (gC (.str "piece 0 +1 0 1")) (aC (gC (.str "piece 0 0 0 1 ")) (aC (gC (.str "piece  0 0 0 1")) (aC (gC (.str "piece 0 0 0")) (aC (gC (.str "piece 0 -5 -6 0")) aN)))))))))
  (sSeq (sSet 4 (gOp dAdd (gV 4) (gL (aC (gC (.str "reason 0 1 2")) (aC (gC (.str "reason 0 1")) (aC (gC (.str "reason 0 1 2 3")) (aC (gC (.str "reason -1 1 2")) (aC (gC (.str "reason 0 1 02")) (aC (gC (.str "piece 1 2 3 4")) (aC (gC (.str "1")) aN))))))))))
  (sSeq (sSet 4 (gOp dAdd (gV 4) (gL (aC (gOp dAdd (gOp dAdd (gC (.str "piece 0 ")) (gOp dMulS (gC (.str "9")) (gI 60))) (gC (.str " 0 1"))) (aC (gOp dAdd (gOp dAdd (gC (.str "piece 0 ")) (gOp dMulS (gC (.str "9")) (gI 61))) (gC (.str " 0 1"))) (aC (gOp dAdd (gOp dAdd (gC (.str "piece 0 -")) (gOp dMulS (gC (.str "1")) (gI 60))) (gC (.str " 0 1"))) aN))))))
  (sSeq (sFor (gRng (aC (gOp dMod (gU dInt (gCall S__law_cell (aC (gV 0) (aC (gI 1) aN)))) (gI 4)) aN)) (gN 5)
  (sSet 3 (gCall S__law_changed (aC (gV 3) (aC (gCall S__law_cell (aC (gV 0) (aC (gOp dAdd (gI 2) (gV 5)) aN))) (aC (gV 4) aN))))))
  (sSeq (sIf (gT (gOp dEq (gU dLen (gB 3)) (gI 0)))
  (sSet 3 (gL (aC (gC (.str "")) aN)))
  sNil)
  (sRet (gOp dEq (gCall S__law_told (aC (gOp dJoin (gC (.str "\n")) (gB 3)) aN)) (gCall S__law_fault (aC (gV 3) aN))))))))))))
noncomputable def S_law : List D → Option D := runB 6 B_law
theorem ok_law {f : Addr} {fd : FuncData} (F : Fun K "law" "law" s_law f fd) (c__law_cell : Cal P w K mg base "_law_cell" 1 ["script", "k"] S__law_cell) (c__law_cutting : Cal P w K mg base "_law_cutting" 2 ["cell"] S__law_cutting) (c__law_lines : Cal P w K mg base "_law_lines" 1 ["pieces", "reasons"] S__law_lines) (m_int : mg "int" = none) (m_range : mg "range" = none) (c__law_changed : Cal P w K mg base "_law_changed" 1 ["lines", "cell", "odd"] S__law_changed) (m_len : mg "len" = none) (c__law_told : Cal P w K mg base "_law_told" 6 ["text"] S__law_told) (c__law_fault : Cal P w K mg base "_law_fault" 4 ["lines"] S__law_fault) : FnOk P w K mg base CX0 7 f fd ["script"] (spD K mg 1 S_law) :=
  def_ok F sc_law fun cdv A outer s H E hr =>
  (ss_cons (s_unp (e_callC c__law_cutting hr (by decide) (n_cons (e_callC c__law_cell hr (by decide) (n_cons (e_var 0) (n_cons e_int n_nil))) n_nil)) (g_tup rfl (gl_cons (g_name 1 sc_law.nd) (gl_cons (g_name 2 sc_law.nd) gl_nil))))
  (ss_cons (s_set 3 sc_law.nd (e_callC c__law_lines hr (by decide) (n_cons (e_var 1) (n_cons (e_var 2) n_nil))))
  (ss_cons (s_set 4 sc_law.nd (el_lst (n_cons e_str (n_cons e_str (n_cons e_str (n_cons e_str (n_cons e_str (n_cons e_str (n_cons e_str (n_cons e_str (n_cons e_str n_nil)))))))))).fz)
  (ss_cons (s_set 4 sc_law.nd (e_op od_add (e_var 4) (el_lst (n_cons e_str (n_cons e_str (n_cons e_str (n_cons e_str (n_cons e_str (n_cons e_str n_nil))))))).fz))
  (ss_cons (s_set 4 sc_law.nd (e_op od_add (e_var 4) (el_lst (n_cons e_str (n_cons e_str (n_cons e_str (n_cons e_str (n_cons e_str (n_cons e_str (n_cons e_str n_nil)))))))).fz))
  (ss_cons (s_set 4 sc_law.nd (e_op od_add (e_var 4) (el_lst (n_cons (e_op od_add (e_op od_add e_str (e_op od_mulS e_str e_int)) e_str) (n_cons (e_op od_add (e_op od_add e_str (e_op od_mulS e_str e_int)) e_str) (n_cons (e_op od_add (e_op od_add e_str (e_op od_mulS e_str e_int)) e_str) n_nil)))).fz))
  (ss_cons (s_for PassesOwn.never rfl (i_rng1 (by rfl) m_range (n_cons (e_op od_mod (e_cty cb_int (by rfl) m_int boot_int' (e_callC c__law_cell hr (by decide) (n_cons (e_var 0) (n_cons e_int n_nil))).bo) e_int) n_nil)).fb (g_name 5 sc_law.nd)
  (ss_one (s_set 3 sc_law.nd (e_callC c__law_changed hr (by decide) (n_cons (e_var 3) (n_cons (e_callC c__law_cell hr (by decide) (n_cons (e_var 0) (n_cons (e_op od_add e_int (e_var 5)) n_nil))) (n_cons (e_var 4) n_nil)))))))
  (ss_cons (s_if (t_cmpB (ob_eq hr.units) (e_cb cb_len (by rfl) m_len boot_len' (b_var 3)).bo e_int.bo)
  (ss_one (s_set 3 sc_law.nd (el_lst (n_cons e_str n_nil)).fz))
  ss_nil)
  (ss_one (s_ret (e_cmpB (ob_eq hr.units) (e_callC c__law_told hr (by decide) (n_cons (e_join e_str (b_var 3)) n_nil)).bo (e_callC c__law_fault hr (by decide) (n_cons (e_var 3) n_nil)).bo)))))))))))
end
end K37

namespace K37
open PySem L2 DL
local macro_rules | `(tactic| walk_at "ev call") => `(tactic| ((with_reducible (show _ = _)); with_reducible assumption))
local macro_rules | `(tactic| walk_at "ev mul") => `(tactic| first | (with_reducible assumption) | exact mulOk_l (by omega) (by omega) | exact mulOk_r (by omega) (by omega) | decide +kernel)
local macro_rules | `(tactic| walk_at "ev pos") => `(tactic| first | (with_reducible assumption) | decide | omega)
local macro_rules | `(tactic| walk_at "ev log") => `(tactic| first | (with_reducible assumption) | exact log_of (k := 100) (by omega) (by decide) (by decide) | decide +kernel)
local macro_rules | `(tactic| walk_at "ev") => `(tactic| (repeat' first
  | (with_reducible exact ev_I) | (with_reducible exact ev_C) | (with_reducible exact ev_nl) | (with_reducible exact ev_No)
  | ((with_reducible apply ev_V); exact rfl) | ((with_reducible apply ev_B); exact rfl) | ((with_reducible apply ev_Bo); exact rfl)
  | (with_reducible apply ev_cs) | (with_reducible apply ev_tu) | (with_reducible apply ev_L)
  | (with_reducible apply ev_op) | (with_reducible apply ev_U) | (with_reducible apply ev_call) | (with_reducible apply ev_A)
  | (with_reducible apply ev_UL) | (with_reducible apply ev_Sl) | (with_reducible apply ev_So) | (with_reducible apply ev_meth)
  | (with_reducible apply ev_T) | (with_reducible apply ev_Tru) | (with_reducible apply ev_not) | (with_reducible apply ev_bl)
  | (with_reducible apply ev_ch) | (with_reducible apply ev_ch1) | (with_reducible apply ev_chn)
  | (with_reducible apply ev_and) | (with_reducible apply ev_or)
  | (with_reducible exact d_add) | (with_reducible exact d_sub)
  | ((with_reducible refine d_mul ?_); walk_at "ev mul") | ((with_reducible refine d_mod ?_); walk_at "ev pos") | ((with_reducible refine d_div ?_ ?_) <;> first | walk_at "ev pos" | walk_at "ev log")
  | ((with_reducible (show dLt (.int _) (.int _) = _)); exact rfl) | ((with_reducible (show dLe (.int _) (.int _) = _)); exact rfl) | ((with_reducible (show dGt (.int _) (.int _) = _)); exact rfl) | ((with_reducible (show dGe (.int _) (.int _) = _)); exact rfl)
  | ((with_reducible (show dInt (.int _) = _)); exact rfl) | ((with_reducible (show dAbs (.int _) = _)); exact rfl) | ((with_reducible (show dNeg (.int _) = _)); exact rfl)
  | ((with_reducible (show dTru (.bl _) = _)); exact rfl) | ((with_reducible refine d_pow ?_); decide)
  | ((with_reducible (show dIsi _ (.bl _) = _)); exact rfl) | ((with_reducible (show dIsi _ (.tup _) = _)); exact rfl) | ((with_reducible (show dIsi _ (.int _) = _)); exact rfl) | ((with_reducible (show dIsi _ .non = _)); exact rfl)
  | ((with_reducible (show dIsN _ _ = _)); exact rfl) | ((with_reducible (show dNoN _ _ = _)); exact rfl)
  | ((with_reducible (show dLen (.lst _) = _)); exact rfl) | ((with_reducible (show dLen (.scr _) = _)); exact rfl) | ((with_reducible (show dLen (.tup _) = _)); exact rfl)
  | (with_reducible refine d_eq eqOk_int eqOk_int eqd_int) | (with_reducible refine d_eq eqOk_bl eqOk_bl eqd_bl) | (with_reducible refine d_ne eqOk_int eqOk_int eqd_int)
  | (with_reducible refine d_ne eqOk_bl eqOk_bl eqd_bl) | ((with_reducible (show dIx (.tup _) (.int _) = _)); exact rfl)
  | walk_at "ev call"))
local macro_rules | `(tactic| walk_at "ev norm") => `(tactic| simp only [List.map_cons, List.map_nil, List.length_cons, List.length_nil, Nat.reduceAdd, Nat.reduceSub, List.reduceReplicate, List.cons_append, List.nil_append, List.set_cons_zero, List.set_cons_succ, List.zip_cons_cons, List.zip_nil_left, List.zip_nil_right, List.foldl_cons, List.foldl_nil])
local macro_rules | `(tactic| walk_at "ev st") => `(tactic| first
  | ((with_reducible apply sq_set); walk_at "ev"; all_goals (try walk_at "ev norm"))
  | ((with_reducible apply sq_unp); (walk_at "ev"); (all_goals try exact rfl); all_goals (try walk_at "ev norm"))
  | ((with_reducible apply sq_par); walk_at "ev"; all_goals (try walk_at "ev norm"))
  | ((with_reducible apply sq_setO); walk_at "ev"; all_goals (try walk_at "ev norm"))
  | ((with_reducible apply sq_ret); walk_at "ev")
  | ((with_reducible apply sv_ret); walk_at "ev")
  | ((with_reducible apply sv_set); walk_at "ev")
  | (with_reducible apply sq_nil))
def absI (a : Int) : Int := if a < 0 then -a else a
theorem absI_le {a b : Int} : absI a ≤ b ↔ -b ≤ a ∧ a ≤ b := by unfold absI; split <;> omega
def encP (a : Int × Int) : D := .tup [.int a.1, .int a.2]
def encL (l : Int × Int × Int) : D := .tup [.int l.1, .int l.2.1, .int l.2.2]
theorem all_map_bl {α : Type} (xs : List α) (t : α → Bool) : dAll (.lst (xs.map fun a => D.bl (t a))) = some (.bl (xs.all t)) := by
  have e : xs.map (fun a => D.bl (t a)) = (xs.map t).map D.bl := by rw [List.map_map]; rfl
  rw [e, d_all]
  simp [List.all_map]
def cell (ns : List Int) (k : Nat) : Int := ns.getD k 0
theorem cell_eq (ns : List Int) (k : Int) (h0 : 0 ≤ k) : S__law_cell [.scr ns, .int k] = some (.int (cell ns k.toNat)) := by
  obtain ⟨k, rfl⟩ := Int.eq_ofNat_of_zero_le h0
  refine sv_run ?_
  unfold B__law_cell
  walk_at "ev norm"
  refine sv_ifS (b := decide ((k : Int) < (ns.length : Int))) ?_ ?_ ?_
  · walk_at "ev"
  · intro h
    have h : k < ns.length := by simpa using h
    refine sv_rt (sv_ret (ev_op (ev_B rfl) (ev_V rfl) ?_))
    show (atI ns (k : Int)).map D.int = _
    rw [atI_nat (List.getElem?_eq_getElem h)]
    simp [cell, h]
  · intro h
    have h : ns.length ≤ k := by simpa using h
    rw [sv_nilS]
    refine sv_ret ?_
    simp [cell, List.getElem?_eq_none h, gI]
local macro_rules | `(tactic| walk_at "ev call") => `(tactic| with_reducible exact cell_eq _ _ (by decide))
theorem forL_rng {gs : Gs} {F : Sm} (n : Nat) (lo : Int) (Iv : Nat → DEnv → Prop) (hs : ∀ (k : Nat) Γ, k < n → Iv k Γ → ∃ Γ1 Γ2, gs (.int (lo + (k : Nat))) Γ = some Γ1 ∧ (F Γ1 = some (.nx Γ2) ∨ F Γ1 = some (.ct Γ2)) ∧ Iv (k + 1) Γ2) (Γ : DEnv) (h0 : Iv 0 Γ) : ∃ Γ', forL gs F (rngD lo n) Γ = some (.nx Γ') ∧ Iv n Γ' := by
  have key : ∀ m k Γ, k + m = n → Iv k Γ → ∃ Γ', forL gs F ((List.range' k m).map fun i => D.int (lo + (i : Nat))) Γ = some (.nx Γ') ∧ Iv n Γ' := by
    intro m
    induction m with
    | zero =>
      intro k Γ e h
      obtain rfl : k = n := by omega
      exact ⟨Γ, rfl, h⟩
    | succ m ih =>
      intro k Γ e h
      obtain ⟨Γ1, Γ2, h1, h2, h3⟩ := hs k Γ (by omega) h
      obtain ⟨Γ', h4, h5⟩ := ih (k + 1) Γ2 (by omega) h3
      refine ⟨Γ', ?_, h5⟩
      rw [List.range'_succ, List.map_cons]
      rcases h2 with h2 | h2
      · exact forL_nx h1 h2 h4
      · exact forL_ct h1 h2 h4
  have := key n 0 Γ (by omega) h0
  rwa [← List.range_eq_range'] at this
def mix1 (c : Int) (k : Nat) : Int := (c * 48271 + k * 69621 + 1013) % 2147483647
def mix2 (c : Int) (k : Nat) : Int := (mix1 c k * mix1 c k + 7 * mix1 c k + k) % 2147483629
/-- the law's digits -/
theorem digits_eq (c many n : Int) (h0 : 0 < many) (h1 : many ≤ 10 ^ 15) (n0 : 0 ≤ n) (n1 : n ≤ 100000) : ∃ ds : List Int, S__law_digits [.int c, .int many, .int n] = some (.lst (ds.map D.int)) ∧ (ds.length : Int) = n ∧ ∀ d ∈ ds, 0 ≤ d ∧ d < many := by
  obtain ⟨n, rfl⟩ := Int.eq_ofNat_of_zero_le n0
  have hloop := forL_rng (gs := gN 5) (F := (sIf (gT (gOp dGe (gV 0) (gOp dPow (gI 10) (gI 18))))
  (sSeq (sApp 3 [] (gOp dMod (gU dInt (gB 4)) (gV 1)))
  (sSet 4 (gOp dDiv (gV 4) (gV 1))))
  (sSeq (sSet 6 (gOp dMod (gU dInt (gOp dAdd (gOp dAdd (gOp dMul (gV 0) (gI 48271)) (gOp dMul (gV 5) (gI 69621))) (gI 1013))) (gI 2147483647)))
  (sSeq (sSet 6 (gOp dMod (gU dInt (gOp dAdd (gOp dAdd (gOp dMul (gV 6) (gV 6)) (gOp dMul (gI 7) (gV 6))) (gV 5))) (gI 2147483629)))
  (sApp 3 [] (gOp dMod (gU dInt (gOp dDiv (gV 6) (gI 31))) (gV 1))))))) n 0
    (fun k Γ => ∃ (ds : List Int) (rest : Int) (s5 s6 : Sl), Γ = [.sh (.int c), .sh (.int many), .sh (.int n), .ow (ds.map D.int), .sh (.int rest), s5, s6] ∧ ds.length = k ∧ ∀ d ∈ ds, 0 ≤ d ∧ d < many) ?_
    [.sh (.int c), .sh (.int many), .sh (.int n), .ow [], .sh (.int c), .no, .no] ⟨[], c, .no, .no, rfl, rfl, by simp⟩
  · obtain ⟨Γ', hf, ds, rest, s5, s6, rfl, hl, hb⟩ := hloop
    refine ⟨ds, ?_, by omega, hb⟩
    refine sv_run ?_
    unfold B__law_digits
    walk_at "ev norm"
    walk_at "ev st"
    walk_at "ev st"
    refine sv_nx (sv_for (ev_rng1 (ev_cs (ev_V rfl) ev_nl) (by omega) (by omega)) hf) ?_
    refine sv_frz ?_
    exact sv_ret (ev_V rfl)
  · rintro k Γ hk ⟨ds, rest, s5, s6, rfl, hl, hb⟩
    have e : (0 + (k : Int)) = k := by omega
    rw [e]
    have push : ∀ x : Int, (∀ d ∈ ds ++ [x % many], 0 ≤ d ∧ d < many) := fun x d hd => by
      rcases List.mem_append.mp hd with z | z
      · exact hb d z
      · rw [List.mem_singleton] at z
        subst z
        exact ⟨Int.emod_nonneg _ (by omega), Int.emod_lt_of_pos _ h0⟩
    have len : (ds.map D.int).length < 1000000 := by rw [List.length_map]; omega
    refine ⟨[.sh (.int c), .sh (.int many), .sh (.int n), .ow (ds.map D.int), .sh (.int rest), .sh (.int k), s6], ?_⟩
    by_cases hc : c ≥ 10 ^ 18
    · refine ⟨_, rfl, .inl (sv_ifT ?_ (sv_nx (sv_app0 (xs := ds.map D.int) (d := .int (rest % many)) ?_ rfl len) (sv_set (d := .int (rest / many)) ?_))), ds ++ [rest % many], rest / many, .sh (.int k), s6, ?_, by simp [hl], push _⟩
      · refine ev_T (ev_op (ev_V rfl) (ev_op ev_I ev_I (d_pow (by decide))) ?_)
        show some (D.bl (decide _)) = _
        rw [decide_eq_true]
        exact hc
      · walk_at "ev"
      · exact ev_op (ev_V rfl) (ev_V rfl) (d_div h0 (log_of (k := 100) (by omega) (by decide) (by decide)))
      · simp
    · have b1 : -(2 ^ 64) < mix1 c k ∧ mix1 c k < 2 ^ 64 := by
        unfold mix1
        omega
      refine ⟨_, rfl, .inl (sv_ifF ?_ (sv_nx (sv_set (d := .int (mix1 c k)) ?_) (sv_nx (sv_set (d := .int (mix2 c k)) ?_) (sv_app0 (xs := ds.map D.int) (d := .int (mix2 c k / 31 % many)) ?_ rfl len)))), ds ++ [mix2 c k / 31 % many], rest, .sh (.int k), .sh (.int (mix2 c k)), ?_, by simp [hl], push _⟩
      · refine ev_T (ev_op (ev_V rfl) (ev_op ev_I ev_I (d_pow (by decide))) ?_)
        show some (D.bl (decide _)) = _
        rw [decide_eq_false]
        exact hc
      · unfold mix1
        walk_at "ev"
      · walk_at "ev norm"
        unfold mix2
        generalize mix1 c k = m at *
        refine ev_op (ev_U (ev_op (ev_op (ev_op (ev_V rfl) (ev_V rfl) (d_mul (mulOk_l b1.1 b1.2))) (ev_op ev_I (ev_V rfl) (d_mul (mulOk_r b1.1 b1.2))) d_add) (ev_V rfl) d_add) rfl) ev_I (d_mod (by decide))
      · walk_at "ev norm"
        generalize mix2 c k = m at *
        walk_at "ev"
      · simp
theorem ixm (ms : List Int) (i : Int) (h0 : 0 ≤ i) (h1 : i < ms.length) : ∃ m, m ∈ ms ∧ dIx (.lst (ms.map D.int)) (.int i) = some (.int m) := by
  obtain ⟨k, rfl⟩ := Int.eq_ofNat_of_zero_le h0
  have hk : k < ms.length := by omega
  exact ⟨ms[k], List.getElem_mem hk, d_ixL (by simp [hk])⟩
def Asc (pts : List (Int × Int)) : Prop := pts.Pairwise fun a b => a.1 < b.1
abbrev SmP (a : Int × Int) : Prop := (-(2 ^ 50) < a.1 ∧ a.1 < 2 ^ 50) ∧ -(2 ^ 50) < a.2 ∧ a.2 < 2 ^ 50
theorem maxI_mem {ns : List Int} (h : ns ≠ []) : maxI ns ∈ ns ∧ ∀ n ∈ ns, n ≤ maxI ns := maxI_spec ns (by cases ns with | nil => exact absurd rfl h | cons => simp)
theorem minI_mem {ns : List Int} (h : ns ≠ []) : minI ns ∈ ns ∧ ∀ n ∈ ns, minI ns ≤ n := minI_spec ns (by cases ns with | nil => exact absurd rfl h | cons => simp)
def three (a b c : Int × Int) (e : Int) : Bool := decide (absI (b.2 * (c.1 - a.1) - a.2 * (c.1 - b.1) - c.2 * (b.1 - a.1)) ≤ 2 * e * (c.1 - a.1))
theorem all_range_succ (n : Nat) (t : Nat → Bool) : (List.range (n + 1)).all t = (t 0 && (List.range n).all fun k => t (k + 1)) := by
  rw [List.range_succ_eq_map, List.all_cons, List.all_map]; rfl
/-- a loop that leaves with r at the first item that fails -/
theorem forL_chk {gs : Gs} {F : Sm} (r : D) (Iv : DEnv → Prop) : ∀ (ds : List D) (t : Nat → Bool) (hs : ∀ k d Γ, ds[k]? = some d → Iv Γ → ∃ Γ1, gs d Γ = some Γ1 ∧ (t k = true → ∃ Γ2, F Γ1 = some (.nx Γ2) ∧ Iv Γ2) ∧ (t k = false → F Γ1 = some (.rt r))) (Γ : DEnv), Iv Γ →
    ((List.range ds.length).all t = true → ∃ Γ', forL gs F ds Γ = some (.nx Γ') ∧ Iv Γ') ∧ ((List.range ds.length).all t = false → forL gs F ds Γ = some (.rt r))
  | [], t, hs, Γ, h => ⟨fun _ => ⟨Γ, rfl, h⟩, fun z => by simp at z⟩
  | d :: ds, t, hs, Γ, h => by
    obtain ⟨Γ1, g1, ht, hf⟩ := hs 0 d Γ rfl h
    rw [List.length_cons, all_range_succ]
    cases e : t 0 with
    | false => exact ⟨fun z => by simp at z, fun _ => forL_rt g1 (hf e)⟩
    | true =>
      obtain ⟨Γ2, f2, i2⟩ := ht e
      obtain ⟨k1, k2⟩ := forL_chk r Iv ds (fun k => t (k + 1)) (fun k d Γ hd => hs (k + 1) d Γ (by simpa using hd)) Γ2 i2
      refine ⟨fun z => ?_, fun z => forL_nx g1 f2 (k2 (by simpa using z))⟩
      obtain ⟨Γ', w1, w2⟩ := k1 (by simpa using z)
      exact ⟨Γ', forL_nx g1 f2 w1, w2⟩
theorem rngD_len {lo : Int} {n : Nat} : (rngD lo n).length = n := by simp [rngD]
theorem rngD_get {lo : Int} {n k : Nat} {d : D} (h : (rngD lo n)[k]? = some d) : k < n ∧ d = .int (lo + (k : Nat)) := by
  have hk : k < n := by
    have := (List.getElem?_eq_some_iff.mp h).1
    rwa [rngD_len] at this
  simp [rngD, hk] at h
  exact ⟨hk, h.symm⟩
def pAt (pts : List (Int × Int)) (k : Nat) : Int × Int := pts.getD k (0, 0)
theorem pAt_get {pts : List (Int × Int)} {k : Nat} (h : k < pts.length) : pts[k]? = some (pAt pts k) := by simp [pAt, h]
theorem pAt_mem {pts : List (Int × Int)} {k : Nat} (h : k < pts.length) : pAt pts k ∈ pts := List.mem_of_getElem? (pAt_get h)
theorem ixp {pts : List (Int × Int)} {k : Nat} {i : Int} (h : k < pts.length) (e : i = (k : Nat)) : dIx (.lst (pts.map encP)) (.int i) = some (encP (pAt pts k)) := by
  subst e
  exact d_ixL (by rw [List.getElem?_map, pAt_get h]; rfl)
def fitsB (pts : List (Int × Int)) (e : Int) : Bool := (List.range (pts.length - 2)).all fun k => (List.range (k + 1)).all fun j => (List.range (j + 1)).all fun i => three (pAt pts i) (pAt pts (j + 1)) (pAt pts (k + 2)) e
theorem sv_runO {N : Nat} {B : Sm} {ds : List D} {s : Sl} (h : B (ds.map Sl.sh ++ List.replicate (N - ds.length) .no) = some (.ro s)) : DL.runN N B ds = some s := by unfold DL.runN; rw [h]; rfl
theorem cutD_map {α β : Type} (f : α → β) (xs : List α) (lo hi : Option Int) : cutD (xs.map f) lo hi = (cutD xs lo hi).map f := by
  unfold cutD
  rw [List.length_map, List.map_take, List.map_drop]
theorem cutD_mem {α : Type} {xs : List α} {lo hi : Option Int} {a : α} (h : a ∈ cutD xs lo hi) : a ∈ xs := List.mem_of_mem_drop (List.mem_of_mem_take h)
theorem cutD_len {α : Type} (xs : List α) (lo hi : Option Int) : (cutD xs lo hi).length ≤ xs.length := by
  unfold cutD
  rw [List.length_take, List.length_drop]
  omega
theorem d_cut {α : Type} {f : α → D} {xs : List α} {lo hi : Option Int} : dCut (.lst (xs.map f)) lo hi = some ((cutD xs lo hi).map f) := by
  show some (cutD (xs.map f) lo hi) = _
  rw [cutD_map]
theorem cutD_nat {α : Type} (xs : List α) (a b : Nat) (hb : b ≤ xs.length) : cutD xs (some a) (some b) = (xs.drop a).take (b - a) := by
  unfold cutD
  rw [HT.sIx_nat, HT.sIx_nat, Nat.min_eq_left hb]
  by_cases h : a ≤ xs.length
  · rw [Nat.min_eq_left h]
  · rw [Nat.min_eq_right (by omega), List.drop_eq_nil_of_le (Nat.le_refl _), List.drop_eq_nil_of_le (by omega), List.take_nil, List.take_nil]
theorem cutD_from {α : Type} (xs : List α) (a : Nat) : cutD xs (some a) none = xs.drop a := by
  unfold cutD
  rw [HT.sIx_nat, HT.sIx_none]
  by_cases h : a ≤ xs.length
  · rw [Nat.min_eq_left h, List.take_of_length_le (by simp)]
  · rw [Nat.min_eq_right (by omega), List.drop_eq_nil_of_le (Nat.le_refl _), List.drop_eq_nil_of_le (by omega), List.take_nil]
theorem cutD_to {α : Type} (xs : List α) (b : Nat) : cutD xs none (some b) = xs.take b := by
  unfold cutD
  rw [HT.sIx_nat, HT.sIx_none, List.drop_zero]
  by_cases h : b ≤ xs.length
  · rw [Nat.min_eq_left h]; rfl
  · rw [Nat.min_eq_right (by omega), List.take_of_length_le (by omega), List.take_of_length_le (by omega)]
theorem d_cat {α : Type} {f : α → D} {xs ys : List α} (h : xs.length + ys.length < 1000000) : dAdd (.lst (xs.map f)) (.lst (ys.map f)) = some (.lst ((xs ++ ys).map f)) := by
  show (if (xs.map f).length + (ys.map f).length < 1000000 then some (D.lst (xs.map f ++ ys.map f)) else none) = _
  rw [List.length_map, List.length_map, if_pos h, List.map_append]
/-- a loop that leaves with a good value, or goes on -/
theorem forL_ret {gs : Gs} {F : Sm} (P : D → Prop) (Iv : DEnv → Prop) : ∀ (ds : List D) (hs : ∀ d Γ, d ∈ ds → Iv Γ → ∃ Γ1, gs d Γ = some Γ1 ∧ ((∃ Γ2, F Γ1 = some (.nx Γ2) ∧ Iv Γ2) ∨ ∃ r, F Γ1 = some (.rt r) ∧ P r)) (Γ : DEnv), Iv Γ →
    (∃ Γ', forL gs F ds Γ = some (.nx Γ') ∧ Iv Γ') ∨ ∃ r, forL gs F ds Γ = some (.rt r) ∧ P r
  | [], hs, Γ, h => .inl ⟨Γ, rfl, h⟩
  | d :: ds, hs, Γ, h => by
    obtain ⟨Γ1, g1, q⟩ := hs d Γ List.mem_cons_self h
    rcases q with ⟨Γ2, f2, i2⟩ | ⟨r, f2, pr⟩
    · rcases forL_ret P Iv ds (fun d Γ hd => hs d Γ (List.mem_cons_of_mem _ hd)) Γ2 i2 with ⟨Γ', w1, w2⟩ | ⟨r, w1, w2⟩
      · exact .inl ⟨Γ', forL_nx g1 f2 w1, w2⟩
      · exact .inr ⟨r, forL_nx g1 f2 w1, w2⟩
    · exact .inr ⟨r, forL_rt g1 f2, pr⟩
theorem rngD_mem {lo : Int} {n : Nat} {d : D} (h : d ∈ rngD lo n) : ∃ k : Nat, k < n ∧ d = .int (lo + k) := by
  obtain ⟨k, hk, e⟩ := List.mem_map.mp h
  exact ⟨k, by simpa using hk, e.symm⟩
theorem d_ixC {f : α → D} {xs : List α} {k : Nat} {i : Int} {a : α} (h : xs[k]? = some a) (e : i = (k : Nat)) : dIx (.lst (xs.map f)) (.int i) = some (f a) := by
  subst e
  exact d_ixL (by rw [List.getElem?_map, h]; rfl)
theorem pAt_d (pts : List (Int × Int)) (hb : ∀ a ∈ pts, SmP a) {i j : Nat} (hi : i < pts.length) (hj : j < pts.length) : -(2 ^ 52) < (pAt pts j).1 - (pAt pts i).1 ∧ (pAt pts j).1 - (pAt pts i).1 < 2 ^ 52 := by
  have h1 := hb _ (pAt_mem hi)
  have h2 := hb _ (pAt_mem hj)
  omega
theorem compL_ex {gs : Gs} {f : Ex} {Γ : DEnv} {β : Type} (enc : β → D) : ∀ (ds : List D) (h : ∀ d ∈ ds, ∃ Γ1 v, gs d Γ = some Γ1 ∧ f Γ1 = some (enc v)), ∃ vs : List β, compL gs gYes f ds Γ = some (vs.map enc) ∧ vs.length = ds.length
  | [], _ => ⟨[], rfl, rfl⟩
  | d :: ds, h => by
    obtain ⟨Γ1, v, h1, h2⟩ := h d List.mem_cons_self
    obtain ⟨vs, h3, h4⟩ := compL_ex enc ds fun d hd => h d (List.mem_cons_of_mem _ hd)
    refine ⟨v :: vs, ?_, by simp [h4]⟩
    unfold compL
    rw [h1]
    show (f Γ1).bind _ = _
    rw [h2]
    show (compL gs gYes f ds Γ).bind _ = _
    rw [h3]
    rfl
def encC (c : Int × Int × Int × Int) : D := .tup [.int c.1, encL c.2]
/-- where the pieces end -/
def endsOf (sts : List Int) (n : Nat) : List Int := sts.drop 1 ++ [(n : Int)]
theorem ends_get {sts : List Int} {n k : Nat} (hk : k < sts.length) : (endsOf sts n)[k]? = some (if k + 1 < sts.length then sts.getD (k + 1) 0 else (n : Int)) := by
  unfold endsOf
  by_cases h : k + 1 < sts.length
  · rw [if_pos h, List.getElem?_append_left (by simp; omega), List.getElem?_drop]
    simp [Nat.add_comm 1 k, h]
  · rw [if_neg h, List.getElem?_append_right (by simp; omega)]
    have : k - (sts.drop 1).length = 0 := by simp; omega
    rw [this]
    rfl
theorem ends_len {sts : List Int} {n : Nat} : (endsOf sts n).length = sts.length - 1 + 1 := by simp [endsOf]
theorem ev_ends {sts : List Int} {n : Nat} {Γ : DEnv} {i j : Nat} {f : Ex} (hs : sts.length < 10000) (hi : gB i Γ = some (.lst (sts.map D.int))) (hj : f Γ = some (.int n)) : gOp dAdd (gL (gSl (gB i) (gSo (gI 1)) gNo)) (gL (aC f aN)) Γ = some (.lst ((endsOf sts n).map D.int)) := by
  refine ev_op (ev_L (ev_Sl hi (ev_So ev_I) ev_No d_cut)) (ev_L (ev_cs hj ev_nl)) ?_
  have e : cutD sts (some 1) none = sts.drop 1 := cutD_from sts 1
  rw [e]
  exact d_cat (xs := sts.drop 1) (ys := [(n : Int)]) (by simp; omega)
section
variable {p : Te} {F F' F'' : Sm} {Γ : DEnv} {b : Bool} {f : Ex} {d : D} {i : Nat} {P : D → Prop} {gs : Gs} {Γ1 : DEnv}
theorem ex_ifS (h : p Γ = some b) (h1 : b = true → ∃ r, P r ∧ sSeq F F'' Γ = some (.rt r)) (h2 : b = false → ∃ r, P r ∧ sSeq F' F'' Γ = some (.rt r)) : ∃ r, P r ∧ sSeq (sIf p F F') F'' Γ = some (.rt r) := by
  cases b with
  | true =>
    obtain ⟨r, h3, h4⟩ := h1 rfl
    exact ⟨r, h3, sv_ifS h (fun _ => h4) (fun z => by cases z)⟩
  | false =>
    obtain ⟨r, h3, h4⟩ := h2 rfl
    exact ⟨r, h3, sv_ifS h (fun z => by cases z) (fun _ => h4)⟩
theorem ex_set (h : f Γ = some d) (k : ∃ r, P r ∧ F' (Γ.set i (.sh d)) = some (.rt r)) : ∃ r, P r ∧ sSeq (sSet i f) F' Γ = some (.rt r) := by
  obtain ⟨r, h1, h2⟩ := k
  exact ⟨r, h1, sq_set h h2⟩
theorem ex_unp (h : f Γ = some d) (h2 : gs d Γ = some Γ1) (k : ∃ r, P r ∧ F' Γ1 = some (.rt r)) : ∃ r, P r ∧ sSeq (sUnp gs f) F' Γ = some (.rt r) := by
  obtain ⟨r, h3, h4⟩ := k
  exact ⟨r, h3, sq_unp h h2 h4⟩
theorem ex_ret (h : f Γ = some d) (hp : P d) : ∃ r, P r ∧ sRet f Γ = some (.rt r) := ⟨d, hp, sv_ret h⟩
theorem ex_retS (h : f Γ = some d) (hp : P d) : ∃ r, P r ∧ sSeq (sRet f) F' Γ = some (.rt r) := ⟨d, hp, sq_ret h⟩
theorem ex_seqA (h : ∃ r, P r ∧ sSeq F (sSeq F' F'') Γ = some (.rt r)) : ∃ r, P r ∧ sSeq (sSeq F F') F'' Γ = some (.rt r) := by
  obtain ⟨r, h1, h2⟩ := h
  exact ⟨r, h1, by rw [sv_seqA]; exact h2⟩
theorem ex_nilS (h : ∃ r, P r ∧ F Γ = some (.rt r)) : ∃ r, P r ∧ sSeq sNil F Γ = some (.rt r) := h
end
/-! a calculus of what a statement ends in -/
def W (F : Sm) (Γ : DEnv) (P : Res → Prop) : Prop := ∃ r, F Γ = some r ∧ P r
def thenP (F : Sm) (P : Res → Prop) : Res → Prop
  | .nx Γ => W F Γ P
  | r => P r
/-- what a loop's body may end in -/
def bodyP (Iv : DEnv → Prop) (P : Res → Prop) : Res → Prop
  | .nx Γ => Iv Γ
  | .ct Γ => Iv Γ
  | .bk Γ => P (.nx Γ)
  | .rt d => P (.rt d)
  | .rm d s => P (.rm d s)
  | .ro s => P (.ro s)
  | .ra n => P (.ra n)
def isRt (P : D → Prop) : Res → Prop
  | .rt d => P d
  | _ => False
def isRo (P : Sl → Prop) : Res → Prop
  | .ro s => P s
  | _ => False
def isRm (P : D → Sl → Prop) : Res → Prop
  | .rm d s => P d s
  | .nx (s :: _) => P .non s
  | _ => False
section
variable {F F' F'' : Sm} {Γ Γ1 : DEnv} {P Q : Res → Prop} {f : Ex} {fs : Ag} {d : D} {ds : List D} {i : Nat} {p : Te} {b : Bool} {gs : Gs} {it : Ag}
theorem W_mono (h : W F Γ Q) (k : ∀ r, Q r → P r) : W F Γ P := by
  obtain ⟨r, h1, h2⟩ := h
  exact ⟨r, h1, k r h2⟩
theorem W_seq (h : W F Γ (thenP F' P)) : W (sSeq F F') Γ P := by
  obtain ⟨r, h1, h2⟩ := h
  cases r with
  | nx Γ1 =>
    obtain ⟨r2, h3, h4⟩ := h2
    exact ⟨r2, sv_nx h1 h3, h4⟩
  | _ => exact ⟨_, by unfold sSeq; rw [h1]; rfl, h2⟩
theorem W_set (h : f Γ = some d) (k : P (.nx (Γ.set i (.sh d)))) : W (sSet i f) Γ P := ⟨_, sv_set h, k⟩
theorem W_setO (h : fs Γ = some ds) (k : P (.nx (Γ.set i (.ow ds)))) : W (sSetO i fs) Γ P := ⟨_, sv_setO h, k⟩
theorem W_ret (h : f Γ = some d) (k : P (.rt d)) : W (sRet f) Γ P := ⟨_, sv_ret h, k⟩
theorem W_nil (k : P (.nx Γ)) : W sNil Γ P := ⟨_, rfl, k⟩
theorem W_brk (k : P (.bk Γ)) : W sBrk Γ P := ⟨_, rfl, k⟩
theorem W_cnt (k : P (.ct Γ)) : W sCnt Γ P := ⟨_, rfl, k⟩
theorem W_if (h : p Γ = some b) (h1 : b = true → W F Γ P) (h2 : b = false → W F' Γ P) : W (sIf p F F') Γ P := by
  cases b with
  | true =>
    obtain ⟨r, h3, h4⟩ := h1 rfl
    exact ⟨r, sv_ifT h h3, h4⟩
  | false =>
    obtain ⟨r, h3, h4⟩ := h2 rfl
    exact ⟨r, sv_ifF h h3, h4⟩
theorem W_unp (h : f Γ = some d) (h2 : gs d Γ = some Γ1) (k : P (.nx Γ1)) : W (sUnp gs f) Γ P := ⟨_, sv_unp h h2, k⟩
theorem W_app {xs : List D} (h : f Γ = some d) (h1 : Γ[i]? = some (.ow xs)) (h2 : xs.length < 1000000) (k : P (.nx (Γ.set i (.ow (xs ++ [d]))))) : W (sApp i [] f) Γ P := ⟨_, sv_app0 h h1 h2, k⟩
theorem W_aug {x y : D} {o : D → D → Option D} (h1 : Γ[i]? = some (.sh x)) (h2 : f Γ = some y) (h3 : o x y = some d) (k : P (.nx (Γ.set i (.sh d)))) : W (sAug o i f) Γ P := ⟨_, sv_aug h1 h2 h3, k⟩
theorem W_frz (h : W F (frzE i Γ) P) : W (sFrz i F) Γ P := h
theorem W_par {is : List Nat} (h : fs Γ = some ds) (k : P (.nx ((is.zip ds).foldl (fun Γ p => Γ.set p.1 (.sh p.2)) Γ))) : W (sPar is fs) Γ P := ⟨_, sv_par h, k⟩
theorem W_forL (Iv : Nat → DEnv → Prop) : ∀ (ds : List D) (hs : ∀ k d Γ, ds[k]? = some d → Iv k Γ → ∃ Γ1, gs d Γ = some Γ1 ∧ W F Γ1 (bodyP (Iv (k + 1)) P)) (hn : ∀ Γ', Iv ds.length Γ' → P (.nx Γ')) (Γ : DEnv), Iv 0 Γ → W (forL gs F ds) Γ P := by
  have key : ∀ (ds : List D) (m : Nat) (hs : ∀ k d Γ, ds[k]? = some d → Iv (m + k) Γ → ∃ Γ1, gs d Γ = some Γ1 ∧ W F Γ1 (bodyP (Iv (m + k + 1)) P)) (hn : ∀ Γ', Iv (m + ds.length) Γ' → P (.nx Γ')) (Γ : DEnv), Iv m Γ → W (forL gs F ds) Γ P := by
    intro ds
    induction ds with
    | nil => intro m hs hn Γ h0; exact ⟨_, rfl, hn Γ h0⟩
    | cons d ds ih =>
      intro m hs hn Γ h0
      obtain ⟨Γ1, g1, r, h1, h2⟩ := hs 0 d Γ rfl h0
      have rest : ∀ Γ2, Iv (m + 1) Γ2 → W (forL gs F ds) Γ2 P := fun Γ2 h => ih (m + 1) (fun k d Γ hd hi => by
        have e : m + 1 + k = m + (k + 1) := by omega
        rw [e] at hi ⊢
        exact hs (k + 1) d Γ (by simpa using hd) hi) (fun Γ' hi => hn Γ' (by
        have e : m + (d :: ds).length = m + 1 + ds.length := by simp; omega
        rw [e]; exact hi)) Γ2 h
      cases r with
      | nx Γ2 =>
        obtain ⟨r2, h3, h4⟩ := rest Γ2 h2
        exact ⟨r2, forL_nx g1 h1 h3, h4⟩
      | ct Γ2 =>
        obtain ⟨r2, h3, h4⟩ := rest Γ2 h2
        exact ⟨r2, forL_ct g1 h1 h3, h4⟩
      | bk Γ2 => exact ⟨_, forL_bk g1 h1, h2⟩
      | rt d => exact ⟨_, forL_rt g1 h1, h2⟩
      | rm d s => exact ⟨_, by unfold forL; rw [g1]; show (F Γ1).bind _ = _; rw [h1]; rfl, h2⟩
      | ro s => exact ⟨_, by unfold forL; rw [g1]; show (F Γ1).bind _ = _; rw [h1]; rfl, h2⟩
      | ra n => exact ⟨_, by unfold forL; rw [g1]; show (F Γ1).bind _ = _; rw [h1]; rfl, h2⟩
  intro ds hs hn Γ h0
  exact key ds 0 (fun k d Γ hd hi => by rw [Nat.zero_add] at hi ⊢; exact hs k d Γ hd hi) (fun Γ' hi => hn Γ' (by rw [Nat.zero_add] at hi; exact hi)) Γ h0
theorem W_for (Iv : Nat → DEnv → Prop) (hit : it Γ = some ds) (h0 : Iv 0 Γ) (hs : ∀ k d Γ, ds[k]? = some d → Iv k Γ → ∃ Γ1, gs d Γ = some Γ1 ∧ W F Γ1 (bodyP (Iv (k + 1)) P)) (hn : ∀ Γ', Iv ds.length Γ' → P (.nx Γ')) : W (sFor it gs F) Γ P := by
  obtain ⟨r, h1, h2⟩ := W_forL Iv ds hs hn Γ h0
  exact ⟨r, sv_for hit h1, h2⟩
/-- for i in range(..) -/
theorem W_rng (Iv : Nat → DEnv → Prop) {lo : Int} {n : Nat} (hit : it Γ = some (rngD lo n)) (h0 : Iv 0 Γ) (hs : ∀ k Γ, k < n → Iv k Γ → ∃ Γ1, gs (.int (lo + (k : Nat))) Γ = some Γ1 ∧ W F Γ1 (bodyP (Iv (k + 1)) P)) (hn : ∀ Γ', Iv n Γ' → P (.nx Γ')) : W (sFor it gs F) Γ P :=
  W_for Iv hit h0 (fun k d Γ hd hi => by
    obtain ⟨h1, rfl⟩ := rngD_get hd
    exact hs k Γ h1 hi) (fun Γ' h => hn Γ' (by rw [rngD_len] at h; exact h))
/-- for x in xs, the list of the data of some things -/
theorem W_map {α : Type} {enc : α → D} {xs : List α} (Iv : Nat → DEnv → Prop) (hit : it Γ = some (xs.map enc)) (h0 : Iv 0 Γ) (hs : ∀ k a Γ, xs[k]? = some a → Iv k Γ → ∃ Γ1, gs (enc a) Γ = some Γ1 ∧ W F Γ1 (bodyP (Iv (k + 1)) P)) (hn : ∀ Γ', Iv xs.length Γ' → P (.nx Γ')) : W (sFor it gs F) Γ P :=
  W_for Iv hit h0 (fun k d Γ hd hi => by
    rw [List.getElem?_map] at hd
    obtain ⟨a, ha, rfl⟩ := Option.map_eq_some_iff.mp hd
    exact hs k a Γ ha hi) (fun Γ' h => hn Γ' (by rw [List.length_map] at h; exact h))
theorem W_while (Iv : Nat → DEnv → Prop) (h0 : ∃ m, Iv m Γ) (hs : ∀ m Γ, Iv m Γ → ∃ b, p Γ = some b ∧ (b = false → P (.nx Γ)) ∧ (b = true → W F Γ (bodyP (fun Γ' => ∃ m', m' < m ∧ Iv m' Γ') P))) : W (sWhile p F) Γ P := by
  obtain ⟨m, h0⟩ := h0
  have key : ∀ (n m : Nat) (Γ : DEnv), m < n → Iv m Γ → W (whileN n p F) Γ P := by
    intro n
    induction n with
    | zero => intro m Γ h; omega
    | succ n ih =>
      intro m Γ hm h
      obtain ⟨b, h1, h2, h3⟩ := hs m Γ h
      cases b with
      | false =>
        refine ⟨.nx Γ, ?_, h2 rfl⟩
        unfold whileN
        rw [h1]
        rfl
      | true =>
        obtain ⟨r, h4, h5⟩ := h3 rfl
        cases r with
        | nx Γ2 =>
          obtain ⟨m', k1, k2⟩ := h5
          obtain ⟨r2, h6, h7⟩ := ih m' Γ2 (by omega) k2
          exact ⟨r2, by rw [whileN, h1]; show (F Γ).bind _ = _; rw [h4]; exact h6, h7⟩
        | ct Γ2 =>
          obtain ⟨m', k1, k2⟩ := h5
          obtain ⟨r2, h6, h7⟩ := ih m' Γ2 (by omega) k2
          exact ⟨r2, by rw [whileN, h1]; show (F Γ).bind _ = _; rw [h4]; exact h6, h7⟩
        | bk Γ2 => exact ⟨_, by rw [whileN, h1]; show (F Γ).bind _ = _; rw [h4]; rfl, h5⟩
        | rt d => exact ⟨_, by rw [whileN, h1]; show (F Γ).bind _ = _; rw [h4]; rfl, h5⟩
        | rm d s => exact ⟨_, by rw [whileN, h1]; show (F Γ).bind _ = _; rw [h4]; rfl, h5⟩
        | ro s => exact ⟨_, by rw [whileN, h1]; show (F Γ).bind _ = _; rw [h4]; rfl, h5⟩
        | ra n => exact ⟨_, by rw [whileN, h1]; show (F Γ).bind _ = _; rw [h4]; rfl, h5⟩
  obtain ⟨r, h1, h2⟩ := key (m + 1) m Γ (by omega) h0
  exact ⟨r, sWhile_of h1, h2⟩
theorem run_W {N : Nat} {B : Sm} {P : D → Prop} (h : W B (ds.map Sl.sh ++ List.replicate (N - ds.length) .no) (isRt P)) : ∃ d, runB N B ds = some d ∧ P d := by
  obtain ⟨r, h1, h2⟩ := h
  cases r with
  | rt d => exact ⟨d, sv_run h1, h2⟩
  | _ => exact h2.elim
theorem run_Weq {N : Nat} {B : Sm} (h : W B (ds.map Sl.sh ++ List.replicate (N - ds.length) .no) (isRt (· = d))) : runB N B ds = some d := by
  obtain ⟨d', h1, rfl⟩ := run_W h
  exact h1
theorem run_WO {N : Nat} {B : Sm} {P : Sl → Prop} (h : W B (ds.map Sl.sh ++ List.replicate (N - ds.length) .no) (isRo P)) : ∃ s, DL.runN N B ds = some s ∧ P s := by
  obtain ⟨r, h1, h2⟩ := h
  cases r with
  | ro s => exact ⟨s, sv_runO h1, h2⟩
  | ra n => exact h2.elim
  | _ => exact h2.elim
/-- a loop that tests: at the first thing that fails it returns the value r -/
theorem W_chk {α : Type} {enc : α → D} {xs : List α} (t : Nat → Bool) (Iv : DEnv → Prop) (hit : it Γ = some (xs.map enc)) (h0 : Iv Γ) (hs : ∀ k a Γ, xs[k]? = some a → Iv Γ → ∃ Γ1, gs (enc a) Γ = some Γ1 ∧ W F Γ1 (bodyP (fun Γ' => t k = true ∧ Iv Γ') fun r => t k = false ∧ P r)) (hn : (List.range xs.length).all t = true → ∀ Γ', Iv Γ' → P (.nx Γ')) : W (sFor it gs F) Γ P := by
  refine W_map (fun k Γ => (∀ j, j < k → t j = true) ∧ Iv Γ) hit ⟨fun j h => by omega, h0⟩ (fun k a Γ ha hi => ?_) fun Γ' h => hn (by simpa [List.all_eq_true] using h.1) Γ' h.2
  obtain ⟨Γ1, h1, h2⟩ := hs k a Γ ha hi.2
  refine ⟨Γ1, h1, W_mono h2 fun r hr => ?_⟩
  have fin : ∀ Γ', (t k = true ∧ Iv Γ') → ((∀ j, j < k + 1 → t j = true) ∧ Iv Γ') := fun Γ' h => ⟨fun j hj => by
    by_cases e : j = k
    · rw [e]; exact h.1
    · exact hi.1 j (by omega), h.2⟩
  cases r with
  | nx Γ' => exact fin Γ' hr
  | ct Γ' => exact fin Γ' hr
  | bk Γ' => exact hr.2
  | rt d => exact hr.2
  | rm d s => exact hr.2
  | ro s => exact hr.2
  | ra n => exact hr.2
theorem wq_set (h : f Γ = some d) (k : W F' (Γ.set i (.sh d)) P) : W (sSeq (sSet i f) F') Γ P := W_seq (W_set h k)
theorem wq_setO (h : fs Γ = some ds) (k : W F' (Γ.set i (.ow ds)) P) : W (sSeq (sSetO i fs) F') Γ P := W_seq (W_setO h k)
theorem wq_unp (h : f Γ = some d) (h2 : gs d Γ = some Γ1) (k : W F' Γ1 P) : W (sSeq (sUnp gs f) F') Γ P := W_seq (W_unp h h2 k)
theorem wq_app {xs : List D} (h : f Γ = some d) (h1 : Γ[i]? = some (.ow xs)) (h2 : xs.length < 1000000) (k : W F' (Γ.set i (.ow (xs ++ [d]))) P) : W (sSeq (sApp i [] f) F') Γ P := W_seq (W_app h h1 h2 k)
theorem wq_par {is : List Nat} (h : fs Γ = some ds) (k : W F' ((is.zip ds).foldl (fun Γ p => Γ.set p.1 (.sh p.2)) Γ) P) : W (sSeq (sPar is fs) F') Γ P := W_seq (W_par h k)
theorem wq_if (h : p Γ = some b) (h1 : b = true → W F Γ (thenP F'' P)) (h2 : b = false → W F' Γ (thenP F'' P)) : W (sSeq (sIf p F F') F'') Γ P := W_seq (W_if h h1 h2)
/-- if p: return f -/
theorem wq_ifR (h : p Γ = some b) (h1 : b = true → ∃ d, f Γ = some d ∧ P (.rt d)) (h2 : b = false → W F'' Γ P) : W (sSeq (sIf p (sRet f) sNil) F'') Γ P :=
  W_seq (W_if h (fun e => by
    obtain ⟨d, h3, h4⟩ := h1 e
    exact W_ret h3 h4) fun e => W_nil (h2 e))
theorem wq_ret (h : f Γ = some d) (k : P (.rt d)) : W (sSeq (sRet f) F') Γ P := W_seq (W_ret h k)
theorem wq_ifN (h : p Γ = some b) (hb : b = false) (k : W F'' Γ P) : W (sSeq (sIf p F sNil) F'') Γ P := W_seq (W_if h (fun e => by rw [hb] at e; cases e) fun _ => W_nil k)
theorem wq_for (Iv : Nat → DEnv → Prop) (hit : it Γ = some ds) (h0 : Iv 0 Γ) (hs : ∀ k d Γ, ds[k]? = some d → Iv k Γ → ∃ Γ1, gs d Γ = some Γ1 ∧ W F Γ1 (bodyP (Iv (k + 1)) (thenP F' P))) (hn : ∀ Γ', Iv ds.length Γ' → W F' Γ' P) : W (sSeq (sFor it gs F) F') Γ P := W_seq (W_for Iv hit h0 hs hn)
theorem wq_rng (Iv : Nat → DEnv → Prop) {lo : Int} {n : Nat} (hit : it Γ = some (rngD lo n)) (h0 : Iv 0 Γ) (hs : ∀ k Γ, k < n → Iv k Γ → ∃ Γ1, gs (.int (lo + (k : Nat))) Γ = some Γ1 ∧ W F Γ1 (bodyP (Iv (k + 1)) (thenP F' P))) (hn : ∀ Γ', Iv n Γ' → W F' Γ' P) : W (sSeq (sFor it gs F) F') Γ P := W_seq (W_rng Iv hit h0 hs hn)
theorem wq_map {α : Type} {enc : α → D} {xs : List α} (Iv : Nat → DEnv → Prop) (hit : it Γ = some (xs.map enc)) (h0 : Iv 0 Γ) (hs : ∀ k a Γ, xs[k]? = some a → Iv k Γ → ∃ Γ1, gs (enc a) Γ = some Γ1 ∧ W F Γ1 (bodyP (Iv (k + 1)) (thenP F' P))) (hn : ∀ Γ', Iv xs.length Γ' → W F' Γ' P) : W (sSeq (sFor it gs F) F') Γ P := W_seq (W_map Iv hit h0 hs hn)
/-- a loop of tests over things that a list of data tells -/
theorem wq_chk (t : Nat → Bool) (Iv : DEnv → Prop) (hit : it Γ = some ds) (h0 : Iv Γ) (hs : ∀ k d Γ, ds[k]? = some d → Iv Γ → ∃ Γ1, gs d Γ = some Γ1 ∧ (t k = true → W F Γ1 (bodyP Iv fun _ => False)) ∧ (t k = false → W F Γ1 (bodyP (fun _ => False) (thenP F' P)))) (hn : (List.range ds.length).all t = true → ∀ Γ', Iv Γ' → W F' Γ' P) : W (sSeq (sFor it gs F) F') Γ P := by
  refine wq_for (fun k Γ => (∀ j, j < k → t j = true) ∧ Iv Γ) hit ⟨fun j h => by omega, h0⟩ (fun k a Γ ha hi => ?_) fun Γ' h => hn (by simpa [List.all_eq_true] using h.1) Γ' h.2
  obtain ⟨Γ1, h1, h2, h3⟩ := hs k a Γ ha hi.2
  refine ⟨Γ1, h1, ?_⟩
  cases e : t k with
  | false =>
    refine W_mono (h3 e) fun r hr => ?_
    cases r with
    | nx Γ' => exact hr.elim
    | ct Γ' => exact hr.elim
    | bk Γ' => exact hr
    | rt d => exact hr
    | rm d s => exact hr
    | ro s => exact hr
    | ra n => exact hr
  | true =>
    refine W_mono (h2 e) fun r hr => ?_
    have fin : ∀ Γ', Iv Γ' → ((∀ j, j < k + 1 → t j = true) ∧ Iv Γ') := fun Γ' h => ⟨fun j hj => by
      by_cases e2 : j = k
      · rw [e2]; exact e
      · exact hi.1 j (by omega), h⟩
    cases r with
    | nx Γ' => exact fin Γ' hr
    | ct Γ' => exact fin Γ' hr
    | bk Γ' => exact hr.elim
    | rt d => exact hr.elim
    | rm d s => exact hr.elim
    | ro s => exact hr.elim
    | ra n => exact hr.elim
theorem W_ifR (h : p Γ = some b) (h1 : b = true → ∃ d, f Γ = some d ∧ P (.rt d)) (h2 : b = false → P (.nx Γ)) : W (sIf p (sRet f) sNil) Γ P :=
  W_if h (fun e => by
    obtain ⟨d, h3, h4⟩ := h1 e
    exact W_ret h3 h4) fun e => W_nil (h2 e)
end
theorem ev_Bb {Γ : DEnv} {i : Nat} {d : D} (h : Γ[i]? = some (.bo d)) : gB i Γ = some d := by unfold gB; rw [h]
theorem run_WKeq {ms : List Bool} {N : Nat} {B : Sm} {ds : List D} {d : D} (h : W B (slM ms ds ++ List.replicate (N - ms.length) .no) (isRt (· = d))) : runK ms N B ds = some d := by
  obtain ⟨r, h1, h2⟩ := h
  cases r with
  | rt d' =>
    have e : d' = d := h2
    subst e
    unfold runK
    rw [h1]
    rfl
  | _ => exact h2.elim
theorem run_WK {ms : List Bool} {N : Nat} {B : Sm} {ds : List D} {P : D → Prop} (h : W B (slM ms ds ++ List.replicate (N - ms.length) .no) (isRt P)) : ∃ d, runK ms N B ds = some d ∧ P d := by
  obtain ⟨r, h1, h2⟩ := h
  cases r with
  | rt d' => exact ⟨d', by unfold runK; rw [h1]; rfl, h2⟩
  | _ => exact h2.elim
theorem W_pop {Γ : DEnv} {i : Nat} {xs : List D} {P : Res → Prop} (h1 : Γ[i]? = some (.ow xs)) (hne : xs ≠ []) (k : P (.nx (Γ.set i (.ow xs.dropLast)))) : W (sPop i []) Γ P := by
  refine ⟨.nx (Γ.set i (.ow xs.dropLast)), ?_, k⟩
  have e1 : gP i [] Γ = some (.ow xs) := by unfold gP; rw [h1]; rfl
  have e3 : upP i [] (.ow xs.dropLast) Γ = some (.nx (Γ.set i (.ow xs.dropLast))) := by unfold upP; rw [h1]; rfl
  unfold sPop
  rw [e1]
  show (if xs = [] then none else upP i [] (.ow xs.dropLast) Γ) = _
  rw [if_neg hne, e3]
theorem wq_while {F F' : Sm} {p : Te} {Γ : DEnv} {P : Res → Prop} (Iv : Nat → DEnv → Prop) (h0 : ∃ m, Iv m Γ) (hs : ∀ m Γ, Iv m Γ → ∃ b, p Γ = some b ∧ (b = false → W F' Γ P) ∧ (b = true → W F Γ (bodyP (fun Γ' => ∃ m', m' < m ∧ Iv m' Γ') (thenP F' P)))) : W (sSeq (sWhile p F) F') Γ P := W_seq (W_while Iv h0 hs)
/-- a loop of tests whose invariant tells the turn -/
theorem wq_chkI {F F' : Sm} {Γ : DEnv} {P : Res → Prop} {it : Ag} {gs : Gs} {ds : List D} (t : Nat → Bool) (Iv : Nat → DEnv → Prop) (hit : it Γ = some ds) (h0 : Iv 0 Γ) (hs : ∀ k d Γ, ds[k]? = some d → Iv k Γ → ∃ Γ1, gs d Γ = some Γ1 ∧ (t k = true → W F Γ1 (bodyP (Iv (k + 1)) fun _ => False)) ∧ (t k = false → W F Γ1 (bodyP (fun _ => False) (thenP F' P)))) (hn : (List.range ds.length).all t = true → ∀ Γ', Iv ds.length Γ' → W F' Γ' P) : W (sSeq (sFor it gs F) F') Γ P := by
  refine wq_for (fun k Γ => (∀ j, j < k → t j = true) ∧ Iv k Γ) hit ⟨fun j h => by omega, h0⟩ (fun k a Γ ha hi => ?_) fun Γ' h => hn (by simpa [List.all_eq_true] using h.1) Γ' h.2
  obtain ⟨Γ1, h1, h2, h3⟩ := hs k a Γ ha hi.2
  refine ⟨Γ1, h1, ?_⟩
  cases e : t k with
  | false =>
    refine W_mono (h3 e) fun r hr => ?_
    cases r with
    | nx Γ' => exact hr.elim
    | ct Γ' => exact hr.elim
    | bk Γ' => exact hr
    | rt d => exact hr
    | rm d s => exact hr
    | ro s => exact hr
    | ra n => exact hr
  | true =>
    refine W_mono (h2 e) fun r hr => ?_
    have fin : ∀ Γ', Iv (k + 1) Γ' → ((∀ j, j < k + 1 → t j = true) ∧ Iv (k + 1) Γ') := fun Γ' h => ⟨fun j hj => by
      by_cases e2 : j = k
      · rw [e2]; exact e
      · exact hi.1 j (by omega), h⟩
    cases r with
    | nx Γ' => exact fin Γ' hr
    | ct Γ' => exact fin Γ' hr
    | bk Γ' => exact hr.elim
    | rt d => exact hr.elim
    | rm d s => exact hr.elim
    | ro s => exact hr.elim
    | ra n => exact hr.elim
/-- a loop of tests: r is returned at the first that fails; such loops stand in one another -/
theorem W_tst {F : Sm} {Γ : DEnv} {P : Res → Prop} {it : Ag} {gs : Gs} {ds : List D} {r : D} (t : Nat → Bool) (Iv : DEnv → Prop) (hit : it Γ = some ds) (h0 : Iv Γ) (hs : ∀ k d Γ, ds[k]? = some d → Iv Γ → ∃ Γ1, gs d Γ = some Γ1 ∧ ∀ P' : Res → Prop, (t k = true → ∀ Γ2, Iv Γ2 → P' (.nx Γ2)) → (t k = false → P' (.rt r)) → W F Γ1 P') (h1 : (List.range ds.length).all t = true → ∀ Γ', Iv Γ' → P (.nx Γ')) (h2 : (List.range ds.length).all t = false → P (.rt r)) : W (sFor it gs F) Γ P := by
  refine W_for (fun k Γ => (∀ j, j < k → t j = true) ∧ Iv Γ) hit ⟨fun j h => by omega, h0⟩ (fun k d Γ hd hi => ?_) fun Γ' h => h1 (by simpa [List.all_eq_true] using h.1) Γ' h.2
  obtain ⟨Γ1, g1, hw⟩ := hs k d Γ hd hi.2
  refine ⟨Γ1, g1, hw _ (fun e Γ2 hi2 => ⟨fun j hj => ?_, hi2⟩) fun e => h2 ?_⟩
  · by_cases e2 : j = k
    · rw [e2]; exact e
    · exact hi.1 j (by omega)
  · rw [Bool.eq_false_iff]
    intro w
    have := List.all_eq_true.mp w k (List.mem_range.mpr (List.getElem?_eq_some_iff.mp hd).1)
    rw [e] at this
    cases this
theorem sv_ixS0 {Γ : DEnv} {i m : Nat} {k f : Ex} {d : D} {xs : List D} (h : f Γ = some d) (hk : k Γ = some (.int (m : Nat))) (h1 : Γ[i]? = some (.ow xs)) (hm : m < xs.length) : sIxS i [] k f Γ = some (.nx (Γ.set i (.ow (xs.set m d)))) := by
  have e1 : gP i [] Γ = some (.ow xs) := by unfold gP; rw [h1]; rfl
  have e2 : ixN xs.length (m : Int) = some m := by unfold ixN; rw [if_pos (by omega), if_pos (by omega)]; rfl
  have e3 : upP i [] (.ow (xs.set m d)) Γ = some (.nx (Γ.set i (.ow (xs.set m d)))) := by unfold upP; rw [h1]; rfl
  unfold sIxS
  rw [h]
  show (k Γ).bind _ = _
  rw [hk]
  show (match gP i [] Γ, (D.int (m : Int)) with
    | some (.ow xs), .int n => (ixN xs.length n).bind fun m => upP i [] (.ow (xs.set m d)) Γ
    | _, _ => none) = _
  rw [e1]
  show (ixN xs.length (m : Int)).bind _ = _
  rw [e2]
  exact e3
theorem ev_callN' {Γ : DEnv} {S : List D → Option Sl} {fs : Ag} {ds : List D} {s : Sl} (h1 : fs Γ = some ds) (h2 : S ds = some s) : gCallN S fs Γ = some s := by unfold gCallN; rw [h1]; exact h2
theorem W_setN {Γ : DEnv} {sx : Sx} {s : Sl} {i : Nat} {P : Res → Prop} (h : sx Γ = some s) (k : P (.nx (Γ.set i s))) : W (sSetN i sx) Γ P := ⟨_, by unfold sSetN; rw [h]; rfl, k⟩
theorem wq_setN {Γ : DEnv} {sx : Sx} {s : Sl} {i : Nat} {P : Res → Prop} {F' : Sm} (h : sx Γ = some s) (k : W F' (Γ.set i s) P) : W (sSeq (sSetN i sx) F') Γ P := W_seq (W_setN h k)
theorem W_retO {Γ : DEnv} {i : Nat} {xs : List D} {P : Res → Prop} (h : Γ[i]? = some (.ow xs)) (k : P (.ro (.ow xs))) : W (sRetO i []) Γ P := by
  refine ⟨.ro (.ow xs), ?_, k⟩
  have e1 : gP i [] Γ = some (.ow xs) := by unfold gP; rw [h]; rfl
  unfold sRetO
  rw [e1]
  rfl
theorem W_ixS {Γ : DEnv} {i m : Nat} {k f : Ex} {d : D} {xs : List D} {P : Res → Prop} (h : f Γ = some d) (hk : k Γ = some (.int (m : Nat))) (h1 : Γ[i]? = some (.ow xs)) (hm : m < xs.length) (q : P (.nx (Γ.set i (.ow (xs.set m d))))) : W (sIxS i [] k f) Γ P := ⟨_, sv_ixS0 h hk h1 hm, q⟩
theorem ev_cat {Γ : DEnv} {f g : Ex} {xs ys : List D} (h1 : f Γ = some (.lst xs)) (h2 : g Γ = some (.lst ys)) (h : xs.length + ys.length < 1000000) : gCat f g Γ = some (xs ++ ys) := by
  unfold gCat
  rw [h1]
  show (g Γ).bind _ = _
  rw [h2]
  show (if xs.length + ys.length < 1000000 then some (xs ++ ys) else none) = _
  rw [if_pos h]
theorem ev_sl {Γ : DEnv} {f : Ex} {fl fh : Op} {x : D} {l h : Option Int} {ds : List D} (h1 : f Γ = some x) (h2 : fl Γ = some l) (h3 : fh Γ = some h) (h4 : dCut x l h = some ds) : gSl f fl fh Γ = some ds := ev_Sl h1 h2 h3 h4
/-! data that are equal to themselves -/
def Okd (n : Nat) (d : D) : Prop := pyOk d = true ∧ (toPy d).canLay0 = true ∧ (toPy d).depth ≤ n
theorem okd_int (i : Int) : Okd 1 (.int i) := ⟨by simp [pyOk], by simp [toPy, PyData.canLay0], by simp [toPy, PyData.depth]⟩
theorem okd_non : Okd 1 .non := ⟨by simp [pyOk], by simp [toPy, PyData.canLay0], by simp [toPy, PyData.depth]⟩
theorem okd_all {n : Nat} : ∀ {xs : List D}, (∀ d ∈ xs, Okd n d) → pyOks xs = true ∧ PyData.canLayAll0 (toPys xs) = true ∧ PyData.depthAll (toPys xs) ≤ n
  | [], _ => ⟨rfl, rfl, by simp [toPys, PyData.depthAll]⟩
  | x :: xs, h => by
    obtain ⟨h1, h2, h3⟩ := h x List.mem_cons_self
    obtain ⟨k1, k2, k3⟩ := okd_all (xs := xs) fun d hd => h d (List.mem_cons_of_mem _ hd)
    refine ⟨?_, ?_, ?_⟩
    · rw [pyOks, h1, k1]; rfl
    · rw [toPys, PyData.canLayAll0, h2, k2]; rfl
    · rw [toPys, PyData.depthAll]; omega
theorem okd_lst {n : Nat} {xs : List D} (h : ∀ d ∈ xs, Okd n d) : Okd (n + 1) (.lst xs) := by
  obtain ⟨k1, k2, k3⟩ := okd_all h
  refine ⟨by rw [pyOk]; exact k1, by rw [toPy, PyData.canLay0]; exact k2, by rw [toPy, PyData.depth]; omega⟩
theorem okd_tup {n : Nat} {xs : List D} (h : ∀ d ∈ xs, Okd n d) : Okd (n + 1) (.tup xs) := by
  obtain ⟨k1, k2, k3⟩ := okd_all h
  refine ⟨by rw [pyOk]; exact k1, by rw [toPy, PyData.canLay0]; exact k2, by rw [toPy, PyData.depth]; omega⟩
theorem okd_map {α : Type} {n : Nat} {f : α → D} (h : ∀ a, Okd n (f a)) (xs : List α) : Okd (n + 1) (.lst (xs.map f)) := okd_lst fun d hd => by
  obtain ⟨a, _, rfl⟩ := List.mem_map.mp hd
  exact h a
theorem okd_eq {n : Nat} {d : D} (h : Okd n d) (hn : n < 60) : eqOk d = true ∧ eqd d d = true := by
  obtain ⟨h1, h2, h3⟩ := h
  refine ⟨?_, ?_⟩
  · unfold eqOk SeqAt.shaped
    rw [h2, h1]
    simp
    omega
  · unfold eqd
    exact SeqAt.eqv_refl _ h2
theorem ne_same {n : Nat} {d : D} (h : Okd n d) (hn : n < 60) : dNe d d = some (.bl false) := by
  obtain ⟨h1, h2⟩ := okd_eq h hn
  exact d_ne (bb := true) h1 h1 h2
theorem eq_same {n : Nat} {d : D} (h : Okd n d) (hn : n < 60) : dEq d d = some (.bl true) := by
  obtain ⟨h1, h2⟩ := okd_eq h hn
  exact d_eq (bb := true) h1 h1 h2
theorem wq_appX {F' : Sm} {Γ : DEnv} {P : Res → Prop} {sx : Sx} {f : Ex} {xs : List D} {d : D} (h : sx Γ = some (.ow xs)) (hf : f Γ = some d) (hl : xs.length < 1000000) (k : W F' Γ P) : W (sSeq (sAppX sx f) F') Γ P := by
  refine W_seq ⟨.nx Γ, ?_, k⟩
  unfold sAppX
  rw [h]
  show ((f Γ).bind fun _ => if xs.length < 1000000 then some (Res.nx Γ) else none) = _
  rw [hf]
  show (if xs.length < 1000000 then some (Res.nx Γ) else none) = _
  rw [if_pos hl]
theorem wq_appXi {F' : Sm} {Γ : DEnv} {P : Res → Prop} {sx : Sx} {f : Ex} {ss : List Sl} {i : Int} {xs : List D} {d : D} (h : sx Γ = some (.ol ss)) (hi : atI ss i = some (.ow xs)) (hf : f Γ = some d) (hl : xs.length < 1000000) (k : W F' Γ P) : W (sSeq (sAppXi sx i f) F') Γ P := by
  refine W_seq ⟨.nx Γ, ?_, k⟩
  unfold sAppXi
  rw [h]
  show ((atI ss i).bind _) = _
  rw [hi]
  show ((f Γ).bind fun _ => if xs.length < 1000000 then some (Res.nx Γ) else none) = _
  rw [hf]
  show (if xs.length < 1000000 then some (Res.nx Γ) else none) = _
  rw [if_pos hl]
theorem sv_ext0 {i : Nat} {f : Ag} {Γ : DEnv} {xs ds : List D} (h : f Γ = some ds) (h1 : Γ[i]? = some (.ow xs)) (h2 : xs.length + ds.length < 1000000) : sExt i [] f Γ = some (.nx (Γ.set i (.ow (xs ++ ds)))) := by
  unfold sExt
  rw [h]
  show (match gP i [] Γ with | some (.ow xs) => if xs.length + ds.length < 1000000 then upP i [] (.ow (xs ++ ds)) Γ else none | _ => none) = _
  have e : gP i [] Γ = some (.ow xs) := by unfold gP; rw [h1]; rfl
  rw [e]
  show (if xs.length + ds.length < 1000000 then upP i [] (.ow (xs ++ ds)) Γ else none) = _
  rw [if_pos h2]
  unfold upP
  rw [h1]
  rfl
theorem mk_at {c : Nat} {S : Sl → List D → Option (D × Sl)} {fs : Ag} {Γ : DEnv} {ds : List D} {d : D} (h : fs Γ = some ds) (h2 : nD (gMk c S (fun _ => some ds)) [] = some d) : nD (gMk c S fs) Γ = some d := by
  unfold nD gMk at h2 ⊢
  rw [h]
  exact h2
/-! ### texts -/
open TL
def AscS (x : Str) : Prop := ∀ c ∈ tl x, c < 128
theorem okd_str {x : Str} (h : AscS x) : Okd 1 (.str x) := ⟨by simp [pyOk], by
  simp only [toPy, PyData.canLay0]
  unfold PyData.strOk
  rw [← Array.all_toList]
  refine List.all_eq_true.mpr fun c hc => ?_
  have := h c hc
  simp
  omega, by simp [toPy, PyData.depth]⟩
theorem okd_bl' (b : Bool) : Okd 1 (.bl b) := ⟨by simp [pyOk], by simp [toPy, PyData.canLay0], by simp [toPy, PyData.depth]⟩
theorem ev_js {fs : Ag} {Γ : DEnv} {ys : List Str} (h : fs Γ = some (ys.map D.str)) (hb : totS ys < 1000000) : gJs fs Γ = some (.str (ys.foldl (· ++ ·) Str.empty)) := by
  unfold gJs
  rw [h]
  show ((strs? (ys.map D.str)).bind _) = _
  rw [strs?_map]
  show (if _ then _ else _) = _
  rw [if_pos hb]
theorem ev_split {f g : Ex} {Γ : DEnv} {a b : Str} (h1 : f Γ = some (.str a)) (h2 : g Γ = some (.str b)) (hb : (b.length == 0) = false) (ha : a.length < 1000000) : gSplit f g Γ = some ((Txt.split a b).map D.str) := by
  unfold gSplit
  rw [h1]
  show ((g Γ).bind _) = _
  rw [h2]
  show (if _ then _ else _) = _
  rw [if_pos ⟨hb, ha⟩]
theorem d_join {a : Str} {ys : List Str} (h : totS ys + ys.length * a.length ≤ 16777216) : dJoin (.str a) (.lst (ys.map D.str)) = some (.str (Txt.join a ys)) := by
  show ((strs? (ys.map D.str)).bind _) = _
  rw [strs?_map]
  show (if _ then _ else _) = _
  rw [if_pos h]
theorem d_addS {x y : Str} (h : x.length + y.length < 1000000) : dAdd (.str x) (.str y) = some (.str (x ++ y)) := by
  show (if _ then _ else _) = _
  rw [if_pos h]
/-- the text of a number -/
def tW (i : Int) : Str := toString i
theorem tl_W (i : Int) : tl (tW i) = if i < 0 then 45 :: numL i.natAbs else numL i.natAbs := by
  cases i with
  | ofNat n =>
    rw [if_neg (by simp)]
    exact tl_num n
  | negSucc n =>
    rw [if_pos (Int.negSucc_lt_zero n)]
    show tl (Str.ofString ("-" ++ toString (n + 1))) = _
    have e := tl_num (n + 1)
    rw [tl_ofString] at e
    rw [tl_ofString, String.toList_append, List.map_append]
    rw [show ((toString (n + 1)).toList.map Char.toNat) = numL (n + 1) from e]
    rfl
theorem W_free {s : Nat} (i : Int) (h1 : s ≠ 45) (h2 : s < 48 ∨ 57 < s) : s ∉ tl (tW i) := by
  rw [tl_W]
  split
  · intro h
    rcases List.mem_cons.mp h with h | h
    · exact h1 h
    · exact numL_free h2 h
  · exact numL_free h2
theorem W_len {i : Int} {k : Nat} (hk : 0 < k) (h : i.natAbs < 10 ^ k) : (tW i).length ≤ k + 1 := by
  rw [len_tl, tl_W]
  have := numL_len hk h
  split
  · rw [List.length_cons]; omega
  · omega
theorem numL_head {n : Nat} : ∀ {r : List Nat}, numL n = 48 :: r → n = 0 := by
  induction n using Nat.strongRecOn with
  | _ n ih =>
    intro r h
    by_cases h10 : n < 10
    · rw [numL_lt h10] at h
      injection h with h1 h2
      omega
    · rw [numL_step (by omega)] at h
      cases q : numL (n / 10) with
      | nil => exact absurd q (numL_ne _)
      | cons c cs =>
        rw [q] at h
        injection h with h1 h2
        subst h1
        have := ih (n / 10) (by omega) q
        omega
theorem starts1 {x y : Str} {c : Nat} (hy : tl y = [c]) : Txt.startswith x y = true ↔ ∃ r, tl x = c :: r := by
  have ly : y.length = 1 := by rw [len_tl, hy]; rfl
  unfold Txt.startswith
  rw [PySem.StrLaws.subAt_eq, ly]
  show (decide (0 + 1 ≤ x.length) && (((tl x).drop 0).take 1 == tl y)) = true ↔ _
  rw [len_tl x, hy]
  cases q : tl x with
  | nil => simp
  | cons d r => simp
theorem starts1F {x y : Str} {c : Nat} (hy : tl y = [c]) (h : ∀ r, tl x ≠ c :: r) : Txt.startswith x y = false := by
  cases q : Txt.startswith x y with
  | false => rfl
  | true => obtain ⟨r, hr⟩ := (starts1 hy).mp q; exact absurd hr (h r)
theorem W_asc (i : Int) : AscS (tW i) := fun c hc => by
  rw [tl_W] at hc
  split at hc
  · rcases List.mem_cons.mp hc with rfl | hc
    · decide
    · have := numL_digits _ c hc
      omega
  · have := numL_digits _ c hc
    omega
theorem dig_ok : ∀ c, c < 58 → 48 ≤ c → Unicode.isDigit c = true := by decide +kernel
theorem cut1 (x : Str) {c : Nat} {r : List Nat} (h : tl x = c :: r) : tl (cutS x (some 1) none) = r := by
  have hl : x.length = r.length + 1 := by rw [len_tl, h]; rfl
  show ((tl x).drop _).take _ = r
  have e1 : HT.sIx x.length 0 (some 1) = 1 := by
    unfold HT.sIx
    simp
    omega
  have e2 : HT.sIx x.length x.length none = x.length := rfl
  rw [e1, e2, h, hl]
  simp
/-! numbers in words -/
theorem ev_slS {f : Ex} {lo hi : Op} {Γ : DEnv} {z : Str} {l h : Option Int} (h1 : f Γ = some (.str z)) (h2 : lo Γ = some l) (h3 : hi Γ = some h) (hz : z.length < 1000000) : gSlS f lo hi Γ = some (.str (cutS z l h)) := by
  unfold gSlS
  rw [h1]
  show ((lo Γ).bind _) = _
  rw [h2]
  show ((hi Γ).bind _) = _
  rw [h3]
  show (if _ then _ else _) = _
  rw [if_pos hz]
theorem number_of_eq {i : Int} {sg : Bool} (hs : 0 ≤ i ∨ sg = true) (hb : i.natAbs < 10 ^ 60) : S_number_of [.str (tW i), .bl sg] = some (.int i) := by
  have wl : (tW i).length ≤ 61 := W_len (k := 60) (by omega) hb
  have sW : Txt.startswith (tW i) "-" = decide (i < 0) := by
    rw [Bool.eq_iff_iff, starts1 (c := 45) rfl, tl_W, decide_eq_true_iff]
    by_cases h : i < 0
    · rw [if_pos h]
      exact ⟨fun _ => h, fun _ => ⟨_, rfl⟩⟩
    · rw [if_neg h]
      refine ⟨fun ⟨r, hr⟩ => ?_, fun z => absurd z h⟩
      have := numL_digits i.natAbs 45 (by rw [hr]; exact List.mem_cons_self)
      omega
  have rest : ∀ dg : Str, tl dg = numL i.natAbs → W (sSeq (sIf (gOr (gNot (gTru (gU dAscii (gV 2)))) (gOr (gNot (gTru (gU dDigit (gV 2)))) (gT (gOp dGt (gU dLen (gB 2)) (gI 60)))))
      (sRet (gC .non)) sNil) (sSeq (sIf (gAnd (gTru (gOp dStarts (gV 2) (gC (.str "0")))) (gT (gOp dNe (gB 0) (gC (.str "0"))))) (sRet (gC .non)) sNil) (sRet (gU dIntS (gB 0))))) [.sh (.str (tW i)), .sh (.bl sg), .sh (.str dg)] (isRt (· = .int i)) := by
    intro dg hdg
    have ll := numL_len (n := i.natAbs) (k := 60) (by omega) hb
    have dl : dg.length ≤ 60 := by rw [len_tl, hdg]; exact ll
    have dig := numL_digits i.natAbs
    have d0 : 0 < dg.length := by
      rw [len_tl, hdg]
      exact List.length_pos_iff.mpr (numL_ne _)
    have e1 : Txt.isascii dg = true := by
      unfold Txt.isascii
      rw [← Array.all_toList]
      refine List.all_eq_true.mpr fun c hc => ?_
      rw [show dg.cps.toList = numL i.natAbs from hdg] at hc
      have := dig c hc
      simp
      omega
    have e2 : Txt.isdigit dg = true := by
      unfold Txt.isdigit
      rw [Bool.and_eq_true]
      refine ⟨by simpa using d0, ?_⟩
      rw [← Array.all_toList]
      refine List.all_eq_true.mpr fun c hc => ?_
      rw [show dg.cps.toList = numL i.natAbs from hdg] at hc
      have := dig c hc
      exact dig_ok c (by omega) this.1
    refine wq_ifN (b := false) (ev_or (b := false) (c := false) (ev_not (b := true) (ev_Tru (x := .bl true) (ev_U (x := .str dg) (ev_V rfl) (by show some (D.bl (Txt.isascii dg)) = _; rw [e1])) rfl)) (ev_or (b := false) (c := false) (ev_not (b := true) (ev_Tru (x := .bl true) (ev_U (x := .str dg) (ev_V rfl) (by show some (D.bl (Txt.isdigit dg)) = _; rw [e2])) rfl)) (ev_T (ev_op (x := .int dg.length) (ev_U (x := .str dg) (ev_B rfl) (by show (if _ then _ else _) = _; rw [if_pos (by omega)])) ev_I (by show some (D.bl (decide (_ > _))) = _; rw [decide_eq_false (by omega)]))))) rfl ?_
    refine wq_ifN (b := false) ?_ rfl ?_
    · by_cases h0 : i = 0
      · subst h0
        refine ev_and (b := true) (c := false) (ev_Tru (x := .bl true) (ev_op (x := .str dg) (ev_V rfl) ev_C (by show some (D.bl (Txt.startswith dg "0")) = _; rw [(starts1 (x := dg) (y := "0") (c := 48) rfl).mpr ⟨[], hdg⟩])) rfl) (ev_T (ev_op (x := .str "0") (y := .str "0") (ev_B rfl) ev_C (ne_same (okd_str (W_asc 0)) (by omega))))
      · refine ev_andF (ev_Tru (x := .bl false) (ev_op (x := .str dg) (ev_V rfl) ev_C ?_) rfl)
        show some (D.bl (Txt.startswith dg "0")) = _
        rw [starts1F (c := 48) rfl fun r hr => ?_]
        rw [hdg] at hr
        have := numL_head hr
        omega
    · refine W_ret (d := .int i) (ev_U (x := .str (tW i)) (ev_B rfl) ?_) rfl
      show (if _ then _ else _) = _
      rw [if_pos (by omega)]
      have ei : PySem.intText? (tW i) = some i := by
        by_cases h : i < 0
        · have ht := tl_W i
          rw [if_pos h] at ht
          have := PySem.intText_neg ht dig (numL_ne _) (by omega)
          rw [this, numL_val]
          congr 1
          omega
        · have ht := tl_W i
          rw [if_neg h] at ht
          have := PySem.intText_digits (x := tW i) (by rw [show (tW i).cps.toList = numL i.natAbs from ht]; exact dig) (by rw [show (tW i).cps.toList = numL i.natAbs from ht]; exact numL_ne _) (by omega)
          rw [this, show (tW i).cps.toList = numL i.natAbs from ht, numL_val]
          congr 1
          omega
      rw [ei]
      rfl
  refine run_Weq ?_
  unfold B_number_of
  refine wq_set (ev_V rfl) ?_
  refine W_seq (W_if (b := sg && decide (i < 0)) (ev_and (ev_Tru (x := .bl sg) (ev_B rfl) rfl) (ev_Tru (x := .bl (decide (i < 0))) (ev_op (x := .str (tW i)) (ev_V rfl) ev_C (by show some (D.bl (Txt.startswith (tW i) "-")) = _; rw [sW])) rfl)) (fun z => ?_) (fun z => W_nil ?_))
  · rw [Bool.and_eq_true, decide_eq_true_eq] at z
    have ht := tl_W i
    rw [if_pos z.2] at ht
    exact W_set (ev_slS (ev_V rfl) (ev_So ev_I) ev_No (by omega)) (rest _ (cut1 _ ht))
  · have h : ¬ i < 0 := fun h => by
      rw [decide_eq_true h, Bool.and_true] at z
      rcases hs with hs | hs
      · omega
      · rw [hs] at z; cases z
    have ht := tl_W i
    rw [if_neg h] at ht
    exact rest _ ht
/-- the line of a word and numbers -/
def lineW (word : Str) (ns : List Int) : Str := Txt.join " " (word :: ns.map tW)
theorem lineW_split {word : Str} {ns : List Int} (hw : 32 ∉ tl word) : Txt.split (lineW word ns) " " = word :: ns.map tW := by
  refine split_join (s := 32) (S := []) rfl (by decide +kernel) (by simp) fun p hp => ?_
  rcases List.mem_cons.mp hp with rfl | hp
  · exact hw
  · obtain ⟨i, _, rfl⟩ := List.mem_map.mp hp
    exact W_free i (by omega) (by omega)
theorem d_ixA {α : Type} {enc : α → D} {xs : List α} {a : α} {k : Nat} {i : Int} (h : xs[k]? = some a) (e : i = (k : Nat)) : dIx (.lst (xs.map enc)) (.int i) = some (enc a) := by
  subst e
  exact d_ixL (by rw [List.getElem?_map, h]; rfl)
theorem no_none (ns : List Int) : dIn .non (.lst (ns.map D.int)) = some (.bl false) := by
  have h1 := (okd_eq (okd_map (f := D.int) okd_int ns) (by omega)).1
  have h2 := (okd_eq okd_non (by omega)).1
  unfold dIn
  simp only [h1, h2, Bool.and_self, if_true]
  congr 2
  rw [List.any_map]
  refine List.any_eq_false.mpr fun a _ => ?_
  show ¬ eqd (.int a) .non = true
  unfold eqd toPy
  simp [PyData.eqv]
theorem zip_words {ns : List Int} {sgs : List Bool} (hl : ns.length = sgs.length) : zipD ((ns.map tW).map D.str) (sgs.map D.bl) = (ns.zip sgs).map fun p => D.tup [.str (tW p.1), .bl p.2] := by
  induction ns generalizing sgs with
  | nil => cases sgs <;> rfl
  | cons n ns ih =>
    cases sgs with
    | nil => simp at hl
    | cons s sgs =>
      show D.tup [.str (tW n), .bl s] :: zipD ((ns.map tW).map D.str) (sgs.map D.bl) = _
      rw [ih (by simpa using hl)]
      rfl
theorem zip_fst {ns : List Int} {sgs : List Bool} (hl : ns.length = sgs.length) : ((ns.zip sgs).map fun p => D.int p.1) = ns.map D.int := by
  induction ns generalizing sgs with
  | nil => rfl
  | cons n ns ih =>
    cases sgs with
    | nil => simp at hl
    | cons s sgs =>
      rw [List.zip_cons_cons, List.map_cons, List.map_cons, ih (by simpa using hl)]
/-- numbers that may stand in a line with these signs -/
def SgOk (ns : List Int) (sgs : List Bool) : Prop := ns.length = sgs.length ∧ ∀ p ∈ ns.zip sgs, (0 ≤ p.1 ∨ p.2 = true) ∧ p.1.natAbs < 10 ^ 60
theorem numbers_in_eq {word : Str} {ns : List Int} {sgs : List Bool} (hw : 32 ∉ tl word) (ha : AscS word) (h : SgOk ns sgs) (hn : ns.length < 1000) (hlen : (lineW word ns).length < 1000000) : S_numbers_in [.str (lineW word ns), .str word, .tup (sgs.map D.bl)] = some (.lst (ns.map D.int)) := by
  obtain ⟨hl, hp⟩ := h
  refine run_Weq ?_
  unfold B_numbers_in
  refine wq_set (d := .lst ((word :: ns.map tW).map D.str)) (ev_L (by rw [← lineW_split hw]; exact ev_split (ev_V rfl) ev_C rfl hlen)) ?_
  have lw : dLen (.lst ((word :: ns.map tW).map D.str)) = some (.int ((ns.length : Int) + 1)) := by rw [d_lenL]; simp
  have ls : dLen (.tup (sgs.map D.bl)) = some (.int ns.length) := by show some (D.int _) = _; rw [List.length_map, hl]
  refine wq_ifN (b := false) (ev_or (b := false) (c := false) (ev_T (ev_op (x := .str word) (y := .str word) (ev_op (ev_B rfl) ev_I (d_ixA (enc := D.str) (k := 0) (a := word) rfl rfl)) (ev_B rfl) (ne_same (okd_str ha) (by omega)))) (ev_T (ev_op (x := .int ((ns.length : Int) + 1)) (y := .int ((ns.length : Int) + 1)) (ev_U (ev_B rfl) lw) (ev_op (ev_U (ev_B rfl) ls) ev_I d_add) (ne_same (okd_int _) (by omega))))) rfl ?_
  have hz : gZiplt (aC (gL (gSl (gB 3) (gSo (gI 1)) gNo)) (aC (gV 2) aN)) [.sh (.str (lineW word ns)), .sh (.str word), .sh (.tup (sgs.map D.bl)), .sh (.lst ((word :: ns.map tW).map D.str)), .no, .no, .no] = some ((ns.zip sgs).map fun p => D.tup [.str (tW p.1), .bl p.2]) := by
    unfold gZiplt
    have e1 : gL (gSl (gB 3) (gSo (gI 1)) gNo) [.sh (.str (lineW word ns)), .sh (.str word), .sh (.tup (sgs.map D.bl)), .sh (.lst ((word :: ns.map tW).map D.str)), .no, .no, .no] = some (.lst ((ns.map tW).map D.str)) := by
      refine (ev_L (ev_Sl (ev_B rfl) (ev_So ev_I) ev_No d_cut)).trans ?_
      have := cutD_from (word :: ns.map tW) 1
      rw [show ((1 : Nat) : Int) = 1 from rfl] at this
      rw [this]
      rfl
    rw [ev_cs e1 (ev_cs (ev_V rfl) ev_nl)]
    show some (zipD ((ns.map tW).map D.str) (sgs.map D.bl)) = _
    rw [zip_words hl]
  refine wq_set (d := .lst (ns.map D.int)) (ev_L (ev_lc hz (by simp; omega) ?_)) ?_
  · rw [← zip_fst hl]
    refine compL_map _ _ _ fun p hpm => ⟨_, rfl, ?_⟩
    obtain ⟨h1, h2⟩ := hp p hpm
    exact ev_call (ev_cs (ev_V rfl) (ev_cs (ev_V rfl) ev_nl)) (number_of_eq h1 h2)
  refine wq_ifN (b := false) (ev_T (ev_op ev_C (ev_B rfl) (no_none ns))) rfl ?_
  exact W_ret (ev_V rfl) rfl
/-! which words are numbers -/
theorem snoc_ind {P : List Nat → Prop} (h0 : P []) (h1 : ∀ l c, P l → P (l ++ [c])) (l : List Nat) : P l := by
  have key : ∀ m : List Nat, P m.reverse := fun m => by
    induction m with
    | nil => exact h0
    | cons a m ih => rw [List.reverse_cons]; exact h1 _ _ ih
  have := key l.reverse
  rwa [List.reverse_reverse] at this
theorem digitsVal_snoc (l : List Nat) (c : Nat) : PySem.NumText.digitsVal (l ++ [c]) = PySem.NumText.digitsVal l * 10 + (c - 48) := by
  unfold PySem.NumText.digitsVal
  rw [List.foldl_append]
  rfl
theorem digits_pos : ∀ {l : List Nat}, PySem.NumText.AllDigits l → l ≠ [] → (∀ r, l ≠ 48 :: r) → 0 < PySem.NumText.digitsVal l := by
  intro l
  induction l using snoc_ind with
  | h0 => intro _ h; exact absurd rfl h
  | h1 l c ih =>
    intro hd _ h0
    rw [digitsVal_snoc]
    cases l with
    | nil =>
      have := hd c (by simp)
      have : c ≠ 48 := fun e => h0 [] (by rw [e]; rfl)
      omega
    | cons a l =>
      have := ih (fun x hx => hd x (List.mem_append_left _ hx)) (by simp) fun r hr => h0 (r ++ [c]) (by rw [hr]; rfl)
      omega
theorem canon_digits : ∀ {l : List Nat}, PySem.NumText.AllDigits l → l ≠ [] → ((∀ r, l ≠ 48 :: r) ∨ l = [48]) → numL (PySem.NumText.digitsVal l) = l := by
  intro l
  induction l using snoc_ind with
  | h0 => intro _ h; exact absurd rfl h
  | h1 l c ih =>
    intro hd _ h0
    have hc := hd c (by simp)
    rw [digitsVal_snoc]
    cases l with
    | nil =>
      have e : PySem.NumText.digitsVal [] * 10 + (c - 48) = c - 48 := by show 0 * 10 + (c - 48) = _; omega
      rw [e, numL_lt (by omega)]
      have : 48 + (c - 48) = c := by omega
      rw [this]
      rfl
    | cons a l =>
      have hd' : PySem.NumText.AllDigits (a :: l) := fun x hx => hd x (List.mem_append_left _ hx)
      have h1 : ∀ r, a :: l ≠ 48 :: r := fun r hr => by
        rcases h0 with h0 | h0
        · exact h0 (r ++ [c]) (by rw [hr]; rfl)
        · have := congrArg List.length h0
          simp at this
      have ih := ih hd' (by simp) (.inl h1)
      have pos := digits_pos hd' (by simp) h1
      generalize PySem.NumText.digitsVal (a :: l) = v at ih pos
      rw [numL_step (by omega)]
      have e1 : (v * 10 + (c - 48)) / 10 = v := by omega
      have e2 : (v * 10 + (c - 48)) % 10 = c - 48 := by omega
      rw [e1, e2, ih]
      have : 48 + (c - 48) = c := by omega
      rw [this]
theorem tW_inj {i j : Int} (h : tW i = tW j) : i = j := by
  have h : tl (tW i) = tl (tW j) := by rw [h]
  rw [tl_W, tl_W] at h
  have no : ∀ {n : Nat} {r : List Nat}, numL n ≠ 45 :: r := fun {n r} e => by
    have := numL_digits n 45 (by rw [e]; exact List.mem_cons_self)
    omega
  split at h <;> split at h
  · injection h with _ h
    have := numL_inj h
    omega
  · exact absurd h.symm no
  · exact absurd h no
  · have := numL_inj h
    omega
def isNum (w : Str) (sg : Bool) (i : Int) : Prop := w = tW i ∧ (0 ≤ i ∨ sg = true) ∧ i.natAbs < 10 ^ 60
theorem digits_lt : ∀ {l : List Nat} {k : Nat}, PySem.NumText.AllDigits l → l.length ≤ k → PySem.NumText.digitsVal l < 10 ^ k := by
  intro l
  induction l using snoc_ind with
  | h0 => intro k _ _; exact Nat.pow_pos (by omega)
  | h1 l c ih =>
    intro k hd hl
    rw [List.length_append] at hl
    simp at hl
    obtain ⟨k, rfl⟩ : ∃ k', k = k' + 1 := ⟨k - 1, by omega⟩
    have := ih (k := k) (fun x hx => hd x (List.mem_append_left _ hx)) (by omega)
    have hc := hd c (by simp)
    rw [digitsVal_snoc, Nat.pow_succ]
    omega
/-- digits that are no number's text, or are one -/
theorem of_digits {w : Str} {l : List Nat} {sg : Bool} (hd : PySem.NumText.AllDigits l) (hne : l ≠ []) (hlen : l.length ≤ 60) (hw : tl w = l ∨ (tl w = 45 :: l ∧ sg = true)) (h0 : (∀ r, l ≠ 48 :: r) ∨ tl w = [48]) : ∃ i, isNum w sg i := by
  have lt := digits_lt hd hlen
  rcases hw with hw | ⟨hw, hs⟩
  · have cd := canon_digits hd hne (h0.imp id fun h => by rw [← hw]; exact h)
    refine ⟨PySem.NumText.digitsVal l, ext_tl ?_, .inl (by omega), by omega⟩
    rw [tl_W, if_neg (by omega), Int.natAbs_natCast, cd]
    exact hw
  · have h1 : ∀ r, l ≠ 48 :: r := by
      rcases h0 with h0 | h0
      · exact h0
      · rw [hw] at h0; injection h0 with h0; omega
    have cd := canon_digits hd hne (.inl h1)
    have pos := digits_pos hd hne h1
    refine ⟨-(PySem.NumText.digitsVal l : Int), ext_tl ?_, .inr hs, by omega⟩
    rw [tl_W, if_pos (by omega), Int.natAbs_neg, Int.natAbs_natCast, cd]
    exact hw
/-! any word, any line -/
def oI : Option Int → D
  | none => .non
  | some i => .int i
theorem eqd_str (a b : Str) : eqd (.str a) (.str b) = (a == b) := by unfold eqd toPy; rfl
theorem ne_str {a b : Str} (ha : AscS a) (hb : AscS b) : dNe (.str a) (.str b) = some (.bl (decide (a ≠ b))) := by
  have h1 := (okd_eq (okd_str ha) (by omega)).1
  have h2 := (okd_eq (okd_str hb) (by omega)).1
  unfold dNe
  rw [h1, h2, eqd_str]
  show some (D.bl (!(a == b))) = _
  congr 2
  rw [Bool.eq_iff_iff]
  simp
theorem eq_str {a b : Str} (ha : AscS a) (hb : AscS b) : dEq (.str a) (.str b) = some (.bl (decide (a = b))) := by
  have h1 := (okd_eq (okd_str ha) (by omega)).1
  have h2 := (okd_eq (okd_str hb) (by omega)).1
  unfold dEq
  rw [h1, h2, eqd_str]
  show some (D.bl (a == b)) = _
  have e : (a == b) = decide (a = b) := by rw [Bool.eq_iff_iff]; simp
  rw [e]
theorem free32 {w : Str} {l : List Nat} (h : tl w = l) (hl : 32 ∉ l) : 32 ∉ tl w := by rw [h]; exact hl
theorem asc_of {w : Str} {l : List Nat} (h : tl w = l) (hl : ∀ c ∈ l, c < 128) : AscS w := by unfold AscS; rw [h]; exact hl
theorem asc0 : AscS "0" := asc_of (l := [48]) rfl (by decide)
theorem dig_only : ∀ c, c < 128 → Unicode.isDigit c = true → 48 ≤ c ∧ c ≤ 57 := by decide +kernel
theorem str_eq_iff {a b : Str} {l : List Nat} (hb : tl b = l) : a = b ↔ tl a = l := ⟨fun h => by rw [h]; exact hb, fun h => ext_tl (h.trans hb.symm)⟩
theorem number_of_total {w : Str} (ha : AscS w) (hl : w.length < 1000000) (sg : Bool) : ∃ r : Option Int, S_number_of [.str w, .bl sg] = some (oI r) ∧ ∀ i, r = some i ↔ isNum w sg i := by
  by_cases h : ∃ i, isNum w sg i
  · obtain ⟨i, rfl, h1, h2⟩ := h
    refine ⟨some i, number_of_eq h1 h2, fun j => ⟨fun e => by cases e; exact ⟨rfl, h1, h2⟩, fun e => by rw [tW_inj e.1]⟩⟩
  · refine ⟨none, ?_, fun i => ⟨fun e => (by cases e), fun e => absurd ⟨i, e⟩ h⟩⟩
    have rest : ∀ dg : Str, dg.length ≤ w.length → (tl w = tl dg ∨ (tl w = 45 :: tl dg ∧ sg = true)) → W (sSeq (sIf (gOr (gNot (gTru (gU dAscii (gV 2)))) (gOr (gNot (gTru (gU dDigit (gV 2)))) (gT (gOp dGt (gU dLen (gB 2)) (gI 60)))))
        (sRet (gC .non)) sNil) (sSeq (sIf (gAnd (gTru (gOp dStarts (gV 2) (gC (.str "0")))) (gT (gOp dNe (gB 0) (gC (.str "0"))))) (sRet (gC .non)) sNil) (sRet (gU dIntS (gB 0))))) [.sh (.str w), .sh (.bl sg), .sh (.str dg)] (isRt (· = .non)) := by
      intro dg hdl hd
      have dl : dLen (.str dg) = some (.int dg.length) := by show (if _ then _ else _) = _; rw [if_pos (by omega)]
      refine wq_ifR (b := !Txt.isascii dg || (!Txt.isdigit dg || decide ((dg.length : Int) > 60))) (ev_or (ev_not (ev_Tru (x := .bl (Txt.isascii dg)) (ev_U (x := .str dg) (ev_V rfl) rfl) rfl)) (ev_or (ev_not (ev_Tru (x := .bl (Txt.isdigit dg)) (ev_U (x := .str dg) (ev_V rfl) rfl) rfl)) (ev_T (ev_op (x := .int dg.length) (ev_U (x := .str dg) (ev_B rfl) dl) ev_I rfl)))) (fun _ => ⟨_, ev_C, rfl⟩) fun z => ?_
      simp only [Bool.or_eq_false_iff, Bool.not_eq_false', decide_eq_false_iff_not] at z
      obtain ⟨z1, z2, z3⟩ := z
      have all128 : ∀ c ∈ tl dg, c < 128 := fun c hc => by
        unfold Txt.isascii at z1
        rw [← Array.all_toList] at z1
        have := List.all_eq_true.mp z1 c hc
        simpa using this
      have hdd : PySem.NumText.AllDigits (tl dg) := fun c hc => by
        unfold Txt.isdigit at z2
        rw [Bool.and_eq_true, ← Array.all_toList] at z2
        exact dig_only c (all128 c hc) (List.all_eq_true.mp z2.2 c hc)
      have hne : tl dg ≠ [] := fun e => by
        unfold Txt.isdigit at z2
        rw [Bool.and_eq_true] at z2
        have := z2.1
        rw [len_tl, e] at this
        simp at this
      have ll : (tl dg).length ≤ 60 := by rw [← len_tl]; omega
      refine wq_ifR (b := Txt.startswith dg "0" && decide (w ≠ "0")) (ev_and (ev_Tru (x := .bl (Txt.startswith dg "0")) (ev_op (x := .str dg) (ev_V rfl) ev_C rfl) rfl) (ev_T (ev_op (x := .str w) (y := .str "0") (ev_B rfl) ev_C (ne_str ha asc0)))) (fun _ => ⟨_, ev_C, rfl⟩) fun z => ?_
      refine absurd (of_digits hdd hne ll hd ?_) h
      rw [Bool.and_eq_false_iff, decide_eq_false_iff_not] at z
      rcases z with z | z
      · refine .inl fun r hr => ?_
        rw [(starts1 (x := dg) (y := "0") (c := 48) rfl).mpr ⟨r, hr⟩] at z
        cases z
      · exact .inr ((str_eq_iff (l := [48]) rfl).mp (Classical.not_not.mp z))
    refine run_Weq ?_
    unfold B_number_of
    refine wq_set (ev_V rfl) ?_
    refine W_seq (W_if (b := sg && Txt.startswith w "-") (ev_and (ev_Tru (x := .bl sg) (ev_B rfl) rfl) (ev_Tru (x := .bl (Txt.startswith w "-")) (ev_op (x := .str w) (ev_V rfl) ev_C rfl) rfl)) (fun z => ?_) (fun z => W_nil ?_))
    · rw [Bool.and_eq_true] at z
      obtain ⟨r, hr⟩ := (starts1 (x := w) (y := "-") (c := 45) rfl).mp z.2
      have ct := cut1 w hr
      refine W_set (ev_slS (ev_V rfl) (ev_So ev_I) ev_No hl) (rest _ ?_ (.inr ⟨by rw [hr, ct], z.1⟩))
      rw [len_tl, ct, len_tl w, hr]
      simp
    · exact rest w (Nat.le_refl _) (.inl rfl)
/-! a text cut at each separator, and joined again -/
theorem spl1 (s : Nat) : ∀ (l acc : List Nat), joinL [s] (spl [s] 0 acc l) = acc ++ l ∧ spl [s] 0 acc l ≠ [] ∧ ∀ p ∈ spl [s] 0 acc l, ∀ c ∈ p, c ∈ acc ∨ c ∈ l := fun l => by
  induction l with
  | nil =>
    intro acc
    rw [spl_nil]
    exact ⟨by simp [joinL], by simp, fun p hp c hc => by rw [List.mem_singleton.mp hp] at hc; exact .inl hc⟩
  | cons a l ih =>
    intro acc
    by_cases e : a = s
    · subst e
      have hp : pre [a] (a :: l) = true := by simp [pre]
      rw [spl_hit hp]
      obtain ⟨i1, i2, i3⟩ := ih []
      refine ⟨?_, by simp, fun p hp c hc => ?_⟩
      · show joinL [a] (acc :: spl [a] 0 [] l) = _
        cases q : spl [a] 0 [] l with
        | nil => exact absurd q i2
        | cons x xs =>
          rw [q] at i1
          show acc ++ ([a] ++ joinL [a] (x :: xs)) = _
          rw [i1]
          simp
      · rcases List.mem_cons.mp hp with rfl | hp
        · exact .inl hc
        · rcases i3 p hp c hc with h | h
          · simp at h
          · exact .inr (List.mem_cons_of_mem _ h)
    · have hp : pre [s] (a :: l) = false := by simp [pre, e]
      rw [spl_miss hp]
      obtain ⟨i1, i2, i3⟩ := ih (acc ++ [a])
      refine ⟨by rw [i1]; simp, i2, fun p hp c hc => ?_⟩
      rcases i3 p hp c hc with h | h
      · rcases List.mem_append.mp h with h | h
        · exact .inl h
        · exact .inr (by rw [List.mem_singleton.mp h]; exact List.mem_cons_self)
      · exact .inr (List.mem_cons_of_mem _ h)
theorem split_back {x y : Str} {s : Nat} (hy : tl y = [s]) (hk : y.cps.all (· < 256) = true) : Txt.join y (Txt.split x y) = x ∧ Txt.split x y ≠ [] ∧ (AscS x → ∀ p ∈ Txt.split x y, AscS p) ∧ ∀ p ∈ Txt.split x y, ∀ c ∈ tl p, c ∈ tl x := by
  have h := split_spl x y (by rw [hy]; simp) (kind_ok hk)
  rw [hy] at h
  obtain ⟨i1, i2, i3⟩ := spl1 s (tl x) []
  have mem : ∀ p ∈ Txt.split x y, ∀ c ∈ tl p, c ∈ tl x := fun p hp c hc => by
    have := i3 (tl p) (by rw [← h]; exact List.mem_map.mpr ⟨p, hp, rfl⟩) c hc
    rcases this with z | z
    · simp at z
    · exact z
  refine ⟨ext_tl ?_, fun z => i2 (by rw [← h, z]; rfl), fun ha p hp c hc => ha c (mem p hp c hc), mem⟩
  rw [join_eq, tl_join, hy, h, i1]
  simp
theorem part_len {x y : Str} {s : Nat} (hy : tl y = [s]) (hk : y.cps.all (· < 256) = true) {p : Str} (hp : p ∈ Txt.split x y) : p.length ≤ x.length := by
  have hb := (split_back (x := x) hy hk).1
  have : ∀ {parts : List Str}, p ∈ parts → p.length ≤ (Str.join y parts).length := fun {parts} => by
    induction parts with
    | nil => intro h; cases h
    | cons q r ih =>
      intro h
      rw [len_tl (Str.join y (q :: r)), tl_join]
      cases r with
      | nil =>
        rw [List.mem_singleton.mp h]
        show q.length ≤ (tl q).length
        rw [len_tl]
        exact Nat.le_refl _
      | cons z zs =>
        show p.length ≤ (tl q ++ (tl y ++ joinL (tl y) ((z :: zs).map tl))).length
        rw [List.length_append, List.length_append]
        rcases List.mem_cons.mp h with rfl | h
        · rw [len_tl]; omega
        · have := ih h
          rw [len_tl (Str.join y (z :: zs)), tl_join] at this
          omega
  have := this hp
  rw [← join_eq, hb] at this
  exact this
theorem compL_rel {gs : Gs} {f : Ex} {Γ : DEnv} {α β : Type} {u : α → D} {enc : β → D} : ∀ (xs : List α) (R : Nat → β → Prop) (h : ∀ k a, xs[k]? = some a → ∃ Γ1 v, gs (u a) Γ = some Γ1 ∧ f Γ1 = some (enc v) ∧ R k v), ∃ vs : List β, compL gs gYes f (xs.map u) Γ = some (vs.map enc) ∧ vs.length = xs.length ∧ ∀ k v, vs[k]? = some v → R k v
  | [], _, _ => ⟨[], rfl, rfl, fun k v h => by simp at h⟩
  | a :: xs, R, h => by
    obtain ⟨Γ1, v, h1, h2, h3⟩ := h 0 a rfl
    obtain ⟨vs, h4, h5, h6⟩ := compL_rel xs (fun k => R (k + 1)) fun k b hb => h (k + 1) b hb
    refine ⟨v :: vs, ?_, by simp [h5], fun k w hw => ?_⟩
    · rw [List.map_cons]
      show (gs (u a) Γ).bind _ = _
      rw [h1]
      show (f Γ1).bind _ = _
      rw [h2]
      show (compL gs gYes f (xs.map u) Γ).bind _ = _
      rw [h4]
      rfl
    · cases k with
      | zero => cases hw; exact h3
      | succ k => exact h6 k w hw
theorem okd_oI (r : Option Int) : Okd 1 (oI r) := by cases r; exact okd_non; exact okd_int _
theorem in_none (rs : List (Option Int)) : dIn .non (.lst (rs.map oI)) = some (.bl (decide (none ∈ rs))) := by
  have h1 := (okd_eq (okd_map okd_oI rs) (by omega)).1
  have h2 := (okd_eq okd_non (by omega)).1
  unfold dIn
  simp only [h1, h2, Bool.and_self, if_true]
  congr 2
  rw [List.any_map, Bool.eq_iff_iff, List.any_eq_true, decide_eq_true_iff]
  have e : ∀ r : Option Int, eqd (oI r) .non = true ↔ r = none := fun r => by
    cases r with
    | none => unfold eqd oI toPy; simp [PyData.eqv]
    | some i => unfold eqd oI toPy; simp [PyData.eqv]
  constructor
  · rintro ⟨r, hr, h⟩
    have h : eqd (oI r) .non = true := h
    rw [(e r).mp h] at hr
    exact hr
  · intro h
    exact ⟨none, h, (e none).mpr rfl⟩
theorem lineW_inj {word : Str} {ns ms : List Int} (hw : 32 ∉ tl word) (h : lineW word ns = lineW word ms) : ns = ms := by
  have h1 := lineW_split (ns := ns) hw
  rw [h, lineW_split (ns := ms) hw] at h1
  have h1 := (List.cons.inj h1).2
  refine List.ext_getElem? fun k => ?_
  have h2 := congrArg (fun l => l[k]?) h1
  simp only [List.getElem?_map] at h2
  cases p : ns[k]? with
  | none => rw [p] at h2; cases q : ms[k]? with
    | none => rfl
    | some b => rw [q] at h2; cases h2
  | some a =>
    rw [p] at h2
    cases q : ms[k]? with
    | none => rw [q] at h2; cases h2
    | some b =>
      rw [q] at h2
      have := tW_inj (Option.some.inj h2)
      rw [this]
def oL : Option (List Int) → D
  | none => .non
  | some ns => .lst (ns.map D.int)
theorem numbers_in_total {line word : Str} {sgs : List Bool} (ha : AscS line) (hl : line.length < 1000000) (hw : 32 ∉ tl word) (haw : AscS word) (hn : sgs.length < 1000) : ∃ r : Option (List Int), S_numbers_in [.str line, .str word, .tup (sgs.map D.bl)] = some (oL r) ∧ ∀ ns, r = some ns ↔ (line = lineW word ns ∧ SgOk ns sgs) := by
  by_cases h : ∃ ns, line = lineW word ns ∧ SgOk ns sgs
  · obtain ⟨ns, rfl, hs⟩ := h
    exact ⟨some ns, numbers_in_eq hw haw hs (by have := hs.1; omega) hl, fun ms => ⟨fun e => by cases e; exact ⟨rfl, hs⟩, fun e => by rw [lineW_inj hw e.1]⟩⟩
  · refine ⟨none, ?_, fun ns => ⟨fun e => (by cases e), fun e => absurd ⟨ns, e⟩ h⟩⟩
    obtain ⟨b1, b2, b3, b4⟩ := split_back (x := line) (y := " ") (s := 32) rfl (by decide +kernel)
    have b5 : ∀ p ∈ Txt.split line " ", p.length ≤ line.length := fun p hp => part_len (s := 32) rfl (by decide +kernel) hp
    have b3 := b3 ha
    refine run_Weq ?_
    unfold B_numbers_in
    refine wq_set (d := .lst ((Txt.split line " ").map D.str)) (ev_L (ev_split (ev_V rfl) ev_C rfl hl)) ?_
    generalize hws : Txt.split line " " = ws at b1 b2 b3 b4 b5
    obtain ⟨w0, wr, rfl⟩ : ∃ a b, ws = a :: b := by cases ws with | nil => exact absurd rfl b2 | cons a b => exact ⟨a, b, rfl⟩
    have lw : dLen (.lst ((w0 :: wr).map D.str)) = some (.int ((wr.length : Int) + 1)) := by rw [d_lenL]; simp
    have ls : dLen (.tup (sgs.map D.bl)) = some (.int sgs.length) := by show some (D.int _) = _; rw [List.length_map]
    have ne_int : ∀ a b : Int, dNe (.int a) (.int b) = some (.bl (decide (a ≠ b))) := fun a b => (d_ne eqOk_int eqOk_int eqd_int).trans (by congr 2; rw [Bool.eq_iff_iff]; simp)
    refine wq_ifR (b := decide (w0 ≠ word) || decide ((wr.length : Int) + 1 ≠ (sgs.length : Int) + 1)) (ev_or (ev_T (ev_op (x := .str w0) (y := .str word) (ev_op (ev_B rfl) ev_I (d_ixA (enc := D.str) (k := 0) (a := w0) rfl rfl)) (ev_B rfl) (ne_str (b3 w0 List.mem_cons_self) haw))) (ev_T (ev_op (x := .int ((wr.length : Int) + 1)) (y := .int ((sgs.length : Int) + 1)) (ev_U (ev_B rfl) lw) (ev_op (ev_U (ev_B rfl) ls) ev_I d_add) (ne_int _ _)))) (fun _ => ⟨_, ev_C, rfl⟩) fun z => ?_
    rw [Bool.or_eq_false_iff, decide_eq_false_iff_not, decide_eq_false_iff_not] at z
    have z1 : w0 = word := Classical.not_not.mp z.1
    have z2 : wr.length = sgs.length := by have := Classical.not_not.mp z.2; omega
    subst z1
    have zz : zipD (wr.map D.str) (sgs.map D.bl) = (wr.zip sgs).map fun p => D.tup [.str p.1, .bl p.2] := by
      clear b1 b2 b3 b4 b5 hws lw ls h z
      induction wr generalizing sgs with
      | nil => cases sgs <;> rfl
      | cons n ns ih =>
        cases sgs with
        | nil => simp at z2
        | cons s sgs =>
          show D.tup [.str n, .bl s] :: zipD (ns.map D.str) (sgs.map D.bl) = _
          rw [ih (by simp at hn; omega) (by simpa using z2)]
          rfl
    have hz : gZiplt (aC (gL (gSl (gB 3) (gSo (gI 1)) gNo)) (aC (gV 2) aN)) [.sh (.str line), .sh (.str w0), .sh (.tup (sgs.map D.bl)), .sh (.lst ((w0 :: wr).map D.str)), .no, .no, .no] = some ((wr.zip sgs).map fun p => D.tup [.str p.1, .bl p.2]) := by
      unfold gZiplt
      have e1 : gL (gSl (gB 3) (gSo (gI 1)) gNo) [.sh (.str line), .sh (.str w0), .sh (.tup (sgs.map D.bl)), .sh (.lst ((w0 :: wr).map D.str)), .no, .no, .no] = some (.lst (wr.map D.str)) := by
        refine (ev_L (ev_Sl (ev_B rfl) (ev_So ev_I) ev_No d_cut)).trans ?_
        have := cutD_from (w0 :: wr) 1
        rw [show ((1 : Nat) : Int) = 1 from rfl] at this
        rw [this]
        rfl
      rw [ev_cs e1 (ev_cs (ev_V rfl) ev_nl)]
      show some (zipD (wr.map D.str) (sgs.map D.bl)) = _
      rw [zz]
    have hcr : ∃ rs : List (Option Int), compL (gTg 2 (gTo (gN 5) (gTo (gN 6) gEnd))) gYes (gCall S_number_of (aC (gV 5) (aC (gV 6) aN))) ((wr.zip sgs).map fun p => D.tup [.str p.1, .bl p.2]) [.sh (.str line), .sh (.str w0), .sh (.tup (sgs.map D.bl)), .sh (.lst ((w0 :: wr).map D.str)), .no, .no, .no] = some (rs.map oI) ∧ rs.length = (wr.zip sgs).length ∧ ∀ (k : Nat) (r : Option Int), rs[k]? = some r → ∀ p, (wr.zip sgs)[k]? = some p → ∀ i, r = some i ↔ isNum p.1 p.2 i := by
      refine compL_rel (wr.zip sgs) _ fun k p hp => ?_
      have hm : p.1 ∈ w0 :: wr := List.mem_cons_of_mem _ (List.of_mem_zip (List.mem_of_getElem? hp)).1
      obtain ⟨r, h1, h2⟩ := number_of_total (b3 p.1 hm) (Nat.lt_of_le_of_lt (b5 p.1 hm) hl) p.2
      refine ⟨[.sh (.str line), .sh (.str w0), .sh (.tup (sgs.map D.bl)), .sh (.lst ((w0 :: wr).map D.str)), .no, .sh (.str p.1), .sh (.bl p.2)], r, rfl, ev_call (ev_cs (ev_V rfl) (ev_cs (ev_V rfl) ev_nl)) h1, fun q hq i => ?_⟩
      rw [hp] at hq
      cases hq
      exact h2 i
    obtain ⟨rs, c1, c2, c3⟩ := hcr
    have zl : (wr.zip sgs).length = sgs.length := by rw [List.length_zip]; omega
    refine wq_set (d := .lst (rs.map oI)) (ev_L (ev_lc hz (by rw [List.length_map, zl]; omega) c1)) ?_
    refine wq_ifR (b := decide (none ∈ rs)) (ev_T (ev_op ev_C (ev_B rfl) (in_none rs))) (fun _ => ⟨_, ev_C, rfl⟩) fun z => ?_
    have z := of_decide_eq_false z
    -- all are numbers: a line of the form after all
    refine absurd ⟨rs.map fun r => r.getD 0, ?_, ?_, ?_⟩ h
    · rw [← b1]
      unfold lineW
      congr 2
      refine List.ext_getElem? fun k => ?_
      rw [List.getElem?_map, List.getElem?_map]
      cases q : rs[k]? with
      | none =>
        have : rs.length ≤ k := by
          have := List.getElem?_eq_none_iff.mp q
          exact this
        rw [List.getElem?_eq_none (by omega)]
        rfl
      | some r =>
        have hk : k < rs.length := (List.getElem?_eq_some_iff.mp q).1
        obtain ⟨w, hwk⟩ : ∃ w, wr[k]? = some w := ⟨_, List.getElem?_eq_getElem (by omega)⟩
        obtain ⟨s, hsk⟩ : ∃ s, sgs[k]? = some s := ⟨_, List.getElem?_eq_getElem (by omega)⟩
        have hp : (wr.zip sgs)[k]? = some (w, s) := by rw [List.getElem?_zip_eq_some]; exact ⟨hwk, hsk⟩
        cases r with
        | none => exact absurd (List.mem_of_getElem? q) z
        | some i =>
          have := (c3 k _ q _ hp i).mp rfl
          have e : w = tW i := this.1
          rw [hwk, e]
          rfl
    · rw [List.length_map, c2, zl]
    · intro p hp
      obtain ⟨k, hk⟩ := List.mem_iff_getElem?.mp hp
      rw [List.getElem?_zip_eq_some] at hk
      obtain ⟨k1, k2⟩ := hk
      rw [List.getElem?_map] at k1
      obtain ⟨r, hr, e⟩ := Option.map_eq_some_iff.mp k1
      have hkl : k < sgs.length := (List.getElem?_eq_some_iff.mp k2).1
      obtain ⟨w, hwk⟩ : ∃ w, wr[k]? = some w := ⟨_, List.getElem?_eq_getElem (by omega)⟩
      have hpz : (wr.zip sgs)[k]? = some (w, p.2) := by rw [List.getElem?_zip_eq_some]; exact ⟨hwk, k2⟩
      cases r with
      | none => exact absurd (List.mem_of_getElem? hr) z
      | some i =>
        have := (c3 k _ hr _ hpz i).mp rfl
        rw [← e]
        exact this.2
/-! papers whose methods raise -/
open TL
theorem W_retM {f : Ex} {Γ : DEnv} {d : D} {s : Sl} {P : Res → Prop} (h : f Γ = some d) (h0 : Γ[0]? = some s) (ho : isOwn s = true) (k : P (.rm d s)) : W (sRetM f) Γ P := ⟨_, by
  unfold sRetM
  rw [h]
  show ((Γ[0]?).bind _) = _
  rw [h0]
  show (if isOwn s = true then _ else _) = _
  rw [if_pos ho], k⟩
theorem run_WMR {N : Nat} {B : Sm} {s0 s' : Sl} {ds : List D} {d : D} (h : W B (s0 :: ds.map Sl.sh ++ List.replicate (N - (ds.length + 1)) .no) (fun r => r = .rm d s')) (ho : isOwn s' = true) : runMR N B s0 ds = some (.inl (d, s')) := by
  obtain ⟨r, h1, rfl⟩ := h
  unfold runMR
  rw [h1]
  show (if isOwn s' = true then _ else _) = _
  rw [if_pos ho]
theorem run_WMRr {N : Nat} {B : Sm} {s0 : Sl} {ds : List D} {n : Int} (h : W B (s0 :: ds.map Sl.sh ++ List.replicate (N - (ds.length + 1)) .no) (fun r => r = .ra n)) : runMR N B s0 ds = some (.inr n) := by
  obtain ⟨r, h1, rfl⟩ := h
  unfold runMR
  rw [h1]
  rfl
theorem run_WR {N : Nat} {B : Sm} {ds : List D} {r : D ⊕ Int} (h : W B (ds.map Sl.sh ++ List.replicate (N - ds.length) .no) (fun q => match r with | .inl d => q = .rt d | .inr n => q = .ra n)) : runR N B ds = some r := by
  obtain ⟨q, h1, h2⟩ := h
  unfold runR
  rw [h1]
  cases r with
  | inl d => subst h2; rfl
  | inr n => subst h2; rfl
theorem gCMR_eq {S : Sl → List D → Option ((D × Sl) ⊕ Int)} {fs : Ag} {ds : List D} {s' : Sl} {Γ : DEnv} {i c : Nat} {vs : List Sl} {d : D} (h0 : Γ[i]? = some (.ob c vs)) (hf : fs Γ = some ds) (h : S (.ob c vs) ds = some (.inl (d, s'))) : gCMR i [] c S fs Γ = some (.inl (d, Γ.set i s')) := by
  have e : gP i [] Γ = some (.ob c vs) := by unfold gP; rw [h0]; rfl
  unfold gCMR
  rw [e]
  show (if c = c then (fs Γ).bind fun ds => (S (.ob c vs) ds).bind fun r => _ else none) = _
  rw [if_pos rfl, hf]
  show ((S (.ob c vs) ds).bind _) = _
  rw [h]
  show ((Γ[i]?).bind _) = _
  rw [h0]
  rfl
theorem gCMR_ra {S : Sl → List D → Option ((D × Sl) ⊕ Int)} {fs : Ag} {ds : List D} {Γ : DEnv} {i c : Nat} {vs : List Sl} {n : Int} (h0 : Γ[i]? = some (.ob c vs)) (hf : fs Γ = some ds) (h : S (.ob c vs) ds = some (.inr n)) : gCMR i [] c S fs Γ = some (.inr n) := by
  have e : gP i [] Γ = some (.ob c vs) := by unfold gP; rw [h0]; rfl
  unfold gCMR
  rw [e]
  show (if c = c then (fs Γ).bind fun ds => (S (.ob c vs) ds).bind fun r => _ else none) = _
  rw [if_pos rfl, hf]
  show ((S (.ob c vs) ds).bind _) = _
  rw [h]
  rfl
theorem W_mSt {m : Mr} {k : D → DEnv → Option Res} {Γ Γ1 : DEnv} {d : D} {P : Res → Prop} (h : m Γ = some (.inl (d, Γ1))) (q : W (k d) Γ1 P) : W (mSt m k) Γ P := by
  obtain ⟨r, h1, h2⟩ := q
  refine ⟨r, ?_, h2⟩
  unfold mSt
  rw [h]
  exact h1
theorem W_mSr {m : Mr} {k : D → DEnv → Option Res} {Γ : DEnv} {n : Int} {P : Res → Prop} (h : m Γ = some (.inr n)) (q : P (.ra n)) : W (mSt m k) Γ P := ⟨_, by unfold mSt; rw [h]; rfl, q⟩
theorem mFn_eq {S : List D → Option D} {m : Mr} {fs : Ag} {Γ Γ1 : DEnv} {d y : D} {ds : List D} (h : m Γ = some (.inl (d, Γ1))) (h2 : fs Γ1 = some ds) (h3 : S (d :: ds) = some y) : mFn S m fs Γ = some (.inl (y, Γ1)) := by
  unfold mFn mThen
  rw [h]
  show (((fs Γ1).bind _).bind _) = _
  rw [h2]
  show (((S (d :: ds)).bind _).bind _) = _
  rw [h3]
  rfl
theorem mFn_ra {S : List D → Option D} {m : Mr} {fs : Ag} {Γ : DEnv} {n : Int} (h : m Γ = some (.inr n)) : mFn S m fs Γ = some (.inr n) := by unfold mFn mThen; rw [h]; rfl
theorem mU_eq {q : D → Option D} {m : Mr} {Γ Γ1 : DEnv} {d y : D} (h : m Γ = some (.inl (d, Γ1))) (h3 : q d = some y) : mU q m Γ = some (.inl (y, Γ1)) := by
  unfold mU mThen
  rw [h]
  show (((q d).bind _).bind _) = _
  rw [h3]
  rfl
theorem mU_ra {q : D → Option D} {m : Mr} {Γ : DEnv} {n : Int} (h : m Γ = some (.inr n)) : mU q m Γ = some (.inr n) := by unfold mU mThen; rw [h]; rfl
theorem W_appR {m : Mr} {Γ Γ1 : DEnv} {d : D} {i : Nat} {xs0 xs : List D} {P : Res → Prop} (h : m Γ = some (.inl (d, Γ1))) (h0 : Γ[i]? = some (.ow xs0)) (h1 : Γ1[i]? = some (.ow xs)) (hl : xs.length < 1000000) (k : P (.nx (Γ1.set i (.ow (xs ++ [d]))))) : W (sAppR i m) Γ P := ⟨_, by
  unfold sAppR mSt
  rw [h0]
  show ((m Γ).bind _) = _
  rw [h]
  show (match Γ1[i]? with | some (.ow xs) => if xs.length < 1000000 then some (Res.nx (Γ1.set i (.ow (xs ++ [d])))) else none | _ => none) = _
  rw [h1]
  show (if _ then _ else _) = _
  rw [if_pos hl], k⟩
theorem W_appRr {m : Mr} {Γ : DEnv} {n : Int} {i : Nat} {xs0 : List D} {P : Res → Prop} (h : m Γ = some (.inr n)) (h0 : Γ[i]? = some (.ow xs0)) (k : P (.ra n)) : W (sAppR i m) Γ P := ⟨_, by
  unfold sAppR mSt
  rw [h0]
  show ((m Γ).bind _) = _
  rw [h]
  rfl, k⟩
theorem okN_sm {n : Nat} (h : n < 1000000) : okN (n : Int) = true := by
  unfold okN
  rw [decide_eq_true_eq]
  have h1 : ((n : Nat) : Int).natAbs < 10 ^ 60 := by
    have : (1000000 : Nat) < 10 ^ 60 := by decide +kernel
    omega
  refine ⟨?_, ?_⟩
  · by_cases z : n = 0
    · subst z; decide
    · refine (Nat.log2_lt (by omega)).mpr ?_
      have : (1000000 : Nat) < 2 ^ 1920 := by decide +kernel
      omega
  · exact Nat.lt_of_le_of_lt (W_len (k := 60) (by omega) h1) (by decide)
theorem W_raise {f : Ex} {Γ : DEnv} {n : Nat} {P : Res → Prop} (h : f Γ = some (.int (n : Int))) (hn : n < 1000000) (k : P (.ra (n : Int))) : W (sRaise f) Γ P := ⟨_, by
  unfold sRaise
  rw [h]
  show (if okN (n : Int) = true then _ else _) = _
  rw [if_pos (okN_sm hn)], k⟩
def papS (ls : List Str) (k : Nat) : Sl := .ob 22 [.sh (.lst (ls.map D.str)), .sh (.int (k : Nat))]
def papD (ls : List Str) (k : Nat) : D := .obj 22 [.lst (ls.map D.str), .int (k : Nat)]
theorem ended_eq (ls : List Str) (k : Nat) : S_Paper_ended [papD ls k] = some (.bl (decide (k = ls.length))) := by
  have e : D.bl (decide (k = ls.length)) = D.bl ((k : Int) == (ls.length : Int)) := by
    congr 1
    rw [Bool.eq_iff_iff, beq_iff_eq, decide_eq_true_eq]
    omega
  rw [e]
  refine run_WKeq ?_
  unfold B_Paper_ended
  exact W_ret (ev_op (x := .int (k : Nat)) (y := .int ls.length) (ev_U (x := papD ls k) (ev_Bb rfl) rfl) (ev_U (x := .lst (ls.map D.str)) (ev_U (x := papD ls k) (ev_Bb rfl) rfl) (by rw [d_lenL, List.length_map])) (d_eq eqOk_int eqOk_int eqd_int)) rfl
theorem ev_ended {Γ : DEnv} {i : Nat} {ls : List Str} {k : Nat} (h : Γ[i]? = some (papS ls k)) : gTru (gMeth 22 S_Paper_ended (gB i) aN) Γ = some (decide (k = ls.length)) := by
  refine ev_Tru (x := .bl (decide (k = ls.length))) ?_ rfl
  have e : gB i Γ = some (papD ls k) := by unfold gB; rw [h]; rfl
  unfold gMeth
  rw [e]
  exact ended_eq ls k
theorem next_line_R {ls : List Str} {k : Nat} {x : Str} (h : ls[k]? = some x) : S_Paper_next_line (papS ls k) [] = some (.inl (.str x, papS ls (k + 1))) := by
  have hk : k < ls.length := (List.getElem?_eq_some_iff.mp h).1
  refine run_WMR ?_ rfl
  unfold B_Paper_next_line
  show W _ [papS ls k] _
  refine W_seq (W_if (b := false) ((ev_ended rfl).trans (by rw [decide_eq_false (by omega)])) (fun z => by cases z) fun _ => W_nil ?_)
  refine W_seq ⟨.nx [papS ls (k + 1)], rfl, ?_⟩
  refine W_retM (s := papS ls (k + 1)) ?_ rfl rfl rfl
  refine ev_op (x := .lst (ls.map D.str)) (y := .int (k : Nat)) rfl ?_ (d_ixA h rfl)
  refine ev_op (x := .int ((k + 1 : Nat) : Int)) (y := .int 1) rfl ev_I ?_
  show some (D.int _) = _
  congr 2
  omega
theorem next_line_end {ls : List Str} (hl : ls.length < 900000) : S_Paper_next_line (papS ls ls.length) [] = some (.inr ((ls.length + 1 : Nat) : Int)) := by
  refine run_WMRr ?_
  unfold B_Paper_next_line
  show W _ [papS ls ls.length] _
  refine W_seq (W_if (b := true) ((ev_ended rfl).trans (by rw [decide_eq_true rfl])) (fun _ => ?_) fun z => by cases z)
  exact W_raise (n := ls.length + 1) (ev_op (x := .int (ls.length : Nat)) (y := .int 1) rfl ev_I (by show some (D.int _) = _; congr 2)) (by omega) rfl
open Classical in
/-- the numbers of a line of this form -/
noncomputable def rdN (word : Str) (sgs : List Bool) (line : Str) : Option (List Int) := if h : ∃ ns, line = lineW word ns ∧ SgOk ns sgs then some h.choose else none
theorem rdN_iff {word : Str} {sgs : List Bool} {line : Str} (hw : 32 ∉ tl word) {ns : List Int} : rdN word sgs line = some ns ↔ line = lineW word ns ∧ SgOk ns sgs := by
  unfold rdN
  split
  · rename_i h
    constructor
    · intro e; cases e; exact h.choose_spec
    · intro e
      have := h.choose_spec
      rw [lineW_inj hw (this.1.symm.trans e.1)]
  · rename_i h
    constructor
    · intro e; cases e
    · intro e; exact absurd ⟨ns, e⟩ h
theorem numbers_in_R {line word : Str} {sgs : List Bool} (ha : AscS line) (hl : line.length < 1000000) (hw : 32 ∉ tl word) (haw : AscS word) (hn : sgs.length < 1000) : S_numbers_in [.str line, .str word, .tup (sgs.map D.bl)] = some (oL (rdN word sgs line)) := by
  obtain ⟨r, e1, e2⟩ := numbers_in_total ha hl hw haw hn
  rw [e1]
  congr 2
  cases r with
  | none =>
    cases q : rdN word sgs line with
    | none => rfl
    | some ns => exact (e2 ns).mpr ((rdN_iff hw).mp q)
  | some ns => exact ((rdN_iff hw).mpr ((e2 ns).mp rfl)).symm
/-- what a line of a paper gives -/
noncomputable def rdA (ls : List Str) (word : Str) (sgs : List Bool) (k : Nat) : Option (List Int) := (ls[k]?).bind (rdN word sgs)
structure LsOk (ls : List Str) : Prop where
  asc : ∀ x ∈ ls, AscS x
  sm : ∀ x ∈ ls, x.length < 1000000
  few : ls.length < 900000
theorem pap_R {ls : List Str} (L : LsOk ls) {k : Nat} (hk : k ≤ ls.length) {word : Str} {sgs : List Bool} (hw : 32 ∉ tl word) (haw : AscS word) (hn : sgs.length < 1000) : S_Paper_numbers (papS ls k) [.str word, .tup (sgs.map D.bl)] = some (match rdA ls word sgs k with
    | some ns => .inl (.lst (ns.map D.int), papS ls (k + 1))
    | none => .inr ((k + 1 : Nat) : Int)) := by
  rcases Nat.lt_or_ge k ls.length with h | h
  · obtain ⟨x, hx⟩ : ∃ x, ls[k]? = some x := ⟨_, List.getElem?_eq_getElem h⟩
    have hm := List.mem_of_getElem? hx
    have e : rdA ls word sgs k = rdN word sgs x := by unfold rdA; rw [hx]; rfl
    rw [e]
    have hni := numbers_in_R (L.asc x hm) (L.sm x hm) hw haw hn
    have hc : mFn S_numbers_in (gCMR 0 [] 22 S_Paper_next_line aN) (aC (gV 1) (aC (gV 2) aN)) [papS ls k, .sh (.str word), .sh (.tup (sgs.map D.bl)), .no] = some (.inl (oL (rdN word sgs x), [papS ls (k + 1), .sh (.str word), .sh (.tup (sgs.map D.bl)), .no])) :=
      mFn_eq (gCMR_eq (i := 0) rfl ev_nl (next_line_R hx)) (ev_cs (ev_V rfl) (ev_cs (ev_V rfl) ev_nl)) hni
    cases q : rdN word sgs x with
    | some ns =>
      rw [q] at hc
      refine run_WMR ?_ rfl
      unfold B_Paper_numbers
      show W _ [papS ls k, .sh (.str word), .sh (.tup (sgs.map D.bl)), .no] _
      refine W_seq (W_mSt hc ⟨_, rfl, ?_⟩)
      refine W_seq (W_if (b := false) (ev_T (ev_op (x := .lst (ns.map D.int)) (ev_B rfl) ev_C rfl)) (fun z => by cases z) fun _ => W_nil ?_)
      exact W_retM (ev_V rfl) rfl rfl rfl
    | none =>
      rw [q] at hc
      refine run_WMRr ?_
      unfold B_Paper_numbers
      show W _ [papS ls k, .sh (.str word), .sh (.tup (sgs.map D.bl)), .no] _
      refine W_seq (W_mSt hc ⟨_, rfl, ?_⟩)
      refine W_seq (W_if (b := true) (ev_T (ev_op (x := .non) (ev_B rfl) ev_C rfl)) (fun _ => ?_) fun z => by cases z)
      exact W_raise (n := k + 1) rfl (by have := L.few; omega) rfl
  · obtain rfl : k = ls.length := by omega
    have e : rdA ls word sgs ls.length = none := by unfold rdA; rw [List.getElem?_eq_none (Nat.le_refl _)]; rfl
    rw [e]
    refine run_WMRr ?_
    unfold B_Paper_numbers
    show W _ [papS ls ls.length, .sh (.str word), .sh (.tup (sgs.map D.bl)), .no] _
    exact W_seq (W_mSr (mFn_ra (gCMR_ra (i := 0) rfl ev_nl (next_line_end L.few))) rfl)
theorem mk_paper {text : Str} (h : text.length < 1000000) : gMk 22 S_Paper___init__ (fun _ => some [.str text]) [] = some (papS (Txt.split text "\n") 0) := by
  have e : S_Paper___init__ (.ob 22 []) [.str text] = some (.non, papS (Txt.split text "\n") 0) := by
    have e1 : gL (gSplit (gV 1) (gC (.str "\n"))) [.ob 22 [], .sh (.str text)] = some (.lst ((Txt.split text "\n").map D.str)) := ev_L (ev_split (ev_V rfl) ev_C rfl h)
    show ((B_Paper___init__ [.ob 22 [], .sh (.str text)]).bind _) = _
    have e2 : B_Paper___init__ [.ob 22 [], .sh (.str text)] = some (.nx [papS (Txt.split text "\n") 0, .sh (.str text)]) := by
      unfold B_Paper___init__
      refine sv_nx (Γ1 := [.ob 22 [.sh (.lst ((Txt.split text "\n").map D.str))], .sh (.str text)]) ?_ rfl
      show ((nSh _ [.ob 22 [], .sh (.str text)]).bind _) = _
      show ((nSh _ [.ob 22 [], .sh (.str text)]).bind _) = _
      unfold nSh
      rw [e1]
      rfl
    rw [e2]
    rfl
  unfold gMk
  show ((S_Paper___init__ (.ob 22 []) [.str text]).bind _) = _
  rw [e]
  rfl
def stsOf (pcs : List (Int × Int × Int × Int)) : List Int := pcs.map (·.1)
def stAt (pcs : List (Int × Int × Int × Int)) (k : Nat) : Int := (stsOf pcs).getD k 0
def lnAt (pcs : List (Int × Int × Int × Int)) (k : Nat) : Int × Int × Int := (pcs.getD k (0, 0, 0, 0)).2
def rsAt (rs : List (Int × Int × Int)) (k : Nat) : Int × Int × Int := rs.getD k (0, 0, 0)
theorem stsOf_len (pcs : List (Int × Int × Int × Int)) : (stsOf pcs).length = pcs.length := by simp [stsOf]
theorem pc_get (pcs : List (Int × Int × Int × Int)) {k : Nat} (hk : k < pcs.length) : pcs[k]? = some (stAt pcs k, lnAt pcs k) := by
  simp [stAt, stsOf, lnAt, hk]
/-! a cutting's lines -/
abbrev Pc4 := Int × Int × Int × Int
def pcN (c : Pc4) : List Int := [c.1, c.2.1, c.2.2.1, c.2.2.2]
def rsN (r : Int × Int × Int) : List Int := [r.1, r.2.1, r.2.2]
def pL (c : Pc4) : Str := lineW "piece" (pcN c)
def rL (r : Int × Int × Int) : Str := lineW "reason" (rsN r)
def optR (rs : List (Int × Int × Int)) (k : Nat) : List Str := match rs[k]? with
  | some r => [rL r]
  | none => []
def linK (ps : List Pc4) (rs : List (Int × Int × Int)) : Nat → List Str
  | 0 => ["cutting"]
  | k + 1 => linK ps rs k ++ (pL (ps.getD k (0, 0, 0, 0)) :: optR rs k)
def SmN (i : Int) : Prop := i.natAbs < 10 ^ 60
theorem W_len19 {i : Int} (h : SmN i) : (tW i).length ≤ 61 := W_len (k := 60) (by omega) h
theorem tlW (x : Str) : tl x = x.cps.toList := rfl
theorem lineW_tl (word : Str) (ns : List Int) : tl (lineW word ns) = joinL [32] (tl word :: ns.map fun i => tl (tW i)) := by
  unfold lineW
  rw [join_eq, tl_join]
  show joinL [32] (tl word :: (ns.map tW).map tl) = _
  rw [List.map_map]
  rfl
theorem joinL_mem {S : List Nat} {c : Nat} : ∀ {parts : List (List Nat)}, c ∈ joinL S parts → c ∈ S ∨ ∃ p ∈ parts, c ∈ p
  | [], h => by simp [joinL] at h
  | [p], h => .inr ⟨p, List.mem_cons_self, h⟩
  | p :: q :: r, h => by
    unfold joinL at h
    rcases List.mem_append.mp h with h | h
    · exact .inr ⟨p, List.mem_cons_self, h⟩
    · rcases List.mem_append.mp h with h | h
      · exact .inl h
      · rcases joinL_mem h with h | ⟨z, h1, h2⟩
        · exact .inl h
        · exact .inr ⟨z, List.mem_cons_of_mem _ h1, h2⟩
theorem joinL_len {S : List Nat} {m : Nat} : ∀ {parts : List (List Nat)}, (∀ p ∈ parts, p.length ≤ m) → (joinL S parts).length ≤ parts.length * (m + S.length)
  | [], _ => by simp [joinL]
  | [p], h => by
    have := h p List.mem_cons_self
    show p.length ≤ 1 * _
    omega
  | p :: q :: r, h => by
    have h1 := h p List.mem_cons_self
    have ih := joinL_len (S := S) (parts := q :: r) fun z hz => h z (List.mem_cons_of_mem _ hz)
    show (p ++ (S ++ joinL S (q :: r))).length ≤ (List.length (q :: r) + 1) * (m + S.length)
    rw [List.length_append, List.length_append, Nat.succ_mul]
    omega
theorem lineW_free {word : Str} {ns : List Int} {s : Nat} (hw : s ∉ tl word) (h1 : s ≠ 45) (h2 : s < 48 ∨ 57 < s) (h3 : s ≠ 32) : s ∉ tl (lineW word ns) := by
  rw [lineW_tl]
  intro h
  rcases joinL_mem h with h | ⟨p, hp, h⟩
  · exact h3 (List.mem_singleton.mp h)
  · rcases List.mem_cons.mp hp with rfl | hp
    · exact hw h
    · obtain ⟨i, _, rfl⟩ := List.mem_map.mp hp
      exact W_free i h1 h2 h
theorem lineW_asc {word : Str} {ns : List Int} (hw : AscS word) : AscS (lineW word ns) := by
  intro c h
  rw [lineW_tl] at h
  rcases joinL_mem h with h | ⟨p, hp, h⟩
  · rw [List.mem_singleton.mp h]; decide
  · rcases List.mem_cons.mp hp with rfl | hp
    · exact hw c h
    · obtain ⟨i, _, rfl⟩ := List.mem_map.mp hp
      exact W_asc i c h
theorem lineW_len {word : Str} {ns : List Int} (hw : word.length ≤ 20) (hn : ∀ i ∈ ns, SmN i) : (lineW word ns).length ≤ (ns.length + 1) * 62 := by
  rw [len_tl, lineW_tl]
  refine Nat.le_trans (joinL_len (m := 61) fun p hp => ?_) (by simp)
  rcases List.mem_cons.mp hp with rfl | hp
  · rw [← len_tl]; omega
  · obtain ⟨i, hi, rfl⟩ := List.mem_map.mp hp
    rw [← len_tl]
    exact W_len19 (hn i hi)
/-- the numbers of a cutting are small; there is a reason for each piece but the last -/
structure CtOk (ps : List Pc4) (rs : List (Int × Int × Int)) : Prop where
  p : ∀ c ∈ ps, ∀ i ∈ pcN c, SmN i
  r : ∀ c ∈ rs, ∀ i ∈ rsN c, SmN i
  p0 : ∀ c ∈ ps, 0 ≤ c.1 ∧ 0 ≤ c.2.2.2
  r0 : ∀ c ∈ rs, ∀ i ∈ rsN c, 0 ≤ i
  len : ps.length ≤ 10
  rl : rs.length = ps.length - 1
theorem lin_all {ps : List Pc4} {rs : List (Int × Int × Int)} (C : CtOk ps rs) (P : Str → Prop) (h0 : P "cutting") (h1 : ∀ c ∈ ps, P (pL c)) (h2 : ∀ c ∈ rs, P (rL c)) : ∀ k, k ≤ ps.length → ∀ x ∈ linK ps rs k, P x := fun k => by
  induction k with
  | zero =>
    intro _ x hx
    rw [List.mem_singleton.mp hx]
    exact h0
  | succ k ih =>
    intro hk x hx
    rcases List.mem_append.mp hx with hx | hx
    · exact ih (by omega) x hx
    · rcases List.mem_cons.mp hx with rfl | hx
      · refine h1 _ ?_
        rw [List.getD_eq_getElem?_getD, List.getElem?_eq_getElem (by omega)]
        exact List.getElem_mem _
      · unfold optR at hx
        cases q : rs[k]? with
        | none => rw [q] at hx; simp at hx
        | some r =>
          rw [q] at hx
          rw [List.mem_singleton.mp hx]
          exact h2 r (List.mem_of_getElem? q)
theorem lin_len (ps : List Pc4) (rs : List (Int × Int × Int)) : ∀ k, (linK ps rs k).length = 1 + k + min k rs.length := fun k => by
  induction k with
  | zero => simp [linK]
  | succ k ih =>
    have e : (optR rs k).length = if k < rs.length then 1 else 0 := by
      unfold optR
      by_cases h : k < rs.length
      · rw [List.getElem?_eq_getElem h, if_pos h]; rfl
      · rw [List.getElem?_eq_none (by omega), if_neg h]; rfl
    show (linK ps rs k ++ _).length = _
    rw [List.length_append, ih, List.length_cons, e]
    split <;> omega
theorem lin_pre (ps : List Pc4) (rs : List (Int × Int × Int)) {k m : Nat} (h : k ≤ m) : ∃ t, linK ps rs m = linK ps rs k ++ t := by
  induction m with
  | zero =>
    have : k = 0 := by omega
    subst this
    exact ⟨[], by simp⟩
  | succ m ih =>
    by_cases e : k = m + 1
    · subst e; exact ⟨[], by simp⟩
    · obtain ⟨t, ht⟩ := ih (by omega)
      exact ⟨t ++ (pL (ps.getD m (0, 0, 0, 0)) :: optR rs m), by show linK ps rs m ++ _ = _; rw [ht, List.append_assoc]⟩
theorem lin_p {ps : List Pc4} {rs : List (Int × Int × Int)} {k : Nat} {c : Pc4} (hc : ps[k]? = some c) (hk : k ≤ rs.length) : (linK ps rs ps.length)[1 + 2 * k]? = some (pL c) := by
  have hl : k < ps.length := (List.getElem?_eq_some_iff.mp hc).1
  obtain ⟨t, ht⟩ := lin_pre ps rs (k := k + 1) (m := ps.length) hl
  rw [ht]
  have e : linK ps rs (k + 1) = linK ps rs k ++ (pL c :: optR rs k) := by
    show linK ps rs k ++ (pL (ps.getD k (0, 0, 0, 0)) :: optR rs k) = _
    rw [List.getD_eq_getElem?_getD, hc]
    rfl
  have l := lin_len ps rs k
  rw [e, List.append_assoc, List.getElem?_append_right (by omega), l]
  have : 1 + 2 * k - (1 + k + min k rs.length) = 0 := by omega
  rw [this]
  rfl
theorem lin_r {ps : List Pc4} {rs : List (Int × Int × Int)} {k : Nat} {c : Int × Int × Int} (hc : rs[k]? = some c) (hp : k < ps.length) : (linK ps rs ps.length)[2 + 2 * k]? = some (rL c) := by
  have hl : k < rs.length := (List.getElem?_eq_some_iff.mp hc).1
  obtain ⟨t, ht⟩ := lin_pre ps rs (k := k + 1) (m := ps.length) hp
  rw [ht]
  have l := lin_len ps rs k
  show (linK ps rs k ++ (pL (ps.getD k (0, 0, 0, 0)) :: optR rs k) ++ t)[2 + 2 * k]? = _
  unfold optR
  rw [hc, List.append_assoc, List.getElem?_append_right (by omega), l]
  have : 2 + 2 * k - (1 + k + min k rs.length) = 1 := by omega
  rw [this]
  rfl
theorem fs_p (a b c d : Int) : (["piece ", tW a, " ", tW b, " ", tW c, " ", tW d] : List Str).foldl (· ++ ·) Str.empty = pL (a, b, c, d) := by
  refine ext_tl ?_
  show _ = tl (lineW "piece" [a, b, c, d])
  rw [lineW_tl]
  simp only [List.foldl, tl_append, joinL, List.map_cons, List.map_nil]
  rw [show tl (Str.empty) = [] from rfl, show tl ("piece " : Str) = tl ("piece" : Str) ++ [32] from by rfl, show tl (" " : Str) = [32] from rfl]
  simp
theorem fs_r (a b c : Int) : (["reason ", tW a, " ", tW b, " ", tW c] : List Str).foldl (· ++ ·) Str.empty = rL (a, b, c) := by
  refine ext_tl ?_
  show _ = tl (lineW "reason" [a, b, c])
  rw [lineW_tl]
  simp only [List.foldl, tl_append, joinL, List.map_cons, List.map_nil]
  rw [show tl (Str.empty) = [] from rfl, show tl ("reason " : Str) = tl ("reason" : Str) ++ [32] from by rfl, show tl (" " : Str) = [32] from rfl]
  simp
theorem pl_p (a b c d : Int) : (("piece " : Str) ++ tW a ++ (" " : Str) ++ Txt.join " " [tW b, tW c, tW d]) = pL (a, b, c, d) := by
  refine ext_tl ?_
  show _ = tl (lineW "piece" [a, b, c, d])
  rw [lineW_tl, join_eq]
  simp only [tl_append, tl_join, joinL, List.map_cons, List.map_nil]
  rw [show tl ("piece " : Str) = tl ("piece" : Str) ++ [32] from by rfl, show tl (" " : Str) = [32] from rfl]
  simp
theorem pl_r (a b c : Int) : (("reason " : Str) ++ Txt.join " " [tW a, tW b, tW c]) = rL (a, b, c) := by
  refine ext_tl ?_
  show _ = tl (lineW "reason" [a, b, c])
  rw [lineW_tl, join_eq]
  simp only [tl_append, tl_join, joinL, List.map_cons, List.map_nil]
  rw [show tl ("reason " : Str) = tl ("reason" : Str) ++ [32] from by rfl, show tl (" " : Str) = [32] from rfl]
  simp
/-! a cutting written and read -/
theorem okL' : ∀ l : Int × Int × Int, Okd 2 (encL l) := fun l => okd_tup fun d hd => by
  rcases List.mem_cons.mp hd with rfl | hd
  · exact okd_int _
  rcases List.mem_cons.mp hd with rfl | hd
  · exact okd_int _
  · rw [List.mem_singleton.mp hd]; exact okd_int _
theorem okC' : ∀ c : Pc4, Okd 3 (encC c) := fun c => okd_tup fun d hd => by
  rcases List.mem_cons.mp hd with rfl | hd
  · exact ⟨(okd_int _).1, (okd_int _).2.1, by have := (okd_int c.1).2.2; omega⟩
  · rw [List.mem_singleton.mp hd]; exact okL' _
theorem log_sm {i : Int} (h : SmN i) : i.natAbs.log2 < 1920 := by
  unfold SmN at h
  by_cases z : i.natAbs = 0
  · rw [z]; decide
  · exact (Nat.log2_lt z).mpr (Nat.lt_of_lt_of_le h (Nat.le_trans (by decide +kernel : (10 : Nat) ^ 60 ≤ 2 ^ 200) (Nat.pow_le_pow_right (by omega) (by omega))))
theorem d_fmt {i : Int} (h : SmN i) : dFmt (.int i) = some (.str (tW i)) := by
  show (if _ then _ else _) = _
  rw [if_pos (log_sm h)]
  rfl
theorem d_strI {i : Int} (h : SmN i) : dStrI (.int i) = some (.str (tW i)) := by
  show (if _ then _ else _) = _
  rw [if_pos (log_sm h)]
  rfl
theorem tot_cons (x : Str) (ys : List Str) : totS (x :: ys) = x.length + totS ys := by unfold totS; simp
theorem tot_nil : totS [] = 0 := rfl
theorem tot_le {m : Nat} : ∀ {ys : List Str}, (∀ y ∈ ys, y.length ≤ m) → totS ys ≤ ys.length * m
  | [], _ => by simp [totS]
  | y :: ys, h => by
    have h1 := h y List.mem_cons_self
    have h2 := tot_le (ys := ys) fun z hz => h z (List.mem_cons_of_mem _ hz)
    rw [tot_cons, List.length_cons, Nat.succ_mul]
    omega
theorem pL_len {c : Pc4} (h : ∀ i ∈ pcN c, SmN i) : (pL c).length ≤ 310 := lineW_len (by decide +kernel) h
theorem rL_len {c : Int × Int × Int} (h : ∀ i ∈ rsN c, SmN i) : (rL c).length ≤ 310 := Nat.le_trans (lineW_len (by decide +kernel) h) (by show 4 * 62 ≤ 310; decide)
theorem lin_lens {ps : List Pc4} {rs : List (Int × Int × Int)} (C : CtOk ps rs) : ∀ x ∈ linK ps rs ps.length, x.length ≤ 310 :=
  lin_all C (fun x => x.length ≤ 310) (by decide +kernel) (fun c hc => pL_len (C.p c hc)) (fun c hc => rL_len (C.r c hc)) _ (Nat.le_refl _)
theorem lin_cnt {ps : List Pc4} {rs : List (Int × Int × Int)} (C : CtOk ps rs) : (linK ps rs ps.length).length ≤ 21 := by
  rw [lin_len]
  have := C.len
  omega
theorem join_lin {ps : List Pc4} {rs : List (Int × Int × Int)} (C : CtOk ps rs) : dJoin (.str "\n") (.lst ((linK ps rs ps.length).map D.str)) = some (.str (Txt.join "\n" (linK ps rs ps.length))) := by
  refine d_join ?_
  have h1 := tot_le (lin_lens C)
  have h2 := lin_cnt C
  have h3 : ("\n" : Str).length = 1 := rfl
  rw [h3]
  have := Nat.mul_le_mul_right 310 h2
  omega
theorem write_eq {ps : List Pc4} {rs : List (Int × Int × Int)} (C : CtOk ps rs) : S_write_cutting [.obj 0 [.lst (ps.map encC), .lst (rs.map encL)]] = some (.str (Txt.join "\n" (linK ps rs ps.length))) := by
  have hl := C.len
  have hrl := C.rl
  refine run_Weq ?_
  unfold B_write_cutting
  refine wq_setO (ev_cs ev_C ev_nl) ?_
  refine wq_for (ds := enumD 0 (ps.map encC)) (fun k Γ => ∃ (s2 s3 s4 s5 s6 s7 s8 s9 : Sl), Γ = [.sh (.obj 0 [.lst (ps.map encC), .lst (rs.map encL)]), .ow ((linK ps rs k).map D.str), s2, s3, s4, s5, s6, s7, s8, s9] ∧ k ≤ ps.length) ?_ ⟨_, _, _, _, _, _, _, _, rfl, Nat.zero_le _⟩ ?_ ?_
  · rfl
  · rintro k d Γ hd ⟨s2, s3, s4, s5, s6, s7, s8, s9, rfl, _⟩
    obtain ⟨x, hx, rfl⟩ := enumD_get hd
    rw [List.getElem?_map] at hx
    obtain ⟨c, hc, rfl⟩ := Option.map_eq_some_iff.mp hx
    have hk : k < ps.length := (List.getElem?_eq_some_iff.mp hc).1
    have sm := C.p c (List.mem_of_getElem? hc)
    have pl := pL_len sm
    have ll := lin_len ps rs k
    obtain ⟨st, p, q, d⟩ := c
    have e1 : linK ps rs (k + 1) = linK ps rs k ++ (pL (st, p, q, d) :: optR rs k) := by
      show linK ps rs k ++ (pL (ps.getD k (0, 0, 0, 0)) :: optR rs k) = _
      rw [List.getD_eq_getElem?_getD, hc]
      rfl
    have m1 : SmN st := sm st (by simp [pcN])
    have m2 : SmN p := sm p (by simp [pcN])
    have m3 : SmN q := sm q (by simp [pcN])
    have m4 : SmN d := sm d (by simp [pcN])
    have l1 := W_len19 m1
    have l2 := W_len19 m2
    have l3 := W_len19 m3
    have l4 := W_len19 m4
    refine ⟨[.sh (.obj 0 [.lst (ps.map encC), .lst (rs.map encL)]), .ow ((linK ps rs k).map D.str), .sh (.int ((0 + k : Nat) : Int)), .sh (.int st), .sh (.int p), .sh (.int q), .sh (.int d), s7, s8, s9], rfl, ?_⟩
    refine wq_app (xs := (linK ps rs k).map D.str) (d := .str (pL (st, p, q, d))) ?_ rfl (by rw [List.length_map]; omega) ?_
    · rw [← fs_p]
      refine ev_js (ev_cs ev_C (ev_cs (ev_U (ev_V rfl) (d_fmt m1)) (ev_cs ev_C (ev_cs (ev_U (ev_V rfl) (d_fmt m2)) (ev_cs ev_C (ev_cs (ev_U (ev_V rfl) (d_fmt m3)) (ev_cs ev_C (ev_cs (ev_U (ev_V rfl) (d_fmt m4)) ev_nl)))))))) ?_
      have h1 : ("piece " : Str).length = 6 := rfl
      have h2 : (" " : Str).length = 1 := rfl
      simp only [tot_cons, tot_nil, h1, h2]
      omega
    · have e2 : (linK ps rs k).map D.str ++ [D.str (pL (st, p, q, d))] = (linK ps rs k ++ [pL (st, p, q, d)]).map D.str := by rw [List.map_append]; rfl
      rw [e2]
      refine W_if (b := decide (k < rs.length)) (ev_T (ev_op (x := .int ((0 + k : Nat) : Int)) (y := .int rs.length) (ev_V rfl) (ev_U (x := .lst (rs.map encL)) (ev_U (ev_V rfl) rfl) (by rw [d_lenL, List.length_map])) (by
        show some (D.bl (decide (((0 + k : Nat) : Int) < (rs.length : Int)))) = _
        have : decide (((0 + k : Nat) : Int) < (rs.length : Int)) = decide (k < rs.length) := decide_eq_decide.mpr (by omega)
        rw [this]))) (fun z => ?_) fun z => ?_
      · have z := of_decide_eq_true z
        obtain ⟨r, hr⟩ : ∃ r, rs[k]? = some r := ⟨_, List.getElem?_eq_getElem z⟩
        have smr := C.r r (List.mem_of_getElem? hr)
        obtain ⟨a, b, c⟩ := r
        have n1 : SmN a := smr a (by simp [rsN])
        have n2 : SmN b := smr b (by simp [rsN])
        have n3 : SmN c := smr c (by simp [rsN])
        have w1 := W_len19 n1
        have w2 := W_len19 n2
        have w3 := W_len19 n3
        refine wq_unp (d := encL (a, b, c)) (ev_op (x := .lst (rs.map encL)) (ev_U (ev_V rfl) rfl) (ev_V rfl) (d_ixA hr (by omega))) (Γ1 := [.sh (.obj 0 [.lst (ps.map encC), .lst (rs.map encL)]), .ow ((linK ps rs k ++ [pL (st, p, q, d)]).map D.str), .sh (.int ((0 + k : Nat) : Int)), .sh (.int st), .sh (.int p), .sh (.int q), .sh (.int d), .sh (.int a), .sh (.int b), .sh (.int c)]) rfl ?_
        refine W_app (xs := (linK ps rs k ++ [pL (st, p, q, d)]).map D.str) (d := .str (rL (a, b, c))) ?_ rfl (by rw [List.length_map, List.length_append]; simp; omega) ?_
        · rw [← fs_r]
          refine ev_js (ev_cs ev_C (ev_cs (ev_U (ev_V rfl) (d_fmt n1)) (ev_cs ev_C (ev_cs (ev_U (ev_V rfl) (d_fmt n2)) (ev_cs ev_C (ev_cs (ev_U (ev_V rfl) (d_fmt n3)) ev_nl)))))) ?_
          have h1 : ("reason " : Str).length = 7 := rfl
          have h2 : (" " : Str).length = 1 := rfl
          simp only [tot_cons, tot_nil, h1, h2]
          omega
        · refine ⟨.sh (.int ((0 + k : Nat) : Int)), .sh (.int st), .sh (.int p), .sh (.int q), .sh (.int d), .sh (.int a), .sh (.int b), .sh (.int c), ?_, hk⟩
          have e3 : (linK ps rs k ++ [pL (st, p, q, d)]).map D.str ++ [D.str (rL (a, b, c))] = (linK ps rs (k + 1)).map D.str := by
            rw [e1]
            unfold optR
            rw [hr]
            simp
          rw [e3]
          rfl
      · have z := of_decide_eq_false z
        refine W_nil ⟨.sh (.int ((0 + k : Nat) : Int)), .sh (.int st), .sh (.int p), .sh (.int q), .sh (.int d), s7, s8, s9, ?_, hk⟩
        have e3 : linK ps rs (k + 1) = linK ps rs k ++ [pL (st, p, q, d)] := by
          rw [e1]
          unfold optR
          rw [List.getElem?_eq_none (by omega)]
        rw [e3]
        rfl
  · rintro Γ ⟨s2, s3, s4, s5, s6, s7, s8, s9, rfl, _⟩
    have el : (enumD 0 (ps.map encC)).length = ps.length := by rw [enumD_len, List.length_map]
    rw [el]
    exact W_ret (ev_op (x := .str "\n") ev_C (ev_Bo rfl) (join_lin C)) rfl
theorem words_eq {ns : List Int} {Γ : DEnv} {f : Ex} {own : List Nat} {j : Nat} (h : f Γ = some (.tup (ns.map D.int))) (hs : ∀ i ∈ ns, SmN i) (hn : ns.length < 1000) (hw : j < Γ.length) : gL (gLc [j] (gIt f) (gN j) gYes (gU dStrI (gB j))) Γ = some (.lst ((ns.map tW).map D.str)) := by
  refine ev_L (ev_lc (ds := ns.map D.int) (ev_itT h) (by simp; omega) ?_)
  rw [List.map_map]
  refine compL_map _ _ _ fun i hi => ⟨_, rfl, ev_U (x := .int i) (ev_B ?_) (d_strI (hs i hi))⟩
  rw [List.getElem?_set_self]
  show j < (Γ.set j .no).length
  rw [List.length_set]
  exact hw
theorem lines_eq {ps : List Pc4} {rs : List (Int × Int × Int)} (C : CtOk ps rs) : S__law_lines [.lst (ps.map encC), .lst (rs.map encL)] = some (.lst ((linK ps rs ps.length).map D.str)) := by
  have hl := C.len
  have hrl := C.rl
  have lP : dLen (.lst (ps.map encC)) = some (.int ps.length) := by rw [d_lenL, List.length_map]
  refine run_Weq ?_
  unfold B__law_lines
  refine wq_setO (ev_cs ev_C ev_nl) ?_
  refine wq_rng (lo := 0) (n := ps.length) (fun k Γ => ∃ (s3 s4 s5 s6 : Sl), Γ = [.sh (.lst (ps.map encC)), .sh (.lst (rs.map encL)), .ow ((linK ps rs k).map D.str), s3, s4, s5, s6]) ((ev_rng1 (m := ps.length) (ev_cs (ev_U (ev_B rfl) lP) ev_nl) (by omega) (by omega)).trans (by rw [Int.toNat_natCast])) ⟨_, _, _, _, rfl⟩ ?_ ?_
  · rintro k Γ hk ⟨s3, s4, s5, s6, rfl⟩
    have ek : (0 + (k : Nat) : Int) = (k : Nat) := by omega
    rw [ek]
    obtain ⟨c, hc⟩ : ∃ c, ps[k]? = some c := ⟨_, List.getElem?_eq_getElem hk⟩
    have sm := C.p c (List.mem_of_getElem? hc)
    have pl := pL_len sm
    have ll := lin_len ps rs k
    obtain ⟨st, p, q, d⟩ := c
    have e1 : linK ps rs (k + 1) = linK ps rs k ++ (pL (st, p, q, d) :: optR rs k) := by
      show linK ps rs k ++ (pL (ps.getD k (0, 0, 0, 0)) :: optR rs k) = _
      rw [List.getD_eq_getElem?_getD, hc]
      rfl
    have m1 : SmN st := sm st (by simp [pcN])
    have m2 : SmN p := sm p (by simp [pcN])
    have m3 : SmN q := sm q (by simp [pcN])
    have m4 : SmN d := sm d (by simp [pcN])
    have l1 := W_len19 m1
    have l2 := W_len19 m2
    have l3 := W_len19 m3
    have l4 := W_len19 m4
    have h1 : ("piece " : Str).length = 6 := rfl
    have h2 : (" " : Str).length = 1 := rfl
    have h3 : ("reason " : Str).length = 7 := rfl
    have tj : totS [tW p, tW q, tW d] + [tW p, tW q, tW d].length * (" " : Str).length ≤ 16777216 := by
      simp only [tot_cons, tot_nil, h2, List.length_cons, List.length_nil]
      omega
    have jl : (Txt.join " " [tW p, tW q, tW d]).length ≤ 190 := by
      rw [len_tl, join_eq, tl_join]
      refine Nat.le_trans (joinL_len (m := 61) fun x hx => ?_) (by simp [show tl (" " : Str) = [32] from rfl])
      simp only [List.map_cons, List.map_nil, List.mem_cons, List.not_mem_nil, or_false] at hx
      rcases hx with rfl | rfl | rfl <;> rw [← len_tl] <;> assumption
    refine ⟨[.sh (.lst (ps.map encC)), .sh (.lst (rs.map encL)), .ow ((linK ps rs k).map D.str), .sh (.int (k : Nat)), s4, s5, s6], rfl, ?_⟩
    refine wq_unp (d := encC (st, p, q, d)) (ev_op (ev_B rfl) (ev_V rfl) (d_ixA hc rfl)) (Γ1 := [.sh (.lst (ps.map encC)), .sh (.lst (rs.map encL)), .ow ((linK ps rs k).map D.str), .sh (.int (k : Nat)), .sh (.int st), .sh (encL (p, q, d)), s6]) rfl ?_
    refine wq_app (xs := (linK ps rs k).map D.str) (d := .str (pL (st, p, q, d))) ?_ rfl (by rw [List.length_map]; omega) ?_
    · rw [← pl_p]
      exact ev_op (x := .str (("piece " : Str) ++ tW st ++ (" " : Str))) (y := .str (Txt.join " " [tW p, tW q, tW d])) (ev_op (x := .str (("piece " : Str) ++ tW st)) (y := .str " ") (ev_op (x := .str "piece ") (y := .str (tW st)) ev_C (ev_U (ev_B rfl) (d_strI m1)) (d_addS (by omega))) ev_C (d_addS (by rw [len_app]; omega))) (ev_op (x := .str " ") ev_C (words_eq (ns := [p, q, d]) (own := []) (ev_V rfl) (by simp only [List.mem_cons, List.not_mem_nil, or_false]; rintro i (rfl | rfl | rfl) <;> assumption) (by simp) (by simp)) (d_join tj)) (d_addS (by rw [len_app, len_app]; omega))
    · have e2 : (linK ps rs k).map D.str ++ [D.str (pL (st, p, q, d))] = (linK ps rs k ++ [pL (st, p, q, d)]).map D.str := by rw [List.map_append]; rfl
      rw [e2]
      refine W_if (b := decide (k < rs.length)) (ev_T (ev_op (x := .int (k : Nat)) (y := .int rs.length) (ev_V rfl) (ev_U (ev_B rfl) (by rw [d_lenL, List.length_map])) (by
        show some (D.bl (decide (((k : Nat) : Int) < (rs.length : Int)))) = _
        have : decide (((k : Nat) : Int) < (rs.length : Int)) = decide (k < rs.length) := decide_eq_decide.mpr (by omega)
        rw [this]))) (fun z => ?_) fun z => ?_
      · have z := of_decide_eq_true z
        obtain ⟨r, hr⟩ : ∃ r, rs[k]? = some r := ⟨_, List.getElem?_eq_getElem z⟩
        have smr := C.r r (List.mem_of_getElem? hr)
        obtain ⟨a, b, c⟩ := r
        have n1 : SmN a := smr a (by simp [rsN])
        have n2 : SmN b := smr b (by simp [rsN])
        have n3 : SmN c := smr c (by simp [rsN])
        have w1 := W_len19 n1
        have w2 := W_len19 n2
        have w3 := W_len19 n3
        have tj2 : totS [tW a, tW b, tW c] + [tW a, tW b, tW c].length * (" " : Str).length ≤ 16777216 := by
          simp only [tot_cons, tot_nil, h2, List.length_cons, List.length_nil]
          omega
        have jl2 : (Txt.join " " [tW a, tW b, tW c]).length ≤ 190 := by
          rw [len_tl, join_eq, tl_join]
          refine Nat.le_trans (joinL_len (m := 61) fun x hx => ?_) (by simp [show tl (" " : Str) = [32] from rfl])
          simp only [List.map_cons, List.map_nil, List.mem_cons, List.not_mem_nil, or_false] at hx
          rcases hx with rfl | rfl | rfl <;> rw [← len_tl] <;> assumption
        refine W_app (xs := (linK ps rs k ++ [pL (st, p, q, d)]).map D.str) (d := .str (rL (a, b, c))) ?_ rfl (by rw [List.length_map, List.length_append]; simp; omega) ?_
        · rw [← pl_r]
          exact ev_op (x := .str "reason ") (y := .str (Txt.join " " [tW a, tW b, tW c])) ev_C (ev_op (x := .str " ") ev_C (words_eq (ns := [a, b, c]) (own := []) (ev_op (x := .lst (rs.map encL)) (y := .int (k : Nat)) (ev_B rfl) (ev_V rfl) (d_ixA hr rfl)) (by simp only [List.mem_cons, List.not_mem_nil, or_false]; rintro i (rfl | rfl | rfl) <;> assumption) (by simp) (by simp)) (d_join tj2)) (d_addS (by omega))
        · refine ⟨.sh (.int (k : Nat)), .sh (.int st), .sh (encL (p, q, d)), s6, ?_⟩
          have e3 : (linK ps rs k ++ [pL (st, p, q, d)]).map D.str ++ [D.str (rL (a, b, c))] = (linK ps rs (k + 1)).map D.str := by
            rw [e1]
            unfold optR
            rw [hr]
            simp
          rw [e3]
          rfl
      · have z := of_decide_eq_false z
        refine W_nil ⟨.sh (.int (k : Nat)), .sh (.int st), .sh (encL (p, q, d)), s6, ?_⟩
        have e3 : linK ps rs (k + 1) = linK ps rs k ++ [pL (st, p, q, d)] := by
          rw [e1]
          unfold optR
          rw [List.getElem?_eq_none (by omega)]
        rw [e3]
        rfl
  · rintro Γ ⟨s3, s4, s5, s6, rfl⟩
    exact W_frz (W_ret (ev_V rfl) rfl)
/-! a cutting read -/
theorem cutting_line : ("cutting" : Str) = lineW "cutting" [] := by
  refine ext_tl ?_
  rw [lineW_tl]
  rfl
theorem sg_nil : SgOk [] [] := ⟨rfl, fun p hp => by simp at hp⟩
theorem sm60 {i : Int} (h : SmN i) : i.natAbs < 10 ^ 60 := h
theorem sg_p {c : Pc4} (h : ∀ i ∈ pcN c, SmN i) (h0 : 0 ≤ c.1 ∧ 0 ≤ c.2.2.2) : SgOk (pcN c) [false, true, true, false] := by
  obtain ⟨a, b, e, d⟩ := c
  refine ⟨rfl, fun p hp => ?_⟩
  have hp : p ∈ [(a, false), (b, true), (e, true), (d, false)] := hp
  simp only [List.mem_cons, List.not_mem_nil, or_false] at hp
  rcases hp with rfl | rfl | rfl | rfl
  · exact ⟨.inl h0.1, sm60 (h a (by simp [pcN]))⟩
  · exact ⟨.inr rfl, sm60 (h b (by simp [pcN]))⟩
  · exact ⟨.inr rfl, sm60 (h e (by simp [pcN]))⟩
  · exact ⟨.inl h0.2, sm60 (h d (by simp [pcN]))⟩
theorem sg_r {c : Int × Int × Int} (h : ∀ i ∈ rsN c, SmN i) (h0 : ∀ i ∈ rsN c, 0 ≤ i) : SgOk (rsN c) [false, false, false] := by
  obtain ⟨a, b, e⟩ := c
  refine ⟨rfl, fun p hp => ?_⟩
  have hp : p ∈ [(a, false), (b, false), (e, false)] := hp
  simp only [List.mem_cons, List.not_mem_nil, or_false] at hp
  rcases hp with rfl | rfl | rfl
  · exact ⟨.inl (h0 a (by simp [rsN])), sm60 (h a (by simp [rsN]))⟩
  · exact ⟨.inl (h0 b (by simp [rsN])), sm60 (h b (by simp [rsN]))⟩
  · exact ⟨.inl (h0 e (by simp [rsN])), sm60 (h e (by simp [rsN]))⟩
theorem tl_piece : tl ("piece" : Str) = [112, 105, 101, 99, 101] := rfl
theorem tl_reason : tl ("reason" : Str) = [114, 101, 97, 115, 111, 110] := rfl
theorem tl_cutting : tl ("cutting" : Str) = [99, 117, 116, 116, 105, 110, 103] := rfl
theorem piece_of_eq (c : Pc4) : S_piece_of [.lst ((pcN c).map D.int)] = some (encC c) := by
  obtain ⟨a, b, e, d⟩ := c
  refine run_Weq ?_
  unfold B_piece_of
  refine wq_unp (d := .lst ((pcN (a, b, e, d)).map D.int)) (ev_V rfl) (Γ1 := [.sh (.lst ((pcN (a, b, e, d)).map D.int)), .sh (.int a), .sh (.int b), .sh (.int e), .sh (.int d)]) rfl ?_
  exact W_ret (ev_tu (ev_cs (ev_V rfl) (ev_cs (ev_tu (ev_cs (ev_V rfl) (ev_cs (ev_V rfl) (ev_cs (ev_V rfl) ev_nl)))) ev_nl))) rfl
theorem cmk_eq (xs ys : List D) : S_Cutting___init__ (.ob 0 []) [.lst xs, .lst ys] = some (.non, .ob 0 [.sh (.lst xs), .sh (.lst ys)]) := by
  unfold S_Cutting___init__ runM B_Cutting___init__
  rfl
theorem ev_ct {Γ : DEnv} {fs : Ag} {xs ys : List D} (h : fs Γ = some [.lst xs, .lst ys]) : nD (gMk 0 S_Cutting___init__ fs) Γ = some (.obj 0 [.lst xs, .lst ys]) := by
  unfold nD gMk
  rw [h]
  simp only [Option.bind_some, cmk_eq]
  rfl
/-! the law's numbers -/
theorem sm_le {i : Int} (h : -(10 ^ 18) ≤ i ∧ i ≤ 10 ^ 18) : SmN i := by
  have h1 : i.natAbs < 10 ^ 19 := by omega
  exact Nat.lt_of_lt_of_le h1 (Nat.pow_le_pow_right (by omega) (by omega))
theorem number_eq {x : Int} (h0 : 0 ≤ x) (h1 : x < 1600) : ∃ m : Int, S__law_number [.int x] = some (.int m) ∧ -(10 ^ 18) ≤ m ∧ m ≤ 10 ^ 18 := by
  have r0 : 0 ≤ x / 8 := Int.ediv_nonneg h0 (by omega)
  have r1 : x / 8 < 200 := by omega
  have z0 := Int.emod_nonneg x (show (8 : Int) ≠ 0 by omega)
  have z1 := Int.emod_lt_of_pos x (show (0 : Int) < 8 by omega)
  obtain ⟨m, mm, im⟩ := ixm [0, 1, 7, 10, 0 - 1, 0 - 30, x / 8 * 10 ^ 15 + 5, 0 - x / 8 * 10 ^ 15 - 1] (x % 8) z0 (by simpa using z1)
  refine ⟨m, ?_, ?_⟩
  · refine run_Weq ?_
    unfold B__law_number
    refine wq_set (ev_U (ev_op (ev_V rfl) ev_I (d_div (by decide) (by decide +kernel))) rfl) ?_
    refine W_ret (ev_op (ev_L (ev_cs ev_I (ev_cs ev_I (ev_cs ev_I (ev_cs ev_I (ev_cs (ev_op ev_I ev_I d_sub) (ev_cs (ev_op ev_I ev_I d_sub) (ev_cs (ev_op (ev_op (ev_V rfl) (ev_op ev_I ev_I (d_pow (by decide))) (d_mul (mulOk_l (by omega) (by omega)))) ev_I d_add) (ev_cs (ev_op (ev_op ev_I (ev_op (ev_V rfl) (ev_op ev_I ev_I (d_pow (by decide))) (d_mul (mulOk_l (by omega) (by omega)))) d_sub) ev_I d_sub) ev_nl))))))))) (ev_op (ev_U (ev_B rfl) rfl) ev_I (d_mod (by decide))) ?_) rfl
    exact im
  · simp only [List.mem_cons, List.not_mem_nil, or_false] at mm
    rcases mm with rfl | rfl | rfl | rfl | rfl | rfl | rfl | rfl <;> omega
/-! the law's rules of lines, and how a cutting is read -/
theorem mkN37 {c : Nat} {S : Sl → List D → Option (D × Sl)} {fs : Ag} {Γ : DEnv} {ds : List D} {s : Sl} (h : fs Γ = some ds) (h2 : gMk c S (fun _ => some ds) [] = some s) : gMk c S fs Γ = some s := by
  unfold gMk at h2 ⊢
  rw [h]
  exact h2
theorem fr_cutting : 32 ∉ tl ("cutting" : Str) := by rw [tl_cutting]; decide
theorem fr_piece : 32 ∉ tl ("piece" : Str) := by rw [tl_piece]; decide
theorem fr_reason : 32 ∉ tl ("reason" : Str) := by rw [tl_reason]; decide
theorem as_cutting : AscS "cutting" := asc_of tl_cutting (by decide)
theorem as_piece : AscS "piece" := asc_of tl_piece (by decide)
theorem as_reason : AscS "reason" := asc_of tl_reason (by decide)
abbrev PSg : List Bool := [false, true, true, false]
abbrev RSg : List Bool := [false, false, false]
noncomputable def gd (ls : List Str) (k : Nat) : Bool := if k % 2 = 1 then (rdA ls "piece" PSg k).isSome else (rdA ls "reason" RSg k).isSome
theorem rdA_some {ls : List Str} {word : Str} {sgs : List Bool} {k : Nat} {ns : List Int} (hw : 32 ∉ tl word) : rdA ls word sgs k = some ns ↔ ls[k]? = some (lineW word ns) ∧ SgOk ns sgs := by
  unfold rdA
  cases q : ls[k]? with
  | none => simp
  | some x =>
    show rdN word sgs x = some ns ↔ _
    rw [rdN_iff hw]
    constructor
    · rintro ⟨rfl, h⟩; exact ⟨rfl, h⟩
    · rintro ⟨h1, h2⟩; exact ⟨Option.some.inj h1, h2⟩
theorem len4N {l : List Int} (h : l.length = 4) : ∃ c : Pc4, l = pcN c := by
  match l, h with
  | [a, b, c, d], _ => exact ⟨(a, b, c, d), rfl⟩
theorem len3N {l : List Int} (h : l.length = 3) : ∃ c : Int × Int × Int, l = rsN c := by
  match l, h with
  | [a, b, c], _ => exact ⟨(a, b, c), rfl⟩
theorem gd_p {ls : List Str} {k : Nat} (h : gd ls k = true) (hk : k % 2 = 1) : ∃ c : Pc4, rdA ls "piece" PSg k = some (pcN c) := by
  unfold gd at h
  rw [if_pos hk] at h
  obtain ⟨ns, e⟩ := Option.isSome_iff_exists.mp h
  obtain ⟨c, rfl⟩ := len4N ((rdA_some fr_piece).mp e).2.1
  exact ⟨c, e⟩
theorem gd_r {ls : List Str} {k : Nat} (h : gd ls k = true) (hk : k % 2 = 0) : ∃ c : Int × Int × Int, rdA ls "reason" RSg k = some (rsN c) := by
  unfold gd at h
  rw [if_neg (by omega)] at h
  obtain ⟨ns, e⟩ := Option.isSome_iff_exists.mp h
  obtain ⟨c, rfl⟩ := len3N ((rdA_some fr_reason).mp e).2.1
  exact ⟨c, e⟩
open Classical in
noncomputable def pcA (ls : List Str) (j : Nat) : Pc4 := if h : ∃ c : Pc4, rdA ls "piece" PSg (1 + 2 * j) = some (pcN c) then h.choose else (0, 0, 0, 0)
open Classical in
noncomputable def rcA (ls : List Str) (j : Nat) : Int × Int × Int := if h : ∃ c : Int × Int × Int, rdA ls "reason" RSg (2 + 2 * j) = some (rsN c) then h.choose else (0, 0, 0)
theorem pcA_eq {ls : List Str} {j : Nat} (h : gd ls (1 + 2 * j) = true) : rdA ls "piece" PSg (1 + 2 * j) = some (pcN (pcA ls j)) := by
  have e := gd_p h (by omega)
  unfold pcA
  rw [dif_pos e]
  exact e.choose_spec
theorem rcA_eq {ls : List Str} {j : Nat} (h : gd ls (2 + 2 * j) = true) : rdA ls "reason" RSg (2 + 2 * j) = some (rsN (rcA ls j)) := by
  have e := gd_r h (by omega)
  unfold rcA
  rw [dif_pos e]
  exact e.choose_spec
theorem tup_r (c : Int × Int × Int) : dTuple (.lst ((rsN c).map D.int)) = some (encL c) := rfl
section
variable {ls : List Str} {text : Str}
/-- the state of the loop: so many reasons are read -/
noncomputable def rdΓ (ls : List Str) (text : Str) (t : Nat) : DEnv := [.sh (.str text), papS ls (2 + 2 * t), .ow (((List.range (t + 1)).map (pcA ls)).map encC), .ow (((List.range t).map (rcA ls)).map encL)]
theorem rd_reason (L : LsOk ls) {t : Nat} (hk : 2 + 2 * t < ls.length) (X : List D) : mU dTuple (gCMR 1 [] 22 S_Paper_numbers (aC (gC (.str "reason")) (aC (gC (.tup [.bl false, .bl false, .bl false])) aN))) [.sh (.str text), papS ls (2 + 2 * t), .ow X, .ow (((List.range t).map (rcA ls)).map encL)] =
    if gd ls (2 + 2 * t) = true then some (.inl (encL (rcA ls t), [.sh (.str text), papS ls (2 + 2 * t + 1), .ow X, .ow (((List.range t).map (rcA ls)).map encL)])) else some (.inr ((2 + 2 * t + 1 : Nat) : Int)) := by
  have hp := pap_R L (k := 2 + 2 * t) (by omega) fr_reason as_reason (sgs := RSg) (by decide)
  by_cases h : gd ls (2 + 2 * t) = true
  · rw [if_pos h]
    rw [rcA_eq h] at hp
    exact mU_eq (gCMR_eq (i := 1) rfl (ev_cs ev_C (ev_cs ev_C ev_nl)) hp) (tup_r _)
  · rw [if_neg h]
    have e : rdA ls "reason" RSg (2 + 2 * t) = none := by
      unfold gd at h
      rw [if_neg (by omega)] at h
      simpa using h
    rw [e] at hp
    exact mU_ra (gCMR_ra (i := 1) rfl (ev_cs ev_C (ev_cs ev_C ev_nl)) hp)
theorem rd_piece (L : LsOk ls) {j : Nat} (hk : 1 + 2 * j ≤ ls.length) (X Y : Sl) : mFn S_piece_of (gCMR 1 [] 22 S_Paper_numbers (aC (gC (.str "piece")) (aC (gC (.tup [.bl false, .bl true, .bl true, .bl false])) aN))) aN [.sh (.str text), papS ls (1 + 2 * j), X, Y] =
    if gd ls (1 + 2 * j) = true then some (.inl (encC (pcA ls j), [.sh (.str text), papS ls (1 + 2 * j + 1), X, Y])) else some (.inr ((1 + 2 * j + 1 : Nat) : Int)) := by
  have hp := pap_R L (k := 1 + 2 * j) hk fr_piece as_piece (sgs := PSg) (by decide)
  by_cases h : gd ls (1 + 2 * j) = true
  · rw [if_pos h]
    rw [pcA_eq h] at hp
    exact mFn_eq (gCMR_eq (i := 1) rfl (ev_cs ev_C (ev_cs ev_C ev_nl)) hp) ev_nl (piece_of_eq _)
  · rw [if_neg h]
    have e : rdA ls "piece" PSg (1 + 2 * j) = none := by
      unfold gd at h
      rw [if_pos (by omega)] at h
      simpa using h
    rw [e] at hp
    exact mFn_ra (gCMR_ra (i := 1) rfl (ev_cs ev_C (ev_cs ev_C ev_nl)) hp)
/-- the first wrong line, from 1 on: n = 0 when there is none -/
def Flt (ls : List Str) (n : Nat) : Prop := (rdA ls "cutting" [] 0 = none ∧ n = 1) ∨ (rdA ls "cutting" [] 0 ≠ none ∧ ∃ k, 1 ≤ k ∧ k < ls.length ∧ (∀ j, 1 ≤ j → j < k → gd ls j = true) ∧ gd ls k = false ∧ n = k + 1) ∨
  (rdA ls "cutting" [] 0 ≠ none ∧ (∀ j, 1 ≤ j → j < ls.length → gd ls j = true) ∧ n = if 1 < ls.length ∧ ls.length % 2 = 1 then ls.length + 1 else 0)
theorem gd_end {k : Nat} (h : ls.length ≤ k) : gd ls k = false := by
  have e : ∀ w s, rdA ls w s k = none := fun w s => by unfold rdA; rw [List.getElem?_eq_none h]; rfl
  unfold gd
  split <;> rw [e] <;> rfl
theorem cut_nil (h : rdA ls "cutting" [] 0 ≠ none) : rdA ls "cutting" [] 0 = some [] := by
  cases q : rdA ls "cutting" [] 0 with
  | none => exact absurd q h
  | some ns =>
    have := ((rdA_some fr_cutting).mp q).2.1
    rw [List.length_eq_zero_iff.mp this]
theorem read_R (L : LsOk ls) (htx : text.length < 1000000) (hsp : Txt.split text "\n" = ls) (r : D ⊕ Int)
    (h : (rdA ls "cutting" [] 0 = none ∧ r = .inr 1) ∨ (rdA ls "cutting" [] 0 ≠ none ∧ ∃ k, 1 ≤ k ∧ k ≤ ls.length ∧ (k % 2 = 0 ∨ k = 1 → k < ls.length) ∧ (∀ j, 1 ≤ j → j < k → gd ls j = true) ∧ gd ls k = false ∧ r = .inr ((k + 1 : Nat) : Int)) ∨
      (rdA ls "cutting" [] 0 ≠ none ∧ (∀ j, 1 ≤ j → j < ls.length → gd ls j = true) ∧ (ls.length = 1 ∨ ls.length % 2 = 0) ∧ r = .inl (.obj 0 [.lst (((List.range (ls.length / 2)).map (pcA ls)).map encC), .lst (((List.range (ls.length / 2 - 1)).map (rcA ls)).map encL)]))) : S_read_cutting [.str text] = some r := by
  have h0 := pap_R L (k := 0) (Nat.zero_le _) fr_cutting as_cutting (sgs := []) (by decide)
  refine run_WR ?_
  unfold B_read_cutting
  show W _ [.sh (.str text), .no, .no, .no] _
  refine wq_setN (s := papS ls 0) ?_ ?_
  · have := mk_paper htx
    rw [hsp] at this
    exact mkN37 (ev_cs (ev_V rfl) ev_nl) this
  rcases h with ⟨hc, rfl⟩ | hrest
  · rw [hc] at h0
    exact W_seq (W_mSr (gCMR_ra (i := 1) rfl (ev_cs ev_C (ev_cs (ev_tu ev_nl) ev_nl)) h0) rfl)
  have hne : rdA ls "cutting" [] 0 ≠ none := by
    rcases hrest with h | h
    · exact h.1
    · exact h.1
  have hlen : 0 < ls.length := by
    have := ((rdA_some fr_cutting).mp (cut_nil hne)).1
    exact (List.getElem?_eq_some_iff.mp this).1
  rw [cut_nil hne] at h0
  refine W_seq (W_mSt (gCMR_eq (i := 1) rfl (ev_cs ev_C (ev_cs (ev_tu ev_nl) ev_nl)) h0) ⟨_, rfl, ?_⟩)
  show W _ [.sh (.str text), papS ls 1, .no, .no] _
  refine wq_setO ev_nl ?_
  refine wq_setO ev_nl ?_
  show W _ [.sh (.str text), papS ls 1, .ow [], .ow []] _
  have few := L.few
  -- the state with all that is read before the stop
  by_cases h1 : ls.length = 1
  · -- the first line alone
    rcases hrest with ⟨_, k, hk1, hk2, hk3, _, _, _⟩ | ⟨_, hg, _, rfl⟩
    · have := hk3 (.inr (by omega))
      omega
    · have c1 : gNot (gTru (gMeth 22 S_Paper_ended (gB 1) aN)) [.sh (.str text), papS ls 1, .ow [], .ow []] = some false := (ev_not (ev_ended rfl)).trans (by rw [h1]; rfl)
      refine W_seq (W_if (b := false) c1 (fun z => by cases z) fun _ => W_nil ?_)
      refine wq_while (fun m Γ => Γ = [.sh (.str text), papS ls 1, .ow [], .ow []]) ⟨0, rfl⟩ ?_
      rintro m Γ rfl
      refine ⟨false, c1, fun _ => ?_, fun z => by cases z⟩
      refine W_frz (W_frz (W_ret (ev_ct (ev_cs (ev_V rfl) (ev_cs (ev_V rfl) ev_nl))) ?_))
      rw [h1]
      rfl
  · have c1 : gNot (gTru (gMeth 22 S_Paper_ended (gB 1) aN)) [.sh (.str text), papS ls 1, .ow [], .ow []] = some true := (ev_not (ev_ended rfl)).trans (by rw [decide_eq_false (by omega)]; rfl)
    have p1 := rd_piece (text := text) L (j := 0) (by omega) (.ow []) (.ow [])
    by_cases g1 : gd ls 1 = true
    · rw [if_pos g1] at p1
      refine W_seq (W_if (b := true) c1 (fun _ => W_appR (xs0 := []) (xs := []) p1 rfl rfl (by decide) ?_) fun z => by cases z)
      refine wq_while (fun m Γ => ∃ t, t + m = ls.length ∧ 2 + 2 * t ≤ ls.length ∧ (∀ k, (1 ≤ k ∧ gd ls k = false) → 2 + 2 * t ≤ k) ∧ Γ = rdΓ ls text t) ⟨ls.length, 0, by omega, by omega, (fun k hk => ?_), rfl⟩ ?_
      · by_cases z : k = 1
        · rw [z, g1] at hk; cases hk.2
        · omega
      rintro m Γ ⟨t, hm, ht, hgd, rfl⟩
      by_cases hend : 2 + 2 * t = ls.length
      · refine ⟨false, (ev_not (ev_ended rfl)).trans (by rw [decide_eq_true hend]; rfl), fun _ => ?_, fun z => by cases z⟩
        rcases hrest with ⟨_, k, hk1, hk2, hk3, hk4, hk5, _⟩ | ⟨_, hg, _, rfl⟩
        · have := hgd k ⟨hk1, hk5⟩
          have : k = ls.length := by omega
          have := hk3 (.inl (by omega))
          omega
        · refine W_frz (W_frz (W_ret (ev_ct (ev_cs (ev_V rfl) (ev_cs (ev_V rfl) ev_nl))) ?_))
          have e1 : ls.length / 2 = t + 1 := by omega
          rw [e1]
          rfl
      · refine ⟨true, (ev_not (ev_ended rfl)).trans (by rw [decide_eq_false hend]; rfl), (fun z => by cases z), fun _ => ?_⟩
        have rr := rd_reason (text := text) L (t := t) (by omega) (((List.range (t + 1)).map (pcA ls)).map encC)
        by_cases g2 : gd ls (2 + 2 * t) = true
        · rw [if_pos g2] at rr
          refine W_seq (W_appR rr rfl rfl (by simp; omega) ?_)
          have pp := rd_piece (text := text) L (j := t + 1) (by omega) (.ow (((List.range (t + 1)).map (pcA ls)).map encC)) (.ow (((List.range (t + 1)).map (rcA ls)).map encL))
          have es : ([.sh (.str text), papS ls (2 + 2 * t + 1), .ow (((List.range (t + 1)).map (pcA ls)).map encC), .ow (((List.range t).map (rcA ls)).map encL)] : DEnv).set 3 (.ow (((List.range t).map (rcA ls)).map encL ++ [encL (rcA ls t)])) = [.sh (.str text), papS ls (1 + 2 * (t + 1)), .ow (((List.range (t + 1)).map (pcA ls)).map encC), .ow (((List.range (t + 1)).map (rcA ls)).map encL)] := by
            rw [List.range_succ (n := t), List.map_append (f := rcA ls), List.map_append (f := encL), show 2 + 2 * t + 1 = 1 + 2 * (t + 1) by omega]
            rfl
          show W _ _ _
          rw [es]
          by_cases g3 : gd ls (1 + 2 * (t + 1)) = true
          · rw [if_pos g3] at pp
            refine W_appR pp rfl rfl (by simp; omega) ⟨m - 1, by omega, t + 1, by omega, ?_, fun k hk => ?_, ?_⟩
            · have : 1 + 2 * (t + 1) < ls.length := by
                by_cases z : 1 + 2 * (t + 1) < ls.length
                · exact z
                · rw [gd_end (by omega)] at g3; cases g3
              omega
            · have := hgd k hk
              by_cases z1 : k = 2 + 2 * t
              · rw [z1, g2] at hk; cases hk.2
              · by_cases z2 : k = 1 + 2 * (t + 1)
                · rw [z2, g3] at hk; cases hk.2
                · omega
            · show _ = rdΓ ls text (t + 1)
              unfold rdΓ
              rw [List.range_succ (n := t + 1), List.map_append (f := pcA ls), List.map_append (f := encC), show 2 + 2 * (t + 1) = 1 + 2 * (t + 1) + 1 by omega]
              rfl
          · rw [if_neg g3] at pp
            refine W_appRr pp rfl ?_
            have g3' : gd ls (1 + 2 * (t + 1)) = false := by simpa using g3
            rcases hrest with ⟨_, k, hk1, hk2, hk3, hk4, hk5, rfl⟩ | ⟨_, hg, hl2, rfl⟩
            · have a1 := hgd k ⟨hk1, hk5⟩
              have a2 : k ≠ 2 + 2 * t := fun z => by rw [z, g2] at hk5; cases hk5
              have a3 : ¬ 1 + 2 * (t + 1) < k := fun z => by rw [hk4 _ (by omega) z] at g3'; cases g3'
              have a4 : k = 1 + 2 * (t + 1) := by omega
              rw [a4]
              rfl
            · by_cases z : 1 + 2 * (t + 1) < ls.length
              · rw [hg _ (by omega) z] at g3'; cases g3'
              · omega
        · rw [if_neg g2] at rr
          refine W_seq (W_appRr rr rfl ?_)
          have g2' : gd ls (2 + 2 * t) = false := by simpa using g2
          rcases hrest with ⟨_, k, hk1, hk2, hk3, hk4, hk5, rfl⟩ | ⟨_, hg, hl2, rfl⟩
          · have a1 := hgd k ⟨hk1, hk5⟩
            have a3 : ¬ 2 + 2 * t < k := fun z => by rw [hk4 _ (by omega) z] at g2'; cases g2'
            have a4 : k = 2 + 2 * t := by omega
            rw [a4]
            rfl
          · rw [hg _ (by omega) (by omega)] at g2'; cases g2'
    · rw [if_neg g1] at p1
      have g1' : gd ls 1 = false := by simpa using g1
      refine W_seq (W_if (b := true) c1 (fun _ => W_appRr (xs0 := []) p1 rfl ?_) fun z => by cases z)
      rcases hrest with ⟨_, k, hk1, hk2, hk3, hk4, hk5, rfl⟩ | ⟨_, hg, hl2, rfl⟩
      · have a3 : ¬ 1 < k := fun z => by rw [hk4 1 (by omega) z] at g1'; cases g1'
        have a4 : k = 1 := by omega
        rw [a4]
        rfl
      · rw [hg 1 (by omega) (by omega)] at g1'; cases g1'
end
/-! the law's reading of a line -/
theorem d_lenS {w : Str} (hl : w.length < 1000000) : dLen (.str w) = some (.int w.length) := by show (if _ then _ else _) = _; rw [if_pos hl]
def dgs : List Nat := [48, 49, 50, 51, 52, 53, 54, 55, 56, 57]
theorem dgs_iff (c : Nat) : c ∈ dgs ↔ 48 ≤ c ∧ c ≤ 57 := by
  unfold dgs
  simp only [List.mem_cons, List.not_mem_nil, or_false]
  omega
theorem num_nat {w : Str} {i : Int} (h : isNum w false i) : tl w = numL i.natAbs ∧ (tl w).length ≤ 60 := by
  obtain ⟨rfl, h1, h2⟩ := h
  have h0 : 0 ≤ i := by rcases h1 with h | h; exact h; cases h
  have e := tl_W i
  rw [if_neg (by omega)] at e
  rw [e]
  exact ⟨rfl, numL_len (by omega) h2⟩
theorem d_ixS {x : Str} {k c : Nat} (hl : x.length < 1000000) (h : (tl x)[k]? = some c) : dIx (.str x) (.int (k : Nat)) = some (.str ⟨#[c]⟩) := by
  show (if _ then _ else _) = _
  rw [if_pos hl]
  have : atI x.cps.toList (k : Nat) = some c := by
    have := d_ixA (enc := fun c : Nat => D.int c) (xs := x.cps.toList) (i := (k : Nat)) h rfl
    replace this : atI (x.cps.toList.map fun c : Nat => D.int c) (k : Nat) = some (D.int c) := this
    have hk : k < x.cps.toList.length := (List.getElem?_eq_some_iff.mp h).1
    unfold atI at this ⊢
    rw [List.length_map] at this
    simp only [ixN] at this ⊢
    cases q : (if (0:Int) ≤ (k : Nat) then some ((k : Nat) : Int).toNat else none) <;> simp_all
  rw [this]
  rfl
open Classical in
theorem plain_eq {w : Str} (ha : AscS w) (hl : w.length < 1000000) : ∃ b, S__law_is_plain [.str w] = some (.bl b) ∧ (b = true ↔ ∃ i, isNum w false i) := by
  refine ⟨decide (∃ i, isNum w false i), run_Weq ?_, decide_eq_true_iff⟩
  have asce : AscS "" := fun c hc => by cases hc
  have no : (¬ ∃ i, isNum w false i) → (Res.rt (.bl false) = .rt (.bl (decide (∃ i, isNum w false i)))) := fun h => by rw [decide_eq_false h]
  unfold B__law_is_plain
  show W _ [.sh (.str w), .no] _
  refine wq_ifR (b := decide (w = "") || decide ((w.length : Int) > 60)) (ev_or (ev_T (ev_op (x := .str w) (ev_B rfl) ev_C (eq_str ha asce))) (ev_T (ev_op (x := .int w.length) (ev_U (ev_B rfl) (d_lenS hl)) ev_I rfl))) (fun z => ⟨.bl false, ev_C, ?_⟩) fun z => ?_
  · show D.bl false = _
    rw [decide_eq_false]
    rintro ⟨i, hi⟩
    obtain ⟨e1, e2⟩ := num_nat hi
    simp only [Bool.or_eq_true, decide_eq_true_eq] at z
    rcases z with z | z
    · rw [z] at e1
      exact numL_ne _ e1.symm
    · rw [len_tl] at z
      omega
  · simp only [Bool.or_eq_false_iff, decide_eq_false_iff_not] at z
    obtain ⟨z1, z2⟩ := z
    have ll : (tl w).length ≤ 60 := by rw [← len_tl]; omega
    refine wq_chk (fun k => decide ((tl w).getD k 0 ∈ dgs)) (fun Γ => ∃ s, Γ = [.sh (.str w), s]) (ds := (tl w).map fun c => D.str ⟨#[c]⟩) rfl ⟨_, rfl⟩ ?_ ?_
    · rintro k d Γ hd ⟨s, rfl⟩
      rw [List.getElem?_map] at hd
      cases q : (tl w)[k]? with
      | none => rw [q] at hd; cases hd
      | some c =>
        rw [q] at hd
        cases hd
        have gk : (tl w).getD k 0 = c := by rw [List.getD_eq_getElem?_getD, q]; rfl
        have cnd : gT (gOp dNInS (gV 1) (gC (.str "0123456789"))) [.sh (.str w), .sh (.str ⟨#[c]⟩)] = some (!decide (c ∈ dgs)) := ev_T (ev_op (x := .str ⟨#[c]⟩) (y := .str "0123456789") (ev_V rfl) ev_C rfl)
        refine ⟨[.sh (.str w), .sh (.str ⟨#[c]⟩)], rfl, fun t => ?_, fun t => ?_⟩
        · rw [gk] at t
          exact W_ifR (b := false) (cnd.trans (by rw [t]; rfl)) (fun z => by cases z) fun _ => ⟨_, rfl⟩
        · rw [gk] at t
          refine W_ifR (b := true) (cnd.trans (by rw [t]; rfl)) (fun _ => ⟨.bl false, ev_C, ?_⟩) fun z => by cases z
          show D.bl false = _
          rw [decide_eq_false]
          rintro ⟨i, hi⟩
          obtain ⟨e1, _⟩ := num_nat hi
          refine of_decide_eq_false t ((dgs_iff c).mpr (numL_digits i.natAbs c ?_))
          rw [← e1]
          exact List.mem_of_getElem? q
    · rintro hall Γ ⟨s, rfl⟩
      rw [List.length_map] at hall
      have hdd : PySem.NumText.AllDigits (tl w) := fun c hc => by
        obtain ⟨k, hk, e⟩ := List.getElem_of_mem hc
        have := List.all_eq_true.mp hall k (List.mem_range.mpr hk)
        rw [decide_eq_true_eq, List.getD_eq_getElem?_getD, List.getElem?_eq_getElem hk] at this
        exact (dgs_iff c).mp (by rw [← e]; exact this)
      obtain ⟨c, r, hr⟩ : ∃ c r, tl w = c :: r := by
        cases q : tl w with
        | nil => exact absurd (ext_tl (q.trans rfl)) z1
        | cons c r => exact ⟨c, r, rfl⟩
      have asc1 : AscS ⟨#[c]⟩ := fun x hx => by
        have : x = c := by simpa using hx
        rw [this]
        exact ha c (by rw [hr]; exact List.mem_cons_self)
      have ix0 : dIx (.str w) (.int 0) = some (.str ⟨#[c]⟩) := d_ixS (k := 0) hl (by rw [hr]; rfl)
      have c48 : (⟨#[c]⟩ : Str) = "0" ↔ c = 48 := by
        rw [str_eq_iff (l := [48]) rfl]
        constructor
        · intro h; exact (List.cons.inj h).1
        · intro h; rw [h]
      have eb : (decide (w = "0") || decide ((⟨#[c]⟩ : Str) ≠ "0")) = decide (∃ i, isNum w false i) := by
        rw [Bool.eq_iff_iff, decide_eq_true_iff]
        simp only [Bool.or_eq_true, decide_eq_true_eq]
        constructor
        · intro z
          refine of_digits hdd (by rw [hr]; simp) ll (.inl rfl) ?_
          rcases z with z | z
          · exact .inr ((str_eq_iff (l := [48]) rfl).mp z)
          · refine .inl fun r' hr' => z (c48.mpr ?_)
            rw [hr] at hr'
            exact (List.cons.inj hr').1
        · rintro ⟨i, hi⟩
          obtain ⟨e1, e2⟩ := num_nat hi
          by_cases c0 : c = 48
          · left
            rw [e1] at hr
            rw [c0] at hr
            have := numL_head hr
            rw [this] at e1
            exact (str_eq_iff (l := [48]) rfl).mpr e1
          · exact .inr fun h => c0 (c48.mp h)
      rw [← eb]
      exact W_ret (ev_bl (ev_or (ev_T (ev_op (x := .str w) (ev_B rfl) ev_C (eq_str ha asc0))) (ev_T (ev_op (x := .str ⟨#[c]⟩) (ev_op (ev_B rfl) ev_I ix0) ev_C (ne_str asc1 asc0))))) rfl
theorem cut_to1 (w : Str) : tl (cutS w none (some 1)) = (tl w).take 1 := by
  show ((tl w).drop _).take _ = _
  have e1 : HT.sIx w.length 0 none = 0 := rfl
  have e2 : HT.sIx w.length w.length (some 1) = min 1 w.length := by
    unfold HT.sIx
    simp
  rw [e1, e2, len_tl]
  simp
theorem cut_asc {w : Str} (ha : AscS w) (lo hi : Option Int) : AscS (cutS w lo hi) := fun c hc => ha c (by
  have hc : c ∈ ((tl w).drop _).take _ := hc
  exact List.mem_of_mem_drop (List.mem_of_mem_take hc))
theorem tl_minus : tl ("-" : Str) = [45] := rfl
theorem signed_eq {w : Str} (ha : AscS w) (hl : w.length < 1000000) : ∃ b, S__law_is_signed [.str w] = some (.bl b) ∧ (b = true ↔ ∃ i, isNum w true i) := by
  have ascm : AscS "-" := asc_of tl_minus (by decide)
  have ascm0 : AscS "-0" := asc_of (l := [45, 48]) rfl (by decide)
  have cond : gT (gOp dEq (gSlS (gV 0) gNo (gSo (gI 1))) (gC (.str "-"))) [.sh (.str w)] = some (decide (cutS w none (some 1) = "-")) := ev_T (ev_op (x := .str (cutS w none (some 1))) (ev_slS (ev_V rfl) ev_No (ev_So ev_I) hl) ev_C (eq_str (cut_asc ha _ _) ascm))
  by_cases c : cutS w none (some 1) = "-"
  · have ht := (str_eq_iff tl_minus).mp c
    rw [cut_to1] at ht
    obtain ⟨r, hr⟩ : ∃ r, tl w = 45 :: r := by
      cases q : tl w with
      | nil => rw [q] at ht; cases ht
      | cons d r =>
        rw [q] at ht
        have := (List.cons.inj ht).1
        exact ⟨r, by rw [this]⟩
    have cx := cut1 w hr
    have cl := cutS_length w (some 1) none
    obtain ⟨b, h1, h2⟩ := plain_eq (cut_asc ha (some 1) none) (by omega)
    refine ⟨decide (w ≠ "-0") && b, ?_, fun z => ?_, fun ⟨i, hi⟩ => ?_⟩
    · refine run_Weq ?_
      unfold B__law_is_signed
      refine wq_ifR (b := true) (cond.trans (by rw [decide_eq_true c])) (fun _ => ⟨_, ?_, rfl⟩) (fun z => by cases z)
      exact ev_bl (ev_and (ev_T (ev_op (x := .str w) (ev_B rfl) ev_C (ne_str ha ascm0))) (ev_T (ev_call (ev_cs (ev_slS (ev_V rfl) (ev_So ev_I) ev_No hl) ev_nl) h1)))
    · rw [Bool.and_eq_true, decide_eq_true_eq] at z
      obtain ⟨i, hi⟩ := h2.mp z.2
      obtain ⟨e1, _⟩ := num_nat hi
      have h0 : 0 ≤ i := by rcases hi.2.1 with h | h; exact h; cases h
      have i0 : i ≠ 0 := fun e => z.1 (by
        refine (str_eq_iff (l := [45, 48]) rfl).mpr ?_
        rw [hr, ← cx, e1, e]
        rfl)
      refine ⟨-i, ext_tl ?_, .inr rfl, by rw [Int.natAbs_neg]; exact hi.2.2⟩
      rw [tl_W, if_pos (by omega), Int.natAbs_neg, hr, ← cx, e1]
    · obtain ⟨e, _, e3⟩ := hi
      have ht2 := tl_W i
      rw [← e, hr] at ht2
      by_cases z : i < 0
      · rw [if_pos z] at ht2
        have ht2 := (List.cons.inj ht2).2
        rw [Bool.and_eq_true, decide_eq_true_eq]
        refine ⟨fun hz => ?_, h2.mpr ⟨-i, ext_tl ?_, .inl (by omega), by rw [Int.natAbs_neg]; exact e3⟩⟩
        · have := (str_eq_iff (l := [45, 48]) rfl).mp hz
          rw [hr, ht2] at this
          have := numL_head (List.cons.inj this).2
          omega
        · rw [cx, tl_W, if_neg (by omega), Int.natAbs_neg]
          exact ht2
      · rw [if_neg z] at ht2
        have := numL_digits i.natAbs 45 (by rw [← ht2]; exact List.mem_cons_self)
        omega
  · obtain ⟨b, h1, h2⟩ := plain_eq ha hl
    refine ⟨b, ?_, fun z => ?_, fun ⟨i, hi⟩ => ?_⟩
    · refine run_Weq ?_
      unfold B__law_is_signed
      refine wq_ifR (b := false) (cond.trans (by rw [decide_eq_false c])) (fun z => by cases z) (fun _ => ?_)
      exact W_ret (ev_call (ev_cs (ev_V rfl) ev_nl) h1) rfl
    · obtain ⟨i, e1, e2, e3⟩ := h2.mp z
      exact ⟨i, e1, .inr rfl, e3⟩
    · obtain ⟨e, _, e3⟩ := hi
      refine h2.mpr ⟨i, e, .inl (Int.not_lt.mp fun z => c ?_), e3⟩
      refine (str_eq_iff tl_minus).mpr ?_
      rw [cut_to1, e, tl_W, if_pos z]
      rfl
/-! the law's rule of a line's form -/
theorem nums_ns : ∀ {rest : List Str} {sgs : List Bool}, rest.length = sgs.length → (∀ (k : Nat) (x : Str) (sg : Bool), rest[k]? = some x → sgs[k]? = some sg → ∃ i, isNum x sg i) → ∃ ns, rest = ns.map tW ∧ SgOk ns sgs
  | [], [], _, _ => ⟨[], rfl, rfl, fun p hp => by simp at hp⟩
  | x :: rest, sg :: sgs, hl, h => by
    obtain ⟨ns, e, h1, h2⟩ := nums_ns (rest := rest) (sgs := sgs) (by simpa using hl) fun k y s hy hs => h (k + 1) y s hy hs
    obtain ⟨i, e1, e2, e3⟩ := h 0 x sg rfl rfl
    refine ⟨i :: ns, by rw [e, e1]; rfl, by simp [h1], fun p hp => ?_⟩
    rw [List.zip_cons_cons] at hp
    rcases List.mem_cons.mp hp with rfl | hp
    · exact ⟨e2, e3⟩
    · exact h2 p hp
theorem ns_nums : ∀ {ns : List Int} {sgs : List Bool}, SgOk ns sgs → ∀ (k : Nat) (x : Str) (sg : Bool), (ns.map tW)[k]? = some x → sgs[k]? = some sg → ∃ i, isNum x sg i := by
  intro ns sgs h k x sg hx hs
  rw [List.getElem?_map] at hx
  cases q : ns[k]? with
  | none => rw [q] at hx; cases hx
  | some i =>
    rw [q] at hx
    cases hx
    have : (i, sg) ∈ ns.zip sgs := List.mem_of_getElem? (i := k) (by rw [List.getElem?_zip_eq_some]; exact ⟨q, hs⟩)
    have := h.2 _ this
    exact ⟨i, rfl, this.1, this.2⟩
theorem split_sp (line : Str) : Txt.join " " (Txt.split line " ") = line ∧ Txt.split line " " ≠ [] ∧ (AscS line → ∀ p ∈ Txt.split line " ", AscS p) ∧ ∀ p ∈ Txt.split line " ", ∀ c ∈ tl p, c ∈ tl line := split_back (s := 32) rfl (by decide +kernel)
theorem form_iff {line word w0 : Str} {rest : List Str} {sgs : List Bool} (hw : 32 ∉ tl word) (hs : Txt.split line " " = w0 :: rest) : (rdN word sgs line).isSome = true ↔ w0 = word ∧ rest.length = sgs.length ∧ ∀ (k : Nat) (x : Str) (sg : Bool), rest[k]? = some x → sgs[k]? = some sg → ∃ i, isNum x sg i := by
  rw [Option.isSome_iff_exists]
  constructor
  · rintro ⟨ns, h⟩
    obtain ⟨rfl, h2⟩ := (rdN_iff hw).mp h
    rw [lineW_split hw] at hs
    obtain ⟨e1, e2⟩ := List.cons.inj hs
    refine ⟨e1.symm, ?_, ?_⟩
    · rw [← e2, List.length_map]; exact h2.1
    · rw [← e2]; exact ns_nums h2
  · rintro ⟨rfl, h1, h2⟩
    obtain ⟨ns, e, h3⟩ := nums_ns h1 h2
    refine ⟨ns, (rdN_iff hw).mpr ⟨?_, h3⟩⟩
    have := (split_sp line).1
    rw [hs, e] at this
    exact this.symm
/-- "+" for a plain number, "-" for one that may be negative -/
def sgC (b : Bool) : Nat := if b then 45 else 43
theorem has_form_eq {line word signs : Str} {sgs : List Bool} (ha : AscS line) (hl : line.length < 900000) (hw : 32 ∉ tl word) (haw : AscS word) (hsg : tl signs = sgs.map sgC) (hn : sgs.length < 1000) : S__law_has_form [.str line, .str word, .str signs] = some (.bl (rdN word sgs line).isSome) := by
  obtain ⟨sj, sne, sasc, smem⟩ := split_sp line
  obtain ⟨w0, rest, hs⟩ : ∃ w0 rest, Txt.split line " " = w0 :: rest := by
    cases q : Txt.split line " " with
    | nil => exact absurd q sne
    | cons a b => exact ⟨a, b, rfl⟩
  rw [hs] at sasc
  have sasc := sasc ha
  have lens : ∀ p ∈ w0 :: rest, p.length < 1000000 := fun p hp => Nat.lt_of_le_of_lt (part_len (s := 32) (x := line) (y := " ") rfl (by decide +kernel) (by rw [hs]; exact hp)) (by omega)
  have iff := form_iff (sgs := sgs) hw hs
  have sgl : signs.length = sgs.length := by rw [len_tl, hsg, List.length_map]
  have no : ¬ (rdN word sgs line).isSome = true → D.bl false = D.bl (rdN word sgs line).isSome := fun h => by
    congr 1
    exact (Bool.not_eq_true _ ▸ h : (rdN word sgs line).isSome = false).symm
  refine run_Weq ?_
  unfold B__law_has_form
  show W _ [.sh (.str line), .sh (.str word), .sh (.str signs), .no, .no] _
  have sp : gL (gSplit (gV 0) (gC (.str " "))) [.sh (.str line), .sh (.str word), .sh (.str signs), .no, .no] = some (.lst ((w0 :: rest).map D.str)) := by
    rw [← hs]
    exact ev_L (ev_split (ev_V rfl) ev_C rfl (by omega))
  refine wq_set sp ?_
  show W _ [.sh (.str line), .sh (.str word), .sh (.str signs), .sh (.lst ((w0 :: rest).map D.str)), .no] _
  have lgt : dLen (.lst ((w0 :: rest).map D.str)) = some (.int ((rest.length + 1 : Nat) : Int)) := by rw [d_lenL, List.length_map]; rfl
  have c2 : dNe (.int ((rest.length + 1 : Nat) : Int)) (.int ((sgs.length + 1 : Nat) : Int)) = some (.bl (!(decide (rest.length = sgs.length)))) := by
    rw [d_ne eqOk_int eqOk_int eqd_int]
    congr 3
    rw [Bool.eq_iff_iff, beq_iff_eq, decide_eq_true_eq]
    omega
  refine wq_ifR (b := decide (w0 ≠ word) || !(decide (rest.length = sgs.length))) (ev_or (ev_T (ev_op (x := .str w0) (y := .str word) (ev_op (x := .lst ((w0 :: rest).map D.str)) (ev_B rfl) ev_I (d_ixA (k := 0) rfl rfl)) (ev_B rfl) (ne_str (sasc w0 List.mem_cons_self) haw))) (ev_T (ev_op (ev_U (x := .lst ((w0 :: rest).map D.str)) (ev_B rfl) lgt) (ev_op (x := .int (sgs.length : Nat)) (ev_U (x := .str signs) (ev_B rfl) (by rw [← sgl]; exact d_lenS (by omega))) ev_I (by show some (D.int _) = _; congr 2)) c2))) (fun z => ⟨.bl false, ev_C, ?_⟩) fun z => ?_
  · refine no fun h => ?_
    obtain ⟨e1, e2, _⟩ := iff.mp h
    rw [decide_eq_false (fun n => n e1), e2, decide_eq_true rfl] at z
    cases z
  · simp only [Bool.or_eq_false_iff, decide_eq_false_iff_not, Bool.not_eq_false', decide_eq_true_eq, Classical.not_not] at z
    obtain ⟨rfl, rl⟩ := z
    refine wq_rng (lo := 0) (n := sgs.length) (fun k Γ => (∃ s4, Γ = [.sh (.str line), .sh (.str w0), .sh (.str signs), .sh (.lst ((w0 :: rest).map D.str)), s4]) ∧ ∀ (j : Nat) (x : Str) (sg : Bool), j < k → rest[j]? = some x → sgs[j]? = some sg → ∃ i, isNum x sg i) ((ev_rng1 (m := (sgs.length : Nat)) (ev_cs (ev_U (x := .str signs) (ev_B rfl) (by rw [← sgl]; exact d_lenS (by omega))) ev_nl) (by omega) (by omega)).trans (by rw [Int.toNat_natCast])) ⟨⟨_, rfl⟩, fun j x sg h => by omega⟩ ?_ ?_
    · rintro k Γ hk ⟨⟨s4, rfl⟩, hj⟩
      have ek : (0 + (k : Nat) : Int) = (k : Nat) := by omega
      rw [ek]
      refine ⟨[.sh (.str line), .sh (.str w0), .sh (.str signs), .sh (.lst ((w0 :: rest).map D.str)), .sh (.int (k : Nat))], rfl, ?_⟩
      obtain ⟨x, hx⟩ : ∃ x, rest[k]? = some x := ⟨_, List.getElem?_eq_getElem (by omega)⟩
      obtain ⟨sg, hsk⟩ : ∃ sg, sgs[k]? = some sg := ⟨_, List.getElem?_eq_getElem hk⟩
      have hm : x ∈ w0 :: rest := List.mem_cons_of_mem _ (List.mem_of_getElem? hx)
      have gx : ∀ {Γ : DEnv}, Γ[3]? = some (.sh (.lst ((w0 :: rest).map D.str))) → Γ[4]? = some (.sh (.int (k : Nat))) → gIx (gB 3) (gOp dAdd (gV 4) (gI 1)) Γ = some (.str x) := fun h3 h4 => ev_op (x := .lst ((w0 :: rest).map D.str)) (y := .int ((k + 1 : Nat) : Int)) (ev_B h3) (ev_op (x := .int (k : Nat)) (ev_V h4) ev_I (by show some (D.int _) = _; congr 2)) (d_ixA (k := k + 1) hx rfl)
      have gs : ∀ {Γ : DEnv}, Γ[2]? = some (.sh (.str signs)) → Γ[4]? = some (.sh (.int (k : Nat))) → gIx (gB 2) (gV 4) Γ = some (.str ⟨#[sgC sg]⟩) := fun h2 h4 => ev_op (x := .str signs) (y := .int (k : Nat)) (ev_B h2) (ev_V h4) (d_ixS (by omega) (by rw [hsg, List.getElem?_map, hsk]; rfl))
      have ascg : AscS ⟨#[sgC sg]⟩ := fun c hc => by
        have : c = sgC sg := by simpa using hc
        rw [this]
        unfold sgC
        split <;> decide
      have ascp : AscS "+" := asc_of (l := [43]) rfl (by decide)
      have ascm : AscS "-" := asc_of tl_minus (by decide)
      have isP : ((⟨#[sgC sg]⟩ : Str) = "+") ↔ sg = false := by
        rw [str_eq_iff (l := [43]) rfl]
        show [sgC sg] = [43] ↔ _
        cases sg <;> simp [sgC]
      have isM : ((⟨#[sgC sg]⟩ : Str) = "-") ↔ sg = true := by
        rw [str_eq_iff (l := [45]) rfl]
        show [sgC sg] = [45] ↔ _
        cases sg <;> simp [sgC]
      have fin : (∃ i, isNum x sg i) → ∀ (j : Nat) (y : Str) (s : Bool), j < k + 1 → rest[j]? = some y → sgs[j]? = some s → ∃ i, isNum y s i := fun h j y s hjk hy hs' => by
        by_cases e : j = k
        · subst e
          rw [hx] at hy
          rw [hsk] at hs'
          cases hy; cases hs'
          exact h
        · exact hj j y s (by omega) hy hs'
      have bad : (¬ ∃ i, isNum x sg i) → D.bl false = D.bl (rdN w0 sgs line).isSome := fun h => no fun h' => h ((iff.mp h').2.2 k x sg hx hsk)
      cases sg with
      | false =>
        obtain ⟨b, hb1, hb2⟩ := plain_eq (sasc x hm) (lens x hm)
        have cnd : gAnd (gT (gOp dEq (gIx (gB 2) (gV 4)) (gC (.str "+")))) (gNot (gTru (gCall S__law_is_plain (aC (gIx (gB 3) (gOp dAdd (gV 4) (gI 1))) aN)))) [.sh (.str line), .sh (.str w0), .sh (.str signs), .sh (.lst ((w0 :: rest).map D.str)), .sh (.int (k : Nat))] = some (true && !b) :=
          ev_and (ev_T (ev_op (gs rfl rfl) ev_C ((eq_str ascg ascp).trans (by rw [decide_eq_true (isP.mpr rfl)])))) (ev_not (ev_Tru (ev_call (ev_cs (gx rfl rfl) ev_nl) hb1) rfl))
        refine wq_ifR (b := !b) cnd (fun z => ⟨.bl false, ev_C, bad fun h => ?_⟩) fun z => ?_
        · rw [hb2.mpr h] at z; cases z
        · refine W_if (b := false) (ev_andF (ev_T (ev_op (gs rfl rfl) ev_C ((eq_str ascg ascm).trans (by rw [decide_eq_false (fun h => by cases isM.mp h)]))))) (fun z => by cases z) fun _ => W_nil ⟨⟨_, rfl⟩, fin (hb2.mp (by cases b <;> first | rfl | cases z))⟩
      | true =>
        obtain ⟨b, hb1, hb2⟩ := signed_eq (sasc x hm) (lens x hm)
        refine wq_ifR (b := false) (ev_andF (ev_T (ev_op (gs rfl rfl) ev_C ((eq_str ascg ascp).trans (by rw [decide_eq_false (fun h => by cases isP.mp h)]))))) (fun z => by cases z) fun _ => ?_
        have cnd : gAnd (gT (gOp dEq (gIx (gB 2) (gV 4)) (gC (.str "-")))) (gNot (gTru (gCall S__law_is_signed (aC (gIx (gB 3) (gOp dAdd (gV 4) (gI 1))) aN)))) [.sh (.str line), .sh (.str w0), .sh (.str signs), .sh (.lst ((w0 :: rest).map D.str)), .sh (.int (k : Nat))] = some (true && !b) :=
          ev_and (ev_T (ev_op (gs rfl rfl) ev_C ((eq_str ascg ascm).trans (by rw [decide_eq_true (isM.mpr rfl)])))) (ev_not (ev_Tru (ev_call (ev_cs (gx rfl rfl) ev_nl) hb1) rfl))
        refine W_ifR (b := !b) cnd (fun z => ⟨.bl false, ev_C, bad fun h => ?_⟩) fun z => ⟨⟨_, rfl⟩, fin (hb2.mp (by cases b <;> first | rfl | cases z))⟩
        rw [hb2.mpr h] at z; cases z
    · rintro Γ ⟨⟨s4, rfl⟩, hj⟩
      refine W_ret (d := .bl true) ev_C ?_
      show D.bl true = _
      congr 1
      exact (iff.mpr ⟨rfl, rl, fun k x sg hx hs => hj k x sg (List.getElem?_eq_some_iff.mp hs).1 hx hs⟩).symm
theorem has_p {line : Str} (ha : AscS line) (hl : line.length < 900000) : S__law_has_form [.str line, .str "piece", .str "+--+"] = some (.bl (rdN "piece" PSg line).isSome) := has_form_eq ha hl fr_piece as_piece rfl (by decide)
theorem has_r {line : Str} (ha : AscS line) (hl : line.length < 900000) : S__law_has_form [.str line, .str "reason", .str "+++"] = some (.bl (rdN "reason" RSg line).isSome) := has_form_eq ha hl fr_reason as_reason rfl (by decide)
/-! the law's first wrong line -/
theorem cut_first {x : Str} : (rdN "cutting" [] x).isSome = decide (x = "cutting") := by
  rw [Bool.eq_iff_iff, decide_eq_true_iff, Option.isSome_iff_exists]
  constructor
  · rintro ⟨ns, h⟩
    obtain ⟨e, h2⟩ := (rdN_iff fr_cutting).mp h
    have : ns = [] := List.length_eq_zero_iff.mp h2.1
    rw [e, this, ← cutting_line]
  · intro e
    exact ⟨[], (rdN_iff fr_cutting).mpr ⟨by rw [e, ← cutting_line], sg_nil⟩⟩
theorem fault_eq {ls : List Str} (ha : ∀ x ∈ ls, AscS x) (hl : ∀ x ∈ ls, x.length < 900000) (hne : ls ≠ []) (hn : ls.length < 900000) : ∃ n : Nat, S__law_fault [.lst (ls.map D.str)] = some (.int (n : Nat)) ∧ Flt ls n := by
  obtain ⟨x0, h0⟩ : ∃ x0, ls[0]? = some x0 := ⟨_, List.getElem?_eq_getElem (List.length_pos_iff.mpr hne)⟩
  have m0 := List.mem_of_getElem? h0
  have lpos := List.length_pos_iff.mpr hne
  have lgt : dLen (.lst (ls.map D.str)) = some (.int (ls.length : Nat)) := by rw [d_lenL, List.length_map]
  have r0 : (rdA ls "cutting" [] 0).isSome = decide (x0 = "cutting") := by
    unfold rdA
    rw [h0]
    exact cut_first
  have key : ∃ d, S__law_fault [.lst (ls.map D.str)] = some d ∧ ∃ n : Nat, d = .int (n : Nat) ∧ Flt ls n := by
    refine run_W ?_
    unfold B__law_fault
    show W _ [.sh (.lst (ls.map D.str)), .no] _
    refine wq_ifR (b := decide (x0 ≠ "cutting")) (ev_T (ev_op (x := .str x0) (ev_op (x := .lst (ls.map D.str)) (ev_B rfl) ev_I (d_ixA (k := 0) h0 rfl)) ev_C (ne_str (ha _ m0) as_cutting))) (fun z => ⟨.int 1, ev_I, 1, rfl, .inl ⟨?_, rfl⟩⟩) fun z => ?_
    · rw [decide_eq_false (of_decide_eq_true z)] at r0
      simpa using r0
    have zc : x0 = "cutting" := Classical.not_not.mp (of_decide_eq_false z)
    have rc : rdA ls "cutting" [] 0 ≠ none := by
      rw [decide_eq_true zc] at r0
      intro e
      rw [e] at r0
      cases r0
    refine wq_rng (lo := 1) (n := ls.length - 1) (fun k Γ => (∃ s1, Γ = [.sh (.lst (ls.map D.str)), s1]) ∧ ∀ j, 1 ≤ j → j < 1 + k → gd ls j = true) ((ev_rng2 (m := 1) (j := (ls.length : Nat)) (ev_cs ev_I (ev_cs (ev_U (x := .lst (ls.map D.str)) (ev_B rfl) lgt) ev_nl)) (by omega) (by omega) (by omega) (by omega)).trans (by congr 2; omega)) ⟨⟨_, rfl⟩, fun j h1 h2 => by omega⟩ ?_ ?_
    · rintro k Γ hk ⟨⟨s1, rfl⟩, hj⟩
      have ek : (1 + (k : Nat) : Int) = ((1 + k : Nat) : Int) := by omega
      rw [ek]
      refine ⟨[.sh (.lst (ls.map D.str)), .sh (.int ((1 + k : Nat) : Int))], rfl, ?_⟩
      generalize hi : 1 + k = i at *
      obtain ⟨x, hx⟩ : ∃ x, ls[i]? = some x := ⟨_, List.getElem?_eq_getElem (by omega)⟩
      have hm := List.mem_of_getElem? hx
      have gx : gIx (gB 0) (gV 1) [.sh (.lst (ls.map D.str)), .sh (.int (i : Nat))] = some (.str x) := ev_op (x := .lst (ls.map D.str)) (y := .int (i : Nat)) (ev_B rfl) (ev_V rfl) (d_ixA hx rfl)
      have md : ∀ r : Nat, r < 2 → gT (gOp dEq (gOp dMod (gU dInt (gB 1)) (gI 2)) (gI r)) [.sh (.lst (ls.map D.str)), .sh (.int (i : Nat))] = some (decide (i % 2 = r)) := fun r hr => by
        refine ev_T (ev_op (x := .int ((i : Int) % 2)) (ev_op (x := .int (i : Nat)) (ev_U (ev_B rfl) rfl) ev_I (d_mod (by decide))) ev_I ?_)
        rw [d_eq eqOk_int eqOk_int eqd_int]
        congr 2
        rw [Bool.eq_iff_iff, beq_iff_eq, decide_eq_true_eq]
        omega
      have gP : i % 2 = 1 → gd ls i = (rdN "piece" PSg x).isSome := fun h => by
        unfold gd rdA
        rw [if_pos h, hx]
        rfl
      have gR : i % 2 = 0 → gd ls i = (rdN "reason" RSg x).isSome := fun h => by
        unfold gd rdA
        rw [if_neg (by omega), hx]
        rfl
      have fin : gd ls i = true → ∀ j, 1 ≤ j → j < 1 + (k + 1) → gd ls j = true := fun h j h1 h2 => by
        by_cases e : j = i
        · rw [e]; exact h
        · exact hj j h1 (by omega)
      have bad : gd ls i = false → ∃ n : Nat, D.int ((i : Int) + 1) = .int (n : Nat) ∧ Flt ls n := fun h => ⟨i + 1, rfl, .inr (.inl ⟨rc, i, by omega, by omega, fun j h1 h2 => hj j h1 h2, h, rfl⟩)⟩
      have ret : ∀ {Γ : DEnv}, Γ[1]? = some (.sh (.int (i : Nat))) → gOp dAdd (gV 1) (gI 1) Γ = some (.int ((i : Int) + 1)) := fun h => ev_op (x := .int (i : Nat)) (ev_V h) ev_I rfl
      rcases Nat.mod_two_eq_zero_or_one i with e | e
      · refine wq_ifR (b := false) (ev_andF ((md 1 (by omega)).trans (by rw [e]; rfl))) (fun z => by cases z) fun _ => ?_
        have cnd : gAnd (gT (gOp dEq (gOp dMod (gU dInt (gB 1)) (gI 2)) (gI 0))) (gNot (gTru (gCall S__law_has_form (aC (gIx (gB 0) (gV 1)) (aC (gC (.str "reason")) (aC (gC (.str "+++")) aN)))))) [.sh (.lst (ls.map D.str)), .sh (.int (i : Nat))] = some (true && !gd ls i) :=
          ev_and ((md 0 (by omega)).trans (by rw [e]; rfl)) (ev_not (ev_Tru (x := .bl (gd ls i)) (ev_call (ev_cs gx (ev_cs ev_C (ev_cs ev_C ev_nl))) (by rw [gR e]; exact has_r (ha x hm) (hl x hm))) rfl))
        refine W_ifR (b := !gd ls i) cnd (fun z => ⟨_, ret rfl, bad (by simpa using z)⟩) fun z => ⟨⟨_, rfl⟩, fin (by simpa using z)⟩
      · have cnd : gAnd (gT (gOp dEq (gOp dMod (gU dInt (gB 1)) (gI 2)) (gI 1))) (gNot (gTru (gCall S__law_has_form (aC (gIx (gB 0) (gV 1)) (aC (gC (.str "piece")) (aC (gC (.str "+--+")) aN)))))) [.sh (.lst (ls.map D.str)), .sh (.int (i : Nat))] = some (true && !gd ls i) :=
          ev_and ((md 1 (by omega)).trans (by rw [e]; rfl)) (ev_not (ev_Tru (x := .bl (gd ls i)) (ev_call (ev_cs gx (ev_cs ev_C (ev_cs ev_C ev_nl))) (by rw [gP e]; exact has_p (ha x hm) (hl x hm))) rfl))
        refine wq_ifR (b := !gd ls i) cnd (fun z => ⟨_, ret rfl, bad (by simpa using z)⟩) fun z => ?_
        exact W_ifR (b := false) (ev_andF ((md 0 (by omega)).trans (by rw [e]; rfl))) (fun z => by cases z) fun _ => ⟨⟨_, rfl⟩, fin (by simpa using z)⟩
    · rintro Γ ⟨⟨s1, rfl⟩, hj⟩
      have all : ∀ j, 1 ≤ j → j < ls.length → gd ls j = true := fun j h1 h2 => hj j h1 (by omega)
      have cnd : gAnd (gT (gOp dGt (gU dLen (gB 0)) (gI 1))) (gT (gOp dEq (gOp dMod (gU dInt (gU dLen (gB 0))) (gI 2)) (gI 1))) [.sh (.lst (ls.map D.str)), s1] = some (decide (1 < ls.length) && decide (ls.length % 2 = 1)) := by
        refine ev_and (ev_T (ev_op (x := .int (ls.length : Nat)) (ev_U (x := .lst (ls.map D.str)) (ev_B rfl) lgt) ev_I ?_)) (ev_T (ev_op (x := .int ((ls.length : Int) % 2)) (ev_op (x := .int (ls.length : Nat)) (ev_U (x := .int (ls.length : Nat)) (ev_U (x := .lst (ls.map D.str)) (ev_B rfl) lgt) rfl) ev_I (d_mod (by decide))) ev_I ?_))
        · show some (D.bl (decide ((ls.length : Int) > 1))) = _
          congr 2
          exact decide_eq_decide.mpr (by omega)
        · rw [d_eq eqOk_int eqOk_int eqd_int]
          congr 2
          rw [Bool.eq_iff_iff, beq_iff_eq, decide_eq_true_eq]
          omega
      refine wq_ifR cnd (fun z => ⟨.int ((ls.length : Int) + 1), ev_op (x := .int (ls.length : Nat)) (ev_U (x := .lst (ls.map D.str)) (ev_B rfl) lgt) ev_I rfl, ls.length + 1, rfl, .inr (.inr ⟨rc, all, ?_⟩)⟩) fun z => W_ret ev_I ⟨0, rfl, .inr (.inr ⟨rc, all, ?_⟩)⟩
      · rw [Bool.and_eq_true, decide_eq_true_eq, decide_eq_true_eq] at z
        rw [if_pos z]
      · rw [Bool.and_eq_false_iff, decide_eq_false_iff_not, decide_eq_false_iff_not] at z
        rw [if_neg (fun h => by rcases z with z | z; exact z h.1; exact z h.2)]
  obtain ⟨_, h1, n, rfl, h2⟩ := key
  exact ⟨n, h1, h2⟩
/-! what reading and writing again tells -/
theorem W_tryE_ok {N i : Nat} {F : Sm} {g : Addr → Addr → Sm} {Γ : DEnv} {P : Res → Prop} (h : W F Γ (fun r => (∀ n, r ≠ .ra n) ∧ P r)) : W (sTryE N i F g) Γ P := by
  obtain ⟨r, h1, h2, h3⟩ := h
  refine ⟨r, ?_, h3⟩
  unfold sTryE
  rw [h1]
  cases r with
  | ra n => exact absurd rfl (h2 n)
  | _ => rfl
theorem W_tryE_ra {N i : Nat} {F : Sm} {g : Addr → Addr → Sm} {Γ : DEnv} {m : Int} {P : Res → Prop} (h : F Γ = some (.ra m)) (h2 : W (g 0 0) ((List.replicate N .no).set i (.sh (.exc 0 0 m))) (fun r => ∃ Γ', r = .nx Γ' ∧ P (.nx (Γ'.set i .no)))) : W (sTryE N i F g) Γ P := by
  obtain ⟨_, h1, Γ', rfl, h3⟩ := h2
  refine ⟨_, ?_, h3⟩
  unfold sTryE
  rw [h]
  show ((g 0 0 ((List.replicate N .no).set i (.sh (.exc 0 0 m)))).bind _) = _
  rw [h1]
  rfl
theorem mSt_ra {m : Mr} {k : D → DEnv → Option Res} {Γ : DEnv} {n : Int} (h : m Γ = some (.inr n)) : mSt m k Γ = some (.ra n) := by unfold mSt; rw [h]; rfl
theorem sq_ra {F F' : Sm} {Γ : DEnv} {n : Int} (h : F Γ = some (.ra n)) : sSeq F F' Γ = some (.ra n) := by unfold sSeq; rw [h]; rfl
theorem gCallR_eq {S : List D → Option (D ⊕ Int)} {fs : Ag} {Γ : DEnv} {ds : List D} {d : D} (h : fs Γ = some ds) (h2 : S ds = some (.inl d)) : gCallR S fs Γ = some (.inl (d, Γ)) := by
  unfold gCallR
  rw [h]
  show ((S ds).bind _) = _
  rw [h2]
  rfl
theorem gCallR_ra {S : List D → Option (D ⊕ Int)} {fs : Ag} {Γ : DEnv} {ds : List D} {n : Int} (h : fs Γ = some ds) (h2 : S ds = some (.inr n)) : gCallR S fs Γ = some (.inr n) := by
  unfold gCallR
  rw [h]
  show ((S ds).bind _) = _
  rw [h2]
  rfl
theorem lin_back {ls : List Str} (hc : rdA ls "cutting" [] 0 ≠ none) (hg : ∀ j, 1 ≤ j → j < ls.length → gd ls j = true) (hl : ls.length = 1 ∨ ls.length % 2 = 0) (hn : ls.length ≤ 20) :
    CtOk ((List.range (ls.length / 2)).map (pcA ls)) ((List.range (ls.length / 2 - 1)).map (rcA ls)) ∧ linK ((List.range (ls.length / 2)).map (pcA ls)) ((List.range (ls.length / 2 - 1)).map (rcA ls)) ((List.range (ls.length / 2)).map (pcA ls)).length = ls := by
  have h0 : ls[0]? = some ("cutting" : Str) := by
    have := ((rdA_some fr_cutting).mp (cut_nil hc)).1
    rw [this, ← cutting_line]
  have lpos : 0 < ls.length := (List.getElem?_eq_some_iff.mp h0).1
  have fp : ∀ j, j < ls.length / 2 → ls[1 + 2 * j]? = some (pL (pcA ls j)) ∧ SgOk (pcN (pcA ls j)) PSg := fun j hj => (rdA_some fr_piece).mp (pcA_eq (hg _ (by omega) (by omega)))
  have fr : ∀ j, j < ls.length / 2 - 1 → ls[2 + 2 * j]? = some (rL (rcA ls j)) ∧ SgOk (rsN (rcA ls j)) RSg := fun j hj => (rdA_some fr_reason).mp (rcA_eq (hg _ (by omega) (by omega)))
  have C : CtOk ((List.range (ls.length / 2)).map (pcA ls)) ((List.range (ls.length / 2 - 1)).map (rcA ls)) := by
    refine ⟨fun c hc i hi => ?_, fun c hc i hi => ?_, fun c hc => ?_, fun c hc i hi => ?_, by simp; omega, by simp⟩
    · obtain ⟨j, hj, rfl⟩ := List.mem_map.mp hc
      obtain ⟨_, s1, s2⟩ := fp j (List.mem_range.mp hj)
      obtain ⟨k, hk, rfl⟩ := List.getElem_of_mem hi
      have hk4 : k < 4 := hk
      exact (s2 ((pcN (pcA ls j))[k], PSg[k]) (List.mem_of_getElem? (i := k) (by rw [List.getElem?_zip_eq_some]; exact ⟨List.getElem?_eq_getElem hk, List.getElem?_eq_getElem (by show k < 4; exact hk4)⟩))).2
    · obtain ⟨j, hj, rfl⟩ := List.mem_map.mp hc
      obtain ⟨_, s1, s2⟩ := fr j (List.mem_range.mp hj)
      obtain ⟨k, hk, rfl⟩ := List.getElem_of_mem hi
      have hk3 : k < 3 := hk
      exact (s2 ((rsN (rcA ls j))[k], RSg[k]) (List.mem_of_getElem? (i := k) (by rw [List.getElem?_zip_eq_some]; exact ⟨List.getElem?_eq_getElem hk, List.getElem?_eq_getElem (by show k < 3; exact hk3)⟩))).2
    · obtain ⟨j, hj, rfl⟩ := List.mem_map.mp hc
      obtain ⟨_, s1, s2⟩ := fp j (List.mem_range.mp hj)
      have a := s2 ((pcA ls j).1, false) (by simp [pcN])
      have b := s2 ((pcA ls j).2.2.2, false) (by simp [pcN])
      refine ⟨?_, ?_⟩
      · rcases a.1 with h | h; exact h; cases h
      · rcases b.1 with h | h; exact h; cases h
    · obtain ⟨j, hj, rfl⟩ := List.mem_map.mp hc
      obtain ⟨_, s1, s2⟩ := fr j (List.mem_range.mp hj)
      obtain ⟨k, hk, rfl⟩ := List.getElem_of_mem hi
      have hk3 : k < 3 := hk
      have := (s2 ((rsN (rcA ls j))[k], false) (List.mem_of_getElem? (i := k) (by rw [List.getElem?_zip_eq_some]; exact ⟨List.getElem?_eq_getElem hk, by match k, hk3 with | 0, _ => rfl | 1, _ => rfl | 2, _ => rfl⟩))).1
      rcases this with h | h; exact h; cases h
  refine ⟨C, List.ext_getElem? fun i => ?_⟩
  have ll := lin_len ((List.range (ls.length / 2)).map (pcA ls)) ((List.range (ls.length / 2 - 1)).map (rcA ls)) ((List.range (ls.length / 2)).map (pcA ls)).length
  simp only [List.length_map, List.length_range] at ll
  have pg : ∀ j, j < ls.length / 2 → ((List.range (ls.length / 2)).map (pcA ls))[j]? = some (pcA ls j) := fun j hj => by rw [List.getElem?_map, List.getElem?_range hj]; rfl
  have rg : ∀ j, j < ls.length / 2 - 1 → ((List.range (ls.length / 2 - 1)).map (rcA ls))[j]? = some (rcA ls j) := fun j hj => by rw [List.getElem?_map, List.getElem?_range hj]; rfl
  by_cases hi : i < ls.length
  · rcases Nat.eq_zero_or_pos i with e | e
    · subst e
      obtain ⟨t, ht⟩ := lin_pre ((List.range (ls.length / 2)).map (pcA ls)) ((List.range (ls.length / 2 - 1)).map (rcA ls)) (Nat.zero_le ((List.range (ls.length / 2)).map (pcA ls)).length)
      rw [ht, h0]
      rfl
    · rcases Nat.mod_two_eq_zero_or_one i with m | m
      · have : i = 2 + 2 * (i / 2 - 1) := by omega
        rw [this, lin_r (rg (i / 2 - 1) (by omega)) (by simp; omega)]
        exact (fr (i / 2 - 1) (by omega)).1.symm
      · have : i = 1 + 2 * (i / 2) := by omega
        rw [this, lin_p (pg (i / 2) (by omega)) (by simp; omega)]
        exact (fp (i / 2) (by omega)).1.symm
  · rw [List.getElem?_eq_none (by simp only [List.length_map, List.length_range]; omega), List.getElem?_eq_none (by omega)]
theorem told_eq {ls : List Str} {text : Str} {n : Nat} (ha : ∀ x ∈ ls, AscS x) (hsm : ∀ x ∈ ls, x.length < 900000) (hn : ls.length ≤ 20) (htx : text.length < 1000000) (hsp : Txt.split text "\n" = ls) (hj : Txt.join "\n" ls = text) (hat : AscS text) (hf : Flt ls n) : S__law_told [.str text] = some (.int (n : Nat)) := by
  have L : LsOk ls := ⟨ha, fun x hx => Nat.lt_trans (hsm x hx) (by omega), by omega⟩
  have wrong : ∀ k : Nat, n = k + 1 → S_read_cutting [.str text] = some (.inr ((k + 1 : Nat) : Int)) → S__law_told [.str text] = some (.int (n : Nat)) := fun k hk hr => by
    subst hk
    refine run_Weq ?_
    unfold B__law_told
    show W _ [.sh (.str text), .no, .no, .no] _
    refine wq_set ev_I ?_
    show W _ [.sh (.str text), .sh (.int 0), .no, .no] _
    refine W_seq (W_tryE_ra (m := ((k + 1 : Nat) : Int)) (sq_ra (mSt_ra (gCallR_ra (ev_cs (ev_V rfl) ev_nl) hr))) ?_)
    show W _ [.no, .no, .no, .sh (.exc 0 0 ((k + 1 : Nat) : Int))] _
    refine wq_set (d := .int ((k + 1 : Nat) : Int)) rfl ?_
    show W _ [.no, .sh (.int ((k + 1 : Nat) : Int)), .no, .sh (.exc 0 0 ((k + 1 : Nat) : Int))] _
    have c1 : gNot (gTru (gXi 0 0 3)) [.no, .sh (.int ((k + 1 : Nat) : Int)), .no, .sh (.exc 0 0 ((k + 1 : Nat) : Int))] = some false := ev_not (b := true) (ev_Tru (x := .bl true) rfl rfl)
    refine W_if (b := false) (ev_or (b := false) (c := false) c1 (ev_or (b := false) (c := false) c1 (ev_T (ev_op (x := .int ((k + 1 : Nat) : Int)) (ev_V rfl) ev_I (by show some (D.bl (decide (((k + 1 : Nat) : Int) < 1))) = _; rw [decide_eq_false (by omega)]))))) (fun z => by cases z) fun _ => W_nil ⟨_, rfl, ?_⟩
    exact W_ret (ev_V rfl) rfl
  rcases hf with ⟨h1, h2⟩ | ⟨h1, k, k1, k2, k3, k4, k5⟩ | ⟨h1, h2, h3⟩
  · exact wrong 0 h2 (read_R L htx hsp _ (.inl ⟨h1, rfl⟩))
  · exact wrong k k5 (read_R L htx hsp _ (.inr (.inl ⟨h1, k, k1, by omega, fun _ => k2, k3, k4, rfl⟩)))
  · have lpos : 0 < ls.length := by
      have := ((rdA_some fr_cutting).mp (cut_nil h1)).1
      exact (List.getElem?_eq_some_iff.mp this).1
    by_cases c : 1 < ls.length ∧ ls.length % 2 = 1
    · rw [if_pos c] at h3
      exact wrong ls.length h3 (read_R L htx hsp _ (.inr (.inl ⟨h1, ls.length, by omega, Nat.le_refl _, fun z => by omega, h2, gd_end (Nat.le_refl _), rfl⟩)))
    · rw [if_neg c] at h3
      subst h3
      have hl : ls.length = 1 ∨ ls.length % 2 = 0 := by omega
      have hr := read_R L htx hsp _ (.inr (.inr ⟨h1, h2, hl, rfl⟩))
      obtain ⟨C, hb⟩ := lin_back h1 h2 hl hn
      have hw := write_eq C
      rw [hb, hj] at hw
      refine run_Weq ?_
      unfold B__law_told
      show W _ [.sh (.str text), .no, .no, .no] _
      refine wq_set ev_I ?_
      show W _ [.sh (.str text), .sh (.int 0), .no, .no] _
      refine W_seq (W_tryE_ok (W_seq (W_mSt (gCallR_eq (ev_cs (ev_V rfl) ev_nl) hr) ⟨_, rfl, ?_⟩)))
      refine W_if (b := false) (ev_T (ev_op (x := .str text) (y := .str text) (ev_call (ev_cs (ev_V rfl) ev_nl) hw) (ev_B rfl) (ne_same (okd_str hat) (by omega)))) (fun z => by cases z) fun _ => W_nil ⟨fun n e => (by cases e), ?_⟩
      exact W_ret (ev_V rfl) rfl
/-! lines of a text: how many, how long -/
def OkX (x : Str) : Prop := AscS x ∧ 10 ∉ tl x
def tT : List Str → Nat
  | [] => 0
  | x :: xs => x.length + 1 + tT xs
theorem tT_app : ∀ (xs ys : List Str), tT (xs ++ ys) = tT xs + tT ys
  | [], ys => by simp [tT]
  | x :: xs, ys => by
    show x.length + 1 + tT (xs ++ ys) = _
    rw [tT_app xs ys]
    show _ = x.length + 1 + tT xs + tT ys
    omega
theorem tT_take (xs : List Str) (k : Nat) : tT (xs.take k) ≤ tT xs := by
  have := tT_app (xs.take k) (xs.drop k)
  rw [List.take_append_drop] at this
  omega
theorem tT_drop (xs : List Str) (k : Nat) : tT (xs.drop k) ≤ tT xs := by
  have := tT_app (xs.take k) (xs.drop k)
  rw [List.take_append_drop] at this
  omega
theorem tT_mem {x : Str} : ∀ {xs : List Str}, x ∈ xs → x.length + 1 ≤ tT xs
  | [], h => by cases h
  | y :: ys, h => by
    show _ ≤ y.length + 1 + tT ys
    rcases List.mem_cons.mp h with rfl | h
    · omega
    · have := tT_mem h
      omega
theorem tT_tot : ∀ xs : List Str, totS xs + xs.length = tT xs
  | [] => rfl
  | x :: xs => by
    have := tT_tot xs
    rw [tot_cons]
    show _ + (xs.length + 1) = x.length + 1 + tT xs
    omega
theorem tT_le {m : Nat} : ∀ {xs : List Str}, (∀ x ∈ xs, x.length ≤ m) → tT xs ≤ xs.length * (m + 1)
  | [], _ => by simp [tT]
  | x :: xs, h => by
    have h1 := h x List.mem_cons_self
    have ih := tT_le (xs := xs) fun y hy => h y (List.mem_cons_of_mem _ hy)
    show x.length + 1 + tT xs ≤ (xs.length + 1) * (m + 1)
    rw [Nat.succ_mul]
    omega
theorem tT_join : ∀ ls : List Str, ls ≠ [] → (joinL [10] (ls.map tl)).length + 1 = tT ls
  | [], h => absurd rfl h
  | [x], _ => by
    show (tl x).length + 1 = x.length + 1 + 0
    rw [len_tl]
  | x :: y :: ys, _ => by
    have ih := tT_join (y :: ys) (by simp)
    show (tl x ++ ([10] ++ joinL [10] ((y :: ys).map tl))).length + 1 = x.length + 1 + tT (y :: ys)
    rw [List.length_append, List.length_append, ← ih, len_tl x]
    simp only [List.length_singleton]
    omega
theorem nl_tl : tl ("\n" : Str) = [10] := rfl
theorem join_nl_len (ls : List Str) : (Txt.join "\n" ls).length ≤ tT ls := by
  rw [len_tl, join_eq, tl_join, nl_tl]
  by_cases h : ls = []
  · subst h; exact Nat.zero_le _
  · have := tT_join ls h
    omega
theorem joinL_count : ∀ {ls : List Str}, (∀ x ∈ ls, 10 ∉ tl x) → (joinL [10] (ls.map tl)).count 10 = ls.length - 1
  | [], _ => rfl
  | [x], h => List.count_eq_zero.mpr (h x List.mem_cons_self)
  | x :: y :: ys, h => by
    have ih := joinL_count (ls := y :: ys) fun z hz => h z (List.mem_cons_of_mem _ hz)
    show (tl x ++ ([10] ++ joinL [10] ((y :: ys).map tl))).count 10 = _
    rw [List.count_append, List.count_append, ih, List.count_eq_zero.mpr (h x List.mem_cons_self)]
    simp
    omega
theorem spl_more (s : Nat) : ∀ (l acc : List Nat), (spl [s] 0 acc l).length = l.count s + 1 ∧ (s ∉ acc → ∀ p ∈ spl [s] 0 acc l, s ∉ p) := fun l => by
  induction l with
  | nil =>
    intro acc
    rw [spl_nil]
    exact ⟨by simp, fun h p hp => by rw [List.mem_singleton.mp hp]; exact h⟩
  | cons a l ih =>
    intro acc
    by_cases e : a = s
    · subst e
      rw [spl_hit (show pre [a] (a :: l) = true by simp [pre])]
      obtain ⟨i1, i2⟩ := ih []
      refine ⟨?_, fun h p hp => ?_⟩
      · show (acc :: spl [a] 0 [] l).length = _
        rw [List.length_cons, i1, List.count_cons_self]
      · rcases List.mem_cons.mp hp with rfl | hp
        · exact h
        · exact i2 (by simp) p hp
    · rw [spl_miss (show pre [s] (a :: l) = false by simp [pre, e])]
      obtain ⟨i1, i2⟩ := ih (acc ++ [a])
      refine ⟨by rw [i1, List.count_cons_of_ne (fun h => e (by simpa using h))], fun h => i2 fun hm => ?_⟩
      rcases List.mem_append.mp hm with hm | hm
      · exact h hm
      · exact e (List.mem_singleton.mp hm).symm
theorem split_nl {x : Str} (ha : AscS x) : (Txt.split x "\n").length = (tl x).count 10 + 1 ∧ (∀ p ∈ Txt.split x "\n", OkX p) ∧ tT (Txt.split x "\n") = x.length + 1 := by
  have h := split_spl x "\n" (by rw [nl_tl]; simp) (kind_ok (by decide +kernel))
  rw [nl_tl] at h
  obtain ⟨i1, i2⟩ := spl_more 10 (tl x) []
  obtain ⟨b1, b2, b3, _⟩ := split_back (x := x) (s := 10) nl_tl (by decide +kernel)
  refine ⟨?_, fun p hp => ⟨b3 ha p hp, i2 (by simp) _ (by rw [← h]; exact List.mem_map.mpr ⟨p, hp, rfl⟩)⟩, ?_⟩
  · rw [← i1, ← h, List.length_map]
  · rw [← tT_join _ b2, ← nl_tl, ← tl_join, ← join_eq, b1, ← len_tl]
theorem cutS_to (z : Str) (p : Nat) : tl (cutS z none (some (p : Nat))) = (tl z).take p := by
  show ((tl z).drop _).take _ = _
  rw [HT.sIx_nat, HT.sIx_none, List.drop_zero, len_tl]
  by_cases h : p ≤ (tl z).length
  · rw [Nat.min_eq_left h]; rfl
  · rw [Nat.min_eq_right (by omega), List.take_of_length_le (by omega), List.take_of_length_le (by omega)]
theorem cutS_from (z : Str) (p : Nat) : tl (cutS z (some (p : Nat)) none) = (tl z).drop p := by
  show ((tl z).drop _).take _ = _
  rw [HT.sIx_nat, HT.sIx_none, len_tl]
  by_cases h : p ≤ (tl z).length
  · rw [Nat.min_eq_left h, List.take_of_length_le (by simp)]
  · rw [Nat.min_eq_right (by omega), List.drop_eq_nil_of_le (Nat.le_refl _), List.drop_eq_nil_of_le (by omega), List.take_nil]
structure LG (m T : Nat) (ls : List Str) : Prop where
  ok : ∀ x ∈ ls, OkX x
  few : ls.length ≤ m
  tot : tT ls ≤ T
/-- a text put together anew from parts of joined lines -/
theorem LG_text {m T : Nat} {ls : List Str} (G : LG m T ls) {x : Str} {p q : Nat} {c : List Nat} (hx : tl x = (tl (Txt.join "\n" ls)).take p ++ c ++ (tl (Txt.join "\n" ls)).drop q) (hpq : p ≤ q) (hc : ∀ a ∈ c, a < 128) (h10 : 10 ∉ c) (h1 : c.length ≤ 10) : LG (m + 1) (2 * T + 100) (Txt.split x "\n") := by
  have jl : tl (Txt.join "\n" ls) = joinL [10] (ls.map tl) := by rw [join_eq, tl_join, nl_tl]
  have asc : ∀ a ∈ tl (Txt.join "\n" ls), a < 128 := fun a ha => by
    rw [jl] at ha
    rcases joinL_mem ha with h | ⟨z, h1, h2⟩
    · rw [List.mem_singleton.mp h]; decide
    · obtain ⟨y, hy, rfl⟩ := List.mem_map.mp h1
      exact (G.ok y hy).1 a h2
  have ax : AscS x := fun a ha => by
    rw [hx] at ha
    rcases List.mem_append.mp ha with ha | ha
    · rcases List.mem_append.mp ha with ha | ha
      · exact asc a (List.mem_of_mem_take ha)
      · exact hc a ha
    · exact asc a (List.mem_of_mem_drop ha)
  obtain ⟨s1, s2, s3⟩ := split_nl ax
  have cnt : (tl x).count 10 ≤ ls.length - 1 := by
    have e1 : ((tl (Txt.join "\n" ls)).take q).count 10 + ((tl (Txt.join "\n" ls)).drop q).count 10 = ls.length - 1 := by
      rw [← List.count_append, List.take_append_drop, jl]
      exact joinL_count fun y hy => (G.ok y hy).2
    have e2 : ((tl (Txt.join "\n" ls)).take p).count 10 ≤ ((tl (Txt.join "\n" ls)).take q).count 10 := by
      refine List.Sublist.count_le 10 ?_
      rw [show p = min p q by omega, ← List.take_take]
      exact List.take_sublist _ _
    rw [hx, List.count_append, List.count_append, List.count_eq_zero.mpr h10]
    omega
  have len : x.length ≤ 2 * T + 10 := by
    have := join_nl_len ls
    have := G.tot
    rw [len_tl, hx, List.length_append, List.length_append]
    have a1 : ((tl (Txt.join "\n" ls)).take p).length ≤ (tl (Txt.join "\n" ls)).length := by rw [List.length_take]; omega
    have a2 : ((tl (Txt.join "\n" ls)).drop q).length ≤ (tl (Txt.join "\n" ls)).length := by rw [List.length_drop]; omega
    rw [← len_tl] at a1 a2
    omega
  have few := G.few
  exact ⟨s2, by omega, by omega⟩
/-! the law's changes of lines -/
theorem LG_cat3 {m T : Nat} {ls : List Str} (h1 : ∀ x ∈ ls, OkX x) (h2 : ls.length ≤ m) (h3 : tT ls ≤ T) : LG m T ls := ⟨h1, h2, h3⟩
theorem sl_to {f e : Ex} {Γ : DEnv} {ls : List Str} {a : Nat} (hf : f Γ = some (.lst (ls.map D.str))) (he : e Γ = some (.int (a : Nat))) : gL (gSl f gNo (gSo e)) Γ = some (.lst ((ls.take a).map D.str)) := by
  refine ev_L (ev_Sl hf ev_No (ev_So he) ?_)
  rw [d_cut, cutD_to]
theorem sl_from {f e : Ex} {Γ : DEnv} {ls : List Str} {a : Nat} (hf : f Γ = some (.lst (ls.map D.str))) (he : e Γ = some (.int (a : Nat))) : gL (gSl f (gSo e) gNo) Γ = some (.lst ((ls.drop a).map D.str)) := by
  refine ev_L (ev_Sl hf (ev_So he) ev_No ?_)
  rw [d_cut, cutD_from]
theorem ev_catS {f g : Ex} {Γ : DEnv} {xs ys : List Str} (hf : f Γ = some (.lst (xs.map D.str))) (hg : g Γ = some (.lst (ys.map D.str))) (hb : xs.length + ys.length < 1000000) : gOp dAdd f g Γ = some (.lst ((xs ++ ys).map D.str)) := ev_op hf hg (d_cat hb)
theorem OkX_nil : OkX "" := ⟨asc_of (l := []) rfl (by simp), by show 10 ∉ ([] : List Nat); simp⟩
theorem chars_ok : ∀ c ∈ tl (" 0-19,\tep+x" : Str), c < 128 ∧ c ≠ 10 := by decide +kernel
theorem changed_eq {ls odd : List Str} {cell : Int} {m T : Nat} (G : LG m T ls) (ho : ∀ x ∈ odd, OkX x ∧ x.length < 100) (hne : odd ≠ []) (hol : odd.length < 1000) (hT : T ≤ 170000) (hm : m ≤ 1000) : ∃ ls', S__law_changed [.lst (ls.map D.str), .int cell, .lst (odd.map D.str)] = some (.lst (ls'.map D.str)) ∧ LG (m + 1) (5 * T + 100) ls' := by
  have key : ∃ d, S__law_changed [.lst (ls.map D.str), .int cell, .lst (odd.map D.str)] = some d ∧ ∃ ls', d = .lst (ls'.map D.str) ∧ LG (m + 1) (5 * T + 100) ls' := by
    have few := G.few
    have tot := G.tot
    have okp := G.ok
    refine run_W ?_
    unfold B__law_changed
    show W _ [.sh (.lst (ls.map D.str)), .sh (.int cell), .sh (.lst (odd.map D.str)), .no, .no, .no, .no, .no, .no, .no] _
    have lgt : dLen (.lst (ls.map D.str)) = some (.int (ls.length : Nat)) := by rw [d_lenL, List.length_map]
    refine wq_set (ev_op (ev_U (ev_B rfl) rfl) ev_I (d_mod (by decide))) ?_
    generalize hc : cell % 9 = c
    show W _ [.sh (.lst (ls.map D.str)), .sh (.int cell), .sh (.lst (odd.map D.str)), .sh (.int c), .no, .no, .no, .no, .no, .no] _
    have mx : gA dMax2 (aC (gI 1) (aC (gU dLen (gB 0)) aN)) [.sh (.lst (ls.map D.str)), .sh (.int cell), .sh (.lst (odd.map D.str)), .sh (.int c), .no, .no, .no, .no, .no, .no] = some (.int ((max 1 ls.length : Nat) : Int)) := by
      refine ev_A (ev_cs ev_I (ev_cs (ev_U (x := .lst (ls.map D.str)) (ev_B rfl) lgt) ev_nl)) ?_
      show some (D.int (if (ls.length : Int) > 1 then (ls.length : Int) else 1)) = _
      congr 2
      split <;> omega
    refine wq_set (ev_op (ev_U (ev_op (ev_V rfl) ev_I (d_div (by decide) (by decide))) rfl) mx (d_mod (by omega))) ?_
    have a0 := Int.emod_nonneg (cell / 9) (show ((max 1 ls.length : Nat) : Int) ≠ 0 by omega)
    have a1 := Int.emod_lt_of_pos (cell / 9) (show (0 : Int) < ((max 1 ls.length : Nat) : Int) by omega)
    generalize cell / 9 % ((max 1 ls.length : Nat) : Int) = a at a0 a1
    obtain ⟨a, rfl⟩ := Int.eq_ofNat_of_zero_le a0
    refine wq_set (ev_U (ev_op (ev_V rfl) ev_I (d_div (by decide) (by decide))) rfl) ?_
    generalize cell / 1000 = o
    show W _ [.sh (.lst (ls.map D.str)), .sh (.int cell), .sh (.lst (odd.map D.str)), .sh (.int c), .sh (.int (a : Nat)), .sh (.int o), .no, .no, .no, .no] _
    obtain ⟨Γ, hΓ⟩ : ∃ Γ : DEnv, Γ = [.sh (.lst (ls.map D.str)), .sh (.int cell), .sh (.lst (odd.map D.str)), .sh (.int c), .sh (.int (a : Nat)), .sh (.int o), .no, .no, .no, .no] := ⟨_, rfl⟩
    have g0 : gB 0 Γ = some (.lst (ls.map D.str)) := ev_B (by rw [hΓ]; rfl)
    have g4 : gV 4 Γ = some (.int (a : Nat)) := ev_V (by rw [hΓ]; rfl)
    have g41 : gOp dAdd (gV 4) (gI 1) Γ = some (.int ((a + 1 : Nat) : Int)) := ev_op g4 ev_I (by show some (D.int _) = _; congr 2)
    have cnd : ∀ k : Int, gT (gOp dEq (gB 3) (gI k)) Γ = some (c == k) := fun k => ev_T (ev_op (x := .int c) (ev_B (by rw [hΓ]; rfl)) ev_I (d_eq eqOk_int eqOk_int eqd_int))
    have tk : ∀ k, (ls.take k).length ≤ ls.length := fun k => by rw [List.length_take]; omega
    have dk : ∀ k, (ls.drop k).length ≤ ls.length := fun k => by rw [List.length_drop]; omega
    have tt := tT_take ls
    have td := tT_drop ls
    have okt : ∀ k, ∀ x ∈ ls.take k, OkX x := fun k x hx => okp x (List.mem_of_mem_take hx)
    have okd : ∀ k, ∀ x ∈ ls.drop k, OkX x := fun k x hx => okp x (List.mem_of_mem_drop hx)
    have ok2 : ∀ {xs ys : List Str}, (∀ x ∈ xs, OkX x) → (∀ x ∈ ys, OkX x) → ∀ x ∈ xs ++ ys, OkX x := fun h1 h2 x hx => by
      rcases List.mem_append.mp hx with h | h
      · exact h1 x h
      · exact h2 x h
    rw [← hΓ]
    -- 0: left out
    refine wq_ifR (cnd 0) (fun z => ⟨_, ev_catS (sl_to g0 g4) (sl_from g0 g41) (by have := tk a; have := dk (a + 1); omega), _, rfl, ok2 (okt a) (okd (a + 1)), ?_, ?_⟩) fun z => ?_
    · rw [List.length_append, List.length_take, List.length_drop]; omega
    · rw [tT_app]; have := tt a; have := td (a + 1); omega
    -- 1: doubled
    refine wq_ifR (cnd 1) (fun z => ⟨_, ev_catS (sl_to g0 g41) (sl_from g0 g4) (by have := tk (a + 1); have := dk a; omega), _, rfl, ok2 (okt (a + 1)) (okd a), ?_, ?_⟩) fun z => ?_
    · rw [List.length_append, List.length_take, List.length_drop]; omega
    · rw [tT_app]; have := tt (a + 1); have := td a; omega
    -- 2: moved
    refine wq_if (cnd 2) (fun z => ?_) fun z => W_nil ?_
    · refine wq_set (ev_catS (sl_to g0 g4) (sl_from g0 g41) (by have := tk a; have := dk (a + 1); omega)) ?_
      have rl : (ls.take a ++ ls.drop (a + 1)).length + (if ls = [] then 0 else 1) = ls.length := by
        rw [List.length_append, List.length_take, List.length_drop]
        split
        · rename_i e; subst e; simp
        · rename_i e
          have := List.length_pos_iff.mpr e
          omega
      have rt : tT (ls.take a ++ ls.drop (a + 1)) ≤ 2 * T := by rw [tT_app]; have := tt a; have := td (a + 1); omega
      have ro := ok2 (okt a) (okd (a + 1))
      generalize ls.take a ++ ls.drop (a + 1) = rest at rl rt ro
      subst hΓ
      show W _ [.sh (.lst (ls.map D.str)), .sh (.int cell), .sh (.lst (odd.map D.str)), .sh (.int c), .sh (.int (a : Nat)), .sh (.int o), .no, .no, .no, .sh (.lst (rest.map D.str))] _
      have rgt : dLen (.lst (rest.map D.str)) = some (.int (rest.length : Nat)) := by rw [d_lenL, List.length_map]
      refine wq_set (ev_op (ev_U (ev_B rfl) rfl) (ev_op (x := .int (rest.length : Nat)) (ev_U (x := .lst (rest.map D.str)) (ev_B rfl) rgt) ev_I (d := .int ((rest.length + 1 : Nat) : Int)) (by show some (D.int _) = _; congr 2)) (d_mod (by omega))) ?_
      have p0 := Int.emod_nonneg o (show ((rest.length + 1 : Nat) : Int) ≠ 0 by omega)
      generalize o % ((rest.length + 1 : Nat) : Int) = p at p0
      obtain ⟨p, rfl⟩ := Int.eq_ofNat_of_zero_le p0
      show W _ [.sh (.lst (ls.map D.str)), .sh (.int cell), .sh (.lst (odd.map D.str)), .sh (.int c), .sh (.int (a : Nat)), .sh (.int o), .no, .sh (.int (p : Nat)), .no, .sh (.lst (rest.map D.str))] _
      obtain ⟨mid, hmid⟩ : ∃ mid, mid = cutD ls (some ((a : Nat) : Int)) (some ((a + 1 : Nat) : Int)) := ⟨_, rfl⟩
      have ml : mid.length ≤ (if ls = [] then 0 else 1) := by
        split
        · rename_i e
          have := cutD_len ls (some ((a : Nat) : Int)) (some ((a + 1 : Nat) : Int))
          rw [hmid]
          rw [e] at this ⊢
          exact this
        · rename_i e
          have := List.length_pos_iff.mpr e
          rw [hmid, cutD_nat _ _ _ (by omega), List.length_take]
          omega
      have mo : ∀ x ∈ mid, OkX x := fun x hx => okp x (by rw [hmid] at hx; exact cutD_mem hx)
      have mt : tT mid ≤ T := by
        rw [hmid]
        unfold cutD
        exact Nat.le_trans (tT_take _ _) (Nat.le_trans (tT_drop _ _) tot)
      have gm : gL (gSl (gB 0) (gSo (gV 4)) (gSo (gOp dAdd (gV 4) (gI 1)))) [.sh (.lst (ls.map D.str)), .sh (.int cell), .sh (.lst (odd.map D.str)), .sh (.int c), .sh (.int (a : Nat)), .sh (.int o), .no, .sh (.int (p : Nat)), .no, .sh (.lst (rest.map D.str))] = some (.lst (mid.map D.str)) := by
        refine ev_L (ev_Sl (ev_B rfl) (ev_So (m := ((a : Nat) : Int)) (ev_V rfl)) (ev_So (m := ((a + 1 : Nat) : Int)) (ev_op (x := .int (a : Nat)) (ev_V rfl) ev_I (by show some (D.int _) = _; congr 2))) ?_)
        rw [hmid, d_cut]
      have r1 : (rest.take p).length + (rest.drop p).length = rest.length := by rw [← List.length_append, List.take_append_drop]
      refine W_ret (ev_catS (ev_catS (sl_to (ev_B rfl) (ev_V rfl)) gm (by omega)) (sl_from (ev_B rfl) (ev_V rfl)) (by rw [List.length_append]; omega)) ⟨_, rfl, ok2 (ok2 (fun x hx => ro x (List.mem_of_mem_take hx)) mo) (fun x hx => ro x (List.mem_of_mem_drop hx)), ?_, ?_⟩
      · rw [List.length_append, List.length_append]; omega
      · rw [tT_app, tT_app]
        have := tT_take rest p
        have := tT_drop rest p
        omega
    have lo := List.length_pos_iff.mpr hne
    obtain ⟨od, hod, god⟩ : ∃ od, (OkX od ∧ od.length < 100) ∧ gL (aC (gIx (gB 2) (gOp dMod (gU dInt (gB 5)) (gU dLen (gB 2)))) aN) Γ = some (.lst ([od].map D.str)) := by
      have q0 := Int.emod_nonneg o (show ((odd.length : Nat) : Int) ≠ 0 by omega)
      have q1 := Int.emod_lt_of_pos o (show (0 : Int) < ((odd.length : Nat) : Int) by omega)
      have hq : gOp dMod (gU dInt (gB 5)) (gU dLen (gB 2)) Γ = some (.int (o % ((odd.length : Nat) : Int))) := ev_op (x := .int o) (ev_U (x := .int o) (ev_B (by rw [hΓ]; rfl)) rfl) (ev_U (x := .lst (odd.map D.str)) (ev_B (by rw [hΓ]; rfl)) (by rw [d_lenL, List.length_map])) (d_mod (by omega))
      generalize o % ((odd.length : Nat) : Int) = q at q0 q1 hq
      obtain ⟨q, rfl⟩ := Int.eq_ofNat_of_zero_le q0
      have hk : q < odd.length := by omega
      exact ⟨odd[q], ho _ (List.getElem_mem hk), ev_L (ev_cs (ev_op (x := .lst (odd.map D.str)) (ev_B (by rw [hΓ]; rfl)) hq (d_ixA (List.getElem?_eq_getElem hk) rfl)) ev_nl)⟩
    have oko : ∀ x ∈ [od], OkX x := fun x hx => by rw [List.mem_singleton.mp hx]; exact hod.1
    have odt : tT [od] ≤ 100 := by show od.length + 1 + 0 ≤ 100; omega
    -- 3: replaced
    refine wq_ifR (cnd 3) (fun z => ⟨_, ev_catS (ev_catS (sl_to g0 g4) god (by have := tk a; simp only [List.length_singleton]; omega)) (sl_from g0 g41) (by have := tk a; have := dk (a + 1); simp only [List.length_append, List.length_singleton]; omega), _, rfl, ok2 (ok2 (okt a) oko) (okd (a + 1)), ?_, ?_⟩) fun z => ?_
    · simp only [List.length_append, List.length_take, List.length_drop, List.length_singleton]; omega
    · rw [tT_app, tT_app]; have := tt a; have := td (a + 1); omega
    -- 4: put behind
    refine wq_ifR (cnd 4) (fun z => ⟨_, ev_catS (ev_catS (sl_to g0 g4) god (by have := tk a; simp only [List.length_singleton]; omega)) (sl_from g0 g4) (by have := tk a; have := dk a; simp only [List.length_append, List.length_singleton]; omega), _, rfl, ok2 (ok2 (okt a) oko) (okd a), ?_, ?_⟩) fun z => ?_
    · simp only [List.length_append, List.length_take, List.length_drop, List.length_singleton]; omega
    · rw [tT_app, tT_app]; have := tt a; have := td a; omega
    -- 5: an empty line
    refine wq_ifR (cnd 5) (fun z => ⟨_, ev_catS (ys := [""]) (show gV 0 Γ = _ from ev_V (by rw [hΓ]; rfl)) (ev_L (ev_cs ev_C ev_nl)) (by simp only [List.length_singleton]; omega), _, rfl, ok2 okp (fun x hx => by rw [List.mem_singleton.mp hx]; exact OkX_nil), ?_, ?_⟩) fun z => ?_
    · rw [List.length_append]; simp only [List.length_singleton]; omega
    · rw [tT_app]
      have : tT [("" : Str)] = 1 := rfl
      omega
    -- 6: cut off
    refine wq_ifR (cnd 6) (fun z => ⟨_, sl_to g0 g4, _, rfl, okt a, Nat.le_trans (tk a) (by omega), Nat.le_trans (tt a) (by omega)⟩) fun z => ?_
    have jl := join_nl_len ls
    have hj : gOp dJoin (gC (.str "\n")) (gB 0) Γ = some (.str (Txt.join "\n" ls)) := ev_op ev_C g0 (d_join (by
      have := tT_tot ls
      have : ls.length * ("\n" : Str).length = ls.length := Nat.mul_one _
      omega))
    refine wq_set hj ?_
    have GT := @LG_text m T ls G
    generalize Txt.join "\n" ls = text at jl GT
    subst hΓ
    show W _ [.sh (.lst (ls.map D.str)), .sh (.int cell), .sh (.lst (odd.map D.str)), .sh (.int c), .sh (.int (a : Nat)), .sh (.int o), .sh (.str text), .no, .no, .no] _
    refine wq_set (ev_op (ev_U (ev_B rfl) rfl) (ev_op (x := .int (text.length : Nat)) (ev_U (x := .str text) (ev_B rfl) (d_lenS (by omega))) ev_I (d := .int ((text.length + 1 : Nat) : Int)) (by show some (D.int _) = _; congr 2)) (d_mod (by omega))) ?_
    have p0 := Int.emod_nonneg o (show ((text.length + 1 : Nat) : Int) ≠ 0 by omega)
    generalize o % ((text.length + 1 : Nat) : Int) = p at p0
    obtain ⟨p, rfl⟩ := Int.eq_ofNat_of_zero_le p0
    have q0 := Int.emod_nonneg (o / 1000) (show (11 : Int) ≠ 0 by omega)
    have q1 := Int.emod_lt_of_pos (o / 1000) (show (0 : Int) < 11 by omega)
    obtain ⟨ch, hch1, hch⟩ : ∃ ch, ch ∈ tl (" 0-19,\tep+x" : Str) ∧ dIx (.str " 0-19,\tep+x") (.int (o / 1000 % 11)) = some (.str ⟨#[ch]⟩) := by
      generalize o / 1000 % 11 = q at q0 q1
      obtain ⟨q, rfl⟩ := Int.eq_ofNat_of_zero_le q0
      have hk : q < (tl (" 0-19,\tep+x" : Str)).length := by show q < 11; omega
      exact ⟨_, List.getElem_mem hk, d_ixS (by decide +kernel) (List.getElem?_eq_getElem hk)⟩
    obtain ⟨ch1, ch2⟩ := chars_ok ch hch1
    refine wq_set (ev_op ev_C (ev_op (ev_U (ev_op (ev_V rfl) ev_I (d_div (by decide) (by decide))) rfl) ev_I (d_mod (by decide))) hch) ?_
    show W _ [.sh (.lst (ls.map D.str)), .sh (.int cell), .sh (.lst (odd.map D.str)), .sh (.int c), .sh (.int (a : Nat)), .sh (.int o), .sh (.str text), .sh (.int (p : Nat)), .sh (.str ⟨#[ch]⟩), .no] _
    obtain ⟨Γ, hΓ⟩ : ∃ Γ : DEnv, Γ = [.sh (.lst (ls.map D.str)), .sh (.int cell), .sh (.lst (odd.map D.str)), .sh (.int c), .sh (.int (a : Nat)), .sh (.int o), .sh (.str text), .sh (.int (p : Nat)), .sh (.str ⟨#[ch]⟩), .no] := ⟨_, rfl⟩
    rw [← hΓ]
    have v6 : gV 6 Γ = some (.str text) := ev_V (by rw [hΓ]; rfl)
    have v7 : gV 7 Γ = some (.int (p : Nat)) := ev_V (by rw [hΓ]; rfl)
    have c1 := cutS_length text none (some ((p : Nat) : Int))
    refine wq_ifR (b := c == 7) (ev_T (ev_op (x := .int c) (ev_B (by rw [hΓ]; rfl)) ev_I (d_eq eqOk_int eqOk_int eqd_int))) (fun z => ?_) fun z => ?_
    · have c2 := cutS_length text (some ((p + 1 : Nat) : Int)) none
      refine ⟨_, ev_L (ev_split (ev_op (x := .str (cutS text none (some ((p : Nat) : Int)))) (y := .str (cutS text (some ((p + 1 : Nat) : Int)) none)) (ev_slS v6 ev_No (ev_So v7) (by omega)) (ev_slS v6 (ev_So (ev_op v7 ev_I (by show some (D.int _) = _; congr 2))) ev_No (by omega)) (d_addS (by omega))) ev_C rfl ?_), _, rfl, ?_⟩
      · rw [len_tl, tl_append, List.length_append, ← len_tl, ← len_tl]; omega
      · have := GT (x := cutS text none (some ((p : Nat) : Int)) ++ cutS text (some ((p + 1 : Nat) : Int)) none) (p := p) (q := p + 1) (c := []) (by rw [tl_append, cutS_to, cutS_from, List.append_nil]) (by omega) (by simp) (by simp) (by simp)
        exact ⟨this.ok, this.few, Nat.le_trans this.tot (by omega)⟩
    · have r0 := Int.emod_nonneg (o / 11000) (show (2 : Int) ≠ 0 by omega)
      have hr : gOp dAdd (gV 7) (gOp dMod (gU dInt (gOp dDiv (gV 5) (gI 11000))) (gI 2)) Γ = some (.int ((p : Nat) + o / 11000 % 2)) := ev_op v7 (ev_op (ev_U (ev_op (x := .int o) (ev_V (by rw [hΓ]; rfl)) ev_I (d_div (by decide) (by decide))) rfl) ev_I (d_mod (by decide))) rfl
      generalize o / 11000 % 2 = r at r0 hr
      obtain ⟨r, rfl⟩ := Int.eq_ofNat_of_zero_le r0
      have c2 := cutS_length text (some ((p + r : Nat) : Int)) none
      have l1 : (⟨#[ch]⟩ : Str).length = 1 := rfl
      have la : (cutS text none (some ((p : Nat) : Int)) ++ (⟨#[ch]⟩ : Str)).length ≤ text.length + 1 := by
        rw [len_tl, tl_append, List.length_append, ← len_tl, ← len_tl]; omega
      refine W_ret (ev_L (ev_split (ev_op (x := .str (cutS text none (some ((p : Nat) : Int)) ++ (⟨#[ch]⟩ : Str))) (y := .str (cutS text (some ((p + r : Nat) : Int)) none)) (ev_op (x := .str (cutS text none (some ((p : Nat) : Int)))) (y := .str ⟨#[ch]⟩) (ev_slS v6 ev_No (ev_So v7) (by omega)) (ev_V (by rw [hΓ]; rfl)) (d_addS (by omega))) (ev_slS v6 (ev_So (hr.trans (by congr 2))) ev_No (by omega)) (d_addS (by omega))) ev_C rfl ?_)) ⟨_, rfl, ?_⟩
      · rw [len_tl, tl_append, List.length_append, ← len_tl, ← len_tl]; omega
      · have := GT (x := cutS text none (some ((p : Nat) : Int)) ++ (⟨#[ch]⟩ : Str) ++ cutS text (some ((p + r : Nat) : Int)) none) (p := p) (q := p + r) (c := [ch]) (by rw [tl_append, tl_append, cutS_to, cutS_from]) (by omega) (fun x hx => by rw [List.mem_singleton.mp hx]; exact ch1) (fun h => ch2 (List.mem_singleton.mp h).symm) (by simp)
        exact ⟨this.ok, this.few, Nat.le_trans this.tot (by omega)⟩
  obtain ⟨_, h1, ls', rfl, h2⟩ := key
  exact ⟨ls', h1, h2⟩
theorem cutting_ex (cell : Int) : ∃ ps rs, CtOk ps rs ∧ ps.length ≤ 6 ∧ S__law_cutting [.int cell] = some (.tup [.lst (ps.map encC), .lst (rs.map encL)]) := by
  obtain ⟨dg, hdg, ld, vd⟩ := digits_eq cell 1600 60 (by omega) (by omega) (by omega) (by omega)
  have key : ∃ d, S__law_cutting [.int cell] = some d ∧ ∃ ps rs, CtOk ps rs ∧ ps.length ≤ 6 ∧ d = .tup [.lst (ps.map encC), .lst (rs.map encL)] := by
    have dl : dg.length = 60 := by omega
    have vg : ∀ k, k < 60 → 0 ≤ dg.getD k 0 ∧ dg.getD k 0 < 1600 := fun k hk => vd _ (by rw [List.getD_eq_getElem?_getD, List.getElem?_eq_getElem (by omega)]; exact List.getElem_mem _)
    have n0 := Int.emod_nonneg (dg.getD 0 0) (show (7 : Int) ≠ 0 by omega)
    have n1 := Int.emod_lt_of_pos (dg.getD 0 0) (show (0 : Int) < 7 by omega)
    have e0 : dIx (.lst (dg.map D.int)) (.int 0) = some (.int (dg.getD 0 0)) := d_ixA (k := 0) (by rw [List.getD_eq_getElem?_getD, List.getElem?_eq_getElem (by omega)]; rfl) rfl
    refine run_W ?_
    unfold B__law_cutting
    refine wq_set (ev_call (ev_cs (ev_V rfl) (ev_cs ev_I (ev_cs ev_I ev_nl))) hdg) ?_
    refine wq_setO ev_nl ?_
    refine wq_setO ev_nl ?_
    have hcnt : gOp dMod (gU dInt (gIx (gB 1) (gI 0))) (gI 7) [.sh (.int cell), .sh (.lst (dg.map D.int)), .ow [], .ow [], .no, .no] = some (.int (dg.getD 0 0 % 7)) := ev_op (ev_U (ev_op (ev_B rfl) ev_I e0) rfl) ev_I (d_mod (by decide))
    generalize dg.getD 0 0 % 7 = n at n0 n1 hcnt
    obtain ⟨n, rfl⟩ := Int.eq_ofNat_of_zero_le n0
    refine wq_rng (lo := 0) (n := n) (fun k Γ => ∃ (ps : List Pc4) (rs : List (Int × Int × Int)) (s4 s5 : Sl), Γ = [.sh (.int cell), .sh (.lst (dg.map D.int)), .ow (ps.map encC), .ow (rs.map encL), s4, s5] ∧ ps.length = k ∧ CtOk ps rs) ((ev_rng1 (m := n) (ev_cs hcnt ev_nl) (by omega) (by omega)).trans (by rw [Int.toNat_natCast])) ⟨[], [], _, _, rfl, rfl, ⟨by simp, by simp, by simp, by simp, by simp, rfl⟩⟩ ?_ ?_
    · rintro k Γ hk ⟨ps, rs, s4, s5, rfl, pk, C⟩
      have ek : (0 + (k : Nat) : Int) = (k : Nat) := by omega
      rw [ek]
      refine ⟨_, rfl, ?_⟩
      obtain ⟨row, hrow⟩ : ∃ row, row = cutD dg (some ((1 + 8 * k : Nat) : Int)) (some ((9 + 8 * k : Nat) : Int)) := ⟨_, rfl⟩
      refine wq_set (d := .lst (row.map D.int)) (ev_L ((ev_Sl (x := .lst (dg.map D.int)) (l := some ((1 + 8 * k : Nat) : Int)) (h := some ((9 + 8 * k : Nat) : Int)) (ev_B rfl) (ev_So (ev_op ev_I (ev_op ev_I (ev_V rfl) (d_mul (mulOk_l (by omega) (by omega)))) (by show some (D.int _) = _; congr 2))) (ev_So (ev_op ev_I (ev_op ev_I (ev_V rfl) (d_mul (mulOk_l (by omega) (by omega)))) (by show some (D.int _) = _; congr 2))) (by rw [hrow]; exact d_cut)))) ?_
      have rg : ∀ j, j < 8 → row[j]? = some (dg.getD (1 + 8 * k + j) 0) := fun j hj => by
        rw [hrow, cutD_nat _ _ _ (by omega), List.getElem?_take_of_lt (by omega), List.getElem?_drop, List.getD_eq_getElem?_getD, List.getElem?_eq_getElem (by omega)]
        rfl
      have nm : ∀ (j : Nat) (Γ : DEnv), j < 8 → Γ[5]? = some (.sh (.lst (row.map D.int))) → ∃ m : Int, gCall S__law_number (aC (gIx (gB 5) (gI (j : Nat))) aN) Γ = some (.int m) ∧ -(10 ^ 18) ≤ m ∧ m ≤ 10 ^ 18 := fun j Γ hj h5 => by
        have v := vg (1 + 8 * k + j) (by omega)
        obtain ⟨m, h1, h2⟩ := number_eq v.1 v.2
        exact ⟨m, ev_call (ev_cs (ev_op (ev_B h5) ev_I (d_ixA (rg j hj) rfl)) ev_nl) h1, h2⟩
      obtain ⟨m0, g0, b0⟩ := nm 0 [.sh (.int cell), .sh (.lst (dg.map D.int)), .ow (ps.map encC), .ow (rs.map encL), .sh (.int (k : Nat)), .sh (.lst (row.map D.int))] (by omega) rfl
      obtain ⟨m1, g1, b1⟩ := nm 1 [.sh (.int cell), .sh (.lst (dg.map D.int)), .ow (ps.map encC), .ow (rs.map encL), .sh (.int (k : Nat)), .sh (.lst (row.map D.int))] (by omega) rfl
      obtain ⟨m2, g2, b2⟩ := nm 2 [.sh (.int cell), .sh (.lst (dg.map D.int)), .ow (ps.map encC), .ow (rs.map encL), .sh (.int (k : Nat)), .sh (.lst (row.map D.int))] (by omega) rfl
      obtain ⟨m3, g3, b3⟩ := nm 3 [.sh (.int cell), .sh (.lst (dg.map D.int)), .ow (ps.map encC), .ow (rs.map encL), .sh (.int (k : Nat)), .sh (.lst (row.map D.int))] (by omega) rfl
      have lpc : (ps ++ [(absI m0, m1, m2, absI m3)]).length = k + 1 := by simp [pk]
      have ab : ∀ {m : Int}, -(10 ^ 18) ≤ m ∧ m ≤ 10 ^ 18 → 0 ≤ absI m ∧ absI m ≤ 10 ^ 18 := fun {m} h => ⟨by unfold absI; split <;> omega, absI_le.mpr h⟩
      have hpN : ∀ c ∈ ps ++ [(absI m0, m1, m2, absI m3)], (∀ i ∈ pcN c, SmN i) ∧ 0 ≤ c.1 ∧ 0 ≤ c.2.2.2 := fun c hc => by
        rcases List.mem_append.mp hc with z | z
        · exact ⟨C.p c z, C.p0 c z⟩
        · rw [List.mem_singleton.mp z]
          refine ⟨fun i hi => ?_, (ab b0).1, (ab b3).1⟩
          simp only [pcN, List.mem_cons, List.not_mem_nil, or_false] at hi
          rcases hi with rfl | rfl | rfl | rfl
          · have := ab b0; exact sm_le (by omega)
          · exact sm_le b1
          · exact sm_le b2
          · have := ab b3; exact sm_le (by omega)
      have cl := C.rl
      refine wq_app (xs := ps.map encC) (d := encC (absI m0, m1, m2, absI m3)) (ev_tu (ev_cs (ev_U g0 rfl) (ev_cs (ev_tu (ev_cs g1 (ev_cs g2 (ev_cs (ev_U g3 rfl) ev_nl)))) ev_nl))) rfl (by rw [List.length_map]; omega) ?_
      have eapp : ps.map encC ++ [encC (absI m0, m1, m2, absI m3)] = (ps ++ [(absI m0, m1, m2, absI m3)]).map encC := by rw [List.map_append]; rfl
      rw [eapp]
      refine W_if (b := decide (0 < k)) (ev_T (ev_op (ev_V rfl) ev_I (by show some (D.bl (decide ((k : Int) > 0))) = _; have : decide ((k : Int) > 0) = decide (0 < k) := decide_eq_decide.mpr (by omega); rw [this]))) (fun z => ?_) fun z => ?_
      · have z := of_decide_eq_true z
        obtain ⟨m4, g4, b4⟩ := nm 4 [.sh (.int cell), .sh (.lst (dg.map D.int)), .ow ((ps ++ [(absI m0, m1, m2, absI m3)]).map encC), .ow (rs.map encL), .sh (.int (k : Nat)), .sh (.lst (row.map D.int))] (by omega) rfl
        obtain ⟨m5, g5, b5⟩ := nm 5 [.sh (.int cell), .sh (.lst (dg.map D.int)), .ow ((ps ++ [(absI m0, m1, m2, absI m3)]).map encC), .ow (rs.map encL), .sh (.int (k : Nat)), .sh (.lst (row.map D.int))] (by omega) rfl
        obtain ⟨m6, g6, b6⟩ := nm 6 [.sh (.int cell), .sh (.lst (dg.map D.int)), .ow ((ps ++ [(absI m0, m1, m2, absI m3)]).map encC), .ow (rs.map encL), .sh (.int (k : Nat)), .sh (.lst (row.map D.int))] (by omega) rfl
        refine W_app (xs := rs.map encL) (d := encL (absI m4, absI m5, absI m6)) (ev_tu (ev_cs (ev_U g4 rfl) (ev_cs (ev_U g5 rfl) (ev_cs (ev_U g6 rfl) ev_nl)))) rfl (by rw [List.length_map]; omega) ⟨ps ++ [(absI m0, m1, m2, absI m3)], rs ++ [(absI m4, absI m5, absI m6)], _, _, by rw [List.map_append (l₁ := rs)]; rfl, lpc, ?_⟩
        have hrN : ∀ c ∈ rs ++ [(absI m4, absI m5, absI m6)], ∀ i ∈ rsN c, SmN i ∧ 0 ≤ i := fun c hc i hi => by
          rcases List.mem_append.mp hc with z | z
          · exact ⟨C.r c z i hi, C.r0 c z i hi⟩
          · rw [List.mem_singleton.mp z] at hi
            simp only [rsN, List.mem_cons, List.not_mem_nil, or_false] at hi
            rcases hi with rfl | rfl | rfl
            · have := ab b4; exact ⟨sm_le (by omega), this.1⟩
            · have := ab b5; exact ⟨sm_le (by omega), this.1⟩
            · have := ab b6; exact ⟨sm_le (by omega), this.1⟩
        exact ⟨fun c hc => (hpN c hc).1, fun c hc i hi => (hrN c hc i hi).1, fun c hc => (hpN c hc).2, fun c hc i hi => (hrN c hc i hi).2, by omega, by rw [List.length_append]; simp; omega⟩
      · have z := of_decide_eq_false z
        exact W_nil ⟨ps ++ [(absI m0, m1, m2, absI m3)], rs, _, _, rfl, lpc, ⟨fun c hc => (hpN c hc).1, C.r, fun c hc => (hpN c hc).2, C.r0, by omega, by omega⟩⟩
    · rintro Γ ⟨ps, rs, s4, s5, rfl, pk, C⟩
      exact W_frz (W_frz (W_ret (ev_tu (ev_cs (ev_V rfl) (ev_cs (ev_V rfl) ev_nl))) ⟨ps, rs, C, by omega, rfl⟩))
  obtain ⟨_, h1, ps, rs, C, C6, rfl⟩ := key
  exact ⟨ps, rs, C, C6, h1⟩
theorem mulS_ok {x : Str} {n : Nat} (h0 : 1 < n) (h1 : x.length = 1) (h2 : n < 1000) : dMulS (.str x) (.int n) = some (.str (Txt.mul x n)) := by
  unfold dMulS
  refine if_pos ⟨by rw [decide_eq_false (by omega), decide_eq_false (by omega)]; rfl, fun _ _ => ?_, fun _ _ => ?_⟩
  · rw [h1]
    have : (1 : Int) ≤ (2 ^ 63 - 1) / (n : Int) := by rw [Int.le_ediv_iff_mul_le (by omega)]; omega
    omega
  · rw [h1, Int.toNat_natCast]
    exact decide_eq_false (by have : (1000 : Nat) ≤ sizeLine := by decide +kernel
                              omega)
def od1 : List Str := ["", " ", "cutting", "Cutting", "cutting ", "piece", "piece 0 0 0 1", "piece 0 -0 0 1", "piece 0 0 0 -1"]
def od2 : List Str := ["piece 00 0 0 1", "piece 0 +1 0 1", "piece 0 0 0 1 ", "piece  0 0 0 1", "piece 0 0 0", "piece 0 -5 -6 0"]
def od3 : List Str := ["reason 0 1 2", "reason 0 1", "reason 0 1 2 3", "reason -1 1 2", "reason 0 1 02", "piece 1 2 3 4", "1"]
def od4 : List Str := ["piece 0 " ++ Txt.mul "9" 60 ++ " 0 1", "piece 0 " ++ Txt.mul "9" 61 ++ " 0 1", "piece 0 -" ++ Txt.mul "1" 60 ++ " 0 1"]
def odb (x : Str) : Bool := (tl x).all (fun c => decide (c < 128) && !(c == 10)) && decide (x.length < 100)
theorem odb_ok {x : Str} (h : odb x = true) : OkX x ∧ x.length < 100 := by
  unfold odb at h
  rw [Bool.and_eq_true, List.all_eq_true, decide_eq_true_eq] at h
  refine ⟨⟨fun c hc => ?_, fun hc => ?_⟩, h.2⟩
  · have := h.1 c hc
    rw [Bool.and_eq_true, decide_eq_true_eq] at this
    exact this.1
  · have := h.1 10 hc
    simp at this
theorem ods_ok : ((od1 ++ od2 ++ od3 ++ od4).all odb) = true := by decide +kernel
def tB : Nat → Nat
  | 0 => 3732
  | k + 1 => 5 * tB k + 100
theorem law_true (ns : List Int) (hl : ns.length ≤ 63) : S_law [.scr ns] = some (.bl true) := by
  obtain ⟨ps, rs, C, C6, hC⟩ := cutting_ex (cell ns (Int.toNat 0))
  have ljn := lines_eq C
  obtain ⟨odd, hodd⟩ : ∃ odd, odd = od1 ++ od2 ++ od3 ++ od4 := ⟨_, rfl⟩
  have ho : ∀ x ∈ odd, OkX x ∧ x.length < 100 := fun x hx => odb_ok (List.all_eq_true.mp ods_ok x (hodd ▸ hx))
  have hol : odd.length = 25 := by rw [hodd]; rfl
  have hone : odd ≠ [] := fun e => by rw [e] at hol; cases hol
  have ll := lin_len ps rs ps.length
  have rl := C.rl
  have G0 : LG 12 3732 (linK ps rs ps.length) := by
    refine ⟨fun x hx => ⟨?_, ?_⟩, by omega, ?_⟩
    · exact lin_all C AscS as_cutting (fun c _ => lineW_asc as_piece) (fun c _ => lineW_asc as_reason) _ (Nat.le_refl _) x hx
    · exact lin_all C (fun x => 10 ∉ tl x) (by rw [tl_cutting]; decide) (fun c _ => lineW_free (by rw [tl_piece]; decide) (by omega) (by omega) (by omega)) (fun c _ => lineW_free (by rw [tl_reason]; decide) (by omega) (by omega) (by omega)) _ (Nat.le_refl _) x hx
    · have h1 := tT_le (lin_lens C)
      have h2 := Nat.mul_le_mul_right 311 (show (linK ps rs ps.length).length ≤ 12 by omega)
      omega
  refine run_Weq ?_
  unfold B_law
  show W _ [.sh (.scr ns), .no, .no, .no, .no, .no] _
  refine wq_unp (d := .tup [.lst (ps.map encC), .lst (rs.map encL)]) (ev_call (ev_cs (ev_call (ev_cs (ev_V rfl) (ev_cs ev_I ev_nl)) (cell_eq _ _ (by decide))) ev_nl) hC) (Γ1 := [.sh (.scr ns), .sh (.lst (ps.map encC)), .sh (.lst (rs.map encL)), .no, .no, .no]) rfl ?_
  refine wq_set (ev_call (ev_cs (ev_V rfl) (ev_cs (ev_V rfl) ev_nl)) ljn) ?_
  generalize linK ps rs ps.length = ls at G0
  show W _ [.sh (.scr ns), .sh (.lst (ps.map encC)), .sh (.lst (rs.map encL)), .sh (.lst (ls.map D.str)), .no, .no] _
  refine wq_set (d := .lst (od1.map D.str)) rfl ?_
  refine wq_set (d := .lst ((od1 ++ od2).map D.str)) (ev_op (x := .lst (od1.map D.str)) (y := .lst (od2.map D.str)) (ev_V rfl) rfl (d_cat (by decide))) ?_
  refine wq_set (d := .lst ((od1 ++ od2 ++ od3).map D.str)) (ev_op (x := .lst ((od1 ++ od2).map D.str)) (y := .lst (od3.map D.str)) (ev_V rfl) rfl (d_cat (by decide))) ?_
  have cc : ∀ {f g h : Ex} {Γ : DEnv} {a b c : Str}, f Γ = some (.str a) → g Γ = some (.str b) → h Γ = some (.str c) → a.length + b.length < 1000000 → (a ++ b).length + c.length < 1000000 → gOp dAdd (gOp dAdd f g) h Γ = some (.str (a ++ b ++ c)) := fun h1 h2 h3 h4 h5 => ev_op (ev_op h1 h2 (d_addS h4)) h3 (d_addS h5)
  refine wq_set (d := .lst (odd.map D.str)) ?_ ?_
  · rw [hodd]
    refine ev_op (x := .lst ((od1 ++ od2 ++ od3).map D.str)) (y := .lst (od4.map D.str)) (ev_V rfl) ?_ (d_cat (by decide))
    refine ev_L (ev_cs (cc ev_C (ev_op (x := .str "9") (y := .int ((60 : Nat) : Int)) ev_C ev_I (mulS_ok (by omega) rfl (by omega))) ev_C (by decide +kernel) (by decide +kernel)) (ev_cs (cc ev_C (ev_op (x := .str "9") (y := .int ((61 : Nat) : Int)) ev_C ev_I (mulS_ok (by omega) rfl (by omega))) ev_C (by decide +kernel) (by decide +kernel)) (ev_cs (cc ev_C (ev_op (x := .str "1") (y := .int ((60 : Nat) : Int)) ev_C ev_I (mulS_ok (by omega) rfl (by omega))) ev_C (by decide +kernel) (by decide +kernel)) ev_nl)))
  show W _ [.sh (.scr ns), .sh (.lst (ps.map encC)), .sh (.lst (rs.map encL)), .sh (.lst (ls.map D.str)), .sh (.lst (odd.map D.str)), .no] _
  have n0 := Int.emod_nonneg (cell ns (Int.toNat 1)) (show (4 : Int) ≠ 0 by omega)
  have n1 := Int.emod_lt_of_pos (cell ns (Int.toNat 1)) (show (0 : Int) < 4 by omega)
  have hcnt : gOp dMod (gU dInt (gCall S__law_cell (aC (gV 0) (aC (gI 1) aN)))) (gI 4) [.sh (.scr ns), .sh (.lst (ps.map encC)), .sh (.lst (rs.map encL)), .sh (.lst (ls.map D.str)), .sh (.lst (odd.map D.str)), .no] = some (.int (cell ns (Int.toNat 1) % 4)) := ev_op (ev_U (ev_call (ev_cs (ev_V rfl) (ev_cs ev_I ev_nl)) (cell_eq _ _ (by decide))) rfl) ev_I (d_mod (by decide))
  generalize cell ns (Int.toNat 1) % 4 = n at n0 n1 hcnt
  obtain ⟨n, rfl⟩ := Int.eq_ofNat_of_zero_le n0
  refine wq_rng (lo := 0) (n := n) (fun k Γ => ∃ (ls : List Str) (s5 : Sl), Γ = [.sh (.scr ns), .sh (.lst (ps.map encC)), .sh (.lst (rs.map encL)), .sh (.lst (ls.map D.str)), .sh (.lst (odd.map D.str)), s5] ∧ LG (12 + k) (tB k) ls) ((ev_rng1 (m := n) (ev_cs hcnt ev_nl) (by omega) (by omega)).trans (by rw [Int.toNat_natCast])) ⟨ls, _, rfl, G0⟩ ?_ ?_
  · rintro k Γ hk ⟨ls, s5, rfl, G⟩
    have ek : (0 + (k : Nat) : Int) = (k : Nat) := by omega
    rw [ek]
    refine ⟨[.sh (.scr ns), .sh (.lst (ps.map encC)), .sh (.lst (rs.map encL)), .sh (.lst (ls.map D.str)), .sh (.lst (odd.map D.str)), .sh (.int (k : Nat))], rfl, ?_⟩
    have hT : tB k ≤ 170000 := by
      have : k < 3 := by omega
      match k, this with
      | 0, _ => decide
      | 1, _ => decide
      | 2, _ => decide
    obtain ⟨ls', h1, h2⟩ := changed_eq (cell := cell ns (2 + (k : Nat) : Int).toNat) G ho hone (by omega) hT (by omega)
    exact W_set (ev_call (ev_cs (ev_V rfl) (ev_cs (ev_call (ev_cs (ev_V rfl) (ev_cs (ev_op (x := .int 2) (y := .int (k : Nat)) ev_I (ev_V rfl) rfl) ev_nl)) (cell_eq _ _ (by omega))) (ev_cs (ev_V rfl) ev_nl))) h1) ⟨ls', _, rfl, h2⟩
  · rintro Γ ⟨ls, s5, rfl, G⟩
    have hT : tB n ≤ 469600 := by
      have : n < 4 := by omega
      match n, this with
      | 0, _ => decide
      | 1, _ => decide
      | 2, _ => decide
      | 3, _ => decide
    have fin : ∀ ls : List Str, LG 15 469600 ls → ls ≠ [] → W (sRet (gOp dEq (gCall S__law_told (aC (gOp dJoin (gC (.str "\n")) (gB 3)) aN)) (gCall S__law_fault (aC (gV 3) aN)))) [.sh (.scr ns), .sh (.lst (ps.map encC)), .sh (.lst (rs.map encL)), .sh (.lst (ls.map D.str)), .sh (.lst (odd.map D.str)), s5] (isRt (· = .bl true)) := fun ls G hne => by
      have few := G.few
      have tot := G.tot
      have tt := tT_tot ls
      have jl := join_nl_len ls
      have sml : ∀ x ∈ ls, x.length < 900000 := fun x hx => by have := tT_mem hx; omega
      obtain ⟨n, hn, hf⟩ := fault_eq (fun x hx => (G.ok x hx).1) sml hne (by omega)
      have hj : dJoin (.str "\n") (.lst (ls.map D.str)) = some (.str (Txt.join "\n" ls)) := d_join (by
        have : ls.length * ("\n" : Str).length = ls.length := Nat.mul_one _
        omega)
      have hsp : Txt.split (Txt.join "\n" ls) "\n" = ls := split_join (s := 10) (S := []) rfl (by decide +kernel) hne fun p hp => (G.ok p hp).2
      have hat : AscS (Txt.join "\n" ls) := fun c hc => by
        rw [join_eq, tl_join, nl_tl] at hc
        rcases joinL_mem hc with h | ⟨p, hp, h⟩
        · rw [List.mem_singleton.mp h]; decide
        · obtain ⟨x, hx, rfl⟩ := List.mem_map.mp hp
          exact (G.ok x hx).1 c h
      have ht := told_eq (fun x hx => (G.ok x hx).1) sml (by omega) (by omega) hsp rfl hat hf
      refine W_ret (ev_op (x := .int (n : Nat)) (y := .int (n : Nat)) (ev_call (ev_cs (ev_op (x := .str "\n") (y := .lst (ls.map D.str)) ev_C (ev_B rfl) hj) ev_nl) ht) (ev_call (ev_cs (ev_V rfl) ev_nl) hn) (d_eq eqOk_int eqOk_int (eqd_int.trans ?_))) rfl
      exact beq_self_eq_true _
    have lgt : dLen (.lst (ls.map D.str)) = some (.int (ls.length : Nat)) := by rw [d_lenL, List.length_map]
    refine wq_if (b := decide (ls.length = 0)) (ev_T (ev_op (x := .int (ls.length : Nat)) (ev_U (x := .lst (ls.map D.str)) (ev_B rfl) lgt) ev_I ?_)) (fun z => ?_) fun z => W_nil (fin ls ⟨G.ok, Nat.le_trans G.few (by omega), Nat.le_trans G.tot hT⟩ fun e => by rw [e] at z; cases z)
    · have e : ((ls.length : Int) == 0) = decide (ls.length = 0) := by
        rw [Bool.eq_iff_iff, beq_iff_eq, decide_eq_true_eq]
        omega
      exact d_eq eqOk_int eqOk_int (eqd_int.trans e)
    · exact W_set (d := .lst ([("" : Str)].map D.str)) rfl (fin [""] ⟨fun x hx => by rw [List.mem_singleton.mp hx]; exact OkX_nil, by simp, by decide +kernel⟩ (by simp))
end K37

namespace K37
open PySem L2 DL
def spLaw (K : PySem.W.Frag) : Sp := fun vs H Q _ => ∃ (a : Addr) (ns : List Int), vs = [.ref a] ∧ SqL K H a (ns.map V.int) ∧ ns.length ≤ 63 ∧ ∀ H', Q (.bl true) H'
abbrev s_I : Stmt := inClass (topS 5) 0
theorem all_mk {P : Program} {w : World} {K : PySem.W.Frag} {h : Heap} {mg : Str → Option Value} {fa : Addr} (X : K.In h) (G : h.Ns mainGlobals mg) (hfa : mg "law" = some (.ref fa))
    {C0 : Addr} (gC0 : PySem.W.nsIn K mainGlobals "Cutting" = some (some (.ref C0))) (pg0 : PySem.W.plainGet K C0 Str.empty = true) (hd0 : PySem.W.hasDictIn K C0 = true) (po0 : PySem.W.plainOver K C0 = true) (sa0 : PySem.W.findIn K (.ref C0) "__setattr__" = some (some (.builtin "object.__setattr__")))
    (nf0_0 : PySem.W.findIn K (.ref C0) "pieces" = some none)
    (nf0_1 : PySem.W.findIn K (.ref C0) "reasons" = some none)
    (mk0 : PySem.W.makesIn K C0 = true) (kc0 : PySem.W.keepIn K (.ref C0) = true)
    {C22 : Addr} (gC22 : PySem.W.nsIn K mainGlobals "Paper" = some (some (.ref C22))) (pg22 : PySem.W.plainGet K C22 Str.empty = true) (hd22 : PySem.W.hasDictIn K C22 = true) (po22 : PySem.W.plainOver K C22 = true) (sa22 : PySem.W.findIn K (.ref C22) "__setattr__" = some (some (.builtin "object.__setattr__")))
    (nf22_0 : PySem.W.findIn K (.ref C22) "_lines" = some none)
    (nf22_1 : PySem.W.findIn K (.ref C22) "number" = some none)
    (mk22 : PySem.W.makesIn K C22 = true) (kc22 : PySem.W.keepIn K (.ref C22) = true)
    {CI fI cdI ccI NI : Addr} {nmI qI fileI : Str} {bsI bmI subI : List Value} {snI : List Str} {abI : Bool} {colI : Option Bool} {ddI : Option Addr} {xI0 xI1 xI2 xI3 xI5 : Option Value} {ocI kVI dcI pmI ctI clI ccvI : Value} {odI anI cldI cddI : Option Addr} {slI cslI ccsI : Array (Option Value)} {vsI : Array Value} {tfI : Tok}
    (gCI : PySem.W.nsIn K mainGlobals "InvalidPaper" = some (some (.ref CI))) (xlI : K.lookup CI = some (excClassObj nmI qI CI NI bsI bmI true snI subI abI colI ddI xI0 xI1 xI2 xI3 xI5 "ValueError.__new__")) (xrI : PySem.HandSPX.refsVE bmI = true)
    (saI : PySem.W.findIn K (.ref CI) "__setattr__" = some (some (.builtin "object.__setattr__"))) (exI : PySem.W.subIn K (.ref CI) (.type "BaseException") = some true) (tyI : PySem.W.typeIn K (.ref CI) = some (.type "type")) (kcI : PySem.W.keepIn K (.ref CI) = true)
    (iI : PySem.W.findIn K (.ref CI) "__init__" = some (some (.ref fI))) (tI : PySem.W.typeIn K (.ref fI) = some (.type "function"))
    (lkI : K.lookup fI = some ⟨ocI, odI, .func (PySem.W.ksFn "__init__" "InvalidPaper.__init__" (defArgs s_I) (defBody s_I) (defScope s_I) .none kVI dcI pmI anI (.ref cdI) ctI ccI), slI⟩) (cdkI : PySem.W.codeIn K (.ref cdI) "InvalidPaper.__init__" = true)
    (hcI : K.lookup cdI = some ⟨ccvI, cddI, .fields vsI, ccsI⟩) (hvI : vsI[2]? = some (.str fileI tfI)) (hfI : ((P.main.file : Str) == fileI) = true) (htI : (P.main.scope.names.lookup ("super" : Str)).isSome = false)
    (lcI : K.lookup ccI = some ⟨clI, cldI, .cell (some (.ref CI)), cslI⟩) (mrI : PySem.W.mroIn K CI (.ref CI) = some true) (noI : PySem.W.nsIn K cStatics "thirdparty.any" = some none)
    (siI : PySem.W.ks_superIn K CI CI "__init__" = some (some (.builtin "ValueError.__init__"))) (veI : PySem.W.subIn K (.ref CI) (.type "ValueError") = some true) (lnI : PySem.W.findIn K (.ref CI) "line" = some none) (zsI : PySem.W.nsIn K mainGlobals "super" = some none) (emI : PySem.W.exmOne K (.ref CI) (.ref CI) = some true)
    {CLI : Addr} (xgI : PySem.W.findIn K (.ref CI) "__getattribute__" = some (some (.builtin "BaseException.__getattribute__"))) (xkI : PySem.W.findIn K (.ref CI) "__getattr__" = some none) (xhI : PySem.W.hasDictIn K CI = true) (xcI : (PySem.W.clsIn K CI).isSome = true)
    (xaI : PySem.W.findIn K (.ref CI) "__class__" = some (some (.builtin "object.__class__"))) (xnI : PySem.W.specialIn K (.builtin "object.__class__") "__get__" = some (some (.builtin "getset_descriptor.__get__"))) (xtI : PySem.W.takesIn K (.builtin "object.__class__") = some true) (xmI : PySem.W.mroIn K CI (.type "object") = some true)
    (gLI : PySem.W.nsIn K mainGlobals "LinesError" = some (some (.ref CLI))) (klI : PySem.W.kitOne K (.ref CI) (.ref CLI) = some true) (kvI : PySem.W.kitOne K (.ref CI) (.type "ValueError") = some true)
    {f1 : Addr} {od1 an1 : Option Addr} {sl1 : Array (Option Value)} {oc1 kV1 dc1 pm1 cd1 ct1 : Value} (a1 : PySem.W.nsIn K mainGlobals "_law_digits" = some (some (.ref f1))) (l1 : K.lookup f1 = some ⟨oc1, od1, .func (PySem.W.fnOf "_law_digits" "_law_digits" (defArgs s__law_digits) (defBody s__law_digits) (defScope s__law_digits) .none kV1 dc1 pm1 an1 cd1 ct1), sl1⟩) (c1 : PySem.W.codeIn K cd1 "_law_digits" = true) (k1 : PySem.W.keepIn K (.ref f1) = true)
    {f2 : Addr} {od2 an2 : Option Addr} {sl2 : Array (Option Value)} {oc2 kV2 dc2 pm2 cd2 ct2 : Value} (a2 : PySem.W.nsIn K mainGlobals "_law_number" = some (some (.ref f2))) (l2 : K.lookup f2 = some ⟨oc2, od2, .func (PySem.W.fnOf "_law_number" "_law_number" (defArgs s__law_number) (defBody s__law_number) (defScope s__law_number) .none kV2 dc2 pm2 an2 cd2 ct2), sl2⟩) (c2 : PySem.W.codeIn K cd2 "_law_number" = true) (k2 : PySem.W.keepIn K (.ref f2) = true)
    {f3 : Addr} {od3 an3 : Option Addr} {sl3 : Array (Option Value)} {oc3 kV3 dc3 pm3 cd3 ct3 : Value} (a3 : PySem.W.nsIn K mainGlobals "_law_cutting" = some (some (.ref f3))) (l3 : K.lookup f3 = some ⟨oc3, od3, .func (PySem.W.fnOf "_law_cutting" "_law_cutting" (defArgs s__law_cutting) (defBody s__law_cutting) (defScope s__law_cutting) .none kV3 dc3 pm3 an3 cd3 ct3), sl3⟩) (c3 : PySem.W.codeIn K cd3 "_law_cutting" = true) (k3 : PySem.W.keepIn K (.ref f3) = true)
    {f4 : Addr} {od4 an4 : Option Addr} {sl4 : Array (Option Value)} {oc4 kV4 dc4 pm4 cd4 ct4 : Value} (a4 : PySem.W.nsIn K mainGlobals "_law_lines" = some (some (.ref f4))) (l4 : K.lookup f4 = some ⟨oc4, od4, .func (PySem.W.fnOf "_law_lines" "_law_lines" (defArgs s__law_lines) (defBody s__law_lines) (defScope s__law_lines) .none kV4 dc4 pm4 an4 cd4 ct4), sl4⟩) (c4 : PySem.W.codeIn K cd4 "_law_lines" = true) (k4 : PySem.W.keepIn K (.ref f4) = true)
    {f5 : Addr} {od5 an5 : Option Addr} {sl5 : Array (Option Value)} {oc5 kV5 dc5 pm5 cd5 ct5 : Value} (a5 : PySem.W.nsIn K mainGlobals "_law_cell" = some (some (.ref f5))) (l5 : K.lookup f5 = some ⟨oc5, od5, .func (PySem.W.fnOf "_law_cell" "_law_cell" (defArgs s__law_cell) (defBody s__law_cell) (defScope s__law_cell) .none kV5 dc5 pm5 an5 cd5 ct5), sl5⟩) (c5 : PySem.W.codeIn K cd5 "_law_cell" = true) (k5 : PySem.W.keepIn K (.ref f5) = true)
    {f6 : Addr} {od6 an6 : Option Addr} {sl6 : Array (Option Value)} {oc6 kV6 dc6 pm6 cd6 ct6 : Value} (a6 : PySem.W.nsIn K mainGlobals "_law_changed" = some (some (.ref f6))) (l6 : K.lookup f6 = some ⟨oc6, od6, .func (PySem.W.fnOf "_law_changed" "_law_changed" (defArgs s__law_changed) (defBody s__law_changed) (defScope s__law_changed) .none kV6 dc6 pm6 an6 cd6 ct6), sl6⟩) (c6 : PySem.W.codeIn K cd6 "_law_changed" = true) (k6 : PySem.W.keepIn K (.ref f6) = true)
    {f7 : Addr} {od7 an7 : Option Addr} {sl7 : Array (Option Value)} {oc7 kV7 dc7 pm7 cd7 ct7 : Value} (a7 : PySem.W.findIn K (.ref C22) "__init__" = some (some (.ref f7))) (i7 : PySem.W.isFn K (.ref f7) = true) (l7 : K.lookup f7 = some ⟨oc7, od7, .func (PySem.W.fnOf "__init__" "Paper.__init__" (defArgs s_Paper___init__) (defBody s_Paper___init__) (defScope s_Paper___init__) .none kV7 dc7 pm7 an7 cd7 ct7), sl7⟩) (c7 : PySem.W.codeIn K cd7 "Paper.__init__" = true) (k7 : PySem.W.keepIn K (.ref f7) = true)
    {f8 : Addr} {od8 an8 : Option Addr} {sl8 : Array (Option Value)} {oc8 kV8 dc8 pm8 cd8 ct8 : Value} (a8 : PySem.W.nsIn K mainGlobals "number_of" = some (some (.ref f8))) (l8 : K.lookup f8 = some ⟨oc8, od8, .func (PySem.W.fnOf "number_of" "number_of" (defArgs s_number_of) (defBody s_number_of) (defScope s_number_of) .none kV8 dc8 pm8 an8 cd8 ct8), sl8⟩) (c8 : PySem.W.codeIn K cd8 "number_of" = true) (k8 : PySem.W.keepIn K (.ref f8) = true)
    {f9 : Addr} {od9 an9 : Option Addr} {sl9 : Array (Option Value)} {oc9 kV9 dc9 pm9 cd9 ct9 : Value} (a9 : PySem.W.nsIn K mainGlobals "numbers_in" = some (some (.ref f9))) (l9 : K.lookup f9 = some ⟨oc9, od9, .func (PySem.W.fnOf "numbers_in" "numbers_in" (defArgs s_numbers_in) (defBody s_numbers_in) (defScope s_numbers_in) .none kV9 dc9 pm9 an9 cd9 ct9), sl9⟩) (c9 : PySem.W.codeIn K cd9 "numbers_in" = true) (k9 : PySem.W.keepIn K (.ref f9) = true)
    {f10 : Addr} {od10 an10 : Option Addr} {sl10 : Array (Option Value)} {oc10 kV10 dc10 pm10 cd10 ct10 : Value} (a10 : PySem.W.findIn K (.ref C22) "ended" = some (some (.ref f10))) (i10 : PySem.W.isFn K (.ref f10) = true) (l10 : K.lookup f10 = some ⟨oc10, od10, .func (PySem.W.fnOf "ended" "Paper.ended" (defArgs s_Paper_ended) (defBody s_Paper_ended) (defScope s_Paper_ended) .none kV10 dc10 pm10 an10 cd10 ct10), sl10⟩) (c10 : PySem.W.codeIn K cd10 "Paper.ended" = true) (k10 : PySem.W.keepIn K (.ref f10) = true)
    {f11 : Addr} {od11 an11 : Option Addr} {sl11 : Array (Option Value)} {oc11 kV11 dc11 pm11 cd11 ct11 : Value} (a11 : PySem.W.findIn K (.ref C22) "next_line" = some (some (.ref f11))) (i11 : PySem.W.isFn K (.ref f11) = true) (l11 : K.lookup f11 = some ⟨oc11, od11, .func (PySem.W.fnOf "next_line" "Paper.next_line" (defArgs s_Paper_next_line) (defBody s_Paper_next_line) (defScope s_Paper_next_line) .none kV11 dc11 pm11 an11 cd11 ct11), sl11⟩) (c11 : PySem.W.codeIn K cd11 "Paper.next_line" = true) (k11 : PySem.W.keepIn K (.ref f11) = true)
    {f12 : Addr} {od12 an12 : Option Addr} {sl12 : Array (Option Value)} {oc12 kV12 dc12 pm12 cd12 ct12 : Value} (a12 : PySem.W.findIn K (.ref C22) "numbers" = some (some (.ref f12))) (i12 : PySem.W.isFn K (.ref f12) = true) (l12 : K.lookup f12 = some ⟨oc12, od12, .func (PySem.W.fnOf "numbers" "Paper.numbers" (defArgs s_Paper_numbers) (defBody s_Paper_numbers) (defScope s_Paper_numbers) .none kV12 dc12 pm12 an12 cd12 ct12), sl12⟩) (c12 : PySem.W.codeIn K cd12 "Paper.numbers" = true) (k12 : PySem.W.keepIn K (.ref f12) = true)
    {f13 : Addr} {od13 an13 : Option Addr} {sl13 : Array (Option Value)} {oc13 kV13 dc13 pm13 cd13 ct13 : Value} (a13 : PySem.W.findIn K (.ref C0) "__init__" = some (some (.ref f13))) (i13 : PySem.W.isFn K (.ref f13) = true) (l13 : K.lookup f13 = some ⟨oc13, od13, .func (PySem.W.fnOf "__init__" "Cutting.__init__" (defArgs s_Cutting___init__) (defBody s_Cutting___init__) (defScope s_Cutting___init__) .none kV13 dc13 pm13 an13 cd13 ct13), sl13⟩) (c13 : PySem.W.codeIn K cd13 "Cutting.__init__" = true) (k13 : PySem.W.keepIn K (.ref f13) = true)
    {f14 : Addr} {od14 an14 : Option Addr} {sl14 : Array (Option Value)} {oc14 kV14 dc14 pm14 cd14 ct14 : Value} (a14 : PySem.W.nsIn K mainGlobals "piece_of" = some (some (.ref f14))) (l14 : K.lookup f14 = some ⟨oc14, od14, .func (PySem.W.fnOf "piece_of" "piece_of" (defArgs s_piece_of) (defBody s_piece_of) (defScope s_piece_of) .none kV14 dc14 pm14 an14 cd14 ct14), sl14⟩) (c14 : PySem.W.codeIn K cd14 "piece_of" = true) (k14 : PySem.W.keepIn K (.ref f14) = true)
    {f15 : Addr} {od15 an15 : Option Addr} {sl15 : Array (Option Value)} {oc15 kV15 dc15 pm15 cd15 ct15 : Value} (a15 : PySem.W.nsIn K mainGlobals "read_cutting" = some (some (.ref f15))) (l15 : K.lookup f15 = some ⟨oc15, od15, .func (PySem.W.fnOf "read_cutting" "read_cutting" (defArgs s_read_cutting) (defBody s_read_cutting) (defScope s_read_cutting) .none kV15 dc15 pm15 an15 cd15 ct15), sl15⟩) (c15 : PySem.W.codeIn K cd15 "read_cutting" = true) (k15 : PySem.W.keepIn K (.ref f15) = true)
    {f16 : Addr} {od16 an16 : Option Addr} {sl16 : Array (Option Value)} {oc16 kV16 dc16 pm16 cd16 ct16 : Value} (a16 : PySem.W.nsIn K mainGlobals "write_cutting" = some (some (.ref f16))) (l16 : K.lookup f16 = some ⟨oc16, od16, .func (PySem.W.fnOf "write_cutting" "write_cutting" (defArgs s_write_cutting) (defBody s_write_cutting) (defScope s_write_cutting) .none kV16 dc16 pm16 an16 cd16 ct16), sl16⟩) (c16 : PySem.W.codeIn K cd16 "write_cutting" = true) (k16 : PySem.W.keepIn K (.ref f16) = true)
    {f17 : Addr} {od17 an17 : Option Addr} {sl17 : Array (Option Value)} {oc17 kV17 dc17 pm17 cd17 ct17 : Value} (a17 : PySem.W.nsIn K mainGlobals "_law_told" = some (some (.ref f17))) (l17 : K.lookup f17 = some ⟨oc17, od17, .func (PySem.W.fnOf "_law_told" "_law_told" (defArgs s__law_told) (defBody s__law_told) (defScope s__law_told) .none kV17 dc17 pm17 an17 cd17 ct17), sl17⟩) (c17 : PySem.W.codeIn K cd17 "_law_told" = true) (k17 : PySem.W.keepIn K (.ref f17) = true)
    {f18 : Addr} {od18 an18 : Option Addr} {sl18 : Array (Option Value)} {oc18 kV18 dc18 pm18 cd18 ct18 : Value} (a18 : PySem.W.nsIn K mainGlobals "_law_is_plain" = some (some (.ref f18))) (l18 : K.lookup f18 = some ⟨oc18, od18, .func (PySem.W.fnOf "_law_is_plain" "_law_is_plain" (defArgs s__law_is_plain) (defBody s__law_is_plain) (defScope s__law_is_plain) .none kV18 dc18 pm18 an18 cd18 ct18), sl18⟩) (c18 : PySem.W.codeIn K cd18 "_law_is_plain" = true) (k18 : PySem.W.keepIn K (.ref f18) = true)
    {f19 : Addr} {od19 an19 : Option Addr} {sl19 : Array (Option Value)} {oc19 kV19 dc19 pm19 cd19 ct19 : Value} (a19 : PySem.W.nsIn K mainGlobals "_law_is_signed" = some (some (.ref f19))) (l19 : K.lookup f19 = some ⟨oc19, od19, .func (PySem.W.fnOf "_law_is_signed" "_law_is_signed" (defArgs s__law_is_signed) (defBody s__law_is_signed) (defScope s__law_is_signed) .none kV19 dc19 pm19 an19 cd19 ct19), sl19⟩) (c19 : PySem.W.codeIn K cd19 "_law_is_signed" = true) (k19 : PySem.W.keepIn K (.ref f19) = true)
    {f20 : Addr} {od20 an20 : Option Addr} {sl20 : Array (Option Value)} {oc20 kV20 dc20 pm20 cd20 ct20 : Value} (a20 : PySem.W.nsIn K mainGlobals "_law_has_form" = some (some (.ref f20))) (l20 : K.lookup f20 = some ⟨oc20, od20, .func (PySem.W.fnOf "_law_has_form" "_law_has_form" (defArgs s__law_has_form) (defBody s__law_has_form) (defScope s__law_has_form) .none kV20 dc20 pm20 an20 cd20 ct20), sl20⟩) (c20 : PySem.W.codeIn K cd20 "_law_has_form" = true) (k20 : PySem.W.keepIn K (.ref f20) = true)
    {f21 : Addr} {od21 an21 : Option Addr} {sl21 : Array (Option Value)} {oc21 kV21 dc21 pm21 cd21 ct21 : Value} (a21 : PySem.W.nsIn K mainGlobals "_law_fault" = some (some (.ref f21))) (l21 : K.lookup f21 = some ⟨oc21, od21, .func (PySem.W.fnOf "_law_fault" "_law_fault" (defArgs s__law_fault) (defBody s__law_fault) (defScope s__law_fault) .none kV21 dc21 pm21 an21 cd21 ct21), sl21⟩) (c21 : PySem.W.codeIn K cd21 "_law_fault" = true) (k21 : PySem.W.keepIn K (.ref f21) = true)
    {f22 : Addr} {od22 an22 : Option Addr} {sl22 : Array (Option Value)} {oc22 kV22 dc22 pm22 cd22 ct22 : Value} (a22 : PySem.W.nsIn K mainGlobals "law" = some (some (.ref f22))) (l22 : K.lookup f22 = some ⟨oc22, od22, .func (PySem.W.fnOf "law" "law" (defArgs s_law) (defBody s_law) (defScope s_law) .none kV22 dc22 pm22 an22 cd22 ct22), sl22⟩) (c22 : PySem.W.codeIn K cd22 "law" = true) (k22 : PySem.W.keepIn K (.ref f22) = true)
    (z_range : PySem.W.nsIn K mainGlobals "range" = some none)
    (z_int : PySem.W.nsIn K mainGlobals "int" = some none)
    (z_abs : PySem.W.nsIn K mainGlobals "abs" = some none)
    (z_len : PySem.W.nsIn K mainGlobals "len" = some none)
    (z_str : PySem.W.nsIn K mainGlobals "str" = some none)
    (z_max : PySem.W.nsIn K mainGlobals "max" = some none)
    (z_zip : PySem.W.nsIn K mainGlobals "zip" = some none)
    (z_list : PySem.W.nsIn K mainGlobals "list" = some none)
    (z_tuple : PySem.W.nsIn K mainGlobals "tuple" = some none)
    (z_enumerate : PySem.W.nsIn K mainGlobals "enumerate" = some none)
    (z_isinstance : PySem.W.nsIn K mainGlobals "isinstance" = some none)
    (z_ValueError : PySem.W.nsIn K mainGlobals "ValueError" = some none)
    {tk_MOST_DIGITS : Tok} (q_MOST_DIGITS : PySem.W.nsIn K mainGlobals "MOST_DIGITS" = some (some (.int 60 tk_MOST_DIGITS)))
    {aT_PIECE_SIGNS : Addr} {oT_PIECE_SIGNS : Option Addr} {sT_PIECE_SIGNS : Array (Option Value)} {nT_PIECE_SIGNS : Nat} (qT_PIECE_SIGNS : PySem.W.nsIn K mainGlobals "PIECE_SIGNS" = some (some (.ref aT_PIECE_SIGNS))) (lT_PIECE_SIGNS : K.lookup aT_PIECE_SIGNS = some ⟨.type "tuple", oT_PIECE_SIGNS, .seq #[.bool false, .bool true, .bool true, .bool false] nT_PIECE_SIGNS, sT_PIECE_SIGNS⟩)
    {aT_REASON_SIGNS : Addr} {oT_REASON_SIGNS : Option Addr} {sT_REASON_SIGNS : Array (Option Value)} {nT_REASON_SIGNS : Nat} (qT_REASON_SIGNS : PySem.W.nsIn K mainGlobals "REASON_SIGNS" = some (some (.ref aT_REASON_SIGNS))) (lT_REASON_SIGNS : K.lookup aT_REASON_SIGNS = some ⟨.type "tuple", oT_REASON_SIGNS, .seq #[.bool false, .bool false, .bool false] nT_REASON_SIGNS, sT_REASON_SIGNS⟩) :
    ∃ fd : FuncData, (∀ (s : Shared) (v : Value), BindsTo s fd ⟨[v], []⟩ [("script", v)]) ∧ ∀ base : Heap, K.In base → base.Ns mainGlobals mg → FnOk P w K mg base CX0 7 fa fd ["script"] (spLaw K) := by
  have e := hfa.symm.trans (PySem.W.mg_of X G a22)
  cases e
  have M_range := PySem.W.mg_none_of X G z_range
  have M_int := PySem.W.mg_none_of X G z_int
  have M_abs := PySem.W.mg_none_of X G z_abs
  have M_len := PySem.W.mg_none_of X G z_len
  have M_str := PySem.W.mg_none_of X G z_str
  have M_max := PySem.W.mg_none_of X G z_max
  have M_zip := PySem.W.mg_none_of X G z_zip
  have M_list := PySem.W.mg_none_of X G z_list
  have M_tuple := PySem.W.mg_none_of X G z_tuple
  have M_enumerate := PySem.W.mg_none_of X G z_enumerate
  have M_isinstance := PySem.W.mg_none_of X G z_isinstance
  have M_ValueError := PySem.W.mg_none_of X G z_ValueError
  have M_t_PIECE_SIGNS : GlT K mg "PIECE_SIGNS" [.bl false, .bl true, .bl true, .bl false] := ⟨aT_PIECE_SIGNS, [.bl false, .bl true, .bl true, .bl false], PySem.W.mg_of X G qT_PIECE_SIGNS, .inr ⟨_, _, _, lT_PIECE_SIGNS, rfl, rfl, by decide, (.cons rfl (.cons rfl (.cons rfl (.cons rfl .nil))))⟩, (.cons (.bl _) (.cons (.bl _) (.cons (.bl _) (.cons (.bl _) .nil))))⟩
  have M_t_REASON_SIGNS : GlT K mg "REASON_SIGNS" [.bl false, .bl false, .bl false] := ⟨aT_REASON_SIGNS, [.bl false, .bl false, .bl false], PySem.W.mg_of X G qT_REASON_SIGNS, .inr ⟨_, _, _, lT_REASON_SIGNS, rfl, rfl, by decide, (.cons rfl (.cons rfl (.cons rfl .nil)))⟩, (.cons (.bl _) (.cons (.bl _) (.cons (.bl _) .nil)))⟩
  have M_g_MOST_DIGITS : GlI mg "MOST_DIGITS" 60 := ⟨_, PySem.W.mg_of X G q_MOST_DIGITS⟩
  have M_ck0 : CK K mg 0 C0 := ⟨PySem.W.mg_of X G gC0, ⟨pg0, hd0, po0, sa0⟩, by
    intro x hx
    replace hx : x ∈ (["pieces", "reasons"] : List Str) := hx
    simp only [List.mem_cons, List.not_mem_nil, or_false] at hx
    rcases hx with hx | hx
    all_goals (subst hx; assumption)⟩
  have M_ck22 : CK K mg 22 C22 := ⟨PySem.W.mg_of X G gC22, ⟨pg22, hd22, po22, sa22⟩, by
    intro x hx
    replace hx : x ∈ (["_lines", "number"] : List Str) := hx
    simp only [List.mem_cons, List.not_mem_nil, or_false] at hx
    rcases hx with hx | hx
    all_goals (subst hx; assumption)⟩
  have TI : OexC K CI := ⟨⟨_, _, _, _, _, _, _, _, _, _, _, _, _, _, _, xlI, xrI⟩, saI, exI, tyI, kcI⟩
  have bI : Binds K (PySem.W.ksFn "__init__" "InvalidPaper.__init__" (defArgs s_I) (defBody s_I) (defScope s_I) .none kVI dcI pmI anI (.ref cdI) ctI ccI) ["self", "line"] [] := .all fun us hl => match us, hl with | [_, _], _ => rfl
  have I_ip : ∀ base : Heap, IpMk P w K mg base := fun base => ⟨CI, fI, _, PySem.W.mg_of X G gCI, TI, iI, tI, ip_fn TI lkI cdkI rfl rfl hcI hvI hfI htI lcI mrI noI siI veI lnI (PySem.W.mg_none_of X G zsI) (by decide +kernel) (fun env => rfl), bI, emI⟩
  have I_ipx : IpX K mg := ⟨CI, PySem.W.mg_of X G gCI, emI, ⟨xgI, xkI, exI, xhI⟩, lnI, xcI, xaI, xnI, xtI, xmI, ⟨CLI, PySem.W.mg_of X G gLI, klI⟩, kvI⟩
  have F1 := fun_mk (st := s__law_digits) l1 c1 k1
  have b1 := F1.binds (ps := ["cell", "many", "count"]) fun _ _ _ _ _ _ us hl => match us, hl with | [_, _, _], _ => rfl
  have C__law_digits : ∀ base : Heap, Cal P w K mg base "_law_digits" 1 ["cell", "many", "count"] S__law_digits := fun base => ⟨f1, _, ok__law_digits F1 M_range M_int, PySem.W.mg_of X G a1, k1, b1⟩
  have F2 := fun_mk (st := s__law_number) l2 c2 k2
  have b2 := F2.binds (ps := ["digit"]) fun _ _ _ _ _ _ us hl => match us, hl with | [_], _ => rfl
  have C__law_number : ∀ base : Heap, Cal P w K mg base "_law_number" 1 ["digit"] S__law_number := fun base => ⟨f2, _, ok__law_number F2 M_int, PySem.W.mg_of X G a2, k2, b2⟩
  have F3 := fun_mk (st := s__law_cutting) l3 c3 k3
  have b3 := F3.binds (ps := ["cell"]) fun _ _ _ _ _ _ us hl => match us, hl with | [_], _ => rfl
  have C__law_cutting : ∀ base : Heap, Cal P w K mg base "_law_cutting" 2 ["cell"] S__law_cutting := fun base => ⟨f3, _, ok__law_cutting F3 (C__law_digits base) M_int M_range (C__law_number base) M_abs, PySem.W.mg_of X G a3, k3, b3⟩
  have F4 := fun_mk (st := s__law_lines) l4 c4 k4
  have b4 := F4.binds (ps := ["pieces", "reasons"]) fun _ _ _ _ _ _ us hl => match us, hl with | [_, _], _ => rfl
  have C__law_lines : ∀ base : Heap, Cal P w K mg base "_law_lines" 1 ["pieces", "reasons"] S__law_lines := fun base => ⟨f4, _, ok__law_lines F4 M_len M_range M_str, PySem.W.mg_of X G a4, k4, b4⟩
  have F5 := fun_mk (st := s__law_cell) l5 c5 k5
  have b5 := F5.binds (ps := ["script", "k"]) fun _ _ _ _ _ _ us hl => match us, hl with | [_, _], _ => rfl
  have C__law_cell : ∀ base : Heap, Cal P w K mg base "_law_cell" 1 ["script", "k"] S__law_cell := fun base => ⟨f5, _, ok__law_cell F5 M_len, PySem.W.mg_of X G a5, k5, b5⟩
  have F6 := fun_mk (st := s__law_changed) l6 c6 k6
  have b6 := F6.binds (ps := ["lines", "cell", "odd"]) fun _ _ _ _ _ _ us hl => match us, hl with | [_, _, _], _ => rfl
  have C__law_changed : ∀ base : Heap, Cal P w K mg base "_law_changed" 1 ["lines", "cell", "odd"] S__law_changed := fun base => ⟨f6, _, ok__law_changed F6 M_int M_len M_max, PySem.W.mg_of X G a6, k6, b6⟩
  have F7 := fun_mk (st := s_Paper___init__) l7 c7 k7
  have b7 := F7.binds (ps := ["self", "text"]) fun _ _ _ _ _ _ us hl => match us, hl with | [_, _], _ => rfl
  have K_Paper : ∀ base : Heap, Mak P w K mg base 22 1 ["self", "text"] S_Paper___init__ := fun base => ⟨C22, f7, _, _, _, rfl, PySem.W.mg_of X G gC22, ⟨mk22, a7, i7, kc22⟩, ok_Paper___init__ F7 M_ck22, b7⟩
  have F8 := fun_mk (st := s_number_of) l8 c8 k8
  have b8 := F8.binds (ps := ["word", "signed"]) fun _ _ _ _ _ _ us hl => match us, hl with | [_, _], _ => rfl
  have C_number_of : ∀ base : Heap, Cal P w K mg base "number_of" 1 ["word", "signed"] S_number_of := fun base => ⟨f8, _, ok_number_of F8 M_len M_g_MOST_DIGITS M_int, PySem.W.mg_of X G a8, k8, b8⟩
  have F9 := fun_mk (st := s_numbers_in) l9 c9 k9
  have b9 := F9.binds (ps := ["line", "word", "signs"]) fun _ _ _ _ _ _ us hl => match us, hl with | [_, _, _], _ => rfl
  have C_numbers_in : ∀ base : Heap, Cal P w K mg base "numbers_in" 2 ["line", "word", "signs"] S_numbers_in := fun base => ⟨f9, _, ok_numbers_in F9 M_len M_zip (C_number_of base), PySem.W.mg_of X G a9, k9, b9⟩
  have F10 := fun_mk (st := s_Paper_ended) l10 c10 k10
  have b10 := F10.binds (ps := ["self"]) fun _ _ _ _ _ _ us hl => match us, hl with | [_], _ => rfl
  have C_Paper_ended : ∀ base : Heap, MetK P w K mg base 22 "ended" 1 ["self"] [true] S_Paper_ended := fun base => ⟨C22, f10, _, M_ck22, ⟨a10, i10, k10⟩, ok_Paper_ended F10 M_ck22 M_len, b10⟩
  have F11 := fun_mk (st := s_Paper_next_line) l11 c11 k11
  have b11 := F11.binds (ps := ["self"]) fun _ _ _ _ _ _ us hl => match us, hl with | [_], _ => rfl
  have C_Paper_next_line : ∀ base : Heap, MetR P w K mg base 22 "next_line" 3 ["self"] S_Paper_next_line := fun base => ⟨C22, f11, _, _, rfl, M_ck22, ⟨a11, i11, k11⟩, ok_Paper_next_line F11 (C_Paper_ended base) M_ck22 (I_ip base), b11⟩
  have F12 := fun_mk (st := s_Paper_numbers) l12 c12 k12
  have b12 := F12.binds (ps := ["self", "word", "signs"]) fun _ _ _ _ _ _ us hl => match us, hl with | [_, _, _], _ => rfl
  have C_Paper_numbers : ∀ base : Heap, MetR P w K mg base 22 "numbers" 4 ["self", "word", "signs"] S_Paper_numbers := fun base => ⟨C22, f12, _, _, rfl, M_ck22, ⟨a12, i12, k12⟩, ok_Paper_numbers F12 (C_Paper_next_line base) (C_numbers_in base) M_ck22 (I_ip base), b12⟩
  have F13 := fun_mk (st := s_Cutting___init__) l13 c13 k13
  have b13 := F13.binds (ps := ["self", "pieces", "reasons"]) fun _ _ _ _ _ _ us hl => match us, hl with | [_, _, _], _ => rfl
  have K_Cutting : ∀ base : Heap, Mak P w K mg base 0 1 ["self", "pieces", "reasons"] S_Cutting___init__ := fun base => ⟨C0, f13, _, _, _, rfl, PySem.W.mg_of X G gC0, ⟨mk0, a13, i13, kc0⟩, ok_Cutting___init__ F13 M_list M_ck0, b13⟩
  have F14 := fun_mk (st := s_piece_of) l14 c14 k14
  have b14 := F14.binds (ps := ["numbers"]) fun _ _ _ _ _ _ us hl => match us, hl with | [_], _ => rfl
  have C_piece_of : ∀ base : Heap, Cal P w K mg base "piece_of" 1 ["numbers"] S_piece_of := fun base => ⟨f14, _, ok_piece_of F14, PySem.W.mg_of X G a14, k14, b14⟩
  have F15 := fun_mk (st := s_read_cutting) l15 c15 k15
  have b15 := F15.binds (ps := ["text"]) fun _ _ _ _ _ _ us hl => match us, hl with | [_], _ => rfl
  have C_read_cutting : ∀ base : Heap, CalR P w K mg base "read_cutting" 5 ["text"] S_read_cutting := fun base => ⟨f15, _, ok_read_cutting F15 (K_Paper base) (C_Paper_numbers base) (C_Paper_ended base) M_t_PIECE_SIGNS (C_piece_of base) M_t_REASON_SIGNS M_tuple (K_Cutting base), PySem.W.mg_of X G a15, k15, b15⟩
  have F16 := fun_mk (st := s_write_cutting) l16 c16 k16
  have b16 := F16.binds (ps := ["cutting"]) fun _ _ _ _ _ _ us hl => match us, hl with | [_], _ => rfl
  have C_write_cutting : ∀ base : Heap, Cal P w K mg base "write_cutting" 1 ["cutting"] S_write_cutting := fun base => ⟨f16, _, ok_write_cutting F16 M_ck0 M_enumerate M_len, PySem.W.mg_of X G a16, k16, b16⟩
  have F17 := fun_mk (st := s__law_told) l17 c17 k17
  have b17 := F17.binds (ps := ["text"]) fun _ _ _ _ _ _ us hl => match us, hl with | [_], _ => rfl
  have C__law_told : ∀ base : Heap, Cal P w K mg base "_law_told" 6 ["text"] S__law_told := fun base => ⟨f17, _, ok__law_told F17 (C_read_cutting base) (C_write_cutting base) I_ipx M_isinstance M_ValueError, PySem.W.mg_of X G a17, k17, b17⟩
  have F18 := fun_mk (st := s__law_is_plain) l18 c18 k18
  have b18 := F18.binds (ps := ["word"]) fun _ _ _ _ _ _ us hl => match us, hl with | [_], _ => rfl
  have C__law_is_plain : ∀ base : Heap, Cal P w K mg base "_law_is_plain" 1 ["word"] S__law_is_plain := fun base => ⟨f18, _, ok__law_is_plain F18 M_len, PySem.W.mg_of X G a18, k18, b18⟩
  have F19 := fun_mk (st := s__law_is_signed) l19 c19 k19
  have b19 := F19.binds (ps := ["word"]) fun _ _ _ _ _ _ us hl => match us, hl with | [_], _ => rfl
  have C__law_is_signed : ∀ base : Heap, Cal P w K mg base "_law_is_signed" 2 ["word"] S__law_is_signed := fun base => ⟨f19, _, ok__law_is_signed F19 (C__law_is_plain base), PySem.W.mg_of X G a19, k19, b19⟩
  have F20 := fun_mk (st := s__law_has_form) l20 c20 k20
  have b20 := F20.binds (ps := ["line", "first", "signs"]) fun _ _ _ _ _ _ us hl => match us, hl with | [_, _, _], _ => rfl
  have C__law_has_form : ∀ base : Heap, Cal P w K mg base "_law_has_form" 3 ["line", "first", "signs"] S__law_has_form := fun base => ⟨f20, _, ok__law_has_form F20 M_len M_range (C__law_is_plain base) (C__law_is_signed base), PySem.W.mg_of X G a20, k20, b20⟩
  have F21 := fun_mk (st := s__law_fault) l21 c21 k21
  have b21 := F21.binds (ps := ["lines"]) fun _ _ _ _ _ _ us hl => match us, hl with | [_], _ => rfl
  have C__law_fault : ∀ base : Heap, Cal P w K mg base "_law_fault" 4 ["lines"] S__law_fault := fun base => ⟨f21, _, ok__law_fault F21 M_len M_range (C__law_has_form base) M_int, PySem.W.mg_of X G a21, k21, b21⟩
  have F22 := fun_mk (st := s_law) l22 c22 k22
  exact ⟨PySem.W.fnOf "law" "law" (defArgs s_law) (defBody s_law) (defScope s_law) .none kV22 dc22 pm22 an22 cd22 ct22, fun s v => .of_eq rfl, fun base _ _ => (ok_law (P := P) (w := w) (base := base) F22 (C__law_cell base) (C__law_cutting base) (C__law_lines base) M_int M_range (C__law_changed base) M_len (C__law_told base) (C__law_fault base)).imp fun vs H Q E ⟨a, ns, e, hS, hl, k⟩ => ⟨H, [.scr ns], .bl true, by rw [e]; rfl, Same.refl _, trivial, by rw [e]; exact .cons (.scr hS) .nil, law_true ns hl, fun G' H' v x r => by cases r; exact k H'⟩⟩
end K37
open PySem PySem.W PyProof.Rows
set_option maxHeartbeats 0 in
theorem PySem.Challenge.cw_fewestlines_k37_first_wrong_line_of_a_cu_holds : PySem.Challenge.rw_fewestlines_k37_first_wrong_line_of_a_cu.Holds := by
  w_on; o_law; k_head; (case hw => w_witness2)
  k_fill
  refine L2.walk_of (l := PySem.Challenge.rw_fewestlines_k37_first_wrong_line_of_a_cu) (n := 63) (k := 7) (x := "script") (CX := fun _ => L2.CX0) (sp := fun w => K37.spLaw _) rfl (by decide) rfl ⟨rfl, by decide, by decide⟩ (fun w h Y => PySem.W.kIn_of Y) ?F (fun _ _ a ns hl _ hS => ⟨a, ns, rfl, hS, hl, fun _ => rfl⟩) (fun _ _ _ _ _ h => h)
  case F =>
    intro w mg fa h KX G hmg
    refine' K37.all_mk KX G hmg ?gC0 ?pg0 ?hd0 ?po0 ?sa0 ?nf0_0 ?nf0_1 ?mk0 ?kc0 ?gC22 ?pg22 ?hd22 ?po22 ?sa22 ?nf22_0 ?nf22_1 ?mk22 ?kc22 ?gCI ?xlI ?xrI ?saI ?exI ?tyI ?kcI ?iI ?tI ?lkI ?cdkI ?hcI ?hvI ?hfI ?htI ?lcI ?mrI ?noI ?siI ?veI ?lnI ?zsI ?emI ?xgI ?xkI ?xhI ?xcI ?xaI ?xnI ?xtI ?xmI ?gLI ?klI ?kvI ?a1 ?l1 ?c1 ?k1 ?a2 ?l2 ?c2 ?k2 ?a3 ?l3 ?c3 ?k3 ?a4 ?l4 ?c4 ?k4 ?a5 ?l5 ?c5 ?k5 ?a6 ?l6 ?c6 ?k6 ?a7 ?i7 ?l7 ?c7 ?k7 ?a8 ?l8 ?c8 ?k8 ?a9 ?l9 ?c9 ?k9 ?a10 ?i10 ?l10 ?c10 ?k10 ?a11 ?i11 ?l11 ?c11 ?k11 ?a12 ?i12 ?l12 ?c12 ?k12 ?a13 ?i13 ?l13 ?c13 ?k13 ?a14 ?l14 ?c14 ?k14 ?a15 ?l15 ?c15 ?k15 ?a16 ?l16 ?c16 ?k16 ?a17 ?l17 ?c17 ?k17 ?a18 ?l18 ?c18 ?k18 ?a19 ?l19 ?c19 ?k19 ?a20 ?l20 ?c20 ?k20 ?a21 ?l21 ?c21 ?k21 ?a22 ?l22 ?c22 ?k22 ?z_range ?z_int ?z_abs ?z_len ?z_str ?z_max ?z_zip ?z_list ?z_tuple ?z_enumerate ?z_isinstance ?z_ValueError ?q_MOST_DIGITS ?qT_PIECE_SIGNS ?lT_PIECE_SIGNS ?qT_REASON_SIGNS ?lT_REASON_SIGNS
    (case gC0 => k_is); (case pg0 => k_is); (case hd0 => k_is); (case po0 => k_is); (case sa0 => k_is); (case nf0_0 => k_is); (case nf0_1 => k_is); (case mk0 => k_is); (case kc0 => k_is); (case gC22 => k_is); (case pg22 => k_is); (case hd22 => k_is); (case po22 => k_is); (case sa22 => k_is); (case nf22_0 => k_is); (case nf22_1 => k_is); (case mk22 => k_is); (case kc22 => k_is); (case gCI => k_is); (case xlI => k_is); (case xrI => rfl); (case saI => k_is); (case exI => k_is); (case tyI => k_is); (case kcI => k_is); (case iI => k_is); (case tI => k_is); (case lkI => k_is); (case cdkI => k_is); (case hcI => k_is); (case hvI => rfl); (case hfI => rfl); (case htI => rfl); (case lcI => k_is); (case mrI => k_is); (case noI => k_is); (case siI => kernel_rfl); (case veI => k_is); (case lnI => k_is); (case zsI => k_is); (case emI => kernel_rfl); (case xgI => k_is); (case xkI => k_is); (case xhI => k_is); (case xcI => kernel_rfl); (case xaI => k_is); (case xnI => k_is); (case xtI => k_is); (case xmI => k_is); (case gLI => k_is); (case klI => kernel_rfl); (case kvI => kernel_rfl); (case a1 => k_is); (case l1 => k_is); (case c1 => k_is); (case k1 => k_is); (case a2 => k_is); (case l2 => k_is); (case c2 => k_is); (case k2 => k_is); (case a3 => k_is); (case l3 => k_is); (case c3 => k_is); (case k3 => k_is); (case a4 => k_is); (case l4 => k_is); (case c4 => k_is); (case k4 => k_is); (case a5 => k_is); (case l5 => k_is); (case c5 => k_is); (case k5 => k_is); (case a6 => k_is); (case l6 => k_is); (case c6 => k_is); (case k6 => k_is); (case a7 => k_is); (case i7 => k_is); (case l7 => k_is); (case c7 => k_is); (case k7 => k_is); (case a8 => k_is); (case l8 => k_is); (case c8 => k_is); (case k8 => k_is); (case a9 => k_is); (case l9 => k_is); (case c9 => k_is); (case k9 => k_is); (case a10 => k_is); (case i10 => k_is); (case l10 => k_is); (case c10 => k_is); (case k10 => k_is); (case a11 => k_is); (case i11 => k_is); (case l11 => k_is); (case c11 => k_is); (case k11 => k_is); (case a12 => k_is); (case i12 => k_is); (case l12 => k_is); (case c12 => k_is); (case k12 => k_is); (case a13 => k_is); (case i13 => k_is); (case l13 => k_is); (case c13 => k_is); (case k13 => k_is); (case a14 => k_is); (case l14 => k_is); (case c14 => k_is); (case k14 => k_is); (case a15 => k_is); (case l15 => k_is); (case c15 => k_is); (case k15 => k_is); (case a16 => k_is); (case l16 => k_is); (case c16 => k_is); (case k16 => k_is); (case a17 => k_is); (case l17 => k_is); (case c17 => k_is); (case k17 => k_is); (case a18 => k_is); (case l18 => k_is); (case c18 => k_is); (case k18 => k_is); (case a19 => k_is); (case l19 => k_is); (case c19 => k_is); (case k19 => k_is); (case a20 => k_is); (case l20 => k_is); (case c20 => k_is); (case k20 => k_is); (case a21 => k_is); (case l21 => k_is); (case c21 => k_is); (case k21 => k_is); (case a22 => k_is); (case l22 => k_is); (case c22 => k_is); (case k22 => k_is); (case z_range => k_is); (case z_int => k_is); (case z_abs => k_is); (case z_len => k_is); (case z_str => k_is); (case z_max => k_is); (case z_zip => k_is); (case z_list => k_is); (case z_tuple => k_is); (case z_enumerate => k_is); (case z_isinstance => k_is); (case z_ValueError => k_is); (case q_MOST_DIGITS => k_is); (case qT_PIECE_SIGNS => k_is); (case lT_PIECE_SIGNS => k_is); (case qT_REASON_SIGNS => k_is); (case lT_REASON_SIGNS => k_is)


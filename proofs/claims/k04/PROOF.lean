import PyProof.Rows.All
import Wide.All
import OpenK.AllK
import Wide.FinOn
import HandS.ForMost
import HandS.IsInst
import HandS.Wide
import HandS.StrMore
import HandS.TupLe
import HandS.Flow
import KE.LtData
import PyProof.ListStr
import HandS.Lambda
import HandS.Exc
import HandS.Head1
import KE.KDictDisplayH
import HandS.Base
import HandS.Head2
import HandS.HeadHook3
import HandS.HeadEnd
import PySem.Challenge.RW_orderrules_k04_whole_telling
import HandS.Nested
import HandS.SortKw
import KE.SortKeyHeap
import HandS.EndOwn
import HandS.Style
import HandS.Dict
import HandS.ExcOwn
import HandS.WordsExc
import HandS.ExcIs
import HandS.Deep
import HandS.SetFor
import HandS.TupAny
import HandS.Conv
import HandS.Text
import HandS.RaiseMore
import HandS.FStr
import PyProof.StrOps2
import KE.GoesNew
import KE.GoesEnum
import HandS.ReplaceLit
import HandS.List
import HandS.Sort
import HandS.SetKeys
import KE.KDictList
import HandS.ReplaceList
-- DenA
section
set_option Elab.async false
set_option linter.all false
set_option maxRecDepth 100000
set_option maxHeartbeats 1000000
/-! Denotations: what a piece of the program does to plain data. -/
namespace Den
open PySem PySem.Spec PyProof.Rows L2

/-! ### extension of heaps -/
def Ex (H H' : Hp) : Prop := ∀ a o, H a = some o → H' a = some o
theorem Ex.refl (H : Hp) : Ex H H := fun _ _ h => h
theorem Ex.trans {H H1 H2 : Hp} (a : Ex H H1) (b : Ex H1 H2) : Ex H H2 := fun x o h => b x o (a x o h)
theorem Ex.new {H : Hp} {p : Addr} {o : HO} (h : H p = none) : Ex H (upd H p o) := fun a u e => by
  rw [upd_ne (ne_of_none e h)]
  exact e
theorem Ex.back {H H' : Hp} {p : Addr} (e : Ex H H') (h : H' p = none) : H p = none := by
  cases h1 : H p with
  | none => rfl
  | some o =>
    rw [e p o h1] at h
    cases h
theorem ex_rd {H H' : Hp} {a : Addr} {u : HO} (e : Ex H H') (h : Rd H a u) : Rd H' a u := by
  rcases h with h | ⟨o, h⟩
  · exact Or.inl (e a _ h)
  · exact Or.inr ⟨o, e a _ h⟩
theorem ex_l {K : PySem.W.Frag} {H H' : Hp} {a : Addr} {xs : List V} (e : Ex H H') (h : SqL K H a xs) : SqL K H' a xs := by
  rcases h with h | h
  · exact Or.inl (ex_rd e h)
  · exact Or.inr h
theorem ex_t {K : PySem.W.Frag} {H H' : Hp} {a : Addr} {xs : List V} (e : Ex H H') (h : SqT K H a xs) : SqT K H' a xs := by
  rcases h with h | h
  · exact Or.inl (ex_rd e h)
  · exact Or.inr h
mutual
theorem dp_mono {K : PySem.W.Frag} {H H' : Hp} (e : Ex H H') : ∀ {v : V} {d : PyData}, Dp K H v d → Dp K H' v d
  | _, _, .non => .non
  | _, _, .bl b => .bl b
  | _, _, .int i => .int i
  | _, _, .str x => .str x
  | _, _, .lst h a => .lst (ex_l e h) (dpa_mono e a)
  | _, _, .tup h a => .tup (ex_t e h) (dpa_mono e a)
theorem dpa_mono {K : PySem.W.Frag} {H H' : Hp} (e : Ex H H') : ∀ {v : List V} {d : List PyData}, DpAll K H v d → DpAll K H' v d
  | _, _, .nil => .nil
  | _, _, .cons h a => .cons (dp_mono e h) (dpa_mono e a)
end
theorem dpa_len {K : PySem.W.Frag} {H : Hp} : ∀ {vs : List V} {ds : List PyData}, DpAll K H vs ds → vs.length = ds.length
  | _, _, .nil => rfl
  | _, _, .cons _ a => by rw [List.length_cons, List.length_cons, dpa_len a]
theorem dpa_get {K : PySem.W.Frag} {H : Hp} : ∀ {vs : List V} {ds : List PyData} {i : Nat} {v : V}, DpAll K H vs ds → vs[i]? = some v → ∃ d, ds[i]? = some d ∧ Dp K H v d
  | _, _, _, _, .nil, e => by simp at e
  | _, _, 0, _, .cons h _, e => by simp at e; subst e; exact ⟨_, rfl, h⟩
  | _, _, i + 1, _, .cons _ a, e => by
    obtain ⟨d, h1, h2⟩ := dpa_get (i := i) a (by simpa using e)
    exact ⟨d, by simpa using h1, h2⟩
theorem dpa_getD {K : PySem.W.Frag} {H : Hp} : ∀ {vs : List V} {ds : List PyData} {i : Nat} {d : PyData}, DpAll K H vs ds → ds[i]? = some d → ∃ v, vs[i]? = some v ∧ Dp K H v d
  | _, _, _, _, .nil, e => by simp at e
  | _, _, 0, _, .cons h _, e => by simp at e; subst e; exact ⟨_, rfl, h⟩
  | _, _, i + 1, _, .cons _ a, e => by
    obtain ⟨d, h1, h2⟩ := dpa_getD (i := i) a (by simpa using e)
    exact ⟨d, by simpa using h1, h2⟩
theorem dpa_app {K : PySem.W.Frag} {H : Hp} : ∀ {vs ws : List V} {ds es : List PyData}, DpAll K H vs ds → DpAll K H ws es → DpAll K H (vs ++ ws) (ds ++ es)
  | _, _, _, _, .nil, b => b
  | _, _, _, _, .cons h a, b => .cons h (dpa_app a b)
theorem dpa_set {K : PySem.W.Frag} {H : Hp} {v : V} {d : PyData} (hv : Dp K H v d) : ∀ {vs : List V} {ds : List PyData} (i : Nat), DpAll K H vs ds → DpAll K H (vs.set i v) (ds.set i d)
  | _, _, _, .nil => .nil
  | _, _, 0, .cons h a => .cons hv a
  | _, _, i + 1, .cons h a => .cons h (dpa_set hv i a)
theorem dpa_drop {K : PySem.W.Frag} {H : Hp} : ∀ {vs : List V} {ds : List PyData} (i : Nat), DpAll K H vs ds → DpAll K H (vs.drop i) (ds.drop i)
  | _, _, 0, h => h
  | _, _, i + 1, .nil => .nil
  | _, _, i + 1, .cons h a => dpa_drop i a
theorem dpa_take {K : PySem.W.Frag} {H : Hp} : ∀ {vs : List V} {ds : List PyData} (i : Nat), DpAll K H vs ds → DpAll K H (vs.take i) (ds.take i)
  | _, _, 0, h => .nil
  | _, _, i + 1, .nil => .nil
  | _, _, i + 1, .cons h a => .cons h (dpa_take i a)

/-! ### the code objects' tables that lambdas are entered in -/
class Tabl where
  T : List (Addr × Str)
  /-- the classes of the program's errors, by their names -/
  C : Str → Addr
/-- an exception of the class cls -/
def XO (cls : Value) (a : Addr) : HO := .ext fun h => ∃ oe, h.get? a = some oe ∧ Zc cls none oe ∧ ∃ vs, oe.data = .fields vs
variable [TB : Tabl]
/-! ### the draws: a list of a list of ints and of a count -/
abbrev Dw := List Int × Int
abbrev Loc := Option (Addr × Addr)
def inDr : Loc → Addr → Prop
  | none, _ => False
  | some (a, b), p => p = a ∨ p = b
def isD (L : Loc) (p : Addr) : Prop := inDr L p ∨ ∃ q, (p, q) ∈ TB.T
def DrawsAt : Loc → Dw → Hp → Prop
  | none, _, _ => True
  | some (a, b), D, H => H a = some (.lst [.ref b, .int D.2]) ∧ H b = some (.lst (D.1.map V.int)) ∧ a ≠ b
theorem DrawsAt.ne {L : Loc} {D : Dw} {H : Hp} (h : DrawsAt L D H) {p : Addr} (d : inDr L p) : H p ≠ none := by
  match L, h, d with
  | some (a, b), ⟨h1, h2, _⟩, .inl e => rw [e, h1]; exact fun z => nomatch z
  | some (a, b), ⟨h1, h2, _⟩, .inr e => rw [e, h2]; exact fun z => nomatch z

structure Ok (L : Loc) (D : Dw) (F H : Hp) : Prop where
  sub : Ex F H
  dr : DrawsAt L D H
  dF : ∀ p, isD L p → F p = none
  tab : LamX.Tabs TB.T H
structure Stp (L : Loc) (F H F' H' : Hp) : Prop where
  ex : Ex F F'
  keep : ∀ p o, H p = some o → ¬ isD L p → H' p = some o
  sep : ∀ p, H p ≠ none → F' p ≠ none → F p ≠ none
  low : ∀ p, H p ≠ none → H' p ≠ none
theorem Stp.refl {L : Loc} {F H : Hp} : Stp L F H F H := ⟨Ex.refl F, fun _ _ h _ => h, fun _ _ h => h, fun _ h => h⟩
theorem Stp.trans {L : Loc} {F H F1 H1 F2 H2 : Hp} (a : Stp L F H F1 H1) (b : Stp L F1 H1 F2 H2) : Stp L F H F2 H2 :=
  ⟨a.ex.trans b.ex, fun p o h d => b.keep p o (a.keep p o h d) d, fun p h q => a.sep p h (b.sep p (a.low p h) q), fun p h => b.low p (a.low p h)⟩

theorem Stp.laid {L : Loc} {F H : Hp} {p : Addr} {o : HO} (e : Ex F H) (h : H p = none) : Stp L F H (upd F p o) (upd H p o) := by
  refine ⟨Ex.new (e.back h), fun a u e _ => Ex.new h a u e, fun a e q => ?_, fun a e => ?_⟩
  · have hp : a ≠ p := fun z => e (by rw [z]; exact h)
    rw [upd_ne hp] at q; exact q
  · have hp : a ≠ p := fun z => e (by rw [z]; exact h)
    rw [upd_ne hp]; exact e
/-- .. that is not data yet -/
theorem Stp.fresh {L : Loc} {F H : Hp} {p : Addr} {o : HO} (h : H p = none) : Stp L F H F (upd H p o) := by
  refine ⟨Ex.refl F, fun a u e _ => Ex.new h a u e, fun a e q => q, fun a e => ?_⟩
  have hp : a ≠ p := fun z => e (by rw [z]; exact h)
  rw [upd_ne hp]; exact e
theorem DrawsAt.upd_ {L : Loc} {D : Dw} {H : Hp} {p : Addr} {o : HO} (h : DrawsAt L D H) (n : ¬ inDr L p) : DrawsAt L D (upd H p o) := by
  match L, h, n with
  | none, _, _ => trivial
  | some (a, b), ⟨h1, h2, h3⟩, n =>
    exact ⟨by rw [upd_ne (fun z => n (.inl z.symm))]; exact h1, by rw [upd_ne (fun z => n (.inr z.symm))]; exact h2, h3⟩
theorem Ok.nd {L : Loc} {D : Dw} {F H : Hp} (k : Ok L D F H) {p : Addr} (h : H p = none) : ¬ isD L p := fun d => by
  rcases d with d | ⟨q, d⟩
  · exact k.dr.ne d h
  · obtain ⟨ps, e, _⟩ := k.tab _ d
    have e : H p = _ := e
    rw [h] at e
    cases e
theorem Ok.laid {L : Loc} {D : Dw} {F H : Hp} {p : Addr} {o : HO} (k : Ok L D F H) (h : H p = none) : Ok L D (upd F p o) (upd H p o) := by
  refine ⟨fun a u e => ?_, k.dr.upd_ fun z => k.nd h (.inl z), fun q d => ?_, k.tab.ext (Ex.new h)⟩
  · by_cases hp : a = p
    · subst hp; rw [upd_same] at e ⊢; exact e
    · rw [upd_ne hp] at e ⊢; exact k.sub a u e
  · rw [upd_ne (show q ≠ p from fun z => k.nd h (by rw [← z]; exact d))]; exact k.dF q d
theorem Ok.fresh {L : Loc} {D : Dw} {F H : Hp} {p : Addr} {o : HO} (k : Ok L D F H) (h : H p = none) : Ok L D F (upd H p o) :=
  ⟨k.sub.trans (Ex.new h), k.dr.upd_ fun z => k.nd h (.inl z), k.dF, k.tab.ext (Ex.new h)⟩
/-- an own object becomes data -/
theorem Ok.frz {L : Loc} {D : Dw} {F H : Hp} {p : Addr} {o : HO} (k : Ok L D F H) (h : H p = some o) (hF : F p = none) (n : ¬ isD L p) : Ok L D (upd F p o) H := by
  refine ⟨fun a u e => ?_, k.dr, fun q d => ?_, k.tab⟩
  · by_cases hp : a = p
    · subst hp; rw [upd_same] at e; rw [h]; exact e
    · rw [upd_ne hp] at e; exact k.sub a u e
  · rw [upd_ne (show q ≠ p from fun z => n (by rw [← z]; exact d))]; exact k.dF q d
theorem Stp.frz {L : Loc} {F0 H0 F H : Hp} {p : Addr} {o : HO} (k : Stp L F0 H0 F H) (h0 : H0 p = none) (hF : F p = none) : Stp L F0 H0 (upd F p o) H := by
  refine ⟨k.ex.trans (Ex.new hF), k.keep, fun a e q => ?_, k.low⟩
  have hp : a ≠ p := fun z => e (by rw [z]; exact h0)
  rw [upd_ne hp] at q
  exact k.sep a e q
theorem Stp.mut {L : Loc} {F0 H0 F H : Hp} {p : Addr} {o : HO} (k : Stp L F0 H0 F H) (h0 : H0 p = none) : Stp L F0 H0 F (upd H p o) := by
  have ne : ∀ a, H0 a ≠ none → a ≠ p := fun a e z => e (by rw [z]; exact h0)
  refine ⟨k.ex, fun a u e d => ?_, k.sep, fun a e => ?_⟩
  · rw [upd_ne (ne a (by rw [e]; exact fun z => nomatch z))]; exact k.keep a u e d
  · rw [upd_ne (ne a e)]; exact k.low a e
theorem tabs_upd {T : List (Addr × Str)} {H : Hp} {p : Addr} {o : HO} (t : LamX.Tabs T H) (n : ¬ ∃ q, (p, q) ∈ T) (hc : ∀ q, H p ≠ some (LamX.CodeO p q)) : LamX.Tabs T (upd H p o) := fun x hx => by
  obtain ⟨ps, e1, e2, e3⟩ := t x hx
  refine ⟨ps, ?_, e2, fun pos cv h => ?_⟩
  · rw [upd_ne (fun z => n ⟨x.2, by rw [← z]; exact hx⟩)]; exact e1
  · obtain ⟨c, h1, h2⟩ := e3 pos cv h
    exact ⟨c, h1, by rw [upd_ne (fun z => hc x.2 (by rw [← z]; exact h2))]; exact h2⟩
theorem not_code {H : Hp} {p : Addr} {vs : List V} (h : H p = some (.lst vs)) (q : Str) : H p ≠ some (LamX.CodeO p q) := fun z => by
  rw [h] at z
  unfold LamX.CodeO at z
  cases z
theorem Ok.mut {L : Loc} {D : Dw} {F H : Hp} {p : Addr} {o : HO} (k : Ok L D F H) (hF : F p = none) (n : ¬ isD L p) (hc : ∀ q, H p ≠ some (LamX.CodeO p q)) : Ok L D F (upd H p o) :=
  ⟨fun a u e => by rw [upd_ne (ne_of_none e hF)]; exact k.sub a u e, k.dr.upd_ fun z => n (.inl z), k.dF, tabs_upd k.tab (fun z => n (.inr z)) hc⟩

/-! ### the names' values -/
inductive KvDp (K : PySem.W.Frag) (F : Hp) : List (Key × V) → List (Key × PyData) → Prop where
  | nil : KvDp K F [] []
  | cons {k : Key} {v : V} {x : PyData} {vs : List (Key × V)} {xs : List (Key × PyData)} : Dp K F v x → KvDp K F vs xs → KvDp K F ((k, v) :: vs) ((k, x) :: xs)
theorem KvDp.mono {K : PySem.W.Frag} {F F' : Hp} (e : Ex F F') : ∀ {vs : List (Key × V)} {xs : List (Key × PyData)}, KvDp K F vs xs → KvDp K F' vs xs
  | _, _, .nil => .nil
  | _, _, .cons h t => .cons (dp_mono e h) (t.mono e)
inductive AV where
  /-- data that never change again -/
  | d (x : PyData)
  /-- a list that is the name's own -/
  | own (xs : List PyData)
  /-- the draws -/
  | drw
  /-- a dict of ints and texts that never changes again -/
  | dct (kvs : List (Key × PyData))
  /-- an exception that was caught, of the class of this name -/
  | exc (c : Str)
abbrev Env := List (Option AV)
def SlotOk (K : PySem.W.Frag) (L : Loc) (H0 F H : Hp) : AV → Option V → Prop
  | .d x, o => ∃ v, o = some v ∧ Dp K F v x
  | .own xs, o => ∃ p vs, o = some (.ref p) ∧ H0 p = none ∧ F p = none ∧ ¬ isD L p ∧ H p = some (.lst vs) ∧ DpAll K F vs xs
  | .drw, o => ∃ a b, L = some (a, b) ∧ o = some (.ref a)
  | .dct xs, o => ∃ p vs, o = some (.ref p) ∧ F p = some (.dK vs) ∧ KvDp K F vs xs
  | .exc c, o => ∃ p, o = some (.ref p) ∧ F p = some (XO (.ref (TB.C c)) p)
structure Rep (K : PySem.W.Frag) (L : Loc) (F0 H0 : Hp) (ρ : Env) (D : Dw) (σ : L2.St) (F H : Hp) : Prop where
  ok : Ok L D F H
  stp : Stp L F0 H0 F H
  len : σ.length = ρ.length
  slot : ∀ (i : Nat) (a : AV), ρ[i]? = some (some a) → ∃ o, σ[i]? = some o ∧ SlotOk K L H0 F H a o
  inj : ∀ (i j : Nat) (xs ys : List PyData) (p : Addr), ρ[i]? = some (some (.own xs)) → ρ[j]? = some (some (.own ys)) → σ[i]? = some (some (.ref p)) → σ[j]? = some (some (.ref p)) → i = j
section
variable {K : PySem.W.Frag} {L : Loc} {F0 H0 F H F' H' : Hp} {ρ : Env} {D D' : Dw} {σ : L2.St}
theorem SlotOk.step {a : AV} {o : Option V} (h : SlotOk K L H0 F H a o) (t : Stp L F H F' H') : SlotOk K L H0 F' H' a o := by
  match a, h with
  | .d x, ⟨v, e, q⟩ => exact ⟨v, e, dp_mono t.ex q⟩
  | .own xs, ⟨p, vs, e, h0, hF, n, hp, q⟩ =>
    refine ⟨p, vs, e, h0, ?_, n, t.keep p _ hp n, dpa_mono t.ex q⟩
    cases r : F' p with
    | none => rfl
    | some u => exact absurd hF (t.sep p (by rw [hp]; exact fun z => nomatch z) (by rw [r]; exact fun z => nomatch z))
  | .drw, h => exact h
  | .dct xs, ⟨p, vs, e, hp, q⟩ => exact ⟨p, vs, e, t.ex _ _ hp, q.mono t.ex⟩
  | .exc c, ⟨p, e, hp⟩ => exact ⟨p, e, t.ex _ _ hp⟩
theorem Rep.step (r : Rep K L F0 H0 ρ D σ F H) (t : Stp L F H F' H') (k : Ok L D' F' H') : Rep K L F0 H0 ρ D' σ F' H' :=
  ⟨k, r.stp.trans t, r.len, fun i a e => let ⟨o, h1, h2⟩ := r.slot i a e; ⟨o, h1, h2.step t⟩, r.inj⟩
theorem Rep.own_ne (r : Rep K L F0 H0 ρ D σ F H) {p : Addr} (hp : H p = none) {i : Nat} {xs : List PyData} (e : ρ[i]? = some (some (.own xs))) : σ[i]? ≠ some (some (.ref p)) := fun q => by
  obtain ⟨o, h1, p', vs, e1, _, _, _, h2, _⟩ := r.slot i _ e
  rw [h1, e1] at q
  have q' : p' = p := V.ref.inj (Option.some.inj (Option.some.inj q))
  rw [q', hp] at h2
  cases h2
theorem set_cases {α : Type} {l : List (Option α)} {i j : Nat} {a b : Option α} (e : (l.set i a)[j]? = some b) : (i = j ∧ a = b ∧ j < l.length) ∨ (i ≠ j ∧ l[j]? = some b) := by
  by_cases h : i = j
  · subst h
    by_cases hl : i < l.length
    · rw [List.getElem?_set_self hl] at e
      exact .inl ⟨rfl, Option.some.inj e, hl⟩
    · rw [List.getElem?_eq_none (by simpa using hl)] at e
      cases e
  · rw [List.getElem?_set_ne h] at e
    exact .inr ⟨h, e⟩
theorem Rep.setD (r : Rep K L F0 H0 ρ D σ F H) {v : V} {x : PyData} (i : Nat) (h : Dp K F v x) : Rep K L F0 H0 (ρ.set i (some (.d x))) D (σ.set i (some v)) F H := by
  refine ⟨r.ok, r.stp, by rw [List.length_set, List.length_set]; exact r.len, fun j a e => ?_, fun j k xs ys p e1 e2 e3 e4 => ?_⟩
  · rcases set_cases e with ⟨rfl, e', hl⟩ | ⟨hn, e'⟩
    · obtain rfl : AV.d x = a := Option.some.inj e'
      exact ⟨some v, List.getElem?_set_self (by rw [r.len]; exact hl), v, rfl, h⟩
    · obtain ⟨o, h1, h2⟩ := r.slot j a e'
      exact ⟨o, by rw [List.getElem?_set_ne hn]; exact h1, h2⟩
  · rcases set_cases e1 with ⟨rfl, e', _⟩ | ⟨hn, e1⟩
    · cases e'
    rcases set_cases e2 with ⟨rfl, e', _⟩ | ⟨hn2, e2⟩
    · cases e'
    rw [List.getElem?_set_ne hn] at e3
    rw [List.getElem?_set_ne hn2] at e4
    exact r.inj j k xs ys p e1 e2 e3 e4
theorem Rep.setN (r : Rep K L F0 H0 ρ D σ F H) (i : Nat) (o : Option V) : Rep K L F0 H0 (ρ.set i none) D (σ.set i o) F H := by
  refine ⟨r.ok, r.stp, by rw [List.length_set, List.length_set]; exact r.len, fun j a e => ?_, fun j k xs ys p e1 e2 e3 e4 => ?_⟩
  · rcases set_cases e with ⟨rfl, e', hl⟩ | ⟨hn, e'⟩
    · cases e'
    · obtain ⟨o, h1, h2⟩ := r.slot j a e'
      exact ⟨o, by rw [List.getElem?_set_ne hn]; exact h1, h2⟩
  · rcases set_cases e1 with ⟨rfl, e', _⟩ | ⟨hn, e1⟩
    · cases e'
    rcases set_cases e2 with ⟨rfl, e', _⟩ | ⟨hn2, e2⟩
    · cases e'
    rw [List.getElem?_set_ne hn] at e3
    rw [List.getElem?_set_ne hn2] at e4
    exact r.inj j k xs ys p e1 e2 e3 e4
/-- a name gets an own list -/
theorem Rep.setOwn (r : Rep K L F0 H0 ρ D σ F H) {p : Addr} {vs : List V} {xs : List PyData} (i : Nat) (h0 : H0 p = none) (hF : F p = none) (n : ¬ isD L p) (hp : H p = some (.lst vs)) (hv : DpAll K F vs xs)
    (ne : ∀ (j : Nat) ys, j ≠ i → ρ[j]? = some (some (.own ys)) → σ[j]? ≠ some (some (.ref p))) : Rep K L F0 H0 (ρ.set i (some (.own xs))) D (σ.set i (some (.ref p))) F H := by
  refine ⟨r.ok, r.stp, by rw [List.length_set, List.length_set]; exact r.len, fun j a e => ?_, fun j k xs' ys p' e1 e2 e3 e4 => ?_⟩
  · rcases set_cases e with ⟨rfl, e', hl⟩ | ⟨hn, e'⟩
    · obtain rfl : AV.own xs = a := Option.some.inj e'
      exact ⟨_, List.getElem?_set_self (by rw [r.len]; exact hl), p, vs, rfl, h0, hF, n, hp, hv⟩
    · obtain ⟨o, h1, h2⟩ := r.slot j a e'
      exact ⟨o, by rw [List.getElem?_set_ne hn]; exact h1, h2⟩
  · rcases set_cases e1 with ⟨rfl, e', hl⟩ | ⟨hn, e1⟩
    · rw [List.getElem?_set_self (by rw [r.len]; exact hl)] at e3
      have ep : p = p' := V.ref.inj (Option.some.inj (Option.some.inj e3))
      subst ep
      rcases set_cases e2 with ⟨rfl, e', _⟩ | ⟨hn2, e2⟩
      · rfl
      · rw [List.getElem?_set_ne hn2] at e4
        exact absurd e4 (ne k _ (Ne.symm hn2) e2)
    · rw [List.getElem?_set_ne hn] at e3
      rcases set_cases e2 with ⟨rfl, e', hl⟩ | ⟨hn2, e2⟩
      · rw [List.getElem?_set_self (by rw [r.len]; exact hl)] at e4
        have ep : p = p' := V.ref.inj (Option.some.inj (Option.some.inj e4))
        subst ep
        exact absurd e3 (ne j _ (Ne.symm hn) e1)
      · rw [List.getElem?_set_ne hn2] at e4
        exact r.inj j k _ ys p' e1 e2 e3 e4
/-- an own list is changed -/
theorem Rep.mutOwn (r : Rep K L F0 H0 ρ D σ F H) {p : Addr} {vs : List V} {xs ys : List PyData} {i : Nat} (e : ρ[i]? = some (some (.own ys))) (es : σ[i]? = some (some (.ref p))) (h0 : H0 p = none) (hF : F p = none) (n : ¬ isD L p) (hv : DpAll K F vs xs) :
    Rep K L F0 H0 (ρ.set i (some (.own xs))) D σ F (upd H p (.lst vs)) := by
  have hc : ∀ q, H p ≠ some (LamX.CodeO p q) := by
    obtain ⟨o, h1, p', vs', e1, _, _, _, gp, _⟩ := r.slot i _ e
    rw [es] at h1
    have z := Option.some.inj h1
    rw [e1] at z
    have z : p = p' := V.ref.inj (Option.some.inj z)
    rw [← z] at gp
    exact not_code gp
  have r' : Rep K L F0 H0 (ρ.set i none) D σ F (upd H p (.lst vs)) := by
    refine ⟨r.ok.mut hF n hc, r.stp.mut h0, by rw [List.length_set]; exact r.len, fun j a e' => ?_, fun j k xs ys p e1 e2 e3 e4 => ?_⟩
    · rcases set_cases e' with ⟨rfl, e', hl⟩ | ⟨hn, e'⟩
      · cases e'
      · obtain ⟨o, h1, h2⟩ := r.slot j a e'
        refine ⟨o, h1, ?_⟩
        match a, h2 with
        | .d x, h2 => exact h2
        | .drw, h2 => exact h2
        | .dct zs, h2 => exact h2
        | .exc c, h2 => exact h2
        | .own zs, ⟨p', vs', e1, g0, gF, gn, gp, gv⟩ =>
          refine ⟨p', vs', e1, g0, gF, gn, ?_, gv⟩
          have hpp : p' ≠ p := fun z => by
            subst z
            exact hn (r.inj i j _ _ p' e e' es (by rw [h1, e1]))
          rw [upd_ne hpp]; exact gp
    · rcases set_cases e1 with ⟨rfl, e', _⟩ | ⟨hn, e1⟩
      · cases e'
      rcases set_cases e2 with ⟨rfl, e', _⟩ | ⟨hn2, e2⟩
      · cases e'
      exact r.inj j k xs ys p e1 e2 e3 e4
  have r2 := r'.setOwn i h0 hF n upd_same hv fun j ys' hj e1 e2 => by
    rcases set_cases e1 with ⟨rfl, e', _⟩ | ⟨hn, e1⟩
    · cases e'
    exact hj (r.inj j i _ _ p e1 e e2 es)
  have hl : i < σ.length := (List.getElem?_eq_some_iff.mp es).1
  have e1 : (ρ.set i none).set i (some (.own xs)) = ρ.set i (some (.own xs)) := List.set_set _
  have e2 : σ.set i (some (.ref p)) = σ := by
    have := (List.getElem?_eq_some_iff.mp es).2
    rw [← this]
    exact List.set_getElem_self _
  rw [e1, e2] at r2
  exact r2
/-- a new object beside the names is changed -/
theorem Rep.beside (r : Rep K L F0 H0 ρ D σ F H) {p : Addr} {o : HO} (h0 : H0 p = none) (hF : F p = none) (n : ¬ isD L p) (hc : ∀ q, H p ≠ some (LamX.CodeO p q)) (ne : ∀ (j : Nat) ys, ρ[j]? = some (some (.own ys)) → σ[j]? ≠ some (some (.ref p))) : Rep K L F0 H0 ρ D σ F (upd H p o) := by
  refine ⟨r.ok.mut hF n hc, r.stp.mut h0, r.len, fun j a e' => ?_, r.inj⟩
  obtain ⟨o, h1, h2⟩ := r.slot j a e'
  refine ⟨o, h1, ?_⟩
  match a, h2 with
  | .d x, h2 => exact h2
  | .drw, h2 => exact h2
  | .dct zs, h2 => exact h2
  | .exc c, h2 => exact h2
  | .own zs, ⟨p', vs', e1, g0, gF, gn, gp, gv⟩ =>
    refine ⟨p', vs', e1, g0, gF, gn, ?_, gv⟩
    rw [upd_ne (fun z => ne j _ e' (by rw [h1, e1, z]))]; exact gp
/-- an own list becomes data -/
theorem Rep.freeze (r : Rep K L F0 H0 ρ D σ F H) {i : Nat} {xs : List PyData} (e : ρ[i]? = some (some (.own xs))) : ∃ F', Rep K L F0 H0 (ρ.set i (some (.d (.list xs)))) D σ F' H := by
  obtain ⟨o, h1, p, vs, rfl, h0, hF, n, hp, hv⟩ := r.slot i _ e
  refine ⟨upd F p (.lst vs), r.ok.frz hp hF n, r.stp.frz h0 hF, by rw [List.length_set]; exact r.len, fun j a e' => ?_, fun j k xs ys p e1 e2 e3 e4 => ?_⟩
  · rcases set_cases e' with ⟨rfl, e', hl⟩ | ⟨hn, e'⟩
    · obtain rfl : AV.d (.list xs) = a := Option.some.inj e'
      exact ⟨_, h1, _, rfl, .lst (.inl (.inl upd_same)) (dpa_mono (Ex.new hF) hv)⟩
    · obtain ⟨o, g1, g2⟩ := r.slot j a e'
      refine ⟨o, g1, ?_⟩
      match a, g2 with
      | .d x, ⟨v, z, q⟩ => exact ⟨v, z, dp_mono (Ex.new hF) q⟩
      | .drw, h2 => exact h2
      | .dct zs, ⟨p', vs', e1, hp', q⟩ => exact ⟨p', vs', e1, Ex.new hF _ _ hp', q.mono (Ex.new hF)⟩
      | .exc c, ⟨p', e1, hp'⟩ => exact ⟨p', e1, Ex.new hF _ _ hp'⟩
      | .own zs, ⟨p', vs', e1, g0, gF, gn, gp, gv⟩ =>
        refine ⟨p', vs', e1, g0, ?_, gn, gp, dpa_mono (Ex.new hF) gv⟩
        have hpp : p' ≠ p := fun z => by
          subst z
          exact hn (r.inj i j _ _ p' e e' h1 (by rw [g1, e1]))
        rw [upd_ne hpp]; exact gF
  · rcases set_cases e1 with ⟨rfl, e', _⟩ | ⟨hn, e1⟩
    · cases e'
    rcases set_cases e2 with ⟨rfl, e', _⟩ | ⟨hn2, e2⟩
    · cases e'
    exact r.inj j k xs ys p e1 e2 e3 e4
end

/-! ### judgements -/
section
variable (X : Cx)
def tW (e : Expr) : TE := fun σ H Q => ∀ pins s, Inv X pins σ H s → wpAny (model X.prog X.w) X.A (eval e X.env) (EP X pins σ Q) X.xe s
def tWT (e : Expr) : TT := fun σ H Q => ∀ pins s, Inv X pins σ H s → wpAny (model X.prog X.w) X.A (isTrue e X.env (eval e X.env)) (TP X pins σ Q) X.xe s
def tWA (es : List Expr) : TA := fun σ H Q => ∀ (pos : Pos) pins s, Inv X pins σ H s → wpAny (model X.prog X.w) X.A (spliced (backTo pos (starEach es X.env))) (AP X pins σ Q) X.xe s
def tWS (st : Stmt) : TS := fun E σ H => ∀ pins s, Inv X pins σ H s → wpAny (model X.prog X.w) X.A (exec st X.env) (SP X pins E) X.xe s
def tWB (st : List Stmt) : TS := fun E σ H => ∀ pins s, Inv X pins σ H s → wpAny (model X.prog X.w) X.A (execs st X.env) (SP X pins E) X.xe s
def tWG (tg : Expr) : TG := fun v σ H Q => ∀ pins s u, Inv X pins σ H s → RelV v u → wpAny (model X.prog X.w) X.A (assign tg X.env u) (fun _ s' => ∃ σ' H', Inv X pins σ' H' s' ∧ Q σ' H') X.xe s
def tWI (tg iter : Expr) : TI := fun σ H R => ∀ pins s, Inv X pins σ H s → wpAny (model X.prog X.w) X.A (eval iter X.env) (fun v s1 => wpAny (model X.prog X.w) X.A (pyIter v) (PIE X pins σ tg R) X.xe s1) X.xe s
abbrev FE := Env → Dw → Option (PyData × Dw)
abbrev FT := Env → Dw → Option (Bool × Dw)
abbrev FL := Env → Dw → Option (List PyData × Dw)
abbrev FA := Env → Dw → Option (List AV × Dw)
/-- e gives the data that f says -/
structure DE (e : Expr) (f : FE) : Prop where
  run : ∀ L F0 H0 ρ D σ F H x D', Rep X.K L F0 H0 ρ D σ F H → f ρ D = some (x, D') → ∀ Q : VK, (∀ v F' H', Stp L F H F' H' → Ok L D' F' H' → Dp X.K F' v x → Q v H') → tW X e σ H Q
structure DT (e : Expr) (f : FT) : Prop where
  run : ∀ L F0 H0 ρ D σ F H b D', Rep X.K L F0 H0 ρ D σ F H → f ρ D = some (b, D') → ∀ Q : Bool → Hp → Prop, (∀ F' H', Stp L F H F' H' → Ok L D' F' H' → Q b H') → tWT X e σ H Q
/-- e gives a new list, which is nobody's yet -/
structure DN (e : Expr) (f : FL) : Prop where
  run : ∀ L F0 H0 ρ D σ F H xs D', Rep X.K L F0 H0 ρ D σ F H → f ρ D = some (xs, D') → ∀ Q : VK,
  (∀ p vs F' H', Stp L F H F' H' → Ok L D' F' H' → H p = none → F' p = none → H' p = some (.lst vs) → DpAll X.K F' vs xs → Q (.ref p) H') → tW X e σ H Q
/-- e gives a list that may be read now -/
structure DL (e : Expr) (f : FL) : Prop where
  run : ∀ L F0 H0 ρ D σ F H xs D', Rep X.K L F0 H0 ρ D σ F H → f ρ D = some (xs, D') → ∀ Q : VK,
  (∀ p vs F' H', Stp L F H F' H' → Ok L D' F' H' → (∀ F2 H2, Stp L F' H' F2 H2 → SqL X.K H2 p vs) → DpAll X.K F' vs xs → Q (.ref p) H') → tW X e σ H Q
end
def ArgOk (K : PySem.W.Frag) (L : Loc) (F : Hp) : V → AV → Prop
  | v, .d x => Dp K F v x
  | _, .own _ => False
  | v, .drw => ∃ a b, L = some (a, b) ∧ v = .ref a
  | _, .dct _ => False
  | v, .exc c => ∃ p, v = .ref p ∧ F p = some (XO (.ref (TB.C c)) p)
inductive ArgsOk (K : PySem.W.Frag) (L : Loc) (F : Hp) : List V → List AV → Prop where
  | nil : ArgsOk K L F [] []
  | cons {v : V} {vs : List V} {a : AV} {as : List AV} : ArgOk K L F v a → ArgsOk K L F vs as → ArgsOk K L F (v :: vs) (a :: as)
theorem ArgOk.mono {K : PySem.W.Frag} {L : Loc} {F F' : Hp} (e : Ex F F') : ∀ {v : V} {a : AV}, ArgOk K L F v a → ArgOk K L F' v a
  | _, .d _, h => dp_mono e h
  | _, .own _, h => h
  | _, .drw, h => h
  | _, .dct _, h => h
  | _, .exc _, ⟨p, h1, h2⟩ => ⟨p, h1, e _ _ h2⟩
theorem ArgsOk.mono {K : PySem.W.Frag} {L : Loc} {F F' : Hp} (e : Ex F F') : ∀ {v : List V} {a : List AV}, ArgsOk K L F v a → ArgsOk K L F' v a
  | _, _, .nil => .nil
  | _, _, .cons h t => .cons (h.mono e) (t.mono e)
theorem ArgsOk.len {K : PySem.W.Frag} {L : Loc} {F : Hp} : ∀ {v : List V} {a : List AV}, ArgsOk K L F v a → v.length = a.length
  | _, _, .nil => rfl
  | _, _, .cons h t => by rw [List.length_cons, List.length_cons, t.len]
section
variable (X : Cx)
structure DA (es : List Expr) (f : FA) : Prop where
  run : ∀ L F0 H0 ρ D σ F H as D', Rep X.K L F0 H0 ρ D σ F H → f ρ D = some (as, D') → ∀ Q : List V → Hp → Prop,
  (∀ vs F' H', Stp L F H F' H' → Ok L D' F' H' → ArgsOk X.K L F' vs as → Q vs H') → tWA X es σ H Q
/-- a statement's end -/
inductive Out where
  | nx (ρ : Env) (D : Dw) | rt (x : PyData) (D : Dw) | bk (ρ : Env) (D : Dw) | ct (ρ : Env) (D : Dw)
abbrev FS := Env → Dw → Option Out
end
def Good (K : PySem.W.Frag) (L : Loc) (F0 H0 : Hp) (E : Ends) : Out → Prop
  | .nx ρ D => ∀ σ F H, Rep K L F0 H0 ρ D σ F H → E.nx σ H
  | .rt x D => ∀ v F H, Stp L F0 H0 F H → Ok L D F H → Dp K F v x → E.rt v H
  | .bk ρ D => ∀ σ F H, Rep K L F0 H0 ρ D σ F H → E.bk σ H
  | .ct ρ D => ∀ σ F H, Rep K L F0 H0 ρ D σ F H → E.ct σ H
section
variable (X : Cx)
structure DS (st : Stmt) (g : FS) : Prop where
  run : ∀ L F0 H0 ρ D σ F H o (E : Ends), Rep X.K L F0 H0 ρ D σ F H → g ρ D = some o → Good X.K L F0 H0 E o → tWS X st E σ H
structure DB (st : List Stmt) (g : FS) : Prop where
  run : ∀ L F0 H0 ρ D σ F H o (E : Ends), Rep X.K L F0 H0 ρ D σ F H → g ρ D = some o → Good X.K L F0 H0 E o → tWB X st E σ H
end
section
variable {X : Cx} {e : Expr} {es : List Expr} {st : Stmt} {sts : List Stmt} {tg iter : Expr} {σ : L2.St} {H : Hp}
theorem pe_w : PE X e (tW X e) := ⟨fun pins s σ H Q I h => h pins s I⟩
theorem pt_w : PT X e (tWT X e) := ⟨fun pins s σ H Q I h => h pins s I⟩
theorem pa_w : PA X es (tWA X es) := ⟨fun pos pins s σ H Q I h => h pos pins s I⟩
theorem ps_w : PS X st (tWS X st) := ⟨fun pins s σ H D I h => h pins s I⟩
theorem pss_w : PSs X sts (tWB X sts) := ⟨fun pins s σ H D I h => h pins s I⟩
theorem pg_w : PG X tg (tWG X tg) := ⟨fun pins s σ H v u Q I r h => h pins s u I r⟩
theorem pi_w : PI X tg iter (tWI X tg iter) := ⟨fun pins s σ H R I h => h pins s I⟩
theorem PEw {t : TE} {Q : VK} (h : PE X e t) (q : t σ H Q) : tW X e σ H Q := fun pins s I => h.run pins s σ H Q I q
theorem PTw {t : TT} {Q : Bool → Hp → Prop} (h : PT X e t) (q : t σ H Q) : tWT X e σ H Q := fun pins s I => h.run pins s σ H Q I q
theorem PAw {t : TA} {Q : List V → Hp → Prop} (h : PA X es t) (q : t σ H Q) : tWA X es σ H Q := fun pos pins s I => h.run pos pins s σ H Q I q
theorem PSw {t : TS} {D : Ends} (h : PS X st t) (q : t D σ H) : tWS X st D σ H := fun pins s I => h.run pins s σ H D I q
theorem PBw {t : TS} {D : Ends} (h : PSs X sts t) (q : t D σ H) : tWB X sts D σ H := fun pins s I => h.run pins s σ H D I q
theorem PGw {t : TG} {v : V} {Q : L2.St → Hp → Prop} (h : PG X tg t) (q : t v σ H Q) : tWG X tg v σ H Q := fun pins s u I r => h.run pins s σ H v u Q I r q
theorem PIw {t : TI} {R : It → Hp → Prop} (h : PI X tg iter t) (q : t σ H R) : tWI X tg iter σ H R := fun pins s I => h.run pins s σ H R I q
end
end Den

end
-- DenHa
section
set_option Elab.async false
set_option linter.all false
set_option maxRecDepth 100000
namespace Den
open PySem PySem.W PySem.Calls PyProof.Rows
/-! ### a head world by world: the top's steps may hang on the world -/
/-- what the law's walk wants to know of the state behind the top, in one world -/
structure TopOk (r : OpenRow) (q : Program) (loose : List Str) (XP : (Str → Option Value) → Heap → Prop) (YP : World → Heap → Prop) (w : World) (b e : Shared) : Prop where
  ran : TopRan r.prog w b e
  rest : e.asleep
  nogen : e.gens = #[]
  main : e.heap.isNs mainGlobals = true
  grnd : Ground q loose [] XP w e (e.heap.nsMap mainGlobals) (e.heap.nsMap builtinsNs) e.heap
  recs : RecFacts r.records e.heap
  says : YP w e.heap
/-- the opening comes through, and behind it so does the top -/
structure HeadOk (r : OpenRow) (q : Program) (loose : List Str) (XP : (Str → Option Value) → Heap → Prop) (YP : World → Heap → Prop) (w : World) : Prop where
  opens : ∃ s, AfterRun (opening r.prog) w s
  top : ∀ s, AfterRun (opening r.prog) w s → ∃ b, fenceModules? r.prog s = some b ∧ b.gens = #[] ∧ ∃ e, TopOk r q loose XP YP w b e
theorem holds_w {r : OpenRow} {q : Program} {loose : List Str} {XP : (Str → Option Value) → Heap → Prop} {YP : World → Heap → Prop} {d : DefRec} {kwd : List (Str × Expr)}
    (HW : ∀ w, HeadOk r q loose XP YP w)
    (yk : ∀ w h h', YP w h → (∀ a o, h.get? a = some o → h'.get? a = some o) → YP w h')
    (xk : ∀ mg h h', XP mg h → (∀ a o, h.get? a = some o → h'.get? a = some o) → XP mg h')
    (hdef : defOf q r.name = some (d, kwd)) (hp : r.prog.theDef r.name = some (d.params, d.body, d.scope))
    (hk : kwWritten? d.params.kwonlyargs d.params.kw_defaults = some kwd) (hwr : (!r.writes || r.records.isEmpty) = true)
    (k1 : r.wellSaid = true) (ok : (chainsOk q && opensWell r.prog && (frees r.toRowW && r.within.isEmpty)) = true)
    (hb : r.prog.bare) (hw : r.toRowW.promised) (call : WalkO q loose XP YP r.toRowW d kwd fun f vs => PySem.call f vs) : r.Holds := by
  obtain ⟨ok1, k5⟩ := Bool.and_eq_true_iff.mp ok
  have o1 := (Bool.and_eq_true_iff.mp ok1).2
  obtain ⟨fr, wi⟩ := Bool.and_eq_true_iff.mp k5
  have wi' : r.claim.within = [] := List.isEmpty_iff.mp wi
  obtain ⟨same, un, ap, al, mk⟩ := frees_parts fr
  have idn := ident_freeW un ap al
  refine ⟨k1, hw, ⟨hb, o1, by
    show r.makers.map _ = []
    rw [mk]; rfl⟩, hw.witness, fun w => ⟨(HW w).opens, fun s hs => ?_⟩⟩
  obtain ⟨b, fb, gb, e, E⟩ := (HW w).top s hs
  have GR : Ground q loose r.records XP w e _ _ e.heap := E.recs.ground E.grnd
  refine ⟨b, fb, gb, e, E.ran, ?_, E.recs.1, E.recs.2.1, ?_⟩
  · intro n hn
    obtain rfl : n = r.name := by split at hn <;> simp_all
    exact pinned_of_view E.main E.grnd hdef hp hk
  · refine ClaimW.callFrom_of_specG (c := r.claim) E.rest E.nogen fun args hpre hlay ord ho => ?_
    obtain ⟨⟨vs, s1⟩, laid⟩ := Option.isSome_iff_exists.mp (layAllW_isSome (P := w.params) (ord := ord) GR.has args r.args e (pre_splitW hpre).1)
    have kps := layAllW_keeps _ _ _ laid
    have lr := layAllW_rest _ _ _ laid
    obtain ⟨as, rd, inn, old⟩ := reads_layAllW ho _ _ _ laid hlay s1.heap fun _ _ x => x
    have LL : Laid r.records w e s1 args vs as := ⟨⟨ord, ho, laid⟩, rd, inn, old, kps, lr.1.trans E.nogen, lr.2.2.1⟩
    have G1 := GR.keeps xk kps
    obtain ⟨a, o, pm, cd, doc, dV, kV, c1, c2, c3, c4, c5⟩ := G1.fn hdef
    have nm : d.name = r.name := defOf_name hdef
    have c0 : e.heap.nsMap mainGlobals d.name = some (.ref a) := by
      rw [nm]; exact c1
    have run := call w e s1 _ _ G1 (yk _ _ _ E.says kps) a o pm cd doc dV kV c2 c3 c4 c5 c0 LL.gens args vs as hpre hlay LL.reads LL.well (LL.low GR.low)
    have fin : ∀ rr s', GoodWG r.claim (classAt e.heap) (ExcName.means e.heap) args s1 rr s' → r.claim.Ends e args vs s1 rr s' ∧ s'.os = e.os ∧ AllBare s'.gens ∧
        (r.writes = true → namesKept r.claim.prog r.keeps e.heap s'.heap ∧ ∀ x ∈ r.claim.records, ∀ a, classAt e.heap x.1 = some a → recordClass s'.heap a x.1 (x.2.map (·.1)) = true) := fun rr s' g => by
      have z := g.laid (c := r.claim) same wi' idn LL
      exact ⟨z.1, z.2.1, z.2.2, fun wq => ⟨namesKept_of E.ran E.main r.keeps kps g.2.1.old, noTable hwr wq⟩⟩
    refine ⟨vs, s1, laid, wpAny_bind (wpAny_nsGet G1.T.g ?_)⟩
    rw [c1]
    exact wpAny_bind (wpAny_mono run (fun v s' g => wpAny_pure ⟨_, rfl, fin _ _ g⟩) fun x s' g => fin _ _ g)
end Den

end
-- DenHb
section
set_option Elab.async false
set_option linter.all false
set_option maxRecDepth 100000
namespace Den
open PySem PySem.W PySem.Calls PyProof.Rows
section
variable {tb : String → Option Builtin} {p : Program} {w : World} {n0 : Nat} {ann : Option Value}
/-! ### runs of the machine itself, in parts -/
/-- so many steps, each one a top's -/
def runTo (tb : String → Option Builtin) (p : Program) (w : World) (n0 : Nat) (ann : Option Value) : Nat → Shared → Thread → Option (Shared × Thread)
  | 0, s, t => some (s, t)
  | n + 1, s, t => match stepOk n0 ann t with
    | false => none
    | true => match step (denote tb) p w s t with
      | .go s' t' => runTo tb p w n0 ann n s' t'
      | .halt _ _ => none
/-- what such steps leave alone -/
structure Kept (n0 : Nat) (ann : Option Value) (s s' : Shared) : Prop where
  life : s'.heap.life = s.heap.life
  os : s'.os = s.os
  old : ∀ b o, b < n0 → b ≠ mainNs → b ≠ cStatics → ann ≠ some (.ref b) → s.heap.get? b = some o → s'.heap.get? b = some o
theorem Kept.refl (s : Shared) : Kept n0 ann s s := ⟨rfl, rfl, fun _ _ _ _ _ _ e => e⟩
theorem Kept.trans {a b c : Shared} (x : Kept n0 ann a b) (y : Kept n0 ann b c) : Kept n0 ann a c :=
  ⟨y.life.trans x.life, y.os.trans x.os, fun q o h1 h2 h3 h4 e => y.old q o h1 h2 h3 h4 (x.old q o h1 h2 h3 h4 e)⟩
theorem kept_step {s s' : Shared} {t t' : Thread} (hk : stepOk n0 ann t = true) (hs : step (denote tb) p w s t = .go s' t') : t.calm = true ∧ Kept n0 ann s s' := by
  obtain ⟨hc, hu⟩ := Bool.and_eq_true_iff.mp hk
  refine ⟨hc, step_life (denote tb) p w s s' t t' hs, step_os_same hs (by revert hu; cases t.cur <;> simp), fun b o h1 h2 h3 h4 e => ?_⟩
  rw [step_heap (denote tb) p w s s' t t' hs]
  revert hu
  cases t.cur <;> intro hu <;> try exact e
  case alloc x _ => exact Heap.get?_push_of_some x e
  case update a _ f _ =>
    by_cases q : b = a
    · subst q
      simp only [Bool.or_eq_true, Nat.ble_eq, beq_iff_eq] at hu
      rcases hu with ((z | z) | z) | z
      · exact absurd h1 (Nat.not_lt.mpr z)
      · exact (h2 z).elim
      · exact (h3 z).elim
      · exact (h4 z).elim
    · exact (Heap.get?_update_ne _ _ _ _ q).trans e
theorem runTo_kept : ∀ {n : Nat} {s s' : Shared} {t t' : Thread}, runTo tb p w n0 ann n s t = some (s', t') → Kept n0 ann s s' ∧
    (∀ m, PySem.runN (denote tb) p w (n + m) s t = PySem.runN (denote tb) p w m s' t') ∧ ∀ k s1 t1, k < n → PySem.runN (denote tb) p w k s t = .running s1 t1 → t1.calm = true
  | 0, s, s', t, t', h => by
    cases h
    exact ⟨.refl _, fun m => by rw [Nat.zero_add], fun k _ _ z => absurd z (Nat.not_lt_zero k)⟩
  | n + 1, s, s', t, t', h => by
    unfold runTo at h
    cases hk : stepOk n0 ann t with
    | false => rw [hk] at h; cases h
    | true =>
      rw [hk] at h
      cases hs : step (denote tb) p w s t with
      | halt o s2 => rw [hs] at h; cases h
      | go s2 t2 =>
        rw [hs] at h
        obtain ⟨c, k1⟩ := kept_step hk hs
        obtain ⟨k2, e, cs⟩ := runTo_kept h
        refine ⟨k1.trans k2, fun m => ?_, fun k s1 t1 z e1 => ?_⟩
        · rw [show n + 1 + m = (n + m) + 1 by omega]
          show (match step (denote tb) p w s t with
            | .go s' t' => PySem.runN (denote tb) p w (n + m) s' t'
            | .halt o s' => .halted o s') = _
          rw [hs]
          exact e m
        · cases k with
          | zero => cases e1; exact c
          | succ k =>
            have e2 : (match step (denote tb) p w s t with
              | .go s' t' => PySem.runN (denote tb) p w k s' t'
              | .halt o s' => .halted o s') = .running s1 t1 := e1
            rw [hs] at e2
            exact cs k s1 t1 (by omega) e2
/-- to the end: the thread is through, and its last state is calm -/
structure RunEnd (tb : String → Option Builtin) (p : Program) (w : World) (n0 : Nat) (ann : Option Value) (s : Shared) (t : Thread) (e : Shared) : Prop where
  run : ∃ n t', runTo tb p w n0 ann n s t = some (e, t') ∧ through t' = true ∧ t'.calm = true
/-- a thread that is through halts -/
theorem through_halt {s : Shared} {t : Thread} (h : through t = true) (g : leftWithCleanup s.gens = false) : ∃ f, step (denote tb) p w s t = .halt (.done f) s := by
  obtain ⟨heap, gens, drawn, toks, os⟩ := s
  obtain ⟨cur, code, pos, stack⟩ := t
  obtain ⟨h1, h2⟩ := Bool.and_eq_true_iff.mp h
  cases stack with
  | cons _ _ => cases h1
  | nil =>
    cases cur <;> try cases h2
    rename_i fin
    cases fin with
    | again c => cases h2
    | done f => exact ⟨f, by
        show finish (.done f) _ = _
        unfold finish
        rw [if_neg (by rw [show leftWithCleanup (⟨heap, gens, drawn, toks, os⟩ : Shared).gens = false from g]; decide)]⟩
theorem halt_through {s s' : Shared} {t : Thread} {f : Flow} (h : step (denote tb) p w s t = .halt (.done f) s') : through t = true := by
  obtain ⟨heap, gens, drawn, toks, os⟩ := s
  obtain ⟨cur, code, pos, stack⟩ := t
  cases cur <;> simp only [step, finish] at h <;> (repeat' split at h) <;> simp_all [through]
theorem RunEnd.halts {s e : Shared} {t : Thread} (h : RunEnd tb p w n0 ann s t e) (g : leftWithCleanup e.gens = false) :
    Kept n0 ann s e ∧ ∃ n f, PySem.runN (denote tb) p w n s t = .halted (.done f) e ∧ ∀ k s1 t1, PySem.runN (denote tb) p w k s t = .running s1 t1 → t1.calm = true := by
  obtain ⟨n, t', r, th, c⟩ := h.run
  obtain ⟨kp, add, cs⟩ := runTo_kept r
  obtain ⟨f, hf⟩ := through_halt (tb := tb) (p := p) (w := w) th g
  have one : PySem.runN (denote tb) p w (n + 1) s t = .halted (.done f) e := by
    rw [add 1]
    show (match step (denote tb) p w e t' with
      | .go s' t' => PySem.runN (denote tb) p w 0 s' t'
      | .halt o s' => .halted o s') = _
    rw [hf]
  refine ⟨kp, n + 1, f, one, fun k s1 t1 hk => ?_⟩
  by_cases z : k < n
  · exact cs k s1 t1 z hk
  · obtain ⟨m, rfl⟩ : ∃ m, k = n + m := ⟨k - n, by omega⟩
    rw [add m] at hk
    cases m with
    | zero => cases hk; exact c
    | succ m =>
      have e2 : (match step (denote tb) p w e t' with
        | .go s' t' => PySem.runN (denote tb) p w m s' t'
        | .halt o s' => .halted o s') = .running s1 t1 := hk
      rw [hf] at e2
      cases e2
end
end Den

end
-- DenHc
section
set_option Elab.async false
set_option linter.all false
set_option maxRecDepth 100000
namespace Den
open PySem PySem.W PySem.Calls PyProof.Rows
section
variable {M : Model} {p : Program} {w : World} {n0 : Nat} {ann : Option Value}
/-! ### a part that is known by its rules alone, between two runs -/
/-- what stands at the bottom -/
abbrev bot (c : Code) : Ctx := ⟨c, none, none, [], none⟩
theorem seg_inv {Γ : Ctx} {q : Pos} {t : Sem Fin} {k : Result → Sem Fin} {h : Option Value} {g : Bool} {l : List Value} {c1 : Code} {p1 : Pos} {kp : List Value} {s s' : Shared} {r : Result}
    (H : Runs M Γ q t [.ret k h g l c1 p1 kp] s (.ret r) s') : ∃ r0 s1, Runs M (Γ.over [.ret k h g l c1 p1 kp]) q t [] s (.ret r0) s1 ∧ Runs M (Γ.goto c1) p1 (k r0) [] s1 (.ret r) s' := by
  cases H with
  | segRet a b => exact ⟨_, _, a, b⟩
  | segSuspGen e _ _ _ => cases e
theorem join_halts {α : Type} {T : Sem α} {k : α → Sem Fin} {kf : Result → Sem Fin} {h : Option Value} {g : Bool} {l : List Value} {c c1 : Code} {q q1 : Pos} {kp : List Value} {A : Around} {s1 : Shared} {Q : α → Shared → Prop} {G : α → Shared → Shared → Prop}
    (hA : ((bot c).over [.ret kf h g l c1 q1 kp]).In A) (hT : wpAny (model p w) A T Q (fun _ _ => False) s1)
    (hk : ∀ a s2 pos, Q a s2 → ∃ e, RunEnd table p w n0 ann s2 ⟨k a, c, pos, [.ret kf h g l c1 q1 kp]⟩ e ∧ leftWithCleanup e.gens = false ∧ G a s2 e) :
    ∃ a s2 e, Q a s2 ∧ G a s2 e ∧ Kept n0 ann s2 e ∧ ∃ n f e', PySem.runN (denote table) p w n s1 ⟨T >>= k, c, q, [.ret kf h g l c1 q1 kp]⟩ = .halted (.done f) e' ∧ e'.forget = e.forget ∧
      ∀ j s2 t2, PySem.runN (denote table) p w j s1 ⟨T >>= k, c, q, [.ret kf h g l c1 q1 kp]⟩ = .running s2 t2 → t2.calm = true := by
  let R : Result → Shared → Prop := fun r0 s3 => ∃ a s2 e f s', Q a s2 ∧ G a s2 e ∧ Kept n0 ann s2 e ∧ Runs (model p w) ((bot c).goto c1) q1 (kf r0) [] s3 (.ret (.ok f)) s' ∧ e.forget = s'.forget ∧ leftWithCleanup s'.gens = false
  have W : Sem.wp (model p w) ((bot c).over [.ret kf h g l c1 q1 kp]) (T >>= k) (Sem.finPost (model p w) ((bot c).over [.ret kf h g l c1 q1 kp]) R) (fun e _ s' => R (.error e) s') q s1 := by
    rw [Sem.wp_bind']
    refine Sem.wp_mono _ _ _ (fun a pos s2 hq => ?_) (fun _ _ _ z => z.elim) q s1 (hT _ q hA)
    obtain ⟨e, re, ge, Ge⟩ := hk a s2 pos hq
    obtain ⟨kp2, n, f, hn, hc⟩ := re.halts ge
    obtain ⟨s', hi, fo⟩ := runN_calm_runNI (denote table) p w hn hc
    obtain ⟨ru, lc⟩ := (halts_iff (M := model p w) (r := .ok f)).mp ⟨n, hi⟩
    obtain ⟨r0, s3, ra, rb⟩ := seg_inv ru
    exact (Sem.wp_iff_runs _ _ _ R pos s2).mpr ⟨r0, s3, ra, a, s2, e, f, s', hq, Ge, kp2, rb, fo, lc⟩
  obtain ⟨r0, s3, ra, a, s2, e, f, s', hq, Ge, kp2, rb, fo, lc⟩ := (Sem.wp_iff_runs _ _ _ R q s1).mp W
  have ru : Runs (model p w) (bot c) q (T >>= k) [.ret kf h g l c1 q1 kp] s1 (.ret (.ok f)) s' := .segRet ra rb
  obtain ⟨n, hn⟩ := (halts_iff (M := model p w) (r := .ok f)).mpr ⟨ru, lc⟩
  obtain ⟨e', he, hf, hc⟩ := runNI_real (denote table) p w hn (outcomeOf_ends (.ok f))
  exact ⟨a, s2, e, hq, Ge, kp2, n, f, e', he, hf.trans fo.symm, hc⟩
/-- the two runs and what lies between: the scheduler's run to the state ahead of the halt -/
theorem sched_of {n1 : Nat} {s0 s1 e : Shared} {t0 t1 : Thread} (h1 : runTo table p w n0 ann n1 s0 t0 = some (s1, t1)) (zz : s0.asleep)
    (h2 : ∃ n f e', PySem.runN (denote table) p w n s1 t1 = .halted (.done f) e' ∧ e'.forget = e.forget ∧ ∀ j s2 t2, PySem.runN (denote table) p w j s1 t1 = .running s2 t2 → t2.calm = true)
    (hg : e.gens = #[]) : ∃ n t, schedN (denote table) p w n (.single s0 t0) = .running (.single e t) ∧ through t = true := by
  obtain ⟨n, f, e', hn, fo, hc⟩ := h2
  obtain ⟨_, add, cs⟩ := runTo_kept h1
  have all : ∀ j s2 t2, PySem.runN (denote table) p w j s0 t0 = .running s2 t2 → t2.calm = true := fun j s2 t2 hj => by
    by_cases z : j < n1
    · exact cs j s2 t2 z hj
    · obtain ⟨m, rfl⟩ : ∃ m, j = n1 + m := ⟨j - n1, by omega⟩
      rw [add m] at hj
      exact hc m s2 t2 hj
  have tot : PySem.runN (denote table) p w (n1 + n) s0 t0 = .halted (.done f) e' := (add n).trans hn
  have ne : ∀ j s2, PySem.runN (denote table) p w j s0 t0 ≠ .halted (.unsupported "lifetime:generator-with-cleanup-left-suspended") s2 := fun j s2 hj => by
    have a := runN_mono (denote table) p w (n1 + n) j s0 t0 _ _ tot
    have b := runN_mono (denote table) p w j (n1 + n) s0 t0 _ _ hj
    rw [Nat.add_comm, b] at a
    cases a
  have ee : e' = e := by
    refine Shared.eq_of_forget_eq' fo ?_
    unfold Shared.NoSusp
    rw [hg]
    simp
  subst ee
  have prev : ∀ (n : Nat) (s : Shared) (t : Thread), PySem.runN (denote table) p w n s t = .halted (.done f) e' → ∃ m t', PySem.runN (denote table) p w m s t = .running e' t' ∧ through t' = true := by
    intro n
    induction n with
    | zero => intro s t h; cases h
    | succ n ih =>
      intro s t h
      have h' : (match step (denote table) p w s t with
        | .go s' t' => PySem.runN (denote table) p w n s' t'
        | .halt o s' => .halted o s') = .halted (.done f) e' := h
      cases hs : step (denote table) p w s t with
      | halt o s2 =>
        rw [hs] at h'
        cases h'
        have q := step_halt_same (denote table) p w s _ t _ hs
        subst q
        exact ⟨0, t, rfl, halt_through hs⟩
      | go s2 t2 =>
        rw [hs] at h'
        obtain ⟨m, t', hm, ht⟩ := ih s2 t2 h'
        refine ⟨m + 1, t', ?_, ht⟩
        show (match step (denote table) p w s t with
          | .go s' t' => PySem.runN (denote table) p w m s' t'
          | .halt o s' => .halted o s') = _
        rw [hs]
        exact hm
  obtain ⟨m, t', hm, ht⟩ := prev _ _ _ tot
  exact ⟨m, t', (schedN_eq_runN (denote table) p w s0 t0 zz ⟨all, ne⟩ m).trans (congrArg Run.lift hm), ht⟩
end
end Den

end
-- DenHd
section
set_option Elab.async false
set_option linter.all false
set_option maxRecDepth 100000
namespace Den
open PySem PySem.W PySem.Calls PyProof.Rows
/-! ### the head from what the top leaves, in one world -/
/-- the state that the boot leaves -/
noncomputable abbrev bootS (w : World) (os : OsState) : Shared := ⟨boot_heap w.params, #[], boot_drawn, boot_toks, os⟩
/-- the state e that the top leaves behind b -/
structure TopEnd (r : OpenRow) (q : Program) (loose : List Str) (YP : World → Heap → Prop) (w : World) (b e : Shared) : Prop where
  sch : ∃ n t, schedN (denote table) r.prog w n (.single b (topStub r.prog)) = .running (.single e t) ∧ through t = true
  kept : Kept b.heap.objs.size (b.heap.nsMap mainGlobals "__annotations__") b e
  gens : e.gens = #[]
  look : HandSHeadRun.looksF r.prog b.heap e = true
  seen : openSeen q loose (importedModules r.prog.main.body) (fun s => xlAt q [] s && recOk r.toRowW.records s) true e = openGood q loose
  says : YP w e.heap
theorem head_of {r : OpenRow} {q : Program} {loose : List Str} {YP : World → Heap → Prop} {w : World} (eo : opening r.prog = plainProg r.prog.main.scope.names) (f : ∀ s, fenceModules? r.prog s = some s) (hch : chainsOk q = true)
    (H : ∀ os, (bootS w os).asleep → ∃ e, TopEnd r q loose YP w (bootS w os) e) : HeadOk r q loose (XL q []) YP w := by
  obtain ⟨⟨h, gs, d, k, os⟩, a, a'⟩ := Option.map_eq_some_iff.mp (boot_open (N := 600) eo (by decide) f w)
  obtain ⟨rfl, rfl, rfl, rfl⟩ : h = boot_heap w.params ∧ gs = Array.mk [] ∧ d = boot_drawn ∧ k = boot_toks := by simpa using a'
  rw [← table_eq_tree] at a
  obtain ⟨s, h1, h2⟩ := Option.bind_eq_some_iff.mp a
  have AR := AfterImport.of_importEnds h1
  refine ⟨⟨s, AR⟩, fun s' hs' => ?_⟩
  obtain rfl : s' = s := AfterImport.unique hs' AR
  have z : (bootS w os).asleep := Shared.asleep_of_life (fence_lifeW h2) AR.life
  obtain ⟨e, E⟩ := H os z
  refine ⟨bootS w os, h2, rfl, e, ?_⟩
  obtain ⟨l3, l4⟩ := Bool.and_eq_true_iff.mp E.look
  obtain ⟨l5, l6⟩ := Bool.and_eq_true_iff.mp l3
  obtain ⟨l7, l8⟩ := Bool.and_eq_true_iff.mp l5
  obtain ⟨GR, g0, g1, g2, g3, g4, g5⟩ := ground_of_open (XP := fun mg h => XL q [] mg h ∧ RecFacts r.toRowW.records h) (w := w)
    (fun s hs => ⟨xl_of s (Bool.and_eq_true_iff.mp hs).1, recFacts_of (Bool.and_eq_true_iff.mp hs).2⟩) hch E.seen
  have main : (boot_heap w.params).isNs mainGlobals = true := HandSHeadRun.boot_ns w.params
  refine ⟨⟨E.sch, E.kept.life, Shared.rest_eq E.kept.os, fun b o hb nt => ?_, g2, statics_of_ok l7, g3, g4, g5, gens_of_done l6, names_of_bound l8, laid_of_kept l4⟩, Shared.asleep_of_life E.kept.life z, E.gens, g1,
    ⟨GR.T, GR.B, GR.D, GR.TE, GR.TD, GR.W, GR.X.1, GR.cls, GR.has, GR.apart, GR.once, GR.K⟩, GR.X.2, E.says⟩
  exact E.kept.old b o (Heap.lt_size hb) (fun x => nt (.inl x)) (fun x => nt (.inr (.inl x))) (fun x => nt (.inr (.inr ((Pin.globalOf_eq main _).trans x)))) hb
end Den

end
-- DenHe
section
set_option Elab.async false
set_option linter.all false
set_option maxRecDepth 100000
namespace Den
open PySem PySem.W PySem.Calls PyProof.Rows
section
variable {α : Type} {tb : String → Option Builtin} {p : Program} {w : World} {n0 : Nat} {ann : Option Value} {B : List Frame} {K' : α → Sem Fin} {H' : Value → Sem Fin} {gd : Bool → Bool} {lv : List Value → List Value} {res : α → Flow}
theorem runTo_app : ∀ {n m : Nat} {s s1 s2 : Shared} {t t1 t2 : Thread}, runTo tb p w n0 ann n s t = some (s1, t1) → runTo tb p w n0 ann m s1 t1 = some (s2, t2) → runTo tb p w n0 ann (n + m) s t = some (s2, t2)
  | 0, m, s, s1, s2, t, t1, t2, h, k => by
    cases h
    rw [Nat.zero_add]
    exact k
  | n + 1, m, s, s1, s2, t, t1, t2, h, k => by
    rw [show n + 1 + m = (n + m) + 1 by omega]
    unfold runTo at h ⊢
    cases hk : stepOk n0 ann t with
    | false => rw [hk] at h; cases h
    | true =>
      rw [hk] at h
      cases hs : step (denote tb) p w s t with
      | halt o s' => rw [hs] at h; cases h
      | go s' t' =>
        rw [hs] at h
        exact runTo_app h k
/-- a part run by itself: the same steps where more follows -/
theorem seg_run (hB : splitAtGen B = none) : ∀ (n : Nat) {s s' : Shared} {t t' : Thread} {f : Flow} {c' : Code} {p' : Pos}, Rel2 (fun a => .pure (.done (res a))) K' deadEnd H' gd lv B t t' →
    segRun tb p w n0 ann B.length n s t = some (f, s', c', p') → ∃ a, res a = f ∧ ∃ m, runTo tb p w n0 ann m s t' = some (s', ⟨K' a, c', p', B⟩)
  | 0, _, _, _, _, _, _, _, _, h => by cases h
  | n + 1, s, s', ⟨cur, code, pos, st⟩, ⟨cur', code', pos', st'⟩, f, c', p', R, h => by
    obtain ⟨e1, e2, R⟩ := R
    dsimp only at e1 e2 R
    subst e1 e2
    unfold segRun at h
    cases he : endAt B.length ⟨cur, code, pos, st⟩ with
    | some g =>
      rw [he] at h
      obtain ⟨rfl, rfl, rfl, rfl⟩ : g = f ∧ s = s' ∧ code = c' ∧ pos = p' := by simpa using h
      rcases R with ⟨rfl, rfl, x, rfl, rfl⟩ | ⟨rfl, F⟩
      · cases x with
        | pure a =>
          refine ⟨a, ?_, 0, rfl⟩
          simpa only [endAt, Sem.wrap, beq_self_eq_true, Option.some.injEq] using he
        | _ => simp [endAt, Sem.wrap] at he
      · have z : (st.length == B.length) = false := beq_eq_false_iff_ne.mpr (Nat.ne_of_gt F.longer.1)
        simp only [endAt, z] at he
        cases he
    | none =>
      rw [he] at h
      cases hk : stepOk n0 ann ⟨cur, code, pos, st⟩ with
      | false => rw [hk] at h; cases h
      | true =>
        rw [hk] at h
        cases hs : step (denote tb) p w s ⟨cur, code, pos, st⟩ with
        | halt o s2 => rw [hs] at h; cases h
        | go s2 t2 =>
          rw [hs] at h
          have h1 : segRun tb p w n0 ann B.length n s2 t2 = some (f, s', c', p') := h
          have key : stepOk n0 ann ⟨cur', code, pos, st'⟩ = true ∧ ∃ t3, step (denote tb) p w s ⟨cur', code, pos, st'⟩ = .go s2 t3 ∧ Rel2 (fun a => .pure (.done (res a))) K' deadEnd H' gd lv B t2 t3 := by
            rcases R with ⟨rfl, rfl, x, rfl, rfl⟩ | ⟨rfl, F⟩
            · have np : ∀ a, x ≠ .pure a := fun a q => by
                subst q
                simp [endAt, Sem.wrap] at he
              have nr : ∀ e, x ≠ .raise e := fun e q => by
                subst q
                obtain ⟨heap, gens, drawn, toks, os⟩ := s
                simp only [Sem.wrap, step] at hs
                cases hs
              exact ⟨(okOuter (K' := K') (H' := H') np nr hk).1, step_outer hB np hs⟩
            · exact ⟨(okInner hB F hk).1, step_inner hB F hs⟩
          obtain ⟨k1, t3, k3, R3⟩ := key
          obtain ⟨a, ea, m, hm⟩ := seg_run hB n R3 h1
          refine ⟨a, ea, m + 1, ?_⟩
          unfold runTo
          rw [k1, k3]
          exact hm
/-- the same, from the part itself -/
theorem part_run (hB : splitAtGen B = none) {x : Sem α} {n : Nat} {s s' : Shared} {f : Flow} {c c' : Code} {q p' : Pos} (h : segRun tb p w n0 ann B.length n s ⟨x.wrap (fun a => .pure (.done (res a))) deadEnd gd lv, c, q, B⟩ = some (f, s', c', p')) :
    ∃ a, res a = f ∧ ∃ m, runTo tb p w n0 ann m s ⟨x.wrap K' H' gd lv, c, q, B⟩ = some (s', ⟨K' a, c', p', B⟩) :=
  seg_run hB n (t := ⟨x.wrap (fun a => .pure (.done (res a))) deadEnd gd lv, c, q, B⟩) (t' := ⟨x.wrap K' H' gd lv, c, q, B⟩) ⟨rfl, rfl, .inl ⟨rfl, rfl, x, rfl, rfl⟩⟩ h
end
end Den

end
-- DenHf
section
set_option Elab.async false
set_option linter.all false
set_option maxRecDepth 100000
namespace Den
open PySem PySem.W PySem.Calls PyProof.Rows
/-! ### X = {.., ..} at the top: what comes ahead of the stores, the stores, what comes behind -/
def dispA (pos dpos : Pos) (pairs : List (Sem Value × Sem Value)) : Sem (Addr × List (Value × Value)) :=
  (standAt pos).bind fun _ => (standAt dpos).bind fun _ => (alloc { cls := .type "dict", data := .dict #[] }).bind fun d => (holding [.ref d] (evalPairs pairs)).bind fun vs => .pure (d, vs)
def dispT (x : Addr × List (Value × Value)) : Sem PUnit :=
  holding [.ref x.1] (holding (x.2.flatMap fun (k, v) => [k, v]) (forIn x.2 PUnit.unit fun (y : Value × Value) (_ : PUnit) => (do dictSet x.1 y.1 y.2; pure (ForInStep.yield PUnit.unit) : Sem (ForInStep PUnit))))
theorem subDict_parts {pairs : List (Sem Value × Sem Value)} (hlen : pairs.length ≤ 15) :
    subDict pairs = (alloc { cls := .type "dict", data := .dict #[] }).bind fun d => (holding [.ref d] (evalPairs pairs)).bind fun vs => (dispT (d, vs)).bind fun _ => .pure d := by
  unfold subDict
  refine congrArg (Sem.bind _) (funext fun d => ?_)
  rw [if_pos hlen]
  simp only [Sem.bind_eq, holding_bind, Sem.bind_assoc]
  refine congrArg (Sem.bind _) (funext fun vs => ?_)
  unfold dispT
  refine congrArg (Sem.bind _) (funext fun _ => ?_)
  rw [show (pure () : Sem PUnit) = .pure () from rfl, holding_pure, holding_pure]
  rfl
/-- behind the stores -/
def dispC (env : PySem.Env) (x : Str) (pos' : Pos) (d : Addr) : Sem Flow := (standAt pos').bind fun _ => (bindName env x (.ref d)).bind fun _ => .pure .next
theorem exec_dict {env : PySem.Env} {x : Str} {pos' pos dpos : Pos} {keys : List (Option Expr)} {vals : List Expr} {pairs : List (Sem Value × Sem Value)}
    (hs : swapsWith (.Dict keys vals dpos) (some (.Name x pos')) pos.line env = pure false)
    (hshape : (evalEachOpt keys env).zip ((evalEach vals env).map fun v => do let x ← v; standAt dpos; pure x) = pairs.map fun p => (some p.1, p.2)) (h0 : pairs ≠ []) (hlen : pairs.length ≤ 15) :
    exec (.Assign [.Name x pos'] (.Dict keys vals dpos) pos) env = (dispA pos dpos pairs).bind fun a => (dispT a).bind fun _ => dispC env x pos' a.1 := by
  rw [exec_Assign_Name env x pos' _ pos hs, arm_eval_Dict, hshape, dictDisplay_pairs pairs h0 (by omega), subDict_parts hlen]
  unfold dispA dispC
  simp only [Sem.bind_eq, Sem.bind_assoc]
  rfl
end Den

end
-- DenHg
section
set_option Elab.async false
set_option linter.all false
set_option maxRecDepth 100000
namespace Den
open PySem PySem.W PySem.Calls PyProof.Rows L2
section
variable {M : Model} {p : Program} {w : World} {n0 : Nat} {ann : Option Value}
theorem wp_wrapK {α β : Type} {Γ : Ctx} (m : Sem α) (f : α → Sem β) (h : Value → Sem β) (Q : β → Pos → Shared → Prop) (E : Value → Pos → Shared → Prop) (q : Pos) (s : Shared) :
    Sem.wp M Γ (m.wrap f h id id) Q E q s = Sem.wp M Γ m (fun a q' s' => Sem.wp M Γ (f a) Q E q' s') (fun e q' s' => Sem.wp M Γ (h e) Q E q' s') q s := by
  induction m generalizing q s <;> simp only [Sem.wrap, Sem.wp, id, *]
/-- join_halts, for a part whose raising would go elsewhere -/
theorem join_wrap {α : Type} {T : Sem α} {k : α → Sem Fin} {hx : Value → Sem Fin} {kf : Result → Sem Fin} {h : Option Value} {g : Bool} {l : List Value} {c c1 : Code} {q q1 : Pos} {kp : List Value} {A : Around} {s1 : Shared} {Q : α → Shared → Prop} {G : α → Shared → Shared → Prop}
    (hA : ((bot c).over [.ret kf h g l c1 q1 kp]).In A) (hT : wpAny (model p w) A T Q (fun _ _ => False) s1)
    (hk : ∀ a s2 pos, Q a s2 → ∃ e, RunEnd table p w n0 ann s2 ⟨k a, c, pos, [.ret kf h g l c1 q1 kp]⟩ e ∧ leftWithCleanup e.gens = false ∧ G a s2 e) :
    ∃ a s2 e, Q a s2 ∧ G a s2 e ∧ Kept n0 ann s2 e ∧ ∃ n f e', PySem.runN (denote table) p w n s1 ⟨T.wrap k hx id id, c, q, [.ret kf h g l c1 q1 kp]⟩ = .halted (.done f) e' ∧ e'.forget = e.forget ∧
      ∀ j s2 t2, PySem.runN (denote table) p w j s1 ⟨T.wrap k hx id id, c, q, [.ret kf h g l c1 q1 kp]⟩ = .running s2 t2 → t2.calm = true := by
  let R : Result → Shared → Prop := fun r0 s3 => ∃ a s2 e f s', Q a s2 ∧ G a s2 e ∧ Kept n0 ann s2 e ∧ Runs (model p w) ((bot c).goto c1) q1 (kf r0) [] s3 (.ret (.ok f)) s' ∧ e.forget = s'.forget ∧ leftWithCleanup s'.gens = false
  have W : Sem.wp (model p w) ((bot c).over [.ret kf h g l c1 q1 kp]) (T.wrap k hx id id) (Sem.finPost (model p w) ((bot c).over [.ret kf h g l c1 q1 kp]) R) (fun e _ s' => R (.error e) s') q s1 := by
    rw [wp_wrapK]
    refine Sem.wp_mono _ _ _ (fun a pos s2 hq => ?_) (fun _ _ _ z => z.elim) q s1 (hT _ q hA)
    obtain ⟨e, re, ge, Ge⟩ := hk a s2 pos hq
    obtain ⟨kp2, n, f, hn, hc⟩ := re.halts ge
    obtain ⟨s', hi, fo⟩ := runN_calm_runNI (denote table) p w hn hc
    obtain ⟨ru, lc⟩ := (halts_iff (M := model p w) (r := .ok f)).mp ⟨n, hi⟩
    obtain ⟨r0, s3, ra, rb⟩ := seg_inv ru
    exact (Sem.wp_iff_runs _ _ _ R pos s2).mpr ⟨r0, s3, ra, a, s2, e, f, s', hq, Ge, kp2, rb, fo, lc⟩
  obtain ⟨r0, s3, ra, a, s2, e, f, s', hq, Ge, kp2, rb, fo, lc⟩ := (Sem.wp_iff_runs _ _ _ R q s1).mp W
  have ru : Runs (model p w) (bot c) q (T.wrap k hx id id) [.ret kf h g l c1 q1 kp] s1 (.ret (.ok f)) s' := .segRet ra rb
  obtain ⟨n, hn⟩ := (halts_iff (M := model p w) (r := .ok f)).mpr ⟨ru, lc⟩
  obtain ⟨e', he, hf, hc⟩ := runNI_real (denote table) p w hn (outcomeOf_ends (.ok f))
  exact ⟨a, s2, e, hq, Ge, kp2, n, f, e', he, hf.trans fo.symm, hc⟩
/-! ### the stores -/
/-- an object that the dict d may have become: exactly these entries, any epoch -/
abbrev dObj (es : List DictEntry) (ep : Nat) : Obj := ⟨.type "dict", none, .dict es.toArray ep, #[]⟩
theorem dispT_ok {A : Around} {d : Addr} {vs : List (Value × Value)} {ps : List (List Key × Addr × Value)} {s : Shared}
    (hu : A.units < cLine) (hc : CarriesH (tupleKind (mixKind p w)) s.heap vs ps) (hd : s.heap.DictOfH (tupleKind (mixKind p w)) d []) (hn : (ps.map (·.1)).Nodup) (hl : ps.length ≤ 15) :
    wpAny (model p w) A (dispT (d, vs)) (fun _ s' => ∃ h' tk, s' = { s with heap := h', toks := tk } ∧ h'.DictOfH (tupleKind (mixKind p w)) d (storedAllH [] ps) ∧ Heap.SameBut d s.heap h') (fun _ _ => False) s := by
  unfold dispT
  refine wpAny_holding (wpAny_holding ?_)
  exact wpAny_storeAllH (knd := tupleKind (mixKind p w)) hu vs ps [] s _ hc hd (by rw [sizeLine_eq, List.length_nil]; omega) fun h' tk a b => ⟨h', tk, rfl, a, b⟩
end
end Den

end
-- DenHh
section
set_option Elab.async false
set_option linter.all false
set_option maxRecDepth 100000
noncomputable section
namespace Den
open PySem PySem.W PySem.Calls PyProof.Rows HandSHeadRun
/-! ### runs off the tree, the tokens left as they are (they may be unknown) -/
def frT {α : Type} (s : SharedT) (k : SharedT → α) : α := match s with
  | ⟨T, n, life, gens, drawn, toks, os⟩ => frNat n fun n => k ⟨T, n, life, gens, drawn, toks, os⟩
theorem frT_eq {α : Type} (s : SharedT) (k : SharedT → α) : frT s k = k s := by
  obtain ⟨T, n, life, gens, drawn, toks, os⟩ := s
  show frNat n (fun n => k ⟨T, n, life, gens, drawn, toks, os⟩) = _
  rw [frNat_eq]
section
variable (st : SharedT → Thread → Option (SharedT × Thread)) (n0 : Nat) (ann : Option Value)
/-- so many steps -/
def goN : Nat → SharedT → Thread → Option (SharedT × Thread)
  | 0, s, t => some (s, t)
  | m + 1, s, t => match stepOk n0 ann t with
    | false => none
    | true => match st s t with
      | some (s', t') => frT s' fun s' => goN m s' t'
      | none => none
/-- to the end of a part that runs by itself -/
def goP : Nat → SharedT → Thread → Option (Flow × SharedT × Code × Pos)
  | 0, _, _ => none
  | m + 1, s, t => match endAt 1 t with
    | some f => some (f, s, t.code, t.pos)
    | none => match stepOk n0 ann t with
      | false => none
      | true => match st s t with
        | some (s', t') => frT s' fun s' => goP m s' t'
        | none => none
/-- to the end of all -/
def goE : Nat → SharedT → Thread → Option SharedT
  | 0, _, _ => none
  | m + 1, s, t => match through t with
    | true => (match t.calm with
      | true => some s
      | false => none)
    | false => match stepOk n0 ann t with
      | false => none
      | true => match st s t with
        | some (s', t') => frT s' fun s' => goE m s' t'
        | none => none
end
section
variable {tb : String → Option Builtin} {p : Program} {w : World} {n0 : Nat} {ann : Option Value}
theorem goN_ok : ∀ {m : Nat} {s s' : SharedT} {t t' : Thread}, goN (stepT (denote tb) p w) n0 ann m s t = some (s', t') → runTo tb p w n0 ann m s.abs t = some (s'.abs, t')
  | 0, s, s', t, t', h => by cases h; rfl
  | m + 1, s, s', t, t', h => by
    unfold goN at h
    unfold runTo
    cases hk : stepOk n0 ann t with
    | false => rw [hk] at h; cases h
    | true =>
      rw [hk] at h
      cases hs : stepT (denote tb) p w s t with
      | none => rw [hs] at h; cases h
      | some r =>
        obtain ⟨s2, t2⟩ := r
        rw [hs] at h
        dsimp only at h
        rw [frT_eq] at h
        rw [stepT_spec hs]
        exact goN_ok h
theorem goP_ok : ∀ {m : Nat} {s s' : SharedT} {t : Thread} {f : Flow} {c : Code} {q : Pos}, goP (stepT (denote tb) p w) n0 ann m s t = some (f, s', c, q) → segRun tb p w n0 ann 1 m s.abs t = some (f, s'.abs, c, q)
  | 0, s, s', t, f, c, q, h => by cases h
  | m + 1, s, s', t, f, c, q, h => by
    unfold goP at h
    unfold segRun
    cases he : endAt 1 t with
    | some g =>
      rw [he] at h
      cases h
      rfl
    | none =>
      rw [he] at h
      cases hk : stepOk n0 ann t with
      | false => rw [hk] at h; cases h
      | true =>
        rw [hk] at h
        cases hs : stepT (denote tb) p w s t with
        | none => rw [hs] at h; cases h
        | some r =>
          obtain ⟨s2, t2⟩ := r
          rw [hs] at h
          dsimp only at h
          rw [frT_eq] at h
          rw [stepT_spec hs]
          exact goP_ok h
theorem goE_ok : ∀ {m : Nat} {s s' : SharedT} {t : Thread}, goE (stepT (denote tb) p w) n0 ann m s t = some s' → RunEnd tb p w n0 ann s.abs t s'.abs
  | 0, s, s', t, h => by cases h
  | m + 1, s, s', t, h => by
    unfold goE at h
    cases ht : through t with
    | true =>
      rw [ht] at h
      cases hc : t.calm with
      | false => rw [hc] at h; cases h
      | true =>
        rw [hc] at h
        cases h
        exact ⟨0, t, rfl, ht, hc⟩
    | false =>
      rw [ht] at h
      cases hk : stepOk n0 ann t with
      | false => rw [hk] at h; cases h
      | true =>
        rw [hk] at h
        cases hs : stepT (denote tb) p w s t with
        | none => rw [hs] at h; cases h
        | some r =>
          obtain ⟨s2, t2⟩ := r
          rw [hs] at h
          dsimp only at h
          rw [frT_eq] at h
          obtain ⟨n, t3, r3, th, c3⟩ := (goE_ok h).run
          refine ⟨n + 1, t3, ?_, th, c3⟩
          unfold runTo
          rw [hk, stepT_spec hs]
          exact r3
end
end Den

end
-- DenHi
section
set_option Elab.async false
set_option linter.all false
set_option maxRecDepth 100000
namespace Den
open PySem PySem.W PySem.Calls PyProof.Rows
section
variable {tb : String → Option Builtin} {p : Program} {w : World} {n0 : Nat} {ann : Option Value} {env : PySem.Env}
/-- what follows a statement of the top -/
abbrev KS (post : List Stmt) (env : PySem.Env) : Flow → Sem Fin := fun f => match f with
  | .next => (execs post env).wrap doneF (leaveH env) id id
  | f => doneF f
theorem app_wrap (l rest : List Stmt) (K : Flow → Sem Fin) (H : Value → Sem Fin) : (execs (l ++ rest) env).wrap K H id id = (execs l env).wrap (fun f => match f with | .next => (execs rest env).wrap K H id id | f => K f) H id id :=
  execs_app_wrap l rest K H id id
theorem bind_wrapK {α β : Type} (m : Sem α) (f : α → Sem β) (K : β → Sem Fin) (H : Value → Sem Fin) : (m.bind f).wrap K H id id = m.wrap (fun a => (f a).wrap K H id id) H id id := by
  rw [Sem.bind_eq_wrap, Sem.wrap_wrap]
  rfl
theorem run_to_stores {pre post : List Stmt} {x : Str} {pos' pos dpos q0 pos0 pos1 pos2 pos3 : Pos} {keys : List (Option Expr)} {vals : List Expr} {pairs : List (Sem Value × Sem Value)} {aX : Addr × List (Value × Value)} {res : Addr × List (Value × Value) → Flow}
    {b0 sa sb sc sd : Shared} {t0 : Thread} {c : Code} {m1 m2 m3 m4 : Nat}
    (hs : swapsWith (.Dict keys vals dpos) (some (.Name x pos')) pos.line env = pure false)
    (hshape : (evalEachOpt keys env).zip ((evalEach vals env).map fun v => do let x ← v; standAt dpos; pure x) = pairs.map fun p => (some p.1, p.2)) (hp0 : pairs ≠ []) (hlen : pairs.length ≤ 15)
    (h1 : runTo tb p w n0 ann m1 b0 t0 = some (sa, ⟨denote tb (.body (pre ++ .Assign [.Name x pos'] (.Dict keys vals dpos) pos :: post) env), c, pos0, [topFrame q0]⟩))
    (h2 : segRun tb p w n0 ann 1 m2 sa (blockOf (pre ++ .Assign [.Name x pos'] (.Dict keys vals dpos) pos :: post) env c pos0 [topFrame q0]) = some (.next, sb, c, pos1))
    (h3 : segRun tb p w n0 ann 1 m3 sb (piecesOf pre env c pos1 [topFrame q0]) = some (.next, sc, c, pos2))
    (h4 : segRun tb p w n0 ann 1 m4 sc ⟨(dispA pos dpos pairs).wrap (fun a => .pure (.done (res a))) deadEnd id id, c, pos2, [topFrame q0]⟩ = some (.next, sd, c, pos3))
    (hres : ∀ a, res a = .next → a = aX) :
    ∃ m, runTo tb p w n0 ann m b0 t0 = some (sd, ⟨(dispT aX).wrap (fun _ => (dispC env x pos' aX.1).wrap (KS post env) (leaveH env) id id) (leaveH env) id id, c, pos3, [topFrame q0]⟩) := by
  have e1 := h1
  rw [body_wrap] at e1
  obtain ⟨_, _, k2, e2⟩ := part_run (res := fun _ : Unit => Flow.next) (K' := fun _ => (execs (pre ++ .Assign [.Name x pos'] (.Dict keys vals dpos) pos :: post) env).wrap doneF (leaveH env) id id) (H' := Sem.raise) (B := [topFrame q0]) rfl h2
  have E2 := runTo_app e1 e2
  rw [app_wrap] at E2
  obtain ⟨a3, ea3, k3, e3⟩ := part_run (res := id) (K' := fun f => match f with | .next => (execs (.Assign [.Name x pos'] (.Dict keys vals dpos) pos :: post) env).wrap doneF (leaveH env) id id | f => doneF f) (H' := leaveH env) (B := [topFrame q0]) rfl h3
  obtain rfl : a3 = .next := ea3
  have E3 := runTo_app E2 e3
  rw [execs_cons_wrap, exec_dict hs hshape hp0 hlen, bind_wrapK] at E3
  obtain ⟨a4, ea4, k4, e4⟩ := part_run (res := res) (K' := fun a => ((dispT a).bind fun _ => dispC env x pos' a.1).wrap (KS post env) (leaveH env) id id) (H' := leaveH env) (B := [topFrame q0]) rfl h4
  obtain rfl : a4 = aX := hres a4 ea4
  have E4 := runTo_app E3 e4
  rw [bind_wrapK] at E4
  exact ⟨_, E4⟩
end
end Den

end
-- DenHj
section
set_option Elab.async false
set_option linter.all false
set_option maxRecDepth 100000
namespace Den
open PySem PySem.W PySem.Calls PyProof.Rows L2
/-! ### behind the stores the heap is known but for its life, the tokens and the dict's epoch -/
theorem heap_exact {T : BT} {n : Nat} {lf : Life} {h' : Heap} {d : Addr} {o o' : Obj} (sz : h'.objs.size = n) (oth : ∀ b, b ≠ d → h'.get? b = (absHeap T n lf).get? b) (hd : h'.get? d = some o')
    (g : T.get d = some o) (nf : ∀ i, i < n → ((absHeap T n lf).get? i).isSome = true) : h' = absHeap (T.set d fun _ => o') n h'.life := by
  obtain ⟨objs, life⟩ := h'
  rw [absHeap_set g]
  show (⟨objs, life⟩ : Heap) = ⟨(absHeap T n life).objs.modify d (fun _ => o'), life⟩
  have e : objs = (absHeap T n life).objs.modify d (fun _ => o') := by
    apply Array.ext_getElem?
    intro i
    rw [Array.getElem?_modify]
    have hn : (absHeap T n life).objs.size = n := absHeap_size T n life
    have so : (absHeap T n life).objs = (absHeap T n lf).objs := rfl
    by_cases z : i < n
    · obtain ⟨u, hu⟩ := Option.isSome_iff_exists.mp (nf i z)
      have e1 := (Heap.get?_some_iff.mp hu).1
      by_cases y : d = i
      · subst y
        rw [if_pos rfl, so, e1]
        exact (Heap.get?_some_iff.mp hd).1
      · rw [if_neg y, so, e1]
        exact (Heap.get?_some_iff.mp ((oth i fun q => y q.symm).trans hu)).1
    · have a1 : objs[i]? = none := Array.getElem?_eq_none (by have : objs.size = n := sz; omega)
      have a2 : (absHeap T n life).objs[i]? = none := Array.getElem?_eq_none (by omega)
      rw [a1, a2]
      by_cases y : d = i
      · rw [if_pos y]; rfl
      · rw [if_neg y]
  exact congrArg (fun z => (⟨z, life⟩ : Heap)) e
theorem storedAll_new {K : Type} [DecidableEq K] : ∀ (ps xs : List (K × Addr × Value)), ((xs ++ ps).map (·.1)).Nodup → storedAllH xs ps = xs ++ ps
  | [], xs, _ => by rw [List.append_nil]; rfl
  | x :: ps, xs, h => by
    have q : atKey xs x.1 = none := by
      unfold atKey
      rw [Option.map_eq_none_iff, List.find?_eq_none]
      intro y hy
      rw [List.map_append, List.map_cons, List.nodup_append] at h
      have := h.2.2 y.1 (List.mem_map_of_mem hy) x.1 (List.mem_cons_self)
      simpa using this
    show storedAllH (storedH xs x.1 x.2.1 x.2.2) ps = _
    rw [storedH_new q, storedAll_new ps (xs ++ [(x.1, x.2.1, x.2.2)]) (by rw [List.append_assoc]; exact h), List.append_assoc]
    rfl
end Den

end
-- DenHk
section
set_option Elab.async false
set_option linter.all false
set_option maxRecDepth 100000
noncomputable section
namespace Den
open PySem PySem.W PySem.Calls PyProof.Rows L2
/-- the entries of a table whose keys are tuples, in a world -/
abbrev entriesW (p : Program) (w : World) (ps : List (List Key × Addr × Value)) : List DictEntry := ps.map (entryOfKey (tupleKind (mixKind p w)))
theorem top_of_dict {r : OpenRow} {q : Program} {loose : List Str} {YP : World → Heap → Prop} {w : World} {os : OsState} {sd : SharedT} {d : Addr} {vs : List (Value × Value)} {ps : List (List Key × Addr × Value)} {k : PUnit → Sem Fin} {hx : Value → Sem Fin} {c : Code} {q0 q3 : Pos} {A : Around} {o : Obj} {n0 M : Nat} {ann : Option Value}
    (zz : (bootS w os).asleep) (hn0 : (boot_heap w.params).objs.size = n0) (hann : (boot_heap w.params).nsMap mainGlobals "__annotations__" = ann)
    (hr : ∃ m, runTo table r.prog w n0 ann m (bootS w os) (topStub r.prog) = some (sd.abs, ⟨(dispT (d, vs)).wrap k hx id id, c, q3, [topFrame q0]⟩))
    (hA : ((bot c).over [topFrame q0]).In A) (hu : A.units < cLine) (hc : CarriesH (tupleKind (mixKind r.prog w)) sd.abs.heap vs ps) (hd0 : sd.abs.heap.DictOfH (tupleKind (mixKind r.prog w)) d [])
    (hnd : (ps.map (·.1)).Nodup) (hl : ps.length ≤ 15) (g : sd.tree.get d = some o) (nf : ∀ i, i < sd.n → (sd.abs.heap.get? i).isSome = true) (big : n0 ≤ d)
    (fin : ∀ tk ep lf pos, ∃ e, goE (stepT (denote table) r.prog w) n0 ann M ⟨sd.tree.set d (fun _ => dObj (entriesW r.prog w ps) ep), sd.n, lf, sd.gens, sd.drawn, tk, sd.os⟩ ⟨k PUnit.unit, c, pos, [topFrame q0]⟩ = some e ∧ e.gens = #[] ∧
      HandSHeadRun.looksF r.prog (boot_heap w.params) e.abs = true ∧ openSeen q loose (importedModules r.prog.main.body) (fun s => xlAt q [] s && recOk r.toRowW.records s) true e.abs = openGood q loose ∧ YP w e.abs.heap) :
    ∃ e, TopEnd r q loose YP w (bootS w os) e := by
  obtain ⟨m, hr⟩ := hr
  have kp1 := (runTo_kept hr).1
  obtain ⟨_, s2, e, ⟨h', tk, es2, dk, sb⟩, ⟨ge, le, se, ye⟩, kp3, n, f, e', hn, fo, hcalm⟩ := join_wrap (p := r.prog) (w := w) (n0 := n0) (ann := ann) (q := q3) (k := k) (hx := hx) (G := fun _ _ e => e.gens = #[] ∧ HandSHeadRun.looksF r.prog (boot_heap w.params) e = true ∧
      openSeen q loose (importedModules r.prog.main.body) (fun s => xlAt q [] s && recOk r.toRowW.records s) true e = openGood q loose ∧ YP w e.heap) hA (dispT_ok (p := r.prog) (w := w) hu hc hd0 hnd hl) (by
    rintro _ s2 pos ⟨h', tk, rfl, dk, sb⟩
    obtain ⟨o', es, ep, ho, hxd, hdat, hes, _, _⟩ := dk
    rw [storedAll_new ps [] hnd, List.nil_append] at hes
    have eo : o' = dObj (entriesW r.prog w ps) ep := by
      obtain ⟨c1, c2, c3⟩ := hxd
      obtain ⟨oc, od, odt, osl⟩ := o'
      obtain rfl : oc = _ := c1
      obtain rfl : od = _ := c2
      obtain rfl : osl = _ := c3
      obtain rfl : odt = _ := hdat
      show (⟨_, _, .dict es ep, _⟩ : Obj) = ⟨_, _, .dict (entriesW r.prog w ps).toArray ep, _⟩
      rw [show entriesW r.prog w ps = es.toList from hes.symm, Array.toArray_toList]
    subst eo
    have hh := heap_exact (T := sd.tree) (n := sd.n) (lf := sd.life) (by rw [sb.1]; exact absHeap_size _ _ _) sb.2 ho g nf
    obtain ⟨e, h1, h2, h3, h4, h5⟩ := fin tk ep h'.life pos
    have re := goE_ok h1
    refine ⟨e.abs, ?_, by rw [show e.abs.gens = #[] from h2]; simp [leftWithCleanup], h2, h3, h4, h5⟩
    have es : ({ sd.abs with heap := h', toks := tk } : Shared) = (⟨sd.tree.set d (fun _ => dObj (entriesW r.prog w ps) ep), sd.n, h'.life, sd.gens, sd.drawn, tk, sd.os⟩ : SharedT).abs := by
      show (⟨h', sd.gens, sd.drawn, tk, sd.os⟩ : Shared) = ⟨absHeap (sd.tree.set d (fun _ => dObj (entriesW r.prog w ps) ep)) sd.n h'.life, sd.gens, sd.drawn, tk, sd.os⟩
      rw [← hh]
    rw [es]
    exact re)
  have lf : e.heap.life = sd.abs.heap.life := by
    have e1 : e'.heap = e.heap := (congrArg Shared.heap fo : e'.forget.heap = e.forget.heap)
    rw [← e1]
    exact runN_life _ _ _ hn
  refine ⟨e, sched_of hr zz ⟨n, f, e', hn, fo, hcalm⟩ ge, ?_, ge, le, se, ye⟩
  show Kept (boot_heap w.params).objs.size ((boot_heap w.params).nsMap mainGlobals "__annotations__") (bootS w os) e
  rw [hn0, hann]
  subst es2
  refine ⟨lf.trans kp1.life, kp3.os.trans kp1.os, fun b o h1 h2 h3 h4 hb => kp3.old b o h1 h2 h3 h4 ?_⟩
  have hb1 := kp1.old b o h1 h2 h3 h4 hb
  exact (sb.2 b fun y => absurd (y ▸ h1) (Nat.not_lt.mpr big)).trans hb1
end Den

end
-- DenHl
section
set_option Elab.async false
set_option linter.all false
set_option maxRecDepth 100000
noncomputable section
namespace Den
open PySem PySem.W PySem.Calls PyProof.Rows L2 HandSHeadRun
/-! ### the run's parts as terms for the kernel: the i-th statement of the top is the table -/
def stAt (p : Program) (i : Nat) : Stmt := (behindTheImports p).getD i (.Pass ⟨0, 0, 0, 0⟩)
def tabName : Stmt → Str × Pos × Pos × Pos
  | .Assign [.Name x a] (.Dict _ _ b) c => (x, a, b, c)
  | _ => ("", ⟨0, 0, 0, 0⟩, ⟨0, 0, 0, 0⟩, ⟨0, 0, 0, 0⟩)
def tabKeys : Stmt → List (Option Expr)
  | .Assign _ (.Dict k _ _) _ => k
  | _ => []
def tabVals : Stmt → List Expr
  | .Assign _ (.Dict _ v _) _ => v
  | _ => []
abbrev preT (p : Program) (i : Nat) : List Stmt := (behindTheImports p).take i
abbrev postT (p : Program) (i : Nat) : List Stmt := (behindTheImports p).drop (i + 1)
abbrev tabT (p : Program) (i : Nat) : Stmt := .Assign [.Name (tabName (stAt p i)).1 (tabName (stAt p i)).2.1] (.Dict (tabKeys (stAt p i)) (tabVals (stAt p i)) (tabName (stAt p i)).2.2.1) (tabName (stAt p i)).2.2.2
abbrev envT (p : Program) (code : Value) (frame : Addr) : PySem.Env := { scope := p.main.scope, locals := mainNs, globals := mainNs, cells := [], code := code, frame := some frame }
abbrev bodyT (p : Program) (i : Nat) : List Stmt := preT p i ++ tabT p i :: postT p i
def pairsT (p : Program) (i : Nat) (E : PySem.Env) : List (Sem Value × Sem Value) := ((tabKeys (stAt p i)).zip (tabVals (stAt p i))).filterMap fun x => match x.1 with
  | some k => some (eval k E, do let y ← eval x.2 E; standAt (tabName (stAt p i)).2.2.1; pure y)
  | none => none
abbrev P0 : Pos := ⟨0, 0, 0, 0⟩
section
variable (st : SharedT → Thread → Option (SharedT × Thread)) (den : Code → Sem Fin) (n0 : Nat) (ann : Option Value) (p : Program) (w : World) (os : OsState) (i : Nat) (E : PySem.Env) (aX : Addr × List (Value × Value))
def A0 : Option SharedT := match putAll (boot_heap w.params).objs.toList .nil 0 with
  | some (t, n) => frNat n fun n => some (bootT w os (t, n))
  | none => none
def A1 (m : Nat) : Option (SharedT × Thread) := (A0 w os).bind fun s => goN st n0 ann m s (topStub p)
def A2 (m : Nat) : Option (Flow × SharedT × Code × Pos) := (A1 st n0 ann p w os m).bind fun x => goP st n0 ann 40 x.1 (blockOf (bodyT p i) E (.body (bodyT p i) E) P0 [topFrame P0])
def A3 (m : Nat) : Option (Flow × SharedT × Code × Pos) := (A2 st n0 ann p w os i E m).bind fun x => goP st n0 ann 20000 x.2.1 (piecesOf (preT p i) E (.body (bodyT p i) E) x.2.2.2 [topFrame P0])
def resT : Addr × List (Value × Value) → Flow := fun a => match decide (a = aX) with
  | true => .next
  | false => .brk
def A4 (m : Nat) : Option (Flow × SharedT × Code × Pos) := (A3 st n0 ann p w os i E m).bind fun x => goP st n0 ann 2000 x.2.1
  ⟨(dispA (tabName (stAt p i)).2.2.2 (tabName (stAt p i)).2.2.1 (pairsT p i E)).wrap (fun a => .pure (.done (resT aX a))) deadEnd id id, .body (bodyT p i) E, x.2.2.2, [topFrame P0]⟩
def A5 (m : Nat) (es : List DictEntry) (tk ep : Nat) (lf : Life) (pos : Pos) : Option SharedT := (A4 st n0 ann p w os i E aX m).bind fun x => goE st n0 ann 40000
  ⟨x.2.1.tree.set aX.1 (fun _ => dObj es ep), x.2.1.n, lf, x.2.1.gens, x.2.1.drawn, tk, x.2.1.os⟩ ⟨(dispC E (tabName (stAt p i)).1 (tabName (stAt p i)).2.1 aX.1).wrap (KS (postT p i) E) (leaveH E) id id, .body (bodyT p i) E, pos, [topFrame P0]⟩
end
/-! ### the table as written -/
def textOf : Expr → Str
  | .Constant (.str x) _ _ => x
  | _ => ""
def keyTexts : Option Expr → List Str
  | some (.Tuple es _ _) => es.map textOf
  | _ => []
/-- its pairs: keys' texts, values' texts -/
def tabPairs (p : Program) (i : Nat) : List (List Str × Str) := (tabKeys (stAt p i)).zip (tabVals (stAt p i)) |>.map fun x => (keyTexts x.1, textOf x.2)
/-- the dict at d, its keys' tuples behind it; the first token k0 -/
def vsFrom (d k0 : Nat) : List (List Str × Str) → List (Value × Value)
  | [] => []
  | x :: r => (.ref (d + 1), .str x.2 (k0 + 2)) :: vsFrom (d + 1) (k0 + 3) r
def psFrom (d k0 : Nat) : List (List Str × Str) → List (List Key × Addr × Value)
  | [] => []
  | x :: r => (x.1.map .inr, d + 1, .str x.2 (k0 + 2)) :: psFrom (d + 1) (k0 + 3) r
def strOf : Value → Option Str
  | .str x _ => some x
  | _ => none
def tupIs (o : Option Obj) (xs : List Str) : Bool := match o with
  | some ⟨c, _, .seq items _, _⟩ => decide (c = .type "tuple") && decide (items.toList.map strOf = xs.map some)
  | _ => false
def tupsAre (g : Addr → Option Obj) (d : Nat) : List (List Str × Str) → Bool
  | [] => true
  | x :: r => tupIs (g (d + 1)) x.1 && tupsAre g (d + 1) r
def dict0Is (o : Option Obj) : Bool := match o with
  | some ⟨c, e, .dict es _, sl⟩ => decide (c = .type "dict") && decide (e = none) && (es.toList.isEmpty && sl.toList.isEmpty)
  | _ => false
/-- the looks at the state ahead of the stores -/
def chkT (p : Program) (i d : Nat) (s : SharedT) : Bool := (List.range s.n).all (fun a => (getT s a).isSome) && (tupsAre (getT s) d (tabPairs p i) && (dict0Is (getT s d) && (s.tree.get d).isSome))
end Den

end
-- DenHm
section
set_option Elab.async false
set_option linter.all false
set_option maxRecDepth 100000
noncomputable section
namespace Den
open PySem PySem.W PySem.Calls PyProof.Rows L2 HandSHeadRun
/-! ### the head of a program whose top holds a table with tuple keys, from five kernel runs -/
abbrev stW (p : Program) (w : World) : SharedT → Thread → Option (SharedT × Thread) := stepQ (denQ tabQ) p w
theorem stW_eq (p : Program) (w : World) : stW p w = stepT (denote table) p w := by
  show stepQ (denQ tabQ) p w = _
  rw [table_eq_tree, tabQ_eq, denQ_eq, stepQ_eq]
theorem denW_eq : denQ tabQ = denote table := by rw [table_eq_tree, tabQ_eq, denQ_eq]
theorem A0_ok {w : World} {os : OsState} {s : SharedT} (h : A0 w os = some s) : s.abs = bootS w os ∧ s.n = (boot_heap w.params).objs.size := by
  unfold A0 at h
  cases e : putAll (boot_heap w.params).objs.toList .nil 0 with
  | none => rw [e] at h; cases h
  | some r =>
    obtain ⟨t, n⟩ := r
    rw [e] at h
    dsimp only at h
    rw [frNat_eq] at h
    cases h
    have eh := putAll_heap e
    refine ⟨?_, ?_⟩
    · show (⟨absHeap t n (boot_heap w.params).life, #[], boot_drawn, boot_toks, os⟩ : Shared) = _
      rw [eh]
    · show n = _
      rw [← eh]
      exact (absHeap_size t n _).symm
section
variable {w : World} {d k0 : Nat}
theorem items_of {P : Program} : ∀ {us : List Value} {xs : List Str}, us.map strOf = xs.map some → ItemsAre (mixKind P w) (xs.map .inr) us
  | [], [], _ => .nil
  | [], _ :: _, e => by cases e
  | _ :: _, [], e => by cases e
  | u :: us, x :: xs, e => by
    rw [List.map_cons, List.map_cons] at e
    injection e with h1 h2
    refine .cons ?_ (items_of h2)
    cases u <;> try cases h1
    rename_i tok
    exact keyIs_str x tok
theorem tup_key {P : Program} {h : Heap} {a : Addr} {xs : List Str} (e : tupIs (h.get? a) xs = true) : (tupleKind (mixKind P w)).is h (xs.map .inr) a := by
  unfold tupIs at e
  split at e
  · rename_i c dd items n sl q
    obtain ⟨e1, e2⟩ := Bool.and_eq_true_iff.mp e
    exact ⟨_, items, n, q, of_decide_eq_true e1, rfl, items_of (of_decide_eq_true e2)⟩
  · cases e
theorem carries_of {P : Program} {h : Heap} : ∀ {l : List (List Str × Str)} {d k0 : Nat}, tupsAre h.get? d l = true → CarriesH (tupleKind (mixKind P w)) h (vsFrom d k0 l) (psFrom d k0 l)
  | [], _, _, _ => trivial
  | x :: r, d, k0, e => by
    obtain ⟨e1, e2⟩ := Bool.and_eq_true_iff.mp e
    exact ⟨rfl, rfl, tup_key e1, carries_of e2⟩
theorem dict0_of {P : Program} {h : Heap} {a : Addr} (e : dict0Is (h.get? a) = true) : h.DictOfH (tupleKind (mixKind P w)) a [] := by
  unfold dict0Is at e
  split at e
  · rename_i c ee es ep sl q
    obtain ⟨e1, e2⟩ := Bool.and_eq_true_iff.mp e
    obtain ⟨e3, e4⟩ := Bool.and_eq_true_iff.mp e1
    obtain ⟨e5, e6⟩ := Bool.and_eq_true_iff.mp e2
    have z5 : es.toList = [] := List.isEmpty_iff.mp e5
    have z6 : sl = #[] := by
      obtain ⟨l⟩ := sl
      have : l = [] := List.isEmpty_iff.mp e6
      subst this
      rfl
    exact ⟨_, es, ep, q, ⟨of_decide_eq_true e3, of_decide_eq_true e4, z6⟩, rfl, z5, (fun _ hx => by cases hx), List.nodup_nil⟩
  · cases e
end
theorem pair_split {α β : Type} {o : Option α} {f : α → β} {b : β} (h : o.map f = some b) : ∃ a, o = some a ∧ f a = b := Option.map_eq_some_iff.mp h
section
variable {r : OpenRow} {q : Program} {loose : List Str} {YP : World → Heap → Prop} {w : World} {i d k0 m n0 : Nat} {ann : Option Value} {E : PySem.Env} {α : Type} {ob : SharedT → α} {val : α}
theorem head_table (eo : opening r.prog = plainProg r.prog.main.scope.names) (ff : ∀ s, fenceModules? r.prog s = some s) (hch : chainsOk q = true)
    (hn0 : (boot_heap w.params).objs.size = n0) (hann : (boot_heap w.params).nsMap mainGlobals "__annotations__" = ann)
    (hs : swapsWith (.Dict (tabKeys (stAt r.prog i)) (tabVals (stAt r.prog i)) (tabName (stAt r.prog i)).2.2.1) (some (.Name (tabName (stAt r.prog i)).1 (tabName (stAt r.prog i)).2.1)) (tabName (stAt r.prog i)).2.2.2.line E = pure false)
    (hshape : (evalEachOpt (tabKeys (stAt r.prog i)) E).zip ((evalEach (tabVals (stAt r.prog i)) E).map fun v => do let x ← v; standAt (tabName (stAt r.prog i)).2.2.1; pure x) = (pairsT r.prog i E).map fun p => (some p.1, p.2))
    (hp0 : pairsT r.prog i E ≠ []) (hlen : (pairsT r.prog i E).length ≤ 15)
    (hnd : ((psFrom d k0 (tabPairs r.prog i)).map (·.1)).Nodup) (hl : (psFrom d k0 (tabPairs r.prog i)).length ≤ 15) (big : n0 ≤ d)
    {A : Around} (hA : ((bot (.body (bodyT r.prog i) E)).over [topFrame P0]).In A) (hu : A.units < cLine)
    (K1 : ∀ os, (A1 (stW r.prog w) n0 ann r.prog w os m).map (·.2) = some ⟨denQ tabQ (.body (bodyT r.prog i) E), .body (bodyT r.prog i) E, P0, [topFrame P0]⟩)
    (K2 : ∀ os, (A2 (stW r.prog w) n0 ann r.prog w os i E m).map (fun x => (x.1, x.2.2.1)) = some (.next, .body (bodyT r.prog i) E))
    (K3 : ∀ os, (A3 (stW r.prog w) n0 ann r.prog w os i E m).map (fun x => (x.1, x.2.2.1)) = some (.next, .body (bodyT r.prog i) E))
    (K4 : ∀ os, (A4 (stW r.prog w) n0 ann r.prog w os i E (d, vsFrom d k0 (tabPairs r.prog i)) m).map (fun x => (x.1, x.2.2.1, chkT r.prog i d x.2.1)) = some (.next, .body (bodyT r.prog i) E, true))
    (K5 : ∀ os tk ep lf pos, (A5 (stW r.prog w) n0 ann r.prog w os i E (d, vsFrom d k0 (tabPairs r.prog i)) m (entriesW r.prog w (psFrom d k0 (tabPairs r.prog i))) tk ep lf pos).map (fun s => (s.gens.toList.isEmpty, looksF r.prog (boot_heap w.params) s.abs,
      seenQ q loose (importedModules r.prog.main.body) (fun s => xlAt q [] s && recOk r.toRowW.records s) s.abs, ob s)) = some (true, true, openGood q loose, val))
    (hY : ∀ s : SharedT, ob s = val → YP w s.abs.heap) : HeadOk r q loose (XL q []) YP w := by
  refine head_of eo ff hch fun os zz => ?_
  obtain ⟨x4, e4, c4⟩ := pair_split (K4 os)
  obtain ⟨f4, s4, cd4, p4⟩ := x4
  obtain ⟨rfl, rfl, ck⟩ : f4 = .next ∧ cd4 = .body (bodyT r.prog i) E ∧ chkT r.prog i d s4 = true := by simpa only [Prod.mk.injEq] using c4
  have e4' := e4
  unfold A4 at e4'
  obtain ⟨⟨f3, s3, cd3, p3⟩, e3, g4⟩ := Option.bind_eq_some_iff.mp e4'
  have c3 := K3 os
  rw [e3] at c3
  obtain ⟨rfl, rfl⟩ : f3 = .next ∧ cd3 = .body (bodyT r.prog i) E := by simpa only [Option.map_some, Option.some.injEq, Prod.mk.injEq] using c3
  unfold A3 at e3
  obtain ⟨⟨f2, s2, cd2, p2⟩, e2, g3⟩ := Option.bind_eq_some_iff.mp e3
  have c2 := K2 os
  rw [e2] at c2
  obtain ⟨rfl, rfl⟩ : f2 = .next ∧ cd2 = .body (bodyT r.prog i) E := by simpa only [Option.map_some, Option.some.injEq, Prod.mk.injEq] using c2
  unfold A2 at e2
  obtain ⟨⟨s1, t1⟩, e1, g2⟩ := Option.bind_eq_some_iff.mp e2
  have c1 := K1 os
  rw [e1] at c1
  obtain rfl : t1 = ⟨denQ tabQ (.body (bodyT r.prog i) E), .body (bodyT r.prog i) E, P0, [topFrame P0]⟩ := by simpa only [Option.map_some, Option.some.injEq] using c1
  unfold A1 at e1
  obtain ⟨s0, e0, g1⟩ := Option.bind_eq_some_iff.mp e1
  obtain ⟨a0, n0e⟩ := A0_ok e0
  rw [stW_eq] at g1 g2 g3 g4
  have h1 := goN_ok g1
  rw [a0, denW_eq] at h1
  have h2 := goP_ok g2
  have h3 := goP_ok g3
  have h4 := goP_ok g4
  have hr := run_to_stores (aX := (d, vsFrom d k0 (tabPairs r.prog i))) (res := resT (d, vsFrom d k0 (tabPairs r.prog i))) hs hshape hp0 hlen h1 h2 h3 h4 (fun a ha => by
    unfold resT at ha
    split at ha
    · rename_i z
      exact of_decide_eq_true z
    · cases ha)
  obtain ⟨y1, y2⟩ := Bool.and_eq_true_iff.mp ck
  obtain ⟨y3, y4⟩ := Bool.and_eq_true_iff.mp y2
  obtain ⟨y5, y6⟩ := Bool.and_eq_true_iff.mp y4
  have gq : getT s4 = s4.abs.heap.get? := funext (getT_eq s4)
  rw [gq] at y1 y3 y5
  obtain ⟨o, go⟩ := Option.isSome_iff_exists.mp y6
  refine top_of_dict (M := 40000) zz hn0 hann hr hA hu (carries_of y3) (dict0_of y5) hnd hl go (fun a ha => List.all_eq_true.mp y1 a (List.mem_range.mpr ha)) big fun tk ep lf pos => ?_
  obtain ⟨e, he, ce⟩ := pair_split (K5 os tk ep lf pos)
  obtain ⟨z1, z2, z3, z4⟩ : e.gens.toList.isEmpty = true ∧ looksF r.prog (boot_heap w.params) e.abs = true ∧ seenQ q loose (importedModules r.prog.main.body) (fun s => xlAt q [] s && recOk r.toRowW.records s) e.abs = openGood q loose ∧ ob e = val := by
    simpa only [Prod.mk.injEq] using ce
  unfold A5 at he
  rw [e4] at he
  rw [stW_eq] at he
  refine ⟨e, he, ?_, z2, ?_, hY e z4⟩
  · have : e.gens.toList = [] := List.isEmpty_iff.mp z1
    obtain ⟨l⟩ : ∃ g, g = e.gens := ⟨_, rfl⟩
    apply Array.ext'
    exact this
  · rw [seenQ_eq]
    exact z3
end
end Den

end
-- DenHn
section
set_option Elab.async false
set_option linter.all false
set_option maxRecDepth 100000
namespace Den
open PySem PySem.Spec PyProof.Rows L2
/-! ### data of the module, read off what is looked at -/
def datB (K : PySem.W.Frag) : Nat → PyData → Value → Bool
  | 0, _, _ => false
  | n + 1, d, u => match d, u with
    | .none, .none => true
    | .bool b, .bool c => decide (b = c)
    | .int i, .int j _ => decide (i = j)
    | .str x, .str y _ => decide (x = y)
    | .tuple ds, .ref a => (match K.lookup a with
      | some ⟨c, _, .seq its _, _⟩ => decide (c = .type "tuple") && (decide (its.size ≤ sizeLine) && (decide (its.toList.length = ds.length) && (ds.zip its.toList).all fun z => datB K n z.1 z.2))
      | _ => false)
    | _, _ => false
theorem datBs_ok {K : PySem.W.Frag} {n : Nat} (ih : ∀ d u, datB K n d u = true → ∃ v, RelV v u ∧ ∀ F, Dp K F v d) : ∀ {ds : List PyData} {us : List Value}, us.length = ds.length → ((ds.zip us).all fun z => datB K n z.1 z.2) = true →
    ∃ vs, Vals vs us ∧ ∀ F, DpAll K F vs ds
  | [], [], _, _ => ⟨[], .nil, fun _ => .nil⟩
  | [], _ :: _, e, _ => by cases e
  | _ :: _, [], e, _ => by cases e
  | d :: ds, u :: us, e, h => by
    rw [List.zip_cons_cons, List.all_cons] at h
    obtain ⟨h1, h2⟩ := Bool.and_eq_true_iff.mp h
    obtain ⟨v, r, q⟩ := ih d u h1
    obtain ⟨vs, rs, qs⟩ := datBs_ok ih (Nat.succ.inj e) h2
    exact ⟨v :: vs, .cons r rs, fun F => .cons (q F) (qs F)⟩
theorem datB_ok {K : PySem.W.Frag} : ∀ (n : Nat) (d : PyData) (u : Value), datB K n d u = true → ∃ v, RelV v u ∧ ∀ F, Dp K F v d
  | 0, _, _, h => by cases h
  | n + 1, d, u, h => by
    unfold datB at h
    split at h
    · exact ⟨.non, rfl, fun _ => .non⟩
    · rename_i b c
      obtain rfl := of_decide_eq_true h
      exact ⟨.bl b, rfl, fun _ => .bl b⟩
    · rename_i i j t
      obtain rfl := of_decide_eq_true h
      exact ⟨.int i, ⟨t, rfl⟩, fun _ => .int i⟩
    · rename_i x y t
      obtain rfl := of_decide_eq_true h
      exact ⟨.str x, ⟨t, rfl⟩, fun _ => .str x⟩
    · rename_i ds a
      split at h
      · rename_i c dd its m sl q
        obtain ⟨h1, h2⟩ := Bool.and_eq_true_iff.mp h
        obtain ⟨h3, h4⟩ := Bool.and_eq_true_iff.mp h2
        obtain ⟨h5, h6⟩ := Bool.and_eq_true_iff.mp h4
        obtain ⟨vs, rs, qs⟩ := datBs_ok (fun d u => datB_ok n d u) (of_decide_eq_true h5) h6
        refine ⟨.ref a, rfl, fun F => .tup (Or.inr ⟨_, its, m, q, of_decide_eq_true h1, rfl, of_decide_eq_true h3, ?_⟩) (qs F)⟩
        first | exact rs | simpa using rs
      · cases h
    · cases h
/-- a name of the module that holds these data -/
def datAt (K : PySem.W.Frag) (x : Str × PyData) : Bool := match PySem.W.nsIn K mainGlobals x.1 with
  | some (some u) => datB K 9 x.2 u
  | _ => false
theorem datAt_ok {K : PySem.W.Frag} {h : Heap} {mg : Str → Option Value} (X : K.In h) (G : h.Ns mainGlobals mg) {x : Str × PyData} (c : datAt K x = true) : ∃ v u, mg x.1 = some u ∧ RelV v u ∧ ∀ F, Dp K F v x.2 := by
  unfold datAt at c
  cases e : PySem.W.nsIn K mainGlobals x.1 with
  | none => rw [e] at c; cases c
  | some o =>
    cases o with
    | none => rw [e] at c; cases c
    | some u =>
      rw [e] at c
      obtain ⟨v, r, q⟩ := datB_ok 9 x.2 u c
      exact ⟨v, u, PySem.W.mg_of X G e, r, q⟩
end Den

end
-- DenHo
section
set_option Elab.async false
set_option linter.all false
set_option maxRecDepth 100000
noncomputable section
namespace Den
open PySem PySem.Spec PyProof.Rows L2 HandSHeadRun
/-! ### what is looked at behind the top: names, defs, data, the table -/
/-- the table's entries, where it stands -/
def tabE (K : PySem.W.Frag) (d : Addr) : Option (List DictEntry) := match K.lookup d with
  | some ⟨c, e, .dict es _, sl⟩ => (match decide (c = .type "dict") && (decide (e = none) && sl.toList.isEmpty) with
    | true => some es.toList
    | false => none)
  | _ => none
/-- the part of the heap: what the names reach, and the m tuples behind d -/
def frX (n d m : Nat) (g : Addr → Option Obj) : PySem.W.Frag := He.frG g (He.asD g n ++ (List.range m).map fun i => d + 1 + i)
/-- what to look for -/
structure Looks where
  n : Nat
  fa : List He.Fa
  fn : List He.DefD
  dats : List (Str × PyData)
  x : Str
  d : Nat
  k0 : Nat
  pairs : List (List Str × Str)
  more : PySem.W.Frag → Bool := fun _ => true
abbrev LooksV : Type := He.AlD × Bool × Bool × Option (List DictEntry) × Bool × Option (Option Value)
def Looks.obs (l : Looks) (K : PySem.W.Frag) : LooksV := (He.obsD l.fa l.fn K, l.dats.all (datAt K), l.more K, tabE K l.d, tupsAre (fun a => K.lookup a) l.d l.pairs, PySem.W.nsIn K mainGlobals l.x)
def Looks.val (l : Looks) (p : Program) (w : World) : LooksV := (He.valD l.fn, true, true, some (entriesW p w (psFrom l.d l.k0 l.pairs)), true, some (some (.ref l.d)))
def Looks.K (l : Looks) (g : Addr → Option Obj) : PySem.W.Frag := frX l.n l.d l.pairs.length g
/-- the word of the head -/
def Looks.says (l : Looks) (p : Program) (w : World) (h : Heap) : Prop := ∃ K : PySem.W.Frag, K.In h ∧ l.obs K = l.val p w
theorem Looks.of {l : Looks} {p : Program} {w : World} (s : PySem.W.SharedT) (e : l.obs (l.K (getT s)) = l.val p w) : l.says p w s.abs.heap := by
  rw [show getT s = s.abs.heap.get? from funext (getT_eq s)] at e
  exact ⟨_, He.frG_in, e⟩
theorem Looks.keeps {l : Looks} {p : Program} (w : World) (h h' : Heap) (y : l.says p w h) (k : ∀ a o, h.get? a = some o → h'.get? a = some o) : l.says p w h' :=
  let ⟨K, hK, c⟩ := y
  ⟨K, PySem.W.Frag.In.keeps hK k, c⟩
/-- the table in a fragment -/
structure TabK (p : Program) (w : World) (K : PySem.W.Frag) (d : Addr) (ps : List (List Key × Addr × Value)) : Prop where
  dict : ∀ h : Heap, K.In h → h.DictOfH (tupleKind (mixKind p w)) d ps
section
variable {l : Looks} {p : Program} {w : World} {K : PySem.W.Frag}
theorem Looks.saysD (e : l.obs K = l.val p w) : He.SaysD l.fa l.fn K := congrArg (fun z : LooksV => z.1) e
theorem Looks.dat (e : l.obs K = l.val p w) (i : Nat) {x : Str × PyData} (h : l.dats[i]? = some x := by rfl) : datAt K x = true := by
  have z : l.dats.all (datAt K) = true := congrArg (fun z : LooksV => z.2.1) e
  exact List.all_eq_true.mp z x (List.mem_of_getElem? h)
theorem Looks.mor (e : l.obs K = l.val p w) : l.more K = true := congrArg (fun z : LooksV => z.2.2.1) e
theorem Looks.name (e : l.obs K = l.val p w) : PySem.W.nsIn K mainGlobals l.x = some (some (.ref l.d)) := congrArg (fun z : LooksV => z.2.2.2.2.2) e
theorem keys_of {h : Heap} (X : K.In h) : ∀ {l : List (List Str × Str)} {d k0 : Nat}, tupsAre (fun a => K.lookup a) d l = true → ∀ x ∈ psFrom d k0 l, (tupleKind (mixKind p w)).is h x.1 x.2.1
  | [], _, _, _, _, hx => by cases hx
  | y :: r, d, k0, e, x, hx => by
    obtain ⟨e1, e2⟩ := Bool.and_eq_true_iff.mp e
    replace e1 : tupIs (K.lookup (d + 1)) y.1 = true := e1
    rcases List.mem_cons.mp hx with q | q
    · subst q
      refine tup_key (w := w) (P := p) (h := h) (a := d + 1) ?_
      cases z : K.lookup (d + 1) with
      | none => rw [z] at e1; cases e1
      | some o => rw [z] at e1; rw [X _ _ z]; exact e1
    · exact keys_of X e2 x q
theorem Looks.tab (e : l.obs K = l.val p w) (hn : ((psFrom l.d l.k0 l.pairs).map (·.1)).Nodup) : TabK p w K l.d (psFrom l.d l.k0 l.pairs) := .mk fun h X => by
  have e1 : tabE K l.d = some (entriesW p w (psFrom l.d l.k0 l.pairs)) := congrArg (fun z : LooksV => z.2.2.2.1) e
  have e2 : tupsAre (fun a => K.lookup a) l.d l.pairs = true := congrArg (fun z : LooksV => z.2.2.2.2.1) e
  unfold tabE at e1
  split at e1
  · rename_i c ee es ep sl q
    split at e1
    · rename_i z
      obtain ⟨z1, z2⟩ := Bool.and_eq_true_iff.mp z
      obtain ⟨z3, z4⟩ := Bool.and_eq_true_iff.mp z2
      have z6 : sl = #[] := by
        obtain ⟨sl⟩ := sl
        have : sl = [] := List.isEmpty_iff.mp z4
        subst this
        rfl
      exact ⟨_, es, ep, X _ _ q, ⟨of_decide_eq_true z1, of_decide_eq_true z3, z6⟩, rfl, Option.some.inj e1, keys_of X e2, hn⟩
    · cases e1
  · cases e1
end
end Den
namespace Den
open PySem PySem.W
theorem map_pair {α β γ : Type} {o : Option α} {f : α → β} {g : α → γ} {b : β} {c : γ} (h : o.map f = some b) (k : o.map g = some c) : o.map (fun a => (f a, g a)) = some (b, c) := by
  cases o with
  | none => cases h
  | some a =>
    have h1 : f a = b := Option.some.inj h
    have k1 : g a = c := Option.some.inj k
    rw [Option.map_some, h1, k1]
/-- a def of the top, told by its statement -/
def defOfSt : Stmt → List He.DefD
  | .FunctionDef n args body _ _ _ scope _ _ _ => [⟨(n, none), n, n, args, body, scope, [], []⟩]
  | _ => []
end Den
namespace Den
open PySem PySem.W HandSHeadRun
theorem map_four {α β γ δ ε : Type} {o : Option α} {f : α → β} {g : α → γ} {h : α → δ} {k : α → ε} {b : β} {c : γ} {d : δ} {e : ε} (h1 : o.map (fun a => (f a, g a)) = some (b, c)) (h2 : o.map h = some d) (h3 : o.map k = some e) : o.map (fun a => (f a, g a, h a, k a)) = some (b, c, d, e) := by
  cases o with
  | none => cases h2
  | some a =>
    have z1 : (f a, g a) = (b, c) := Option.some.inj h1
    have z2 : h a = d := Option.some.inj h2
    have z3 : k a = e := Option.some.inj h3
    obtain ⟨y1, y2⟩ := Prod.mk.inj z1
    rw [Option.map_some, y1, y2, z2, z3]
end Den

end
-- DenHr
section
set_option Elab.async false
set_option linter.all false
set_option maxRecDepth 100000
namespace Den
open PySem PySem.Spec PyProof.Rows L2
/-! ### what is looked at: defs, classes of errors -/
/-- a def of the top, by its name -/
abbrev dD (x : Str) (st : Stmt) : He.DefD := ⟨(x, none), x, x, defArgs st, defBody st, defScope st, [], []⟩
def oB (a b : Option (Option Value)) : Bool := decide (a = b)
def clsB (K : PySem.W.Frag) (x : Str) : Bool := (oB (PySem.W.findIn K (.ref (He.ga K x)) "__getattribute__") (some (some (.builtin "BaseException.__getattribute__"))) && oB (PySem.W.findIn K (.ref (He.ga K x)) "__getattr__") (some none)) &&
  (PySem.W.hasDictIn K (He.ga K x) && (oB (PySem.W.findIn K (.ref (He.ga K x)) "__class__") (some (some (.builtin "object.__class__"))) && decide (PySem.W.mroIn K (He.ga K x) (.type "object") = some true)))
def spB (K : PySem.W.Frag) : Bool := oB (PySem.W.specialIn K (.builtin "object.__class__") "__get__") (some (some (.builtin "getset_descriptor.__get__"))) && decide (PySem.W.takesIn K (.builtin "object.__class__") = some true)
def kitX (K : PySem.W.Frag) (v : Value) (x : Str × Bool) : Bool := decide (PySem.W.kitOne K (.ref (He.ga K x.1)) v = some x.2)
/-- all of it: the classes, the tables -/
def excB (ok : List Str) (tabs : List (Option Str × List (Str × Bool))) (K : PySem.W.Frag) : Bool := spB K && (ok.all (clsB K) && tabs.all fun t => t.2.all (kitX K (match t.1 with
  | some c => .ref (He.ga K c)
  | none => .type "ValueError")))
/-- a def that makes lambdas: its table is not looked at -/
def lamB (K : PySem.W.Frag) (x : Str) : Bool := match K.lookup (He.ga K x) with
  | some ⟨_, _, .func fd, _⟩ => (match fd.code with
    | .ref c => (match K.lookup c with
      | some ⟨_, _, .fields vs, _⟩ => (match (vs[11]? : Option Value) with
        | some (.ref P) => (K.lookup P).isNone
        | _ => false)
      | _ => false)
    | _ => false)
  | _ => false
/-- a look in parts -/
theorem map_prod {α β γ : Type} {o : Option α} {f : α → β × γ} {b : β × γ} (h : o.map (fun a => (f a).1) = some b.1) (k : o.map (fun a => (f a).2) = some b.2) : o.map f = some b := by
  cases o with
  | none => cases h
  | some a =>
    have h1 : (f a).1 = b.1 := Option.some.inj h
    have k1 : (f a).2 = b.2 := Option.some.inj k
    rw [Option.map_some, show f a = b from Prod.ext h1 k1]
end Den

end
-- K04e
section
set_option Elab.async false
set_option linter.all false
set_option maxRecDepth 100000
set_option maxHeartbeats 0
noncomputable section
namespace K04
namespace Hd
open PySem PySem.W PySem.Calls PyProof.Rows L2 HandSHeadRun Den
abbrev R : OpenRow := OpenLaw.row PySem.Challenge.rw_orderrules_k04_whole_telling
abbrev p : Program := R.prog
abbrev E : PySem.Env := envT p (.ref 13) 14
abbrev q : Program := view p [1, 2, 3, 4, 5, 7, 9, 10, 11, 12, 13, 14, 16, 17, 18, 20, 21, 22, 23, 24, 25, 27, 28, 30, 31, 32, 33, 34, 35, 36, 38, 39, 40, 41, 42, 43, 44, 45, 46, 47, 48, 49, 50, 51, 52, 53]
abbrev loose : List PySem.Str := ["LOOKS"]
def topH (i : Nat) : Stmt := PySem.Challenge.pw_orderrules_k04_whole_telling.main.body.getD i (.Pass ⟨0, 0, 0, 0⟩)
def looksP : List (List Str × Str) := [(["signs", "apart"], "=e<<b<<<<ee<<<<<<bb<<<<b<<<<<<<b<<<<<<<<<<<<bbbb<<<<<<<<<bb<<bbbb<<<<bbbbbb"), (["signs", "mixed"], "=e<>b<<<<ee<<<<<<bb<<<<b<<<<<<<b<<<<<<<<<<<<bbbb<<<<<<<<<bb<<bbbb<<<<bbbbbb"), (["signs", "together"], "=e<>b=eE<ee>bB<<<bb<<<<b<><eEeEb<<>><<><bBbBbbbb<<>>bB<<<bbbBbbbbbbBBbbbbbb"), (["numbers", "apart"], "=e<<b<<<=<=<<<eE><E><bB=<<><<<<e<<<<>><<<<<<>><B<<<<<<>>><><<<<>><<<<<<<>>>"), (["numbers", "mixed"], "=e<>b<<<=<=<<<eE><E<>bB=<<><<<<e<<<<>><<<<<<><>B<<<<<<>>><><<<<>><<<<<<<>>>"), (["numbers", "together"], "=e<>b=eE=<=>bBeE><E<>bB====<>==eeEeEeE<><>Ee><>BbBbB==<bB==eEeEeE>B<b>bB<bB")]
def tab_OrderError : List (Str × Bool) := [("BadRule", true), ("BadText", true), ("BadNumber", true), ("NotFound", true)]
def tab_BadRule : List (Str × Bool) := [("BadRule", true), ("BadText", false), ("BadNumber", false), ("NotFound", false)]
def tab_BadText : List (Str × Bool) := [("BadRule", false), ("BadText", true), ("BadNumber", false), ("NotFound", false)]
def tab_BadNumber : List (Str × Bool) := [("BadRule", false), ("BadText", false), ("BadNumber", true), ("NotFound", false)]
def tab_NotFound : List (Str × Bool) := [("BadRule", false), ("BadText", false), ("BadNumber", false), ("NotFound", true)]
def tab_ValueError : List (Str × Bool) := [("BadRule", true), ("BadText", true), ("BadNumber", true), ("NotFound", true)]
abbrev okC : List Str := ["BadRule", "BadText", "BadNumber", "NotFound"]
abbrev tabsC : List (Option Str × List (Str × Bool)) := [(some "OrderError", tab_OrderError), (some "BadRule", tab_BadRule), (some "BadText", tab_BadText), (some "BadNumber", tab_BadNumber), (some "NotFound", tab_NotFound), (none, tab_ValueError)]
def fn : List He.DefD := [dD "is_whole" (topH 7), dD "is_word" (topH 13), dD "is_rule" (topH 14), dD "check_rule" (topH 17), dD "check_family" (topH 18), dD "marks_of" (topH 22), dD "marks_behind" (topH 23), dD "decided" (topH 24), dD "turned_round" (topH 25), dD "signs_of" (topH 28), dD "marks_of_two" (topH 30), dD "same" (topH 31), dD "telling_pair" (topH 32), dD "first_unlike" (topH 33), dD "classes" (topH 34), dD "telling_table" (topH 35), dD "least_signs" (topH 36), dD "_law_start" (topH 38), dD "_law_draw" (topH 39), dD "_law_pick" (topH 40), dD "_law_error" (topH 41), dD "_law_words" (topH 42), dD "_law_rule" (topH 43), dD "_law_cut" (topH 44), dD "_law_rank" (topH 45), dD "_law_once" (topH 46), dD "_law_compare" (topH 47), dD "_law_texts" (topH 48), dD "_law_pairs" (topH 49), dD "_law_groups" (topH 50), dD "_law_call" (topH 51), dD "_law_changed" (topH 52), dD "law" (topH 53)]
def dats : List (PySem.Str × PyData) := [("CASES", (.tuple [(.str "apart"), (.str "mixed"), (.str "together"), (.str "last")])), ("FIGURES", (.tuple [(.str "signs"), (.str "numbers"), (.str "strict")])), ("BARS", (.tuple [(.str "ahead"), (.str "behind")])), ("ENDS", (.tuple [(.str "first"), (.str "behind")])), ("MOST_RULES", (.int 8)), ("CAPITALS", (.str "=====<==================<<>==<<=====================<<===<>================")), ("PAIRS", (.tuple [(.tuple [(.str ""), (.str "")]), (.tuple [(.str ""), (.str "A")]), (.tuple [(.str "A"), (.str "B")]), (.tuple [(.str "B"), (.str "a")]), (.tuple [(.str "_"), (.str "A")]), (.tuple [(.str "A"), (.str "a")]), (.tuple [(.str "A"), (.str "aA")]), (.tuple [(.str "AA"), (.str "a")]), (.tuple [(.str "01"), (.str "1")]), (.tuple [(.str "0"), (.str "01")]), (.tuple [(.str "0"), (.str "00")]), (.tuple [(.str "AB"), (.str "aA")]), (.tuple [(.str "A_"), (.str "aA")]), (.tuple [(.str "AA"), (.str "a_")]), (.tuple [(.str "01"), (.str "1A")]), (.tuple [(.str "01A"), (.str "1")]), (.tuple [(.str "010"), (.str "1")]), (.tuple [(.str "0_"), (.str "01")]), (.tuple [(.str "0_"), (.str "00")]), (.tuple [(.str "01a"), (.str "1B")]), (.tuple [(.str "01B"), (.str "1a")]), (.tuple [(.str "01_"), (.str "1A")]), (.tuple [(.str "01A"), (.str "1_")]), (.tuple [(.str "0_"), (.str "00_")]), (.tuple [(.str "A01"), (.str "a1")]), (.tuple [(.str "A1"), (.str "a01")]), (.tuple [(.str "01a"), (.str "1A")]), (.tuple [(.str "A0"), (.str "a01")]), (.tuple [(.str "A01"), (.str "a0")]), (.tuple [(.str "A0"), (.str "a00")]), (.tuple [(.str "A00"), (.str "a0")]), (.tuple [(.str "0_"), (.str "00_A")]), (.tuple [(.str "A01"), (.str "a1A")]), (.tuple [(.str "A01A"), (.str "a1")]), (.tuple [(.str "A1"), (.str "a01A")]), (.tuple [(.str "A1A"), (.str "a01")]), (.tuple [(.str "01a"), (.str "1AA")]), (.tuple [(.str "01aA"), (.str "1A")]), (.tuple [(.str "A1"), (.str "a010")]), (.tuple [(.str "A010"), (.str "a1")]), (.tuple [(.str "A0_"), (.str "a01")]), (.tuple [(.str "A01"), (.str "a0_")]), (.tuple [(.str "A0_"), (.str "a00")]), (.tuple [(.str "A00"), (.str "a0_")]), (.tuple [(.str "0_B"), (.str "00_A")]), (.tuple [(.str "0_a"), (.str "00_B")]), (.tuple [(.str "0_B"), (.str "00_a")]), (.tuple [(.str "0_A"), (.str "00__")]), (.tuple [(.str "A01_"), (.str "a1A")]), (.tuple [(.str "A01A"), (.str "a1_")]), (.tuple [(.str "A1_"), (.str "a01A")]), (.tuple [(.str "A1A"), (.str "a01_")]), (.tuple [(.str "A0_"), (.str "a00_")]), (.tuple [(.str "A00_"), (.str "a0_")]), (.tuple [(.str "01aA"), (.str "1AB")]), (.tuple [(.str "01a_"), (.str "1AA")]), (.tuple [(.str "01aA"), (.str "1A_")]), (.tuple [(.str "0_A"), (.str "00_a")]), (.tuple [(.str "0_a"), (.str "00_A")]), (.tuple [(.str "A0_"), (.str "a00_A")]), (.tuple [(.str "A00_A"), (.str "a0_")]), (.tuple [(.str "0_A"), (.str "00_aA")]), (.tuple [(.str "0_AA"), (.str "00_a")]), (.tuple [(.str "0_a"), (.str "00_AA")]), (.tuple [(.str "0_aA"), (.str "00_A")]), (.tuple [(.str "A0_B"), (.str "a00_A")]), (.tuple [(.str "A0_A"), (.str "a00__")]), (.tuple [(.str "A00_A"), (.str "a0_B")]), (.tuple [(.str "A00__"), (.str "a0_A")]), (.tuple [(.str "0_AB"), (.str "00_aA")]), (.tuple [(.str "0_A_"), (.str "00_aA")]), (.tuple [(.str "0_AA"), (.str "00_a_")]), (.tuple [(.str "0_aA"), (.str "00_AB")]), (.tuple [(.str "0_a_"), (.str "00_AA")]), (.tuple [(.str "0_aA"), (.str "00_A_")])]))]
def fa : List He.Fa := [.free "ValueError", .free "bool", .free "enumerate", .free "int", .free "isinstance", .free "len", .free "list", .free "min", .free "ord", .free "range", .free "str", .free "tuple", .free "zip", .glo "OrderError", .glo "BadRule", .glo "BadText", .glo "BadNumber", .glo "NotFound", .exc "OrderError", .exc "BadRule", .exc "BadText", .exc "BadNumber", .exc "NotFound", .exm "BadRule" "OrderError" true, .exm "BadText" "OrderError" true, .exm "BadNumber" "OrderError" true, .exm "NotFound" "OrderError" true, .glo "is_whole", .glo "is_word", .glo "is_rule", .glo "check_rule", .glo "check_family", .glo "marks_of", .glo "marks_behind", .glo "decided", .glo "turned_round", .glo "signs_of", .glo "marks_of_two", .glo "same", .glo "telling_pair", .glo "first_unlike", .glo "classes", .glo "telling_table", .glo "least_signs", .glo "_law_start", .glo "_law_draw", .glo "_law_pick", .glo "_law_error", .glo "_law_words", .glo "_law_rule", .glo "_law_cut", .glo "_law_rank", .glo "_law_once", .glo "_law_compare", .glo "_law_texts", .glo "_law_pairs", .glo "_law_groups", .glo "_law_call", .glo "_law_changed", .glo "law"]
def l : Looks := ⟨5, fa, fn, dats, "LOOKS", 115, 340, looksP, excB okC tabsC⟩
abbrev aX : Addr × List (Value × Value) := (115, vsFrom 115 340 looksP)
theorem pairs_eq : tabPairs p 20 = looksP := by kernel_rfl
abbrev stQ (w : World) : SharedT → Thread → Option (SharedT × Thread) := stW p w
abbrev run5 (w : World) (os : OsState) (tk ep : Nat) (lf : Life) (pos : Pos) : Option SharedT := A5 (stQ w) 11 (some (.ref 6)) p w os 20 E aX 12 (entriesW p w (psFrom 115 340 looksP)) tk ep lf pos
theorem k1 (w : World) (os : OsState) : (A1 (stQ w) 11 (some (.ref 6)) p w os 12).map (·.2) = some ⟨denQ tabQ (.body (bodyT p 20) E), .body (bodyT p 20) E, P0, [topFrame P0]⟩ := by kernel_rfl
theorem k2 (w : World) (os : OsState) : (A2 (stQ w) 11 (some (.ref 6)) p w os 20 E 12).map (fun x => (x.1, x.2.2.1)) = some (.next, .body (bodyT p 20) E) := by kernel_rfl
theorem k3 (w : World) (os : OsState) : (A3 (stQ w) 11 (some (.ref 6)) p w os 20 E 12).map (fun x => (x.1, x.2.2.1)) = some (.next, .body (bodyT p 20) E) := by kernel_rfl
theorem k4 (w : World) (os : OsState) : (A4 (stQ w) 11 (some (.ref 6)) p w os 20 E aX 12).map (fun x => (x.1, x.2.2.1, chkT p 20 115 x.2.1)) = some (.next, .body (bodyT p 20) E, true) := by kernel_rfl
theorem k5 (w : World) (os : OsState) (tk ep : Nat) (lf : Life) (pos : Pos) : (run5 w os tk ep lf pos).map (fun s => (s.gens.toList.isEmpty, looksF p (boot_heap w.params) s.abs)) = some (true, true) := by kernel_rfl
theorem k6 (w : World) (os : OsState) (tk ep : Nat) (lf : Life) (pos : Pos) : (run5 w os tk ep lf pos).map (fun s => seenQ q loose (importedModules p.main.body) (fun s => xlAt q [] s && recOk R.toRowW.records s) s.abs) = some (openGood q loose) := by kernel_rfl
theorem k7 (w : World) (os : OsState) (tk ep : Nat) (lf : Life) (pos : Pos) : (run5 w os tk ep lf pos).map (fun s => l.obs (l.K (getT s))) = some (l.val p w) := by kernel_rfl
theorem head (w : World) : HeadOk R q loose (XL q []) (l.says p) w := by
  refine head_table (i := 20) (d := 115) (k0 := 340) (m := 12) (n0 := 11) (ann := some (.ref 6)) (E := E) (A := { depth := 10000, units := 100 }) (ob := fun s => l.obs (l.K (getT s))) (val := l.val p w) (by kernel_rfl) (fun s => by kernel_rfl) (by decide +kernel) (by kernel_rfl) (by kernel_rfl) (by rfl) (by rfl) ?_ ?_ ?_ ?_ (by decide) ⟨rfl, by decide +kernel, fun _ h => (nomatch h), fun _ h => (nomatch h), by decide +kernel⟩ (by decide) (k1 w) (k2 w) (k3 w) (by rw [pairs_eq]; exact k4 w) (by rw [pairs_eq]; exact fun os tk ep lf pos => map_four (k5 w os tk ep lf pos) (k6 w os tk ep lf pos) (k7 w os tk ep lf pos)) (fun s e => Looks.of s e)
  · exact fun z => by cases z
  · decide +kernel
  · decide +kernel
  · decide +kernel
end Hd
end K04

end
-- DenB
section
set_option Elab.async false
set_option linter.all false
set_option maxRecDepth 100000
set_option maxHeartbeats 1000000
namespace Den
open PySem PySem.Spec PyProof.Rows L2
variable [TB : Tabl]

/-! ### names and constants -/
def varD (i : Nat) : FE := fun ρ D => match ρ[i]? with
  | some (some (.d x)) => some (x, D)
  | _ => none
def ownD (i : Nat) : FL := fun ρ D => match ρ[i]? with
  | some (some (.own x)) => some (x, D)
  | _ => none
def cD (c : PyData) : FE := fun _ D => some (c, D)
section
variable {X : Cx}
theorem de_var {i : Nat} {x : Str} {pos : Pos} (hN : X.N[i]? = some x := by rfl) (hv : Vis X.env.scope x := by first | exact Or.inl rfl | exact Or.inr (Or.inl rfl) | exact Or.inr (Or.inr rfl)) (hd : (x == ("__debug__" : Str)) = false := by decide)
    (hcd : (x == ("__classdict__" : Str)) = false := by decide) : DE X (.Name x pos) (varD i) := by
  refine .mk ?_
  intro L F0 H0 ρ D σ F H x' D' r h Q q
  unfold varD at h
  split at h
  · rename_i y hy
    cases h
    obtain ⟨o, h1, v, rfl, h2⟩ := r.slot i _ hy
    exact PEw (pe_var hN hv hd hcd) ⟨v, h1, q v F H Stp.refl r.ok h2⟩
  · cases h
theorem dl_own {i : Nat} {x : Str} {pos : Pos} (hN : X.N[i]? = some x := by rfl) (hv : Vis X.env.scope x := by first | exact Or.inl rfl | exact Or.inr (Or.inl rfl) | exact Or.inr (Or.inr rfl)) (hd : (x == ("__debug__" : Str)) = false := by decide)
    (hcd : (x == ("__classdict__" : Str)) = false := by decide) : DL X (.Name x pos) (ownD i) := by
  refine .mk ?_
  intro L F0 H0 ρ D σ F H x' D' r h Q q
  unfold ownD at h
  split at h
  · rename_i y hy
    cases h
    obtain ⟨o, h1, p, vs, rfl, h0, hF, n, hp, hv'⟩ := r.slot i _ hy
    exact PEw (pe_var hN hv hd hcd) ⟨.ref p, h1, q p vs F H Stp.refl r.ok (fun F2 H2 t => .inl (.inl (t.keep p _ hp n))) hv'⟩
  · cases h
theorem de_c {e : Expr} {v : V} {c : PyData} (h : PE X e (tC v)) (hd : ∀ F, Dp X.K F v c) : DE X e (cD c) := by
  refine .mk ?_
  intro L F0 H0 ρ D σ F H x' D' r h' Q q
  cases h'
  exact PEw h (q v F H Stp.refl r.ok (hd F))
theorem de_int {i : Int} {j pos} : DE X (.Constant (.int i) j pos) (cD (.int i)) := de_c pe_int fun _ => .int i
theorem de_bl {b j pos} : DE X (.Constant (.bool b) j pos) (cD (.bool b)) := de_c pe_bl fun _ => .bl b
theorem de_non {j pos} : DE X (.Constant .none j pos) (cD .none) := de_c pe_non fun _ => .non
theorem de_str {x j pos} : DE X (.Constant (.str x) j pos) (cD (.str x)) := de_c pe_str fun _ => .str x
theorem de_glob {x : Str} {v : V} {u : Value} {c : PyData} {pos : Pos} (hg : Gl X x) (hm : X.mg x = some u) (r : RelV v u) (hd : ∀ F, Dp X.K F v c) (hdb : (x == ("__debug__" : Str)) = false := by decide) : DE X (.Name x pos) (cD c) :=
  de_c (pe_glob hg hm r hdb) hd
/-- from data to a list that is read -/
def asL : PyData → Option (List PyData)
  | .list xs => some xs
  | _ => none
def asB : PyData → Option Bool
  | .bool b => some b
  | _ => none
def isN : PyData → Bool
  | .none => true
  | _ => false
theorem asL_some {x : PyData} {xs : List PyData} (h : asL x = some xs) : x = .list xs := by
  cases x <;> simp [asL] at h
  rw [h]
theorem asB_some {x : PyData} {b : Bool} (h : asB x = some b) : x = .bool b := by
  cases x <;> simp [asB] at h
  rw [h]
def lstD (f : FE) : FL := fun ρ D => (f ρ D).bind fun r => (asL r.1).map fun xs => (xs, r.2)
theorem bind_split {α β : Type} {o : Option α} {g : α → Option β} {b : β} (h : o.bind g = some b) : ∃ a, o = some a ∧ g a = some b := by
  cases o with
  | none => cases h
  | some a => exact ⟨a, rfl, h⟩
theorem map_split {α β : Type} {o : Option α} {g : α → β} {b : β} (h : o.map g = some b) : ∃ a, o = some a ∧ g a = b := by
  cases o with
  | none => cases h
  | some a => exact ⟨a, rfl, Option.some.inj h⟩
theorem dl_of {e : Expr} {f : FE} (h : DE X e f) : DL X e (lstD f) := by
  refine .mk ?_
  intro L F0 H0 ρ D σ F H xs D' r hf Q q
  unfold lstD at hf
  obtain ⟨⟨y, D1⟩, e1, hf⟩ := bind_split hf
  obtain ⟨ys, e2, hf⟩ := map_split hf
  cases hf
  have e3 := asL_some e2
  dsimp only at e3
  subst e3
  refine h.run L F0 H0 ρ D σ F H _ _ r e1 Q fun v F' H' t k hv => ?_
  cases hv with
  | lst h1 h2 =>
    refine q _ _ F' H' t k (fun F2 H2 t2 => ?_) h2
    rcases h1 with h1 | h1
    · refine .inl ?_
      rcases h1 with h1 | ⟨o, h1⟩
      · exact .inl (t2.keep _ _ (k.sub _ _ h1) fun d => by rw [k.dF _ d] at h1; cases h1)
      · exact .inr ⟨o, t2.keep _ _ (k.sub _ _ h1) fun d => by rw [k.dF _ d] at h1; cases h1⟩
    · exact .inr h1
/-- a new list as data -/
def datD (f : FL) : FE := fun ρ D => (f ρ D).map fun r => (.list r.1, r.2)
theorem de_of {e : Expr} {f : FL} (h : DN X e f) : DE X e (datD f) := by
  refine .mk ?_
  intro L F0 H0 ρ D σ F H x D' r hf Q q
  unfold datD at hf
  cases e1 : f ρ D with
  | none => rw [e1] at hf; cases hf
  | some z =>
    rw [e1] at hf
    cases hf
    refine h.run L F0 H0 ρ D σ F H _ _ r e1 Q fun p vs F' H' t k n nF hp hv => ?_
    refine q (.ref p) (upd F' p (.lst vs)) H' ?_ (k.frz hp nF (r.ok.nd n)) (.lst (.inl (.inl upd_same)) (dpa_mono (Ex.new nF) hv))
    exact t.frz n nF
theorem dl_new {e : Expr} {f : FL} (h : DN X e f) : DL X e f := .mk fun L F0 H0 ρ D σ F H x D' r hf Q q =>
  h.run L F0 H0 ρ D σ F H x D' r hf Q fun p vs F' H' t k n _ hp hv => q p vs F' H' t k (fun F2 H2 t2 => .inl (.inl (t2.keep p _ hp (r.ok.nd n)))) hv

/-! ### operators -/
abbrev O2 := PyData → PyData → Option PyData
def rOf (K : PySem.W.Frag) (op : O2) : R2 := fun x y H Q => ∃ L D F dx dy dz, Ok L D F H ∧ Dp K F x dx ∧ Dp K F y dy ∧ op dx dy = some dz ∧ ∀ v F' H', Stp L F H F' H' → Ok L D F' H' → Dp K F' v dz → Q v H'
def OpS (X : Cx) (f : Value → Value → Sem Value) (op : O2) : Prop := OpR X f (rOf X.K op)
theorem OpS.of {f : Value → Value → Sem Value} {op : O2} {r : R2} (h : OpR X f r) (hr : ∀ x y H Q, rOf X.K op x y H Q → r x y H Q) : OpS X f op :=
  fun pins s σ H x y v u Q I rx ry q => h pins s σ H x y v u Q I rx ry (hr x y H Q q)
def orO (a b : O2) : O2 := fun x y => match a x y with
  | some z => some z
  | none => b x y
theorem OpS.or {f : Value → Value → Sem Value} {a b : O2} (ha : OpS X f a) (hb : OpS X f b) : OpS X f (orO a b) := by
  intro pins s σ H x y v u Q I rx ry ⟨L, D, F, dx, dy, dz, k, h1, h2, e, q⟩
  unfold orO at e
  cases e1 : a dx dy with
  | none =>
    rw [e1] at e
    exact hb pins s σ H x y v u Q I rx ry ⟨L, D, F, dx, dy, dz, k, h1, h2, e, q⟩
  | some z =>
    rw [e1] at e
    cases e
    exact ha pins s σ H x y v u Q I rx ry ⟨L, D, F, dx, dy, _, k, h1, h2, e1, q⟩
def binD (op : O2) (f g : FE) : FE := fun ρ D => (f ρ D).bind fun a => (g ρ a.2).bind fun b => (op a.1 b.1).map fun z => (z, b.2)
theorem bin_split {op : O2} {f g : FE} {ρ : Env} {D D' : Dw} {z : PyData} (h : binD op f g ρ D = some (z, D')) : ∃ x D1 y, f ρ D = some (x, D1) ∧ g ρ D1 = some (y, D') ∧ op x y = some z := by
  unfold binD at h
  cases e1 : f ρ D with
  | none => rw [e1] at h; cases h
  | some a =>
    rw [e1] at h
    have h : ((g ρ a.2).bind fun b => (op a.1 b.1).map fun z => (z, b.2)) = some (z, D') := h
    cases e2 : g ρ a.2 with
    | none => rw [e2] at h; cases h
    | some b =>
      rw [e2] at h
      have h : ((op a.1 b.1).map fun z => (z, b.2)) = some (z, D') := h
      cases e3 : op a.1 b.1 with
      | none => rw [e3] at h; cases h
      | some w =>
        rw [e3] at h
        cases h
        exact ⟨a.1, a.2, b.1, rfl, e2, e3⟩
theorem two {a b : Expr} {fa fb : FE} (ha : DE X a fa) (hb : DE X b fb) {L : Loc} {F0 H0 : Hp} {ρ : Env} {D D1 D2 : Dw} {σ : L2.St} {F H : Hp} {x y : PyData} (r : Rep X.K L F0 H0 ρ D σ F H) (e1 : fa ρ D = some (x, D1)) (e2 : fb ρ D1 = some (y, D2))
    {R : V → V → Hp → Prop} (h : ∀ v u F' H', Stp L F H F' H' → Ok L D2 F' H' → Dp X.K F' v x → Dp X.K F' u y → R v u H') : tW X a σ H fun v H1 => tW X b σ H1 fun u H2 => R v u H2 :=
  ha.run L F0 H0 ρ D σ F H x D1 r e1 _ fun v F1 H1 t1 k1 h1 => hb.run L F0 H0 ρ D1 σ F1 H1 y D2 (r.step t1 k1) e2 _ fun u F2 H2 t2 k2 h2 => h v u F2 H2 (t1.trans t2) k2 (dp_mono t2.ex h1) h2
theorem de_bin {op : Operator} {o : O2} {a b : Expr} {fa fb : FE} {pos : Pos} (ho : OpS X (binaryOp op) o) (ha : DE X a fa) (hb : DE X b fb) : DE X (.BinOp a op b pos) (binD o fa fb) := by
  refine .mk ?_
  intro L F0 H0 ρ D σ F H z D' r hf Q q
  obtain ⟨x, D1, y, e1, e2, e3⟩ := bin_split hf
  exact PEw (pe_op ho pe_w pe_w) (two ha hb r e1 e2 fun v u F' H' t k h1 h2 => ⟨L, D', F', x, y, z, k, h1, h2, e3, fun w F2 H2 t2 k2 h3 => q w F2 H2 (t.trans t2) k2 h3⟩)
theorem de_cmp {op : CmpOp} {o : O2} {a b : Expr} {fa fb : FE} {pos : Pos} (ho : OpS X (compareOp op) o) (ha : DE X a fa) (hb : DE X b fb) (hm : behindInMarks op b = false) : DE X (.Compare a [op] [b] pos) (binD o fa fb) := by
  refine .mk ?_
  intro L F0 H0 ρ D σ F H z D' r hf Q q
  obtain ⟨x, D1, y, e1, e2, e3⟩ := bin_split hf
  exact PEw (pe_cmpR ho pe_w pe_w hm) (two ha hb r e1 e2 fun v u F' H' t k h1 h2 => ⟨L, D', F', x, y, z, k, h1, h2, e3, fun w F2 H2 t2 k2 h3 => q w F2 H2 (t.trans t2) k2 h3⟩)
def boolD (f : FE) : FT := fun ρ D => (f ρ D).bind fun r => (asB r.1).map fun b => (b, r.2)
theorem bool_split {f : FE} {ρ : Env} {D D' : Dw} {b : Bool} (h : boolD f ρ D = some (b, D')) : f ρ D = some (.bool b, D') := by
  unfold boolD at h
  obtain ⟨⟨y, D1⟩, e1, hf⟩ := bind_split h
  obtain ⟨ys, e2, hf⟩ := map_split hf
  cases hf
  have e3 := asB_some e2
  dsimp only at e3
  subst e3
  exact e1
theorem dt_cmp {op : CmpOp} {o : O2} {a b : Expr} {fa fb : FE} {pos : Pos} (ho : OpS X (compareOp op) o) (ha : DE X a fa) (hb : DE X b fb) (hm : behindInMarks op b = false) : DT X (.Compare a [op] [b] pos) (boolD (binD o fa fb)) := by
  refine .mk ?_
  intro L F0 H0 ρ D σ F H c D' r hf Q q
  obtain ⟨x, D1, y, e1, e2, e3⟩ := bin_split (bool_split hf)
  exact PTw (pt_cmpR ho pe_w pe_w hm) (two ha hb r e1 e2 fun v u F' H' t k h1 h2 => ⟨L, D', F', x, y, _, k, h1, h2, e3, fun w F2 H2 t2 k2 h3 => by
    cases h3
    exact ⟨c, rfl, q F2 H2 (t.trans t2) k2⟩⟩)

/-! #### by kinds -/
def addI : O2 | .int i, .int j => some (.int (i + j)) | _, _ => none
def subI : O2 | .int i, .int j => some (.int (i - j)) | _, _ => none
def mulI : O2 | .int i, .int j => if decide (i.natAbs < 2 ^ 64) && decide (j.natAbs < 2 ^ 64) then some (.int (i * j)) else none | _, _ => none
def fdivI : O2 | .int i, .int j => if decide (0 < j) && decide (j.natAbs < 2 ^ 4000) then some (.int (i / j)) else none | _, _ => none
def modI : O2 | .int i, .int j => if 0 < j then some (.int (i % j)) else none | _, _ => none
def powI : O2 | .int i, .int j => if decide (0 ≤ j) && decide (j ≤ 64) && decide (i.natAbs < 2 ^ 64) then some (.int (i ^ j.toNat)) else none | _, _ => none
def addS : O2 | .str i, .str j => if i.length + j.length ≤ 1000000 then some (.str (i ++ j)) else none | _, _ => none
def addL : O2 | .list a, .list b => if a.length + b.length ≤ 1000000 then some (.list (a ++ b)) else none | _, _ => none
def addT : O2 | .tuple a, .tuple b => if a ≠ [] ∧ a.length + b.length ≤ 1000000 then some (.tuple (a ++ b)) else none | _, _ => none
def eqO : O2 := fun x y => if SeqAt.shaped x && SeqAt.shaped y then some (.bool (PyData.eqv x y)) else none
def neO : O2 := fun x y => if SeqAt.shaped x && SeqAt.shaped y then some (.bool (!PyData.eqv x y)) else none
def ltI : O2 | .int i, .int j => some (.bool (decide (i < j))) | _, _ => none
def leI : O2 | .int i, .int j => some (.bool (decide (i ≤ j))) | _, _ => none
def gtI : O2 | .int i, .int j => some (.bool (decide (j < i))) | _, _ => none
def geI : O2 | .int i, .int j => some (.bool (decide (j ≤ i))) | _, _ => none
def isB : O2 | .bool a, .bool b => some (.bool (decide (a = b))) | _, _ => none
def isNo : O2 | x, .none => some (.bool (isN x)) | _, _ => none
def isNotNo : O2 | x, .none => some (.bool (!isN x)) | _, _ => none
theorem dp_int {K : PySem.W.Frag} {F : Hp} {v : V} {i : Int} (h : Dp K F v (.int i)) : v = .int i := by cases h; rfl
theorem dp_str {K : PySem.W.Frag} {F : Hp} {v : V} {i : Str} (h : Dp K F v (.str i)) : v = .str i := by cases h; rfl
theorem dp_bl {K : PySem.W.Frag} {F : Hp} {v : V} {i : Bool} (h : Dp K F v (.bool i)) : v = .bl i := by cases h; rfl
theorem dp_list {K : PySem.W.Frag} {F : Hp} {v : V} {xs : List PyData} (h : Dp K F v (.list xs)) : ∃ p vs, v = .ref p ∧ SqL K F p vs ∧ DpAll K F vs xs := by cases h with | lst a b => exact ⟨_, _, rfl, a, b⟩
theorem dp_tup {K : PySem.W.Frag} {F : Hp} {v : V} {xs : List PyData} (h : Dp K F v (.tuple xs)) : ∃ p vs, v = .ref p ∧ SqT K F p vs ∧ DpAll K F vs xs := by cases h with | tup a b => exact ⟨_, _, rfl, a, b⟩
theorem big {n : Nat} (h : n ≤ 1000000) : n ≤ sizeLine := Nat.le_trans h (by decide)

theorem os_addI : OpS X (binaryOp .Add) addI := .of op_add fun x y H Q ⟨L, D, F, dx, dy, dz, k, h1, h2, e, q⟩ => by
  match dx, dy, e with
  | .int i, .int j, e =>
    cases e
    exact ⟨i, j, dp_int h1, dp_int h2, q _ F H Stp.refl k (.int _)⟩
theorem os_subI : OpS X (binaryOp .Sub) subI := .of op_sub fun x y H Q ⟨L, D, F, dx, dy, dz, k, h1, h2, e, q⟩ => by
  match dx, dy, e with
  | .int i, .int j, e =>
    cases e
    exact ⟨i, j, dp_int h1, dp_int h2, q _ F H Stp.refl k (.int _)⟩
theorem os_mulI : OpS X (binaryOp .Mult) mulI := .of op_mulW fun x y H Q ⟨L, D, F, dx, dy, dz, k, h1, h2, e, q⟩ => by
  match dx, dy, e with
  | .int i, .int j, e =>
    have e : (if decide (i.natAbs < 2 ^ 64) && decide (j.natAbs < 2 ^ 64) then some (PyData.int (i * j)) else none) = some dz := e
    split at e
    · rename_i hc
      cases e
      rw [Bool.and_eq_true] at hc
      exact ⟨i, j, dp_int h1, dp_int h2, wide_mul (of_decide_eq_true hc.1) (of_decide_eq_true hc.2) (by decide) (by decide) (by decide), q _ F H Stp.refl k (.int _)⟩
    · cases e
theorem os_fdivI : OpS X (binaryOp .FloorDiv) fdivI := .of op_fdivW fun x y H Q ⟨L, D, F, dx, dy, dz, k, h1, h2, e, q⟩ => by
  match dx, dy, e with
  | .int i, .int j, e =>
    have e : (if decide (0 < j) && decide (j.natAbs < 2 ^ 4000) then some (PyData.int (i / j)) else none) = some dz := e
    split at e
    · rename_i hc
      cases e
      rw [Bool.and_eq_true] at hc
      exact ⟨i, j, dp_int h1, dp_int h2, wide_div (of_decide_eq_true hc.1) (of_decide_eq_true hc.2) (by decide) (by decide), q _ F H Stp.refl k (.int _)⟩
    · cases e
theorem os_modI : OpS X (binaryOp .Mod) modI := .of op_mod fun x y H Q ⟨L, D, F, dx, dy, dz, k, h1, h2, e, q⟩ => by
  match dx, dy, e with
  | .int i, .int j, e =>
    have e : (if 0 < j then some (PyData.int (i % j)) else none) = some dz := e
    split at e
    · rename_i hc
      cases e
      exact ⟨i, j, dp_int h1, dp_int h2, hc, q _ F H Stp.refl k (.int _)⟩
    · cases e
theorem os_powI : OpS X (binaryOp .Pow) powI := .of op_pow fun x y H Q ⟨L, D, F, dx, dy, dz, k, h1, h2, e, q⟩ => by
  match dx, dy, e with
  | .int i, .int j, e =>
    have e : (if decide (0 ≤ j) && decide (j ≤ 64) && decide (i.natAbs < 2 ^ 64) then some (PyData.int (i ^ j.toNat)) else none) = some dz := e
    split at e
    · rename_i hc
      cases e
      rw [Bool.and_eq_true, Bool.and_eq_true] at hc
      have a1 := of_decide_eq_true hc.1.1
      have a2 := of_decide_eq_true hc.1.2
      exact ⟨i, j, dp_int h1, dp_int h2, ⟨a1, by omega, of_decide_eq_true hc.2⟩, q _ F H Stp.refl k (.int _)⟩
    · cases e
theorem os_addS : OpS X (binaryOp .Add) addS := .of op_add_str fun x y H Q ⟨L, D, F, dx, dy, dz, k, h1, h2, e, q⟩ => by
  match dx, dy, e with
  | .str i, .str j, e =>
    have e : (if i.length + j.length ≤ 1000000 then some (PyData.str (i ++ j)) else none) = some dz := e
    split at e
    · rename_i hc
      cases e
      exact ⟨i, j, dp_str h1, dp_str h2, big hc, q _ F H Stp.refl k (.str _)⟩
    · cases e
theorem os_addT : OpS X (binaryOp .Add) addT := .of op_catT fun x y H Q ⟨L, D, F, dx, dy, dz, k, h1, h2, e, q⟩ => by
  match dx, dy, e with
  | .tuple a, .tuple b, e =>
    have e : (if a ≠ [] ∧ a.length + b.length ≤ 1000000 then some (PyData.tuple (a ++ b)) else none) = some dz := e
    split at e
    · rename_i hc
      cases e
      obtain ⟨p, vs, rfl, s1, a1⟩ := dp_tup h1
      obtain ⟨p2, ws, rfl, s2, a2⟩ := dp_tup h2
      have l1 := dpa_len a1
      have l2 := dpa_len a2
      refine ⟨p, p2, vs, ws, rfl, rfl, ex_t k.sub s1, ex_t k.sub s2, fun z => hc.1 ?_, big (by rw [l1, l2]; exact hc.2), fun z => ?_, fun z t ht => ?_⟩
      · rw [z] at l1; exact List.eq_nil_of_length_eq_zero l1.symm
      · rw [z] at l2
        have : b = [] := List.eq_nil_of_length_eq_zero l2.symm
        rw [this, List.append_nil] at q
        exact q _ F H Stp.refl k h1
      · exact q _ _ _ (Stp.laid k.sub ht) (k.laid ht) (.tup (.inl (.inl upd_same)) (dpa_mono (Ex.new (k.sub.back ht)) (dpa_app a1 a2)))
    · cases e
theorem os_eq (hu : X.A.units + 64 < cLine) : OpS X (compareOp .Eq) eqO := .of (op_eqD hu) fun x y H Q ⟨L, D, F, dx, dy, dz, k, h1, h2, e, q⟩ => by
  unfold eqO at e
  split at e
  · rename_i hc
    cases e
    rw [Bool.and_eq_true] at hc
    exact ⟨dx, dy, dp_mono k.sub h1, dp_mono k.sub h2, hc.1, hc.2, q _ F H Stp.refl k (.bl _)⟩
  · cases e
theorem os_ne (hu : X.A.units + 64 < cLine) : OpS X (compareOp .NotEq) neO := .of (op_neD hu) fun x y H Q ⟨L, D, F, dx, dy, dz, k, h1, h2, e, q⟩ => by
  unfold neO at e
  split at e
  · rename_i hc
    cases e
    rw [Bool.and_eq_true] at hc
    exact ⟨dx, dy, dp_mono k.sub h1, dp_mono k.sub h2, hc.1, hc.2, q _ F H Stp.refl k (.bl _)⟩
  · cases e
theorem os_ltI : OpS X (compareOp .Lt) ltI := .of op_lt fun x y H Q ⟨L, D, F, dx, dy, dz, k, h1, h2, e, q⟩ => by
  match dx, dy, e with
  | .int i, .int j, e => cases e; exact ⟨i, j, dp_int h1, dp_int h2, q _ F H Stp.refl k (.bl _)⟩
theorem os_leI : OpS X (compareOp .LtE) leI := .of op_le fun x y H Q ⟨L, D, F, dx, dy, dz, k, h1, h2, e, q⟩ => by
  match dx, dy, e with
  | .int i, .int j, e => cases e; exact ⟨i, j, dp_int h1, dp_int h2, q _ F H Stp.refl k (.bl _)⟩
theorem os_gtI : OpS X (compareOp .Gt) gtI := .of op_gt fun x y H Q ⟨L, D, F, dx, dy, dz, k, h1, h2, e, q⟩ => by
  match dx, dy, e with
  | .int i, .int j, e => cases e; exact ⟨i, j, dp_int h1, dp_int h2, q _ F H Stp.refl k (.bl _)⟩
theorem os_geI : OpS X (compareOp .GtE) geI := .of op_ge fun x y H Q ⟨L, D, F, dx, dy, dz, k, h1, h2, e, q⟩ => by
  match dx, dy, e with
  | .int i, .int j, e => cases e; exact ⟨i, j, dp_int h1, dp_int h2, q _ F H Stp.refl k (.bl _)⟩
theorem os_isB : OpS X (compareOp .Is) isB := .of op_is_bl fun x y H Q ⟨L, D, F, dx, dy, dz, k, h1, h2, e, q⟩ => by
  match dx, dy, e with
  | .bool i, .bool j, e => cases e; exact ⟨i, j, dp_bl h1, dp_bl h2, q _ F H Stp.refl k (.bl _)⟩
theorem os_isNo : OpS X (compareOp .Is) isNo := .of op_isN fun x y H Q ⟨L, D, F, dx, dy, dz, k, h1, h2, e, q⟩ => by
  match dy, e with
  | .none, e =>
    cases e
    cases h2
    refine ⟨rfl, ?_⟩
    have := q (.bl (isN dx)) F H Stp.refl k (.bl _)
    cases h1 <;> exact this
theorem os_isNotNo : OpS X (compareOp .IsNot) isNotNo := .of op_notN fun x y H Q ⟨L, D, F, dx, dy, dz, k, h1, h2, e, q⟩ => by
  match dy, e with
  | .none, e =>
    cases e
    cases h2
    refine ⟨rfl, ?_⟩
    have := q (.bl (!isN dx)) F H Stp.refl k (.bl _)
    cases h1 <;> exact this
/-- < of two data that are alike -/
def ltO : O2 := fun x y => if PySem.W.alike x y && decide (min x.depth y.depth ≤ 60) && !isN x then some (.bool (PySem.W.dataLt x y)) else none
def rLtD (K : PySem.W.Frag) : R2 := fun x y H Q => ∃ d e, Dp K H x d ∧ Dp K H y e ∧ PySem.W.alike d e = true ∧ d ≠ .none ∧ min d.depth e.depth ≤ 60 ∧ Q (.bl (PySem.W.dataLt d e)) H
theorem op_ltD (hu : X.A.units + 64 < cLine) : OpR X (compareOp .Lt) (rLtD X.K) := by
  intro pins s σ H x y v u Q I rx ry h
  obtain ⟨d, e, hd, he, al, nn, dp, q⟩ := h
  obtain ⟨as, r1⟩ := Dp.reads I d x v hd rx
  obtain ⟨bs, r2⟩ := Dp.reads I e y u he ry
  exact PySem.W.rcLt_alike d e X.A s v u as bs r1 r2 al nn (by omega) X.prog X.w X.xe _ ⟨.bl _, H, I, rfl, q⟩
theorem os_lt (hu : X.A.units + 64 < cLine) : OpS X (compareOp .Lt) ltO := .of (op_ltD hu) fun x y H Q ⟨L, D, F, dx, dy, dz, k, h1, h2, e, q⟩ => by
  unfold ltO at e
  split at e
  · rename_i hc
    rw [Bool.and_eq_true, Bool.and_eq_true] at hc
    obtain ⟨⟨c1, c2⟩, c3⟩ := hc
    have e' := Option.some.inj e
    subst e'
    refine ⟨dx, dy, dp_mono k.sub h1, dp_mono k.sub h2, c1, fun z => ?_, of_decide_eq_true c2, q _ F H Stp.refl k (.bl _)⟩
    rw [z] at c3
    exact Bool.noConfusion c3
  · cases e
end
end Den

end
-- DenC
section
set_option Elab.async false
set_option linter.all false
set_option maxRecDepth 100000
set_option maxHeartbeats 1000000
namespace Den
open PySem PySem.Spec PyProof.Rows L2
variable [TB : Tabl]

/-! ### truth, tests -/
def truthD : PyData → Option Bool
  | .none => some false
  | .bool b => some b
  | .int i => some (i != 0)
  | .str s => if s.length ≤ 1000000 then some ((s.length : Int) != 0) else none
  | .list xs => some (!xs.isEmpty)
  | .tuple xs => some (!xs.isEmpty)
  | .dict _ => none
theorem isEmpty_len {α β : Type} {xs : List α} {ys : List β} (h : xs.length = ys.length) : xs.isEmpty = ys.isEmpty := by
  cases xs <;> cases ys <;> simp at h <;> rfl
theorem tru_of {K : PySem.W.Frag} {F H : Hp} {v : V} {d : PyData} {b : Bool} (e : Ex F H) (h : Dp K F v d) (t : truthD d = some b) : TruV K v H b := by
  cases h with
  | non => cases t; rfl
  | bl b => cases t; rfl
  | int i => cases t; rfl
  | str x =>
    have t : (if x.length ≤ 1000000 then some ((x.length : Int) != 0) else none) = some b := t
    split at t
    · rename_i hc
      cases t
      exact ⟨big hc, rfl⟩
    · cases t
  | lst h1 h2 => cases t; exact .inl ⟨_, ex_l e h1, by rw [isEmpty_len (dpa_len h2)]⟩
  | tup h1 h2 => cases t; exact .inr (.inl ⟨_, ex_t e h1, by rw [isEmpty_len (dpa_len h2)]⟩)
def truD (f : FE) : FT := fun ρ D => (f ρ D).bind fun r => (truthD r.1).map fun b => (b, r.2)
section
variable {X : Cx} {a b c e : Expr} {es rest : List Expr} {fa fb f : FE} {ga gb : FT} {pos : Pos}
theorem dt_val (h : DE X e f) (he : ∀ whole, isTrue e X.env whole = (do let v ← whole; standAt e.pos; holding [v] (truthy v)) := by intro _; rfl) : DT X e (truD f) := by
  refine .mk ?_
  intro L F0 H0 ρ D σ F H c D' r hf Q q
  obtain ⟨⟨x, D1⟩, e1, hf⟩ := bind_split hf
  obtain ⟨b, e2, hf⟩ := map_split hf
  cases hf
  exact PTw (pt_truth pe_w he) (h.run L F0 H0 ρ D σ F H _ _ r e1 _ fun v F' H' t k hv => ⟨c, tru_of k.sub hv e2, q F' H' t k⟩)
def truL (f : FL) : FT := fun ρ D => (f ρ D).map fun r => (!r.1.isEmpty, r.2)
theorem dt_list {f : FL} (h : DL X e f) (he : ∀ whole, isTrue e X.env whole = (do let v ← whole; standAt e.pos; holding [v] (truthy v)) := by intro _; rfl) : DT X e (truL f) := by
  refine .mk ?_
  intro L F0 H0 ρ D σ F H c D' r hf Q q
  obtain ⟨⟨x, D1⟩, e1, hf⟩ := map_split hf
  cases hf
  exact PTw (pt_truth pe_w he) (h.run L F0 H0 ρ D σ F H _ _ r e1 _ fun p vs F' H' t k hp hv => ⟨_, .inl ⟨_, hp F' H' Stp.refl, by rw [isEmpty_len (dpa_len hv)]⟩, q F' H' t k⟩)
variable (X) in
structure DW (e : Expr) (f : FT) : Prop where
  run : ∀ L F0 H0 ρ D σ F H b D', Rep X.K L F0 H0 ρ D σ F H → f ρ D = some (b, D') → ∀ Q : Bool → Hp → Prop, (∀ F' H', Stp L F H F' H' → Ok L D' F' H' → Q b H') →
  ∀ whole pins s, Inv X pins σ H s → wpAny (model X.prog X.w) X.A (isTrue e X.env whole) (TP X pins σ Q) X.xe s
variable (X) in
def tWW (e : Expr) : TT := fun σ H Q => ∀ whole pins s, Inv X pins σ H s → wpAny (model X.prog X.w) X.A (isTrue e X.env whole) (TP X pins σ Q) X.xe s
theorem pw_w : PW X e (tWW X e) := ⟨fun wh pins s σ H Q I h => h wh pins s I⟩
theorem dt_w (h : DW X e ga) : DT X e ga := .mk fun L F0 H0 ρ D σ F H c D' r hf Q q pins s I => h.run L F0 H0 ρ D σ F H c D' r hf Q q _ pins s I
def andT (f g : FT) : FT := fun ρ D => (f ρ D).bind fun a => if a.1 then g ρ a.2 else some (false, a.2)
def orT (f g : FT) : FT := fun ρ D => (f ρ D).bind fun a => if a.1 then some (true, a.2) else g ρ a.2
def notT (f : FT) : FT := fun ρ D => (f ρ D).map fun a => (!a.1, a.2)
theorem dw_and1 (h : DT X a ga) : DW X (.BoolOp .And [a] pos) ga := .mk fun L F0 H0 ρ D σ F H c D' r hf Q q whole pins s I =>
  (pw_and1 pt_w).run whole pins s σ H Q I (h.run L F0 H0 ρ D σ F H c D' r hf Q q)
theorem dw_or1 (h : DT X a ga) : DW X (.BoolOp .Or [a] pos) ga := .mk fun L F0 H0 ρ D σ F H c D' r hf Q q whole pins s I =>
  (pw_or1 pt_w).run whole pins s σ H Q I (h.run L F0 H0 ρ D σ F H c D' r hf Q q)
theorem dw_and (ha : DT X a ga) (hb : DW X (.BoolOp .And (b :: rest) pos) gb) : DW X (.BoolOp .And (a :: b :: rest) pos) (andT ga gb) := by
  refine .mk ?_
  intro L F0 H0 ρ D σ F H c D' r hf Q q whole pins s I
  obtain ⟨⟨x, D1⟩, e1, hf⟩ := bind_split hf
  refine (pw_and pt_w pw_w).run whole pins s σ H Q I (ha.run L F0 H0 ρ D σ F H _ _ r e1 _ fun F1 H1 t1 k1 => ?_)
  cases x with
  | true => exact iteT fun wh pins s I => hb.run L F0 H0 ρ D1 σ F1 H1 c D' (r.step t1 k1) hf Q (fun F2 H2 t2 k2 => q F2 H2 (t1.trans t2) k2) wh pins s I
  | false => cases hf; exact iteF (q F1 H1 t1 k1)
theorem dw_or (ha : DT X a ga) (hb : DW X (.BoolOp .Or (b :: rest) pos) gb) : DW X (.BoolOp .Or (a :: b :: rest) pos) (orT ga gb) := by
  refine .mk ?_
  intro L F0 H0 ρ D σ F H c D' r hf Q q whole pins s I
  obtain ⟨⟨x, D1⟩, e1, hf⟩ := bind_split hf
  refine (pw_or pt_w pw_w).run whole pins s σ H Q I (ha.run L F0 H0 ρ D σ F H _ _ r e1 _ fun F1 H1 t1 k1 => ?_)
  cases x with
  | false => exact iteF fun wh pins s I => hb.run L F0 H0 ρ D1 σ F1 H1 c D' (r.step t1 k1) hf Q (fun F2 H2 t2 k2 => q F2 H2 (t1.trans t2) k2) wh pins s I
  | true => cases hf; exact iteT (q F1 H1 t1 k1)
theorem dt_not (h : DT X a ga) : DT X (.UnaryOp .Not a pos) (notT ga) := by
  refine .mk ?_
  intro L F0 H0 ρ D σ F H c D' r hf Q q
  obtain ⟨⟨x, D1⟩, e1, hf⟩ := map_split hf
  cases hf
  exact PTw (pt_not pt_w) (h.run L F0 H0 ρ D σ F H _ _ r e1 _ q)
/-! .. as values -/
def andV (f g : FE) : FE := fun ρ D => (f ρ D).bind fun a => (truthD a.1).bind fun k => if k then g ρ a.2 else some a
def orV (f g : FE) : FE := fun ρ D => (f ρ D).bind fun a => (truthD a.1).bind fun k => if k then some a else g ρ a.2
def notV (f : FE) : FE := fun ρ D => (f ρ D).bind fun a => (truthD a.1).map fun k => (.bool (!k), a.2)
theorem de_one {op} (h : DE X a f) : DE X (.BoolOp op [a] pos) f := .mk fun L F0 H0 ρ D σ F H c D' r hf Q q => PEw (pe_one pe_w) (h.run L F0 H0 ρ D σ F H c D' r hf Q q)
theorem de_and (ha : DE X a fa) (hb : DE X (.BoolOp .And (b :: rest) pos) fb) : DE X (.BoolOp .And (a :: b :: rest) pos) (andV fa fb) := by
  refine .mk ?_
  intro L F0 H0 ρ D σ F H c D' r hf Q q
  obtain ⟨⟨x, D1⟩, e1, hf⟩ := bind_split hf
  obtain ⟨k, e2, hf⟩ := bind_split hf
  refine PEw (pe_andT pe_w pe_w) (ha.run L F0 H0 ρ D σ F H _ _ r e1 _ fun v F1 H1 t1 k1 hv => ⟨k, tru_of k1.sub hv e2, ?_⟩)
  cases k with
  | true => exact iteT (hb.run L F0 H0 ρ D1 σ F1 H1 c D' (r.step t1 k1) hf Q fun v F2 H2 t2 k2 => q v F2 H2 (t1.trans t2) k2)
  | false => cases hf; exact iteF (q v F1 H1 t1 k1 hv)
theorem de_or (ha : DE X a fa) (hb : DE X (.BoolOp .Or (b :: rest) pos) fb) : DE X (.BoolOp .Or (a :: b :: rest) pos) (orV fa fb) := by
  refine .mk ?_
  intro L F0 H0 ρ D σ F H c D' r hf Q q
  obtain ⟨⟨x, D1⟩, e1, hf⟩ := bind_split hf
  obtain ⟨k, e2, hf⟩ := bind_split hf
  refine PEw (pe_orT pe_w pe_w) (ha.run L F0 H0 ρ D σ F H _ _ r e1 _ fun v F1 H1 t1 k1 hv => ⟨k, tru_of k1.sub hv e2, ?_⟩)
  cases k with
  | false => exact iteF (hb.run L F0 H0 ρ D1 σ F1 H1 c D' (r.step t1 k1) hf Q fun v F2 H2 t2 k2 => q v F2 H2 (t1.trans t2) k2)
  | true => cases hf; exact iteT (q v F1 H1 t1 k1 hv)
theorem de_not (ha : DE X a fa) : DE X (.UnaryOp .Not a pos) (notV fa) := by
  refine .mk ?_
  intro L F0 H0 ρ D σ F H c D' r hf Q q
  obtain ⟨⟨x, D1⟩, e1, hf⟩ := bind_split hf
  obtain ⟨k, e2, hf⟩ := map_split hf
  cases hf
  exact PEw (pe_notT pe_w) (ha.run L F0 H0 ρ D σ F H _ _ r e1 _ fun v F1 H1 t1 k1 hv => ⟨k, tru_of k1.sub hv e2, q _ F1 H1 t1 k1 (.bl _)⟩)
def negI : PyData → Option PyData | .int i => some (.int (-i)) | _ => none
def unD (op : PyData → Option PyData) (f : FE) : FE := fun ρ D => (f ρ D).bind fun a => (op a.1).map fun z => (z, a.2)
theorem de_neg (ha : DE X a fa) : DE X (.UnaryOp .USub a pos) (unD negI fa) := by
  refine .mk ?_
  intro L F0 H0 ρ D σ F H c D' r hf Q q
  obtain ⟨⟨x, D1⟩, e1, hf⟩ := bind_split hf
  obtain ⟨z, e2, hf⟩ := map_split hf
  cases hf
  refine PEw (pe_un un_neg pe_w) (ha.run L F0 H0 ρ D σ F H _ _ r e1 _ fun v F1 H1 t1 k1 hv => ?_)
  match x, e2 with
  | .int i, e2 => cases e2; exact ⟨i, dp_int hv, q _ F1 H1 t1 k1 (.int _)⟩
def ifE (t : FT) (f g : FE) : FE := fun ρ D => (t ρ D).bind fun a => if a.1 then f ρ a.2 else g ρ a.2
theorem de_if (hc : DT X c ga) (ha : DE X a fa) (hb : DE X b fb) : DE X (.IfExp c a b pos) (ifE ga fa fb) := by
  refine .mk ?_
  intro L F0 H0 ρ D σ F H z D' r hf Q q
  obtain ⟨⟨x, D1⟩, e1, hf⟩ := bind_split hf
  refine PEw (pe_ifExp pt_w pe_w pe_w) (hc.run L F0 H0 ρ D σ F H _ _ r e1 _ fun F1 H1 t1 k1 => ?_)
  cases x with
  | true => exact iteT (ha.run L F0 H0 ρ D1 σ F1 H1 z D' (r.step t1 k1) hf Q fun v F2 H2 t2 k2 => q v F2 H2 (t1.trans t2) k2)
  | false => exact iteF (hb.run L F0 H0 ρ D1 σ F1 H1 z D' (r.step t1 k1) hf Q fun v F2 H2 t2 k2 => q v F2 H2 (t1.trans t2) k2)
/-- a < b < c -/
def chainD (o1 o2 : O2) (f g h : FE) : FE := fun ρ D => (f ρ D).bind fun a => (g ρ a.2).bind fun b => (o1 a.1 b.1).bind fun k => (asB k).bind fun t =>
  if t then (h ρ b.2).bind fun c => (o2 b.1 c.1).map fun z => (z, c.2) else some (.bool false, b.2)
theorem de_chain {op op' : CmpOp} {o1 o2 : O2} {fc : FE} (ho : OpS X (compareOp op) o1) (ho' : OpS X (compareOp op') o2) (ha : DE X a fa) (hb : DE X b fb) (hc : DE X c fc)
    (hm : lastMarks [op, op'] [b, c] = false := by with_unfolding_all rfl) : DE X (.Compare a [op, op'] [b, c] pos) (chainD o1 o2 fa fb fc) := by
  refine .mk ?_
  intro L F0 H0 ρ D σ F H z D' r hf Q q
  obtain ⟨⟨x, D1⟩, e1, hf⟩ := bind_split hf
  obtain ⟨⟨y, D2⟩, e2, hf⟩ := bind_split hf
  obtain ⟨k0, e3, hf⟩ := bind_split hf
  obtain ⟨t, e4, hg⟩ := bind_split hf
  have e5 := asB_some e4
  subst e5
  refine PEw (pe_chain ho ho' pe_w pe_w pe_w hm) (two ha hb r e1 e2 fun v u F2 H2 t2 k2 h1 h2 => ⟨L, D2, F2, x, y, _, k2, h1, h2, e3, fun w F3 H3 t3 k3 h3 => ?_⟩)
  cases h3
  refine ⟨t, rfl, ?_⟩
  cases t with
  | false =>
    rw [if_neg Bool.false_ne_true] at hg
    cases hg; exact iteF (q _ F3 H3 (t2.trans t3) k3 (.bl _))
  | true =>
    rw [if_pos rfl] at hg
    obtain ⟨⟨y3, D3⟩, e6, hg⟩ := bind_split hg
    obtain ⟨z', e7, hg⟩ := map_split hg
    cases hg
    exact iteT (hc.run L F0 H0 ρ D2 σ F3 H3 _ _ (r.step (t2.trans t3) k3) e6 _ fun w' F4 H4 t4 k4 h4 => ⟨L, _, F4, y, y3, _, k4, dp_mono (t3.ex.trans t4.ex) h2, h4, e7, fun w5 F5 H5 t5 k5 h5 => q w5 F5 H5 ((t2.trans t3).trans (t4.trans t5)) k5 h5⟩)
end
end Den

end
-- DenD
section
set_option Elab.async false
set_option linter.all false
set_option maxRecDepth 100000
set_option maxHeartbeats 1000000
namespace Den
open PySem PySem.Spec PyProof.Rows L2
variable [TB : Tabl]

/-! ### arguments, calls -/
def drwD (i : Nat) (D : Dw) (ρ : Env) : Option Unit := match ρ[i]? with
  | some (some .drw) => some ()
  | _ => none
def argN : FA := fun _ D => some ([], D)
def argD (f : FE) (g : FA) : FA := fun ρ D => (f ρ D).bind fun a => (g ρ a.2).map fun r => (.d a.1 :: r.1, r.2)
def argW (i : Nat) (g : FA) : FA := fun ρ D => (drwD i D ρ).bind fun _ => (g ρ D).map fun r => (.drw :: r.1, r.2)
abbrev Fn := List AV → Dw → Option (PyData × Dw)
/-- a def that does to data what φ says -/
def spOf (K : PySem.W.Frag) (n : Nat) (φ : Fn) : Sp := fun vs H Q _ => ∃ L D F as x D', vs.length = n ∧ Ok L D F H ∧ ArgsOk K L F vs as ∧ φ as D = some (x, D') ∧ ∀ v F' H', Stp L F H F' H' → Ok L D' F' H' → Dp K F' v x → Q v H'
def callD (φ : Fn) (f : FA) : FE := fun ρ D => (f ρ D).bind fun r => φ r.1 r.2
def callN (φ : Fn) : FE := fun _ D => φ [] D
section
variable {X : Cx} {a b c e : Expr} {es rest : List Expr} {fa fb f : FE} {g : FA} {pos p : Pos}
theorem da_nil : DA X [] argN := by
  refine .mk ?_
  intro L F0 H0 ρ D σ F H as D' r hf Q q
  cases hf
  exact PAw pa_nil (q [] F H Stp.refl r.ok .nil)
theorem da_d (ha : DE X e f) (hr : DA X es g) (hs : starEach (e :: es) X.env = (false, eval e X.env) :: starEach es X.env := by rfl) : DA X (e :: es) (argD f g) := by
  refine .mk ?_
  intro L F0 H0 ρ D σ F H as D' r hf Q q
  obtain ⟨⟨x, D1⟩, e1, hf⟩ := bind_split hf
  obtain ⟨⟨xs, D2⟩, e2, hf⟩ := map_split hf
  cases hf
  refine PAw (pa_cons pe_w pa_w hs) (ha.run L F0 H0 ρ D σ F H _ _ r e1 _ fun v F1 H1 t1 k1 hv => hr.run L F0 H0 ρ D1 σ F1 H1 _ _ (r.step t1 k1) e2 _ fun vs F2 H2 t2 k2 hvs => ?_)
  exact q _ F2 H2 (t1.trans t2) k2 (.cons (dp_mono t2.ex hv) hvs)
theorem da_w {i : Nat} {x : Str} (hr : DA X es g) (hN : X.N[i]? = some x := by rfl) (hv : Vis X.env.scope x := by first | exact Or.inl rfl | exact Or.inr (Or.inl rfl) | exact Or.inr (Or.inr rfl)) (hd : (x == ("__debug__" : Str)) = false := by decide)
    (hcd : (x == ("__classdict__" : Str)) = false := by decide) (hs : starEach (.Name x p :: es) X.env = (false, eval (.Name x p) X.env) :: starEach es X.env := by rfl) : DA X (.Name x p :: es) (argW i g) := by
  refine .mk ?_
  intro L F0 H0 ρ D σ F H as D' r hf Q q
  obtain ⟨_, e1, hf⟩ := bind_split hf
  obtain ⟨⟨xs, D2⟩, e2, hf⟩ := map_split hf
  cases hf
  unfold drwD at e1
  split at e1
  · rename_i hy
    obtain ⟨o, h1, ad, bd, h2, rfl⟩ := r.slot i _ hy
    exact PAw (pa_cons (pe_var hN hv hd hcd) pa_w hs) ⟨_, h1, hr.run L F0 H0 ρ D σ F H _ _ r e2 _ fun vs F2 H2 t2 k2 hvs => q _ F2 H2 t2 k2 (.cons ⟨ad, bd, h2, rfl⟩ hvs)⟩
  · cases e1
variable {k : Nat} {fd : FuncData} {ps : List Str} {φ : Fn} {n : Nat} {fa' : Addr} {x : Str}
theorem de_call {fx : Addr} (FO : FnOk X.prog X.w X.K X.mg X.base CX0 k fx fd ps (spOf X.K n φ)) (hr : Room k X.A) (hg : Gl X x) (hm : X.mg x = some (.ref fx)) (hk : PySem.W.keepIn X.K (.ref fx) = true) (hb : Binds X.K fd ps []) (ha : DA X (e :: es) g) (hl : (e :: es).length = n := by rfl)
    (hdb : (x == ("__debug__" : Str)) = false := by decide) (he : starEach (e :: es) X.env = (false, eval e X.env) :: starEach es X.env := by rfl) (hpl : (backTo pos (starEach es X.env)).any (·.1) = false := by rfl) (hlen : ∀ ρ D r, g ρ D = some r → r.1.length = (e :: es).length) :
    DE X (.Call (.Name x p) (e :: es) [] pos) (callD φ g) := by
  refine .mk ?_
  intro L F0 H0 ρ D σ F H z D' r hf Q q
  obtain ⟨⟨as, D1⟩, e1, hf⟩ := bind_split hf
  refine PEw (pe_call FO hr hg hm hk hb .nil pass0 pa_w hdb he hpl) (ha.run L F0 H0 ρ D σ F H _ _ r e1 _ fun vs F1 H1 t1 k1 hvs => ?_)
  refine ⟨L, D1, F1, as, z, D', ?_, k1, by rw [List.append_nil]; exact hvs, hf, fun v F2 H2 t2 k2 hv => q v F2 H2 (t1.trans t2) k2 hv⟩
  rw [List.append_nil, hvs.len, hlen ρ D _ e1, hl]
theorem de_call0 {fx : Addr} (FO : FnOk X.prog X.w X.K X.mg X.base CX0 k fx fd ps (spOf X.K 0 φ)) (hr : Room k X.A) (hg : Gl X x) (hm : X.mg x = some (.ref fx)) (hk : PySem.W.keepIn X.K (.ref fx) = true) (hb : Binds X.K fd ps [])
    (hdb : (x == ("__debug__" : Str)) = false := by decide) : DE X (.Call (.Name x p) [] [] pos) (callN φ) := by
  refine .mk ?_
  intro L F0 H0 ρ D σ F H z D' r hf Q q
  exact PEw (pe_call0 FO hr hg hm hk hb .nil pass0 hdb) ⟨L, D, F, [], z, D', rfl, r.ok, .nil, hf, q⟩
/-! how many arguments -/
def Len (g : FA) (n : Nat) : Prop := ∀ ρ D r, g ρ D = some r → r.1.length = n
theorem len_nil : Len argN 0 := fun ρ D r h => by cases h; rfl
theorem len_d {n : Nat} (h : Len g n) : Len (argD f g) (n + 1) := fun ρ D r hf => by
  obtain ⟨⟨x, D1⟩, e1, hf⟩ := bind_split hf
  obtain ⟨⟨xs, D2⟩, e2, hf⟩ := map_split hf
  cases hf
  have := h _ _ _ e2
  rw [List.length_cons]
  exact congrArg (· + 1) this
theorem len_w {i n : Nat} (h : Len g n) : Len (argW i g) (n + 1) := fun ρ D r hf => by
  obtain ⟨_, e1, hf⟩ := bind_split hf
  obtain ⟨⟨xs, D2⟩, e2, hf⟩ := map_split hf
  cases hf
  have := h _ _ _ e2
  rw [List.length_cons]
  exact congrArg (· + 1) this

/-! ### built-in functions -/
def allD : List AV → Option (List PyData)
  | [] => some []
  | .d x :: r => (allD r).map (x :: ·)
  | _ :: _ => none
theorem allD_ok {K : PySem.W.Frag} {L : Loc} {F : Hp} : ∀ {vs : List V} {as : List AV} {ds : List PyData}, ArgsOk K L F vs as → allD as = some ds → DpAll K F vs ds
  | _, _, _, .nil, h => by cases h; exact .nil
  | _, .d x :: r, ds, .cons h t, e => by
    obtain ⟨ds', e1, e2⟩ := map_split (show (allD r).map (x :: ·) = some ds from e)
    subst e2
    exact .cons h (allD_ok t e1)
abbrev On := List PyData → Option PyData
def rC (K : PySem.W.Frag) (op : On) : List V → Hp → VK → Prop := fun vs H Q => ∃ L D F ds dz, Ok L D F H ∧ DpAll K F vs ds ∧ op ds = some dz ∧ ∀ v F' H', Stp L F H F' H' → Ok L D F' H' → Dp K F' v dz → Q v H'
def CallS (X : Cx) (f : Value) (op : On) : Prop := CallR X f (rC X.K op)
theorem CallS.of {f : Value} {op : On} {r : List V → Hp → VK → Prop} (h : CallR X f r) (hr : ∀ xs H Q, rC X.K op xs H Q → r xs H Q) : CallS X f op := fun pins s σ H xs us Q I rx q => h pins s σ H xs us Q I rx (hr xs H Q q)
def biD (op : On) (g : FA) : FE := fun ρ D => (g ρ D).bind fun r => (allD r.1).bind fun ds => (op ds).map fun z => (z, r.2)
theorem de_biB {id : String} {op : On} (hc : CallS X (.builtin id) op) (hg : Gl X x) (hm : X.mg x = none) (hv : bootBuiltins x = some (.builtin id)) (ha : DA X (e :: es) g) (hn : x ≠ "__name__" := by decide) (hdb : (x == ("__debug__" : Str)) = false := by decide)
    (he : starEach (e :: es) X.env = (false, eval e X.env) :: starEach es X.env := by rfl) (hpl : (backTo pos (starEach es X.env)).any (·.1) = false := by rfl) : DE X (.Call (.Name x p) (e :: es) [] pos) (biD op g) := by
  refine .mk ?_
  intro L F0 H0 ρ D σ F H z D' r hf Q q
  obtain ⟨⟨as, D1⟩, e1, hf⟩ := bind_split hf
  obtain ⟨ds, e2, hf⟩ := bind_split hf
  obtain ⟨z', e3, hf⟩ := map_split hf
  cases hf
  exact PEw (pe_callB hc hg hm hv pa_w hn hdb he hpl) (ha.run L F0 H0 ρ D σ F H _ _ r e1 _ fun vs F1 H1 t1 k1 hvs => ⟨L, _, F1, ds, z, k1, allD_ok hvs e2, e3, fun v F2 H2 t2 k2 h => q v F2 H2 (t1.trans t2) k2 h⟩)
theorem de_biT {T : String} {op : On} (hc : CallS X (.type T) op) (hg : Gl X x) (hm : X.mg x = none) (hv : bootBuiltins x = some (.type T)) (ha : DA X (e :: es) g) (hn : x ≠ "__name__" := by decide) (hdb : (x == ("__debug__" : Str)) = false := by decide)
    (he : starEach (e :: es) X.env = (false, eval e X.env) :: starEach es X.env := by rfl) (hpl : (backTo pos (starEach es X.env)).any (·.1) = false := by rfl) : DE X (.Call (.Name x p) (e :: es) [] pos) (biD op g) := by
  refine .mk ?_
  intro L F0 H0 ρ D σ F H z D' r hf Q q
  obtain ⟨⟨as, D1⟩, e1, hf⟩ := bind_split hf
  obtain ⟨ds, e2, hf⟩ := bind_split hf
  obtain ⟨z', e3, hf⟩ := map_split hf
  cases hf
  exact PEw (pe_callTy hc hg hm hv pa_w hn hdb he hpl) (ha.run L F0 H0 ρ D σ F H _ _ r e1 _ fun vs F1 H1 t1 k1 hvs => ⟨L, _, F1, ds, z, k1, allD_ok hvs e2, e3, fun v F2 H2 t2 k2 h => q v F2 H2 (t1.trans t2) k2 h⟩)
def lenO : On
  | [.str s] => if s.length ≤ 1000000 then some (.int s.length) else none
  | [.list xs] => some (.int xs.length)
  | [.tuple xs] => some (.int xs.length)
  | _ => none
theorem dpa_one {K : PySem.W.Frag} {F : Hp} {vs : List V} {d : PyData} (h : DpAll K F vs [d]) : ∃ v, vs = [v] ∧ Dp K F v d := by
  cases h with
  | cons a b => cases b; exact ⟨_, rfl, a⟩
theorem dpa_two {K : PySem.W.Frag} {F : Hp} {vs : List V} {d d2 : PyData} (h : DpAll K F vs [d, d2]) : ∃ v u, vs = [v, u] ∧ Dp K F v d ∧ Dp K F u d2 := by
  cases h with
  | cons a b =>
    obtain ⟨u, rfl, c⟩ := dpa_one b
    exact ⟨_, _, rfl, a, c⟩
theorem cs_len : CallS X (.builtin "len") lenO := .of call_len fun xs H Q ⟨L, D, F, ds, dz, k, h1, e, q⟩ => by
  match ds, e with
  | [.str s], e =>
    obtain ⟨v, rfl, h⟩ := dpa_one h1
    have e : (if s.length ≤ 1000000 then some (PyData.int s.length) else none) = some dz := e
    split at e
    · rename_i hc
      cases e
      rw [dp_str h]
      exact ⟨_, _, rfl, ⟨big hc, rfl⟩, q _ F H Stp.refl k (.int _)⟩
    · cases e
  | [.list ys], e =>
    obtain ⟨v, rfl, h⟩ := dpa_one h1
    cases e
    obtain ⟨pp, vs, rfl, s1, a1⟩ := dp_list h
    exact ⟨_, _, rfl, .inl ⟨_, ex_l k.sub s1, (dpa_len a1).symm⟩, q _ F H Stp.refl k (.int _)⟩
  | [.tuple ys], e =>
    obtain ⟨v, rfl, h⟩ := dpa_one h1
    cases e
    obtain ⟨pp, vs, rfl, s1, a1⟩ := dp_tup h
    exact ⟨_, _, rfl, .inr ⟨_, ex_t k.sub s1, (dpa_len a1).symm⟩, q _ F H Stp.refl k (.int _)⟩
def ordO : On
  | [.str s] => if s.length = 1 then some (.int (s.cps.getD 0 0 : Nat)) else none
  | _ => none
theorem cs_ord : CallS X (.builtin "ord") ordO := .of call_ord fun xs H Q ⟨L, D, F, ds, dz, k, h1, e, q⟩ => by
  match ds, e with
  | [.str s], e =>
    obtain ⟨v, rfl, h⟩ := dpa_one h1
    have e : (if s.length = 1 then some (PyData.int (s.cps.getD 0 0 : Nat)) else none) = some dz := e
    split at e
    · rename_i hc
      cases e
      rw [dp_str h]
      exact ⟨_, rfl, hc, q _ F H Stp.refl k (.int _)⟩
    · cases e
def minO : On
  | [.int i, .int j] => some (.int (if j < i then j else i))
  | _ => none
theorem cs_min (hc : X.calm = true) : CallS X (.builtin "min") minO := .of (call_min2 hc) fun xs H Q ⟨L, D, F, ds, dz, k, h1, e, q⟩ => by
  match ds, e with
  | [.int i, .int j], e =>
    obtain ⟨v, u, rfl, h, h'⟩ := dpa_two h1
    cases e
    rw [dp_int h, dp_int h']
    exact ⟨i, j, rfl, q _ F H Stp.refl k (.int _)⟩
def intO : On
  | [.str s] => if s.length ≤ 640 then (PySem.intText? s).map .int else none
  | _ => none
theorem cs_int : CallS X (.type "int") intO := .of call_int_str fun xs H Q ⟨L, D, F, ds, dz, k, h1, e, q⟩ => by
  match ds, e with
  | [.str s], e =>
    obtain ⟨v, rfl, h⟩ := dpa_one h1
    have e : (if s.length ≤ 640 then (PySem.intText? s).map PyData.int else none) = some dz := e
    split at e
    · rename_i hc
      obtain ⟨n, e1, rfl⟩ := map_split e
      rw [dp_str h]
      exact ⟨_, _, rfl, e1, hc, q _ F H Stp.refl k (.int _)⟩
    · cases e
def tupO : On
  | [.list xs] => some (.tuple xs)
  | [.tuple xs] => some (.tuple xs)
  | _ => none
theorem cs_tup : CallS X (.type "tuple") tupO := .of call_tuple_of fun xs H Q ⟨L, D, F, ds, dz, k, h1, e, q⟩ => by
  match ds, e with
  | [.list ys], e =>
    obtain ⟨v, rfl, h⟩ := dpa_one h1
    cases e
    obtain ⟨pp, vs, rfl, s1, a1⟩ := dp_list h
    exact ⟨_, _, rfl, .inl ⟨ex_l k.sub s1, fun l hl => q _ _ _ (Stp.laid k.sub hl) (k.laid hl) (.tup (.inl (.inl upd_same)) (dpa_mono (Ex.new (k.sub.back hl)) a1))⟩⟩
  | [.tuple ys], e =>
    obtain ⟨v, rfl, h⟩ := dpa_one h1
    cases e
    obtain ⟨pp, vs, rfl, s1, a1⟩ := dp_tup h
    exact ⟨_, _, rfl, .inr ⟨ex_t k.sub s1, q _ F H Stp.refl k h⟩⟩
/-! over a list that is read -/
def boolsD : List PyData → Option (List Bool)
  | [] => some []
  | .bool b :: r => (boolsD r).map (b :: ·)
  | _ :: _ => none
theorem bools_ok {K : PySem.W.Frag} {F : Hp} : ∀ {vs : List V} {ds : List PyData} {bs : List Bool}, DpAll K F vs ds → boolsD ds = some bs → vs = bs.map V.bl
  | _, _, _, .nil, h => by cases h; rfl
  | _, .bool b :: r, bs, .cons h t, e => by
    obtain ⟨bs', e1, rfl⟩ := map_split (show (boolsD r).map (b :: ·) = some bs from e)
    rw [dp_bl h, bools_ok t e1]
    rfl
def allO (f : FL) : FE := fun ρ D => (f ρ D).bind fun r => (boolsD r.1).map fun bs => (.bool (bs.all id), r.2)
def anyO (f : FL) : FE := fun ρ D => (f ρ D).bind fun r => (boolsD r.1).map fun bs => (.bool (bs.any id), r.2)
theorem de_all {fl : FL} (hc : X.calm = true) (hg : Gl X "all") (hm : X.mg "all" = none) (hv : bootBuiltins "all" = some (.builtin "all")) (ha : DL X e fl)
    (he : starEach [e] X.env = (false, eval e X.env) :: starEach [] X.env := by rfl) (hpl : (backTo pos (starEach [] X.env)).any (·.1) = false := by rfl) : DE X (.Call (.Name "all" p) [e] [] pos) (allO fl) := by
  refine .mk ?_
  intro L F0 H0 ρ D σ F H z D' r hf Q q
  obtain ⟨⟨as, D1⟩, e1, hf⟩ := bind_split hf
  obtain ⟨bs, e2, hf⟩ := map_split hf
  cases hf
  refine PEw (pe_callB (cr_all hc) hg hm hv (pa_cons pe_w pa_nil he) (by decide) (by decide) he hpl) (ha.run L F0 H0 ρ D σ F H _ _ r e1 _ fun pp vs F1 H1 t1 k1 hl hvs => ⟨pp, bs, rfl, ?_, q _ F1 H1 t1 k1 (.bl _)⟩)
  rw [← bools_ok hvs e2]
  exact hl F1 H1 Stp.refl
def lenL (f : FL) : FE := fun ρ D => (f ρ D).map fun r => (.int r.1.length, r.2)
theorem de_lenL {fl : FL} (hg : Gl X "len") (hm : X.mg "len" = none) (ha : DL X e fl)
    (he : starEach [e] X.env = (false, eval e X.env) :: starEach [] X.env := by rfl) (hpl : (backTo pos (starEach [] X.env)).any (·.1) = false := by rfl) : DE X (.Call (.Name "len" p) [e] [] pos) (lenL fl) := by
  refine .mk ?_
  intro L F0 H0 ρ D σ F H z D' r hf Q q
  obtain ⟨⟨as, D1⟩, e1, hf⟩ := map_split hf
  cases hf
  exact PEw (pe_callB call_len hg hm PySem.boot_len (pa_cons pe_w pa_nil he) (by decide) (by decide) he hpl) (ha.run L F0 H0 ρ D σ F H _ _ r e1 _ fun pp vs F1 H1 t1 k1 hl hvs => ⟨_, _, rfl, .inl ⟨_, hl F1 H1 Stp.refl, (dpa_len hvs).symm⟩, q _ F1 H1 t1 k1 (.int _)⟩)
end
end Den

end
-- DenE
section
set_option Elab.async false
set_option linter.all false
set_option maxRecDepth 100000
set_option maxHeartbeats 1000000
namespace Den
open PySem PySem.Spec PyProof.Rows L2
variable [TB : Tabl]

/-! ### isinstance -/
def tyName : PyData → String
  | .none => "NoneType"
  | .bool _ => "bool"
  | .int _ => "int"
  | .str _ => "str"
  | .list _ => "list"
  | .tuple _ => "tuple"
  | .dict _ => "dict"
theorem dp_ty {K : PySem.W.Frag} {F H : Hp} {v : V} {d : PyData} (e : Ex F H) (h : Dp K F v d) : TyX K H v (.type (tyName d)) := by
  cases h with
  | non => exact .base .non
  | bl b => exact .base (.bl b)
  | int i => exact .base (.int i)
  | str x => exact .base (.str x)
  | lst h1 h2 =>
    rcases ex_l e h1 with (h | ⟨o, h⟩) | ⟨o, its, n, h, c, _⟩
    · exact .base (.lst h)
    · exact .base (.frz h)
    · exact .kList h c
  | tup h1 h2 =>
    rcases ex_t e h1 with (h | ⟨o, h⟩) | ⟨o, its, n, h, c, _⟩
    · exact .base (.tup h)
    · exact .fTuple h
    · exact .kTuple h c
def isTy (T : String) (d : PyData) : Bool := T == tyName d || (T == "int" && "bool" == tyName d)
def tyNames : List String := ["NoneType", "bool", "int", "str", "list", "tuple", "dict"]
theorem tyName_mem : ∀ d : PyData, tyName d ∈ tyNames
  | .none => by simp [tyNames, tyName]
  | .bool _ => by simp [tyNames, tyName]
  | .int _ => by simp [tyNames, tyName]
  | .str _ => by simp [tyNames, tyName]
  | .list _ => by simp [tyNames, tyName]
  | .tuple _ => by simp [tyNames, tyName]
  | .dict _ => by simp [tyNames, tyName]
/-- T is one of the plain types -/
def PlainTy (T : String) : Prop := ∀ n ∈ tyNames, kitB n T = some (T == n || (T == "int" && "bool" == n))
theorem plain_int : PlainTy "int" := by unfold PlainTy; decide +kernel
theorem plain_bool : PlainTy "bool" := by unfold PlainTy; decide +kernel
theorem plain_str : PlainTy "str" := by unfold PlainTy; decide +kernel
theorem plain_list : PlainTy "list" := by unfold PlainTy; decide +kernel
theorem plain_tuple : PlainTy "tuple" := by unfold PlainTy; decide +kernel
theorem plain_dict : PlainTy "dict" := by unfold PlainTy; decide +kernel
def isiD (T : String) (f : FE) : FE := fun ρ D => (f ρ D).map fun r => (.bool (isTy T r.1), r.2)
section
variable {X : Cx} {a b c e : Expr} {es rest : List Expr} {fa fb f : FE} {g : FA} {pos p : Pos}
theorem de_isi {T : String} {xT : Str} {pT : Pos} (hp : PlainTy T) (hg : Gl X "isinstance") (hm : X.mg "isinstance" = none) (hv : bootBuiltins "isinstance" = some (.builtin "isinstance")) (hgT : Gl X xT) (hmT : X.mg xT = none) (hvT : bootBuiltins xT = some (.type T)) (ha : DE X e f)
    (hn : xT ≠ "__name__" := by decide) (hdb : (xT == ("__debug__" : Str)) = false := by decide)
    (he : starEach [e, .Name xT pT] X.env = (false, eval e X.env) :: starEach [.Name xT pT] X.env := by rfl) (he2 : starEach [.Name xT pT] X.env = (false, eval (.Name xT pT) X.env) :: starEach [] X.env := by rfl)
    (hpl : (backTo pos (starEach [.Name xT pT] X.env)).any (·.1) = false := by rfl) : DE X (.Call (.Name "isinstance" p) [e, .Name xT pT] [] pos) (isiD T f) := by
  refine .mk ?_
  intro L F0 H0 ρ D σ F H z D' r hf Q q
  obtain ⟨⟨x, D1⟩, e1, hf⟩ := map_split hf
  cases hf
  refine PEw (pe_callB call_isi hg hm hv (pa_cons pe_w (pa_cons (pe_bltn (v := .ty T) hgT hmT hvT rfl hn hdb) pa_nil he2) he) (by decide) (by decide) he hpl) (ha.run L F0 H0 ρ D σ F H _ _ r e1 _ fun v F1 H1 t1 k1 hv => ?_)
  exact ⟨v, .ty T, .type (tyName x), .type T, _, rfl, .ty T, dp_ty k1.sub hv, kit_ty (hp _ (tyName_mem x)), q _ F1 H1 t1 k1 (.bl _)⟩

/-! ### methods of texts -/
def ms0 (gg : Str → PyData) : PyData → Option PyData
  | .str s => if s.length ≤ 1000000 then some (gg s) else none
  | _ => none
theorem de_ms0 {id : String} {name : Str} {apos : Pos} {C : Str → Prop} {gV : Str → V} {gg : Str → PyData} (slot : Slot "str" name id) (hty : typeOf (.builtin id) = pure (.type "method_descriptor"))
    (hm : MtR X id (fun x xs H Q => ∃ a, x = .str a ∧ xs = [] ∧ C a ∧ Q (gV a) H)) (hC : ∀ s : Str, s.length ≤ 1000000 → C s) (hd : ∀ K F s, Dp K F (gV s) (gg s)) (ha : DE X a f)
    (hbase : attributeBase a name X.env (eval a X.env) = eval a X.env := by rfl) (hline : (apos.endLine == pos.line) = true := by rfl) : DE X (.Call (.Attribute a name apos) [] [] pos) (unD (ms0 gg) f) := by
  refine .mk ?_
  intro L F0 H0 ρ D σ F H z D' r hf Q q
  obtain ⟨⟨x, D1⟩, e1, hf⟩ := bind_split hf
  obtain ⟨z', e2, hf⟩ := map_split hf
  cases hf
  refine PEw (pe_bm0 PySem.F.plainAttrs_str slot hty hm pe_w hbase hline) (ha.run L F0 H0 ρ D σ F H _ _ r e1 _ fun v F1 H1 t1 k1 hv => ?_)
  match x, e2 with
  | .str s, e2 =>
    have e2 : (if s.length ≤ 1000000 then some (gg s) else none) = some z := e2
    split at e2
    · rename_i hc
      cases e2
      rw [dp_str hv]
      exact ⟨rfl, s, rfl, rfl, hC s hc, q _ F1 H1 t1 k1 (hd _ _ _)⟩
    · cases e2
theorem small_line {s : Str} (h : s.length ≤ 1000000) : s.length ≤ 5592405 := Nat.le_trans h (by decide)
theorem de_isdigit {apos : Pos} (ha : DE X a f) (hbase : attributeBase a "isdigit" X.env (eval a X.env) = eval a X.env := by rfl) (hline : (apos.endLine == pos.line) = true := by rfl) :
    DE X (.Call (.Attribute a "isdigit" apos) [] [] pos) (unD (ms0 fun s => .bool (Txt.isdigit s)) f) := de_ms0 PySem.F.slot_str_isdigit PySem.F.type_str_isdigit mt_isdigit (fun _ _ => trivial) (fun _ _ _ => .bl _) ha hbase hline
theorem de_isalpha {apos : Pos} (ha : DE X a f) (hbase : attributeBase a "isalpha" X.env (eval a X.env) = eval a X.env := by rfl) (hline : (apos.endLine == pos.line) = true := by rfl) :
    DE X (.Call (.Attribute a "isalpha" apos) [] [] pos) (unD (ms0 fun s => .bool (Txt.isalpha s)) f) := de_ms0 PySem.F.slot_str_isalpha PySem.F.type_str_isalpha mt_isalpha (fun _ _ => trivial) (fun _ _ _ => .bl _) ha hbase hline
theorem de_islower {apos : Pos} (ha : DE X a f) (hbase : attributeBase a "islower" X.env (eval a X.env) = eval a X.env := by rfl) (hline : (apos.endLine == pos.line) = true := by rfl) :
    DE X (.Call (.Attribute a "islower" apos) [] [] pos) (unD (ms0 fun s => .bool (Txt.islower s)) f) := de_ms0 PySem.F.slot_str_islower PySem.F.type_str_islower mt_islower (fun _ _ => trivial) (fun _ _ _ => .bl _) ha hbase hline
theorem de_isupper {apos : Pos} (ha : DE X a f) (hbase : attributeBase a "isupper" X.env (eval a X.env) = eval a X.env := by rfl) (hline : (apos.endLine == pos.line) = true := by rfl) :
    DE X (.Call (.Attribute a "isupper" apos) [] [] pos) (unD (ms0 fun s => .bool (Txt.isupper s)) f) := de_ms0 PySem.F.slot_str_isupper PySem.F.type_str_isupper mt_isupper (fun _ _ => trivial) (fun _ _ _ => .bl _) ha hbase hline
theorem de_lower {apos : Pos} (ha : DE X a f) (hbase : attributeBase a "lower" X.env (eval a X.env) = eval a X.env := by rfl) (hline : (apos.endLine == pos.line) = true := by rfl) :
    DE X (.Call (.Attribute a "lower" apos) [] [] pos) (unD (ms0 fun s => .str (Txt.lower s)) f) := de_ms0 PySem.F.slot_str_lower PySem.F.type_str_lower mt_lower (fun _ h => small_line h) (fun _ _ _ => .str _) ha hbase hline
theorem de_upper {apos : Pos} (ha : DE X a f) (hbase : attributeBase a "upper" X.env (eval a X.env) = eval a X.env := by rfl) (hline : (apos.endLine == pos.line) = true := by rfl) :
    DE X (.Call (.Attribute a "upper" apos) [] [] pos) (unD (ms0 fun s => .str (Txt.upper s)) f) := de_ms0 PySem.F.slot_str_upper PySem.F.type_str_upper mt_upper (fun _ h => small_line h) (fun _ _ _ => .str _) ha hbase hline
/-- sep.join(a list of texts) -/
def strsD : List PyData → Option (List Str)
  | [] => some []
  | .str b :: r => (strsD r).map (b :: ·)
  | _ :: _ => none
theorem strs_ok {K : PySem.W.Frag} {F : Hp} : ∀ {vs : List V} {ds : List PyData} {bs : List Str}, DpAll K F vs ds → strsD ds = some bs → vs = bs.map V.str
  | _, _, _, .nil, h => by cases h; rfl
  | _, .str b :: r, bs, .cons h t, e => by
    obtain ⟨bs', e1, rfl⟩ := map_split (show (strsD r).map (b :: ·) = some bs from e)
    rw [dp_str h, strs_ok t e1]
    rfl
def asS : PyData → Option Str
  | .str s => some s
  | _ => none
theorem asS_some {x : PyData} {b : Str} (h : asS x = some b) : x = .str b := by
  cases x <;> simp [asS] at h
  rw [h]
def joinD (f : FE) (g : FL) : FE := fun ρ D => (f ρ D).bind fun a => (asS a.1).bind fun s => (g ρ a.2).bind fun r => (strsD r.1).bind fun ys =>
  if (ys.map (·.length)).sum + ys.length * s.length ≤ 1000000 then some (.str (Txt.join s ys), r.2) else none
theorem de_join {apos : Pos} {gl : FL} (ha : DE X a f) (hb : DL X e gl) (hbase : attributeBase a "join" X.env (eval a X.env) = eval a X.env := by rfl)
    (hfew : ((backTo pos (starEach [e] X.env)).all (fun x => !x.1) && (backToKw pos (keywordEach [] X.env)).all (fun x => x.1.isSome)
      && decide ([e].length + ([] : List Keyword).length + (if ([] : List Keyword).isEmpty then 0 else 1) < 30)) = true := by rfl)
    (hline : (apos.endLine == pos.line) = true := by rfl) (hs : starEach [e] X.env = (false, eval e X.env) :: starEach [] X.env := by rfl) (hplain : (backTo pos (starEach [] X.env)).any (·.1) = false := by rfl) :
    DE X (.Call (.Attribute a "join" apos) [e] [] pos) (joinD f gl) := by
  refine .mk ?_
  intro L F0 H0 ρ D σ F H z D' r hf Q q
  obtain ⟨⟨x, D1⟩, e1, hf⟩ := bind_split hf
  obtain ⟨s, e2, hf⟩ := bind_split hf
  obtain ⟨⟨xs, D2⟩, e3, hf⟩ := bind_split hf
  obtain ⟨ys, e4, hf⟩ := bind_split hf
  split at hf
  · rename_i hc
    cases hf
    have e5 := asS_some e2
    dsimp only at e5
    subst e5
    refine PEw (pe_bm PySem.F.plainAttrs_str PySem.F.slot_str_join PySem.F.type_str_join mt_join pe_w (pa_cons pe_w pa_nil hs) hbase hfew hline hs hplain) (ha.run L F0 H0 ρ D σ F H _ _ r e1 _ fun v F1 H1 t1 k1 hv => ?_)
    rw [dp_str hv]
    refine ⟨rfl, hb.run L F0 H0 ρ D1 σ F1 H1 _ _ (r.step t1 k1) e3 _ fun pp vs F2 H2 t2 k2 hl hvs => ?_⟩
    refine ⟨s, pp, ys, rfl, rfl, .inl ?_, Nat.le_trans hc (by decide), q _ F2 H2 (t1.trans t2) k2 (.str _)⟩
    rw [← strs_ok hvs e4]
    exact hl F2 H2 Stp.refl
  · cases hf

/-! ### subscripts -/
def IxS (X : Cx) (op : O2) : Prop := IxR X (rOf X.K op)
theorem IxS.of {op : O2} {r : R2} (h : IxR X r) (hr : ∀ x y H Q, rOf X.K op x y H Q → r x y H Q) : IxS X op :=
  fun value slice pins s σ H x y v u Q I rx ry q hs => h value slice pins s σ H x y v u Q I rx ry (hr x y H Q q) hs
theorem IxS.or {a b : O2} (ha : IxS X a) (hb : IxS X b) : IxS X (orO a b) := by
  intro value slice pins s σ H x y v u Q I rx ry ⟨L, D, F, dx, dy, dz, k, h1, h2, e, q⟩ hs
  unfold orO at e
  cases e1 : a dx dy with
  | none =>
    rw [e1] at e
    exact hb value slice pins s σ H x y v u Q I rx ry ⟨L, D, F, dx, dy, dz, k, h1, h2, e, q⟩ hs
  | some z =>
    rw [e1] at e
    cases e
    exact ha value slice pins s σ H x y v u Q I rx ry ⟨L, D, F, dx, dy, _, k, h1, h2, e1, q⟩ hs
theorem de_ix {o : O2} (ho : IxS X o) (ha : DE X a fa) (hb : DE X b fb) (hs : PlainIx b) : DE X (.Subscript a b pos) (binD o fa fb) := by
  refine .mk ?_
  intro L F0 H0 ρ D σ F H z D' r hf Q q
  obtain ⟨x, D1, y, e1, e2, e3⟩ := bin_split hf
  exact PEw (pe_ix ho pe_w pe_w hs) (two ha hb r e1 e2 fun v u F' H' t k h1 h2 => ⟨L, D', F', x, y, z, k, h1, h2, e3, fun w F2 H2 t2 k2 h3 => q w F2 H2 (t.trans t2) k2 h3⟩)
def ixL : O2 | .list xs, .int i => atI xs i | _, _ => none
def ixT : O2 | .tuple xs, .int i => atI xs i | _, _ => none
def ixS : O2 | .str s, .int i => if s.length ≤ 1000000 then (atI s.cps.toList i).map fun c => .str ⟨#[c]⟩ else none | _, _ => none
theorem atI_dp {K : PySem.W.Frag} {F : Hp} {vs : List V} {ds : List PyData} {i : Int} {d : PyData} (h : DpAll K F vs ds) (e : atI ds i = some d) : ∃ v, atI vs i = some v ∧ Dp K F v d := by
  unfold atI at e ⊢
  rw [dpa_len h]
  obtain ⟨j, e1, e2⟩ := bind_split e
  obtain ⟨v, e3, e4⟩ := dpa_getD h e2
  exact ⟨v, by rw [e1]; exact e3, e4⟩
theorem is_list : IxS X ixL := .of ix_list fun x y H Q ⟨L, D, F, dx, dy, dz, k, h1, h2, e, q⟩ => by
  match dx, dy, e with
  | .list ys, .int i, e =>
    obtain ⟨pp, vs, rfl, s1, a1⟩ := dp_list h1
    obtain ⟨v, e3, e4⟩ := atI_dp a1 e
    exact ⟨pp, vs, i, v, rfl, dp_int h2, ex_l k.sub s1, e3, q _ F H Stp.refl k e4⟩
theorem is_tup : IxS X ixT := .of ix_tup fun x y H Q ⟨L, D, F, dx, dy, dz, k, h1, h2, e, q⟩ => by
  match dx, dy, e with
  | .tuple ys, .int i, e =>
    obtain ⟨pp, vs, rfl, s1, a1⟩ := dp_tup h1
    obtain ⟨v, e3, e4⟩ := atI_dp a1 e
    exact ⟨pp, vs, i, v, rfl, dp_int h2, ex_t k.sub s1, e3, q _ F H Stp.refl k e4⟩
theorem is_str : IxS X ixS := .of ix_str fun x y H Q ⟨L, D, F, dx, dy, dz, k, h1, h2, e, q⟩ => by
  match dx, dy, e with
  | .str s, .int i, e =>
    have e : (if s.length ≤ 1000000 then (atI s.cps.toList i).map fun c => PyData.str ⟨#[c]⟩ else none) = some dz := e
    split at e
    · rename_i hc
      obtain ⟨c, e1, rfl⟩ := map_split e
      exact ⟨s, i, c, dp_str h1, dp_int h2, big hc, e1, q _ F H Stp.refl k (.str _)⟩
    · cases e
def asI : PyData → Option Int
  | .int s => some s
  | _ => none
theorem asI_some {x : PyData} {b : Int} (h : asI x = some b) : x = .int b := by
  cases x <;> simp [asI] at h
  rw [h]
/-- an own list's item -/
def ixLL (f : FL) (g : FE) : FE := fun ρ D => (f ρ D).bind fun a => (g ρ a.2).bind fun b => (asI b.1).bind fun i => (atI a.1 i).map fun z => (z, b.2)
theorem de_ixL {fl : FL} (ha : DL X a fl) (hb : DE X b fb) (hs : PlainIx b) : DE X (.Subscript a b pos) (ixLL fl fb) := by
  refine .mk ?_
  intro L F0 H0 ρ D σ F H z D' r hf Q q
  obtain ⟨⟨xs, D1⟩, e1, hf⟩ := bind_split hf
  obtain ⟨⟨y, D2⟩, e2, hf⟩ := bind_split hf
  obtain ⟨i, e6, hf⟩ := bind_split hf
  obtain ⟨z', e3, hf⟩ := map_split hf
  cases hf
  have e7 := asI_some e6
  dsimp only at e7
  subst e7
  refine PEw (pe_ix ix_list pe_w pe_w hs) (ha.run L F0 H0 ρ D σ F H _ _ r e1 _ fun pp vs F1 H1 t1 k1 hl hvs => ?_)
  refine hb.run L F0 H0 ρ D1 σ F1 H1 _ _ (r.step t1 k1) e2 _ fun u F2 H2 t2 k2 hu => ?_
  obtain ⟨v, e4, e5⟩ := atI_dp hvs e3
  exact ⟨pp, vs, i, v, rfl, dp_int hu, hl F2 H2 t2, e4, q v F2 H2 (t1.trans t2) k2 (dp_mono t2.ex e5)⟩

/-! ### slices -/
def partD : Option FE → Env → Dw → Option (Option Int × Dw)
  | none, _, D => some (none, D)
  | some f, ρ, D => (f ρ D).bind fun a => (asI a.1).map fun i => (some i, a.2)
variable (X) in
def tWO (e : Option Expr) : TO := fun σ H Q => ∀ pins s, Inv X pins σ H s → wpAny (model X.prog X.w) X.A (evalPart e X.env) (fun u s' => ∃ o H', Inv X pins σ H' s' ∧ IsPart u o ∧ Q o H') X.xe s
theorem po_w {oe : Option Expr} : PO X oe (tWO X oe) := ⟨fun pins s σ H Q I h => h pins s I⟩
variable (X) in
structure DP (e : Option Expr) (f : Option FE) : Prop where
  run : ∀ L F0 H0 ρ D σ F H x D', Rep X.K L F0 H0 ρ D σ F H → partD f ρ D = some (x, D') → ∀ Q : Option Int → Hp → Prop, (∀ F' H', Stp L F H F' H' → Ok L D' F' H' → Q x H') → tWO X e σ H Q
theorem dp_none : DP X none none := .mk fun L F0 H0 ρ D σ F H x D' r hf Q q pins s I => by
  cases hf
  exact po_none.run pins s σ H Q I (q F H Stp.refl r.ok)
theorem dp_some (h : DE X e f) : DP X (some e) (some f) := .mk fun L F0 H0 ρ D σ F H x D' r hf Q q pins s I => by
  obtain ⟨⟨y, D2⟩, e2, hf⟩ := bind_split (show ((f ρ D).bind fun a => (asI a.1).map fun i => (some i, a.2)) = some (x, D') from hf)
  obtain ⟨i, e3, hf⟩ := map_split hf
  cases hf
  have e7 := asI_some e3
  dsimp only at e7
  subst e7
  exact (po_some pe_w).run pins s σ H Q I (h.run L F0 H0 ρ D σ F H _ _ r e2 _ fun u F2 H2 t2 k2 hu => ⟨i, dp_int hu, q F2 H2 t2 k2⟩)
def cutD (xs : List PyData) (lo hi : Option Int) : List PyData := (xs.drop (HT.sIx xs.length 0 lo)).take (HT.sIx xs.length xs.length hi - HT.sIx xs.length 0 lo)
theorem cut_dp {K : PySem.W.Frag} {F : Hp} {vs : List V} {ds : List PyData} {lo hi : Option Int} (h : DpAll K F vs ds) : DpAll K F (cutV vs lo hi) (cutD ds lo hi) := by
  unfold cutV cutD
  rw [dpa_len h]
  exact dpa_take _ (dpa_drop _ h)
def slO (x : PyData) (lo hi : Option Int) : Option PyData := match x with
  | .str s => if s.length ≤ 1000000 then some (.str (cutS s lo hi)) else none
  | .list xs => some (.list (cutD xs lo hi))
  | .tuple xs => if HT.sIx xs.length 0 lo = 0 ∧ HT.sIx xs.length xs.length hi = xs.length then none else some (.tuple (cutD xs lo hi))
  | _ => none
def slD (f : FE) (lo hi : Option FE) : FE := fun ρ D => (f ρ D).bind fun a => (partD lo ρ a.2).bind fun l => (partD hi ρ l.2).bind fun h => (slO a.1 l.1 h.1).map fun z => (z, h.2)
def rSlO (K : PySem.W.Frag) : V → Option Int → Option Int → Hp → VK → Prop := fun x lo hi H Q => ∃ L D F dx dz, Ok L D F H ∧ Dp K F x dx ∧ slO dx lo hi = some dz ∧ ∀ v F' H', Stp L F H F' H' → Ok L D F' H' → Dp K F' v dz → Q v H'
theorem sl_all : SlR X (rSlO X.K) := by
  intro pins s σ H x v vl vu lo hi sl Q I rx hs pl pu h
  obtain ⟨L, D, F, dx, dz, k, h1, e, q⟩ := h
  match dx, e with
  | .str z, e =>
    have e : (if z.length ≤ 1000000 then some (PyData.str (cutS z lo hi)) else none) = some dz := e
    split at e
    · rename_i hc
      cases e
      exact sl_str pins s σ H x v vl vu lo hi sl Q I rx hs pl pu ⟨z, dp_str h1, big hc, q _ F H Stp.refl k (.str _)⟩
    · cases e
  | .list ys, e =>
    cases e
    obtain ⟨pp, vs, rfl, s1, a1⟩ := dp_list h1
    exact sl_list pins s σ H _ v vl vu lo hi sl Q I rx hs pl pu ⟨pp, vs, rfl, ex_l k.sub s1, fun l hl => q _ _ _ (Stp.laid k.sub hl) (k.laid hl) (.lst (.inl (.inl upd_same)) (dpa_mono (Ex.new (k.sub.back hl)) (cut_dp a1)))⟩
  | .tuple ys, e =>
    have e : (if HT.sIx ys.length 0 lo = 0 ∧ HT.sIx ys.length ys.length hi = ys.length then none else some (PyData.tuple (cutD ys lo hi))) = some dz := e
    split at e
    · cases e
    · rename_i hc
      cases e
      obtain ⟨pp, vs, rfl, s1, a1⟩ := dp_tup h1
      exact sl_tup pins s σ H _ v vl vu lo hi sl Q I rx hs pl pu ⟨pp, vs, rfl, ex_t k.sub s1, by rw [dpa_len a1]; exact hc, fun l hl => q _ _ _ (Stp.laid k.sub hl) (k.laid hl) (.tup (.inl (.inl upd_same)) (dpa_mono (Ex.new (k.sub.back hl)) (cut_dp a1)))⟩
variable {lo hi : Option Expr} {p2 : Pos}
theorem de_slice {fl fh : Option FE} (ha : DE X a fa) (hl : DP X lo fl) (hh : DP X hi fh) : DE X (.Subscript a (.Slice lo hi none p2) pos) (slD fa fl fh) := by
  refine .mk ?_
  intro L F0 H0 ρ D σ F H z D' r hf Q q
  obtain ⟨⟨x, D1⟩, e1, hf⟩ := bind_split hf
  obtain ⟨⟨l, D2⟩, e2, hf⟩ := bind_split hf
  obtain ⟨⟨h, D3⟩, e3, hf⟩ := bind_split hf
  obtain ⟨z', e4, hf⟩ := map_split hf
  cases hf
  refine PEw (pe_slice sl_all pe_w po_w po_w) (ha.run L F0 H0 ρ D σ F H _ _ r e1 _ fun v F1 H1 t1 k1 hv => ?_)
  refine hl.run L F0 H0 ρ D1 σ F1 H1 _ _ (r.step t1 k1) e2 _ fun F2 H2 t2 k2 => ?_
  refine hh.run L F0 H0 ρ D2 σ F2 H2 _ _ ((r.step t1 k1).step t2 k2) e3 _ fun F3 H3 t3 k3 => ?_
  exact ⟨L, _, F3, x, z, k3, dp_mono (t2.ex.trans t3.ex) hv, e4, fun w F4 H4 t4 k4 h4 => q w F4 H4 ((t1.trans t2).trans (t3.trans t4)) k4 h4⟩
end

/-! ### displays, lists from texts, sums of lists -/
section
variable {X : Cx} {a b c e : Expr} {es rest : List Expr} {fa fb f : FE} {g : FA} {pos p : Pos}
def tupD (g : FA) : FE := fun ρ D => (g ρ D).bind fun r => (allD r.1).bind fun ds => if ds.length ≤ 1000000 then some (.tuple ds, r.2) else none
def dispD (g : FA) : FL := fun ρ D => (g ρ D).bind fun r => (allD r.1).bind fun ds => if ds.length ≤ 1000000 then some (ds, r.2) else none
theorem de_tup {k} (ha : DA X es g) : DE X (.Tuple es k pos) (tupD g) := by
  refine .mk ?_
  intro L F0 H0 ρ D σ F H z D' r hf Q q
  obtain ⟨⟨as, D1⟩, e1, hf⟩ := bind_split hf
  obtain ⟨ds, e2, hf⟩ := bind_split hf
  split at hf
  · rename_i hc
    cases hf
    refine PEw (pe_tup pa_w) (ha.run L F0 H0 ρ D σ F H _ _ r e1 _ fun vs F1 H1 t1 k1 hvs => ?_)
    have ha := allD_ok hvs e2
    refine ⟨big (by rw [dpa_len ha]; exact hc), fun p hp => q _ _ _ (t1.trans (Stp.laid k1.sub hp)) (k1.laid hp) (.tup (.inl (.inl upd_same)) (dpa_mono (Ex.new (k1.sub.back hp)) ha))⟩
  · cases hf
theorem dn_lst (ha : DA X es g) : DN X (.List es pos) (dispD g) := by
  refine .mk ?_
  intro L F0 H0 ρ D σ F H z D' r hf Q q
  obtain ⟨⟨as, D1⟩, e1, hf⟩ := bind_split hf
  obtain ⟨ds, e2, hf⟩ := bind_split hf
  split at hf
  · rename_i hc
    cases hf
    refine PEw (pe_lst pa_w) (ha.run L F0 H0 ρ D σ F H _ _ r e1 _ fun vs F1 H1 t1 k1 hvs => ?_)
    have ha := allD_ok hvs e2
    refine ⟨big (by rw [dpa_len ha]; exact hc), fun p hp => ?_⟩
    have hHp : H p = none := by
      cases hh : H p with
      | none => rfl
      | some u => exact absurd hp (t1.low p (by rw [hh]; exact fun z => nomatch z))
    exact q p vs F1 (upd H1 p (.lst vs)) (t1.trans (Stp.fresh hp)) (k1.fresh hp) hHp (k1.sub.back hp) upd_same ha
  · cases hf
theorem back_none {L : Loc} {F H F' H' : Hp} (t : Stp L F H F' H') {p : Addr} (h : H' p = none) : H p = none := by
  cases hh : H p with
  | none => rfl
  | some u => exact absurd h (t.low p (by rw [hh]; exact fun z => nomatch z))
/-- a text's sgs -/
def sgs (z : Str) : List PyData := z.cps.toList.map fun c => .str ⟨#[c]⟩
theorem signs_dp {K : PySem.W.Frag} {F : Hp} : ∀ l : List Nat, DpAll K F (l.map fun c => V.str ⟨#[c]⟩) (l.map fun c => PyData.str ⟨#[c]⟩)
  | [] => .nil
  | c :: l => .cons (.str _) (signs_dp l)
theorem call_list_signs (hc : X.calm = true) : CallR X (.type "list") (fun xs H Q => ∃ z : Str, xs = [V.str z] ∧ z.cps.size ≤ sizeLine ∧ ∀ l, H l = none → Q (.ref l) (upd H l (.lst (z.cps.toList.map fun c => V.str ⟨#[c]⟩)))) := by
  intro pins s σ H xs us Q I r h
  obtain ⟨z, rfl, hz, q⟩ := h
  obtain ⟨u, rfl, rx⟩ := vals1 r
  obtain ⟨t, rfl⟩ := rx
  refine call_list_str (I.ok.hd hc) z t (fun h' tk acc c hk hl hi => ?_) hz
  have hn : H s.heap.objs.size = none := I.hok.fresh (Nat.le_refl _)
  obtain ⟨h1, h2⟩ := hi
  have hv : Vals (z.cps.toList.map fun c => V.str ⟨#[c]⟩) acc.toList := by
    have key : ∀ (l : List Nat) (us : List Value), us.length = l.length → (∀ (j : Nat) (v : Value), us[j]? = some v → ∃ (c : Nat) (u : Tok), l[j]? = some c ∧ v = Value.str ⟨#[c]⟩ u) → Vals (l.map fun c => V.str ⟨#[c]⟩) us := by
      intro l
      induction l with
      | nil => intro us hl _; cases us with
        | nil => exact .nil
        | cons _ _ => simp at hl
      | cons c l ih =>
        intro us hl hu
        cases us with
        | nil => simp at hl
        | cons u us =>
          refine .cons ?_ (ih us (by simpa using hl) fun j v hj => ?_)
          · obtain ⟨c', t', e1, e2⟩ := hu 0 u rfl
            have e1 : c = c' := by simpa using e1
            subst e1
            exact ⟨t', e2⟩
          · obtain ⟨c', t', e1, e2⟩ := hu (j + 1) v (by simpa using hj)
            exact ⟨c', t', by simpa using e1, e2⟩
    refine key _ _ (by simp [h1]) fun j v hj => ?_
    obtain ⟨c, u, e1, e2⟩ := h2 j v (by simpa using hj)
    exact ⟨c, u, by simpa using e1, e2⟩
  refine ⟨.ref s.heap.objs.size, _, I.laid (t' := tk) hk (Nat.le_refl _) ?_, rfl, q _ hn⟩
  exact ⟨by rw [List.length_map]; simpa using hz, acc.toList, c, hv, by simpa using hl⟩
def lsO (f : FE) : FL := fun ρ D => (f ρ D).bind fun r => match r.1 with
  | .str s => if s.length ≤ 1000000 then some (sgs s, r.2) else none
  | .list xs => some (xs, r.2)
  | .tuple xs => some (xs, r.2)
  | _ => none
theorem dn_list (hcalm : X.calm = true) (hg : Gl X "list") (hm : X.mg "list" = none) (hv : bootBuiltins "list" = some (.type "list")) (ha : DE X e f)
    (he : starEach [e] X.env = (false, eval e X.env) :: starEach [] X.env := by rfl) (hpl : (backTo pos (starEach [] X.env)).any (·.1) = false := by rfl) : DN X (.Call (.Name "list" p) [e] [] pos) (lsO f) := by
  refine .mk ?_
  intro L F0 H0 ρ D σ F H z D' r hf Q q
  obtain ⟨⟨x, D1⟩, e1, hf⟩ := bind_split hf
  match x, hf with
  | .str s, hf =>
    have hf : (if s.length ≤ 1000000 then some (sgs s, D1) else none) = some (z, D') := hf
    split at hf
    · rename_i hc
      cases hf
      refine PEw (pe_callTy (call_list_signs hcalm) hg hm hv (pa_cons pe_w pa_nil he) (by decide) (by decide) he hpl) (ha.run L F0 H0 ρ D σ F H _ _ r e1 _ fun v F1 H1 t1 k1 hv => ?_)
      rw [dp_str hv]
      exact ⟨s, rfl, big hc, fun l hl => q l _ F1 _ (t1.trans (Stp.fresh hl)) (k1.fresh hl) (back_none t1 hl) (k1.sub.back hl) upd_same (signs_dp _)⟩
    · cases hf
  | .list ys, hf =>
    cases hf
    refine PEw (pe_callTy call_list_of hg hm hv (pa_cons pe_w pa_nil he) (by decide) (by decide) he hpl) (ha.run L F0 H0 ρ D σ F H _ _ r e1 _ fun v F1 H1 t1 k1 hv => ?_)
    obtain ⟨pp, vs, rfl, s1, a1⟩ := dp_list hv
    exact ⟨pp, vs, rfl, .inl (ex_l k1.sub s1), fun l hl => q l _ F1 _ (t1.trans (Stp.fresh hl)) (k1.fresh hl) (back_none t1 hl) (k1.sub.back hl) upd_same a1⟩
  | .tuple ys, hf =>
    cases hf
    refine PEw (pe_callTy call_list_of hg hm hv (pa_cons pe_w pa_nil he) (by decide) (by decide) he hpl) (ha.run L F0 H0 ρ D σ F H _ _ r e1 _ fun v F1 H1 t1 k1 hv => ?_)
    obtain ⟨pp, vs, rfl, s1, a1⟩ := dp_tup hv
    exact ⟨pp, vs, rfl, .inr (ex_t k1.sub s1), fun l hl => q l _ F1 _ (t1.trans (Stp.fresh hl)) (k1.fresh hl) (back_none t1 hl) (k1.sub.back hl) upd_same a1⟩

/-- the sum of two lists, wherever they stand -/
def rCatA (K : PySem.W.Frag) : R2 := fun x y H Q => ∃ l b xs zs, x = .ref l ∧ y = .ref b ∧ SqL K H l xs ∧ SqL K H b zs ∧ xs.length + zs.length ≤ sizeLine ∧ ∀ p, H p = none → Q (.ref p) (upd H p (.lst (xs ++ zs)))
theorem op_catA : OpR X (binaryOp .Add) (rCatA X.K) := by
  intro pins s σ H x y v u Q I rx ry h
  obtain ⟨l, b, xs, zs, rfl, rfl, hx, hz, hs, q⟩ := h
  cases rx
  cases ry
  obtain ⟨its, r1, ⟨⟨cls, dd, data, sl⟩, n, ho, hc, hd0, hd⟩, _⟩ := I.list hx
  obtain ⟨its2, r2, ⟨⟨cls2, dd2, data2, sl2⟩, n2, ho2, hc2, hd02, hd2⟩, _⟩ := I.list hz
  simp only at hc hd hc2 hd2
  subst hc hd hc2 hd2
  have l1 := r1.length
  have l2 := r2.length
  refine concat_meets ⟨_, ho, rfl⟩ ⟨_, ho2, rfl⟩ noFill_list_add seq_list_add PySem.F.slot_list_add PySem.F.entry_list_add (PySem.F.args_list_add_2 _ _) (list_addW l b its.toArray its2.toArray n n2 dd dd2 sl sl2 (by simp only [List.size_toArray]; omega)) ⟨ho, ho2, ?_⟩
  have ea : its.toArray ++ its2.toArray = (its ++ its2).toArray := by simp
  rw [ea]
  exact ⟨.ref _, _, I.lnew (t' := s.toks) (r1.append r2) (by rw [List.length_append]; omega), rfl, q _ I.fresh⟩
theorem os_addL : OpS X (binaryOp .Add) addL := .of op_catA fun x y H Q ⟨L, D, F, dx, dy, dz, k, h1, h2, e, q⟩ => by
  match dx, dy, e with
  | .list a, .list b, e =>
    have e : (if a.length + b.length ≤ 1000000 then some (PyData.list (a ++ b)) else none) = some dz := e
    split at e
    · rename_i hc
      cases e
      obtain ⟨p, vs, rfl, s1, a1⟩ := dp_list h1
      obtain ⟨p2, ws, rfl, s2, a2⟩ := dp_list h2
      have l1 := dpa_len a1
      have l2 := dpa_len a2
      exact ⟨p, p2, vs, ws, rfl, rfl, ex_l k.sub s1, ex_l k.sub s2, big (by rw [l1, l2]; exact hc), fun t ht => q _ _ _ (Stp.laid k.sub ht) (k.laid ht) (.lst (.inl (.inl upd_same)) (dpa_mono (Ex.new (k.sub.back ht)) (dpa_app a1 a2)))⟩
    · cases e
/-- + by the kinds -/
def addO : O2 := orO addI (orO addS (orO addT addL))
theorem os_add : OpS X (binaryOp .Add) addO := .or os_addI (.or os_addS (.or os_addT os_addL))
def ixO : O2 := orO ixL (orO ixT ixS)
theorem is_ix : IxS X ixO := .or is_list (.or is_tup is_str)
end
end Den

end
-- DenF
section
set_option Elab.async false
set_option linter.all false
set_option maxRecDepth 100000
set_option maxHeartbeats 1000000
namespace Den
open PySem PySem.Spec PyProof.Rows L2
variable [TB : Tabl]

/-! ### statements -/
def thenO (o : Out) (k : FS) : Option Out := match o with
  | .nx ρ D => k ρ D
  | o => some o
def stepO (o : Out) (k : FS) : Option Out := match o with
  | .nx ρ D => k ρ D
  | .ct ρ D => k ρ D
  | .bk ρ D => some (.nx ρ D)
  | .rt x D => some (.rt x D)
def seqS (g1 g2 : FS) : FS := fun ρ D => (g1 ρ D).bind fun o => thenO o g2
def nxS : FS := fun ρ D => some (.nx ρ D)
def asgS (i : Nat) (f : FE) : FS := fun ρ D => (f ρ D).map fun r => .nx (ρ.set i (some (.d r.1))) r.2
def asgO (i : Nat) (f : FL) : FS := fun ρ D => (f ρ D).map fun r => .nx (ρ.set i (some (.own r.1))) r.2
def retS (f : FE) : FS := fun ρ D => (f ρ D).map fun r => .rt r.1 r.2
def retN : FS := fun ρ D => some (.rt .none D)
def ifS (t : FT) (g1 g2 : FS) : FS := fun ρ D => (t ρ D).bind fun r => if r.1 then g1 ρ r.2 else g2 ρ r.2
def noS : FS := fun _ _ => none
def dropS (f : FE) : FS := fun ρ D => (f ρ D).map fun r => .nx ρ r.2
/-- an own list becomes data, ahead of a statement -/
def frzS (i : Nat) (g : FS) : FS := fun ρ D => (ownD i ρ D).bind fun r => g (ρ.set i (some (.d (.list r.1)))) D
def appS (i : Nat) (f : FE) : FS := fun ρ D => (f ρ D).bind fun r => (ownD i ρ r.2).bind fun o => if o.1.length < 1000000 then some (.nx (ρ.set i (some (.own (o.1 ++ [r.1])))) r.2) else none
def setS (i : Nat) (fi f : FE) : FS := fun ρ D => (f ρ D).bind fun r => (ownD i ρ r.2).bind fun o => (fi ρ r.2).bind fun b => (asI b.1).bind fun n => (ixN o.1.length n).map fun j => .nx (ρ.set i (some (.own (o.1.set j r.1)))) b.2
section
variable {X : Cx} {a b c e : Expr} {es rest : List Expr} {st : Stmt} {sts : List Stmt} {fa fb f : FE} {g : FA} {g1 g2 : FS} {pos p : Pos}
theorem Good.weak {K : PySem.W.Frag} {L : Loc} {F0 H0 : Hp} {E : Ends} {o : Out} {nx : L2.St → Hp → Prop} (h : Good K L F0 H0 E o) (hn : ∀ ρ D, o = .nx ρ D → ∀ σ F H, Rep K L F0 H0 ρ D σ F H → nx σ H) : Good K L F0 H0 { E with nx := nx } o := by
  cases o with
  | nx ρ D => exact hn ρ D rfl
  | rt x D => exact h
  | bk ρ D => exact h
  | ct ρ D => exact h
theorem db_nil : DB X [] nxS := .mk fun L F0 H0 ρ D σ F H o E r hf q => by
  cases hf
  exact PBw pss_nil (q σ F H r)
theorem db_one (h : DS X st g1) : DB X [st] g1 := .mk fun L F0 H0 ρ D σ F H o E r hf q => PBw (pss_one ps_w) (h.run L F0 H0 ρ D σ F H o E r hf q)
theorem db_cons (h1 : DS X st g1) (h2 : DB X sts g2) : DB X (st :: sts) (seqS g1 g2) := .mk fun L F0 H0 ρ D σ F H o E r hf q => by
  obtain ⟨o1, e1, hf⟩ := bind_split hf
  refine PBw (pss_cons ps_w pss_w) (h1.run L F0 H0 ρ D σ F H o1 { E with nx := tWB X sts E } r e1 ?_)
  cases o1 with
  | nx ρ1 D1 => exact fun σ1 F1 H1 r1 => h2.run L F0 H0 ρ1 D1 σ1 F1 H1 o E r1 hf q
  | rt x D1 => cases hf; exact q
  | bk ρ1 D1 => cases hf; exact q
  | ct ρ1 D1 => cases hf; exact q
theorem ds_never : DS X st noS := .mk fun L F0 H0 ρ D σ F H o E r hf q => by cases hf
theorem db_never : DB X sts noS := .mk fun L F0 H0 ρ D σ F H o E r hf q => by cases hf
theorem ds_pass : DS X (.Pass pos) nxS := .mk fun L F0 H0 ρ D σ F H o E r hf q => by
  cases hf
  exact PSw ps_pass (q σ F H r)
theorem ds_ret (h : DE X e f) : DS X (.Return (some e) pos) (retS f) := .mk fun L F0 H0 ρ D σ F H o E r hf q => by
  obtain ⟨⟨x, D1⟩, e1, hf⟩ := map_split hf
  subst hf
  exact PSw (ps_ret pe_w) (h.run L F0 H0 ρ D σ F H _ _ r e1 _ fun v F1 H1 t1 k1 hv => q v F1 H1 (r.stp.trans t1) k1 hv)
theorem ds_retN : DS X (.Return none pos) retN := .mk fun L F0 H0 ρ D σ F H o E r hf q => by
  cases hf
  exact PSw ps_retN (q _ F H r.stp r.ok .non)
theorem ds_if {ga : FT} {A B : List Stmt} (hc : DT X c ga) (ha : DB X A g1) (hb : DB X B g2) : DS X (.If c A B pos) (ifS ga g1 g2) := .mk fun L F0 H0 ρ D σ F H o E r hf q => by
  obtain ⟨⟨x, D1⟩, e1, hf⟩ := bind_split hf
  refine PSw (ps_if pt_w pss_w pss_w) (hc.run L F0 H0 ρ D σ F H _ _ r e1 _ fun F1 H1 t1 k1 => ?_)
  cases x with
  | true => exact iteT (ha.run L F0 H0 ρ D1 σ F1 H1 o E (r.step t1 k1) hf q)
  | false => exact iteF (hb.run L F0 H0 ρ D1 σ F1 H1 o E (r.step t1 k1) hf q)
theorem ds_drop (h : DE X e f) (hs : swapsWith e none pos.line X.env = pure false := by rfl) : DS X (.Expr e pos) (dropS f) := .mk fun L F0 H0 ρ D σ F H o E r hf q => by
  obtain ⟨⟨x, D1⟩, e1, hf⟩ := map_split hf
  subst hf
  exact PSw (ps_expr pe_w hs) (h.run L F0 H0 ρ D σ F H _ _ r e1 _ fun v F1 H1 t1 k1 hv => q σ F1 H1 (r.step t1 k1))
theorem ds_frz {i : Nat} (h : DS X st g1) : DS X st (frzS i g1) := .mk fun L F0 H0 ρ D σ F H o E r hf q => by
  obtain ⟨⟨xs, D1⟩, e1, hf⟩ := bind_split hf
  unfold ownD at e1
  split at e1
  · rename_i y hy
    cases e1
    obtain ⟨F', r'⟩ := r.freeze hy
    exact h.run L F0 H0 _ D σ F' H o E r' hf q
  · cases e1
variable {i : Nat} {x : Str} {pos' : Pos}
theorem ds_asg (hN : X.N.Nodup) (h : DE X e f) (hi : X.N[i]? = some x := by rfl) (hx : L2.Loc X.env.scope x := by first | exact Or.inl rfl | exact Or.inr rfl) (hs : swapsWith e (some (.Name x pos')) pos.line X.env = pure false := by rfl)
    (hf : X.fn x = true ∨ X.env.scope.names.lookup x = some .local := by first | exact .inl rfl | exact .inr rfl | assumption) : DS X (.Assign [.Name x pos'] e pos) (asgS i f) := .mk fun L F0 H0 ρ D σ F H o E r hfo q => by
  obtain ⟨⟨y, D1⟩, e1, ho⟩ := map_split hfo
  subst ho
  exact PSw (ps_set hN hi hx pe_w hs hf) (h.run L F0 H0 ρ D σ F H _ _ r e1 _ fun v F1 H1 t1 k1 hv => q _ F1 H1 ((r.step t1 k1).setD i hv))
theorem ds_own {fl : FL} (hN : X.N.Nodup) (h : DN X e fl) (hi : X.N[i]? = some x := by rfl) (hx : L2.Loc X.env.scope x := by first | exact Or.inl rfl | exact Or.inr rfl) (hs : swapsWith e (some (.Name x pos')) pos.line X.env = pure false := by rfl)
    (hf : X.fn x = true ∨ X.env.scope.names.lookup x = some .local := by first | exact .inl rfl | exact .inr rfl | assumption) : DS X (.Assign [.Name x pos'] e pos) (asgO i fl) := .mk fun L F0 H0 ρ D σ F H o E r hfo q => by
  obtain ⟨⟨y, D1⟩, e1, ho⟩ := map_split hfo
  subst ho
  refine PSw (ps_set hN hi hx pe_w hs hf) (h.run L F0 H0 ρ D σ F H _ _ r e1 _ fun p vs F1 H1 t1 k1 n nF hp hv => q _ F1 H1 ?_)
  refine (r.step t1 k1).setOwn i ?_ nF (r.ok.nd n) hp hv fun j ys _ ej => r.own_ne n ej
  exact back_none r.stp n
theorem ds_app {y : Str} {apos npos epos : Pos} (h : DE X e f) (hi : X.N[i]? = some x := by rfl) (hv : Vis X.env.scope x := by first | exact Or.inl rfl | exact Or.inr (Or.inl rfl) | exact Or.inr (Or.inr rfl)) (hd : (x == ("__debug__" : Str)) = false := by decide)
    (hcd : (x == ("__classdict__" : Str)) = false := by decide) (hbase : attributeBase (.Name x npos) "append" X.env (eval (.Name x npos) X.env) = eval (.Name x npos) X.env := by rfl)
    (hfew : ((backTo pos (starEach [e] X.env)).all (fun x => !x.1) && (backToKw pos (keywordEach [] X.env)).all (fun x => x.1.isSome)
      && decide ([e].length + ([] : List Keyword).length + (if ([] : List Keyword).isEmpty then 0 else 1) < 30)) = true := by rfl)
    (hline : (apos.endLine == pos.line) = true := by rfl) (hs : starEach [e] X.env = (false, eval e X.env) :: starEach [] X.env := by rfl) (hplain : (backTo pos (starEach [] X.env)).any (·.1) = false := by rfl)
    (hsw : swapsWith (.Call (.Attribute (.Name x npos) "append" apos) [e] [] pos) none epos.line X.env = pure false := by rfl) :
    DS X (.Expr (.Call (.Attribute (.Name x npos) "append" apos) [e] [] pos) epos) (appS i f) := .mk fun L F0 H0 ρ D σ F H o E r hfo q => by
  obtain ⟨⟨y, D1⟩, e1, hfo⟩ := bind_split hfo
  obtain ⟨⟨ys, D2⟩, e2, hfo⟩ := bind_split hfo
  split at hfo
  · rename_i hc
    have ho := Option.some.inj hfo
    subst ho
    unfold ownD at e2
    split at e2
    · rename_i zs hy
      cases e2
      obtain ⟨oo, h1, pp, vs, rfl, h0, hF, n, hp, hv'⟩ := r.slot i _ hy
      refine PSw (ps_expr (pe_bm PySem.F.plainAttrs_list PySem.F.slot_list_append PySem.F.type_list_append mt_append (pe_var hi hv hd hcd) (pa_cons pe_w pa_nil hs) hbase hfew hline hs hplain) hsw) ?_
      refine ⟨_, h1, .inl ⟨rfl, vs, .inl (.inl hp)⟩, h.run L F0 H0 ρ D σ F H _ _ r e1 _ fun v F1 H1 t1 k1 hvv => ?_⟩
      have r1 := r.step t1 k1
      obtain ⟨o2, h12, p2, vs2, e22, _, hF2, _, hp2, hv2⟩ := r1.slot i _ hy
      rw [h1] at h12
      have e3 := Option.some.inj h12
      subst e3
      cases e22
      refine ⟨pp, vs2, v, rfl, rfl, hp2, Nat.lt_of_lt_of_le (by rw [dpa_len hv2]; exact hc) (by decide), q σ F1 _ ?_⟩
      exact r1.mutOwn hy h1 h0 hF2 n (dpa_app hv2 (.cons hvv .nil))
    · cases e2
  · cases hfo
end
end Den

end
-- DenG
section
set_option Elab.async false
set_option linter.all false
set_option maxRecDepth 100000
set_option maxHeartbeats 1000000
namespace Den
open PySem PySem.Spec PyProof.Rows L2
variable [TB : Tabl]

/-! ### an own list's items stored -/
section
variable {X : Cx} {a b c e : Expr} {es rest : List Expr} {st : Stmt} {sts : List Stmt} {fa fb f : FE} {g : FA} {g1 g2 : FS} {pos p : Pos} {i : Nat} {x : Str} {pos' : Pos}
theorem get_list : PGet X (rIxL X.K) := by
  intro pins s σ H o i ov iv Q I ro ri h
  obtain ⟨p, xs, k, z, rfl, rfl, hq, he, q⟩ := h
  cases ro
  obtain ⟨t, rfl⟩ := ri
  obtain ⟨its, r, pl, hz⟩ := I.list hq
  obtain ⟨j, h1, h2, h3, h4, h5⟩ := atI_get he
  obtain ⟨w, ew, rw'⟩ := r.get h2
  have hl := r.length
  have hn := line63
  have fin : EP X pins σ Q w s := ⟨z, H, I, rw', q⟩
  by_cases h0 : 0 ≤ k
  · have hj : k.toNat = j := by
      rw [seqIndex_of h0 h5] at h1
      exact Option.some.inj h1
    exact wpAny_getItem_list pl.isList h0 (by omega) (by rw [hj]; simpa using ew) fin
  · have hj : (k + (its.toArray.size : Int)).toNat = j := by
      rw [seqIndex_neg (by omega) h4] at h1
      rw [List.size_toArray, ← hl]
      exact Option.some.inj h1
    exact wpAny_getItem_list_neg pl.isList (by omega) (by rw [List.size_toArray] <;> omega) (by omega) (by rw [hj]; simpa using ew) fin
def augIxS (i : Nat) (fi : FE) (op : O2) (f : FE) : FS := fun ρ D => (ownD i ρ D).bind fun _ => (fi ρ D).bind fun b => (asI b.1).bind fun n => (ownD i ρ b.2).bind fun o => (atI o.1 n).bind fun old => (f ρ b.2).bind fun r => (op old r.1).bind fun z =>
  (ixN o.1.length n).map fun j => .nx (ρ.set i (some (.own (o.1.set j z)))) r.2
theorem own_split {i : Nat} {ρ : Env} {D D' : Dw} {xs : List PyData} (h : ownD i ρ D = some (xs, D')) : ρ[i]? = some (some (.own xs)) ∧ D' = D := by
  unfold ownD at h
  split at h
  · rename_i y hy; cases h; exact ⟨hy, rfl⟩
  · cases h
theorem ds_augIx {op : Operator} {o2 : O2} {npos tpos : Pos} {ei : Expr} {fi : FE} (hop : OpS X (inplaceOp op) o2) (hfi : DE X ei fi) (h : DE X e f) (hi : X.N[i]? = some x := by rfl) (hv : Vis X.env.scope x := by first | exact Or.inl rfl | exact Or.inr (Or.inl rfl) | exact Or.inr (Or.inr rfl)) (hd : (x == ("__debug__" : Str)) = false := by decide)
    (hcd : (x == ("__classdict__" : Str)) = false := by decide) (ha : ∀ ov iv new, augStore ei ov iv new = (do holding [new, ov, iv] (setItem ov iv new); release [new, ov, iv] []; pure .next) := by intros; rfl) :
    DS X (.AugAssign (.Subscript (.Name x npos) ei tpos) op e pos) (augIxS i fi o2 f) := .mk fun L F0 H0 ρ D σ F H o E r hf q => by
  obtain ⟨⟨ys0, D0⟩, e0, hf⟩ := bind_split hf
  obtain ⟨⟨y, D1⟩, e1, hf⟩ := bind_split hf
  obtain ⟨n, e2, hf⟩ := bind_split hf
  obtain ⟨⟨ys, D2⟩, e3, hf⟩ := bind_split hf
  obtain ⟨old, e4, hf⟩ := bind_split hf
  obtain ⟨⟨z, D3⟩, e5, hf⟩ := bind_split hf
  obtain ⟨w, e6, hf⟩ := bind_split hf
  obtain ⟨j, e7, ho⟩ := map_split hf
  subst ho
  have e8 := asI_some e2
  dsimp only at e8 e3 e5
  subst e8
  obtain ⟨hy, rfl⟩ := own_split e3
  obtain ⟨oo, h1, pp, vs, rfl, h0, hF, nd, hp, hv'⟩ := r.slot i _ hy
  refine PSw (ps_augS (pe_var hi hv hd hcd) pe_w get_list pe_w hop set_list ha) ⟨.ref pp, h1, hfi.run L F0 H0 ρ D σ F H _ _ r e1 _ fun vi F1 H1 t1 k1 hvi => ?_⟩
  have r1 := r.step t1 k1
  have hp1 := t1.keep pp _ hp nd
  obtain ⟨v, e9, e10⟩ := atI_dp (dpa_mono t1.ex hv') e4
  refine ⟨pp, vs, n, v, rfl, dp_int hvi, .inl (.inl hp1), e9, ?_⟩
  refine h.run L F0 H0 ρ D2 σ F1 H1 _ _ r1 e5 _ fun v2 F2 H2 t2 k2 hv2 => ?_
  refine ⟨L, D3, F2, old, z, w, k2, dp_mono t2.ex e10, hv2, e6, fun v3 F3 H3 t3 k3 hv3 => ?_⟩
  have r3 := (r1.step t2 k2).step t3 k3
  have hp3 := t3.keep pp _ (t2.keep pp _ hp1 nd) nd
  obtain ⟨o2', h12, p2, vs2, e22, _, hF2, _, hp2, hv4⟩ := r3.slot i _ hy
  rw [h1] at h12
  have e13 := Option.some.inj h12
  subst e13
  cases e22
  rw [hp3] at hp2
  cases hp2
  refine ⟨pp, vs, n, j, rfl, dp_int hvi, hp3, by rw [dpa_len hv4]; exact e7, q _ F3 _ ?_⟩
  exact r3.mutOwn hy h1 h0 hF2 nd (dpa_set hv3 j hv4)
theorem ios_addS : OpS X (inplaceOp .Add) addS := .of iop_add_str fun x y H Q ⟨L, D, F, dx, dy, dz, k, h1, h2, e, q⟩ => by
  match dx, dy, e with
  | .str i, .str j, e =>
    have e : (if i.length + j.length ≤ 1000000 then some (PyData.str (i ++ j)) else none) = some dz := e
    split at e
    · rename_i hc
      cases e
      exact ⟨i, j, dp_str h1, dp_str h2, big hc, q _ F H Stp.refl k (.str _)⟩
    · cases e
theorem ios_addI : OpS X (inplaceOp .Add) addI := .of iop_add fun x y H Q ⟨L, D, F, dx, dy, dz, k, h1, h2, e, q⟩ => by
  match dx, dy, e with
  | .int i, .int j, e =>
    cases e
    exact ⟨i, j, dp_int h1, dp_int h2, q _ F H Stp.refl k (.int _)⟩
theorem ios_add : OpS X (inplaceOp .Add) (orO addI addS) := .or ios_addI ios_addS
def augS (i : Nat) (op : O2) (f : FE) : FS := fun ρ D => (varD i ρ D).bind fun old => (f ρ D).bind fun r => (op old.1 r.1).map fun z => .nx (ρ.set i (some (.d z))) r.2
theorem var_split {i : Nat} {ρ : Env} {D D' : Dw} {x : PyData} (h : varD i ρ D = some (x, D')) : ρ[i]? = some (some (.d x)) ∧ D' = D := by
  unfold varD at h
  split at h
  · rename_i y hy; cases h; exact ⟨hy, rfl⟩
  · cases h
theorem ds_aug {op : Operator} {o2 : O2} (hN : X.N.Nodup) (hop : OpS X (inplaceOp op) o2) (h : DE X e f) (hi : X.N[i]? = some x := by rfl) (hx : L2.Loc X.env.scope x := by first | exact Or.inl rfl | exact Or.inr rfl)
    (hf : X.fn x = true ∨ X.env.scope.names.lookup x = some .local := by first | exact .inl rfl | exact .inr rfl | assumption) : DS X (.AugAssign (.Name x pos') op e pos) (augS i o2 f) := .mk fun L F0 H0 ρ D σ F H o E r hfo q => by
  obtain ⟨⟨old, D1⟩, e1, hfo⟩ := bind_split hfo
  obtain ⟨⟨y, D2⟩, e2, hfo⟩ := bind_split hfo
  obtain ⟨z, e3, ho⟩ := map_split hfo
  subst ho
  obtain ⟨hy, rfl⟩ := var_split e1
  obtain ⟨oo, h1, v, rfl, h2⟩ := r.slot i _ hy
  refine PSw (ps_aug hN hi hx pe_w hop hf) ⟨v, h1, h.run L F0 H0 ρ D1 σ F H _ _ r e2 _ fun v2 F1 H1 t1 k1 hv2 => ?_⟩
  exact ⟨L, D2, F1, old, y, z, k1, dp_mono t1.ex h2, hv2, e3, fun v3 F3 H3 t3 k3 hv3 => q _ F3 H3 (((r.step t1 k1).step t3 k3).setD i hv3)⟩

/-! ### targets -/
variable (X) in
structure DG (tg : Expr) (tf : PyData → Env → Option Env) : Prop where
  run : ∀ L F0 H0 ρ D σ F H v d ρ', Rep X.K L F0 H0 ρ D σ F H → Dp X.K F v d → tf d ρ = some ρ' → ∀ Q : L2.St → Hp → Prop, (∀ σ' F' H', Ex F F' → Rep X.K L F0 H0 ρ' D σ' F' H' → Q σ' H') → tWG X tg v σ H Q
variable (X) in
def tWGs (tgs : List Expr) : TGs := fun vs σ H Q => ∀ pins s us, Inv X pins σ H s → Vals vs us → wpAny (model X.prog X.w) X.A (assignInOrder ((assignEach tgs X.env).map (·.2)) us) (fun _ s' => ∃ σ' H', Inv X pins σ' H' s' ∧ Q σ' H') X.xe s
theorem pgs_w {tgs : List Expr} : PGs X tgs (tWGs X tgs) := ⟨fun pins s σ H vs us Q I r h => h pins s us I r⟩
theorem PGsw {tgs : List Expr} {t : TGs} {vs : List V} {σ : L2.St} {H : Hp} {Q : L2.St → Hp → Prop} (h : PGs X tgs t) (q : t vs σ H Q) : tWGs X tgs vs σ H Q := fun pins s us I r => h.run pins s σ H vs us Q I r q
variable (X) in
structure DGs (tgs : List Expr) (tf : List PyData → Env → Option Env) : Prop where
  run : ∀ L F0 H0 ρ D σ F H vs ds ρ', Rep X.K L F0 H0 ρ D σ F H → DpAll X.K F vs ds → tf ds ρ = some ρ' → ∀ Q : L2.St → Hp → Prop, (∀ σ' F' H', Ex F F' → Rep X.K L F0 H0 ρ' D σ' F' H' → Q σ' H') → tWGs X tgs vs σ H Q
def nameG (i : Nat) : PyData → Env → Option Env := fun d ρ => some (ρ.set i (some (.d d)))
def nilG : List PyData → Env → Option Env
  | [], ρ => some ρ
  | _, _ => none
def consG (t : PyData → Env → Option Env) (u : List PyData → Env → Option Env) : List PyData → Env → Option Env
  | d :: ds, ρ => (t d ρ).bind (u ds)
  | [], _ => none
def tupG (n : Nat) (t : List PyData → Env → Option Env) : PyData → Env → Option Env
  | .tuple ds, ρ => if ds.length = n then t ds ρ else none
  | _, _ => none
theorem dg_name (hN : X.N.Nodup) (hi : X.N[i]? = some x := by rfl) (hx : L2.Loc X.env.scope x := by first | exact Or.inl rfl | exact Or.inr rfl) (hf : X.fn x = true ∨ X.env.scope.names.lookup x = some .local := by first | exact .inl rfl | exact .inr rfl | assumption) : DG X (.Name x pos) (nameG i) :=
  .mk fun L F0 H0 ρ D σ F H v d ρ' r hd ht Q q => by
    cases ht
    exact PGw (pg_name hN hi hx hf) (q _ F H (Ex.refl F) (r.setD i hd))
theorem dgs_nil : DGs X [] nilG := .mk fun L F0 H0 ρ D σ F H vs ds ρ' r hd ht Q q => by
  cases hd with
  | nil => cases ht; exact PGsw pgs_nil ⟨rfl, q σ F H (Ex.refl F) r⟩
  | cons _ _ => cases ht
theorem dgs_cons {t : PyData → Env → Option Env} {u : List PyData → Env → Option Env} (h1 : DG X e t) (h2 : DGs X es u) (hs : (assignEach (e :: es) X.env).map (·.2) = assign e X.env :: (assignEach es X.env).map (·.2) := by rfl) : DGs X (e :: es) (consG t u) :=
  .mk fun L F0 H0 ρ D σ F H vs ds ρ' r hd ht Q q => by
    cases hd with
    | nil => cases ht
    | cons hv hvs =>
      obtain ⟨ρ1, e1, e2⟩ := bind_split ht
      exact PGsw (pgs_cons pg_w pgs_w hs) ⟨_, _, rfl, h1.run L F0 H0 ρ D σ F H _ _ ρ1 r hv e1 _ fun σ1 F1 H1 x1 r1 => h2.run L F0 H0 ρ1 D σ1 F1 H1 _ _ ρ' r1 (dpa_mono x1 hvs) e2 Q fun σ2 F2 H2 x2 r2 => q σ2 F2 H2 (x1.trans x2) r2⟩
theorem dg_tup {k : Nat} {n : Nat} {t : List PyData → Env → Option Env} (hc : X.calm = true) (h : DGs X es t) (hn : (assignEach es X.env).length = n := by rfl) (hst : (assignEach es X.env).findIdx? (·.1) = none := by rfl) : DG X (.Tuple es k pos) (tupG n t) :=
  .mk fun L F0 H0 ρ D σ F H v d ρ' r hd ht Q q => by
    match d, ht with
    | .tuple ds, ht =>
      have ht : (if ds.length = n then t ds ρ else none) = some ρ' := ht
      split at ht
      · rename_i hl
        obtain ⟨p, vs, rfl, s1, a1⟩ := dp_tup hd
        exact PGw (pg_tup hc pgs_w hn hst) ⟨p, vs, rfl, ex_t r.ok.sub s1, by rw [dpa_len a1]; exact hl, h.run L F0 H0 ρ D σ F H vs ds ρ' r a1 ht Q q⟩
      · cases ht
def asgT (f : FE) (tf : PyData → Env → Option Env) : FS := fun ρ D => (f ρ D).bind fun r => (tf r.1 ρ).map fun ρ' => .nx ρ' r.2
theorem ds_asgT {tg : Expr} {tf : PyData → Env → Option Env} (h : DE X e f) (hg : DG X tg tf) (hs : swapsWithSole [tg] e pos.line X.env = pure false := by rfl) (hw : swappedStores [tg] e X.env = pure none := by rfl)
    (h1 : (assignEach [tg] X.env).map (·.2) = [assign tg X.env] := by rfl) : DS X (.Assign [tg] e pos) (asgT f tf) := .mk fun L F0 H0 ρ D σ F H o E r hfo q => by
  obtain ⟨⟨y, D1⟩, e1, hfo⟩ := bind_split hfo
  obtain ⟨ρ', e2, ho⟩ := map_split hfo
  subst ho
  exact PSw (ps_asg pe_w pg_w hs hw h1) (h.run L F0 H0 ρ D σ F H _ _ r e1 _ fun v F1 H1 t1 k1 hv => hg.run L F0 H0 ρ D1 σ F1 H1 v y ρ' (r.step t1 k1) hv e2 _ fun σ2 F2 H2 _ r2 => q σ2 F2 H2 r2)
/-- a, b = e1, e2 -/
def parS (i j : Nat) (f1 f2 : FE) : FS := fun ρ D => (f1 ρ D).bind fun a => (f2 ρ a.2).map fun b => .nx ((ρ.set i (some (.d a.1))).set j (some (.d b.1))) b.2
theorem ds_par {i j : Nat} {x y : Str} {px py pt : Pos} {kt k2 pt2} (hc : X.calm = true) (hN : X.N.Nodup) (ha : DE X a fa) (hb : DE X b fb) (hi : X.N[i]? = some x := by rfl) (hj : X.N[j]? = some y := by rfl) (hij : i ≠ j := by decide)
    (hx : X.env.scope.names.lookup x = some .local := by rfl) (hy : X.env.scope.names.lookup y = some .local := by rfl)
    (hw : swappedStores [.Tuple [.Name x px, .Name y py] kt pt] (.Tuple [a, b] k2 pt2) X.env = pure (some [x, y]) := by rfl)
    (hs : swapsWithSole [.Tuple [.Name x px, .Name y py] kt pt] (.Tuple [a, b] k2 pt2) pos.line X.env = pure false := by rfl)
    (s1 : starEach [a, b] X.env = (false, eval a X.env) :: starEach [b] X.env := by rfl) (s2 : starEach [b] X.env = (false, eval b X.env) :: starEach [] X.env := by rfl) :
    DS X (.Assign [.Tuple [.Name x px, .Name y py] kt pt] (.Tuple [a, b] k2 pt2) pos) (parS i j fa fb) := .mk fun L F0 H0 ρ D σ F H o E r hfo q => by
  obtain ⟨⟨u, D1⟩, e1, hfo⟩ := bind_split hfo
  obtain ⟨⟨w, D2⟩, e2, ho⟩ := map_split hfo
  subst ho
  exact PSw (ps_par hc hN hi hj hij hx hy (pa_cons pe_w (pa_cons pe_w pa_nil s2) s1) hw hs) (two ha hb r e1 e2 fun v1 v2 F2 H2 t2 k2 h1 h2 => ⟨v1, v2, rfl, q _ F2 H2 (((r.step t2 k2).setD i h1).setD j h2)⟩)

/-! ### walks -/
structure WalkD (K : PySem.W.Frag) (L : Loc) (F : Hp) (J : It) (xs : List PyData) : Prop where
  go : ∀ (i : Nat) (D : Dw) (F' H : Hp), Ex F F' → Ok L D F' H → i < xs.length → J.go i H
  stop : ∀ (i : Nat) (D : Dw) (F' H : Hp), Ex F F' → Ok L D F' H → xs.length ≤ i → J.stop i H
  yld : ∀ (i : Nat) (d : PyData) (D : Dw) (F' H : Hp) (x : V) (H' : Hp), Ex F F' → Ok L D F' H → xs[i]? = some d → J.yld i H x H' → ∃ F'', Stp L F' H F'' H' ∧ Ok L D F'' H' ∧ Dp K F'' x d
variable (X) in
structure DI (tg iter : Expr) (fi : FL) : Prop where
  run : ∀ L F0 H0 ρ D σ F H xs D', Rep X.K L F0 H0 ρ D σ F H → fi ρ D = some (xs, D') → ∀ R : It → Hp → Prop, (∀ J F' H', Stp L F H F' H' → Ok L D' F' H' → WalkD X.K L F' J xs → R J H') → tWI X tg iter σ H R
variable {tg iter : Expr}
theorem di_list (h : DE X iter f) : DI X tg iter (lstD f) := .mk fun L F0 H0 ρ D σ F H xs D' r hf R q => by
  obtain ⟨⟨y, D1⟩, e1, hf⟩ := bind_split hf
  obtain ⟨ys, e2, hf⟩ := map_split hf
  cases hf
  have e3 := asL_some e2
  dsimp only at e3
  subst e3
  refine PIw (pi_list pe_w) (h.run L F0 H0 ρ D σ F H _ _ r e1 _ fun v F1 H1 t1 k1 hv => ?_)
  obtain ⟨p, vs, rfl, s1, a1⟩ := dp_list hv
  refine ⟨p, rfl, ⟨vs, ex_l k1.sub s1⟩, q _ F1 H1 t1 k1 ⟨fun i D F2 H2 x2 k2 hi => ?_, fun i D F2 H2 x2 k2 hi => ?_, fun i d D F2 H2 v H3 x2 k2 hi hy => ?_⟩⟩
  · have hl : i < vs.length := by rw [dpa_len a1]; exact hi
    exact ⟨vs, vs[i], ex_l (x2.trans k2.sub) s1, by simp [hl]⟩
  · exact ⟨vs, ex_l (x2.trans k2.sub) s1, by rw [dpa_len a1]; exact hi⟩
  · obtain ⟨rfl, hy⟩ := hy
    obtain ⟨u, e4, e5⟩ := dpa_getD a1 hi
    have e6 := hy vs (ex_l (x2.trans k2.sub) s1)
    rw [e4] at e6
    cases e6
    exact ⟨F2, Stp.refl, k2, dp_mono x2 e5⟩
theorem di_tup (h : DE X iter f) : DI X tg iter (fun ρ D => (f ρ D).bind fun r => match r.1 with | .tuple xs => some (xs, r.2) | _ => none) := .mk fun L F0 H0 ρ D σ F H xs D' r hf R q => by
  obtain ⟨⟨y, D1⟩, e1, hf⟩ := bind_split hf
  dsimp only at hf
  split at hf
  · cases hf
    refine PIw (pi_tup pe_w) (h.run L F0 H0 ρ D σ F H _ _ r e1 _ fun v F1 H1 t1 k1 hv => ?_)
    obtain ⟨p, vs, rfl, s1, a1⟩ := dp_tup hv
    refine ⟨p, rfl, ⟨vs, ex_t k1.sub s1⟩, q _ F1 H1 t1 k1 ⟨fun i D F2 H2 x2 k2 hi => ?_, fun i D F2 H2 x2 k2 hi => ?_, fun i d D F2 H2 v H3 x2 k2 hi hy => ?_⟩⟩
    · have hl : i < vs.length := by rw [dpa_len a1]; exact hi
      exact ⟨vs, vs[i], ex_t (x2.trans k2.sub) s1, by simp [hl]⟩
    · exact ⟨vs, ex_t (x2.trans k2.sub) s1, by rw [dpa_len a1]; exact hi⟩
    · obtain ⟨rfl, hy⟩ := hy
      obtain ⟨u, e4, e5⟩ := dpa_getD a1 hi
      have e6 := hy vs (ex_t (x2.trans k2.sub) s1)
      rw [e4] at e6
      cases e6
      exact ⟨F2, Stp.refl, k2, dp_mono x2 e5⟩
  · cases hf
def strI (f : FE) : FL := fun ρ D => (f ρ D).bind fun r => (asS r.1).map fun s => (sgs s, r.2)
theorem di_str (h : DE X iter f) : DI X tg iter (strI f) := .mk fun L F0 H0 ρ D σ F H xs D' r hf R q => by
  obtain ⟨⟨y, D1⟩, e1, hf⟩ := bind_split hf
  obtain ⟨ys, e2, hf⟩ := map_split hf
  cases hf
  have e3 := asS_some e2
  dsimp only at e3
  subst e3
  refine PIw (pi_str pe_w) (h.run L F0 H0 ρ D σ F H _ _ r e1 _ fun v F1 H1 t1 k1 hv => ?_)
  rw [dp_str hv]
  have hlen : (sgs ys).length = ys.cps.size := by unfold sgs; simp
  refine ⟨ys, rfl, q _ F1 H1 t1 k1 ⟨fun i D F2 H2 x2 k2 hi => ?_, fun i D F2 H2 x2 k2 hi => ?_, fun i d D F2 H2 v H3 x2 k2 hi hy => ?_⟩⟩
  · show i < ys.cps.size
    omega
  · show ys.cps.size ≤ i
    omega
  · obtain ⟨rfl, c, hc, rfl⟩ := hy
    unfold sgs at hi
    rw [List.getElem?_map] at hi
    obtain ⟨c', e5, e6⟩ := map_split hi
    have e7 : c = c' := by
      rw [Array.getElem?_toList] at e5
      exact Option.some.inj (hc.symm.trans e5)
    subst e7
    subst e6
    exact ⟨F2, Stp.refl, k2, .str _⟩
def rngV (lo : Int) (n : Nat) : List PyData := (List.range n).map fun (i : Nat) => PyData.int (lo + (i : Int))
def inRg (j : Int) : Bool := decide (j < 1099511627776) && decide (-1099511627776 < j)
def rng1I (f : FE) : FL := fun ρ D => (f ρ D).bind fun r => (asI r.1).bind fun j => if inRg j then some (rngV 0 j.toNat, r.2) else none
def rng2I (f g : FE) : FL := fun ρ D => (f ρ D).bind fun r => (asI r.1).bind fun i => (g ρ r.2).bind fun r2 => (asI r2.1).bind fun j => if inRg i && inRg j then some (rngV i (j - i).toNat, r2.2) else none
theorem inRg_ok {j : Int} (h : inRg j = true) : -(2 ^ 62) ≤ j ∧ j < 2 ^ 62 := by
  unfold inRg at h
  rw [Bool.and_eq_true] at h
  have h1 := of_decide_eq_true h.1
  have h2 := of_decide_eq_true h.2
  omega
theorem walk_rng {L : Loc} {F : Hp} {lo : Int} {n : Nat} : WalkD X.K L F (Itr lo n) (rngV lo n) := by
  have hl : (rngV lo n).length = n := by unfold rngV; simp
  refine ⟨fun i D F2 H2 x2 k2 hi => ?_, fun i D F2 H2 x2 k2 hi => ?_, fun i d D F2 H2 v H3 x2 k2 hi hy => ?_⟩
  · show i < n
    omega
  · show n ≤ i
    omega
  · obtain ⟨rfl, rfl⟩ := hy
    unfold rngV at hi
    rw [List.getElem?_map] at hi
    obtain ⟨c', e5, e6⟩ := map_split hi
    have hlt : i < n := by
      have := (List.getElem?_eq_some_iff.mp e5).1
      simpa using this
    rw [List.getElem?_range hlt] at e5
    cases e5
    subst e6
    exact ⟨F2, Stp.refl, k2, .int _⟩
theorem di_rng1 (hg : Gl X "range") (hm : X.mg "range" = none) (ha : DE X a fa) (hs : starEach [a] X.env = [(false, eval a X.env)] := by rfl) : DI X tg (.Call (.Name "range" p) [a] [] pos) (rng1I fa) := .mk fun L F0 H0 ρ D σ F H xs D' r hf R q => by
  obtain ⟨⟨y, D1⟩, e1, hf⟩ := bind_split hf
  obtain ⟨j, e2, hf⟩ := bind_split hf
  split at hf
  · rename_i hc
    cases hf
    have e3 := asI_some e2
    dsimp only at e3
    subst e3
    obtain ⟨b1, b2⟩ := inRg_ok hc
    refine PIw (pi_range1 hg hm (pa_cons pe_w pa_nil hs) hs) (ha.run L F0 H0 ρ D σ F H _ _ r e1 _ fun v F1 H1 t1 k1 hv => ?_)
    exact ⟨j, by rw [dp_int hv], b1, b2, q _ F1 H1 t1 k1 walk_rng⟩
  · cases hf
theorem di_rng2 (hg : Gl X "range") (hm : X.mg "range" = none) (ha : DE X a fa) (hb : DE X b fb) (hs : starEach [a, b] X.env = [(false, eval a X.env), (false, eval b X.env)] := by rfl) (hs2 : starEach [b] X.env = [(false, eval b X.env)] := by rfl) :
    DI X tg (.Call (.Name "range" p) [a, b] [] pos) (rng2I fa fb) := .mk fun L F0 H0 ρ D σ F H xs D' r hf R q => by
  obtain ⟨⟨y, D1⟩, e1, hf⟩ := bind_split hf
  obtain ⟨i, e2, hf⟩ := bind_split hf
  obtain ⟨⟨y2, D2⟩, e4, hf⟩ := bind_split hf
  obtain ⟨j, e5, hf⟩ := bind_split hf
  split at hf
  · rename_i hc
    cases hf
    have e3 := asI_some e2
    have e6 := asI_some e5
    dsimp only at e3 e6
    subst e3
    subst e6
    rw [Bool.and_eq_true] at hc
    obtain ⟨b1, b2⟩ := inRg_ok hc.1
    obtain ⟨b3, b4⟩ := inRg_ok hc.2
    refine PIw (pi_range2 hg hm (pa_cons pe_w (pa_cons pe_w pa_nil hs2) (by rw [hs, hs2])) hs hs2) (two ha hb r e1 e4 fun v u F2 H2 t2 k2 h1 h2 => ?_)
    exact ⟨i, j, by rw [dp_int h1, dp_int h2], ⟨b1, b2, b3, b4⟩, q _ F2 H2 t2 k2 walk_rng⟩
  · cases hf
end
end Den

end
-- DenH
section
set_option Elab.async false
set_option linter.all false
set_option maxRecDepth 100000
set_option maxHeartbeats 1000000
namespace Den
open PySem PySem.Spec PyProof.Rows L2
variable [TB : Tabl]

/-! ### the same, from a later base -/
/-- the heap without the names' own lists -/
noncomputable def sub0 (ρ : Env) (σ : L2.St) (H : Hp) : Hp := fun p => open Classical in if ∃ (i : Nat) (xs : List PyData), ρ[i]? = some (some (.own xs)) ∧ σ[i]? = some (some (.ref p)) then none else H p
section
variable {K : PySem.W.Frag} {L : Loc} {F0 H0 F H F' H' : Hp} {ρ ρ' : Env} {D D' : Dw} {σ σ' : L2.St}
theorem sub0_own {p : Addr} (h : ∃ (i : Nat) (xs : List PyData), ρ[i]? = some (some (.own xs)) ∧ σ[i]? = some (some (.ref p))) : sub0 ρ σ H p = none := by
  unfold sub0
  rw [if_pos h]
theorem sub0_not {p : Addr} (h : ¬ ∃ (i : Nat) (xs : List PyData), ρ[i]? = some (some (.own xs)) ∧ σ[i]? = some (some (.ref p))) : sub0 ρ σ H p = H p := by
  unfold sub0
  rw [if_neg h]
theorem Rep.own0 (r : Rep K L F0 H0 ρ D σ F H) {p : Addr} (h : ∃ (i : Nat) (xs : List PyData), ρ[i]? = some (some (.own xs)) ∧ σ[i]? = some (some (.ref p))) : H0 p = none := by
  obtain ⟨i, xs, e1, e2⟩ := h
  obtain ⟨o, h1, p', vs, rfl, h0, _⟩ := r.slot i _ e1
  rw [e2] at h1
  cases h1
  exact h0
theorem Rep.rebase (r : Rep K L F0 H0 ρ D σ F H) : Rep K L F (sub0 ρ σ H) ρ D σ F H := by
  refine ⟨r.ok, ⟨Ex.refl F, fun p o e _ => ?_, fun p _ h => h, fun p e => ?_⟩, r.len, fun i a e => ?_, r.inj⟩
  · by_cases h : ∃ (i : Nat) (xs : List PyData), ρ[i]? = some (some (.own xs)) ∧ σ[i]? = some (some (.ref p))
    · rw [sub0_own h] at e; cases e
    · rw [sub0_not h] at e; exact e
  · by_cases h : ∃ (i : Nat) (xs : List PyData), ρ[i]? = some (some (.own xs)) ∧ σ[i]? = some (some (.ref p))
    · exact absurd (sub0_own h) e
    · rw [sub0_not h] at e; exact e
  · obtain ⟨o, h1, h2⟩ := r.slot i a e
    refine ⟨o, h1, ?_⟩
    match a, h2 with
    | .d x, h2 => exact h2
    | .drw, h2 => exact h2
    | .dct xs, h2 => exact h2
    | .exc c, h2 => exact h2
    | .own xs, ⟨p, vs, e1, h0, q⟩ => exact ⟨p, vs, e1, sub0_own ⟨i, xs, e, by rw [h1, e1]⟩, q⟩
theorem Rep.stpBack (r : Rep K L F0 H0 ρ D σ F H) (t : Stp L F (sub0 ρ σ H) F' H') : Stp L F0 H0 F' H' := by
  have no : ∀ p, H0 p ≠ none → ¬ ∃ (i : Nat) (xs : List PyData), ρ[i]? = some (some (.own xs)) ∧ σ[i]? = some (some (.ref p)) := fun p h z => h (r.own0 z)
  refine ⟨r.stp.ex.trans t.ex, fun p o e d => ?_, fun p e q => ?_, fun p e => ?_⟩
  · exact t.keep p o (by rw [sub0_not (no p (by rw [e]; exact fun z => nomatch z))]; exact r.stp.keep p o e d) d
  · exact r.stp.sep p e (t.sep p (by rw [sub0_not (no p e)]; exact r.stp.low p e) q)
  · exact t.low p (by rw [sub0_not (no p e)]; exact r.stp.low p e)
theorem Rep.unbase (r : Rep K L F0 H0 ρ D σ F H) (r' : Rep K L F (sub0 ρ σ H) ρ' D' σ' F' H') : Rep K L F0 H0 ρ' D' σ' F' H' := by
  refine ⟨r'.ok, r.stpBack r'.stp, r'.len, fun i a e => ?_, r'.inj⟩
  obtain ⟨o, h1, h2⟩ := r'.slot i a e
  refine ⟨o, h1, ?_⟩
  match a, h2 with
  | .d x, h2 => exact h2
  | .drw, h2 => exact h2
  | .dct xs, h2 => exact h2
  | .exc c, h2 => exact h2
  | .own xs, ⟨p, vs, e1, h0, q⟩ =>
    refine ⟨p, vs, e1, ?_, q⟩
    by_cases h : ∃ (i : Nat) (xs : List PyData), ρ[i]? = some (some (.own xs)) ∧ σ[i]? = some (some (.ref p))
    · exact r.own0 h
    · rw [sub0_not h] at h0
      exact back_none r.stp h0
end
def GoodX (K : PySem.W.Frag) (L : Loc) (F0 H0 F : Hp) (E : Ends) : Out → Prop
  | .nx ρ D => ∀ σ F' H, Ex F F' → Rep K L F0 H0 ρ D σ F' H → E.nx σ H
  | .rt x D => ∀ v F' H, Ex F F' → Stp L F0 H0 F' H → Ok L D F' H → Dp K F' v x → E.rt v H
  | .bk ρ D => ∀ σ F' H, Ex F F' → Rep K L F0 H0 ρ D σ F' H → E.bk σ H
  | .ct ρ D => ∀ σ F' H, Ex F F' → Rep K L F0 H0 ρ D σ F' H → E.ct σ H
theorem DB.x {X : Cx} {sts : List Stmt} {g : FS} (h : DB X sts g) : ∀ L F0 H0 ρ D σ F H o (E : Ends), Rep X.K L F0 H0 ρ D σ F H → g ρ D = some o → GoodX X.K L F0 H0 F E o → tWB X sts E σ H := fun L F0 H0 ρ D σ F H o E r hf q => by
  refine h.run L F (sub0 ρ σ H) ρ D σ F H o E r.rebase hf ?_
  cases o with
  | nx ρ1 D1 => exact fun σ1 F1 H1 r1 => q σ1 F1 H1 r1.stp.ex (r.unbase r1)
  | rt x D1 => exact fun v F1 H1 t1 k1 hv => q v F1 H1 t1.ex (r.stpBack t1) k1 hv
  | bk ρ1 D1 => exact fun σ1 F1 H1 r1 => q σ1 F1 H1 r1.stp.ex (r.unbase r1)
  | ct ρ1 D1 => exact fun σ1 F1 H1 r1 => q σ1 F1 H1 r1.stp.ex (r.unbase r1)

/-! ### loops -/
def loopD (tf : PyData → Env → Option Env) (gb : FS) : List PyData → FS
  | [], ρ, D => some (.nx ρ D)
  | x :: xs, ρ, D => (tf x ρ).bind fun ρ1 => (gb ρ1 D).bind fun o => stepO o (loopD tf gb xs)
def forS (fi : FL) (tf : PyData → Env → Option Env) (gb : FS) : FS := fun ρ D => (fi ρ D).bind fun r => loopD tf gb r.1 ρ r.2
def whileD (ft : FT) (gb : FS) : Nat → FS
  | 0, _, _ => none
  | n + 1, ρ, D => (ft ρ D).bind fun r => if r.1 then (gb ρ r.2).bind fun o => stepO o (whileD ft gb n) else some (.nx ρ r.2)
section
variable {X : Cx} {a b c e tg iter : Expr} {es rest : List Expr} {st : Stmt} {sts : List Stmt} {fa fb f : FE} {g : FA} {gb : FS} {pos p : Pos} {fi : FL} {tf : PyData → Env → Option Env}
theorem ds_for (hp : PassesOwn (model X.prog X.w) X.A X.env X.xe) (hc : X.calm = true) (hi : DI X tg iter fi) (hg : DG X tg tf) (hb : DB X sts gb) (hs : ∀ x, foldedSetIterable iter X.env x = pure x := by intro _; rfl) : DS X (.For tg iter sts [] pos) (forS fi tf gb) := .mk fun L F0 H0 ρ D σ F H o E r hfo q => by
  obtain ⟨⟨xs, D1⟩, e1, hfo⟩ := bind_split hfo
  refine PSw (ps_for hp hc pi_w pg_w pss_w hs) (hi.run L F0 H0 ρ D σ F H xs D1 r e1 _ fun J F1 H1 t1 k1 wd => ?_)
  refine ⟨fun i m σ' H' => ∃ ρ' D' F', Rep X.K L F0 H0 ρ' D' σ' F' H' ∧ Ex F1 F' ∧ i ≤ xs.length ∧ m = xs.length - i ∧ loopD tf gb (xs.drop i) ρ' D' = some o, ⟨xs.length, ρ, D1, F1, r.step t1 k1, Ex.refl F1, Nat.zero_le _, rfl, hfo⟩, ?_⟩
  rintro i m σ' H' ⟨ρ', D', F', r', x', hi', rfl, hl⟩
  by_cases hlt : i < xs.length
  · rw [List.drop_eq_getElem_cons hlt] at hl
    obtain ⟨ρ1, e2, hl⟩ := bind_split hl
    obtain ⟨o1, e3, hl⟩ := bind_split hl
    refine .inr ⟨wd.go i D' F' H' x' r'.ok hlt, fun σ2 H2 => ∃ ρ2 D2 F2, Rep X.K L F0 H0 ρ2 D2 σ2 F2 H2 ∧ Ex F1 F2 ∧ loopD tf gb (xs.drop (i + 1)) ρ2 D2 = some o, ?_, ?_⟩
    · rintro σ2 H2 ⟨ρ2, D2, F2, r2, x2, h2⟩
      exact ⟨xs.length - (i + 1), by omega, ρ2, D2, F2, r2, x2, hlt, rfl, h2⟩
    · intro x H2 hy
      obtain ⟨F2, t2, k2, hd⟩ := wd.yld i _ D' F' H' x H2 x' r'.ok (List.getElem?_eq_getElem hlt) hy
      refine hg.run L F0 H0 ρ' D' σ' F2 H2 x _ ρ1 (r'.step t2 k2) hd e2 _ fun σ3 F3 H3 x3 r3 => ?_
      have x13 : Ex F1 F3 := (x'.trans t2.ex).trans x3
      refine hb.x L F0 H0 ρ1 D' σ3 F3 H3 o1 _ r3 e3 ?_
      cases o1 with
      | nx ρ2 D2 => exact fun σ4 F4 H4 x4 r4 => ⟨ρ2, D2, F4, r4, x13.trans x4, hl⟩
      | ct ρ2 D2 => exact fun σ4 F4 H4 x4 r4 => ⟨ρ2, D2, F4, r4, x13.trans x4, hl⟩
      | bk ρ2 D2 => cases hl; exact fun σ4 F4 H4 _ r4 => q σ4 F4 H4 r4
      | rt x D2 => cases hl; exact fun v F4 H4 _ t4 k4 hv => q v F4 H4 t4 k4 hv
  · have e : i = xs.length := by omega
    subst e
    rw [List.drop_length] at hl
    cases hl
    exact .inl ⟨wd.stop _ D' F' H' x' r'.ok (Nat.le_refl _), q σ' F' H' r'⟩
theorem ds_while {ft : FT} {n : Nat} (hp : PassesOwn (model X.prog X.w) X.A X.env X.xe) (hc : DT X c ft) (hb : DB X sts gb) : DS X (.While c sts [] pos) (whileD ft gb n) := .mk fun L F0 H0 ρ D σ F H o E r hfo q => by
  refine PSw (ps_while hp pt_w pss_w) ?_
  refine ⟨fun m σ' H' => ∃ ρ' D' F', Rep X.K L F0 H0 ρ' D' σ' F' H' ∧ whileD ft gb m ρ' D' = some o, ⟨n, ρ, D, F, r, hfo⟩, ?_⟩
  rintro m σ' H' ⟨ρ', D', F', r', hl⟩
  cases m with
  | zero => cases hl
  | succ m =>
    obtain ⟨⟨b, D1⟩, e1, hl⟩ := bind_split hl
    refine hc.run L F0 H0 ρ' D' σ' F' H' b D1 r' e1 _ fun F1 H1 t1 k1 => ?_
    cases b with
    | true =>
      rw [if_pos rfl] at hl
      obtain ⟨o1, e3, hl⟩ := bind_split hl
      refine iteT ⟨fun σ2 H2 => ∃ ρ2 D2 F2, Rep X.K L F0 H0 ρ2 D2 σ2 F2 H2 ∧ whileD ft gb m ρ2 D2 = some o, fun σ2 H2 h2 => ⟨m, Nat.lt_succ_self m, h2⟩, ?_⟩
      refine hb.run L F0 H0 ρ' D1 σ' F1 H1 o1 _ (r'.step t1 k1) e3 ?_
      cases o1 with
      | nx ρ2 D2 => exact fun σ4 F4 H4 r4 => ⟨ρ2, D2, F4, r4, hl⟩
      | ct ρ2 D2 => exact fun σ4 F4 H4 r4 => ⟨ρ2, D2, F4, r4, hl⟩
      | bk ρ2 D2 => cases hl; exact fun σ4 F4 H4 r4 => q σ4 F4 H4 r4
      | rt x D2 => cases hl; exact fun v F4 H4 t4 k4 hv => q v F4 H4 t4 k4 hv
    | false =>
      rw [if_neg Bool.false_ne_true] at hl
      cases hl
      exact iteF (q σ' F1 H1 (r'.step t1 k1))

/-! ### comprehensions of one clause, the target the name of slot i -/
def lcD (i : Nat) (ft : FT) (fe : FE) (ρ : Env) : List PyData → Dw → Option (List PyData × Dw)
  | [], D => some ([], D)
  | x :: xs, D => (ft (ρ.set i (some (.d x))) D).bind fun t => if t.1 then (fe (ρ.set i (some (.d x))) t.2).bind fun y => (lcD i ft fe ρ xs y.2).map fun r => (y.1 :: r.1, r.2) else lcD i ft fe ρ xs t.2
def lcF (i : Nat) (fi : FL) (ft : FT) (fe : FE) : FL := fun ρ D => (fi ρ D).bind fun r => if r.1.length ≤ 1000000 then lcD i ft fe ρ r.1 r.2 else none
def lcS (i : Nat) (f : FL) : FS := fun ρ D => (f ρ D).map fun r => .nx (ρ.set i (some (.d (.list r.1)))) r.2
variable (X) in
/-- an expression (a test) within every block of the comprehension -/
def tAllE (scope : Scope) (e : Expr) : TE := fun σ H Q => ∀ (s : Shared) (H' : Hp) (C : Addr) (cl : List (Str × Addr)) (fp : List Addr), tW (X.blk s H' scope (compEnvC scope cl C X.env) fp) e σ H Q
variable (X) in
def tAllT (scope : Scope) (e : Expr) : TT := fun σ H Q => ∀ (s : Shared) (H' : Hp) (C : Addr) (cl : List (Str × Addr)) (fp : List Addr), tWT (X.blk s H' scope (compEnvC scope cl C X.env) fp) e σ H Q
variable (X) in
def DAllE (scope : Scope) (e : Expr) (f : FE) : Prop := ∀ (s : Shared) (H' : Hp) (C : Addr) (cl : List (Str × Addr)) (fp : List Addr), DE (X.blk s H' scope (compEnvC scope cl C X.env) fp) e f
variable (X) in
def DAllT (scope : Scope) (e : Expr) (f : FT) : Prop := ∀ (s : Shared) (H' : Hp) (C : Addr) (cl : List (Str × Addr)) (fp : List Addr), DT (X.blk s H' scope (compEnvC scope cl C X.env) fp) e f
/-- the tests of a clause -/
structure TestsD (X : Cx) (scope : Scope) (ifs : List Expr) (ft : FT) : Prop where
  ex : ∃ tt : TT, (∀ (s : Shared) (H' : Hp) (C : Addr) (cl : List (Str × Addr)) (fp : List Addr), PTs (X.blk s H' scope (compEnvC scope cl C X.env) fp) ifs tt) ∧
    ∀ L F0 H0 ρ D σ F H b D', Rep X.K L F0 H0 ρ D σ F H → ft ρ D = some (b, D') → ∀ Q : Bool → Hp → Prop, (∀ F' H', Stp L F H F' H' → Ok L D' F' H' → Q b H') → tt σ H Q
def yesT : FT := fun _ D => some (true, D)
theorem tests_no {scope : Scope} : TestsD X scope [] yesT := ⟨tYes, fun _ _ _ _ _ => pts_nil, fun L F0 H0 ρ D σ F H b D' r hf Q q => by cases hf; exact q F H Stp.refl r.ok⟩
theorem tests_one {scope : Scope} {ft : FT} (h : DAllT X scope c ft) : TestsD X scope [c] ft := ⟨tAllT X scope c, fun s H' C cl fp => ⟨fun pins s1 σ H Q I hw => (pts_one pt_w).run pins s1 σ H Q I (hw s H' C cl fp)⟩, fun L F0 H0 ρ D σ F H b D' r hf Q q s H' C cl fp => (h s H' C cl fp).run L F0 H0 ρ D σ F H b D' r hf Q q⟩
theorem lc_read {elt : Expr} {scope : Scope} {i : Nat} {x : Str} {ft : FT} {fe : FE} {pn : Pos} {tt : TT} (hi : DI X (.Name x pn) iter fi)
    (hft : ∀ L F0 H0 ρ D σ F H b D', Rep X.K L F0 H0 ρ D σ F H → ft ρ D = some (b, D') → ∀ Q : Bool → Hp → Prop, (∀ F' H', Stp L F H F' H' → Ok L D' F' H' → Q b H') → tt σ H Q)
    (he : DAllE X scope elt fe) {L : Loc} {F0 H0 : Hp} {ρ : Env} {D D' : Dw} {σ : L2.St} {F H : Hp} {out : List PyData} (r : Rep X.K L F0 H0 ρ D σ F H) (hf : lcF i fi ft fe ρ D = some (out, D')) (Q : VK)
    (q : ∀ p vs F' H', Stp L F H F' H' → Ok L D' F' H' → H p = none → F' p = none → H' p = some (.lst vs) → DpAll X.K F' vs out → Q (.ref p) H') : tLc (tWI X (.Name x pn) iter) (gName i) tt (tAllE X scope elt) [i] σ H Q := by
  obtain ⟨⟨xs, D1⟩, e1, hf⟩ := bind_split hf
  dsimp only at hf
  split at hf
  · rename_i hbig
    refine hi.run L F0 H0 ρ D σ F H xs D1 r e1 _ fun J F1 H1 t1 k1 wd p np => ?_
    have r1 := r.step t1 k1
    have n1 : ¬ isD L p := k1.nd np
    have nF1 : F1 p = none := k1.sub.back np
    have nH : H p = none := back_none t1 np
    have nH0 : H0 p = none := back_none r.stp nH
    have ne1 : ∀ (j : Nat) ys, ρ[j]? = some (some (.own ys)) → σ[j]? ≠ some (some (.ref p)) := fun j ys ej => r1.own_ne np ej
    refine ⟨fun j m H' => ∃ Dj F' acc vs rest, Rep X.K L F0 H0 ρ Dj σ F' H' ∧ Stp L F1 H1 F' H' ∧ F' p = none ∧ H' p = some (.lst vs) ∧ DpAll X.K F' vs acc ∧ acc.length ≤ j ∧ j ≤ xs.length ∧ m = xs.length - j ∧ lcD i ft fe ρ (xs.drop j) Dj = some (rest, D') ∧ acc ++ rest = out,
      ⟨xs.length, D1, F1, [], [], out, r1.beside nH0 nF1 n1 (fun q z => by rw [np] at z; cases z) ne1, Stp.fresh np, nF1, upd_same, .nil, Nat.le_refl _, Nat.zero_le _, rfl, hf, rfl⟩, ?_⟩
    rintro j m H' ⟨Dj, F', acc, vs, rest, rj, tj, nFj, hp, ha, hal, hj, rfl, hl, hout⟩
    by_cases hlt : j < xs.length
    · rw [List.drop_eq_getElem_cons hlt] at hl
      obtain ⟨⟨b, D2⟩, e2, hl⟩ := bind_split hl
      refine .inr ⟨wd.go j Dj F' H' tj.ex rj.ok hlt, fun H2 => ∃ Dj F' acc vs rest, Rep X.K L F0 H0 ρ Dj σ F' H2 ∧ Stp L F1 H1 F' H2 ∧ F' p = none ∧ H2 p = some (.lst vs) ∧ DpAll X.K F' vs acc ∧ acc.length ≤ j + 1 ∧ lcD i ft fe ρ (xs.drop (j + 1)) Dj = some (rest, D') ∧ acc ++ rest = out, ?_, ?_⟩
      · rintro H2 ⟨Dk, F2, acc2, vs2, rest2, a1, a2, a3, a4, a5, a6, a7, a8⟩
        exact ⟨xs.length - (j + 1), by omega, Dk, F2, acc2, vs2, rest2, a1, a2, a3, a4, a5, a6, hlt, rfl, a7, a8⟩
      · intro y H2 hy
        obtain ⟨F2, t2, k2, hd⟩ := wd.yld j _ Dj F' H' y H2 tj.ex rj.ok (List.getElem?_eq_getElem hlt) hy
        have r2 := rj.step t2 k2
        have rb : Rep X.K L F0 H0 (ρ.set i (some (.d xs[j]))) Dj ((σ.set i none).set i (some y)) F2 H2 := by
          have := (r2.setN i none).setD i hd
          rw [List.set_set] at this
          exact this
        show wipe ((σ.set i none).set i (some y)) [i] = wipe σ [i] ∧ tt ((σ.set i none).set i (some y)) H2 _
        refine ⟨?_, hft L F0 H0 _ Dj _ F2 H2 b D2 rb e2 _ fun F3 H3 t3 k3 => ?_⟩
        · show ((σ.set i none).set i (some y)).set i none = σ.set i none
          rw [List.set_set, List.set_set]
        · cases b with
          | true =>
            rw [if_pos rfl] at hl
            obtain ⟨⟨z, D3⟩, e3, hl⟩ := bind_split hl
            obtain ⟨⟨rest', D4⟩, e4, hl⟩ := map_split hl
            cases hl
            refine iteT fun s H5 C cl fp => (he s H5 C cl fp).run L F0 H0 _ D2 _ F3 H3 z D3 (rb.step t3 k3) e3 _ fun v F4 H4 t4 k4 hv => ?_
            have t24 := (t2.trans t3).trans t4
            have hp4 : H4 p = some (.lst vs) := t24.keep p _ hp n1
            have nF4 : F4 p = none := by
              cases hq : F4 p with
              | none => rfl
              | some u => exact absurd nFj (t24.sep p (by rw [hp]; exact fun z => nomatch z) (by rw [hq]; exact fun z => nomatch z))
            refine ⟨vs, hp4, Nat.lt_of_le_of_lt (by rw [dpa_len ha]; omega) (show 1000000 < sizeLine by decide), D3, F4, acc ++ [z], vs ++ [v], rest', ?_, ?_, nF4, upd_same, dpa_app (dpa_mono t24.ex ha) (.cons hv .nil), by rw [List.length_append]; simpa using hal, e4, by rw [List.append_assoc]; exact hout⟩
            · exact (rj.step t24 k4).beside nH0 nF4 n1 (not_code hp4) ne1
            · exact (tj.trans t24).mut np
          | false =>
            rw [if_neg Bool.false_ne_true] at hl
            have t23 := t2.trans t3
            have nF3 : F3 p = none := by
              cases hq : F3 p with
              | none => rfl
              | some u => exact absurd nFj (t23.sep p (by rw [hp]; exact fun z => nomatch z) (by rw [hq]; exact fun z => nomatch z))
            exact iteF ⟨D2, F3, acc, vs, rest, rj.step t23 k3, tj.trans t23, nF3, t23.keep p _ hp n1, dpa_mono t23.ex ha, by omega, hl, hout⟩
    · have e : j = xs.length := by omega
      subst e
      rw [List.drop_length] at hl
      cases hl
      rw [List.append_nil] at hout
      subst hout
      exact .inl ⟨wd.stop _ _ F' H' tj.ex rj.ok (Nat.le_refl _), q p vs F' H' (t1.trans tj) rj.ok nH nFj hp ha⟩
  · cases hf
theorem pe_all {elt : Expr} {scope : Scope} : ∀ (s : Shared) (H : Hp) (C : Addr) (cl : List (Str × Addr)) (fp : List Addr), PE (X.blk s H scope (compEnvC scope cl C X.env) fp) elt (tAllE X scope elt) :=
  fun s H C cl fp => ⟨fun pins s1 σ1 H1 Q1 I1 h1 => h1 s H C cl fp pins s1 I1⟩
theorem dn_lc {elt : Expr} {ifs : List Expr} {scope : Scope} {i : Nat} {x : Str} {ft : FT} {fe : FE} {pn : Pos} (hc : X.calm = true) (hN : X.N.Nodup) (hi : DI X (.Name x pn) iter fi) (ok : BlkOk X.N X.env.scope scope [(x, i)])
    (hg : ∀ (s : Shared) (H : Hp) (C : Addr) (cl : List (Str × Addr)) (fp : List Addr), PG (X.blk s H scope (compEnvC scope cl C X.env) fp) (.Name x pn) (gName i)) (ht : TestsD X scope ifs ft)
    (he : DAllE X scope elt fe) (hs : ∀ x, foldedSetIterable iter X.env x = pure x := by intro _; rfl) : DN X (.ListComp elt [⟨.Name x pn, iter, ifs, 0⟩] scope pos) (lcF i fi ft fe) := by
  refine .mk ?_
  intro L F0 H0 ρ D σ F H out D' r hf Q q
  obtain ⟨tt, htt, hft⟩ := ht.ex
  exact PEw (pe_lc (own := [(x, i)]) (g := gName i) (tt := tt) (te := tAllE X scope elt) hc hN pi_w ok hg htt pe_all hs) (lc_read hi hft he r hf Q q)
/-- name = [..] -/
theorem ds_lcN {elt : Expr} {ifs : List Expr} {scope : Scope} {i ix : Nat} {x y : Str} {ft : FT} {fe : FE} {pn py spos : Pos} (hc : X.calm = true) (hN : X.N.Nodup) (hi : DI X (.Name x pn) iter fi) (ok : BlkOk X.N X.env.scope scope [(x, ix)])
    (hg : ∀ (s : Shared) (H : Hp) (C : Addr) (cl : List (Str × Addr)) (fp : List Addr), PG (X.blk s H scope (compEnvC scope cl C X.env) fp) (.Name x pn) (gName ix)) (ht : TestsD X scope ifs ft)
    (he : DAllE X scope elt fe) (hy : X.N[i]? = some y := by rfl) (hyl : X.env.scope.names.lookup y = some .local := by rfl) (hsw : swapsWith (.ListComp elt [⟨.Name x pn, iter, ifs, 0⟩] scope pos) (some (.Name y py)) spos.line X.env = pure true := by exact sw_true rfl rfl rfl (by decide +kernel))
    (hs : ∀ x, foldedSetIterable iter X.env x = pure x := by intro _; rfl) : DS X (.Assign [.Name y py] (.ListComp elt [⟨.Name x pn, iter, ifs, 0⟩] scope pos) spos) (lcS i (lcF ix fi ft fe)) := by
  refine .mk ?_
  intro L F0 H0 ρ D σ F H o E r hf q
  obtain ⟨tt, htt, hft⟩ := ht.ex
  obtain ⟨⟨out, D'⟩, e1, ho⟩ := map_split hf
  subst ho
  refine PSw (ps_setLc (i := i) (own := [(x, ix)]) (g := gName ix) (tt := tt) (te := tAllE X scope elt) hc hN hy hyl hsw pi_w ok hg htt pe_all hs) (lc_read hi hft he r e1 _ fun p vs F' H' t k n nF hp hv => ?_)
  have r' : Rep X.K L F0 H0 ρ D' σ (upd F' p (.lst vs)) H' := r.step (t.frz n nF) (k.frz hp nF (r.ok.nd n))
  exact q _ _ H' (r'.setD i (.lst (.inl (.inl upd_same)) (dpa_mono (Ex.new nF) hv)))
/-- .. which is the name's own -/
theorem ds_lcO {elt : Expr} {ifs : List Expr} {scope : Scope} {i ix : Nat} {x y : Str} {ft : FT} {fe : FE} {pn py spos : Pos} (hc : X.calm = true) (hN : X.N.Nodup) (hi : DI X (.Name x pn) iter fi) (ok : BlkOk X.N X.env.scope scope [(x, ix)])
    (hg : ∀ (s : Shared) (H : Hp) (C : Addr) (cl : List (Str × Addr)) (fp : List Addr), PG (X.blk s H scope (compEnvC scope cl C X.env) fp) (.Name x pn) (gName ix)) (ht : TestsD X scope ifs ft)
    (he : DAllE X scope elt fe) (hy : X.N[i]? = some y := by rfl) (hyl : X.env.scope.names.lookup y = some .local := by rfl) (hsw : swapsWith (.ListComp elt [⟨.Name x pn, iter, ifs, 0⟩] scope pos) (some (.Name y py)) spos.line X.env = pure true := by exact sw_true rfl rfl rfl (by decide +kernel))
    (hs : ∀ x, foldedSetIterable iter X.env x = pure x := by intro _; rfl) : DS X (.Assign [.Name y py] (.ListComp elt [⟨.Name x pn, iter, ifs, 0⟩] scope pos) spos) (asgO i (lcF ix fi ft fe)) := by
  refine .mk ?_
  intro L F0 H0 ρ D σ F H o E r hf q
  obtain ⟨tt, htt, hft⟩ := ht.ex
  obtain ⟨⟨out, D'⟩, e1, ho⟩ := map_split hf
  subst ho
  refine PSw (ps_setLc (i := i) (own := [(x, ix)]) (g := gName ix) (tt := tt) (te := tAllE X scope elt) hc hN hy hyl hsw pi_w ok hg htt pe_all hs) (lc_read hi hft he r e1 _ fun p vs F' H' t k n nF hp hv => ?_)
  exact q _ F' H' ((r.step t k).setOwn i (back_none r.stp n) nF (r.ok.nd n) hp hv fun j ys _ ej => r.own_ne n ej)
end

/-! ### defs -/
section
variable {P : Program} {w : World} {K : PySem.W.Frag} {mg : Str → Option Value} {base : Heap}
def startA (N : List Str) (as : List AV) : Env := as.map some ++ List.replicate (N.length - as.length) none
def outD : Out → Option (PyData × Dw)
  | .nx _ D => some (.none, D)
  | .rt x D => some (x, D)
  | _ => none
theorem startA_at {N : List Str} {as : List AV} {i : Nat} {a : AV} (h : (startA N as)[i]? = some (some a)) : as[i]? = some a ∧ i < as.length := by
  unfold startA at h
  by_cases hi : i < as.length
  · rw [List.getElem?_append_left (by simpa using hi), List.getElem?_map] at h
    obtain ⟨b, e1, e2⟩ := map_split h
    cases e2
    exact ⟨e1, hi⟩
  · rw [List.getElem?_append_right (by simpa using hi), List.getElem?_replicate] at h
    split at h <;> cases h
theorem argsOk_at {L : Loc} {F : Hp} : ∀ {vs : List V} {as : List AV} {i : Nat} {a : AV}, ArgsOk K L F vs as → as[i]? = some a → ∃ v, vs[i]? = some v ∧ ArgOk K L F v a
  | _, _, _, _, .nil, e => by simp at e
  | _, _, 0, _, .cons h _, e => by simp at e; subst e; exact ⟨_, rfl, h⟩
  | _, _, i + 1, _, .cons _ t, e => by
    obtain ⟨v, h1, h2⟩ := argsOk_at (i := i) t (by simpa using e)
    exact ⟨v, by simpa using h1, h2⟩
theorem rep_start {L : Loc} {D : Dw} {F H : Hp} {vs : List V} {as : List AV} {N : List Str} (k : Ok L D F H) (h : ArgsOk K L F vs as) : Rep K L F H (startA N as) D (L2.start N vs) F H := by
  have hl := h.len
  have key : ∀ (i : Nat) (a : AV), (startA N as)[i]? = some (some a) → ∃ v, (L2.start N vs)[i]? = some (some v) ∧ ArgOk K L F v a := fun i a e => by
    obtain ⟨e1, hi⟩ := startA_at e
    obtain ⟨v, e2, e3⟩ := argsOk_at h e1
    refine ⟨v, ?_, e3⟩
    unfold L2.start
    rw [List.getElem?_append_left (by rw [List.length_map, hl]; exact hi), List.getElem?_map, e2]
    rfl
  refine ⟨k, Stp.refl, ?_, fun i a e => ?_, fun i j xs ys p e1 _ _ _ => ?_⟩
  · unfold L2.start startA
    simp [hl]
  · obtain ⟨v, e1, e2⟩ := key i a e
    refine ⟨_, e1, ?_⟩
    match a, e2 with
    | .d x, e2 => exact ⟨v, rfl, e2⟩
    | .drw, ⟨ad, bd, e3, e4⟩ => exact ⟨ad, bd, e3, by rw [e4]⟩
    | .own xs, e2 => exact e2.elim
    | .dct xs, e2 => exact e2.elim
    | .exc c, ⟨p, e3, e4⟩ => exact ⟨p, by rw [e3], e4⟩
  · obtain ⟨v, _, e2⟩ := key i _ e1
    exact e2.elim
/-- THE RULE for a def -/
theorem den {x qual : Str} {st : Stmt} {f : Addr} {fd : FuncData} {N ps : List Str} {k : Nat} {g : FS} {φ : Fn} (F : Fun K x qual st f fd) (S : FnScope N ps (defScope st))
    (hb : ∀ (cdv : Value) (A : Around) (outer : List PySem.Env) (s : Shared) (H : Hp) (E : XK), Room k (A.deeper (envOfC qual (defScope st) s.heap.objs.size f cdv)) → DB (cxOf CX0 P w K mg base N qual (defScope st) f cdv A outer s H E).nox (defBody st) g)
    (hφ : ∀ as D r, as.length = ps.length → φ as D = some r → (g (startA N as) D).bind outD = some r) : FnOk P w K mg base CX0 (k + 1) f fd ps (spOf K ps.length φ) := by
  refine F.ok S (fun vs H Q E h => ?_) fun cdv A outer s H vs Q E hr h => ?_
  · obtain ⟨_, _, _, _, _, _, h, _⟩ := h
    exact h
  · obtain ⟨L, D, F', as, y, D', hl, hk, ha, e, q⟩ := h
    refine ⟨_, pss_w, ?_⟩
    have e2 := hφ as D _ (by rw [← ha.len]; exact hl) e
    obtain ⟨o, e3, e4⟩ := bind_split e2
    refine (hb cdv A outer s H E hr).run L F' H _ D _ F' H o _ (rep_start hk ha) e3 ?_
    cases o with
    | nx ρ D1 => cases e4; exact fun σ F1 H1 r1 => q _ F1 H1 r1.stp r1.ok .non
    | rt z D1 => cases e4; exact fun v F1 H1 t1 k1 hv => q v F1 H1 t1 k1 hv
    | bk ρ D1 => cases e4
    | ct ρ D1 => cases e4
end
end Den

end
-- DenI
section
set_option Elab.async false
set_option linter.all false
set_option maxRecDepth 100000
set_option maxHeartbeats 1000000
namespace Den
open PySem PySem.Spec PyProof.Rows L2
variable [TB : Tabl]
section
variable {X : Cx} {a b c e : Expr} {es rest : List Expr} {st : Stmt} {sts : List Stmt} {fa fb f : FE} {g : FA} {g1 g2 : FS} {pos p : Pos} {i : Nat} {x : Str} {pos' : Pos}
theorem ds_setOwn {npos tpos : Pos} {ei : Expr} {fi : FE} (h : DE X e f) (hfi : DE X ei fi) (hi : X.N[i]? = some x := by rfl) (hv : Vis X.env.scope x := by first | exact Or.inl rfl | exact Or.inr (Or.inl rfl) | exact Or.inr (Or.inr rfl)) (hd : (x == ("__debug__" : Str)) = false := by decide)
    (hcd : (x == ("__classdict__" : Str)) = false := by decide)
    (ha : ∀ v, assign (.Subscript (.Name x npos) ei tpos) X.env v = (do
      let ov ← holding [v] (eval (.Name x npos) X.env)
      let iv ← holding [v, ov] (eval ei X.env)
      standAt tpos
      holding [v, ov, iv] (setItem ov iv v)
      release [v, ov, iv] []) := by intro _; rfl)
    (hs : swapsWithSole [.Subscript (.Name x npos) ei tpos] e pos.line X.env = pure false := by rfl) (hw : swappedStores [.Subscript (.Name x npos) ei tpos] e X.env = pure none := by rfl)
    (h1 : (assignEach [.Subscript (.Name x npos) ei tpos] X.env).map (·.2) = [assign (.Subscript (.Name x npos) ei tpos) X.env] := by rfl) :
    DS X (.Assign [.Subscript (.Name x npos) ei tpos] e pos) (setS i fi f) := .mk fun L F0 H0 ρ D σ F H o E r hf q => by
  obtain ⟨⟨y, D1⟩, e1, hf⟩ := bind_split hf
  obtain ⟨⟨ys, D2⟩, e2, hf⟩ := bind_split hf
  obtain ⟨⟨z, D3⟩, e3, hf⟩ := bind_split hf
  obtain ⟨n, e4, hf⟩ := bind_split hf
  obtain ⟨j, e5, ho⟩ := map_split hf
  subst ho
  have e8 := asI_some e4
  dsimp only at e8 e2 e3
  subst e8
  obtain ⟨hy, rfl⟩ := own_split e2
  refine PSw (ps_asg pe_w (pg_sub (pe_var hi hv hd hcd) pe_w set_list ha) hs hw h1) (h.run L F0 H0 ρ D σ F H _ _ r e1 _ fun v F1 H1 t1 k1 hvv => ?_)
  have r1 := r.step t1 k1
  obtain ⟨oo, g1', pp, vs, rfl, h0, hF, nd, hp, hv'⟩ := r1.slot i _ hy
  refine ⟨.ref pp, g1', hfi.run L F0 H0 ρ D2 σ F1 H1 _ _ r1 e3 _ fun u F2 H2 t2 k2 hu => ?_⟩
  have r2 := r1.step t2 k2
  have hp2 := t2.keep pp _ hp nd
  obtain ⟨o2', h12, p2, vs2, e22, _, hF2, _, hp3, hv4⟩ := r2.slot i _ hy
  rw [g1'] at h12
  have e13 := Option.some.inj h12
  subst e13
  cases e22
  rw [hp2] at hp3
  cases hp3
  refine ⟨pp, vs, n, j, rfl, dp_int hu, hp2, by rw [dpa_len hv4]; exact e5, q _ F2 _ ?_⟩
  exact r2.mutOwn hy g1' h0 hF2 nd (dpa_set (dp_mono t2.ex hvv) j hv4)
/-- a list that is read, beside data: ==, != -/
def cmpLD (op : O2) (f : FL) (g : FE) : FE := fun ρ D => (f ρ D).bind fun a => (g ρ a.2).bind fun b => (op (.list a.1) b.1).map fun z => (z, b.2)
theorem dpl {K : PySem.W.Frag} {F H : Hp} {p : Addr} {vs : List V} {xs : List PyData} (e : Ex F H) (h : SqL K H p vs) (a : DpAll K F vs xs) : Dp K H (.ref p) (.list xs) := .lst h (dpa_mono e a)
theorem de_neL {fl : FL} (hu : X.A.units + 64 < cLine) (ha : DL X a fl) (hb : DE X b fb) (hm : behindInMarks .NotEq b = false) : DE X (.Compare a [.NotEq] [b] pos) (cmpLD neO fl fb) := by
  refine .mk ?_
  intro L F0 H0 ρ D σ F H z D' r hf Q q
  obtain ⟨⟨xs, D1⟩, e1, hf⟩ := bind_split hf
  obtain ⟨⟨y, D2⟩, e2, hf⟩ := bind_split hf
  obtain ⟨z', e3, hf⟩ := map_split hf
  cases hf
  refine PEw (pe_cmpR (op_neD hu) pe_w pe_w hm) (ha.run L F0 H0 ρ D σ F H _ _ r e1 _ fun pp vs F1 H1 t1 k1 hl hvs => hb.run L F0 H0 ρ D1 σ F1 H1 _ _ (r.step t1 k1) e2 _ fun u F2 H2 t2 k2 hu' => ?_)
  unfold neO at e3
  split at e3
  · rename_i hc
    cases e3
    rw [Bool.and_eq_true] at hc
    exact ⟨_, _, dpl k2.sub (hl F2 H2 t2) (dpa_mono t2.ex hvs), dp_mono k2.sub hu', hc.1, hc.2, q _ F2 H2 (t1.trans t2) k2 (.bl _)⟩
  · cases e3
theorem de_eqL {fl : FL} (hu : X.A.units + 64 < cLine) (ha : DL X a fl) (hb : DE X b fb) (hm : behindInMarks .Eq b = false) : DE X (.Compare a [.Eq] [b] pos) (cmpLD eqO fl fb) := by
  refine .mk ?_
  intro L F0 H0 ρ D σ F H z D' r hf Q q
  obtain ⟨⟨xs, D1⟩, e1, hf⟩ := bind_split hf
  obtain ⟨⟨y, D2⟩, e2, hf⟩ := bind_split hf
  obtain ⟨z', e3, hf⟩ := map_split hf
  cases hf
  refine PEw (pe_cmpR (op_eqD hu) pe_w pe_w hm) (ha.run L F0 H0 ρ D σ F H _ _ r e1 _ fun pp vs F1 H1 t1 k1 hl hvs => hb.run L F0 H0 ρ D1 σ F1 H1 _ _ (r.step t1 k1) e2 _ fun u F2 H2 t2 k2 hu' => ?_)
  unfold eqO at e3
  split at e3
  · rename_i hc
    cases e3
    rw [Bool.and_eq_true] at hc
    exact ⟨_, _, dpl k2.sub (hl F2 H2 t2) (dpa_mono t2.ex hvs), dp_mono k2.sub hu', hc.1, hc.2, q _ F2 H2 (t1.trans t2) k2 (.bl _)⟩
  · cases e3
theorem dt_of {fx : FE} {op : CmpOp} {r : R2} (ho : OpR X (compareOp op) r) (hm : behindInMarks op b = false) (h : ∀ L F0 H0 ρ D σ F H (k : Bool) D', Rep X.K L F0 H0 ρ D σ F H → fx ρ D = some (.bool k, D') → ∀ Q : Bool → Hp → Prop, (∀ F' H', Stp L F H F' H' → Ok L D' F' H' → Q k H') →
    tW X a σ H fun x H1 => tW X b σ H1 fun y H2 => r x y H2 fun z H3 => ∃ k, z = .bl k ∧ Q k H3) : DT X (.Compare a [op] [b] pos) (boolD fx) := by
  refine .mk ?_
  intro L F0 H0 ρ D σ F H k D' rr hf Q q
  exact PTw (pt_cmpR ho pe_w pe_w hm) (h L F0 H0 ρ D σ F H k D' rr (bool_split hf) Q q)
theorem dt_neL {fl : FL} (hu : X.A.units + 64 < cLine) (ha : DL X a fl) (hb : DE X b fb) (hm : behindInMarks .NotEq b = false) : DT X (.Compare a [.NotEq] [b] pos) (boolD (cmpLD neO fl fb)) :=
  dt_of (op_neD hu) hm fun L F0 H0 ρ D σ F H k D' r hf Q q => by
    obtain ⟨⟨xs, D1⟩, e1, hf⟩ := bind_split hf
    obtain ⟨⟨y, D2⟩, e2, hf⟩ := bind_split hf
    obtain ⟨z', e3, hf⟩ := map_split hf
    cases hf
    refine ha.run L F0 H0 ρ D σ F H _ _ r e1 _ fun pp vs F1 H1 t1 k1 hl hvs => hb.run L F0 H0 ρ D1 σ F1 H1 _ _ (r.step t1 k1) e2 _ fun u F2 H2 t2 k2 hu' => ?_
    unfold neO at e3
    split at e3
    · rename_i hc
      cases e3
      rw [Bool.and_eq_true] at hc
      exact ⟨_, _, dpl k2.sub (hl F2 H2 t2) (dpa_mono t2.ex hvs), dp_mono k2.sub hu', hc.1, hc.2, _, rfl, q F2 H2 (t1.trans t2) k2⟩
    · cases e3
theorem dt_eqL {fl : FL} (hu : X.A.units + 64 < cLine) (ha : DL X a fl) (hb : DE X b fb) (hm : behindInMarks .Eq b = false) : DT X (.Compare a [.Eq] [b] pos) (boolD (cmpLD eqO fl fb)) :=
  dt_of (op_eqD hu) hm fun L F0 H0 ρ D σ F H k D' r hf Q q => by
    obtain ⟨⟨xs, D1⟩, e1, hf⟩ := bind_split hf
    obtain ⟨⟨y, D2⟩, e2, hf⟩ := bind_split hf
    obtain ⟨z', e3, hf⟩ := map_split hf
    cases hf
    refine ha.run L F0 H0 ρ D σ F H _ _ r e1 _ fun pp vs F1 H1 t1 k1 hl hvs => hb.run L F0 H0 ρ D1 σ F1 H1 _ _ (r.step t1 k1) e2 _ fun u F2 H2 t2 k2 hu' => ?_
    unfold eqO at e3
    split at e3
    · rename_i hc
      cases e3
      rw [Bool.and_eq_true] at hc
      exact ⟨_, _, dpl k2.sub (hl F2 H2 t2) (dpa_mono t2.ex hvs), dp_mono k2.sub hu', hc.1, hc.2, _, rfl, q F2 H2 (t1.trans t2) k2⟩
    · cases e3

/-! ### in, not in -/
def intsD : List PyData → Option (List Int)
  | [] => some []
  | .int b :: r => (intsD r).map (b :: ·)
  | _ :: _ => none
theorem ints_ok {K : PySem.W.Frag} {F : Hp} : ∀ {vs : List V} {ds : List PyData} {bs : List Int}, DpAll K F vs ds → intsD ds = some bs → vs = bs.map V.int
  | _, _, _, .nil, h => by cases h; rfl
  | _, .int b :: r, bs, .cons h t, e => by
    obtain ⟨bs', e1, rfl⟩ := map_split (show (intsD r).map (b :: ·) = some bs from e)
    rw [dp_int h, ints_ok t e1]
    rfl
def seqOf : PyData → Option (List PyData)
  | .list xs => some xs
  | .tuple xs => some xs
  | _ => none
theorem seqOf_ok {K : PySem.W.Frag} {F : Hp} {v : V} {d : PyData} {xs : List PyData} (h : Dp K F v d) (e : seqOf d = some xs) : ∃ p vs, v = .ref p ∧ (SqL K F p vs ∨ SqT K F p vs) ∧ DpAll K F vs xs := by
  cases h with
  | lst a b => cases e; exact ⟨_, _, rfl, .inl a, b⟩
  | tup a b => cases e; exact ⟨_, _, rfl, .inr a, b⟩
  | _ => cases e
def inI (neg : Bool) : O2 := fun x y => (asI x).bind fun i => (seqOf y).bind fun ys => (intsD ys).map fun ns => .bool (if neg then !(ns.any (· == i)) else ns.any (· == i))
def inS (neg : Bool) : O2 := fun x y => (asS x).bind fun i => (seqOf y).bind fun ys => (strsD ys).map fun ns => .bool (if neg then !(ns.any (· == i)) else ns.any (· == i))
theorem any_int (i : Int) : ∀ ns : List Int, inV (.int i) (ns.map V.int) = ns.any (· == i)
  | [] => rfl
  | n :: ns => by
    have ih := any_int i ns
    unfold inV at ih ⊢
    rw [List.map_cons, List.any_cons, List.any_cons, ih]
    congr 1
theorem any_str (i : Str) : ∀ ns : List Str, inV (.str i) (ns.map V.str) = ns.any (· == i)
  | [] => rfl
  | n :: ns => by
    have ih := any_str i ns
    unfold inV at ih ⊢
    rw [List.map_cons, List.any_cons, List.any_cons, ih]
    congr 1
theorem flat_ints : ∀ ns : List Int, (ns.map V.int).all flatV = true
  | [] => rfl
  | n :: ns => by rw [List.map_cons, List.all_cons, flat_ints ns]; rfl
theorem flat_strs : ∀ ns : List Str, (ns.map V.str).all flatV = true
  | [] => rfl
  | n :: ns => by rw [List.map_cons, List.all_cons, flat_strs ns]; rfl
theorem in_int {neg : Bool} {op : CmpOp} (h : OpR X (compareOp op) (rIn X.K neg)) : OpS X (compareOp op) (inI neg) := .of h fun x y H Q ⟨L, D, F, dx, dy, dz, k, h1, h2, e, q⟩ => by
  obtain ⟨i, e1, e⟩ := bind_split e
  obtain ⟨ys, e2, e⟩ := bind_split e
  obtain ⟨ns, e3, ee⟩ := map_split e
  subst ee
  have e4 := asI_some e1
  subst e4
  obtain ⟨p, vs, rfl, s, a⟩ := seqOf_ok h2 e2
  rw [dp_int h1]
  have ev := ints_ok a e3
  subst ev
  refine ⟨p, _, rfl, s.elim (fun s => .inl (ex_l k.sub s)) (fun s => .inr (ex_t k.sub s)), rfl, flat_ints ns, ?_⟩
  rw [any_int]
  exact q _ F H Stp.refl k (.bl _)
theorem in_str {neg : Bool} {op : CmpOp} (h : OpR X (compareOp op) (rIn X.K neg)) : OpS X (compareOp op) (inS neg) := .of h fun x y H Q ⟨L, D, F, dx, dy, dz, k, h1, h2, e, q⟩ => by
  obtain ⟨i, e1, e⟩ := bind_split e
  obtain ⟨ys, e2, e⟩ := bind_split e
  obtain ⟨ns, e3, ee⟩ := map_split e
  subst ee
  have e4 := asS_some e1
  subst e4
  obtain ⟨p, vs, rfl, s, a⟩ := seqOf_ok h2 e2
  rw [dp_str h1]
  have ev := strs_ok a e3
  subst ev
  refine ⟨p, _, rfl, s.elim (fun s => .inl (ex_l k.sub s)) (fun s => .inr (ex_t k.sub s)), rfl, flat_strs ns, ?_⟩
  rw [any_str]
  exact q _ F H Stp.refl k (.bl _)
/-- one sign in a text -/
def inC (neg : Bool) : O2 := fun x y => (asS x).bind fun s => (asS y).bind fun z => if s.cps.toList.length = 1 then some (.bool (if neg then !decide (s.cps.toList.getD 0 0 ∈ z.cps.toList) else decide (s.cps.toList.getD 0 0 ∈ z.cps.toList))) else none
theorem one_sign {s : Str} (h : s.cps.toList.length = 1) : s = ⟨#[s.cps.toList.getD 0 0]⟩ := by
  obtain ⟨⟨l⟩⟩ := s
  match l, h with
  | [c], _ => rfl
theorem os_inC : OpS X (compareOp .In) (inC false) := .of op_in_sign fun x y H Q ⟨L, D, F, dx, dy, dz, k, h1, h2, e, q⟩ => by
  obtain ⟨s, e1, e⟩ := bind_split e
  obtain ⟨z, e2, e⟩ := bind_split e
  split at e
  · rename_i hc
    cases e
    have e4 := asS_some e1
    have e5 := asS_some e2
    subst e4 e5
    exact ⟨_, z, by rw [dp_str h1]; exact congrArg V.str (one_sign hc), dp_str h2, q _ F H Stp.refl k (.bl _)⟩
  · cases e
theorem os_notInC : OpS X (compareOp .NotIn) (inC true) := .of op_notIn_sign fun x y H Q ⟨L, D, F, dx, dy, dz, k, h1, h2, e, q⟩ => by
  obtain ⟨s, e1, e⟩ := bind_split e
  obtain ⟨z, e2, e⟩ := bind_split e
  split at e
  · rename_i hc
    cases e
    have e4 := asS_some e1
    have e5 := asS_some e2
    subst e4 e5
    exact ⟨_, z, by rw [dp_str h1]; exact congrArg V.str (one_sign hc), dp_str h2, q _ F H Stp.refl k (.bl _)⟩
  · cases e
def inO : O2 := orO (inI false) (orO (inS false) (inC false))
def notInO : O2 := orO (inI true) (orO (inS true) (inC true))
theorem os_in : OpS X (compareOp .In) inO := .or (in_int op_in_seq) (.or (in_str op_in_seq) os_inC)
theorem os_notIn : OpS X (compareOp .NotIn) notInO := .or (in_int op_notIn_seq) (.or (in_str op_notIn_seq) os_notInC)
def ltA : O2 := orO ltI ltO
theorem os_ltA (hu : X.A.units + 64 < cLine) : OpS X (compareOp .Lt) ltA := .or os_ltI (os_lt hu)
def isO : O2 := orO isB isNo
theorem os_is : OpS X (compareOp .Is) isO := .or os_isB os_isNo
end
end Den

end
-- DenJ
section
set_option Elab.async false
set_option linter.all false
set_option maxRecDepth 100000
set_option maxHeartbeats 1000000
namespace Den
open PySem PySem.Spec PyProof.Rows L2
variable [TB : Tabl]
/-! ### a draw -/
def drawAt (D : Dw) : Int := (D.2 + 1) % (D.1.length : Int)
def drawCell (D : Dw) : Int := D.1.getD (drawAt D).toNat 0
def mixA (x c : Int) : Int := (x + 104729 * c) % 4294967291
def mixB (m : Int) : Int := m ^ 5 % 4294967279
def mixC (m : Int) : Int := (m / 64 * 69621 + m) % 4294967231 / 8
def drawF (lim : Int) (D : Dw) : Int × Dw :=
  if 1000000000000000000 ≤ drawCell D then (drawCell D % lim, (D.1.set (drawAt D).toNat (drawCell D / lim), D.2 + 1))
  else (mixC (mixB (mixA (drawCell D) (D.2 + 1))) % lim, (D.1, D.2 + 1))
def drawOk (lim : Int) (D : Dw) : Bool := decide (0 < lim) && decide (lim < 1099511627776) && decide (0 < D.1.length) && decide (D.1.length ≤ 100000) && decide (0 ≤ D.2) && decide (D.2 < 1099511627776)
def drawO (lim : Int) (D : Dw) : Option (PyData × Dw) := if drawOk lim D then some (.int (drawF lim D).1, (drawF lim D).2) else none
theorem Ok.drawn {a b : Addr} {D : Dw} {F H : Hp} (k : Ok (some (a, b)) D F H) (ns : List Int) (c : Int) : Ok (some (a, b)) (ns, c) F (upd (upd H a (.lst [.ref b, .int c])) b (.lst (ns.map V.int))) ∧
    Stp (some (a, b)) F H F (upd (upd H a (.lst [.ref b, .int c])) b (.lst (ns.map V.int))) := by
  obtain ⟨h1, h2, h3⟩ := k.dr
  have fa := k.dF a (.inl (.inl rfl))
  have fb := k.dF b (.inl (.inr rfl))
  have ta : ¬ ∃ q, (a, q) ∈ TB.T := fun ⟨q, hq⟩ => by
    obtain ⟨ps, e, _⟩ := k.tab _ hq
    have e : H a = _ := e
    rw [h1] at e
    cases e
  have tb : ¬ ∃ q, (b, q) ∈ TB.T := fun ⟨q, hq⟩ => by
    obtain ⟨ps, e, _⟩ := k.tab _ hq
    have e : H b = _ := e
    rw [h2] at e
    cases e
  have h2' : upd H a (.lst [.ref b, .int c]) b = some (.lst (D.1.map V.int)) := by
    rw [upd_ne (fun z => h3 z.symm)]
    exact h2
  have tt : LamX.Tabs TB.T (upd (upd H a (.lst [.ref b, .int c])) b (.lst (ns.map V.int))) := tabs_upd (tabs_upd k.tab ta (not_code h1)) tb (not_code h2')
  refine ⟨⟨fun p o e => ?_, ⟨?_, upd_same, h3⟩, k.dF, tt⟩, ⟨Ex.refl F, fun p o e d => ?_, fun p _ h => h, fun p e => ?_⟩⟩
  · rw [upd_ne (ne_of_none e fb), upd_ne (ne_of_none e fa)]
    exact k.sub p o e
  · rw [upd_ne h3, upd_same]
  · rw [upd_ne (fun z => d (.inl (.inr z))), upd_ne (fun z => d (.inl (.inl z)))]
    exact e
  · by_cases hb : p = b
    · rw [hb, upd_same]; exact fun z => nomatch z
    · rw [upd_ne hb]
      by_cases ha : p = a
      · rw [ha, upd_same]; exact fun z => nomatch z
      · rw [upd_ne ha]; exact e

def rLenA (K : PySem.W.Frag) : List V → Hp → VK → Prop := fun xs H Q => ∃ p ys, xs = [V.ref p] ∧ (SqL K H p ys ∨ SqT K H p ys) ∧ Q (V.int ys.length) H
def tDraw (K : PySem.W.Frag) : TS :=
  tSeq (tAsg (tOp (rIxL K) (tVar 0) (tC (.int 0))) (gName 2))
  (tSeq (tAsg (tOp (rI0 fun i j => .int (i + j)) (tOp (rIxL K) (tVar 0) (tC (.int 1))) (tC (.int 1))) (gSub (tVar 0) (tC (.int 1)) rSetL))
  (tSeq (tAsg (tOp (rI (fun _ j => 0 < j) fun i j => .int (i % j)) (tOp (rIxL K) (tVar 0) (tC (.int 1))) (tCB (rLenA K) (tCons (tVar 2) tNil))) (gName 3))
  (tSeq (tAsg (tOp (rIxL K) (tVar 2) (tVar 3)) (gName 4))
  (tSeq (tIfS (tTest (tOp (rI0 fun i j => .bl (decide (j ≤ i))) (tVar 4) (tC (.int 1000000000000000000))))
      (tSeq (tAsg (tOp (rI CDivW fun i j => .int (i / j)) (tVar 4) (tVar 1)) (gSub (tVar 2) (tVar 3) rSetL)) (tRet (tOp (rI (fun _ j => 0 < j) fun i j => .int (i % j)) (tVar 4) (tVar 1)))) tNext)
  (tSeq (tAsg (tOp (rI (fun _ j => 0 < j) fun i j => .int (i % j)) (tOp (rI0 fun i j => .int (i + j)) (tVar 4) (tOp (rI CMulW fun i j => .int (i * j)) (tC (.int 104729)) (tOp (rIxL K) (tVar 0) (tC (.int 1))))) (tC (.int 4294967291))) (gName 5))
  (tSeq (tAsg (tOp (rI (fun _ j => 0 < j) fun i j => .int (i % j)) (tOp (rI CPow fun i j => .int (i ^ j.toNat)) (tVar 5) (tC (.int 5))) (tC (.int 4294967279))) (gName 5))
  (tRet (tOp (rI (fun _ j => 0 < j) fun i j => .int (i % j)) (tOp (rI CDiv fun i j => .int (i / j)) (tOp (rI (fun _ j => 0 < j) fun i j => .int (i % j)) (tOp (rI0 fun i j => .int (i + j)) (tOp (rI CMulW fun i j => .int (i * j)) (tOp (rI CDiv fun i j => .int (i / j)) (tVar 5) (tC (.int 64))) (tC (.int 69621))) (tVar 5)) (tC (.int 4294967231))) (tC (.int 8))) (tVar 1)))))))))
theorem atI_zero {α : Type} {x : α} {l : List α} : atI (x :: l) 0 = some x := by
  unfold atI ixN
  simp
theorem atI_one {α : Type} {x y : α} {l : List α} : atI (x :: y :: l) 1 = some y := by
  unfold atI ixN
  have h : (1 : Int) < ((x :: y :: l).length : Int) := by
    rw [List.length_cons, List.length_cons]
    omega
  rw [if_pos (by decide), if_pos h]
  rfl
theorem ixN_one : ixN 2 1 = some 1 := by decide
theorem atI_pos {α : Type} {l : List α} {i : Int} {x : α} (h0 : 0 ≤ i) (h1 : i < (l.length : Int)) (h : l[i.toNat]? = some x) : atI l i = some x := by
  unfold atI ixN
  rw [if_pos h0, if_pos h1]
  exact h
theorem ixN_pos {n : Nat} {i : Int} (h0 : 0 ≤ i) (h1 : i < (n : Int)) : ixN n i = some i.toNat := by
  unfold ixN
  rw [if_pos h0, if_pos h1]
theorem draw_read {K : PySem.W.Frag} {a b : Addr} {D : Dw} {F H : Hp} {lim : Int} {Q : VK} (k : Ok (some (a, b)) D F H) (hd : drawOk lim D = true)
    (q : ∀ F' H', Stp (some (a, b)) F H F' H' → Ok (some (a, b)) (drawF lim D).2 F' H' → Q (.int (drawF lim D).1) H') :
    tDraw K { nx := fun _ H' => Q .non H', rt := Q } [some (.ref a), some (.int lim), none, none, none, none] H := by
  obtain ⟨ns, c⟩ := D
  unfold drawOk at hd
  simp only [Bool.and_eq_true, decide_eq_true_eq] at hd
  obtain ⟨⟨⟨⟨⟨h1, h2⟩, h3⟩, h4⟩, h5⟩, h6⟩ := hd
  obtain ⟨hA, hB, hne⟩ := k.dr
  have hA' : H a = some (.lst [.ref b, .int c]) := hA
  have hB' : H b = some (.lst (ns.map V.int)) := hB
  -- numbers = draws[0]
  refine ⟨.ref a, rfl, a, _, 0, .ref b, rfl, rfl, .inl (.inl hA'), atI_zero, ?_⟩
  -- draws[1] = draws[1] + 1
  refine ⟨.ref a, rfl, a, _, 1, .int c, rfl, rfl, .inl (.inl hA'), atI_one, c, 1, rfl, rfl, ?_⟩
  refine ⟨.ref a, rfl, a, [.ref b, .int c], 1, 1, rfl, rfl, hA', ixN_one, ?_⟩
  have gA : upd H a (.lst [.ref b, .int (c + 1)]) a = some (.lst [.ref b, .int (c + 1)]) := upd_same
  have gB : upd H a (.lst [.ref b, .int (c + 1)]) b = some (.lst (ns.map V.int)) := by rw [upd_ne (Ne.symm hne)]; exact hB'
  show tSeq _ _ _ _ (upd H a (.lst [.ref b, .int (c + 1)]))
  have hlen : ((ns.map V.int).length : Int) = (ns.length : Int) := by rw [List.length_map]
  have hpos : (0 : Int) < (ns.length : Int) := by omega
  -- at
  refine ⟨.ref a, rfl, a, _, 1, .int (c + 1), rfl, rfl, .inl (.inl gA), atI_one, .ref b, rfl, b, _, rfl, .inl (.inl (.inl gB)), c + 1, _, rfl, rfl, by rw [hlen]; exact hpos, ?_⟩
  rw [hlen]
  have a0 : 0 ≤ (c + 1) % (ns.length : Int) := Int.emod_nonneg _ (by omega)
  have a1 : (c + 1) % (ns.length : Int) < (ns.length : Int) := Int.emod_lt_of_pos _ hpos
  have a2 : ((c + 1) % (ns.length : Int)).toNat < ns.length := by omega
  have cellE : ns[((c + 1) % (ns.length : Int)).toNat]? = some (drawCell (ns, c)) := by
    unfold drawCell drawAt
    rw [List.getD_eq_getElem?_getD, List.getElem?_eq_getElem a2]
    rfl
  -- cell
  refine ⟨.ref b, rfl, .int ((c + 1) % (ns.length : Int)), rfl, b, _, _, .int (drawCell (ns, c)), rfl, rfl, .inl (.inl gB), atI_pos a0 (by rw [hlen]; exact a1) (by rw [List.getElem?_map, cellE]; rfl), ?_⟩
  -- if cell >= ..
  refine ⟨.int (drawCell (ns, c)), rfl, drawCell (ns, c), 1000000000000000000, rfl, rfl, _, rfl, ite2 (fun hc => ?_) (fun hc => ?_)⟩
  · have hc : (1000000000000000000 : Int) ≤ drawCell (ns, c) := of_decide_eq_true hc
    have eF : drawF lim (ns, c) = (drawCell (ns, c) % lim, (ns.set (drawAt (ns, c)).toNat (drawCell (ns, c) / lim), c + 1)) := by
      unfold drawF
      rw [if_pos hc]
    rw [eF] at q
    refine ⟨.int (drawCell (ns, c)), rfl, .int lim, rfl, _, lim, rfl, rfl, wide_div (b := 64) h1 (by omega) (by decide) (by decide), ?_⟩
    refine ⟨.ref b, rfl, .int ((c + 1) % (ns.length : Int)), rfl, b, _, _, ((c + 1) % (ns.length : Int)).toNat, rfl, rfl, gB, ixN_pos a0 (by rw [hlen]; exact a1), ?_⟩
    refine ⟨.int (drawCell (ns, c)), rfl, .int lim, rfl, _, lim, rfl, rfl, h1, ?_⟩
    have em : (ns.map V.int).set ((c + 1) % (ns.length : Int)).toNat (.int (drawCell (ns, c) / lim)) = (ns.set (drawAt (ns, c)).toNat (drawCell (ns, c) / lim)).map V.int := by
      rw [List.map_set]
      rfl
    rw [em]
    obtain ⟨k2, s2⟩ := k.drawn (ns.set (drawAt (ns, c)).toNat (drawCell (ns, c) / lim)) (c + 1)
    exact q F _ s2 k2
  · have hc : ¬ (1000000000000000000 : Int) ≤ drawCell (ns, c) := fun z => hc (decide_eq_true z)
    have eF : drawF lim (ns, c) = (mixC (mixB (mixA (drawCell (ns, c)) (c + 1))) % lim, (ns, c + 1)) := by
      unfold drawF
      rw [if_neg hc]
    rw [eF] at q
    show tSeq _ _ _ _ _
    -- mixed
    refine ⟨.int (drawCell (ns, c)), rfl, .ref a, rfl, a, _, 1, .int (c + 1), rfl, rfl, .inl (.inl gA), atI_one, 104729, c + 1, rfl, rfl, wide_mul (a := 64) (b := 64) (by decide) (by omega) (by decide) (by decide) (by decide), _, _, rfl, rfl, _, 4294967291, rfl, rfl, (show (0 : Int) < 4294967291 by decide), ?_⟩
    have m0 : 0 ≤ mixA (drawCell (ns, c)) (c + 1) := Int.emod_nonneg _ (by decide)
    have m1 : mixA (drawCell (ns, c)) (c + 1) < 4294967291 := Int.emod_lt_of_pos _ (by decide)
    refine ⟨.int (mixA (drawCell (ns, c)) (c + 1)), rfl, mixA (drawCell (ns, c)) (c + 1), 5, rfl, rfl, ⟨by decide, by decide, by omega⟩, _, 4294967279, rfl, rfl, (show (0 : Int) < 4294967279 by decide), ?_⟩
    have n0 : 0 ≤ mixB (mixA (drawCell (ns, c)) (c + 1)) := Int.emod_nonneg _ (by decide)
    have n1 : mixB (mixA (drawCell (ns, c)) (c + 1)) < 4294967279 := Int.emod_lt_of_pos _ (by decide)
    refine ⟨.int (mixB (mixA (drawCell (ns, c)) (c + 1))), rfl, _, 64, rfl, rfl, ⟨by decide, by decide⟩, _, 69621, rfl, rfl, wide_mul (a := 64) (b := 64) (by omega) (by decide) (by decide) (by decide) (by decide), .int (mixB (mixA (drawCell (ns, c)) (c + 1))), rfl, _, _, rfl, rfl, _, 4294967231, rfl, rfl, (show (0 : Int) < 4294967231 by decide),
      _, 8, rfl, rfl, ⟨by decide, by decide⟩, .int lim, rfl, _, lim, rfl, rfl, h1, ?_⟩
    obtain ⟨k2, s2⟩ := k.drawn ns (c + 1)
    have hHH : upd (upd H a (.lst [.ref b, .int (c + 1)])) b (.lst (ns.map V.int)) = upd H a (.lst [.ref b, .int (c + 1)]) := by
      funext p
      by_cases hp : p = b
      · rw [hp, upd_same]; exact gB.symm
      · rw [upd_ne hp]
    rw [hHH] at k2 s2
    exact q F _ s2 k2
def drawPhi : Fn := fun as D => match as with
  | [.drw, .d (.int lim)] => drawO lim D
  | _ => none
theorem draw_done {K : PySem.W.Frag} {L : Loc} {D D' : Dw} {F H : Hp} {vs : List V} {as : List AV} {y : PyData} {Q : VK} (hk : Ok L D F H) (ha : ArgsOk K L F vs as) (e : drawPhi as D = some (y, D'))
    (q : ∀ v F' H', Stp L F H F' H' → Ok L D' F' H' → Dp K F' v y → Q v H') : ∃ a lim, vs = [.ref a, .int lim] ∧ tDraw K { nx := fun _ H' => Q .non H', rt := Q } [some (.ref a), some (.int lim), none, none, none, none] H := by
  match as, ha, e with
  | [.drw, .d (.int lim)], .cons h1 (.cons h3 .nil), e =>
    obtain ⟨a, b, h1, h2⟩ := h1
    subst h1 h2
    have h4 := dp_int h3
    subst h4
    have e : (if drawOk lim D then some (PyData.int (drawF lim D).1, (drawF lim D).2) else none) = some (y, D') := e
    split at e
    · rename_i hc
      cases e
      exact ⟨a, lim, rfl, draw_read hk hc fun F' H' t k => q _ F' H' t k (.int _)⟩
    · cases e
end Den

end
-- DenK
section
set_option Elab.async false
set_option linter.all false
set_option maxRecDepth 100000
set_option maxHeartbeats 1000000
namespace Den
open PySem PySem.Spec PyProof.Rows L2
variable [TB : Tabl]
/-! ### what may be compared -/
theorem shaped_of {d : PyData} (h1 : d.canLay0 = true) (h2 : d.depth ≤ 64) : SeqAt.shaped d = true := by
  unfold SeqAt.shaped
  rw [h1, decide_eq_true h2]
  rfl
theorem canAll {f : PyData → Bool} : ∀ {xs : List PyData}, (∀ x ∈ xs, x.canLay0 = true) → PyData.canLayAll0 xs = true
  | [], _ => rfl
  | x :: xs, h => by
    rw [PyData.canLayAll0, h x List.mem_cons_self, canAll (f := f) fun y hy => h y (List.mem_cons_of_mem _ hy)]
    rfl
theorem depAll {n : Nat} : ∀ {xs : List PyData}, (∀ x ∈ xs, x.depth ≤ n) → PyData.depthAll xs ≤ n
  | [], _ => Nat.zero_le _
  | x :: xs, h => by
    rw [PyData.depthAll]
    exact Nat.max_le.mpr ⟨h x List.mem_cons_self, depAll fun y hy => h y (List.mem_cons_of_mem _ hy)⟩
/-- data of a depth below n that may be laid -/
structure Shp (n : Nat) (d : PyData) : Prop where
  can : d.canLay0 = true
  dep : d.depth ≤ n
theorem Shp.ok {n : Nat} {d : PyData} (h : Shp n d) (hn : n ≤ 64) : SeqAt.shaped d = true := shaped_of h.can (Nat.le_trans h.dep hn)
theorem Shp.mono {n m : Nat} {d : PyData} (h : Shp n d) (hn : n ≤ m) : Shp m d := ⟨h.can, Nat.le_trans h.dep hn⟩
theorem shp_int {i : Int} : Shp 0 (.int i) := ⟨by rw [PyData.canLay0], by rw [PyData.depth]; exact Nat.le_refl _⟩
theorem shp_bool {i : Bool} : Shp 0 (.bool i) := ⟨by rw [PyData.canLay0], by rw [PyData.depth]; exact Nat.le_refl _⟩
theorem shp_none : Shp 0 .none := ⟨by rw [PyData.canLay0], by rw [PyData.depth]; exact Nat.le_refl _⟩
theorem shp_str {s : Str} (h : PyData.strOk s = true) : Shp 0 (.str s) := ⟨by rw [PyData.canLay0]; exact h, by rw [PyData.depth]; exact Nat.le_refl _⟩
theorem shp_list {n : Nat} {xs : List PyData} (h : ∀ x ∈ xs, Shp n x) : Shp (n + 1) (.list xs) := ⟨by rw [PyData.canLay0]; exact canAll (f := fun _ => true) fun x hx => (h x hx).can, by rw [PyData.depth]; exact Nat.succ_le_succ (depAll fun x hx => (h x hx).dep)⟩
theorem shp_tup {n : Nat} {xs : List PyData} (h : ∀ x ∈ xs, Shp n x) : Shp (n + 1) (.tuple xs) := ⟨by rw [PyData.canLay0]; exact canAll (f := fun _ => true) fun x hx => (h x hx).can, by rw [PyData.depth]; exact Nat.succ_le_succ (depAll fun x hx => (h x hx).dep)⟩
theorem shp_ints (ns : List Int) : Shp 1 (.list (ns.map .int)) := shp_list fun x hx => by
  obtain ⟨i, _, rfl⟩ := List.mem_map.mp hx
  exact shp_int
theorem dpa_ints {K : PySem.W.Frag} {H : Hp} : ∀ ns : List Int, DpAll K H (ns.map V.int) (ns.map PyData.int)
  | [] => .nil
  | n :: ns => .cons (.int n) (dpa_ints ns)

/-! ### the law's start -/
def spStart (K : PySem.W.Frag) : Sp := fun vs H Q _ => ∃ (s : Addr) (ns : List Int), vs = [.ref s] ∧ SqL K H s (ns.map V.int) ∧ ns.length ≤ 63 ∧
  ∀ a b H', Ex H H' → H a = none → H b = none → a ≠ b → H' a = some (.lst [.ref b, .int 0]) → H' b = some (.lst ((if ns = [] then [0] else ns).map V.int)) → Q (.ref a) H'
def rListA (K : PySem.W.Frag) : List V → Hp → VK → Prop := fun xs H Q => ∃ p ys, xs = [V.ref p] ∧ (SqL K H p ys ∨ SqT K H p ys) ∧ ∀ l, H l = none → Q (.ref l) (upd H l (.lst ys))
def tStart (K : PySem.W.Frag) : TS := tRet (tLst (tCons (tIf (tTest (tOp (rNeD K) (tVar 0) (tLst tNil))) (tCB (rListA K) (tCons (tVar 0) tNil)) (tLst (tCons (tC (.int 0)) tNil))) (tCons (tC (.int 0)) tNil)))
theorem start_read {K : PySem.W.Frag} {H : Hp} {s : Addr} {ns : List Int} {Q : VK} (hS : SqL K H s (ns.map V.int)) (hn : ns.length ≤ 63)
    (q : ∀ a b H', Ex H H' → H a = none → H b = none → a ≠ b → H' a = some (.lst [.ref b, .int 0]) → H' b = some (.lst ((if ns = [] then [0] else ns).map V.int)) → Q (.ref a) H') :
    tStart K { nx := fun _ H' => Q .non H', rt := Q } [some (.ref s)] H := by
  show tIf _ _ _ _ _ _
  refine ⟨.ref s, rfl, Nat.zero_le _, fun l hl => ?_⟩
  have xl : Ex H (upd H l (.lst [])) := Ex.new hl
  have e0 : PyData.eqv (.list (ns.map .int)) (.list []) = ns.isEmpty := by
    rw [PyData.eqv]
    cases ns with
    | nil => rfl
    | cons n ns => rfl
  refine ⟨.list (ns.map .int), .list [], .lst (ex_l xl hS) (dpa_ints ns), .lst (.inl (.inl upd_same)) .nil, (shp_ints ns).ok (by decide), (shp_ints []).ok (by decide), _, rfl, ?_⟩
  rw [e0]
  have two2 : ∀ (b : Addr) (H2 : Hp) (ms : List Int), Ex H H2 → H b = none → H2 b = some (.lst (ms.map V.int)) → (if ns = [] then [0] else ns) = ms →
      (tCons (tC (V.int 0)) tNil) [some (.ref s)] H2 fun xs H3 => (V.ref b :: xs).length ≤ sizeLine ∧ ∀ p, H3 p = none → Q (.ref p) (upd H3 p (.lst (V.ref b :: xs))) := by
    intro b H2 ms x2 nb hb em
    refine ⟨show 2 ≤ sizeLine by decide, fun a na => ?_⟩
    have hba : b ≠ a := ne_of_none hb na
    refine q a b _ (x2.trans (Ex.new na)) (x2.back na) nb (Ne.symm hba) upd_same ?_
    rw [upd_ne hba, hb, em]
  cases ns with
  | nil =>
    refine iteF ⟨show 1 ≤ sizeLine by decide, fun b nb => ?_⟩
    exact two2 b _ [0] (xl.trans (Ex.new nb)) (xl.back nb) upd_same rfl
  | cons n ns =>
    refine iteT ⟨.ref s, rfl, s, _, rfl, .inl (ex_l xl hS), fun b nb => ?_⟩
    exact two2 b _ (n :: ns) (xl.trans (Ex.new nb)) (xl.back nb) upd_same (if_neg (List.cons_ne_nil _ _))
theorem start_done {K : PySem.W.Frag} {H : Hp} {vs : List V} {Q : VK} {E : XK} (h : spStart K vs H Q E) : ∃ s, vs = [.ref s] ∧ tStart K { nx := fun _ H' => Q .non H', rt := Q } [some (.ref s)] H := by
  obtain ⟨s, ns, rfl, hS, hn, q⟩ := h
  exact ⟨s, rfl, start_read hS hn q⟩

/-! ### the law -/
def spLaw (K : PySem.W.Frag) : Sp := fun vs H Q _ => ∃ (a : Addr) (ns : List Int), vs = [.ref a] ∧ SqL K H a (ns.map V.int) ∧ ns.length ≤ 63 ∧ LamX.Tabs TB.T H ∧ ∀ H', Q (.bl true) H'
def lawEnv (n : Nat) : Env := none :: some .drw :: List.replicate n none
section
variable {P : Program} {w : World} {K : PySem.W.Frag} {mg : Str → Option Value} {base : Heap}
theorem law_ok {st : Stmt} {f : Addr} {fd : FuncData} {N : List Str} {n k : Nat} {g : FS} {s0 : Stmt} {rest : List Stmt} (F : Fun K "law" "law" st f fd) (S : FnScope N ["_law_script"] (defScope st)) (hN : N.length = n + 2) (hbody : defBody st = s0 :: rest)
    (h0 : ∀ (cdv : Value) (A : Around) (outer : List PySem.Env) (s : Shared) (H : Hp) (E : XK), Room k (A.deeper (envOfC "law" (defScope st) s.heap.objs.size f cdv)) → PS (cxOf CX0 P w K mg base N "law" (defScope st) f cdv A outer s H E).nox s0 (tAsg (tCall (spStart K) [] E0 (tCons (tVar 0) tNil)) (gName 1)))
    (hb : ∀ (cdv : Value) (A : Around) (outer : List PySem.Env) (s : Shared) (H : Hp) (E : XK), Room k (A.deeper (envOfC "law" (defScope st) s.heap.objs.size f cdv)) → DB (cxOf CX0 P w K mg base N "law" (defScope st) f cdv A outer s H E).nox rest g)
    (hg : ∀ ns : List Int, 0 < ns.length → ns.length ≤ 63 → ∃ D', g (lawEnv n) (ns, 0) = some (.rt (.bool true) D')) : FnOk P w K mg base CX0 (k + 1) f fd ["_law_script"] (spLaw K) := by
  refine F.ok S (fun vs H Q E h => ?_) fun cdv A outer s H vs Q E hr h => ?_
  · obtain ⟨a, ns, rfl, _⟩ := h
    rfl
  · obtain ⟨sa, ns, rfl, hS, hn, hT, q⟩ := h
    rw [hbody]
    refine ⟨_, pss_cons (h0 cdv A outer s H E hr) pss_w, ?_⟩
    have e1 : L2.start N [V.ref sa] = some (V.ref sa) :: none :: List.replicate n none := by
      unfold L2.start
      rw [hN]
      show some (V.ref sa) :: List.replicate (n + 1) none = _
      rfl
    rw [e1]
    refine ⟨.ref sa, rfl, sa, ns, rfl, hS, hn, fun a b H1 x1 na nb hab hA hB => ?_⟩
    show tWB _ rest _ (some (V.ref sa) :: some (V.ref a) :: List.replicate n none) H1
    have hms : 0 < (if ns = [] then [(0 : Int)] else ns).length ∧ (if ns = [] then [(0 : Int)] else ns).length ≤ 63 := by
      cases ns with
      | nil => exact ⟨by decide, by decide⟩
      | cons m ms => rw [if_neg (List.cons_ne_nil _ _)]; exact ⟨by simp, hn⟩
    obtain ⟨D', e2⟩ := hg _ hms.1 hms.2
    refine (hb cdv A outer s H E hr).run (some (a, b)) (fun _ => none) H1 (lawEnv n) ((if ns = [] then [0] else ns), 0) _ (fun _ => none) H1 _ _ ?_ e2 ?_
    · have nf : ∀ i (x : AV), (lawEnv n)[i]? = some (some x) → i = 1 ∧ x = .drw := fun i x e => by
        match i, e with
        | 0, e => cases e
        | 1, e => cases e; exact ⟨rfl, rfl⟩
        | i + 2, e =>
          have e : (List.replicate n (none : Option AV))[i]? = some (some x) := e
          rw [List.getElem?_replicate] at e
          split at e <;> cases e
      refine ⟨⟨(fun _ _ e => by cases e), ⟨hA, hB, hab⟩, fun _ _ => rfl, hT.ext x1⟩, Stp.refl, by unfold lawEnv; simp, fun i x e => ?_, fun i j xs ys p e1 _ _ _ => ?_⟩
      · obtain ⟨rfl, rfl⟩ := nf i x e
        exact ⟨_, rfl, a, b, rfl, rfl⟩
      · cases (nf i _ e1).2
    · exact fun v F1 H2 t k hv => by rw [dp_bl hv]; exact q H2
end
end Den

end
-- DenQ
section
set_option Elab.async false
set_option linter.all false
set_option maxRecDepth 100000
set_option maxHeartbeats 1000000
namespace Den
open PySem PySem.Spec PyProof.Rows L2
variable [TB : Tabl]
/-! ### sorting by keys that are any data: the machine -/
theorem freed_get (h : Heap) (p : Addr) : (h.update p fun o => { o with data := .freed }).get? p = none := by
  obtain ⟨os, l⟩ := h
  unfold Heap.get? Heap.update
  show (match (os.modify p _)[p]? with
    | some ⟨_, _, .freed, _⟩ => none
    | o => o) = none
  rw [Array.getElem?_modify, if_pos rfl]
  cases os[p]? <;> rfl
section
variable {prog : Program} {w : World} {A : Around} {E : Value → Shared → Prop} {s : Shared} {a kS : Addr} {b : Bool} {vs : List Value} {kz : List PyData} {P : PySem.Fin → Shared → Prop}
/-- what holds of the run: the keys' list at kS, the emptied list at a -/
structure KeyRun (prog : Program) (w : World) (A : Around) (f : Value) (a kS : Addr) (e1 : Nat) (vs : List Value) (kz : List PyData) (J : Nat → List Value → Shared → Prop) : Prop where
  obj : ∀ i ks s', J i ks s' → (∃ e, s'.heap.get? kS = some (seqObj "list" ks.toArray e)) ∧ s'.heap.get? a = some (seqObj "list" #[] e1) ∧ ks.length = i
  turn : ∀ i v ks s', vs[i]? = some v → J i ks s' → wpAny (model prog w) A (call f [v]) (fun k s2 => (∃ e, s2.heap.get? kS = some (seqObj "list" ks.toArray e)) ∧ J (i + 1) (ks ++ [k]) { s2 with heap := s2.heap.update kS (Obj.mapSeq (·.push k)) }) (fun _ _ => False) s'
  reads : ∀ ks s', J vs.length ks s' → PySem.W.EachIs (fun v k => ∃ as, Reads s'.heap v k as) ks kz
theorem keyed_rest {f : Value} {e1 : Nat} {J : Nat → List Value → Shared → Prop} (R : KeyRun prog w A f a kS e1 vs kz J) (hka : kS ≠ a) (hl : kz.length = vs.length) (hz : vs.length ≤ sizeLine)
    (hal : PySem.W.AllAlike kz) (hsk : PySem.W.Sortable kz) (hu : ∀ d ∈ kz, A.units + d.depth < cLine) (h0 : J 0 [] s)
    (fin : ∀ ks s' h' tk out c, J vs.length ks s' → (∀ p o, p ≠ a → p ≠ kS → s'.heap.get? p = some o → h'.get? p = some o) → h'.get? a = some (seqObj "list" (List.toArray out) c) → PySem.W.KeyedOut b kz vs out → P (.done (.ret .none)) { s' with heap := h', toks := tk }) :
    wpAny (model prog w) A (ksk_rest a f b vs.toArray e1 (.ref kS)) P E s := by
  unfold ksk_rest
  refine wpAny_bind (wpAny_rule ?_)
  rw [List.forIn_toArray]
  refine wpAny_bind (ksk_fold (fun i s' => ∃ ks, J i ks s') vs 0 s ⟨[], h0⟩ ?_ ?_)
  · rintro j x s' hx ⟨ks, hJ⟩
    rw [Nat.zero_add] at hJ ⊢
    have hj := (List.getElem?_eq_some_iff.mp hx).1
    obtain ⟨_, _, hlen⟩ := R.obj _ _ _ hJ
    refine wpAny_bind (wpAny_attempt (wpAny_mono (R.turn j x ks s' hx hJ) (fun k s2 hk => ?_) fun _ _ z => z.elim))
    obtain ⟨⟨e, hk1⟩, hk2⟩ := hk
    dsimp only
    have hs : ks.toArray.size ≤ sizeLine := by rw [List.size_toArray]; omega
    refine wpAny_bind (listUpdate_at hk1 rfl ?_ hs (by rw [Array.size_push]; omega))
    exact wpAny_pure ⟨rfl, _, hk2⟩
  · rintro s' ⟨ks, hJ⟩
    rw [Nat.zero_add] at hJ
    obtain ⟨⟨e, hk⟩, ha, hlen⟩ := R.obj _ _ _ hJ
    refine wpAny_bind (listItems_at hk rfl ?_)
    have hr := R.reads _ _ hJ
    have S := PySem.W.SortsAt.data (prog := prog) (w := w) (A := A) (s := s') hr hal hsk hu
    have kp : PySem.W.KeepsBut a (s'.heap.update kS fun o => { o with data := .freed }) s'.heap := fun p o hp q => by
      by_cases hpk : p = kS
      · rw [hpk, freed_get] at q
        cases q
      · rw [Heap.get?_update_ne _ _ _ _ hpk] at q
        exact q
    refine PySem.W.keyH_end (κ := PySem.W.dataKind s'.heap kz) kp (freed_get _ _) hk ha hka (by simpa using S) (by rw [List.size_toArray]; exact hlen) hz fun h' tk c k2 n2 => ?_
    refine fin ks s' h' tk _ c hJ (fun p o hp hpk q => k2 p o hp ?_) n2 ⟨s'.heap, ks, hal, by simp, hr⟩
    rw [Heap.get?_update_ne _ _ _ _ hpk]
    exact q
theorem keyed_tree {f : Value} {n : Nat} (ho : s.heap.get? a = some (seqObj "list" vs.toArray n)) (hl : kz.length = vs.length) (hz : vs.length ≤ sizeLine)
    (hal : PySem.W.AllAlike kz) (hsk : PySem.W.Sortable kz) (hu : ∀ d ∈ kz, A.units + d.depth < cLine) (h : ∀ e1, (PySem.W.sortingHeap s.heap a vs).get? a = some (seqObj "list" #[] e1) → (PySem.W.sortingHeap s.heap a vs).get? (s.heap.objs.size + 1) = some (seqObj "list" #[] 0) →
      ∃ J, KeyRun prog w A f a (s.heap.objs.size + 1) e1 vs kz J ∧ J 0 [] { s with heap := PySem.W.sortingHeap s.heap a vs } ∧
        ∀ ks s' h' tk out c, J vs.length ks s' → (∀ p o, p ≠ a → p ≠ s.heap.objs.size + 1 → s'.heap.get? p = some o → h'.get? p = some o) → h'.get? a = some (seqObj "list" (List.toArray out) c) → PySem.W.KeyedOut b kz vs out → P (.done (.ret .none)) { s' with heap := h', toks := tk }) :
    wpAny (model prog w) A (ksk_tree a f b) P E s := by
  have hlt : a < s.heap.objs.size := Heap.lt_size ho
  obtain ⟨e1, ho1⟩ : ∃ e1, (s.heap.update a (Obj.mapSeq fun _ => (#[] : Array Value))).get? a = some (seqObj "list" #[] e1) := ⟨_, get?_update_seq ho fun _ => #[]⟩
  have sz : ((s.heap.update a (Obj.mapSeq fun _ => (#[] : Array Value))).push (seqObj "tuple" vs.toArray 0)).objs.size = s.heap.objs.size + 1 := by
    rw [size_push', Heap.size_update]
  have g1 : (PySem.W.sortingHeap s.heap a vs).get? a = some (seqObj "list" #[] e1) := Heap.get?_push_of_some _ (Heap.get?_push_of_some _ ho1)
  have g2 : (PySem.W.sortingHeap s.heap a vs).get? (s.heap.objs.size + 1) = some (seqObj "list" #[] 0) := by
    unfold PySem.W.sortingHeap
    rw [← sz]
    exact Heap.get?_push_size _ rfl
  obtain ⟨J, R, h0, fin⟩ := h e1 g1 g2
  unfold ksk_tree
  refine wpAny_bind (listItems_at ho rfl ?_)
  refine wpAny_bind (listUpdate_at ho rfl ?_ (by rw [List.size_toArray]; exact hz) (Nat.zero_le _))
  refine wpAny_bind (seqEpoch_at ho1 rfl ?_)
  refine wpAny_bind (wpAny_newTuple ?_ (by show vs.length ≤ _; exact hz))
  refine wpAny_bind (wpAny_newList ?_ (Nat.zero_le _))
  refine wpAny_holding ?_
  have q := keyed_rest (E := E) (s := { s with heap := PySem.W.sortingHeap s.heap a vs }) R (Nat.ne_of_gt (Nat.lt_succ_of_lt hlt)) hl hz hal hsk hu h0 fin
  rw [← sz] at q
  exact q
/-- sorted(xs, key=f, ..): the list at s.heap.objs.size + 1 is the answer's -/
theorem keyed_sorted {l : Addr} {f : Value} {kw : List (Str × Value)} {Q : Value → Shared → Prop} (hL : s.heap.IsList l vs.toArray) (hl : kz.length = vs.length) (hz : vs.length ≤ sizeLine)
    (hal : PySem.W.AllAlike kz) (hsk : PySem.W.Sortable kz) (hu : ∀ d ∈ kz, A.units + 2 + d.depth < cLine) (ha1 : argsOk "sorted" ⟨[.ref l], kw⟩) (ha2 : ∀ x, argsOk "list.sort" ⟨[.ref x], kw⟩) (ht : ∀ x, Builtin.«list.sort» ⟨[.ref x], kw⟩ = ksk_tree x f b)
    (h : ∀ (e1 : Nat) (kS : Addr) (g : Heap), (∀ p o, s.heap.get? p = some o → g.get? p = some o) → s.heap.objs.size + 1 < kS → g.get? (s.heap.objs.size + 1) = some (seqObj "list" #[] e1) → g.get? kS = some (seqObj "list" #[] 0) →
      ∃ J, KeyRun prog w A.in1.in1 f (s.heap.objs.size + 1) kS e1 vs kz J ∧ J 0 [] { s with heap := g } ∧
        ∀ ks s' h' tk out c, J vs.length ks s' → (∀ p o, p ≠ s.heap.objs.size + 1 → p ≠ kS → s'.heap.get? p = some o → h'.get? p = some o) → h'.get? (s.heap.objs.size + 1) = some (seqObj "list" (List.toArray out) c) → PySem.W.KeyedOut b kz vs out → Q (.ref (s.heap.objs.size + 1)) { s' with heap := h', toks := tk }) :
    wpAny (model prog w) A (call (.builtin "sorted") [.ref l] kw) Q E s := by
  refine PySem.W.sorted_of_sort hL hz ha1 ha2 fun E' => ?_
  rw [ht]
  have sz : s.heap.objs.size + 1 < (PySem.W.copyHeap s.heap vs).objs.size := Heap.lt_size (PySem.W.copyHeap_at s.heap vs)
  refine keyed_tree (s := { s with heap := PySem.W.copyHeap s.heap vs }) (PySem.W.copyHeap_at s.heap vs) hl hz hal hsk hu fun e1 g1 g2 => ?_
  obtain ⟨J, R, h0, fin⟩ := h e1 _ _ (fun p o q => PySem.W.sortingHeap_old (Nat.ne_of_lt (Nat.lt_succ_of_lt (Heap.lt_size q))) (PySem.W.copyHeap_old q)) (Nat.lt_succ_of_lt sz) g1 g2
  exact ⟨J, R, h0, fun ks s' h' tk out c a1 a2 a3 a4 => ⟨rfl, fin ks s' h' tk out c a1 a2 a3 a4⟩⟩
end
end Den

end
-- DenR
section
set_option Elab.async false
set_option linter.all false
set_option maxRecDepth 100000
set_option maxHeartbeats 1000000
namespace Den
open PySem PySem.Spec PyProof.Rows L2
variable [TB : Tabl]
/-! ### a lambda is made -/
section
variable {X : Cx} {pins : List (Addr × Obj)} {σ : L2.St} {H : Hp} {s : Shared}
/-- what the making leaves of the heap: a code object may be new, the table longer -/
def Made (H H1 : Hp) (P c' : Addr) (q : Str) : Prop := H1 = H ∨ ∃ ps more, H P = some (.tbl ps) ∧ H c' = none ∧ H1 = upd (upd H P (.tbl (ps ++ more))) c' (LamX.CodeO c' q)
theorem lam_made {c P : Addr} {q : Str} {params : Arguments} {body : Expr} {scope : Scope} {pos : Pos} {E : Value → Shared → Prop} {Q : Value → Shared → Prop} (I : Inv X pins σ H s) (B : LamX.TabB X.base X.mg c P) (hcode : X.env.code = .ref c) (hq : X.env.qual ++ "<lambda>" = q)
    (hT : LamX.TabS H P q) (hdef : defaultsOf params X.env = ([], [])) (hfree : ∀ y ∈ scope.names, y.2 = .free → ∃ c, X.env.cells.lookup y.1 = some c)
    (h : ∀ (f c' : Addr) (pm ctv : Value) (H1 : Hp) (s' : Shared), Inv X pins σ H1 s' → Made H H1 P c' q → LamX.TabS H1 P q → H1 c' = some (LamX.CodeO c' q) →
      s'.heap.get? f = some (PySem.W.kla_obj "<lambda>" q params body scope (cloFrom X.env.cells scope.names []) pm c' ctv) → FpOk X pins H1 f → Q (.ref f) s') :
    wpAny (model X.prog X.w) X.A (eval (.Lambda params body scope pos) X.env) Q E s := by
  obtain ⟨ps, hP, hTr, hAm⟩ := hT
  subst hq
  refine PySem.W.kla_eval hdef ?_
  have bP := B.bm.keeps I.bk
  have rawP : s.heap.get? P = some { cls := .none, data := .fields ps } := I.hok P _ hP
  cases hc : codeAmong pos ps.toList with
  | some cv =>
    obtain ⟨c', e, hco⟩ := hAm pos cv hc
    subst e
    refine PySem.W.kla_makeFunctionHit (mg := X.mg) (c := c) (P := P) (ps := ps) (closure_ok hfree) I.ok.glob (I.mod.glob.keeps I.bk) hcode (B.code.keeps I.bk) rawP hTr hc bP fun ctv g tk hk hz => ?_
    have I1 : Inv X pins σ H { s with heap := g.push (PySem.W.kla_obj "<lambda>" (X.env.qual ++ "<lambda>") params body scope (cloFrom X.env.cells scope.names []) ((X.mg "__name__").getD .none) c' ctv), toks := tk } := I.kept fun b o z => Heap.get?_push_of_some _ (hk b o z)
    exact h g.objs.size c' _ ctv H _ I1 (.inl rfl) ⟨ps, hP, hTr, hAm⟩ hco (Heap.get?_push_size _ rfl) (I.fpOk hz (I.hok.fresh hz))
  | none =>
    refine PySem.W.kla_makeFunction (mg := X.mg) (c := c) (P := P) (ps := ps) (closure_ok hfree) I.ok.glob (I.mod.glob.keeps I.bk) hcode (B.code.keeps I.bk) rawP hTr hc B.gP bP fun c' ctv g tk hx hge hlt hrec htb => ?_
    obtain ⟨c2, oc, vs, t, e2, hoc, hd, hv⟩ := hrec
    cases e2
    have hz : s.heap.objs.size ≤ g.objs.size := Nat.le_trans hge (Nat.le_of_lt hlt)
    have nC : H c' = none := I.hok.fresh hge
    have nF : H g.objs.size = none := I.hok.fresh hz
    have I1 := LamX.inv_table (q := X.env.qual ++ "<lambda>") (t' := tk) (more := #[rawInt pos.line, rawInt pos.col, .ref c']) (h' := g.push (PySem.W.kla_obj "<lambda>" (X.env.qual ++ "<lambda>") params body scope (cloFrom X.env.cells scope.names []) ((X.mg "__name__").getD .none) c' ctv)) I hP
      (fun b o hb z => Heap.get?_push_of_some _ (hx b o hb z)) (Heap.get?_push_of_some _ htb) hge ⟨oc, vs, t, Heap.get?_push_of_some _ hoc, hd, hv⟩
    have nPc : P ≠ c' := ne_of_none hP nC
    have n1 : g.objs.size ≠ c' := Nat.ne_of_gt hlt
    have n2 : g.objs.size ≠ P := Nat.ne_of_gt (Nat.lt_of_lt_of_le (Heap.lt_size rawP) hz)
    refine h g.objs.size c' _ ctv _ _ I1 (.inr ⟨ps, _, hP, nC, rfl⟩) ⟨_, by rw [upd_ne nPc, upd_same], ?_, fun p' cv hcv => ?_⟩ upd_same (Heap.get?_push_size _ rfl) (I.fpOk hz (by rw [upd_ne n1, upd_ne n2]; exact nF))
    · have eL : (ps ++ #[rawInt pos.line, rawInt pos.col, Value.ref c']).toList = ps.toList ++ [rawInt pos.line, rawInt pos.col, .ref c'] := by simp
      rw [eL]
      exact PySem.TriplesOk_snoc _ _ _ _ hTr
    · have eL : (ps ++ #[rawInt pos.line, rawInt pos.col, Value.ref c']).toList = ps.toList ++ [rawInt pos.line, rawInt pos.col, .ref c'] := by simp
      rw [eL] at hcv
      rcases LamX.among_app _ hTr hcv with z | z
      · obtain ⟨c0, e1, e3⟩ := hAm p' cv z
        have m1 : c0 ≠ P := fun z => by
          rw [z, hP] at e3
          exact LamX.codeO_ne ps (Option.some.inj e3).symm
        exact ⟨c0, e1, by rw [upd_ne (ne_of_none e3 nC), upd_ne m1]; exact e3⟩
      · exact ⟨c', z, upd_same⟩
/-- .. and the data keep standing -/
theorem Made.ok {L : Loc} {D : Dw} {F H1 : Hp} {P c' : Addr} {q : Str} (m : Made H H1 P c' q) (k : Ok L D F H) (hm : (P, q) ∈ TB.T) (hu : ∀ x ∈ TB.T, x.1 = P → x.2 = q) (t : LamX.TabS H1 P q) : Ok L D F H1 ∧ Stp L F H F H1 := by
  rcases m with e | ⟨ps, more, hP, nC, e⟩
  · rw [e]
    exact ⟨k, Stp.refl⟩
  · have dP : isD L P := .inr ⟨q, hm⟩
    have at_ : ∀ p, p ≠ P → p ≠ c' → H1 p = H p := fun p h1 h2 => by rw [e, upd_ne h2, upd_ne h1]
    have nc : ∀ p, H p ≠ none → p ≠ c' := fun p h z => h (by rw [z]; exact nC)
    have ne : ∀ {u : HO}, some u ≠ (none : Option HO) := fun z => by cases z
    refine ⟨⟨fun p o h => ?_, ?_, k.dF, fun x hx => ?_⟩, ⟨Ex.refl F, fun p o h d => ?_, fun p _ h => h, fun p h => ?_⟩⟩
    · have h1 := k.sub p o h
      rw [at_ p (fun z => by rw [z, k.dF _ dP] at h; cases h) (nc p (by rw [h1]; exact ne))]
      exact h1
    · have hd := k.dr
      match L, hd with
      | none, _ => trivial
      | some (a, b), ⟨h1, h2, h3⟩ =>
        have na : a ≠ P := fun z => by rw [z, hP] at h1; cases h1
        have nb : b ≠ P := fun z => by rw [z, hP] at h2; cases h2
        exact ⟨by rw [at_ a na (nc a (by rw [h1]; exact ne))]; exact h1, by rw [at_ b nb (nc b (by rw [h2]; exact ne))]; exact h2, h3⟩
    · by_cases hx1 : x.1 = P
      · rw [hx1, hu x hx hx1]
        exact t
      · obtain ⟨ps', a1, a2, a3⟩ := k.tab x hx
        refine ⟨ps', by rw [at_ _ hx1 (nc _ (by rw [a1]; exact ne))]; exact a1, a2, fun pos cv hcv => ?_⟩
        obtain ⟨c0, b1, b2⟩ := a3 pos cv hcv
        refine ⟨c0, b1, ?_⟩
        rw [at_ c0 (fun z => by rw [z, hP] at b2; exact LamX.codeO_ne ps (Option.some.inj b2).symm) (nc c0 (by rw [b2]; exact ne))]
        exact b2
    · rw [at_ p (fun z => d (by rw [z]; exact dP)) (nc p (by rw [h]; exact ne))]
      exact h
    · rw [e]
      by_cases h1 : p = c'
      · rw [h1, upd_same]; exact ne
      · rw [upd_ne h1]
        by_cases h2 : p = P
        · rw [h2, upd_same]; exact ne
        · rw [upd_ne h2]; exact h
/-! ### .. and called -/
abbrev lamF (X : Cx) (q : Str) (params : Arguments) (scope : Scope) (c' : Addr) : NdefX.NF := ⟨"<lambda>", q, params, [], scope, cloFrom X.env.cells scope.names [], c'⟩
/-- the context of its body -/
abbrev lamX (X : Cx) (N : List Str) (q : Str) (params : Arguments) (scope : Scope) (f c' : Addr) (A : Around) (s : Shared) (H : Hp) : Cx := NdefX.ncx CX0 X.prog X.w X.K X.mg X.base N (lamF X q params scope c') f A X.stack s H E0
theorem lam_call {A : Around} {k : Nat} {N fr : List Str} {js : List Nat} {a q : Str} {f c' : Addr} {params : Arguments} {body : Expr} {scope : Scope} {pm ctv : Value} {x : V} {u : Value} {Q : VK} (I : Inv X pins σ H s) (hA : A.frames = X.A.frames) (hr : Room (k + 1) A)
    (S : NdefX.NScope N [a] fr scope) (hfree : ∀ y ∈ scope.names, y.2 = .free → X.env.scope.names.lookup y.1 = some .cell ∨ X.env.scope.names.lookup y.1 = some .free) (hfr : ∀ y ∈ fr, (y, NameKind.free) ∈ scope.names) (hjs : js.map (fun j => X.N[j]?) = fr.map some)
    (hf : s.heap.get? f = some (PySem.W.kla_obj "<lambda>" q params body scope (cloFrom X.env.cells scope.names []) pm c' ctv)) (hc : H c' = some (LamX.CodeO c' q))
    (hb : ∀ (cl : List (Str × Addr)) (pm cv ctv u : Value), bindArgs (PySem.W.kla_fn "<lambda>" q params body scope cl pm cv ctv) ⟨[u], []⟩ = pure [(a, u)])
    (r : RelV x u) (hw : Room k (A.deeper (NdefX.envF (lamF X q params scope c') f s.heap.objs.size)) → tW (lamX X N q params scope f c' A s H) body (NdefX.startF N [x] (js.map (NdefX.slotAt σ))) H Q) :
    wpAny (model X.prog X.w) A (call (.ref f) [u]) (EP X pins σ Q) (fun _ _ => False) s := by
  have C := NdefX.cells_of I (NdefX.Caps.made I.ok hfree hfr hjs)
  have e0 : Env0 X.prog X.w X.K X.mg X.base A X.stack s H := ⟨hA.trans I.ok.frames, I.env0.mod, I.env0.bs, I.env0.bsz, I.env0.funs, I.env0.frf, I.env0.hok, I.env0.bare⟩
  have rc : codeAny (model X.prog X.w) A (.call (.ref f) ⟨[u], []⟩) (CR CX0 X.stack X.prog X.w H s Q E0) s := by
    refine PySem.W.kla_callFunE hr.depth hf rfl S.co S.gen rfl (NdefX.codeO_at I.hok hc) ?_
    rw [hb]
    refine wpAny_pure (wpAny_newFunctionEnv S.nocell (fun y hy => ?_) (fun g hns hsb => ⟨I.nolimit.fresh _ hsb, ?_⟩) S.kind)
    · have hy : y = (a, u) := by simpa using hy
      rw [hy]
      exact S.par a (by simp)
    show codeAny _ _ (.expr body (NdefX.envF (lamF X q params scope c') f s.heap.objs.size)) _ _
    have kp : ∀ b o, s.heap.get? b = some o → g.get? b = some o := fun b o e => hsb.extBut b o (Nat.ne_of_lt (Heap.lt_size e)) (Heap.get?_push_of_some _ e)
    have J : Inv (lamX X N q params scope f c' A s H) [] (NdefX.startF N [x] (js.map (NdefX.slotAt σ))) H { s with heap := g, toks := s.toks + 1 } :=
      NdefX.inv_startN (us := [u]) (ps := [a]) (fr := fr) S hr.hd e0 rfl (.cons r .nil) C hns kp
    refine PySem.W.kla_codeExpr (wpAny_mono (hw (hr.deeper _) [] _ J) (fun v s' hq => ?_) fun _ _ hq => hq)
    obtain ⟨z, H', J', rv, qz⟩ := hq
    exact ⟨z, H', J'.os, J'.bare, J'.base, J'.hok, rv, qz⟩
  refine wpAny_call (codeAny_mono rc fun t s' hq => ?_)
  match t, hq with
  | .ok (.ret u), hq => exact I.after hq
end
end Den

end
-- DenS
section
set_option Elab.async false
set_option linter.all false
set_option maxRecDepth 100000
set_option maxHeartbeats 1000000
namespace Den
open PySem PySem.Spec PyProof.Rows L2
variable [TB : Tabl]
/-! ### sorted, in meanings -/
/-- the keys, one after the other -/
def keysD (f : FE) (mk : PyData → Env) : List PyData → Dw → Option (List PyData × Dw)
  | [], D => some ([], D)
  | x :: xs, D => (f (mk x) D).bind fun r => (keysD f mk xs r.2).map fun t => (r.1 :: t.1, t.2)
def isTup : PyData → Bool
  | .tuple (_ :: _) => true
  | _ => false
def isPlain : PyData → Bool
  | .none => false
  | .tuple _ => false
  | _ => true
/-- keys that can be put in order -/
def keysOk (ks : List PyData) : Bool := (ks.all fun a => ks.all fun b => PySem.W.alike a b) && (ks.all isTup || ks.all isPlain) && ks.all fun d => decide (d.depth ≤ 60)
theorem keysOk_alike {ks : List PyData} (h : keysOk ks = true) : PySem.W.AllAlike ks := fun d hd e he => by
  unfold keysOk at h
  simp only [Bool.and_eq_true, List.all_eq_true] at h
  exact h.1.1 d hd e he
theorem keysOk_depth {ks : List PyData} (h : keysOk ks = true) : ∀ d ∈ ks, d.depth ≤ 60 := fun d hd => by
  unfold keysOk at h
  simp only [Bool.and_eq_true, List.all_eq_true, decide_eq_true_eq] at h
  exact h.2 d hd
theorem keysOk_sort {ks : List PyData} (h : keysOk ks = true) : PySem.W.Sortable ks := by
  unfold keysOk at h
  simp only [Bool.and_eq_true, Bool.or_eq_true, List.all_eq_true] at h
  rcases h.1.2 with h | h
  · refine .inl fun d hd => ?_
    have := h d hd
    match d, this with
    | .tuple (x :: r), _ => exact ⟨x, r, rfl⟩
  · refine .inr fun d hd => ?_
    have := h d hd
    match d, this with
    | .bool _, _ => exact ⟨(fun z => by cases z), (fun _ z => by cases z)⟩
    | .int _, _ => exact ⟨(fun z => by cases z), (fun _ z => by cases z)⟩
    | .str _, _ => exact ⟨(fun z => by cases z), (fun _ z => by cases z)⟩
    | .list _, _ => exact ⟨(fun z => by cases z), (fun _ z => by cases z)⟩
    | .dict _, _ => exact ⟨(fun z => by cases z), (fun _ z => by cases z)⟩
/-- the items in the order of their keys, equal ones in their old order -/
def sortBy (rev : Bool) (ks xs : List PyData) : List PyData := ((ks.zip xs).mergeSort (PySem.W.dataLe rev Prod.fst)).map Prod.snd
def sortO (rev : Bool) (ks xs : List PyData) : Option (List PyData) := if keysOk ks && decide (xs.length ≤ 1000000) then some (sortBy rev ks xs) else none
theorem sortO_some {rev : Bool} {ks xs zs : List PyData} (h : sortO rev ks xs = some zs) : keysOk ks = true ∧ zs = sortBy rev ks xs := by
  unfold sortO at h
  split at h
  · rename_i hc
    rw [Bool.and_eq_true] at hc
    exact ⟨hc.1, (Option.some.inj h).symm⟩
  · cases h
/-- what a captured name is worth in the lambda -/
def capA (ρ : Env) (j : Nat) : Option AV := match ρ[j]? with
  | some (some (.d x)) => some (.d x)
  | some (some .drw) => some .drw
  | _ => none
def lamE (js : List Nat) (ρ : Env) (x : PyData) : Env := some (.d x) :: js.map (capA ρ)
/-- sorted(g, key=lambda a: f, reverse=rev) -/
def sortK (rev : Bool) (js : List Nat) (f : FE) (g : FL) : FL := fun ρ D => (g ρ D).bind fun r => (keysD f (lamE js ρ) r.1 r.2).bind fun t => (sortO rev t.1 r.1).map fun ys => (ys, t.2)
/-- sorted(g, reverse=rev) -/
def sortP (rev : Bool) (g : FL) : FL := fun ρ D => (g ρ D).bind fun r => (sortO rev r.1 r.1).map fun ys => (ys, r.2)
theorem keysD_len {f : FE} {mk : PyData → Env} : ∀ {xs : List PyData} {D D' : Dw} {ks : List PyData}, keysD f mk xs D = some (ks, D') → ks.length = xs.length
  | [], D, D', ks, h => by cases h; rfl
  | x :: xs, D, D', ks, h => by
    obtain ⟨⟨k, D1⟩, _, h⟩ := bind_split h
    obtain ⟨⟨ks1, D2⟩, h1, h⟩ := map_split h
    cases h
    rw [List.length_cons, List.length_cons, keysD_len h1]
theorem keysD_at {f : FE} {mk : PyData → Env} {xs : List PyData} {D D' : Dw} {ks : List PyData} {i : Nat} (hi : i < xs.length) (h : keysD f mk (xs.drop i) D = some (ks, D')) :
    ∃ k D1 ks1, f (mk xs[i]) D = some (k, D1) ∧ keysD f mk (xs.drop (i + 1)) D1 = some (ks1, D') ∧ ks = k :: ks1 := by
  rw [List.drop_eq_getElem_cons hi] at h
  obtain ⟨⟨k, D1⟩, e1, h⟩ := bind_split h
  obtain ⟨⟨ks1, D2⟩, e2, h⟩ := map_split h
  cases h
  exact ⟨k, D1, ks1, e1, e2, rfl⟩
/-! ### values and what they stand for -/
theorem each_pair {R : Value → PyData × PyData → Prop} : ∀ {us : List Value} {ks xs : List PyData}, ks.length = xs.length → us.length = xs.length → (∀ (i : Nat) (u : Value) (k x : PyData), us[i]? = some u → ks[i]? = some k → xs[i]? = some x → R u (k, x)) → PySem.W.EachIs R us (ks.zip xs)
  | [], [], [], _, _, _ => .nil
  | u :: us, k :: ks, x :: xs, h1, h2, h => by
    refine .cons (h 0 u k x rfl rfl rfl) (each_pair (by simpa using h1) (by simpa using h2) fun i u' k' x' e1 e2 e3 => h (i + 1) u' k' x' (by simpa using e1) (by simpa using e2) (by simpa using e3))
  | [], [], _ :: _, h, _, _ => by simp at h
  | [], _ :: _, [], h, _, _ => by simp at h
  | [], _ :: _, _ :: _, _, h, _ => by simp at h
  | _ :: _, [], [], _, h, _ => by simp at h
  | _ :: _, [], _ :: _, h, _, _ => by simp at h
  | _ :: _, _ :: _, [], h, _, _ => by simp at h
theorem each_out {K : PySem.W.Frag} {F : Hp} : ∀ {us : List Value} {zs : List (PyData × PyData)}, PySem.W.EachIs (fun u z => ∃ v : V, RelV v u ∧ Dp K F v z.2) us zs → ∃ vs : List V, Vals vs us ∧ DpAll K F vs (zs.map Prod.snd)
  | _, _, .nil => ⟨[], .nil, .nil⟩
  | _, _, .cons ⟨v, r, d⟩ t => by
    obtain ⟨vs, h1, h2⟩ := each_out t
    exact ⟨v :: vs, .cons r h1, .cons d h2⟩
theorem each_reads {X : Cx} {pins : List (Addr × Obj)} {σ : L2.St} {H F : Hp} {s : Shared} (I : Inv X pins σ H s) (e : Ex F H) : ∀ {vs : List V} {us : List Value} {ds : List PyData}, Vals vs us → DpAll X.K F vs ds → PySem.W.EachIs (fun u d => ∃ as, Reads s.heap u d as) us ds
  | _, _, _, .nil, .nil => .nil
  | _, _, _, .cons r t, .cons d a => .cons (Dp.reads I _ _ _ (dp_mono e d) r) (each_reads I e t a)
theorem each_len {α β : Type} {R : α → β → Prop} : ∀ {as : List α} {bs : List β}, PySem.W.EachIs R as bs → as.length = bs.length
  | _, _, .nil => rfl
  | _, _, .cons _ t => by rw [List.length_cons, List.length_cons, each_len t]
section
variable {X : Cx} {pins : List (Addr × Obj)} {σ : L2.St} {H : Hp} {s : Shared}
/-- a list that was laid beside the known heap is known from now on -/
theorem inv_found {a kS : Addr} {ys : List V} {its : List Value} {c t' : Nat} {h' : Heap} (I : Inv X pins σ H s) (hk : ∀ b o, b ≠ a → b ≠ kS → s.heap.get? b = some o → h'.get? b = some o) (ha : h'.get? a = some (seqObj "list" its.toArray c)) (hv : Vals ys its) (hz : ys.length ≤ sizeLine)
    (fa : FpOk X pins H a) (fk : FpOk X pins H kS) : Inv X pins σ (upd H a (.lst ys)) { s with heap := h', toks := t' } := by
  have nA : ∀ b u, H b = some u → b ≠ a ∧ b ≠ kS := fun b u e => ⟨(fun z => by rw [z, fa.1] at e; cases e), (fun z => by rw [z, fk.1] at e; cases e)⟩
  have nc : ∀ {b}, b ∉ [a, kS] → b ≠ a ∧ b ≠ kS := fun h => by simpa using h
  refine I.step (g' := s.gens) (d' := s.drawn) (ch := [a, kS]) (fun b hb => ?_) (fun b o _ _ hc e _ => hk b o (nc hc).1 (nc hc).2 e) (fun b o _ _ hc e _ => ⟨o.slots, hk b o (nc hc).1 (nc hc).2 e⟩) (fun b o hc _ n => by rw [upd_ne (nc hc).1]; exact n) (fun b o hc e => ⟨o, hk b o (nc hc).1 (nc hc).2 e⟩)
    (fun b xs e => by rw [upd_ne (nA b _ e).1]; exact e) (fun b o u e => by rw [upd_ne (nA b _ e).1]; exact e) (fun b ps e => ⟨#[], by rw [upd_ne (nA b _ e).1, e]; simp⟩) (fun m hm => ?_) (fun b u e => ?_) I.bare
  · rcases List.mem_cons.mp hb with hb | hb
    · rw [hb]; exact ⟨fa.2.2.2.1, fa.2.1, fa.2.2.2.2.1, fa.2.2.2.2.2⟩
    · rw [List.mem_singleton.mp hb]; exact ⟨fk.2.2.2.1, fk.2.1, fk.2.2.2.2.1, fk.2.2.2.2.2⟩
  · obtain ⟨o, es, ep, ho, r⟩ := hm
    exact ⟨o, es, ep, hk _ o (Ne.symm fa.2.1) (Ne.symm fk.2.1) ho, r⟩
  · by_cases hb : b = a
    · rw [hb, upd_same] at e
      cases e
      rw [hb]
      exact ⟨hz, its, c, hv, ha⟩
    · rw [upd_ne hb] at e
      refine (I.hok b u e).stay (fun d v hd q => ?_) (fun d q => by rw [upd_ne (nA d _ q).1]; exact q) fun d xs q => by rw [upd_ne (nA d _ q).1]; exact q
      rcases hd with z | z
      · rw [z] at q ⊢
        exact hk b v hb (nA b u e).2 q
      · exact hk d v (nA d _ z).1 (nA d _ z).2 q
end
end Den

end
-- DenT
section
set_option Elab.async false
set_option linter.all false
set_option maxRecDepth 100000
set_option maxHeartbeats 1000000
namespace Den
open PySem PySem.Spec PyProof.Rows L2
variable [TB : Tabl]
theorem Ok.code {L : Loc} {D : Dw} {F H : Hp} {c : Addr} {q : Str} (k : Ok L D F H) (h : H c = some (LamX.CodeO c q)) : ¬ isD L c := fun d => by
  rcases d with d | ⟨q', d⟩
  · have hd := k.dr
    match L, hd, d with
    | some (a, b), ⟨h1, h2, _⟩, .inl e =>
      rw [e] at h
      exact not_code h1 q h
    | some (a, b), ⟨h1, h2, _⟩, .inr e =>
      rw [e] at h
      exact not_code h2 q h
  · obtain ⟨ps, e, _⟩ := k.tab _ d
    have e : H c = _ := e
    rw [h] at e
    exact LamX.codeO_ne ps (Option.some.inj e)
section
variable {X : Cx} {pins : List (Addr × Obj)} {σ : L2.St} {H : Hp} {s : Shared}
theorem capA_cases {ρ : Env} {j : Nat} {a : AV} (h : capA ρ j = some a) : ρ[j]? = some (some a) ∧ ∀ xs, a ≠ .own xs := by
  unfold capA at h
  split at h
  · rename_i x e
    cases h
    exact ⟨e, fun _ z => by cases z⟩
  · rename_i e
    cases h
    exact ⟨e, fun _ z => by cases z⟩
  · cases h
theorem lamE_at {js : List Nat} {ρ : Env} {x : PyData} {i : Nat} {a : AV} (h : (lamE js ρ x)[i + 1]? = some (some a)) : ∃ j, js[i]? = some j ∧ ρ[j]? = some (some a) ∧ ∀ xs, a ≠ .own xs := by
  unfold lamE at h
  rw [List.getElem?_cons_succ, List.getElem?_map] at h
  cases e : js[i]? with
  | none => rw [e] at h; cases h
  | some j =>
    rw [e] at h
    have h : capA ρ j = some a := Option.some.inj h
    obtain ⟨h1, h2⟩ := capA_cases h
    exact ⟨j, rfl, h1, h2⟩
/-- the lambda's names at its entry -/
theorem rep_lam {L : Loc} {F0 H0 F : Hp} {ρ : Env} {D : Dw} {N : List Str} {js : List Nat} {v : V} {x : PyData} (r : Rep X.K L F0 H0 ρ D σ F H) (hN : N.length = js.length + 1) (h : Dp X.K F v x) :
    Rep X.K L F H (lamE js ρ x) D (NdefX.startF N [v] (js.map (NdefX.slotAt σ))) F H := by
  have e : NdefX.startF N [v] (js.map (NdefX.slotAt σ)) = some v :: js.map (NdefX.slotAt σ) := by
    unfold NdefX.startF
    have z : N.length - [v].length - (js.map (NdefX.slotAt σ)).length = 0 := by
      rw [hN, List.length_map, List.length_singleton]
      omega
    rw [z]
    simp
  rw [e]
  refine ⟨r.ok, Stp.refl, by unfold lamE; simp, fun i a e => ?_, fun i j xs ys p e1 _ _ _ => ?_⟩
  · cases i with
    | zero =>
      have e : some (AV.d x) = some a := Option.some.inj e
      cases e
      exact ⟨some v, rfl, v, rfl, h⟩
    | succ i =>
      obtain ⟨j, h1, h2, h3⟩ := lamE_at e
      obtain ⟨o, g1, g2⟩ := r.slot j a h2
      refine ⟨NdefX.slotAt σ j, by rw [List.getElem?_cons_succ, List.getElem?_map, h1]; rfl, ?_⟩
      match a, g2, h3 with
      | .d y, ⟨w, e3, e4⟩, _ =>
        rw [e3] at g1
        exact ⟨w, NdefX.slotAt_of g1, e4⟩
      | .drw, ⟨a, b, e3, e4⟩, _ =>
        rw [e4] at g1
        exact ⟨a, b, e3, NdefX.slotAt_of g1⟩
      | .dct zs, ⟨p, vs, e3, e4, q⟩, _ =>
        rw [e3] at g1
        exact ⟨p, vs, NdefX.slotAt_of g1, e4, q⟩
      | .exc c, ⟨p, e3, e4⟩, _ =>
        rw [e3] at g1
        exact ⟨p, NdefX.slotAt_of g1, e4⟩
      | .own xs, _, h3 => exact absurd rfl (h3 xs)
  · cases i with
    | zero => cases e1
    | succ i =>
      obtain ⟨_, _, _, h3⟩ := lamE_at e1
      exact absurd rfl (h3 xs)
/-- sorted(l, key=the lambda at fa, ..) -/
theorem sort_core {k : Nat} {q a : Str} {N fr : List Str} {js : List Nat} {params : Arguments} {body : Expr} {scope : Scope} {fb : FE} {rev : Bool} {L : Loc} {F0 H0 F1 : Hp} {ρ : Env} {D1 D2 : Dw} {l fa c' : Addr} {lv : List V} {xs ks : List PyData} {pm ctv : Value} {kw : List (Str × Value)} {Q : VK} {E : Value → Shared → Prop}
    (I : Inv X pins σ H s) (r : Rep X.K L F0 H0 ρ D1 σ F1 H) (hl : SqL X.K H l lv) (hv : DpAll X.K F1 lv xs) (hf : s.heap.get? fa = some (PySem.W.kla_obj "<lambda>" q params body scope (cloFrom X.env.cells scope.names []) pm c' ctv)) (ff : FpOk X pins H fa) (hco : H c' = some (LamX.CodeO c' q))
    (ek : keysD fb (lamE js ρ) xs D1 = some (ks, D2)) (hok : keysOk ks = true) (hr : Room (k + 3) X.A) (S : NdefX.NScope N [a] fr scope) (hN : N.length = js.length + 1)
    (hfree : ∀ y ∈ scope.names, y.2 = .free → X.env.scope.names.lookup y.1 = some .cell ∨ X.env.scope.names.lookup y.1 = some .free) (hfr : ∀ y ∈ fr, (y, NameKind.free) ∈ scope.names) (hjs : js.map (fun j => X.N[j]?) = fr.map some)
    (hbind : ∀ (cl : List (Str × Addr)) (pm cv ctv u : Value), bindArgs (PySem.W.kla_fn "<lambda>" q params body scope cl pm cv ctv) ⟨[u], []⟩ = pure [(a, u)])
    (hb : ∀ (fa c' : Addr) (A : Around) (s : Shared) (H : Hp), Room k (A.deeper (NdefX.envF (lamF X q params scope c') fa s.heap.objs.size)) → DE (lamX X N q params scope fa c' A s H) body fb)
    (ha1 : argsOk "sorted" ⟨[.ref l], kw⟩) (ha2 : ∀ x, argsOk "list.sort" ⟨[.ref x], kw⟩) (ht : ∀ x, Builtin.«list.sort» ⟨[.ref x], kw⟩ = ksk_tree x (.ref fa) rev)
    (qk : ∀ p vs F' H', Stp L F1 H F' H' → Ok L D2 F' H' → H p = none → F' p = none → H' p = some (.lst vs) → DpAll X.K F' vs (sortBy rev ks xs) → Q (.ref p) H') :
    wpAny (model X.prog X.w) X.A (call (.builtin "sorted") [.ref l] kw) (EP X pins σ Q) E s := by
  obtain ⟨its, rv, ⟨o, n, ho, hcl, _, hd⟩, hzl⟩ := I.list hl
  have hlen1 := rv.length
  have hlen2 := dpa_len hv
  have hlen3 := keysD_len ek
  have room := hr.un
  refine keyed_sorted (kz := ks) (b := rev) (f := .ref fa) (vs := its) ⟨o, ho, hcl, n, hd⟩ (by omega) (by omega) (keysOk_alike hok) (keysOk_sort hok) (fun d hd => by have := keysOk_depth hok d hd; omega) ha1 ha2 ht fun e1 kS g keep hlt gA gK => ?_
  have nA : H (s.heap.objs.size + 1) = none := I.hok.fresh (Nat.le_succ _)
  have nK : H kS = none := I.hok.fresh (by omega)
  have fA : FpOk X pins H (s.heap.objs.size + 1) := I.fpOk (Nat.le_succ _) nA
  have fK : FpOk X pins H kS := I.fpOk (by omega) nK
  have hfl : fa < s.heap.objs.size := Heap.lt_size hf
  refine ⟨fun i kv s' => ∃ H' F' D' xs', Inv X ((s.heap.objs.size + 1, seqObj "list" #[] e1) :: (fa, PySem.W.kla_obj "<lambda>" q params body scope (cloFrom X.env.cells scope.names []) pm c' ctv) :: pins) σ H' s' ∧ Rep X.K L F0 H0 ρ D' σ F' H' ∧ Stp L F1 H F' H' ∧ Vals xs' kv ∧ DpAll X.K F' xs' (ks.take i) ∧
      keysD fb (lamE js ρ) (xs.drop i) D' = some (ks.drop i, D2) ∧ (∃ e, s'.heap.get? kS = some (seqObj "list" kv.toArray e)) ∧ H' kS = none ∧ kv.length = i, ⟨?_, ?_, ?_⟩, ?_, ?_⟩
  · rintro i kv s' ⟨H', F', D', xs', I', _, _, _, _, _, hk, _, hlen⟩
    exact ⟨hk, (I'.pin _ (List.mem_append_right _ (.head _))).1, hlen⟩
  · rintro i v kv s' hv' ⟨H', F', D', xs', I', r', t', rx, dx, ek', ⟨e, hk⟩, nk, hlen⟩
    have hi : i < its.length := (List.getElem?_eq_some_iff.mp hv').1
    have hix : i < xs.length := by omega
    obtain ⟨k1, D3, ks1, g1, g2, g3⟩ := keysD_at hix ek'
    obtain ⟨x, hx, hdx⟩ := dpa_getD hv (List.getElem?_eq_getElem hix)
    obtain ⟨u, hu, ru⟩ := rv.get hx
    rw [hv'] at hu
    cases hu
    have I2 : Inv X ((kS, seqObj "list" kv.toArray e) :: (s.heap.objs.size + 1, seqObj "list" #[] e1) :: (fa, PySem.W.kla_obj "<lambda>" q params body scope (cloFrom X.env.cells scope.names []) pm c' ctv) :: pins) σ H' s' := I'.pins_of fun p hp => by
      rcases List.mem_cons.mp hp with z | z
      · rw [z]
        exact ⟨hk, nk, fK.2.1, fK.2.2.1, fun v z => by cases z⟩
      · exact I'.pin p (List.mem_append_right _ z)
    have hco' : H' c' = some (LamX.CodeO c' q) := t'.keep _ _ hco (r.ok.code hco)
    refine wpAny_mono (lam_call (A := X.A.in1.in1) I2 rfl hr.in1.in1 S hfree hfr hjs (I'.pin _ (List.mem_append_right _ (.tail _ (.head _)))).1 hco' hbind ru (fun room => (hb fa c' _ s' H' room).run L F' H' (lamE js ρ xs[i]) D' _ F' H' k1 D3 (rep_lam r' hN (dp_mono t'.ex hdx)) g1
      (fun v' H2 => ∃ F2, Stp L F' H' F2 H2 ∧ Ok L D3 F2 H2 ∧ Dp X.K F2 v' k1) fun v' F2 H2 a1 a2 a3 => ⟨F2, a1, a2, a3⟩)) (fun u s2 hq => ?_) fun _ _ z => z
    obtain ⟨v', H2, I3, rv', F2, t2, k2, d2⟩ := hq
    have p1 := I3.pin (kS, seqObj "list" kv.toArray e) (List.mem_append_right _ (.head _))
    have ekd : ks.take (i + 1) = ks.take i ++ [k1] := by
      have : ks[i]? = some k1 := by
        have z := congrArg (fun l => l[0]?) g3
        simpa using z
      rw [List.take_add_one, this]
      rfl
    have edr : ks.drop (i + 1) = ks1 := by
      have z := congrArg (List.drop 1) g3
      simpa [List.drop_drop, Nat.add_comm] using z
    have s1 := Heap.SameBut.update s2.heap kS (Obj.mapSeq (·.push u))
    have I4 : Inv X ((s.heap.objs.size + 1, seqObj "list" #[] e1) :: (fa, PySem.W.kla_obj "<lambda>" q params body scope (cloFrom X.env.cells scope.names []) pm c' ctv) :: pins) σ H2 s2 := I3.pins_of fun p hp => I3.pin p (List.mem_append_right _ (.tail _ hp))
    refine ⟨⟨e, p1.1⟩, H2, F2, D3, xs' ++ [v'], I4.turned (t' := s2.toks) (it := kS) (fun b o hb z => (s1.2 b hb).trans z) p1.2.1 (Ne.symm (Ne.symm fK.2.1)) fK.2.2.2.1 fK.2.2.2.2.1 (fun p hp => ?_), r'.step t2 k2, t'.trans t2, rx.append (.cons rv' .nil), by rw [ekd]; exact dpa_app (dpa_mono t2.ex dx) (.cons d2 .nil), by rw [edr]; exact g2, ?_, p1.2.1, by rw [List.length_append]; simpa using hlen⟩
    · rcases List.mem_append.mp hp with z | z
      · exact fK.2.2.2.2.2 p (List.mem_append_left _ z)
      · rcases List.mem_cons.mp z with z | z
        · rw [z]; exact Nat.ne_of_lt hlt
        · rcases List.mem_cons.mp z with z | z
          · rw [z]; exact Nat.ne_of_lt (Nat.lt_trans hfl (Nat.lt_of_succ_lt hlt))
          · exact fK.2.2.2.2.2 p (List.mem_append_right _ z)
    · have q := get?_update_seq p1.1 (·.push u)
      exact ⟨_, by simpa using q⟩
  · rintro kv s' ⟨H', F', D', xs', I', r', t', rx, dx, ek', _, _, _⟩
    rw [List.take_of_length_le (by omega)] at dx
    exact each_reads I' r'.ok.sub rx dx
  · have I1 : Inv X pins σ H { s with heap := g } := I.kept (t' := s.toks) keep
    refine ⟨H, F1, D1, [], I1.pins_of fun p hp => ?_, r, Stp.refl, .nil, .nil, ek, ⟨0, gK⟩, nK, rfl⟩
    rcases List.mem_cons.mp hp with z | z
    · rw [z]
      exact ⟨gA, nA, fA.2.1, fA.2.2.1, fun v z => by cases z⟩
    · rcases List.mem_cons.mp z with z | z
      · rw [z]
        exact ⟨keep _ _ hf, ff.1, ff.2.1, ff.2.2.1, fun v z => by cases z⟩
      · exact I1.pin p (List.mem_append_right _ z)
  · rintro kv s' h' tk out c ⟨H', F', D', xs', I', r', t', _, _, ek', _, nk, _⟩ hk ha hout
    have eD : D' = D2 := by
      rw [List.drop_of_length_le (by omega)] at ek'
      exact congrArg Prod.snd (Option.some.inj ek')
    subst eD
    have hR : PySem.W.EachIs (fun (u : Value) (z : PyData × PyData) => ∃ v : V, RelV v u ∧ Dp X.K F1 v z.2) its (ks.zip xs) := each_pair (by omega) (by omega) fun i u k x e1 e2 e3 => by
      obtain ⟨y, h1, h2⟩ := dpa_getD hv e3
      obtain ⟨u', h3, h4⟩ := rv.get h1
      rw [e1] at h3
      cases h3
      exact ⟨y, h4, h2⟩
    have efst : (ks.zip xs).map Prod.fst = ks := List.map_fst_zip (by omega)
    have eo := PySem.W.keyedOut_each (k := Prod.fst) (bs := ks.zip xs) (by rw [efst]; exact hout) hR
    obtain ⟨ov, v1, d1⟩ := each_out eo
    have pA := I'.pin (s.heap.objs.size + 1, seqObj "list" #[] e1) (List.mem_append_right _ (.head _))
    have nA' : H' (s.heap.objs.size + 1) = none := pA.2.1
    have I5 : Inv X pins σ H' s' := I'.pins_of fun p hp => I'.pin p (List.mem_append_right _ (.tail _ (.tail _ hp)))
    have hzo : ov.length ≤ sizeLine := by
      have h1 := dpa_len d1
      rw [List.length_map, List.length_mergeSort, List.length_zip] at h1
      omega
    exact ⟨.ref _, _, inv_found I5 hk ha v1 hzo ⟨nA', fA.2⟩ ⟨nk, fK.2⟩, rfl, qk _ ov F' _ (t'.trans (Stp.fresh nA')) (r'.ok.fresh nA') nA (r'.ok.sub.back nA') upd_same (dpa_mono t'.ex d1)⟩
end
end Den

end
-- DenU
section
set_option Elab.async false
set_option linter.all false
set_option maxRecDepth 100000
set_option maxHeartbeats 1000000
namespace Den
open PySem PySem.Spec PyProof.Rows L2
variable [TB : Tabl]
/-! ### a def whose code object is known -/
structure FunC (K : PySem.W.Frag) (x qual : Str) (st : Stmt) (f : Addr) (fd : FuncData) (cdv : Value) : Prop where
  ex : ∃ (oc : Value) (od : Option Addr) (kV doc pm : Value) (an : Option Addr) (ct : Value) (osl : Array (Option Value)),
    fd = PySem.W.fnOf x qual (defArgs st) (defBody st) (defScope st) .none kV doc pm an cdv ct ∧ K.lookup f = some ⟨oc, od, .func fd, osl⟩ ∧ PySem.W.codeIn K cdv qual = true
  kp : PySem.W.keepIn K (.ref f) = true
theorem FunC.to {K : PySem.W.Frag} {x qual : Str} {st : Stmt} {f : Addr} {fd : FuncData} {cdv : Value} (F : FunC K x qual st f fd cdv) : Fun K x qual st f fd := by
  obtain ⟨oc, od, kV, doc, pm, an, ct, osl, h1, h2, h3⟩ := F.ex
  exact ⟨⟨oc, od, kV, doc, pm, an, cdv, ct, osl, h1, h2, h3⟩, F.kp⟩
section
variable {P : Program} {w : World} {K : PySem.W.Frag} {mg : Str → Option Value} {base : Heap}
theorem denC {x qual : Str} {st : Stmt} {f : Addr} {fd : FuncData} {cdv : Value} {N ps : List Str} {k : Nat} {g : FS} {φ : Fn} (F : FunC K x qual st f fd cdv) (S : FnScope N ps (defScope st))
    (hb : ∀ (A : Around) (outer : List PySem.Env) (s : Shared) (H : Hp) (E : XK), Room k (A.deeper (envOfC qual (defScope st) s.heap.objs.size f cdv)) → DB (cxOf CX0 P w K mg base N qual (defScope st) f cdv A outer s H E).nox (defBody st) g)
    (hφ : ∀ as D r, as.length = ps.length → φ as D = some r → (g (startA N as) D).bind outD = some r) : FnOk P w K mg base CX0 (k + 1) f fd ps (spOf K ps.length φ) := by
  obtain ⟨oc, od, kV, doc, pm, an, ct, osl, rfl, lk, hcd⟩ := F.ex
  refine fn_of lk hcd S (fun vs H Q E h => ?_) fun A outer s H vs Q E hr h => ?_
  · obtain ⟨_, _, _, _, _, _, h, _⟩ := h
    exact h
  · obtain ⟨L, D, F', as, y, D', hl, hk, ha, e, q⟩ := h
    have e2 := hφ as D _ (by rw [← ha.len]; exact hl) e
    obtain ⟨o, e3, e4⟩ := bind_split e2
    refine ⟨_, PSs.nox pss_w, ?_⟩
    refine (hb A outer s H E hr).run L F' H _ D _ F' H o _ (rep_start hk ha) e3 ?_
    cases o with
    | nx ρ D1 => cases e4; exact fun σ F1 H1 r1 => q _ F1 H1 r1.stp r1.ok .non
    | rt z D1 => cases e4; exact fun v F1 H1 t1 k1 hv => q v F1 H1 t1 k1 hv
    | bk ρ D1 => cases e4
    | ct ρ D1 => cases e4
end
/-! ### sorted(e, key=lambda a: ..) -/
section
variable {X : Cx} {k : Nat} {c P : Addr} {q a : Str} {N fr : List Str} {js : List Nat} {params : Arguments} {body : Expr} {scope : Scope} {e : Expr} {g : FL} {f : FE} {p lp kp rp tp pos : Pos} {j : Nat}
theorem dn_sortK (hg : Gl X "sorted") (hm : X.mg "sorted" = none) (B : LamX.TabB X.base X.mg c P) (hcode : X.env.code = .ref c) (hq : X.env.qual ++ "<lambda>" = q) (hmem : (P, q) ∈ TB.T) (hu : ∀ x ∈ TB.T, x.1 = P → x.2 = q) (hdef : defaultsOf params X.env = ([], []))
    (S : NdefX.NScope N [a] fr scope) (hN : N.length = js.length + 1) (hfree : ∀ y ∈ scope.names, y.2 = .free → X.env.scope.names.lookup y.1 = some .cell ∨ X.env.scope.names.lookup y.1 = some .free) (hfr : ∀ y ∈ fr, (y, NameKind.free) ∈ scope.names) (hjs : js.map (fun j => X.N[j]?) = fr.map some)
    (hbind : ∀ (q : Str) (cl : List (Str × Addr)) (pm cv ctv u : Value), bindArgs (PySem.W.kla_fn "<lambda>" q params body scope cl pm cv ctv) ⟨[u], []⟩ = pure [(a, u)]) (hr : Room (k + 3) X.A) (ha : DL X e g)
    (hb : ∀ (fa c' : Addr) (A : Around) (s : Shared) (H : Hp), Room k (A.deeper (NdefX.envF (lamF X q params scope c') fa s.heap.objs.size)) → DE (lamX X N q params scope fa c' A s H) body f)
    (he : backTo pos (starEach [e] X.env) = (false, eval e X.env) :: backTo pos (starEach [] X.env) := by rfl) (hpl : (backTo pos (starEach [e] X.env)).any (·.1) = false := by rfl) :
    DN X (.Call (.Name "sorted" p) [e] [⟨some "key", .Lambda params body scope lp, kp⟩] pos) (sortK false js f g) := by
  refine .mk ?_
  intro L F0 H0 ρ D σ F H ys D' r hf Q qk
  obtain ⟨⟨xs, D1⟩, e1, hf⟩ := bind_split hf
  obtain ⟨⟨ks, D2⟩, e2, hf⟩ := bind_split hf
  obtain ⟨zs, e3, hf⟩ := map_split hf
  cases hf
  obtain ⟨hc, ez⟩ := sortO_some e3
  subst ez
  intro pins s I
  refine wpAny_Call_Name_kw (ld_blt (u := .builtin "sorted") I hg hm rfl ?_)
  refine PyProof.Rows.callWith_kw ?_ he hpl rfl rfl
  rw [he]
  refine Calls.spliced_cons (thn (ha.run L F0 H0 ρ D σ F H xs D1 r e1 (fun v H1 => ∃ l lv F1, v = .ref l ∧ Stp L F H F1 H1 ∧ Ok L D1 F1 H1 ∧ (∀ F2 H2, Stp L F1 H1 F2 H2 → SqL X.K H2 l lv) ∧ DpAll X.K F1 lv xs) (fun l lv F1 H1 t k hs hv => ⟨l, lv, F1, rfl, t, k, hs, hv⟩) pins s I) fun u s1 ⟨v, H1, I1, r1, l, lv, F1, ev, t1, k1, hs, hv⟩ => ?_)
  subst ev
  obtain rfl : u = .ref l := r1
  refine Calls.spliced_nil ?_
  show wpAny _ _ (evalAll [(do let v ← eval (.Lambda params body scope lp) X.env; standAt pos; pure v)]) _ _ s1
  have hfree' : ∀ y ∈ scope.names, y.2 = .free → ∃ c, X.env.cells.lookup y.1 = some c := fun y hy z => (hfree y hy z).elim (fun z => I.ok.has _ (.inl z)) fun z => I.ok.has _ (.inr z)
  refine wpAny_evalAll_cons (wpAny_bind (lam_made I1 B hcode hq (k1.tab _ hmem) hdef hfree' fun fa c' pm ctv H2 s2 I2 m2 T2 hco hf2 ff => wpAny_bind (wpAny_standAt (wpAny_pure (wpAny_evalAll_nil ?_)))))
  obtain ⟨k2, t2⟩ := m2.ok k1 hmem hu T2
  show wpAny _ _ (call (.builtin "sorted") [.ref l] [(Str.ofString "key", .ref fa)]) _ _ s2
  exact sort_core I2 ((r.step t1 k1).step t2 k2) (hs _ _ t2) (dpa_mono t2.ex hv) hf2 ff hco e2 hc hr S hN hfree hfr hjs (hbind q) hb (ksk_s1 _ _) (fun x => ksk_l1 _ _) (fun x => ksk_t1 fa x)
    fun p vs F' H' t k n nF hp hv => qk p vs F' H' (t1.trans (t2.trans t)) k (back_none (t1.trans t2) n) nF hp hv
/-- .. reverse=True -/
theorem dn_sortKR (hg : Gl X "sorted") (hm : X.mg "sorted" = none) (B : LamX.TabB X.base X.mg c P) (hcode : X.env.code = .ref c) (hq : X.env.qual ++ "<lambda>" = q) (hmem : (P, q) ∈ TB.T) (hu : ∀ x ∈ TB.T, x.1 = P → x.2 = q) (hdef : defaultsOf params X.env = ([], []))
    (S : NdefX.NScope N [a] fr scope) (hN : N.length = js.length + 1) (hfree : ∀ y ∈ scope.names, y.2 = .free → X.env.scope.names.lookup y.1 = some .cell ∨ X.env.scope.names.lookup y.1 = some .free) (hfr : ∀ y ∈ fr, (y, NameKind.free) ∈ scope.names) (hjs : js.map (fun j => X.N[j]?) = fr.map some)
    (hbind : ∀ (q : Str) (cl : List (Str × Addr)) (pm cv ctv u : Value), bindArgs (PySem.W.kla_fn "<lambda>" q params body scope cl pm cv ctv) ⟨[u], []⟩ = pure [(a, u)]) (hr : Room (k + 3) X.A) (ha : DL X e g)
    (hb : ∀ (fa c' : Addr) (A : Around) (s : Shared) (H : Hp), Room k (A.deeper (NdefX.envF (lamF X q params scope c') fa s.heap.objs.size)) → DE (lamX X N q params scope fa c' A s H) body f)
    (he : backTo pos (starEach [e] X.env) = (false, eval e X.env) :: backTo pos (starEach [] X.env) := by rfl) (hpl : (backTo pos (starEach [e] X.env)).any (·.1) = false := by rfl) :
    DN X (.Call (.Name "sorted" p) [e] [⟨some "key", .Lambda params body scope lp, kp⟩, ⟨some "reverse", .Constant (.bool true) j tp, rp⟩] pos) (sortK true js f g) := by
  refine .mk ?_
  intro L F0 H0 ρ D σ F H ys D' r hf Q qk
  obtain ⟨⟨xs, D1⟩, e1, hf⟩ := bind_split hf
  obtain ⟨⟨ks, D2⟩, e2, hf⟩ := bind_split hf
  obtain ⟨zs, e3, hf⟩ := map_split hf
  cases hf
  obtain ⟨hc, ez⟩ := sortO_some e3
  subst ez
  intro pins s I
  refine wpAny_Call_Name_kw (ld_blt (u := .builtin "sorted") I hg hm rfl ?_)
  refine PyProof.Rows.callWith_kw ?_ he hpl rfl rfl
  rw [he]
  refine Calls.spliced_cons (thn (ha.run L F0 H0 ρ D σ F H xs D1 r e1 (fun v H1 => ∃ l lv F1, v = .ref l ∧ Stp L F H F1 H1 ∧ Ok L D1 F1 H1 ∧ (∀ F2 H2, Stp L F1 H1 F2 H2 → SqL X.K H2 l lv) ∧ DpAll X.K F1 lv xs) (fun l lv F1 H1 t k hs hv => ⟨l, lv, F1, rfl, t, k, hs, hv⟩) pins s I) fun u s1 ⟨v, H1, I1, r1, l, lv, F1, ev, t1, k1, hs, hv⟩ => ?_)
  subst ev
  obtain rfl : u = .ref l := r1
  refine Calls.spliced_nil ?_
  show wpAny _ _ (evalAll ((do let v ← eval (.Lambda params body scope lp) X.env; standAt pos; pure v) :: (backToKw pos (keywordEach [⟨some "reverse", .Constant (.bool true) j tp, rp⟩] X.env)).map (·.2))) _ _ s1
  have hfree' : ∀ y ∈ scope.names, y.2 = .free → ∃ c, X.env.cells.lookup y.1 = some c := fun y hy z => (hfree y hy z).elim (fun z => I.ok.has _ (.inl z)) fun z => I.ok.has _ (.inr z)
  refine wpAny_evalAll_cons (wpAny_bind (lam_made I1 B hcode hq (k1.tab _ hmem) hdef hfree' fun fa c' pm ctv H2 s2 I2 m2 T2 hco hf2 ff => wpAny_bind (wpAny_standAt (wpAny_pure ?_))))
  obtain ⟨k2, t2⟩ := m2.ok k1 hmem hu T2
  have I3 : Inv X ((fa, PySem.W.kla_obj "<lambda>" q params body scope (cloFrom X.env.cells scope.names []) pm c' ctv) :: pins) σ H2 s2 := I2.pins_of fun x hx => by
    rcases List.mem_cons.mp hx with z | z
    · rw [z]
      exact ⟨hf2, ff.1, ff.2.1, ff.2.2.1, fun v z => by cases z⟩
    · exact I2.pin x (List.mem_append_right _ z)
  refine thn ((pk_cons (nm := some "reverse") (kpos := rp) (pe_bl (b := true) (j := j) (pos := tp)) pk_nil).run pos _ s2 σ H2 (fun zs H3 => zs = [.bl true] ∧ H3 = H2) I3 ⟨rfl, rfl⟩) fun us s3 ⟨zs, H3, I4, r4, ez, eH⟩ => ?_
  subst ez eH
  obtain ⟨u, rfl, ru⟩ := vals1 r4
  obtain rfl : u = .bool true := ru
  show wpAny _ _ (call (.builtin "sorted") [.ref l] [(Str.ofString "key", .ref fa), (Str.ofString "reverse", .bool true)]) _ _ s3
  have I5 : Inv X pins σ H3 s3 := I4.pins_of fun x hx => I4.pin x (List.mem_append_right _ (.tail _ hx))
  exact sort_core I5 ((r.step t1 k1).step t2 k2) (hs _ _ t2) (dpa_mono t2.ex hv) (I4.pin _ (List.mem_append_right _ (.head _))).1 ff hco e2 hc hr S hN hfree hfr hjs (hbind q) hb (ksk_s2 _ _ _) (fun x => ksk_l2 _ _ _) (fun x => ksk_t2 fa x true)
    fun p vs F' H' t k n nF hp hv => qk p vs F' H' (t1.trans (t2.trans t)) k (back_none (t1.trans t2) n) nF hp hv
end
end Den

end
-- DenV
section
set_option Elab.async false
set_option linter.all false
set_option maxRecDepth 100000
set_option maxHeartbeats 1000000
namespace Den
open PySem PySem.Spec PyProof.Rows L2
variable [TB : Tabl]
/-! ### sorted(e) -/
/-- sorted(g) -/
def sortV (g : FL) : FL := fun ρ D => (g ρ D).bind fun r => if keysOk r.1 && decide (r.1.length ≤ 1000000) then some (r.1.mergeSort (PySem.W.dataLe false id), r.2) else none
theorem each_one {R : Value → PyData → Prop} : ∀ {us : List Value} {xs : List PyData}, us.length = xs.length → (∀ (i : Nat) (u : Value) (x : PyData), us[i]? = some u → xs[i]? = some x → R u x) → PySem.W.EachIs R us xs
  | [], [], _, _ => .nil
  | u :: us, x :: xs, h1, h => .cons (h 0 u x rfl rfl) (each_one (by simpa using h1) fun i u' x' e1 e2 => h (i + 1) u' x' (by simpa using e1) (by simpa using e2))
  | [], _ :: _, h, _ => by simp at h
  | _ :: _, [], h, _ => by simp at h
theorem each_vals {K : PySem.W.Frag} {F : Hp} : ∀ {us : List Value} {ds : List PyData}, PySem.W.EachIs (fun u d => ∃ v : V, RelV v u ∧ Dp K F v d) us ds → ∃ vs : List V, Vals vs us ∧ DpAll K F vs ds
  | _, _, .nil => ⟨[], .nil, .nil⟩
  | _, _, .cons ⟨v, r, d⟩ t => by
    obtain ⟨vs, h1, h2⟩ := each_vals t
    exact ⟨v :: vs, .cons r h1, .cons d h2⟩
section
variable {X : Cx} {e : Expr} {g : FL} {p pos : Pos}
theorem dn_sortV (hg : Gl X "sorted") (hm : X.mg "sorted" = none) (hu : X.A.units + 100 < cLine) (ha : DL X e g)
    (he : starEach [e] X.env = (false, eval e X.env) :: starEach [] X.env := by rfl) (hpl : (backTo pos (starEach [] X.env)).any (·.1) = false := by rfl) : DN X (.Call (.Name "sorted" p) [e] [] pos) (sortV g) := by
  refine .mk ?_
  intro L F0 H0 ρ D σ F H ys D' r hf Q qk
  obtain ⟨⟨xs, D1⟩, e1, hf⟩ := bind_split hf
  have hf : (if keysOk xs && decide (xs.length ≤ 1000000) then some (xs.mergeSort (PySem.W.dataLe false id), D1) else none) = some (ys, D') := hf
  split at hf
  · rename_i hc
    rw [Bool.and_eq_true] at hc
    cases hf
    refine PEw (pe_callB (id := "sorted") (r := fun zs H1 Q => ∃ l lv F1, zs = [V.ref l] ∧ Stp L F H F1 H1 ∧ Ok L D' F1 H1 ∧ (∀ F2 H2, Stp L F1 H1 F2 H2 → SqL X.K H2 l lv) ∧ DpAll X.K F1 lv xs ∧ ∀ p vs, H1 p = none → DpAll X.K F1 vs (xs.mergeSort (PySem.W.dataLe false id)) → Q (.ref p) (upd H1 p (.lst vs))) ?_ hg hm rfl (pa_cons pe_w pa_nil he) (by decide) (by decide) he hpl)
      (ha.run L F0 H0 ρ D σ F H xs D' r e1 _ fun l lv F1 H1 t1 k1 hs hv => ⟨l, lv, F1, rfl, t1, k1, hs, hv, fun p vs hp hvs => qk p vs F1 _ (t1.trans (Stp.fresh hp)) (k1.fresh hp) (back_none t1 hp) (k1.sub.back hp) upd_same hvs⟩)
    intro pins s σ' H1 zs us Q' I rz ⟨l, lv, F1, ez, t1, k1, hs, hv, qq⟩
    subst ez
    obtain ⟨u, rfl, ru⟩ := vals1 rz
    obtain rfl : u = .ref l := ru
    obtain ⟨its, rv, ⟨o, n, ho, hcl, _, hd⟩, hzl⟩ := I.list (hs F1 H1 Stp.refl)
    have hlen1 := rv.length
    have hlen2 := dpa_len hv
    have hok := hc.1
    have hR : PySem.W.EachIs (fun (u : Value) (x : PyData) => ∃ v : V, RelV v u ∧ Dp X.K F1 v x) its xs := each_one (by omega) fun i u x e1 e2 => by
      obtain ⟨y, h1, h2⟩ := dpa_getD hv e2
      obtain ⟨u', h3, h4⟩ := rv.get h1
      rw [e1] at h3
      cases h3
      exact ⟨y, h4, h2⟩
    have eid : xs.map id = xs := List.map_id xs
    refine PySem.W.sorted_data (enc := id) (bs := xs) (R := fun (u : Value) (x : PyData) => ∃ v : V, RelV v u ∧ Dp X.K F1 v x) (l := l) (vs := its) ⟨o, ho, hcl, n, hd⟩ hR (each_reads I k1.sub rv hv) (by rw [eid]; exact keysOk_alike hok) (by rw [eid]; exact keysOk_sort hok) (by omega) (fun d hd => by have := keysOk_depth hok d hd; show X.A.units + 2 + d.depth < cLine; omega) fun out hlen hout => ?_
    obtain ⟨ov, v1, d1⟩ := each_vals hout
    obtain ⟨c, hc2⟩ := sortedAll_at s.heap its out.toArray
    have nA : H1 (s.heap.objs.size + 1) = none := I.hok.fresh (Nat.le_succ _)
    have hzo : ov.length ≤ sizeLine := by rw [v1.length]; omega
    exact ⟨.ref _, _, I.laid (t' := s.toks) (a := s.heap.objs.size + 1) (o := .lst ov) (fun _ _ => sortedAll_old) (Nat.le_succ _) ⟨hzo, out, c, v1, hc2⟩, rfl, qq _ ov nA d1⟩
  · cases hf
end
theorem room100 {k : Nat} {A : Around} (r : Room k A) : A.units + 100 < cLine := by
  have := r.un
  omega
/-! ### the end: a law whose program holds lambdas -/
/-- the code object of the def x and its table, which is empty -/
def TabOf (mg : Str → Option Value) (h : Heap) (x : Str) : Prop := ∃ (a : Addr) (o : Obj) (fd : FuncData) (c P : Addr), mg x = some (.ref a) ∧ h.get? a = some o ∧ o.data = .func fd ∧ fd.code = .ref c ∧ PySem.W.CodeHd h c P ∧ h.get? P = some { cls := .none, data := .fields #[] }
omit TB in
theorem walk_tab {l : PySem.W.OpenLaw} {n k : Nat} {q : Program} {loose : List Str} {XP : (Str → Option Value) → Heap → Prop} {YP : World → Heap → Prop} {d : DefRec} {K : Params → PySem.W.Frag} {CX : World → CXT} {x : Str}
    (hn : l.most = some n) (hn2 : n ≤ sizeLine) (hdf : d.params.defaults = []) (hr : Room k callerA) (hY : ∀ (w : World) (h : Heap), YP w h → (K w.params).In h)
    (F : ∀ (w : World) (mg : Str → Option Value) (fa : Addr) (h : Heap), (K w.params).In h → h.Ns mainGlobals mg → mg d.name = some (.ref fa) → (∀ y : Str, ((recsOf q).any fun e => e.name == y) = true → TabOf mg h y) → LamX.LawAtS l w (K w.params) (CX w) k n x mg fa h)
    (hCX : ∀ (w : World) (H : Hp) (s : Shared) (e : Value) (s' : Shared), CX w [] H s (fun _ _ _ => False) e s' → False) :
    PySem.W.WalkO q loose XP YP l.row.toRowW d [] (fun f vs => PySem.call f vs) := by
  refine Att.attach_callB hn hdf fun w s₀ s1 mg mb fa o pm cd doc a vs ns G Y ho hd hcd hmg hobj hints hlen hbits hg => ?_
  have KX := hY w _ Y
  obtain ⟨fd, cs, sp, hT, nT, C, hb, hsp, hF⟩ := F w mg fa _ KX G.T.g hmg fun y hy => by
    obtain ⟨dL, hm, hn1⟩ := List.any_eq_true.mp hy
    obtain ⟨a1, o1, fd1, c1, P1, h1, h2, h3, h4, h5, h6⟩ := G.T.tab dL hm
    rw [beq_iff_eq.mp hn1] at h1
    exact ⟨a1, o1, fd1, c1, P1, h1, h2, h3, h4, .of h5 h6, h6.2⟩
  exact LamX.law_callTs KX G.T.g G.T.b G.T.builtins G.T.nolimit hg hT nT C G.T.bmain hobj hints (Nat.le_trans hlen hn2) hr hF hb (fun H hH hS => hsp H a ns hlen hbits hH hS) fun H e s' => hCX w H s1 e s'
omit TB in
/-- .. what K tells of it -/
theorem TabOf.at_ {K : PySem.W.Frag} {mg : Str → Option Value} {h : Heap} {y : Str} {f c P : Addr} {o : Obj} {fd : FuncData} {e : Value} {dd : Option Addr} {vs : Array Value} {sl : Array (Option Value)} (t : TabOf mg h y) (KX : K.In h) (hm : mg y = some (.ref f)) (h1 : K.lookup f = some o) (h2 : o.data = .func fd) (h3 : fd.code = .ref c)
    (h4 : K.lookup c = some ⟨e, dd, .fields vs, sl⟩) (h5 : vs[11]? = some (.ref P)) : PySem.W.CodeHd h c P ∧ h.get? P = some { cls := .none, data := .fields #[] } := by
  obtain ⟨a1, o1, fd1, c1, P1, g1, g2, g3, g4, g5, g6⟩ := t
  rw [hm] at g1
  cases g1
  rw [KX _ _ h1] at g2
  cases g2
  rw [h2] at g3
  cases g3
  rw [h3] at g4
  cases g4
  have e1 := KX _ _ h4
  have g5' := g5
  obtain ⟨oc, vc, _, _, _, _, _, _, _, k1, _, k3, k4, _⟩ := g5'
  rw [e1] at k1
  cases k1
  cases k3
  rw [h5] at k4
  cases k4
  exact ⟨g5, g6⟩
end Den

end
-- DenW
section
set_option Elab.async false
set_option linter.all false
set_option maxRecDepth 100000
set_option maxHeartbeats 1000000
namespace Den
open PySem PySem.Spec PyProof.Rows L2
variable [TB : Tabl]
/-! ### a < b < c as a test -/
section
variable {X : Cx} {a b c : Expr} {fa fb fc : FE} {pos : Pos}
theorem dt_chain {op op' : CmpOp} {o1 o2 : O2} (ho : OpS X (compareOp op) o1) (ho' : OpS X (compareOp op') o2) (ha : DE X a fa) (hb : DE X b fb) (hc : DE X c fc)
    (hm : lastMarks [op, op'] [b, c] = false := by with_unfolding_all rfl) : DT X (.Compare a [op, op'] [b, c] pos) (boolD (chainD o1 o2 fa fb fc)) := by
  refine .mk ?_
  intro L F0 H0 ρ D σ F H zb Dz r hf Q q
  replace hf := bool_split hf
  have q' : ∀ v F' H', Stp L F H F' H' → Ok L Dz F' H' → Dp X.K F' v (.bool zb) → ∃ k, v = V.bl k ∧ Q k H' := fun v F' H' t k hv => by
    cases hv
    exact ⟨_, rfl, q F' H' t k⟩
  obtain ⟨⟨x, D1⟩, e1, hf⟩ := bind_split hf
  obtain ⟨⟨y, D2⟩, e2, hf⟩ := bind_split hf
  obtain ⟨k0, e3, hf⟩ := bind_split hf
  obtain ⟨t, e4, hg⟩ := bind_split hf
  have e5 := asB_some e4
  subst e5
  refine PTw (pt_chain ho ho' pe_w pe_w pe_w hm) (two ha hb r e1 e2 fun v u F2 H2 t2 k2 h1 h2 => ⟨L, D2, F2, x, y, _, k2, h1, h2, e3, fun w F3 H3 t3 k3 h3 => ?_⟩)
  cases h3
  refine ⟨t, rfl, ?_⟩
  cases t with
  | false =>
    rw [if_neg Bool.false_ne_true] at hg
    cases hg
    exact iteF (q' _ F3 H3 (t2.trans t3) k3 (.bl _))
  | true =>
    rw [if_pos rfl] at hg
    obtain ⟨⟨y3, D3⟩, e6, hg⟩ := bind_split hg
    obtain ⟨z', e7, hg⟩ := map_split hg
    cases hg
    exact iteT (hc.run L F0 H0 ρ D2 σ F3 H3 _ _ (r.step (t2.trans t3) k3) e6 _ fun w' F4 H4 t4 k4 h4 => ⟨L, _, F4, y, y3, _, k4, dp_mono (t3.ex.trans t4.ex) h2, h4, e7, fun w5 F5 H5 t5 k5 h5 => q' w5 F5 H5 ((t2.trans t3).trans (t4.trans t5)) k5 h5⟩)
end
end Den

end
-- DenX
section
set_option Elab.async false
set_option linter.all false
set_option maxRecDepth 100000
set_option maxHeartbeats 1000000
namespace Den
open PySem PySem.Spec PyProof.Rows L2
variable [TB : Tabl]
/-! ### [e for (a, b, ..) in xs if c] -/
def wipeE (ρ : Env) : List Nat → Env
  | [] => ρ
  | v :: vs => (wipeE ρ vs).set v none
omit TB in
theorem wipe_set {o : Option V} {i : Nat} : ∀ (vs : List Nat) (σ : L2.St), i ∈ vs → wipe (σ.set i o) vs = wipe σ vs
  | [], _, h => by cases h
  | v :: vs, σ, h => by
    show (wipe (σ.set i o) vs).set v none = (wipe σ vs).set v none
    by_cases hi : i ∈ vs
    · rw [wipe_set vs σ hi]
    · have hv : v = i := by
        rcases List.mem_cons.mp h with z | z
        · exact z.symm
        · exact absurd z hi
      subst hv
      have com : ∀ (vs : List Nat) (σ : L2.St), v ∉ vs → wipe (σ.set v o) vs = (wipe σ vs).set v o := by
        intro vs
        induction vs with
        | nil => intro σ _; rfl
        | cons u us ih =>
          intro σ hu
          show (wipe (σ.set v o) us).set u none = ((wipe σ us).set u none).set v o
          rw [ih σ fun z => hu (List.mem_cons_of_mem _ z), List.set_comm _ _ (fun z => hu (by rw [z]; exact List.mem_cons_self ..))]
      rw [com vs σ hi, List.set_set]
omit TB in
theorem wipe_sub : ∀ (us vs : List Nat) (σ : L2.St), (∀ u ∈ us, u ∈ vs) → wipe (wipe σ us) vs = wipe σ vs
  | [], _, _, _ => rfl
  | u :: us, vs, σ, h => by
    show wipe ((wipe σ us).set u none) vs = _
    rw [wipe_set vs _ (h u (List.mem_cons_self ..)), wipe_sub us vs σ fun x hx => h x (List.mem_cons_of_mem _ hx)]
theorem Rep.wiped {K : PySem.W.Frag} {L : Loc} {F0 H0 F H : Hp} {ρ : Env} {D : Dw} {σ : L2.St} (r : Rep K L F0 H0 ρ D σ F H) : ∀ vs : List Nat, Rep K L F0 H0 (wipeE ρ vs) D (wipe σ vs) F H
  | [] => r
  | v :: vs => (Rep.wiped r vs).setN v none
/-- the target's reading, told by data -/
structure TgD (K : PySem.W.Frag) (is : List Nat) (g : TG) (fg : PyData → Env → Option Env) : Prop where
  run : ∀ L F0 H0 ρ D σ F H v d ρ', Rep K L F0 H0 ρ D σ F H → Dp K F v d → fg d ρ = some ρ' →
  ∀ Q : L2.St → Hp → Prop, (∀ σ', Rep K L F0 H0 ρ' D σ' F H → wipe σ' is = wipe σ is → Q σ' H) → g v σ H Q
structure TgsD (K : PySem.W.Frag) (is : List Nat) (g : TGs) (fg : List PyData → Env → Option Env) : Prop where
  run : ∀ L F0 H0 ρ D σ F H vs ds ρ', Rep K L F0 H0 ρ D σ F H → DpAll K F vs ds → fg ds ρ = some ρ' →
  ∀ Q : L2.St → Hp → Prop, (∀ σ', Rep K L F0 H0 ρ' D σ' F H → wipe σ' is = wipe σ is → Q σ' H) → g vs σ H Q
section
variable {K : PySem.W.Frag} {is : List Nat}
theorem tg_name {i : Nat} (h : i ∈ is) : TgD K is (gName i) (nameG i) := .mk fun L F0 H0 ρ D σ F H v d ρ' r hd e Q q => by
  cases e
  exact q _ (r.setD i hd) (wipe_set is σ h)
theorem tgs_nil : TgsD K is gNil nilG := .mk fun L F0 H0 ρ D σ F H vs ds ρ' r hd e Q q => by
  cases hd with
  | nil => cases e; exact ⟨rfl, q σ r rfl⟩
  | cons _ _ => cases e
theorem tgs_cons {t : TG} {u : TGs} {ft : PyData → Env → Option Env} {fu : List PyData → Env → Option Env} (h1 : TgD K is t ft) (h2 : TgsD K is u fu) : TgsD K is (gCons t u) (consG ft fu) := .mk fun L F0 H0 ρ D σ F H vs ds ρ' r hd e Q q => by
  cases hd with
  | nil => cases e
  | cons hv hvs =>
    obtain ⟨ρ1, e1, e2⟩ := bind_split e
    exact ⟨_, _, rfl, h1.run L F0 H0 ρ D σ F H _ _ ρ1 r hv e1 _ fun σ1 r1 w1 => h2.run L F0 H0 ρ1 D σ1 F H _ _ ρ' r1 hvs e2 Q fun σ2 r2 w2 => q σ2 r2 (w2.trans w1)⟩
theorem tg_tup {n : Nat} {t : TGs} {ft : List PyData → Env → Option Env} (h : TgsD K is t ft) : TgD K is (gTup K n t) (tupG n ft) := .mk fun L F0 H0 ρ D σ F H v d ρ' r hd e Q q => by
  match d, e with
  | .tuple ds, e =>
    have e : (if ds.length = n then ft ds ρ else none) = some ρ' := e
    split at e
    · rename_i hl
      obtain ⟨p, vs, rfl, s1, a1⟩ := dp_tup hd
      exact ⟨p, vs, rfl, ex_t r.ok.sub s1, by rw [dpa_len a1]; exact hl, h.run L F0 H0 ρ D σ F H vs ds ρ' r a1 e Q q⟩
    · cases e
end
def lcG (fg : PyData → Env → Option Env) (ft : FT) (fe : FE) (ρ : Env) : List PyData → Dw → Option (List PyData × Dw)
  | [], D => some ([], D)
  | x :: xs, D => (fg x ρ).bind fun ρ' => (ft ρ' D).bind fun t => if t.1 then (fe ρ' t.2).bind fun y => (lcG fg ft fe ρ xs y.2).map fun r => (y.1 :: r.1, r.2) else lcG fg ft fe ρ xs t.2
def lcT (is : List Nat) (fi : FL) (fg : PyData → Env → Option Env) (ft : FT) (fe : FE) : FL := fun ρ D => (fi ρ D).bind fun r => if r.1.length ≤ 1000000 then lcG fg ft fe (wipeE ρ is) r.1 r.2 else none
section
variable {X : Cx} {iter : Expr} {fi : FL} {pos : Pos}
theorem lcT_read {tg elt : Expr} {scope : Scope} {is : List Nat} {g : TG} {fg : PyData → Env → Option Env} {ft : FT} {fe : FE} {tt : TT} (hi : DI X tg iter fi) (hg : TgD X.K is g fg)
    (hft : ∀ L F0 H0 ρ D σ F H b D', Rep X.K L F0 H0 ρ D σ F H → ft ρ D = some (b, D') → ∀ Q : Bool → Hp → Prop, (∀ F' H', Stp L F H F' H' → Ok L D' F' H' → Q b H') → tt σ H Q)
    (he : DAllE X scope elt fe) {L : Loc} {F0 H0 : Hp} {ρ : Env} {D D' : Dw} {σ : L2.St} {F H : Hp} {out : List PyData} (r : Rep X.K L F0 H0 ρ D σ F H) (hf : lcT is fi fg ft fe ρ D = some (out, D')) (Q : VK)
    (q : ∀ p vs F' H', Stp L F H F' H' → Ok L D' F' H' → H p = none → F' p = none → H' p = some (.lst vs) → DpAll X.K F' vs out → Q (.ref p) H') : tLc (tWI X tg iter) g tt (tAllE X scope elt) is σ H Q := by
  obtain ⟨⟨xs, D1⟩, e1, hf⟩ := bind_split hf
  dsimp only at hf
  split at hf
  · rename_i hbig
    refine hi.run L F0 H0 ρ D σ F H xs D1 r e1 _ fun J F1 H1 t1 k1 wd p np => ?_
    have r1 := r.step t1 k1
    have n1 : ¬ isD L p := k1.nd np
    have nF1 : F1 p = none := k1.sub.back np
    have nH : H p = none := back_none t1 np
    have nH0 : H0 p = none := back_none r.stp nH
    have ne1 : ∀ (j : Nat) ys, ρ[j]? = some (some (.own ys)) → σ[j]? ≠ some (some (.ref p)) := fun j ys ej => r1.own_ne np ej
    refine ⟨fun j m H' => ∃ Dj F' acc vs rest, Rep X.K L F0 H0 ρ Dj σ F' H' ∧ Stp L F1 H1 F' H' ∧ F' p = none ∧ H' p = some (.lst vs) ∧ DpAll X.K F' vs acc ∧ acc.length ≤ j ∧ j ≤ xs.length ∧ m = xs.length - j ∧ lcG fg ft fe (wipeE ρ is) (xs.drop j) Dj = some (rest, D') ∧ acc ++ rest = out,
      ⟨xs.length, D1, F1, [], [], out, r1.beside nH0 nF1 n1 (fun q z => by rw [np] at z; cases z) ne1, Stp.fresh np, nF1, upd_same, .nil, Nat.le_refl _, Nat.zero_le _, rfl, hf, rfl⟩, ?_⟩
    rintro j m H' ⟨Dj, F', acc, vs, rest, rj, tj, nFj, hp, ha, hal, hj, rfl, hl, hout⟩
    by_cases hlt : j < xs.length
    · rw [List.drop_eq_getElem_cons hlt] at hl
      obtain ⟨ρ1, e0, hl⟩ := bind_split hl
      obtain ⟨⟨b, D2⟩, e2, hl⟩ := bind_split hl
      refine .inr ⟨wd.go j Dj F' H' tj.ex rj.ok hlt, fun H2 => ∃ Dj F' acc vs rest, Rep X.K L F0 H0 ρ Dj σ F' H2 ∧ Stp L F1 H1 F' H2 ∧ F' p = none ∧ H2 p = some (.lst vs) ∧ DpAll X.K F' vs acc ∧ acc.length ≤ j + 1 ∧ lcG fg ft fe (wipeE ρ is) (xs.drop (j + 1)) Dj = some (rest, D') ∧ acc ++ rest = out, ?_, ?_⟩
      · rintro H2 ⟨Dk, F2, acc2, vs2, rest2, a1, a2, a3, a4, a5, a6, a7, a8⟩
        exact ⟨xs.length - (j + 1), by omega, Dk, F2, acc2, vs2, rest2, a1, a2, a3, a4, a5, a6, hlt, rfl, a7, a8⟩
      · intro y H2 hy
        obtain ⟨F2, t2, k2, hd⟩ := wd.yld j _ Dj F' H' y H2 tj.ex rj.ok (List.getElem?_eq_getElem hlt) hy
        have r2 := rj.step t2 k2
        refine hg.run L F0 H0 _ Dj _ F2 H2 y _ ρ1 (r2.wiped is) hd e0 _ fun σ2 rb w2 => ?_
        refine ⟨w2.trans (wipe_sub is is σ fun _ h => h), hft L F0 H0 _ Dj _ F2 H2 b D2 rb e2 _ fun F3 H3 t3 k3 => ?_⟩
        cases b with
        | true =>
          rw [if_pos rfl] at hl
          obtain ⟨⟨z, D3⟩, e3, hl⟩ := bind_split hl
          obtain ⟨⟨rest', D4⟩, e4, hl⟩ := map_split hl
          cases hl
          refine iteT fun s H5 C cl fp => (he s H5 C cl fp).run L F0 H0 _ D2 _ F3 H3 z D3 (rb.step t3 k3) e3 _ fun v F4 H4 t4 k4 hv => ?_
          have t24 := (t2.trans t3).trans t4
          have hp4 : H4 p = some (.lst vs) := t24.keep p _ hp n1
          have nF4 : F4 p = none := by
            cases hq : F4 p with
            | none => rfl
            | some u => exact absurd nFj (t24.sep p (by rw [hp]; exact fun z => nomatch z) (by rw [hq]; exact fun z => nomatch z))
          refine ⟨vs, hp4, Nat.lt_of_le_of_lt (by rw [dpa_len ha]; omega) (show 1000000 < sizeLine by decide), D3, F4, acc ++ [z], vs ++ [v], rest', ?_, ?_, nF4, upd_same, dpa_app (dpa_mono t24.ex ha) (.cons hv .nil), by rw [List.length_append]; simpa using hal, e4, by rw [List.append_assoc]; exact hout⟩
          · exact (rj.step t24 k4).beside nH0 nF4 n1 (not_code hp4) ne1
          · exact (tj.trans t24).mut np
        | false =>
          rw [if_neg Bool.false_ne_true] at hl
          have t23 := t2.trans t3
          have nF3 : F3 p = none := by
            cases hq : F3 p with
            | none => rfl
            | some u => exact absurd nFj (t23.sep p (by rw [hp]; exact fun z => nomatch z) (by rw [hq]; exact fun z => nomatch z))
          exact iteF ⟨D2, F3, acc, vs, rest, rj.step t23 k3, tj.trans t23, nF3, t23.keep p _ hp n1, dpa_mono t23.ex ha, by omega, hl, hout⟩
    · have e : j = xs.length := by omega
      subst e
      rw [List.drop_length] at hl
      cases hl
      rw [List.append_nil] at hout
      subst hout
      exact .inl ⟨wd.stop _ _ F' H' tj.ex rj.ok (Nat.le_refl _), q p vs F' H' (t1.trans tj) rj.ok nH nFj hp ha⟩
  · cases hf
theorem dn_lcT {tg elt : Expr} {ifs : List Expr} {scope : Scope} {own : List (Str × Nat)} {g : TG} {fg : PyData → Env → Option Env} {ft : FT} {fe : FE} (hc : X.calm = true) (hN : X.N.Nodup) (hi : DI X tg iter fi) (ok : BlkOk X.N X.env.scope scope own)
    (hg : ∀ (s : Shared) (H : Hp) (C : Addr) (cl : List (Str × Addr)) (fp : List Addr), PG (X.blk s H scope (compEnvC scope cl C X.env) fp) tg g) (hd : TgD X.K (own.map (·.2)) g fg) (ht : TestsD X scope ifs ft)
    (he : DAllE X scope elt fe) (hs : ∀ x, foldedSetIterable iter X.env x = pure x := by intro _; rfl) : DN X (.ListComp elt [⟨tg, iter, ifs, 0⟩] scope pos) (lcT (own.map (·.2)) fi fg ft fe) := by
  refine .mk ?_
  intro L F0 H0 ρ D σ F H out D' r hf Q q
  obtain ⟨tt, htt, hft⟩ := ht.ex
  exact PEw (pe_lc (own := own) (g := g) (tt := tt) (te := tAllE X scope elt) hc hN pi_w ok hg htt pe_all hs) (lcT_read hi hd hft he r hf Q q)
/-- for .. in a tuple -/
def tupI (f : FE) : FL := fun ρ D => (f ρ D).bind fun r => match r.1 with
  | .tuple xs => some (xs, r.2)
  | _ => none
theorem di_tupI {tg : Expr} {f : FE} (h : DE X iter f) : DI X tg iter (tupI f) := di_tup h
/-- name = [..] -/
theorem ds_lcTN {tg elt : Expr} {ifs : List Expr} {scope : Scope} {own : List (Str × Nat)} {i : Nat} {y : Str} {g : TG} {fg : PyData → Env → Option Env} {ft : FT} {fe : FE} {py spos : Pos} (hc : X.calm = true) (hN : X.N.Nodup) (hi : DI X tg iter fi) (ok : BlkOk X.N X.env.scope scope own)
    (hg : ∀ (s : Shared) (H : Hp) (C : Addr) (cl : List (Str × Addr)) (fp : List Addr), PG (X.blk s H scope (compEnvC scope cl C X.env) fp) tg g) (hd : TgD X.K (own.map (·.2)) g fg) (ht : TestsD X scope ifs ft)
    (he : DAllE X scope elt fe) (hy : X.N[i]? = some y := by rfl) (hyl : X.env.scope.names.lookup y = some .local := by rfl) (hsw : swapsWith (.ListComp elt [⟨tg, iter, ifs, 0⟩] scope pos) (some (.Name y py)) spos.line X.env = pure true := by exact sw_true rfl rfl rfl (by decide +kernel))
    (hs : ∀ x, foldedSetIterable iter X.env x = pure x := by intro _; rfl) : DS X (.Assign [.Name y py] (.ListComp elt [⟨tg, iter, ifs, 0⟩] scope pos) spos) (lcS i (lcT (own.map (·.2)) fi fg ft fe)) := by
  refine .mk ?_
  intro L F0 H0 ρ D σ F H o E r hf q
  obtain ⟨tt, htt, hft⟩ := ht.ex
  obtain ⟨⟨out, D'⟩, e1, ho⟩ := map_split hf
  subst ho
  refine PSw (ps_setLc (i := i) (own := own) (g := g) (tt := tt) (te := tAllE X scope elt) hc hN hy hyl hsw pi_w ok hg htt pe_all hs) (lcT_read hi hd hft he r e1 _ fun p vs F' H' t k n nF hp hv => ?_)
  have r' : Rep X.K L F0 H0 ρ D' σ (upd F' p (.lst vs)) H' := r.step (t.frz n nF) (k.frz hp nF (r.ok.nd n))
  exact q _ _ H' (r'.setD i (.lst (.inl (.inl upd_same)) (dpa_mono (Ex.new nF) hv)))
/-- .. which is the name's own -/
theorem ds_lcTO {tg elt : Expr} {ifs : List Expr} {scope : Scope} {own : List (Str × Nat)} {i : Nat} {y : Str} {g : TG} {fg : PyData → Env → Option Env} {ft : FT} {fe : FE} {py spos : Pos} (hc : X.calm = true) (hN : X.N.Nodup) (hi : DI X tg iter fi) (ok : BlkOk X.N X.env.scope scope own)
    (hg : ∀ (s : Shared) (H : Hp) (C : Addr) (cl : List (Str × Addr)) (fp : List Addr), PG (X.blk s H scope (compEnvC scope cl C X.env) fp) tg g) (hd : TgD X.K (own.map (·.2)) g fg) (ht : TestsD X scope ifs ft)
    (he : DAllE X scope elt fe) (hy : X.N[i]? = some y := by rfl) (hyl : X.env.scope.names.lookup y = some .local := by rfl) (hsw : swapsWith (.ListComp elt [⟨tg, iter, ifs, 0⟩] scope pos) (some (.Name y py)) spos.line X.env = pure true := by exact sw_true rfl rfl rfl (by decide +kernel))
    (hs : ∀ x, foldedSetIterable iter X.env x = pure x := by intro _; rfl) : DS X (.Assign [.Name y py] (.ListComp elt [⟨tg, iter, ifs, 0⟩] scope pos) spos) (asgO i (lcT (own.map (·.2)) fi fg ft fe)) := by
  refine .mk ?_
  intro L F0 H0 ρ D σ F H o E r hf q
  obtain ⟨tt, htt, hft⟩ := ht.ex
  obtain ⟨⟨out, D'⟩, e1, ho⟩ := map_split hf
  subst ho
  refine PSw (ps_setLc (i := i) (own := own) (g := g) (tt := tt) (te := tAllE X scope elt) hc hN hy hyl hsw pi_w ok hg htt pe_all hs) (lcT_read hi hd hft he r e1 _ fun p vs F' H' t k n nF hp hv => ?_)
  exact q _ F' H' ((r.step t k).setOwn i (back_none r.stp n) nF (r.ok.nd n) hp hv fun j ys _ ej => r.own_ne n ej)
end
end Den

end
-- DenY
section
set_option Elab.async false
set_option linter.all false
set_option maxRecDepth 100000
set_option maxHeartbeats 1000000
namespace Den
open PySem PySem.Spec PyProof.Rows L2
variable [TB : Tabl]
/-! ### an own list read for a moment, as if it were data -/
def atomD : PyData → Bool
  | .none => true
  | .bool _ => true
  | .int _ => true
  | .str _ => true
  | _ => false
theorem atom_dp {K : PySem.W.Frag} {F F' : Hp} {v : V} {x : PyData} (h : Dp K F v x) (a : atomD x = true) : Dp K F' v x := by
  match x, a, h with
  | .none, _, .non => exact .non
  | .bool b, _, .bl _ => exact .bl b
  | .int i, _, .int _ => exact .int i
  | .str s, _, .str _ => exact .str s
theorem Rep.freezeX {K : PySem.W.Frag} {L : Loc} {F0 H0 F H : Hp} {ρ : Env} {D : Dw} {σ : L2.St} (r : Rep K L F0 H0 ρ D σ F H) {i : Nat} {xs : List PyData} (e : ρ[i]? = some (some (.own xs))) :
    ∃ F', Ex F F' ∧ Rep K L F0 H0 (ρ.set i (some (.d (.list xs)))) D σ F' H := by
  obtain ⟨o, h1, p, vs, rfl, h0, hF, n, hp, hv⟩ := r.slot i _ e
  refine ⟨upd F p (.lst vs), Ex.new hF, r.ok.frz hp hF n, r.stp.frz h0 hF, by rw [List.length_set]; exact r.len, fun j a e' => ?_, fun j k xs ys p e1 e2 e3 e4 => ?_⟩
  · rcases set_cases e' with ⟨rfl, e', hl⟩ | ⟨hn, e'⟩
    · obtain rfl : AV.d (.list xs) = a := Option.some.inj e'
      exact ⟨_, h1, _, rfl, .lst (.inl (.inl upd_same)) (dpa_mono (Ex.new hF) hv)⟩
    · obtain ⟨o, g1, g2⟩ := r.slot j a e'
      refine ⟨o, g1, ?_⟩
      match a, g2 with
      | .d x, ⟨v, z, q⟩ => exact ⟨v, z, dp_mono (Ex.new hF) q⟩
      | .drw, h2 => exact h2
      | .dct zs, ⟨p', vs', e1, hp', q⟩ => exact ⟨p', vs', e1, Ex.new hF _ _ hp', q.mono (Ex.new hF)⟩
      | .exc c, ⟨p', e1, hp'⟩ => exact ⟨p', e1, Ex.new hF _ _ hp'⟩
      | .own zs, ⟨p', vs', e1, g0, gF, gn, gp, gv⟩ =>
        refine ⟨p', vs', e1, g0, ?_, gn, gp, dpa_mono (Ex.new hF) gv⟩
        have hpp : p' ≠ p := fun z => by
          subst z
          exact hn (r.inj i j _ _ p' e e' h1 (by rw [g1, e1]))
        rw [upd_ne hpp]; exact gF
  · rcases set_cases e1 with ⟨rfl, e', _⟩ | ⟨hn, e1⟩
    · cases e'
    rcases set_cases e2 with ⟨rfl, e', _⟩ | ⟨hn2, e2⟩
    · cases e'
    exact r.inj j k xs ys p e1 e2 e3 e4
/-- what was frozen for a moment is free again -/
theorem Stp.thaw {L : Loc} {F F1 H F2 H2 : Hp} (t : Stp L F1 H F2 H2) : Stp L F H F H2 := ⟨Ex.refl F, t.keep, fun _ _ h => h, t.low⟩
theorem Ok.thaw {L : Loc} {D D' : Dw} {F F1 H F2 H2 : Hp} (k : Ok L D F H) (x : Ex F F1) (t : Stp L F1 H F2 H2) (k2 : Ok L D' F2 H2) : Ok L D' F H2 :=
  ⟨(x.trans t.ex).trans k2.sub, k2.dr, k.dF, k2.tab⟩
def lookE (i : Nat) (f : FE) : FE := fun ρ D => (ownD i ρ D).bind fun o => (f (ρ.set i (some (.d (.list o.1)))) D).bind fun r => if atomD r.1 then some r else none
def lookT (i : Nat) (f : FT) : FT := fun ρ D => (ownD i ρ D).bind fun o => f (ρ.set i (some (.d (.list o.1)))) D
section
variable {X : Cx} {a b c e : Expr} {es rest : List Expr} {fa fb f : FE} {g : FA} {pos p : Pos}
theorem de_look {i : Nat} (h : DE X e f) : DE X e (lookE i f) := by
  refine .mk ?_
  intro L F0 H0 ρ D σ F H x D' r hf Q q
  obtain ⟨⟨xs, D1⟩, e1, hf0⟩ := bind_split hf
  obtain ⟨⟨y, D2⟩, e2, hf2⟩ := bind_split hf0
  unfold ownD at e1
  split at e1
  · rename_i y' hy
    cases e1
    split at hf2
    · rename_i ha
      cases hf2
      obtain ⟨F', x1, r'⟩ := r.freezeX hy
      exact h.run L F0 H0 _ D σ F' H _ _ r' e2 _ fun v F2 H2 t2 k2 hv => q v F H2 t2.thaw (r.ok.thaw x1 t2 k2) (atom_dp hv ha)
    · cases hf2
  · cases e1
theorem dt_look {i : Nat} {f : FT} (h : DT X e f) : DT X e (lookT i f) := by
  refine .mk ?_
  intro L F0 H0 ρ D σ F H x D' r hf Q q
  obtain ⟨⟨xs, D1⟩, e1, hf⟩ := bind_split hf
  unfold ownD at e1
  split at e1
  · rename_i y' hy
    cases e1
    obtain ⟨F', x1, r'⟩ := r.freezeX hy
    exact h.run L F0 H0 _ D σ F' H _ _ r' hf _ fun F2 H2 t2 k2 => q F H2 t2.thaw (r.ok.thaw x1 t2 k2)
  · cases e1
/-! ### xs[::-1], xs * n -/
def revD (f : FE) : FE := fun ρ D => (f ρ D).bind fun r => (asL r.1).map fun xs => (.list xs.reverse, r.2)
theorem dpa_rev {K : PySem.W.Frag} {H : Hp} : ∀ {vs : List V} {ds : List PyData}, DpAll K H vs ds → DpAll K H vs.reverse ds.reverse
  | _, _, .nil => .nil
  | _, _, .cons h a => by rw [List.reverse_cons, List.reverse_cons]; exact dpa_app (dpa_rev a) (.cons h .nil)
theorem de_rev {k : Nat} {p1 p2 p3 pos : Pos} (ha : DE X a fa) : DE X (.Subscript a (.Slice none none (some (.UnaryOp .USub (.Constant (.int 1) k p1) p2)) p3) pos) (revD fa) := by
  refine .mk ?_
  intro L F0 H0 ρ D σ F H z D' r hf Q q
  obtain ⟨⟨y, D1⟩, e1, hf⟩ := bind_split hf
  obtain ⟨ys, e2, hf⟩ := map_split hf
  cases hf
  have e3 := asL_some e2
  dsimp only at e3
  subst e3
  refine PEw (pe_revL pe_w) (ha.run L F0 H0 ρ D σ F H _ _ r e1 _ fun v F1 H1 t1 k1 hv => ?_)
  obtain ⟨pp, vs, rfl, s1, a1⟩ := dp_list hv
  exact ⟨pp, vs, rfl, ex_l k1.sub s1, fun t ht => q _ _ _ (t1.trans (Stp.laid k1.sub ht)) (k1.laid ht) (.lst (.inl (.inl upd_same)) (dpa_mono (Ex.new (k1.sub.back ht)) (dpa_rev a1)))⟩
def mulL : O2 | .list a, .int k => if decide (0 ≤ k) && decide (k ≤ 1000) && decide (a.length ≤ 1000) then some (.list (List.replicate k.toNat a).flatten) else none | _, _ => none
def rRepA (K : PySem.W.Frag) : R2 := fun x y H Q => ∃ l k xs, x = .ref l ∧ y = .int k ∧ SqL K H l xs ∧ 0 ≤ k ∧ k ≤ 1000 ∧ xs.length ≤ 1000 ∧ ∀ p, H p = none → Q (.ref p) (upd H p (.lst (List.replicate k.toNat xs).flatten))
theorem q_rmul_any (a : Int) (t : Tok) (l : Addr) (items : Array Value) (n : Nat) (d : Option Addr) (sl : Array (Option Value)) :
    Meets (Builtin.«int.__rmul__» ⟨[.int a t, .ref l], []⟩) (fun _ R s => s.heap.get? l = some { cls := .type "list", dict := d, data := .seq items n, slots := sl } ∧ R (.ok (.ret Value.notImplemented)) s) :=
  .of_wp fun prog w A R s h => by obtain ⟨hp, g, d, tk, os⟩ := s; obtain ⟨hl, h⟩ := h; wp_walk; exact ⟨_, rfl, h⟩
theorem q_mul_any (l : Addr) (items : Array Value) (n : Nat) (d : Option Addr) (sl : Array (Option Value)) (x : Int) (t : Tok) (hc0 : ¬(!Builtin.List.listFitsIndex x) = true)
    (hc1 : ¬items.size * x.toNat > (2 ^ 63 - 1) / 8) (hc2 : ¬Builtin.List.listTooLong (items.size * x.toNat) = true) :
    Meets (Builtin.«list.__mul__» ⟨[.ref l, .int x t], []⟩) (fun _ R s => s.heap.get? l = some { cls := .type "list", dict := d, data := .seq items n, slots := sl } ∧ R (.ok (.ret (Value.ref s.heap.objs.size))) { s with heap := s.heap.push { cls := Value.type "list", data := Data.seq (List.foldl (fun x1 x2 => x1 ++ x2) #[] (List.replicate (if items.isEmpty = true then 0 else x.toNat) items)) }, toks := s.toks }) :=
  .of_wp fun prog w A R s h => by
    obtain ⟨hp, g, d, tk, os⟩ := s; obtain ⟨hl, h⟩ := h
    have hsz := AutoListH.joined_fits hc2
    wp_walk; refine wpAny_ite_false (decide_eq_false (Nat.not_lt.mpr hsz)) ?_; wp_walk; exact ⟨_, rfl, h⟩
theorem op_repA : OpR X (binaryOp .Mult) (rRepA X.K) := by
  intro pins s σ H x y v u Q I rx ry h
  obtain ⟨l, k, xs, rfl, rfl, hs, h1, h2, hz, q⟩ := h
  cases rx
  obtain ⟨t, rfl⟩ := ry
  obtain ⟨its, r, ⟨⟨cls, dd, data, sl⟩, n, ho, hc, hdn, hd⟩, hlen⟩ := I.list hs
  simp only at hc hd
  subst hc hd
  have hl := r.length
  have hsz : its.toArray.size * k.toNat ≤ 1000 * 1000 := Nat.mul_le_mul (by rw [List.size_toArray, ← hl]; exact hz) (by omega)
  have hsl := sizeLine_eq
  have hcap : ¬ its.toArray.size * k.toNat > (2 ^ 63 - 1) / 8 := by omega
  have hfit : ¬ (!Builtin.List.listFitsIndex k) = true := by
    rw [fitsIndex_both (by omega) (by omega)]
    exact Bool.false_ne_true
  have hlong : ¬ Builtin.List.listTooLong (its.toArray.size * k.toNat) = true := by
    rw [notLongL (by omega)]
    exact Bool.false_ne_true
  have hnew : List.foldl (fun x1 x2 => x1 ++ x2) #[] (List.replicate (if its.toArray.isEmpty = true then 0 else k.toNat) its.toArray) = (List.replicate k.toNat its).flatten.toArray := by
    have f0 : ∀ m : Nat, List.foldl (fun x1 x2 => x1 ++ x2) #[] (List.replicate m its.toArray) = (List.replicate m its).flatten.toArray := fun m => by
      have := foldl_rep its m []
      rw [List.nil_append] at this
      exact this
    rw [f0]
    cases its with
    | nil => simp
    | cons a r' => rw [if_neg (by simp)]
  refine wpAny_binaryOp_repeat_ref (T := "list") (U := "int") (by decide) ⟨_, ho, rfl⟩ (fun s' => typeIs_int s' k t) noFill_list_mul F.fills_int_mul F.slot_int_rmul repeat_list F.slot_int_index.lookup
    (call_meets F.slot_int_rmul (typeIs_int s k t) F.entry_int_rmul (F.args_int_rmul_2 _ _) (q_rmul_any k t l its.toArray n dd sl)
      ⟨ho, rfl, ⟨_, ho, rfl⟩, call_meets F.slot_list_mul ⟨_, ho, rfl⟩ F.entry_list_mul (F.args_list_mul_2 _ _) (q_mul_any l its.toArray n dd sl k t hfit hcap hlong) ⟨ho, ?_⟩⟩)
  rw [hnew]
  exact ⟨.ref _, _, I.lnew (t' := s.toks) (r.rep k.toNat) (by rw [PyProof.Rows.lm_len_rep_flat, Nat.mul_comm]; rw [List.size_toArray, ← hl] at hsz; omega), rfl, q _ I.fresh⟩
theorem dpa_rep {K : PySem.W.Frag} {H : Hp} {vs : List V} {ds : List PyData} (h : DpAll K H vs ds) : ∀ n : Nat, DpAll K H (List.replicate n vs).flatten (List.replicate n ds).flatten
  | 0 => .nil
  | n + 1 => by rw [List.replicate_succ, List.replicate_succ, List.flatten_cons, List.flatten_cons]; exact dpa_app h (dpa_rep h n)
theorem os_mulL : OpS X (binaryOp .Mult) mulL := .of op_repA fun x y H Q ⟨L, D, F, dx, dy, dz, k, h1, h2, e, q⟩ => by
  match dx, dy, e with
  | .list a, .int n, e =>
    have e : (if decide (0 ≤ n) && decide (n ≤ 1000) && decide (a.length ≤ 1000) then some (PyData.list (List.replicate n.toNat a).flatten) else none) = some dz := e
    split at e
    · rename_i hc
      cases e
      simp only [Bool.and_eq_true, decide_eq_true_eq] at hc
      obtain ⟨p, vs, rfl, s1, a1⟩ := dp_list h1
      have l1 := dpa_len a1
      exact ⟨p, n, vs, rfl, dp_int h2, ex_l k.sub s1, hc.1.1, hc.1.2, by rw [l1]; exact hc.2, fun t ht => q _ _ _ (Stp.laid k.sub ht) (k.laid ht) (.lst (.inl (.inl upd_same)) (dpa_mono (Ex.new (k.sub.back ht)) (dpa_rep a1 _)))⟩
    · cases e
def mulO : O2 := orO mulI mulL
theorem os_mul : OpS X (binaryOp .Mult) mulO := .or os_mulI os_mulL
end
end Den

end
-- DenZ
section
set_option Elab.async false
set_option linter.all false
set_option maxRecDepth 100000
set_option maxHeartbeats 1000000
namespace Den
open PySem PySem.Spec PyProof.Rows L2
variable [TB : Tabl]
section
variable {X : Cx} {a b c e : Expr} {es rest : List Expr} {fa fb f : FE} {g : FA} {pos p : Pos}
/-! ### a, xs = e, a new list -/
def parSO (i j : Nat) (f1 : FE) (f2 : FL) : FS := fun ρ D => (f1 ρ D).bind fun a => (f2 ρ a.2).map fun b => .nx ((ρ.set i (some (.d a.1))).set j (some (.own b.1))) b.2
theorem ds_parO {i j : Nat} {x y : Str} {px py pt : Pos} {kt k2 pt2} {fl : FL} (hc : X.calm = true) (hN : X.N.Nodup) (ha : DE X a fa) (hb : DN X b fl) (hi : X.N[i]? = some x := by rfl) (hj : X.N[j]? = some y := by rfl) (hij : i ≠ j := by decide)
    (hx : X.env.scope.names.lookup x = some .local := by rfl) (hy : X.env.scope.names.lookup y = some .local := by rfl)
    (hw : swappedStores [.Tuple [.Name x px, .Name y py] kt pt] (.Tuple [a, b] k2 pt2) X.env = pure (some [x, y]) := by rfl)
    (hs : swapsWithSole [.Tuple [.Name x px, .Name y py] kt pt] (.Tuple [a, b] k2 pt2) pos.line X.env = pure false := by rfl)
    (s1 : starEach [a, b] X.env = (false, eval a X.env) :: starEach [b] X.env := by rfl) (s2 : starEach [b] X.env = (false, eval b X.env) :: starEach [] X.env := by rfl) :
    DS X (.Assign [.Tuple [.Name x px, .Name y py] kt pt] (.Tuple [a, b] k2 pt2) pos) (parSO i j fa fl) := .mk fun L F0 H0 ρ D σ F H o E r hfo q => by
  obtain ⟨⟨u, D1⟩, e1, hfo⟩ := bind_split hfo
  obtain ⟨⟨w, D2⟩, e2, ho⟩ := map_split hfo
  subst ho
  refine PSw (ps_par hc hN hi hj hij hx hy (pa_cons pe_w (pa_cons pe_w pa_nil s2) s1) hw hs) (ha.run L F0 H0 ρ D σ F H _ _ r e1 _ fun v1 F1 H1 t1 k1 h1 => hb.run L F0 H0 ρ D1 σ F1 H1 _ _ (r.step t1 k1) e2 _ fun pp vs F2 H2 t2 k2 n nF hp hv => ⟨v1, .ref pp, rfl, q _ F2 H2 ?_⟩)
  have r1 := r.step t1 k1
  refine ((r1.step t2 k2).setD i (dp_mono t2.ex h1)).setOwn j (back_none r1.stp n) nF (r1.ok.nd n) hp hv fun k ys hk ej es => ?_
  rcases set_cases ej with ⟨_, z, _⟩ | ⟨hn, ej⟩
  · cases z
  · rw [List.getElem?_set_ne hn] at es
    exact r1.own_ne n ej es
/-- the same where a name is read by an inner block: by a pair -/
theorem ds_parOC {i j : Nat} {x y : Str} {px py pt : Pos} {kt k2 pt2} {fl : FL} (hc : X.calm = true) (hN : X.N.Nodup) (ha : DE X a fa) (hb : DN X b fl) (hi : X.N[i]? = some x := by rfl) (hj : X.N[j]? = some y := by rfl)
    (hx : L2.Loc X.env.scope x := by first | exact Or.inl rfl | exact Or.inr rfl) (hfx : X.fn x = true ∨ X.env.scope.names.lookup x = some .local := by first | exact .inl rfl | exact .inr rfl | assumption)
    (hy : L2.Loc X.env.scope y := by first | exact Or.inl rfl | exact Or.inr rfl) (hfy : X.fn y = true ∨ X.env.scope.names.lookup y = some .local := by first | exact .inl rfl | exact .inr rfl | assumption)
    (hw : swappedStores [.Tuple [.Name x px, .Name y py] kt pt] (.Tuple [a, b] k2 pt2) X.env = pure none := by rfl)
    (hs : swapsWithSole [.Tuple [.Name x px, .Name y py] kt pt] (.Tuple [a, b] k2 pt2) pos.line X.env = pure false := by rfl)
    (h1 : (assignEach [.Tuple [.Name x px, .Name y py] kt pt] X.env).map (·.2) = [assign (.Tuple [.Name x px, .Name y py] kt pt) X.env] := by rfl)
    (hn : (assignEach [.Name x px, .Name y py] X.env).length = 2 := by rfl) (hst : (assignEach [.Name x px, .Name y py] X.env).findIdx? (·.1) = none := by rfl)
    (g1 : (assignEach [.Name x px, .Name y py] X.env).map (·.2) = assign (.Name x px) X.env :: (assignEach [.Name y py] X.env).map (·.2) := by rfl)
    (g2 : (assignEach [.Name y py] X.env).map (·.2) = assign (.Name y py) X.env :: (assignEach [] X.env).map (·.2) := by rfl)
    (s1 : starEach [a, b] X.env = (false, eval a X.env) :: starEach [b] X.env := by rfl) (s2 : starEach [b] X.env = (false, eval b X.env) :: starEach [] X.env := by rfl) :
    DS X (.Assign [.Tuple [.Name x px, .Name y py] kt pt] (.Tuple [a, b] k2 pt2) pos) (parSO i j fa fl) := .mk fun L F0 H0 ρ D σ F H o E r hfo q => by
  obtain ⟨⟨u, D1⟩, e1, hfo⟩ := bind_split hfo
  obtain ⟨⟨w, D2⟩, e2, ho⟩ := map_split hfo
  subst ho
  refine PSw (ps_asg (pe_tup (pa_cons pe_w (pa_cons pe_w pa_nil s2) s1)) (pg_tup hc (pgs_cons (pg_name hN hi hx hfx) (pgs_cons (pg_name hN hj hy hfy) pgs_nil g2) g1) hn hst) hs hw h1)
    (ha.run L F0 H0 ρ D σ F H _ _ r e1 _ fun v1 F1 H1 t1 k1 h1 => hb.run L F0 H0 ρ D1 σ F1 H1 _ _ (r.step t1 k1) e2 _ fun pp vs F2 H2 t2 k2 n nF hp hv => ⟨(by show (2:Nat) ≤ sizeLine; decide), fun T hT => ?_⟩)
  have r1 := r.step t1 k1
  have r2 : Rep X.K L F0 H0 ((ρ.set i (some (.d u))).set j (some (.own w))) D2 ((σ.set i (some v1)).set j (some (.ref pp))) F2 H2 := by
    refine ((r1.step t2 k2).setD i (dp_mono t2.ex h1)).setOwn j (back_none r1.stp n) nF (r1.ok.nd n) hp hv fun k ys hk ej es => ?_
    rcases set_cases ej with ⟨_, z, _⟩ | ⟨hn, ej⟩
    · cases z
    · rw [List.getElem?_set_ne hn] at es
      exact r1.own_ne n ej es
  exact ⟨T, [v1, .ref pp], rfl, .inl (.inl upd_same), rfl, v1, [.ref pp], rfl, .ref pp, [], rfl, rfl, q _ _ _ (r2.step (Stp.fresh hT) (k2.fresh hT))⟩
/-! ### enumerate -/
def enumV (i : Nat) : List PyData → List PyData
  | [] => []
  | x :: xs => .tuple [.int (i : Nat), x] :: enumV (i + 1) xs
theorem enumV_len (i : Nat) : ∀ xs, (enumV i xs).length = xs.length := fun xs => by
  induction xs generalizing i with
  | nil => rfl
  | cons x xs ih => rw [enumV, List.length_cons, List.length_cons, ih]
theorem enumV_at : ∀ (xs : List PyData) (k i : Nat) (d : PyData), (enumV k xs)[i]? = some d → ∃ x, xs[i]? = some x ∧ d = .tuple [.int ((k + i : Nat) : Int), x]
  | [], k, i, d, h => by simp [enumV] at h
  | x :: xs, k, 0, d, h => by
    rw [enumV] at h
    exact ⟨x, rfl, by simpa using h.symm⟩
  | x :: xs, k, i + 1, d, h => by
    rw [enumV] at h
    obtain ⟨y, h1, h2⟩ := enumV_at xs (k + 1) i d (by simpa using h)
    exact ⟨y, by simpa using h1, by rw [h2]; congr 2; congr 1; omega⟩
def enumI (f : FL) : FL := fun ρ D => (f ρ D).map fun r => (enumV 0 r.1, r.2)
theorem di_enum {elts : List Expr} {kk : Nat} {tpos : Pos} (hg : Gl X "enumerate") (hm : X.mg "enumerate" = none) (h : DE X e f) (hs : starEach [e] X.env = [(false, eval e X.env)] := by rfl) :
    DI X (.Tuple elts kk tpos) (.Call (.Name "enumerate" p) [e] [] pos) (enumI (lstD f)) := .mk fun L F0 H0 ρ D σ F H xs D' r hf R q => by
  obtain ⟨⟨zs, D1⟩, hz, hf⟩ := map_split hf
  obtain ⟨⟨y, D2⟩, e1, hz⟩ := bind_split hz
  obtain ⟨ys, e2, hz⟩ := map_split hz
  cases hz
  cases hf
  have e3 := asL_some e2
  dsimp only at e3
  subst e3
  refine PIw (pi_enum hg hm (pa_cons pe_w pa_nil hs) hs) (h.run L F0 H0 ρ D σ F H _ _ r e1 _ fun v F1 H1 t1 k1 hv => ?_)
  obtain ⟨pp, vs, rfl, s1, a1⟩ := dp_list hv
  refine ⟨pp, vs, rfl, ex_l k1.sub s1, q _ F1 H1 t1 k1 ⟨fun i D F2 H2 x2 k2 hi => ?_, fun i D F2 H2 x2 k2 hi => ?_, fun i d D F2 H2 v H3 x2 k2 hi hy => ?_⟩⟩
  · have hl : i < vs.length := by rw [dpa_len a1]; rw [enumV_len] at hi; exact hi
    exact ⟨vs, vs[i], ex_l (x2.trans k2.sub) s1, by simp [hl]⟩
  · exact ⟨vs, ex_l (x2.trans k2.sub) s1, by rw [dpa_len a1]; rw [enumV_len] at hi; exact hi⟩
  · obtain ⟨T, x, rfl, hT, rfl, hy⟩ := hy
    obtain ⟨x', e4, rfl⟩ := enumV_at _ _ _ _ hi
    obtain ⟨u, e5, e6⟩ := dpa_getD a1 e4
    have e7 := hy vs (ex_l (x2.trans k2.sub) s1)
    rw [e5] at e7
    cases e7
    exact ⟨_, Stp.laid k2.sub hT, k2.laid hT, .tup (.inl (.inl upd_same)) (.cons (by rw [Nat.zero_add]; exact .int _) (.cons (dp_mono (x2.trans (Ex.new (k2.sub.back hT))) e6) .nil))⟩
end
end Den

end
-- DenZb
section
set_option Elab.async false
set_option linter.all false
set_option maxRecDepth 100000
set_option maxHeartbeats 1000000
namespace Den
open PySem PySem.Spec PyProof.Rows L2
variable [TB : Tabl]
section
variable {X : Cx}
def isNotB : O2 | .bool a, .bool b => some (.bool (!decide (a = b))) | _, _ => none
theorem os_isNotB : OpS X (compareOp .IsNot) isNotB := .of op_isnot_bl fun x y H Q ⟨L, D, F, dx, dy, dz, k, h1, h2, e, q⟩ => by
  match dx, dy, e with
  | .bool i, .bool j, e => cases e; exact ⟨i, j, dp_bl h1, dp_bl h2, q _ F H Stp.refl k (.bl _)⟩
def isNotO : O2 := orO isNotB isNotNo
theorem os_isNot : OpS X (compareOp .IsNot) isNotO := .or os_isNotB os_isNotNo
variable {st : Stmt} {g1 : FS}
/-- an own list becomes data, if it isn't data yet -/
def frzL (i : Nat) (g : FS) : FS := fun ρ D => match ρ[i]? with
  | some (some (.own xs)) => g (ρ.set i (some (.d (.list xs)))) D
  | some (some (.d _)) => g ρ D
  | _ => none
theorem ds_frzL {i : Nat} (h : DS X st g1) : DS X st (frzL i g1) := .mk fun L F0 H0 ρ D σ F H o E r hf q => by
  unfold frzL at hf
  split at hf
  · rename_i xs hy
    obtain ⟨F', r'⟩ := r.freeze hy
    exact h.run L F0 H0 _ D σ F' H o E r' hf q
  · exact h.run L F0 H0 _ D σ F H o E r hf q
  · cases hf
end
end Den

end
-- DenZc
section
set_option Elab.async false
set_option linter.all false
set_option maxRecDepth 100000
set_option maxHeartbeats 1000000
namespace Den
open PySem PySem.Spec PyProof.Rows L2
variable [TB : Tabl]
/-! ### dicts of ints and texts that are written and read -/
def keyOf : PyData → Option Key
  | .int i => some (.inl i)
  | .str s => some (.inr s)
  | _ => none
theorem keyOf_dp {K : PySem.W.Frag} {F : Hp} {v : V} {d : PyData} {k : Key} (h : Dp K F v d) (e : keyOf d = some k) : v = kV k := by
  match d, e with
  | .int i, e => cases e; exact dp_int h
  | .str s, e => cases e; exact dp_str h
def putD (kvs : List (Key × PyData)) (k : Key) (v : PyData) : List (Key × PyData) :=
  if (kvs.any fun kv => decide (kv.1 = k)) = true then kvs.map (fun kv => if kv.1 = k then (kv.1, v) else kv) else kvs ++ [(k, v)]
def mergeD (kvs more : List (Key × PyData)) : List (Key × PyData) := more.foldl (fun acc kv => putD acc kv.1 kv.2) kvs
def getD' (kvs : List (Key × PyData)) (k : Key) : Option PyData := (kvs.find? fun kv => decide (kv.1 = k)).map (·.2)
section
variable {K : PySem.W.Frag} {F : Hp}
theorem kv_any {k : Key} : ∀ {vs : List (Key × V)} {xs : List (Key × PyData)}, KvDp K F vs xs → (vs.any fun kv => decide (kv.1 = k)) = xs.any fun kv => decide (kv.1 = k)
  | _, _, .nil => rfl
  | _, _, .cons h t => by rw [List.any_cons, List.any_cons, kv_any t]
theorem kv_map {k : Key} {v : V} {x : PyData} (hv : Dp K F v x) : ∀ {vs : List (Key × V)} {xs : List (Key × PyData)}, KvDp K F vs xs → KvDp K F (vs.map fun kv => if kv.1 = k then (kv.1, v) else kv) (xs.map fun kv => if kv.1 = k then (kv.1, x) else kv)
  | _, _, .nil => .nil
  | (k', v') :: vs, (_, x') :: xs, .cons h t => by
    rw [List.map_cons, List.map_cons]
    by_cases e : k' = k
    · rw [if_pos e, if_pos e]; exact .cons hv (kv_map hv t)
    · rw [if_neg e, if_neg e]; exact .cons h (kv_map hv t)
theorem kv_len : ∀ {vs : List (Key × V)} {xs : List (Key × PyData)}, KvDp K F vs xs → vs.length = xs.length
  | _, _, .nil => rfl
  | _, _, .cons _ t => by rw [List.length_cons, List.length_cons, kv_len t]
theorem kv_app : ∀ {vs ws : List (Key × V)} {xs ys : List (Key × PyData)}, KvDp K F vs xs → KvDp K F ws ys → KvDp K F (vs ++ ws) (xs ++ ys)
  | _, _, _, _, .nil, b => b
  | _, _, _, _, .cons h t, b => .cons h (kv_app t b)
theorem kv_put {k : Key} {v : V} {x : PyData} (hv : Dp K F v x) {vs : List (Key × V)} {xs : List (Key × PyData)} (h : KvDp K F vs xs) : KvDp K F (putK vs k v) (putD xs k x) := by
  unfold putK putD
  rw [kv_any h]
  split
  · exact kv_map hv h
  · exact kv_app h (.cons hv .nil)
theorem kv_merge : ∀ {vs : List (Key × V)} {xs : List (Key × PyData)} {ws : List (Key × V)} {ys : List (Key × PyData)}, KvDp K F ws ys → KvDp K F vs xs → KvDp K F (mergeK vs ws) (mergeD xs ys)
  | _, _, _, _, .nil, h => h
  | vs, xs, (k, v) :: ws, (_, y) :: ys, .cons hv t, h => by
    show KvDp K F (mergeK (putK vs k v) ws) (mergeD (putD xs k y) ys)
    exact kv_merge t (kv_put hv h)
theorem kv_get {k : Key} {x : PyData} : ∀ {vs : List (Key × V)} {xs : List (Key × PyData)}, KvDp K F vs xs → getD' xs k = some x → ∃ v, valV vs k = some v ∧ Dp K F v x
  | _, _, .nil, e => by cases e
  | (k', v') :: vs, (_, x') :: xs, .cons h t, e => by
    by_cases ek : k' = k
    · have e1 : getD' ((k', x') :: xs) k = some x' := by simp [getD', List.find?_cons, ek]
      rw [e1] at e
      cases e
      exact ⟨v', valV_pos ek, h⟩
    · have e1 : getD' ((k', x') :: xs) k = getD' xs k := by simp [getD', List.find?_cons, ek]
      rw [e1] at e
      obtain ⟨v, h1, h2⟩ := kv_get t e
      exact ⟨v, by rw [valV_neg ek]; exact h1, h2⟩
end
def pairsD : List (FE × FE) → Env → Dw → Option (List (PyData × PyData) × Dw)
  | [], _, D => some ([], D)
  | (fk, fv) :: r, ρ, D => (fk ρ D).bind fun a => (fv ρ a.2).bind fun b => (pairsD r ρ b.2).map fun t => ((a.1, b.1) :: t.1, t.2)
def keysOfD : List (PyData × PyData) → Option (List (Key × PyData))
  | [] => some []
  | (a, b) :: r => (keyOf a).bind fun k => (keysOfD r).map fun t => (k, b) :: t
inductive PsDp (K : PySem.W.Frag) (F : Hp) : List (V × V) → List (PyData × PyData) → Prop where
  | nil : PsDp K F [] []
  | cons {u v : V} {x y : PyData} {vs : List (V × V)} {xs : List (PyData × PyData)} : Dp K F u x → Dp K F v y → PsDp K F vs xs → PsDp K F ((u, v) :: vs) ((x, y) :: xs)
theorem ps_keys {K : PySem.W.Frag} {F : Hp} : ∀ {ps : List (V × V)} {xs : List (PyData × PyData)} {ks : List (Key × PyData)}, PsDp K F ps xs → keysOfD xs = some ks → ∃ kvs : List (Key × V), ps = kvs.map (fun kv => (kV kv.1, kv.2)) ∧ KvDp K F kvs ks
  | _, _, _, .nil, e => by cases e; exact ⟨[], rfl, .nil⟩
  | _, (x, y) :: xs, ks, .cons h1 h2 t, e => by
    obtain ⟨k, e1, e⟩ := bind_split (show (keyOf x).bind (fun k => (keysOfD xs).map fun t => (k, y) :: t) = some ks from e)
    obtain ⟨ks', e2, rfl⟩ := map_split e
    obtain ⟨kvs, h3, h4⟩ := ps_keys t e2
    exact ⟨(k, _) :: kvs, by rw [List.map_cons, ← h3, keyOf_dp h1 e1], .cons h2 h4⟩
section
variable {X : Cx} {a b c e : Expr} {pos p : Pos}
variable (X) in
inductive DPrs : List (Option Expr) → List Expr → List (FE × FE) → Prop where
  | nil : DPrs [] [] []
  | cons {k v : Expr} {ks : List (Option Expr)} {vs : List Expr} {fk fv : FE} {r : List (FE × FE)} : DE X k fk → DE X v fv → DPrs ks vs r → DPrs (some k :: ks) (v :: vs) ((fk, fv) :: r)
variable (X) in
def trsOf : List (Option Expr) → List Expr → List (TE × TE)
  | some k :: ks, v :: vs => (tW X k, tW X v) :: trsOf ks vs
  | _, _ => []
theorem prs_pps : ∀ {ks : List (Option Expr)} {vs : List Expr} {r : List (FE × FE)}, DPrs X ks vs r → PPs X pos ks vs (trsOf X ks vs)
  | _, _, _, .nil => pps_nil
  | _, _, _, .cons _ _ t => pps_cons pe_w pe_w (prs_pps t)
theorem prs_run : ∀ {ks : List (Option Expr)} {vs : List Expr} {prs : List (FE × FE)}, DPrs X ks vs prs → ∀ {L : Loc} {F0 H0 : Hp} {ρ : Env} {D : Dw} {σ : L2.St} {F H : Hp} {out : List (PyData × PyData)} {D' : Dw}, Rep X.K L F0 H0 ρ D σ F H → pairsD prs ρ D = some (out, D') →
    ∀ Q : List (V × V) → Hp → Prop, (∀ ps F' H', Stp L F H F' H' → Ok L D' F' H' → PsDp X.K F' ps out → Q ps H') → tPairs (trsOf X ks vs) σ H Q
  | _, _, _, .nil, L, F0, H0, ρ, D, σ, F, H, out, D', r, hf, Q, q => by
    cases hf
    exact q [] F H Stp.refl r.ok .nil
  | _, _, _, .cons (fk := fk) (fv := fv) (r := rest) hk hv t, L, F0, H0, ρ, D, σ, F, H, out, D', r, hf, Q, q => by
    obtain ⟨⟨x, D1⟩, e1, hf⟩ := bind_split hf
    obtain ⟨⟨y, D2⟩, e2, hf⟩ := bind_split hf
    obtain ⟨⟨tl, D3⟩, e3, hf⟩ := map_split hf
    cases hf
    refine hk.run L F0 H0 ρ D σ F H _ _ r e1 _ fun u F1 H1 t1 k1 hu => hv.run L F0 H0 ρ D1 σ F1 H1 _ _ (r.step t1 k1) e2 _ fun w F2 H2 t2 k2 hw => ?_
    exact prs_run t ((r.step t1 k1).step t2 k2) e3 _ fun ps F3 H3 t3 k3 hps => q _ F3 H3 ((t1.trans t2).trans t3) k3 (.cons (dp_mono (t2.ex.trans t3.ex) hu) (dp_mono t3.ex hw) hps)
/-- x = {k: v, ..} -/
def dctS (i : Nat) (prs : List (FE × FE)) : FS := fun ρ D => (pairsD prs ρ D).bind fun r => (keysOfD r.1).bind fun ks => if ks.length ≤ 15 then some (.nx (ρ.set i (some (.dct (mergeD [] ks)))) r.2) else none
theorem Rep.setDct {K : PySem.W.Frag} {L : Loc} {F0 H0 F H : Hp} {ρ : Env} {D : Dw} {σ : L2.St} (r : Rep K L F0 H0 ρ D σ F H) {p : Addr} {vs : List (Key × V)} {xs : List (Key × PyData)} (i : Nat) (hp : F p = some (.dK vs)) (h : KvDp K F vs xs) : Rep K L F0 H0 (ρ.set i (some (.dct xs))) D (σ.set i (some (.ref p))) F H := by
  refine ⟨r.ok, r.stp, by rw [List.length_set, List.length_set]; exact r.len, fun j a e => ?_, fun j k xs ys p e1 e2 e3 e4 => ?_⟩
  · rcases set_cases e with ⟨rfl, e', hl⟩ | ⟨hn, e'⟩
    · obtain rfl : AV.dct xs = a := Option.some.inj e'
      exact ⟨some (.ref p), List.getElem?_set_self (by rw [r.len]; exact hl), p, vs, rfl, hp, h⟩
    · obtain ⟨o, h1, h2⟩ := r.slot j a e'
      exact ⟨o, by rw [List.getElem?_set_ne hn]; exact h1, h2⟩
  · rcases set_cases e1 with ⟨rfl, e', _⟩ | ⟨hn, e1⟩
    · cases e'
    rcases set_cases e2 with ⟨rfl, e', _⟩ | ⟨hn2, e2⟩
    · cases e'
    rw [List.getElem?_set_ne hn] at e3
    rw [List.getElem?_set_ne hn2] at e4
    exact r.inj j k xs ys p e1 e2 e3 e4
/-- a new object beside the names becomes data -/
theorem Rep.frzBeside {K : PySem.W.Frag} {L : Loc} {F0 H0 F H : Hp} {ρ : Env} {D : Dw} {σ : L2.St} (r : Rep K L F0 H0 ρ D σ F H) {p : Addr} {o : HO} (hp : H p = some o) (h0 : H0 p = none) (hF : F p = none) (n : ¬ isD L p) (ne : ∀ (j : Nat) ys, ρ[j]? = some (some (.own ys)) → σ[j]? ≠ some (some (.ref p))) :
    Rep K L F0 H0 ρ D σ (upd F p o) H := by
  refine ⟨r.ok.frz hp hF n, r.stp.frz h0 hF, r.len, fun j a e' => ?_, r.inj⟩
  obtain ⟨u, g1, g2⟩ := r.slot j a e'
  refine ⟨u, g1, ?_⟩
  match a, g2 with
  | .d x, ⟨v, z, q⟩ => exact ⟨v, z, dp_mono (Ex.new hF) q⟩
  | .drw, h2 => exact h2
  | .dct zs, ⟨p', vs', e1, hp', q⟩ => exact ⟨p', vs', e1, Ex.new hF _ _ hp', q.mono (Ex.new hF)⟩
  | .exc c, ⟨p', e1, hp'⟩ => exact ⟨p', e1, Ex.new hF _ _ hp'⟩
  | .own zs, ⟨p', vs', e1, q0, qF, qn, qp, qv⟩ =>
    refine ⟨p', vs', e1, q0, ?_, qn, qp, dpa_mono (Ex.new hF) qv⟩
    rw [upd_ne (fun z => ne j _ e' (by rw [g1, e1, z]))]; exact qF
theorem ds_dct {i : Nat} {x : Str} {pos' : Pos} {ks : List (Option Expr)} {vs : List Expr} {prs : List (FE × FE)} (hN : X.N.Nodup) (h : DPrs X ks vs prs) (hall : ks.all (·.isSome) = true := by rfl) (hl : ks.length = vs.length := by rfl) (h0 : ks ≠ [] := by intro z; cases z) (h15 : ks.length ≤ 15 := by decide)
    (hi : X.N[i]? = some x := by rfl) (hx : L2.Loc X.env.scope x := by first | exact Or.inl rfl | exact Or.inr rfl) (hs : swapsWith (.Dict ks vs p) (some (.Name x pos')) pos.line X.env = pure false := by rfl)
    (hf : X.fn x = true ∨ X.env.scope.names.lookup x = some .local := by first | exact .inl rfl | exact .inr rfl | assumption) : DS X (.Assign [.Name x pos'] (.Dict ks vs p) pos) (dctS i prs) := .mk fun L F0 H0 ρ D σ F H o E r hfo q => by
  obtain ⟨⟨out, D1⟩, e1, hfo⟩ := bind_split hfo
  obtain ⟨kd, e2, hfo⟩ := bind_split hfo
  split at hfo
  · rename_i hc
    cases hfo
    refine PSw (ps_set hN hi hx (pe_disp (prs_pps h) hall hl h0 h15) hs hf) fun pp hp => ?_
    have hFp : F pp = none := r.ok.sub.back hp
    have r1 := r.step (Stp.fresh hp (o := .dK [])) (r.ok.fresh hp)
    refine prs_run h r1 e1 _ fun ps F2 H2 t2 k2 hps => ?_
    have np : ¬ isD L pp := r.ok.nd hp
    have hH2 : H2 pp = some (.dK []) := t2.keep pp _ upd_same np
    have hF2 : F2 pp = none := by
      cases z : F2 pp with
      | none => rfl
      | some u => exact absurd hFp (t2.sep pp (by rw [upd_same]; exact fun z => nomatch z) (by rw [z]; exact fun z => nomatch z))
    obtain ⟨kvs, e3, hk⟩ := ps_keys hps e2
    have hlk : kvs.length = kd.length := kv_len hk
    refine ⟨hH2, kvs, e3, by rw [hlk]; exact hc, ?_⟩
    have ne : ∀ (j : Nat) ys, ρ[j]? = some (some (.own ys)) → σ[j]? ≠ some (some (.ref pp)) := fun j ys e => r.own_ne hp e
    have r2 := (r1.step t2 k2).beside (o := .dK (mergeK [] kvs)) (back_none r.stp hp) hF2 np (fun q z => by
      rw [hH2] at z
      unfold LamX.CodeO at z
      cases z) ne
    have r3 := r2.frzBeside (o := .dK (mergeK [] kvs)) upd_same (back_none r.stp hp) hF2 np ne
    exact q _ _ _ (r3.setDct i upd_same ((kv_merge hk .nil).mono (Ex.new hF2)))
  · cases hfo
/-- x[e] -/
def dixD (i : Nat) (f : FE) : FE := fun ρ D => match ρ[i]? with
  | some (some (.dct kvs)) => (f ρ D).bind fun r => (keyOf r.1).bind fun k => (getD' kvs k).map fun x => (x, r.2)
  | _ => none
theorem unit1 {k : Nat} {A : Around} (hr : Room k A) : A.units + 1 < cLine := by have := hr.units; omega
theorem de_dix {i : Nat} {x : Str} {f : FE} (hu : X.A.units + 1 < cLine) (h : DE X e f) (hs : NoSl e) (hN : X.N[i]? = some x := by rfl) (hv : Vis X.env.scope x := by first | exact Or.inl rfl | exact Or.inr (Or.inl rfl) | exact Or.inr (Or.inr rfl)) (hd : (x == ("__debug__" : Str)) = false := by decide)
    (hcd : (x == ("__classdict__" : Str)) = false := by decide) : DE X (.Subscript (.Name x p) e pos) (dixD i f) := by
  refine .mk ?_
  intro L F0 H0 ρ D σ F H z D' r hf Q q
  unfold dixD at hf
  split at hf
  · rename_i kvs hy
    obtain ⟨⟨y, D1⟩, e1, hf⟩ := bind_split hf
    obtain ⟨k, e2, hf⟩ := bind_split hf
    obtain ⟨w, e3, hf⟩ := map_split hf
    cases hf
    obtain ⟨o, h1, pp, vs, rfl, hF, hk⟩ := r.slot i _ hy
    refine PEw (pe_dget hu (pe_var hN hv hd hcd) pe_w hs) ⟨_, h1, h.run L F0 H0 ρ D σ F H _ _ r e1 _ fun v F2 H2 t2 k2 hv => ?_⟩
    obtain ⟨u, h3, h4⟩ := kv_get hk e3
    exact ⟨pp, u, rfl, .inl ⟨vs, k, .inl (k2.sub _ _ (t2.ex _ _ hF)), keyOf_dp hv e2, h3.symm⟩, q u F2 H2 t2 k2 (dp_mono t2.ex h4)⟩
  · cases hf
end
end Den

end
-- DenEa
section
set_option Elab.async false
set_option linter.all false
set_option maxRecDepth 100000
set_option maxHeartbeats 1000000
namespace Den
open PySem PySem.Spec PyProof.Rows L2
/-! ### try: .. except x as n: y = n, where what y holds is known from then on -/
section
variable {X : Cx} {pins : List (Addr × Obj)} {σ : L2.St} {H : Hp} {s : Shared}
theorem Inv.adopt {a : Addr} {oe : Obj} {vs : Array Value} {cls : Value} (I : Inv X pins σ H s) (e : s.heap.get? a = some oe) (z : Zc cls none oe) (d : oe.data = .fields vs) (n : H a = none) (old : X.s_0.heap.get? a = none)
    (nL : a ≠ X.env.locals) (np : ∀ p ∈ X.pn ++ pins, p.1 ≠ a) : Inv X pins σ (upd H a (XO cls a)) s := by
  have nH : ∀ b u, H b = some u → b ≠ a := fun b u q w => by rw [w, n] at q; cases q
  have n0 : ∀ b o, X.s_0.heap.get? b = some o → b ≠ a := fun b o q w => by rw [w, old] at q; cases q
  have nC : ∀ x c, X.env.cells.lookup x = some c → c ≠ a := fun x c q w => by
    obtain ⟨v, oc, hc, hd⟩ := I.cell x c q
    rw [w, e] at hc
    cases hc
    rw [d] at hd
    cases hd
  refine ⟨I.ok, I.os, I.bare, ⟨I.base.keep, I.base.slot, fun b o q m x => ?_, I.base.there, fun b xs q => ?_, fun b o xs q => ?_, fun b ps q => ?_⟩, I.loc, I.cell, ?_, fun x c q => ?_, fun p hp => ?_, fun b o q => ?_, I.len⟩
  · rw [upd_ne (n0 b o q)]; exact I.base.free b o q m x
  · have t := I.base.tups b xs q
    rw [upd_ne (nH b _ t)]; exact t
  · have t := I.base.frzs b o xs q
    rw [upd_ne (nH b _ t)]; exact t
  · obtain ⟨more, t⟩ := I.base.tbls b ps q
    exact ⟨more, by rw [upd_ne (nH b _ t)]; exact t⟩
  · rw [upd_ne (Ne.symm nL)]; exact I.free
  · rw [upd_ne (nC x c q)]; exact I.freeC x c q
  · obtain ⟨e1, e2, e3⟩ := I.pin p hp
    exact ⟨e1, by rw [upd_ne (np p hp)]; exact e2, e3⟩
  · by_cases hb : b = a
    · rw [hb, upd_same] at q
      cases q
      rw [hb]
      exact ⟨⟨oe, e, z, vs, d⟩, ⟨oe, e⟩, fun h1 h2 ⟨o, q1, q2⟩ k => ⟨o, k o q1, q2⟩⟩
    · rw [upd_ne hb] at q
      exact (I.hok b o q).stay (fun c u _ r => r) (fun c r => by rw [upd_ne (nH c _ r)]; exact r) fun c xs r => by rw [upd_ne (nH c _ r)]; exact r
end
/-- what is wished of an exception of the body -/
def wK (K : PySem.W.Frag) (c : Value) (i j : Nat) (Wout : WX) (D : Ends) : WX := fun cls d σ H => d = none ∧ ∃ b, PySem.W.exmOne K cls c = some b ∧
  (b = true → ∀ a, H a = none → D.nx (((σ.set i (some (.ref a))).set j (some (.ref a))).set i none) (upd H a (XO cls a))) ∧ (b = false → Wout cls none σ H)
section
variable {X : Cx} {x n y : Str} {c : Value} {i j : Nat} {body : List Stmt} {np q1 q2 q3 pos pos' : Pos} {tb : WX → TS} {Wout : WX}
theorem ps_tryK (hs : X.stack = X.env :: X.outer) (hf : X.env.frame = some X.env.locals) (hx : X.ex = []) (hN : X.N.Nodup) (hi : X.N[i]? = some n) (hj : X.N[j]? = some y) (hij : i ≠ j) (ln : X.env.scope.names.lookup n = some .local) (ly : X.env.scope.names.lookup y = some .local)
    (dn : (n == ("__debug__" : Str)) = false) (dn2 : (n == ("__classdict__" : Str)) = false) (sw : ∀ (a : Addr) (pn : List (Addr × Obj)), swapsWith (.Name n q2) (some (.Name y q1)) q3.line (X.suite a pn).env = pure false)
    (hc : Names X x c) (tk : Takes X Wout)
    (hb : ∀ (W : WX) (pn : List (Addr × Obj)) (xe : Value → Shared → Prop), Takes (X.tr pn xe) W → PassesOwn (model X.prog X.w) X.A X.env xe → PSs (X.tr pn xe) body (tb W)) :
    PS X (.Try body [.ExceptHandler (some (.Name x np)) (some n) [.Assign [.Name y q1] (.Name n q2) q3] pos'] [] [] pos) (fun D σ H => tb (wK X.K c i j Wout D) D σ H) := by
  refine ⟨fun pins s σ H D I rd => wpAny_Try_except ?_⟩
  have OK := I.ok
  have frames : X.A.frames = some (X.env :: X.outer) := by rw [OK.frames, hs]
  have kn : X.env.kindOf n = some .local := by
    unfold Env.kindOf
    exact ln
  -- the body
  refine wpAny_mono ((hb (wK X.K c i j Wout D) (X.pn ++ pins) _ ?caught PassesOwn.looking).run [] s σ H D (I.toTry _) rd) ?plain fun _ _ w => w
  case plain =>
    intro f s1 r
    match f, r with
    | .next, ⟨σ', H', J, q⟩ => exact wpAny_execs_nil ⟨σ', H', J.ofTry OK, q⟩
    | .brk, ⟨σ', H', J, q⟩ => exact ⟨σ', H', J.ofTry OK, q⟩
    | .cont, ⟨σ', H', J, q⟩ => exact ⟨σ', H', J.ofTry OK, q⟩
    | .ret u, ⟨v, σ', H', J, rv, q⟩ => exact ⟨v, σ', H', J.ofTry OK, rv, q⟩
  case caught =>
    intro u s' ⟨a, B, sI, pins', σ', H', cls, d, eu, J0, ground, upS, inAir, na, os, ag, dz, b, hcls, yes, no⟩
    subst eu dz
    have J : Inv X pins σ' H' sI := J0.ofTry OK
    rw [show (X.tr (X.pn ++ pins) _).stack = X.env :: X.outer from hs] at inAir
    refine Sky.land Zc.steady frames hf inAir fun h3 fl3 up3 => ?_
    have J3 := J.landed ground fl3.1 (upS.trans up3) (s' := { s' with heap := h3 }) os ag
    obtain ⟨oe3, vs3, he3, hz3, hd3⟩ := fl3.there
    have out : a ∉ frs (X.env :: X.outer) := fun hm => by
      obtain ⟨_, o', e', hnf⟩ := fl3.2.2.1.mem hm
      rw [he3] at e'
      cases e'
      exact hnf _ hd3
    have nL : a ≠ X.env.locals := fun w => out (List.mem_filterMap.mpr ⟨X.env, List.mem_cons_self, by rw [hf, w]⟩)
    have nF : a ∉ X.fs := fun hm => by
      obtain ⟨e0, m0, q0⟩ := List.mem_filterMap.mp hm
      exact out (List.mem_filterMap.mpr ⟨e0, List.mem_cons_of_mem _ m0, q0⟩)
    -- it is younger than the state without it
    have young : sI.heap.get? a = none := by
      cases w : sI.heap.get? a with
      | none => rfl
      | some o =>
        have := ground a o w (by rw [show (X.tr (X.pn ++ pins) _).stack = X.env :: X.outer from hs]; exact out)
        rw [fl3.2.1] at this
        cases this
    have old : X.s_0.heap.get? a = none := by
      cases w : X.s_0.heap.get? a with
      | none => rfl
      | some o =>
        obtain ⟨o', w'⟩ := J.base.there a o w (by rw [hx]; exact List.not_mem_nil)
        rw [young] at w'
        cases w'
    have apart : ∀ p ∈ X.pn ++ pins, p.1 ≠ a := fun p hp w => by
      have := (J.pin p hp).1
      rw [w, young] at this
      cases this
    have S3 := J3.suite he3 hd3 na nL nF
    refine wpAny_handleBy_cons (codeAny_handlers_test ?_) (by intro w; cases w)
    have LT : PySem.W.Looks (model X.prog X.w) h3 (typeOf (.ref a)) cls := fun A Q E s k w => wpAny_typeOf_ref (k _ _ he3) (by rw [hz3.1]; exact w)
    have which := PySem.W.exm_one (M := model X.prog X.w) J3.kIn LT hcls
    have named : ∀ {Q E : Value → Shared → Prop}, Q c { s' with heap := h3 } → wpAny (model X.prog X.w) (X.A.mark (some (.ref a))) (eval (.Name x np) X.env) Q E { s' with heap := h3 } := fun {Q E} w => by
      obtain ⟨g1, g2, g3 | ⟨g3, g4, g5⟩⟩ := hc
      · exact ld_glob (X := X.suite a ((a, oe3) :: (X.pn ++ pins))) S3 g1 g3 w g2
      · exact ld_blt (X := X.suite a ((a, oe3) :: (X.pn ++ pins))) S3 g1 g3 g4 w g5 g2
    refine named (which.here ?_)
    match b, yes, no with
    | true, yes, _ =>
      refine codeAny_handlers_suite_as (HandSPX.lands_againZ fl3 fun h4 fl4 up4 => ?_)
      have J4 := J.landed ground fl4.1 ((upS.trans up3).trans up4) (s' := { s' with heap := h4 }) os ag
      obtain ⟨oe4, vs4, he4, hz4, hd4⟩ := fl4.there
      have S4 := J4.suite he4 hd4 na nL nF
      refine store_ok (X := X.suite a ((a, oe4) :: (X.pn ++ pins))) (v := .ref a) S4 hN hi (.inl ln) rfl (fun s5 S5 => ?_) (.inr ln)
      have one := ps_set (X := X.suite a ((a, oe4) :: (X.pn ++ pins))) (pos := q3) hN hj (.inl ly) (pe_var (pos := q2) hi (.inl ln) dn dn2) (sw a _) (.inr ly)
      have line := pss_one one
      refine wpAny_mono (line.run [] s5 _ H' { nx := fun σ6 H6 => σ6 = (σ'.set i (some (V.ref a))).set j (some (.ref a)) ∧ H6 = H', rt := fun _ _ => False } S5 ⟨.ref a, ?_, rfl, rfl⟩) (fun f s6 r => ?_) fun _ _ w => False.elim w
      · exact List.getElem?_set_self (by rw [J.len]; exact (List.getElem?_eq_some_iff.mp hi).1)
      · match f, r with
        | .next, ⟨σ6, H6, S6, e6, e7⟩ =>
          subst e6 e7
          have at6 := (S6.pin (a, oe4) (by simp)).1
          have K6 := Den.Inv.adopt (S6.unsuite OK) at6 hz4 hd4 na old nL apart
          exact gone_ok K6 hN hi kn fun s7 J7 => ⟨_, _, J7, yes rfl a na⟩
        | .brk, ⟨_, _, _, w⟩ => exact False.elim w
        | .cont, ⟨_, _, _, w⟩ => exact False.elim w
        | .ret u, ⟨_, _, _, _, _, w⟩ => exact False.elim w
    | false, _, no =>
      show wpAny _ X.A (handleBy (.ref a) X.env []) _ _ _
      refine wpAny_handleBy_nil ?_
      obtain ⟨oe, vs, T, oT, ts', k1, k2, k3, k4, k5⟩ := fl3.2.2.2
      unfold PySem.passOn
      refine wpAny_bind (wpAny_field k1 k3 k4 ?_)
      rw [if_neg (by simp)]
      refine wpAny_bind ?_
      rw [hf]
      refine HandSPX.setFlight_upZ fl3 fun h4 held up4 => wpAny_throw (tk _ _ ?_)
      exact ⟨a, B, sI, pins, σ', H', cls, none, rfl, J, ground, (upS.trans up3).trans up4, .inr (.inr (by rw [hs]; exact held)), na, os, ag, no rfl⟩
end
end Den

end
-- DenEb
section
set_option Elab.async false
set_option linter.all false
set_option maxRecDepth 100000
set_option maxHeartbeats 1000000
namespace Den
open PySem PySem.Spec PyProof.Rows L2
variable [TB : Tabl]
/-! ### what raises -/
/-- an expression's raising: the class's name, the draws -/
abbrev FR := Env → Dw → Option (Str × Dw)
/-- a statement's: the names' values, too -/
abbrev FX := Env → Dw → Option (Str × Env × Dw)
section
variable (X : Cx) (W : WX)
structure RE (e : Expr) (f : FR) : Prop where
  run : ∀ L F0 H0 ρ D σ F H c D', Rep X.K L F0 H0 ρ D σ F H → f ρ D = some (c, D') → (∀ F' H', Stp L F H F' H' → Ok L D' F' H' → W (.ref (TB.C c)) none σ H') → ∀ Q : VK, tW X e σ H Q
structure RT (e : Expr) (f : FR) : Prop where
  run : ∀ L F0 H0 ρ D σ F H c D', Rep X.K L F0 H0 ρ D σ F H → f ρ D = some (c, D') → (∀ F' H', Stp L F H F' H' → Ok L D' F' H' → W (.ref (TB.C c)) none σ H') → ∀ Q : Bool → Hp → Prop, tWT X e σ H Q
structure RA (es : List Expr) (f : FR) : Prop where
  run : ∀ L F0 H0 ρ D σ F H c D', Rep X.K L F0 H0 ρ D σ F H → f ρ D = some (c, D') → (∀ F' H', Stp L F H F' H' → Ok L D' F' H' → W (.ref (TB.C c)) none σ H') → ∀ Q : List V → Hp → Prop, tWA X es σ H Q
structure RI (tg iter : Expr) (f : FR) : Prop where
  run : ∀ L F0 H0 ρ D σ F H c D', Rep X.K L F0 H0 ρ D σ F H → f ρ D = some (c, D') → (∀ F' H', Stp L F H F' H' → Ok L D' F' H' → W (.ref (TB.C c)) none σ H') → ∀ R : It → Hp → Prop, tWI X tg iter σ H R
structure RS (st : Stmt) (g : FX) : Prop where
  run : ∀ L F0 H0 ρ D σ F H c ρ' D' (E : Ends), Rep X.K L F0 H0 ρ D σ F H → g ρ D = some (c, ρ', D') → (∀ σ' F' H', Rep X.K L F0 H0 ρ' D' σ' F' H' → W (.ref (TB.C c)) none σ' H') → tWS X st E σ H
structure RB (st : List Stmt) (g : FX) : Prop where
  run : ∀ L F0 H0 ρ D σ F H c ρ' D' (E : Ends), Rep X.K L F0 H0 ρ D σ F H → g ρ D = some (c, ρ', D') → (∀ σ' F' H', Rep X.K L F0 H0 ρ' D' σ' F' H' → W (.ref (TB.C c)) none σ' H') → tWB X st E σ H
end
/-- never; one or the other -/
def neR : FR := fun _ _ => none
def alR (a b : FR) : FR := fun ρ D => match a ρ D with
  | some z => some z
  | none => b ρ D
def neX : FX := fun _ _ => none
def alX (a b : FX) : FX := fun ρ D => match a ρ D with
  | some z => some z
  | none => b ρ D
theorem alR_cases {a b : FR} {ρ : Env} {D : Dw} {z : Str × Dw} (h : alR a b ρ D = some z) : a ρ D = some z ∨ b ρ D = some z := by
  unfold alR at h
  split at h
  · rename_i y e
    cases h
    exact .inl e
  · exact .inr h
theorem alX_cases {a b : FX} {ρ : Env} {D : Dw} {z : Str × Env × Dw} (h : alX a b ρ D = some z) : a ρ D = some z ∨ b ρ D = some z := by
  unfold alX at h
  split at h
  · rename_i y e
    cases h
    exact .inl e
  · exact .inr h
/-- a def that does to data what φ says, or raises what ψ says -/
abbrev Rn' := List AV → Dw → Option (Str × Dw)
def spR (K : PySem.W.Frag) (n : Nat) (φ : Fn) (ψ : Rn') : Sp := fun vs H Q E => ∃ L D F as, vs.length = n ∧ Ok L D F H ∧ ArgsOk K L F vs as ∧
  ((∃ x D', φ as D = some (x, D') ∧ ∀ v F' H', Stp L F H F' H' → Ok L D' F' H' → Dp K F' v x → Q v H') ∨ (∃ c D', ψ as D = some (c, D') ∧ ∀ F' H', Stp L F H F' H' → Ok L D' F' H' → E (.ref (TB.C c)) none H'))
section
variable {X : Cx} {W : WX} {a b c e : Expr} {es rest : List Expr} {fa fb f : FE} {ft : FT} {ra rb r1 r2 : FR} {g : FA} {rg : FR} {pos p : Pos} {tg iter : Expr}
theorem re_al (h1 : RE X W e r1) (h2 : RE X W e r2) : RE X W e (alR r1 r2) := .mk fun L F0 H0 ρ D σ F H c D' r hf w Q => (alR_cases hf).elim (fun z => h1.run L F0 H0 ρ D σ F H c D' r z w Q) fun z => h2.run L F0 H0 ρ D σ F H c D' r z w Q
theorem ra_al (h1 : RA X W es r1) (h2 : RA X W es r2) : RA X W es (alR r1 r2) := .mk fun L F0 H0 ρ D σ F H c D' r hf w Q => (alR_cases hf).elim (fun z => h1.run L F0 H0 ρ D σ F H c D' r z w Q) fun z => h2.run L F0 H0 ρ D σ F H c D' r z w Q
theorem rt_al (h1 : RT X W e r1) (h2 : RT X W e r2) : RT X W e (alR r1 r2) := .mk fun L F0 H0 ρ D σ F H c D' r hf w Q => (alR_cases hf).elim (fun z => h1.run L F0 H0 ρ D σ F H c D' r z w Q) fun z => h2.run L F0 H0 ρ D σ F H c D' r z w Q
/-- first f, then what raises -/
def thR (f : FE) (r : FR) : FR := fun ρ D => (f ρ D).bind fun z => r ρ z.2
def thT (f : FT) (want : Bool) (r : FR) : FR := fun ρ D => (f ρ D).bind fun z => if z.1 = want then r ρ z.2 else none
theorem ra_hd (h : RE X W e r1) (hs : starEach (e :: es) X.env = (false, eval e X.env) :: starEach es X.env := by rfl) : RA X W (e :: es) r1 := .mk fun L F0 H0 ρ D σ F H c D' r hf w Q =>
  PAw (pa_cons pe_w pa_w hs) (h.run L F0 H0 ρ D σ F H c D' r hf w _)
theorem ra_tl (ha : DE X e f) (h : RA X W es r1) (hs : starEach (e :: es) X.env = (false, eval e X.env) :: starEach es X.env := by rfl) : RA X W (e :: es) (thR f r1) := .mk fun L F0 H0 ρ D σ F H c D' r hf w Q => by
  obtain ⟨⟨x, D1⟩, e1, hf⟩ := bind_split hf
  exact PAw (pa_cons pe_w pa_w hs) (ha.run L F0 H0 ρ D σ F H _ _ r e1 _ fun v F1 H1 t1 k1 hv => h.run L F0 H0 ρ D1 σ F1 H1 c D' (r.step t1 k1) hf (fun F2 H2 t2 k2 => w F2 H2 (t1.trans t2) k2) _)
variable {k : Nat} {fd : FuncData} {ps : List Str} {φ : Fn} {ψ : Rn'} {n : Nat} {x : Str}
/-- the arguments, then the def raises -/
def rcD (ψ : Rn') (g : FA) : FR := fun ρ D => (g ρ D).bind fun r => ψ r.1 r.2
theorem re_call {fx : Addr} (FO : FnOk X.prog X.w X.K X.mg X.base (L2.CX X.prog X.w) k fx fd ps (spR X.K n φ ψ)) (tk : Takes X W) (hr : Room k X.A) (hg : Gl X x) (hm : X.mg x = some (.ref fx)) (hk : PySem.W.keepIn X.K (.ref fx) = true) (hb : Binds X.K fd ps []) (ha : DA X (e :: es) g) (hl : (e :: es).length = n := by rfl)
    (hdb : (x == ("__debug__" : Str)) = false := by decide) (he : starEach (e :: es) X.env = (false, eval e X.env) :: starEach es X.env := by rfl) (hpl : (backTo pos (starEach es X.env)).any (·.1) = false := by rfl) (hlen : ∀ ρ D r, g ρ D = some r → r.1.length = (e :: es).length) :
    RE X W (.Call (.Name x p) (e :: es) [] pos) (rcD ψ g) := .mk fun L F0 H0 ρ D σ F H c D' r hf w Q => by
  obtain ⟨⟨as, D1⟩, e1, hf⟩ := bind_split hf
  refine PEw (pe_callS FO hr hg hm hk hb (fun σ => passAt tk σ) pa_w hdb he hpl) (ha.run L F0 H0 ρ D σ F H _ _ r e1 _ fun vs F1 H1 t1 k1 hvs => ?_)
  exact ⟨L, D1, F1, as, by rw [hvs.len, hlen ρ D _ e1, hl], k1, hvs, .inr ⟨c, D', hf, fun F2 H2 t2 k2 => w F2 H2 (t1.trans t2) k2⟩⟩
/-- an argument raises -/
theorem re_callA {fx : Addr} {sp : Sp} {CXx : CXT} {Ex : L2.St → XK} (FO : FnOk X.prog X.w X.K X.mg X.base CXx k fx fd ps sp) (hx : ∀ σ, PassesAt CXx X σ (Ex σ)) (hr : Room k X.A) (hg : Gl X x) (hm : X.mg x = some (.ref fx)) (hk : PySem.W.keepIn X.K (.ref fx) = true) (hb : Binds X.K fd ps []) (ha : RA X W (e :: es) r1)
    (hdb : (x == ("__debug__" : Str)) = false := by decide) (he : starEach (e :: es) X.env = (false, eval e X.env) :: starEach es X.env := by rfl) (hpl : (backTo pos (starEach es X.env)).any (·.1) = false := by rfl) :
    RE X W (.Call (.Name x p) (e :: es) [] pos) r1 := .mk fun L F0 H0 ρ D σ F H c D' r hf w Q =>
  PEw (pe_callS FO hr hg hm hk hb hx pa_w hdb he hpl) (ha.run L F0 H0 ρ D σ F H c D' r hf w _)
theorem re_if {t : Expr} (h : RT X W t r1) : RE X W (.IfExp t a b pos) r1 := .mk fun L F0 H0 ρ D σ F H c D' r hf w Q =>
  PEw (pe_ifExp pt_w pe_w pe_w) (h.run L F0 H0 ρ D σ F H c D' r hf w _)
theorem re_ifT {t : Expr} (ht : DT X t ft) (h : RE X W a r1) : RE X W (.IfExp t a b pos) (thT ft true r1) := .mk fun L F0 H0 ρ D σ F H c D' r hf w Q => by
  obtain ⟨⟨z, D1⟩, e1, hf⟩ := bind_split hf
  split at hf
  · rename_i hz
    dsimp only at hz
    subst hz
    exact PEw (pe_ifExp pt_w pe_w pe_w) (ht.run L F0 H0 ρ D σ F H _ _ r e1 _ fun F1 H1 t1 k1 => h.run L F0 H0 ρ D1 σ F1 H1 c D' (r.step t1 k1) hf (fun F2 H2 t2 k2 => w F2 H2 (t1.trans t2) k2) _)
  · cases hf
theorem re_ifF {t : Expr} (ht : DT X t ft) (h : RE X W b r1) : RE X W (.IfExp t a b pos) (thT ft false r1) := .mk fun L F0 H0 ρ D σ F H c D' r hf w Q => by
  obtain ⟨⟨z, D1⟩, e1, hf⟩ := bind_split hf
  split at hf
  · rename_i hz
    dsimp only at hz
    subst hz
    exact PEw (pe_ifExp pt_w pe_w pe_w) (ht.run L F0 H0 ρ D σ F H _ _ r e1 _ fun F1 H1 t1 k1 => h.run L F0 H0 ρ D1 σ F1 H1 c D' (r.step t1 k1) hf (fun F2 H2 t2 k2 => w F2 H2 (t1.trans t2) k2) _)
  · cases hf
end
end Den

end
-- DenEc
section
set_option Elab.async false
set_option linter.all false
set_option maxRecDepth 100000
set_option maxHeartbeats 1000000
namespace Den
open PySem PySem.Spec PyProof.Rows L2
variable [TB : Tabl]
/-! ### what never raises, among what may -/
theorem PS.nox' {X : Cx} {st : Stmt} {t : TS} (h : PS X.nox st t) : PS X st t := ⟨fun pins s σ H D I hw =>
  wpAny_mono (h.run pins s σ H D (I.wish _) hw) (fun _ _ q => q.unwish) fun _ _ z => False.elim z⟩
theorem PA.nox' {X : Cx} {es : List Expr} {t : TA} (h : PA X.nox es t) : PA X es t := ⟨fun pos pins s σ H D I hw =>
  wpAny_mono (h.run pos pins s σ H D (I.wish _) hw) (fun _ _ ⟨vs, H', I', r, q⟩ => ⟨vs, H', I'.unwish, r, q⟩) fun _ _ z => False.elim z⟩
section
variable {X : Cx} {W : WX} {a b c e : Expr} {es rest : List Expr} {st : Stmt} {sts : List Stmt} {fa fb f : FE} {ft : FT} {g gb : FS} {ga : FA} {r1 r2 : FR} {gx gy : FX} {pos p : Pos} {tg iter : Expr} {fi : FL} {tf : PyData → Env → Option Env}
theorem DE.nox (h : DE X.nox e f) : DE X e f := .mk fun L F0 H0 ρ D σ F H x D' r hf Q q => PEw (PE.nox pe_w) (h.run L F0 H0 ρ D σ F H x D' r hf Q q)
theorem DT.nox (h : DT X.nox e ft) : DT X e ft := .mk fun L F0 H0 ρ D σ F H x D' r hf Q q => PTw (PT.nox pt_w) (h.run L F0 H0 ρ D σ F H x D' r hf Q q)
theorem DA.nox (h : DA X.nox es ga) : DA X es ga := .mk fun L F0 H0 ρ D σ F H x D' r hf Q q => PAw (PA.nox' pa_w) (h.run L F0 H0 ρ D σ F H x D' r hf Q q)
theorem DS.nox (h : DS X.nox st g) : DS X st g := .mk fun L F0 H0 ρ D σ F H o E r hf q => PSw (PS.nox' ps_w) (h.run L F0 H0 ρ D σ F H o E r hf q)
theorem DB.nox (h : DB X.nox sts g) : DB X sts g := .mk fun L F0 H0 ρ D σ F H o E r hf q => PBw (PSs.nox pss_w) (h.run L F0 H0 ρ D σ F H o E r hf q)
/-! ### a def that may raise, when it doesn't -/
variable {k : Nat} {fd : FuncData} {ps : List Str} {φ : Fn} {ψ : Rn'} {n : Nat} {x : Str} {fx : Addr}
theorem de_callX (FO : FnOk X.prog X.w X.K X.mg X.base (L2.CX X.prog X.w) k fx fd ps (spR X.K n φ ψ)) (hr : Room k X.A) (hg : Gl X x) (hm : X.mg x = some (.ref fx)) (hk : PySem.W.keepIn X.K (.ref fx) = true) (hb : Binds X.K fd ps []) (ha : DA X (e :: es) ga) (hlen : ∀ ρ D r, ga ρ D = some r → r.1.length = (e :: es).length) (hl : (e :: es).length = n := by rfl)
    (hdb : (x == ("__debug__" : Str)) = false := by decide) (he : starEach (e :: es) X.env = (false, eval e X.env) :: starEach es X.env := by rfl) (hpl : (backTo pos (starEach es X.env)).any (·.1) = false := by rfl) :
    DE X (.Call (.Name x p) (e :: es) [] pos) (callD φ ga) := .mk fun L F0 H0 ρ D σ F H c D' r hf Q q => by
  obtain ⟨⟨as, D1⟩, e1, hf⟩ := bind_split hf
  refine PEw (pe_callS FO hr hg hm hk hb (E := fun _ => E0) (fun σ pins H s e s' I c => passL pins σ H s e s' I c) pa_w hdb he hpl) (ha.run L F0 H0 ρ D σ F H _ _ r e1 _ fun vs F1 H1 t1 k1 hvs => ?_)
  exact ⟨L, D1, F1, as, by rw [hvs.len, hlen ρ D _ e1, hl], k1, hvs, .inl ⟨c, D', hf, fun v F2 H2 t2 k2 hv => q v F2 H2 (t1.trans t2) k2 hv⟩⟩
/-! ### more expressions -/
theorem re_cmpL {op : CmpOp} {o : O2} (ho : OpS X (compareOp op) o) (h : RE X W a r1) (hm : behindInMarks op b = false := by rfl) : RE X W (.Compare a [op] [b] pos) r1 := .mk fun L F0 H0 ρ D σ F H c D' r hf w Q =>
  PEw (pe_cmpR ho pe_w pe_w hm) (h.run L F0 H0 ρ D σ F H c D' r hf w _)
theorem re_all (hc : X.calm = true) (hg : Gl X "all") (hm : X.mg "all" = none) (hv : bootBuiltins "all" = some (.builtin "all")) (h : RE X W e r1)
    (he : starEach [e] X.env = (false, eval e X.env) :: starEach [] X.env := by rfl) (hpl : (backTo pos (starEach [] X.env)).any (·.1) = false := by rfl) : RE X W (.Call (.Name "all" p) [e] [] pos) r1 := .mk fun L F0 H0 ρ D σ F H c D' r hf w Q =>
  PEw (pe_callB (cr_all hc) hg hm hv (pa_cons pe_w pa_nil he) (by decide) (by decide) he hpl) (h.run L F0 H0 ρ D σ F H c D' r hf w _)
theorem ri_list (h : RE X W iter r1) : RI X W tg iter r1 := .mk fun L F0 H0 ρ D σ F H c D' r hf w Q =>
  PIw (pi_list pe_w) (h.run L F0 H0 ρ D σ F H c D' r hf w _)
theorem ri_enum {elts : List Expr} {kk : Nat} {tpos : Pos} (hg : Gl X "enumerate") (hm : X.mg "enumerate" = none) (h : RE X W e r1) (hs : starEach [e] X.env = [(false, eval e X.env)] := by rfl) : RI X W (.Tuple elts kk tpos) (.Call (.Name "enumerate" p) [e] [] pos) r1 := .mk fun L F0 H0 ρ D σ F H c D' r hf w Q =>
  PIw (pi_enum hg hm (pa_cons pe_w pa_nil hs) hs) (h.run L F0 H0 ρ D σ F H c D' r hf w _)
theorem re_lc {elt : Expr} {ifs : List Expr} {scope : Scope} {own : List (Str × Nat)} {gt : TG} {ft' : FT} (hc : X.calm = true) (hN : X.N.Nodup) (hi : RI X W tg iter r1) (ok : BlkOk X.N X.env.scope scope own)
    (hg : ∀ (s : Shared) (H : Hp) (C : Addr) (cl : List (Str × Addr)) (fp : List Addr), PG (X.blk s H scope (compEnvC scope cl C X.env) fp) tg gt) (ht : TestsD X scope ifs ft')
    (hs : ∀ x, foldedSetIterable iter X.env x = pure x := by intro _; rfl) : RE X W (.ListComp elt [⟨tg, iter, ifs, 0⟩] scope pos) r1 := .mk fun L F0 H0 ρ D σ F H c D' r hf w Q => by
  obtain ⟨tt, htt, _⟩ := ht.ex
  exact PEw (pe_lc (own := own) (g := gt) (tt := tt) (te := tAllE X scope elt) hc hN pi_w ok hg htt pe_all hs) (hi.run L F0 H0 ρ D σ F H c D' r hf w _)
/-! ### statements -/
def toX (r : FR) : FX := fun ρ D => (r ρ D).map fun z => (z.1, ρ, z.2)
theorem toX_some {r : FR} {ρ ρ' : Env} {D D' : Dw} {c : Str} (h : toX r ρ D = some (c, ρ', D')) : r ρ D = some (c, D') ∧ ρ' = ρ := by
  obtain ⟨z, e, h⟩ := map_split h
  cases h
  exact ⟨e, rfl⟩
theorem rs_al (h1 : RS X W st gx) (h2 : RS X W st gy) : RS X W st (alX gx gy) := .mk fun L F0 H0 ρ D σ F H c ρ' D' E r hf w => (alX_cases hf).elim (fun z => h1.run L F0 H0 ρ D σ F H c ρ' D' E r z w) fun z => h2.run L F0 H0 ρ D σ F H c ρ' D' E r z w
theorem rb_al (h1 : RB X W sts gx) (h2 : RB X W sts gy) : RB X W sts (alX gx gy) := .mk fun L F0 H0 ρ D σ F H c ρ' D' E r hf w => (alX_cases hf).elim (fun z => h1.run L F0 H0 ρ D σ F H c ρ' D' E r z w) fun z => h2.run L F0 H0 ρ D σ F H c ρ' D' E r z w
theorem rs_ret (h : RE X W e r1) : RS X W (.Return (some e) pos) (toX r1) := .mk fun L F0 H0 ρ D σ F H c ρ' D' E r hf w => by
  obtain ⟨e1, rfl⟩ := toX_some hf
  exact PSw (ps_ret pe_w) (h.run L F0 H0 ρ' D σ F H c D' r e1 (fun F1 H1 t k => w σ F1 H1 (r.step t k)) _)
theorem rs_drop (h : RE X W e r1) (hs : swapsWith e none pos.line X.env = pure false := by rfl) : RS X W (.Expr e pos) (toX r1) := .mk fun L F0 H0 ρ D σ F H c ρ' D' E r hf w => by
  obtain ⟨e1, rfl⟩ := toX_some hf
  exact PSw (ps_expr pe_w hs) (h.run L F0 H0 ρ' D σ F H c D' r e1 (fun F1 H1 t k => w σ F1 H1 (r.step t k)) _)
theorem rs_asg {i : Nat} {pos' : Pos} (hN : X.N.Nodup) (h : RE X W e r1) (hi : X.N[i]? = some x := by rfl) (hx : L2.Loc X.env.scope x := by first | exact Or.inl rfl | exact Or.inr rfl) (hs : swapsWith e (some (.Name x pos')) pos.line X.env = pure false := by rfl)
    (hf : X.fn x = true ∨ X.env.scope.names.lookup x = some .local := by first | exact .inl rfl | exact .inr rfl | assumption) : RS X W (.Assign [.Name x pos'] e pos) (toX r1) := .mk fun L F0 H0 ρ D σ F H c ρ' D' E r hfo w => by
  obtain ⟨e1, rfl⟩ := toX_some hfo
  exact PSw (ps_set hN hi hx pe_w hs hf) (h.run L F0 H0 ρ' D σ F H c D' r e1 (fun F1 H1 t k => w σ F1 H1 (r.step t k)) _)
def thB (f : FT) (want : Bool) (g : FX) : FX := fun ρ D => (f ρ D).bind fun z => if z.1 = want then g ρ z.2 else none
theorem rs_ifT {A B : List Stmt} (hc : DT X c ft) (h : RB X W A gx) : RS X W (.If c A B pos) (thB ft true gx) := .mk fun L F0 H0 ρ D σ F H cc ρ' D' E r hf w => by
  obtain ⟨⟨z, D1⟩, e1, hf⟩ := bind_split hf
  split at hf
  · rename_i hz
    dsimp only at hz
    subst hz
    exact PSw (ps_if pt_w pss_w pss_w) (hc.run L F0 H0 ρ D σ F H _ _ r e1 _ fun F1 H1 t1 k1 => iteT (h.run L F0 H0 ρ D1 σ F1 H1 cc ρ' D' E (r.step t1 k1) hf w))
  · cases hf
theorem rs_ifF {A B : List Stmt} (hc : DT X c ft) (h : RB X W B gx) : RS X W (.If c A B pos) (thB ft false gx) := .mk fun L F0 H0 ρ D σ F H cc ρ' D' E r hf w => by
  obtain ⟨⟨z, D1⟩, e1, hf⟩ := bind_split hf
  split at hf
  · rename_i hz
    dsimp only at hz
    subst hz
    exact PSw (ps_if pt_w pss_w pss_w) (hc.run L F0 H0 ρ D σ F H _ _ r e1 _ fun F1 H1 t1 k1 => iteF (h.run L F0 H0 ρ D1 σ F1 H1 cc ρ' D' E (r.step t1 k1) hf w))
  · cases hf
/-- raise C('..') -/
def rsX (C : Str) : FX := fun ρ D => some (C, ρ, D)
theorem rs_raise {C : Str} {m : Str} {j : Nat} {p2 p3 : Pos} {bmB : List Value} {B newId initId : String} (hc : X.calm = true) (tk : Takes X W) (Fb : PySem.ExcBaseFacts B newId initId bmB) (q : PySem.W.excIn X.K (TB.C C) bmB newId = true) (gC : X.mg x = some (.ref (TB.C C))) (kC : PySem.W.keepIn X.K (.ref (TB.C C)) = true)
    (h1 : PySem.W.subIn X.K (.ref (TB.C C)) (.type "BaseException") = some true) (h2 : PySem.W.typeIn X.K (.ref (TB.C C)) = some (.type "type")) (hg : Gl X x) (hdb : (x == ("__debug__" : Str)) = false := by decide) :
    RS X W (.Raise (some (.Call (.Name x p) [.Constant (.str m) j p2] [] p3)) none pos) (rsX C) := .mk fun L F0 H0 ρ D σ F H cc ρ' D' E r hf w => by
  cases hf
  exact PSw (ps_raise hc tk (pmk_own Fb q gC kC (raises_own h1 h2) hg hdb)) (w σ F H r)
def frzX (i : Nat) (gx : FX) : FX := fun ρ D => match ρ[i]? with
  | some (some (.own xs)) => gx (ρ.set i (some (.d (.list xs)))) D
  | some (some (.d _)) => gx ρ D
  | _ => none
theorem rs_frzX {i : Nat} (h : RS X W st gx) : RS X W st (frzX i gx) := .mk fun L F0 H0 ρ D σ F H cc ρ' D' E r hf w => by
  unfold frzX at hf
  split at hf
  · rename_i xs hy
    obtain ⟨F', r'⟩ := r.freeze hy
    exact h.run L F0 H0 _ D σ F' H cc ρ' D' E r' hf w
  · exact h.run L F0 H0 _ D σ F H cc ρ' D' E r hf w
  · cases hf
/-- a loop whose turn raises -/
def loopX (tf : PyData → Env → Option Env) (gb : FS) (gx : FX) : List PyData → FX
  | [], _, _ => none
  | x :: xs, ρ, D => (tf x ρ).bind fun ρ1 => match gx ρ1 D with
    | some z => some z
    | none => (gb ρ1 D).bind fun o => match o with
      | .nx ρ2 D2 => loopX tf gb gx xs ρ2 D2
      | .ct ρ2 D2 => loopX tf gb gx xs ρ2 D2
      | _ => none
def forX (fi : FL) (tf : PyData → Env → Option Env) (gb : FS) (gx : FX) : FX := fun ρ D => (fi ρ D).bind fun r => loopX tf gb gx r.1 ρ r.2
theorem rs_for (hp : PassesOwn (model X.prog X.w) X.A X.env X.xe) (hc : X.calm = true) (hi : DI X tg iter fi) (hg : DG X tg tf) (hb : DB X sts gb) (hx : RB X W sts gx) (hs : ∀ x, foldedSetIterable iter X.env x = pure x := by intro _; rfl) : RS X W (.For tg iter sts [] pos) (forX fi tf gb gx) := .mk fun L F0 H0 ρ D σ F H cc ρe De E r hfo w => by
  obtain ⟨⟨xs, D1⟩, e1, hfo⟩ := bind_split hfo
  refine PSw (ps_for hp hc pi_w pg_w pss_w hs) (hi.run L F0 H0 ρ D σ F H xs D1 r e1 _ fun J F1 H1 t1 k1 wd => ?_)
  refine ⟨fun i m σ' H' => ∃ ρ' D' F', Rep X.K L F0 H0 ρ' D' σ' F' H' ∧ Ex F1 F' ∧ i ≤ xs.length ∧ m = xs.length - i ∧ loopX tf gb gx (xs.drop i) ρ' D' = some (cc, ρe, De), ⟨xs.length, ρ, D1, F1, r.step t1 k1, Ex.refl F1, Nat.zero_le _, rfl, hfo⟩, ?_⟩
  rintro i m σ' H' ⟨ρ', D', F', r', x', hi', rfl, hl⟩
  by_cases hlt : i < xs.length
  · rw [List.drop_eq_getElem_cons hlt] at hl
    obtain ⟨ρ1, e2, hl⟩ := bind_split hl
    refine .inr ⟨wd.go i D' F' H' x' r'.ok hlt, fun σ2 H2 => ∃ ρ2 D2 F2, Rep X.K L F0 H0 ρ2 D2 σ2 F2 H2 ∧ Ex F1 F2 ∧ loopX tf gb gx (xs.drop (i + 1)) ρ2 D2 = some (cc, ρe, De), ?_, ?_⟩
    · rintro σ2 H2 ⟨ρ2, D2, F2, r2, x2, h2⟩
      exact ⟨xs.length - (i + 1), by omega, ρ2, D2, F2, r2, x2, hlt, rfl, h2⟩
    · intro x H2 hy
      obtain ⟨F2, t2, k2, hd⟩ := wd.yld i _ D' F' H' x H2 x' r'.ok (List.getElem?_eq_getElem hlt) hy
      refine hg.run L F0 H0 ρ' D' σ' F2 H2 x _ ρ1 (r'.step t2 k2) hd e2 _ fun σ3 F3 H3 x3 r3 => ?_
      have x13 : Ex F1 F3 := (x'.trans t2.ex).trans x3
      split at hl
      · rename_i z hz
        cases hl
        exact hx.run L F0 H0 ρ1 D' σ3 F3 H3 cc ρe De _ r3 hz w
      · obtain ⟨o1, e3, hl⟩ := bind_split hl
        refine hb.x L F0 H0 ρ1 D' σ3 F3 H3 o1 _ r3 e3 ?_
        cases o1 with
        | nx ρ2 D2 => exact fun σ4 F4 H4 x4 r4 => ⟨ρ2, D2, F4, r4, x13.trans x4, hl⟩
        | ct ρ2 D2 => exact fun σ4 F4 H4 x4 r4 => ⟨ρ2, D2, F4, r4, x13.trans x4, hl⟩
        | bk ρ2 D2 => cases hl
        | rt x D2 => cases hl
  · have e : i = xs.length := by omega
    subst e
    rw [List.drop_length] at hl
    cases hl
/-! ### blocks -/
theorem rb_hd (h : RS X W st gx) : RB X W (st :: sts) gx := .mk fun L F0 H0 ρ D σ F H c ρ' D' E r hf w =>
  PBw (pss_cons ps_w pss_w) (h.run L F0 H0 ρ D σ F H c ρ' D' _ r hf w)
def thS (g : FS) (gx : FX) : FX := fun ρ D => match g ρ D with
  | some (.nx ρ1 D1) => gx ρ1 D1
  | _ => none
theorem rb_tl (h1 : DS X st g) (h2 : RB X W sts gx) : RB X W (st :: sts) (thS g gx) := .mk fun L F0 H0 ρ D σ F H c ρ' D' E r hf w => by
  unfold thS at hf
  split at hf
  · rename_i ρ1 D1 e1
    exact PBw (pss_cons ps_w pss_w) (h1.run L F0 H0 ρ D σ F H (.nx ρ1 D1) { E with nx := tWB X sts E } r e1 fun σ1 F1 H1 r1 => h2.run L F0 H0 ρ1 D1 σ1 F1 H1 c ρ' D' E r1 hf w)
  · cases hf
end
/-! ### a def -/
def outX (o : Option (Str × Env × Dw)) : Option (Str × Dw) := o.map fun z => (z.1, z.2.2)
theorem denR {P : Program} {w : World} {K : PySem.W.Frag} {mg : Str → Option Value} {base : Heap} {x qual : Str} {st : Stmt} {f : Addr} {fd : FuncData} {N ps : List Str} {k : Nat} {g : FS} {gx : FX} {φ : Fn} {ψ : Rn'} (F : Fun K x qual st f fd) (S : FnScope N ps (defScope st))
    (hb : ∀ (cdv : Value) (A : Around) (outer : List PySem.Env) (s : Shared) (H : Hp) (E : XK), Room k (A.deeper (envOfC qual (defScope st) s.heap.objs.size f cdv)) → DB (cxOf CX0 P w K mg base N qual (defScope st) f cdv A outer s H E).nox (defBody st) g)
    (hx : ∀ (cdv : Value) (A : Around) (outer : List PySem.Env) (s : Shared) (H : Hp) (E : XK), Room k (A.deeper (envOfC qual (defScope st) s.heap.objs.size f cdv)) → Takes (cxOf (L2.CX P w) P w K mg base N qual (defScope st) f cdv A outer s H E) (fun cls d _ H => E cls d H) → RB (cxOf (L2.CX P w) P w K mg base N qual (defScope st) f cdv A outer s H E) (fun cls d _ H => E cls d H) (defBody st) gx)
    (hφ : ∀ as D r, as.length = ps.length → φ as D = some r → (g (startA N as) D).bind outD = some r) (hψ : ∀ as D r, as.length = ps.length → ψ as D = some r → outX (gx (startA N as) D) = some r) : FnOk P w K mg base (L2.CX P w) (k + 1) f fd ps (spR K ps.length φ ψ) := by
  refine F.okX S (fun vs H Q E h => ?_) fun cdv A outer s H vs Q E hr h => ?_
  · obtain ⟨_, _, _, _, h, _⟩ := h
    exact h
  · obtain ⟨L, D, F', as, hl, hk, ha, ⟨y, D', e, q⟩ | ⟨c, D', e, q⟩⟩ := h
    · refine ⟨_, PSs.nox pss_w, ?_⟩
      have e2 := hφ as D _ (by rw [← ha.len]; exact hl) e
      obtain ⟨o, e3, e4⟩ := bind_split e2
      refine (hb cdv A outer s H E hr).run L F' H _ D _ F' H o _ (rep_start hk ha) e3 ?_
      cases o with
      | nx ρ D1 => cases e4; exact fun σ F1 H1 r1 => q _ F1 H1 r1.stp r1.ok .non
      | rt z D1 => cases e4; exact fun v F1 H1 t1 k1 hv => q v F1 H1 t1 k1 hv
      | bk ρ D1 => cases e4
      | ct ρ D1 => cases e4
    · refine ⟨_, pss_w, ?_⟩
      have e2 := hψ as D _ (by rw [← ha.len]; exact hl) e
      obtain ⟨⟨c', ρ', D1⟩, e3, e4⟩ := map_split e2
      cases e4
      exact (hx cdv A outer s H E hr (takes_of rfl rfl rfl rfl)).run L F' H _ D _ F' H _ ρ' _ _ (rep_start hk ha) e3 fun σ F1 H1 r1 => q F1 H1 r1.stp r1.ok
end Den

end
-- DenEd
section
set_option Elab.async false
set_option linter.all false
set_option maxRecDepth 100000
set_option maxHeartbeats 1000000
namespace Den
open PySem PySem.Spec PyProof.Rows L2
variable [TB : Tabl]
/-! ### xs.count(x), xs.index(x) over data -/
def rCountD (K : PySem.W.Frag) : V → List V → Hp → VK → Prop := fun x xs H Q => ∃ (a : Addr) (y : V) (d : PyData) (ds : List PyData), x = V.ref a ∧ xs = [y] ∧ Dp K H (V.ref a) (.list ds) ∧ Dp K H y d ∧
  SeqAt.shaped (.list ds) = true ∧ SeqAt.shaped d = true ∧ Q (.int ((ds.countP fun z => PyData.eqv z d : Nat) : Int)) H
theorem mt_countD {X : Cx} (hu : X.A.units + 65 < cLine) : MtR X "list.count" (rCountD X.K) := by
  intro pins s σ H x xs v us Q I rx rxs h
  obtain ⟨a, y, d, ds, rfl, rfl, hl, hy, sl, sd, q⟩ := h
  cases rx
  obtain ⟨uy, rfl, ry⟩ := rxs.one
  obtain ⟨bs, r1⟩ := Dp.reads I d y uy hy ry
  have hxs : PyData.canLayAll0 ds = true := SeqAt.canLay_of_shaped sl
  have hroom : X.A.units + 1 + min (PyData.depthAll ds) d.depth < cLine := room_in_shaped sd hu
  cases hl with
  | lst hs ha =>
    obtain ⟨its, rv, ⟨⟨cls, dd, data, sls⟩, n, ho, hc, hdn, hdt⟩, hlen⟩ := I.list hs
    simp only at hc hdt
    subst hc hdt
    obtain ⟨as, h4⟩ := Dp.readsAll I ds _ its ha rv
    have hmap : its.map (SeqAt.readOf s.heap) = ds := SeqAt.readsAll_map ds its as hxs h4
    refine call_meets PySem.F.slot_list_count ⟨_, ho, rfl⟩ PySem.F.entry_list_count (PySem.F.args_list_count_2 _ _)
      (SeqAt.list_countAt a its.toArray n dd sls uy (fun u => PyData.eqv (SeqAt.readOf s.heap u) d)) ⟨ho, SeqAt.items_eqAt (vs := its.toArray) (show ReadsAll s.heap its.toArray.toList ds as from h4) r1 hxs (SeqAt.canLay_of_shaped sd) hroom, ?_⟩
    have ec : its.toArray.toList.countP (fun u => PyData.eqv (SeqAt.readOf s.heap u) d) = ds.countP fun z => PyData.eqv z d := by
      rw [← hmap, List.countP_map]
      rfl
    refine ⟨.int ((ds.countP fun z => PyData.eqv z d : Nat) : Int), H, I.tok _, ⟨s.toks, ?_⟩, q⟩
    show Value.int ((its.toArray.toList.countP (fun u => PyData.eqv (SeqAt.readOf s.heap u) d) : Nat) : Int) s.toks = _
    rw [ec]
def shp2 (ds : List PyData) (d : PyData) : Bool := SeqAt.shaped (.list ds) && SeqAt.shaped d
def cntD (fl : FL) (f : FE) : FE := fun ρ D => (fl ρ D).bind fun a => (f ρ a.2).bind fun b => if shp2 a.1 b.1 then some (.int ((a.1.countP fun z => PyData.eqv z b.1 : Nat) : Int), b.2) else none
def idxD (fl : FL) (f : FE) : FE := fun ρ D => (fl ρ D).bind fun a => (f ρ a.2).bind fun b => if shp2 a.1 b.1 && decide (a.1.findIdx (fun z => PyData.eqv z b.1) < a.1.length) then some (.int ((a.1.findIdx fun z => PyData.eqv z b.1 : Nat) : Int), b.2) else none
section
variable {X : Cx} {W : WX} {a b c e : Expr} {es rest : List Expr} {fa fb f : FE} {ga : FA} {pos p apos : Pos} {fl : FL}
theorem de_cnt (hu : X.A.units + 65 < cLine) (ha : DL X a fl) (hb : DE X e f) (hbase : attributeBase a "count" X.env (eval a X.env) = eval a X.env := by rfl)
    (hfew : ((backTo pos (starEach [e] X.env)).all (fun x => !x.1) && (backToKw pos (keywordEach [] X.env)).all (fun x => x.1.isSome)
      && decide ([e].length + ([] : List Keyword).length + (if ([] : List Keyword).isEmpty then 0 else 1) < 30)) = true := by rfl)
    (hline : (apos.endLine == pos.line) = true := by rfl) (hs : starEach [e] X.env = (false, eval e X.env) :: starEach [] X.env := by rfl) (hplain : (backTo pos (starEach [] X.env)).any (·.1) = false := by rfl) :
    DE X (.Call (.Attribute a "count" apos) [e] [] pos) (cntD fl f) := by
  refine .mk ?_
  intro L F0 H0 ρ D σ F H z D' r hf Q q
  obtain ⟨⟨xs, D1⟩, e1, hf⟩ := bind_split hf
  obtain ⟨⟨y, D2⟩, e2, hf⟩ := bind_split hf
  split at hf
  · rename_i hc
    cases hf
    obtain ⟨h1, h2⟩ := Bool.and_eq_true_iff.mp hc
    refine PEw (pe_bm PySem.F.plainAttrs_list PySem.F.slot_list_count PySem.F.type_list_count (mt_countD hu) pe_w (pa_cons pe_w pa_nil hs) hbase hfew hline hs hplain) (ha.run L F0 H0 ρ D σ F H _ _ r e1 _ fun pp vs F1 H1 t1 k1 hl hvs => ?_)
    refine ⟨.inl ⟨rfl, vs, hl F1 H1 Stp.refl⟩, hb.run L F0 H0 ρ D1 σ F1 H1 _ _ (r.step t1 k1) e2 _ fun v F2 H2 t2 k2 hv => ?_⟩
    exact ⟨pp, v, y, xs, rfl, rfl, .lst (hl F2 H2 t2) (dpa_mono (t2.ex.trans k2.sub) hvs), dp_mono k2.sub hv, h1, h2, q _ F2 H2 (t1.trans t2) k2 (.int _)⟩
  · cases hf
theorem de_idx (hu : X.A.units + 65 < cLine) (ha : DL X a fl) (hb : DE X e f) (hbase : attributeBase a "index" X.env (eval a X.env) = eval a X.env := by rfl)
    (hfew : ((backTo pos (starEach [e] X.env)).all (fun x => !x.1) && (backToKw pos (keywordEach [] X.env)).all (fun x => x.1.isSome)
      && decide ([e].length + ([] : List Keyword).length + (if ([] : List Keyword).isEmpty then 0 else 1) < 30)) = true := by rfl)
    (hline : (apos.endLine == pos.line) = true := by rfl) (hs : starEach [e] X.env = (false, eval e X.env) :: starEach [] X.env := by rfl) (hplain : (backTo pos (starEach [] X.env)).any (·.1) = false := by rfl) :
    DE X (.Call (.Attribute a "index" apos) [e] [] pos) (idxD fl f) := by
  refine .mk ?_
  intro L F0 H0 ρ D σ F H z D' r hf Q q
  obtain ⟨⟨xs, D1⟩, e1, hf⟩ := bind_split hf
  obtain ⟨⟨y, D2⟩, e2, hf⟩ := bind_split hf
  split at hf
  · rename_i hc
    cases hf
    obtain ⟨hc, hlt⟩ := Bool.and_eq_true_iff.mp hc
    replace hlt := of_decide_eq_true hlt
    obtain ⟨h1, h2⟩ := Bool.and_eq_true_iff.mp hc
    refine PEw (pe_bm PySem.F.plainAttrs_list PySem.F.slot_list_index PySem.F.type_list_index (mt_indexD hu) pe_w (pa_cons pe_w pa_nil hs) hbase hfew hline hs hplain) (ha.run L F0 H0 ρ D σ F H _ _ r e1 _ fun pp vs F1 H1 t1 k1 hl hvs => ?_)
    refine ⟨.inl ⟨rfl, vs, hl F1 H1 Stp.refl⟩, hb.run L F0 H0 ρ D1 σ F1 H1 _ _ (r.step t1 k1) e2 _ fun v F2 H2 t2 k2 hv => ?_⟩
    refine ⟨pp, v, y, xs, _, _, rfl, rfl, .lst (hl F2 H2 t2) (dpa_mono (t2.ex.trans k2.sub) hvs), dp_mono k2.sub hv, h1, h2, List.getElem?_eq_getElem hlt, List.findIdx_getElem (w := hlt), fun m z' hm hz' => ?_, q _ F2 H2 (t1.trans t2) k2 (.int _)⟩
    have := List.not_of_lt_findIdx hm
    obtain ⟨hml, hme⟩ := List.getElem?_eq_some_iff.mp hz'
    rw [← hme]
    simpa using this
  · cases hf
end
/-! ### names that hold a caught exception -/
theorem Rep.setExc {K : PySem.W.Frag} {L : Loc} {F0 H0 F H : Hp} {ρ : Env} {D : Dw} {σ : L2.St} (r : Rep K L F0 H0 ρ D σ F H) {p : Addr} {c : Str} (i : Nat) (hp : F p = some (XO (.ref (TB.C c)) p)) : Rep K L F0 H0 (ρ.set i (some (.exc c))) D (σ.set i (some (.ref p))) F H := by
  refine ⟨r.ok, r.stp, by rw [List.length_set, List.length_set]; exact r.len, fun j a e => ?_, fun j k xs ys p e1 e2 e3 e4 => ?_⟩
  · rcases set_cases e with ⟨rfl, e', hl⟩ | ⟨hn, e'⟩
    · obtain rfl : AV.exc c = a := Option.some.inj e'
      exact ⟨some (.ref p), List.getElem?_set_self (by rw [r.len]; exact hl), p, rfl, hp⟩
    · obtain ⟨o, h1, h2⟩ := r.slot j a e'
      exact ⟨o, by rw [List.getElem?_set_ne hn]; exact h1, h2⟩
  · rcases set_cases e1 with ⟨rfl, e', _⟩ | ⟨hn, e1⟩
    · cases e'
    rcases set_cases e2 with ⟨rfl, e', _⟩ | ⟨hn2, e2⟩
    · cases e'
    rw [List.getElem?_set_ne hn] at e3
    rw [List.getElem?_set_ne hn2] at e4
    exact r.inj j k xs ys p e1 e2 e3 e4
/-- try: body except C as n: y = n -/
def tryS (ok : List Str) (i j : Nat) (gx : FX) (gb : FS) : FS := fun ρ D => match gx ρ D with
  | some (c, ρ', D') => if c ∈ ok then some (.nx (((ρ'.set i none).set j (some (.exc c))).set i none) D') else none
  | none => gb ρ D
theorem ds_try {X : Cx} {x n y : Str} {cv : Value} {i j : Nat} {body : List Stmt} {np q1 q2 q3 pos pos' : Pos} {ok : List Str} {gx : FX} {gb : FS} (hs : X.stack = X.env :: X.outer) (hf : X.env.frame = some X.env.locals) (hx : X.ex = []) (hN : X.N.Nodup) (hi : X.N[i]? = some n) (hj : X.N[j]? = some y) (hij : i ≠ j) (ln : X.env.scope.names.lookup n = some .local) (ly : X.env.scope.names.lookup y = some .local)
    (dn : (n == ("__debug__" : Str)) = false) (dn2 : (n == ("__classdict__" : Str)) = false) (sw : ∀ (a : Addr) (pn : List (Addr × Obj)), swapsWith (.Name n q2) (some (.Name y q1)) q3.line (X.suite a pn).env = pure false)
    (hc : Names X x cv) (hexm : ∀ c ∈ ok, PySem.W.exmOne X.K (.ref (TB.C c)) cv = some true)
    (hb : ∀ (pn : List (Addr × Obj)) (xe : Value → Shared → Prop), DB (X.tr pn xe).nox body gb)
    (hR : ∀ (W : WX) (pn : List (Addr × Obj)) (xe : Value → Shared → Prop), Takes (X.tr pn xe) W → PassesOwn (model X.prog X.w) X.A X.env xe → RB (X.tr pn xe) W body gx) :
    DS X (.Try body [.ExceptHandler (some (.Name x np)) (some n) [.Assign [.Name y q1] (.Name n q2) q3] pos'] [] [] pos) (tryS ok i j gx gb) := .mk fun L F0 H0 ρ D σ F H o E r hf' q => by
  refine PSw (ps_tryK (Wout := fun _ _ _ _ => False) (tb := fun W => fun E σ H => ∀ (pn : List (Addr × Obj)) (xe : Value → Shared → Prop), Takes (X.tr pn xe) W → PassesOwn (model X.prog X.w) X.A X.env xe → tWB (X.tr pn xe) body E σ H) hs hf hx hN hi hj hij ln ly dn dn2 sw hc takes0
    fun W pn xe tk po => ⟨fun pins s σ H D I h => h pn xe tk po pins s I⟩) ?_
  intro pn xe tk po
  unfold tryS at hf'
  split at hf'
  · rename_i c ρ' D' e1
    split at hf'
    · rename_i hm
      cases hf'
      refine (hR _ pn xe tk po).run L F0 H0 ρ D σ F H c ρ' D' E r e1 fun σ' F' H' r1 => ⟨rfl, true, hexm c hm, fun _ a na => ?_, fun z => nomatch z⟩
      have nF : F' a = none := r1.ok.sub.back na
      have r2 := r1.step (Stp.laid r1.ok.sub na (o := XO (.ref (TB.C c)) a)) (r1.ok.laid na)
      exact q _ _ _ (((r2.setN i (some (.ref a))).setExc j upd_same).setN i none)
    · cases hf'
  · exact (hb pn xe).nox.run L F0 H0 ρ D σ F H o E r hf' q
section
variable {X : Cx} {W : WX} {a b c e : Expr} {es rest : List Expr} {fa fb f : FE} {g : FA} {pos p apos : Pos} {i : Nat} {x : Str}
/-- x is None, x is not None -/
def exN (i : Nat) (neg : Bool) : FE := fun ρ D => match ρ[i]? with
  | some (some (.exc _)) => some (.bool neg, D)
  | some (some (.d v)) => some (.bool (if neg then !isN v else isN v), D)
  | _ => none
theorem de_exN {j2 : Nat} {p2 : Pos} (hN : X.N[i]? = some x := by rfl) (hv : Vis X.env.scope x := by first | exact Or.inl rfl | exact Or.inr (Or.inl rfl) | exact Or.inr (Or.inr rfl)) (hd : (x == ("__debug__" : Str)) = false := by decide)
    (hcd : (x == ("__classdict__" : Str)) = false := by decide) : DE X (.Compare (.Name x p) [.Is] [.Constant .none j2 p2] pos) (exN i false) := by
  refine .mk ?_
  intro L F0 H0 ρ D σ F H z D' r hf Q q
  unfold exN at hf
  split at hf
  · rename_i cc hy
    cases hf
    obtain ⟨o, h1, ad, rfl, h2⟩ := r.slot i _ hy
    refine PEw (pe_cmpR op_isN (pe_var hN hv hd hcd) pe_non rfl) ⟨_, h1, rfl, ?_⟩
    exact q (.bl false) F H Stp.refl r.ok (.bl _)
  · rename_i v hy
    cases hf
    obtain ⟨o, h1, u, rfl, h2⟩ := r.slot i _ hy
    refine PEw (pe_cmpR op_isN (pe_var hN hv hd hcd) pe_non rfl) ⟨_, h1, rfl, ?_⟩
    have := q (.bl (isN v)) F H Stp.refl r.ok (.bl _)
    cases h2 <;> exact this
  · cases hf
theorem de_exNN {j2 : Nat} {p2 : Pos} (hN : X.N[i]? = some x := by rfl) (hv : Vis X.env.scope x := by first | exact Or.inl rfl | exact Or.inr (Or.inl rfl) | exact Or.inr (Or.inr rfl)) (hd : (x == ("__debug__" : Str)) = false := by decide)
    (hcd : (x == ("__classdict__" : Str)) = false := by decide) : DE X (.Compare (.Name x p) [.IsNot] [.Constant .none j2 p2] pos) (exN i true) := by
  refine .mk ?_
  intro L F0 H0 ρ D σ F H z D' r hf Q q
  unfold exN at hf
  split at hf
  · rename_i cc hy
    cases hf
    obtain ⟨o, h1, ad, rfl, h2⟩ := r.slot i _ hy
    refine PEw (pe_cmpR op_notN (pe_var hN hv hd hcd) pe_non rfl) ⟨_, h1, rfl, ?_⟩
    exact q (.bl true) F H Stp.refl r.ok (.bl _)
  · rename_i v hy
    cases hf
    obtain ⟨o, h1, u, rfl, h2⟩ := r.slot i _ hy
    refine PEw (pe_cmpR op_notN (pe_var hN hv hd hcd) pe_non rfl) ⟨_, h1, rfl, ?_⟩
    have := q (.bl (!isN v)) F H Stp.refl r.ok (.bl _)
    cases h2 <;> exact this
  · cases hf
theorem dt_exN {j2 : Nat} {p2 : Pos} (hN : X.N[i]? = some x := by rfl) (hv : Vis X.env.scope x := by first | exact Or.inl rfl | exact Or.inr (Or.inl rfl) | exact Or.inr (Or.inr rfl)) (hd : (x == ("__debug__" : Str)) = false := by decide)
    (hcd : (x == ("__classdict__" : Str)) = false := by decide) : DT X (.Compare (.Name x p) [.Is] [.Constant .none j2 p2] pos) (boolD (exN i false)) := by
  refine dt_of op_isN rfl fun L F0 H0 ρ D σ F H k D' r hf Q q => ?_
  unfold exN at hf
  split at hf
  · rename_i cc hy
    cases hf
    obtain ⟨o, h1, ad, rfl, h2⟩ := r.slot i _ hy
    exact PEw (pe_var hN hv hd hcd) ⟨_, h1, PEw pe_non ⟨rfl, _, rfl, q F H Stp.refl r.ok⟩⟩
  · rename_i v hy
    cases hf
    obtain ⟨o, h1, u, rfl, h2⟩ := r.slot i _ hy
    refine PEw (pe_var hN hv hd hcd) ⟨_, h1, PEw pe_non ⟨rfl, _, rfl, ?_⟩⟩
    have := q F H Stp.refl r.ok
    cases h2 <;> exact this
  · cases hf
/-- f(x, ..) -/
def excD (i : Nat) (ρ : Env) : Option Str := match ρ[i]? with
  | some (some (.exc c)) => some c
  | _ => none
def argX (i : Nat) (g : FA) : FA := fun ρ D => (excD i ρ).bind fun c => (g ρ D).map fun r => (.exc c :: r.1, r.2)
theorem excD_some {ρ : Env} {c : Str} (h : excD i ρ = some c) : ρ[i]? = some (some (.exc c)) := by
  unfold excD at h
  split at h
  · rename_i y hy
    cases h
    exact hy
  · cases h
theorem da_x (hr : DA X es g) (hN : X.N[i]? = some x := by rfl) (hv : Vis X.env.scope x := by first | exact Or.inl rfl | exact Or.inr (Or.inl rfl) | exact Or.inr (Or.inr rfl)) (hd : (x == ("__debug__" : Str)) = false := by decide)
    (hcd : (x == ("__classdict__" : Str)) = false := by decide) (hs : starEach (.Name x p :: es) X.env = (false, eval (.Name x p) X.env) :: starEach es X.env := by rfl) : DA X (.Name x p :: es) (argX i g) := by
  refine .mk ?_
  intro L F0 H0 ρ D σ F H as D' r hf Q q
  obtain ⟨c, e1, hf⟩ := bind_split hf
  obtain ⟨⟨xs, D2⟩, e2, hf⟩ := map_split hf
  cases hf
  obtain ⟨o, h1, ad, rfl, h2⟩ := r.slot i _ (excD_some e1)
  exact PAw (pa_cons (pe_var hN hv hd hcd) pa_w hs) ⟨_, h1, hr.run L F0 H0 ρ D σ F H _ _ r e2 _ fun vs F2 H2 t2 k2 hvs => q _ F2 H2 t2 k2 (.cons ⟨ad, rfl, t2.ex _ _ h2⟩ hvs)⟩
theorem len_x {n : Nat} (h : Len g n) : Len (argX i g) (n + 1) := fun ρ D r hf => by
  obtain ⟨_, e1, hf⟩ := bind_split hf
  obtain ⟨⟨xs, D2⟩, e2, hf⟩ := map_split hf
  cases hf
  have := h _ _ _ e2
  rw [List.length_cons]
  exact congrArg (· + 1) this
/-- isinstance(x, C) -/
def rIsX (K : PySem.W.Frag) : List V → Hp → VK → Prop := fun xs H Q => ∃ (a D : Addr) (c : V) (cv : Value) (b : Bool), xs = [.ref a, c] ∧ H a = some (XO (.ref D) a) ∧ ExcC K D ∧ (∀ u, RelV c u → u = cv) ∧ PySem.W.kitOne K (.ref D) cv = some b ∧ Q (.bl b) H
theorem call_isX : CallR X (.builtin "isinstance") (rIsX X.K) := by
  intro pins s σ H xs us Q I r h
  obtain ⟨a, D, c, cv, b, rfl, hH, C, hcv, e, q⟩ := h
  cases r with
  | cons rx rr =>
    cases rr with
    | cons rt rr =>
      cases rr
      cases rx
      have ec := hcv _ rt
      subst ec
      obtain ⟨⟨oe, hget, hz, vs, hv⟩, _⟩ := I.hok a _ hH
      have J : PySem.W.InstAt s.heap a oe D none := by
        obtain ⟨oc, od, oda, osl⟩ := oe
        obtain ⟨h1, h2⟩ := hz
        dsimp only at h1 h2 hv
        subst h1 h2 hv
        exact ⟨hget, rfl, rfl, trivial⟩
      exact PySem.W.kia_one (PySem.W.handS_kitx_exc C.hg C.hk C.hs C.hd C.ha C.hn C.ht C.hm) I.kIn J e (fun z => nomatch z) fun tk => ⟨.bl b, H, I.kept (t' := tk) fun _ _ z => z, rfl, q⟩
def exI (i : Nat) (h : Str → Option Bool) : FE := fun ρ D => (excD i ρ).bind fun c => (h c).map fun b => (.bool b, D)
theorem de_exI {xT : Str} {pT p1 : Pos} {c : V} {cv : Value} {h : Str → Option Bool} (hk : ∀ n b, h n = some b → ExcC X.K (TB.C n) ∧ PySem.W.kitOne X.K (.ref (TB.C n)) cv = some b) (hg : Gl X "isinstance") (hm : X.mg "isinstance" = none) (hv : bootBuiltins "isinstance" = some (.builtin "isinstance"))
    (hT : PE X (.Name xT pT) (tC c)) (hcv : ∀ u, RelV c u → u = cv) (hN : X.N[i]? = some x := by rfl) (hvx : Vis X.env.scope x := by first | exact Or.inl rfl | exact Or.inr (Or.inl rfl) | exact Or.inr (Or.inr rfl)) (hd : (x == ("__debug__" : Str)) = false := by decide)
    (hcd : (x == ("__classdict__" : Str)) = false := by decide)
    (he : starEach [.Name x p, .Name xT pT] X.env = (false, eval (.Name x p) X.env) :: starEach [.Name xT pT] X.env := by rfl) (he2 : starEach [.Name xT pT] X.env = (false, eval (.Name xT pT) X.env) :: starEach [] X.env := by rfl)
    (hpl : (backTo pos (starEach [.Name xT pT] X.env)).any (·.1) = false := by rfl) : DE X (.Call (.Name "isinstance" p1) [.Name x p, .Name xT pT] [] pos) (exI i h) := by
  refine .mk ?_
  intro L F0 H0 ρ D σ F H z D' r hf Q q
  obtain ⟨n, e1, hf⟩ := bind_split hf
  obtain ⟨b, e2, hf⟩ := map_split hf
  cases hf
  obtain ⟨o, h1, ad, rfl, h2⟩ := r.slot i _ (excD_some e1)
  obtain ⟨hC, hkit⟩ := hk n b e2
  exact PEw (pe_callB call_isX hg hm hv (pa_cons (pe_var hN hvx hd hcd) (pa_cons hT pa_nil he2) he) (by decide) (by decide) he hpl) ⟨_, h1, ad, _, c, cv, b, rfl, r.ok.sub _ _ h2, hC, hcv, hkit, q (.bl b) F H Stp.refl r.ok (.bl _)⟩
end
end Den

end
-- DenEe
section
set_option Elab.async false
set_option linter.all false
set_option maxRecDepth 100000
set_option maxHeartbeats 1000000
namespace Den
open PySem PySem.Spec PyProof.Rows L2
/-! ### classes of errors, by name -/
def isaT (tab : List (Str × Bool)) (n : Str) : Option Bool := tab.lookup n
theorem isa_tab {P : Str → Bool → Prop} : ∀ {tab : List (Str × Bool)}, (∀ x ∈ tab, P x.1 x.2) → ∀ n b, isaT tab n = some b → P n b
  | [], _, n, b, h => by cases h
  | (c, k) :: r, q, n, b, h => by
    unfold isaT at h
    rw [List.lookup_cons] at h
    cases e : n == c with
    | true =>
      rw [e] at h
      cases h
      rw [show n = c from eq_of_beq e]
      exact q _ (.head _)
    | false =>
      rw [e] at h
      exact isa_tab (fun x hx => q x (.tail _ hx)) n b h
section
variable {K : PySem.W.Frag} {f : Str → Addr} {n c : Str} {q d : Addr} {b : Bool}
theorem isa_mk (e1 : f n = q) (e2 : f c = d) (h : ExcC K q) (k : PySem.W.kitOne K (.ref q) (.ref d) = some b) : ExcC K (f n) ∧ PySem.W.kitOne K (.ref (f n)) (.ref (f c)) = some b := by
  rw [e1, e2]; exact ⟨h, k⟩
theorem isa_mkT {cv : Value} (e1 : f n = q) (h : ExcC K q) (k : PySem.W.kitOne K (.ref q) cv = some b) : ExcC K (f n) ∧ PySem.W.kitOne K (.ref (f n)) cv = some b := by
  rw [e1]; exact ⟨h, k⟩
theorem xm_mk (e1 : f n = q) (e2 : f c = d) (h1 : PySem.W.subIn K (.ref d) (.type "BaseException") = some true) (hdct : PySem.W.hasDictIn K d = true) (ht : PySem.W.typeIn K (.ref d) = some (.type "type")) (h4 : PySem.W.subIn K (.ref q) (.ref d) = some true) : PySem.W.exmOne K (.ref (f n)) (.ref (f c)) = some true := by
  rw [e1, e2]; exact PySem.W.exm_ref h1 hdct ht h4
end
section
variable [TB : Tabl] {X : Cx} {W : WX} {st : Stmt} {sts : List Stmt}
theorem rs_never : RS X W st neX := .mk fun L F0 H0 ρ D σ F H c ρ' D' E r hf w => by cases hf
theorem rb_never : RB X W sts neX := .mk fun L F0 H0 ρ D σ F H c ρ' D' E r hf w => by cases hf
theorem room65 {k : Nat} {A : Around} (r : Room k A) : A.units + 65 < cLine := by
  have := room100 r
  omega
theorem pass00 {σ : L2.St} : PassesAt CX0 X σ E0 := fun pins H s e s' I c => pass0 pins σ H s e s' I c
/-- () + t -/
def addT0 : O2 | .tuple [], .tuple b => if b.length ≤ 1000000 then some (.tuple b) else none | _, _ => none
theorem os_addT0 : OpS X (binaryOp .Add) addT0 := .of L2.op_catA fun x y H Q ⟨L, D, F, dx, dy, dz, k, h1, h2, e, q⟩ => by
  match dx, dy, e with
  | .tuple [], .tuple b, e =>
    replace e : (if b.length ≤ 1000000 then some (PyData.tuple b) else none) = some dz := e
    split at e
    · rename_i hc
      cases e
      obtain ⟨p, vs, rfl, s1, a1⟩ := dp_tup h1
      obtain ⟨p2, ws, rfl, s2, a2⟩ := dp_tup h2
      cases a1
      exact ⟨p, p2, [], ws, rfl, rfl, ex_t k.sub s1, ex_t k.sub s2, big (by rw [dpa_len a2]; simpa using hc), fun _ => q _ F H Stp.refl k h2, fun z => absurd rfl z, fun z => absurd rfl z⟩
    · cases e
def addOO : O2 := orO addO addT0
theorem os_addO : OpS X (binaryOp .Add) addOO := .or os_add os_addT0
end
end Den

end
-- DenEf
section
set_option Elab.async false
set_option linter.all false
set_option maxRecDepth 100000
set_option maxHeartbeats 1000000
namespace Den
open PySem PySem.Spec PyProof.Rows L2
variable [TB : Tabl]
/-! ### list(range(..)); sum, max, min of a list of ints -/
theorem rg_dp {K : PySem.W.Frag} {F : Hp} {lo : Int} : ∀ l : List Nat, DpAll K F (l.map fun i => V.int (lo + (i : Nat))) (l.map fun (i : Nat) => PyData.int (lo + (i : Int)))
  | [] => .nil
  | x :: xs => .cons (.int _) (rg_dp xs)
def few (j : Int) : Bool := decide (-1000000 ≤ j) && decide (j ≤ 1000000)
theorem few_ok {i j : Int} (h1 : few i = true) (h2 : few j = true) : RgOk i j := by
  unfold few at h1 h2
  simp only [Bool.and_eq_true, decide_eq_true_eq] at h1 h2
  exact ⟨by omega, by omega, by omega, by omega, by omega⟩
def lsR1 (f : FE) : FL := fun ρ D => (f ρ D).bind fun r => (asI r.1).bind fun j => if few j then some (rngV 0 (j - 0).toNat, r.2) else none
def lsR2 (f g : FE) : FL := fun ρ D => (f ρ D).bind fun r => (asI r.1).bind fun i => (g ρ r.2).bind fun r2 => (asI r2.1).bind fun j => if few i && few j then some (rngV i (j - i).toNat, r2.2) else none
section
variable {X : Cx} {a b e : Expr} {fa fb : FE} {fl : FL} {p p2 pos pos2 : Pos}
theorem dn_lsR1 (hcalm : X.calm = true) (hg : Gl X "list") (hm : X.mg "list" = none) (hg2 : Gl X "range") (hm2 : X.mg "range" = none) (ha : DE X a fa)
    (na : starEach [a] X.env = (false, eval a X.env) :: starEach [] X.env := by rfl) (nr : starEach [.Call (.Name "range" p2) [a] [] pos2] X.env = (false, eval (.Call (.Name "range" p2) [a] [] pos2) X.env) :: starEach [] X.env := by rfl) :
    DN X (.Call (.Name "list" p) [.Call (.Name "range" p2) [a] [] pos2] [] pos) (lsR1 fa) := by
  refine .mk ?_
  intro L F0 H0 ρ D σ F H z D' r hf Q q
  obtain ⟨⟨x, D1⟩, e1, hf⟩ := bind_split hf
  obtain ⟨j, e2, hf⟩ := bind_split hf
  split at hf
  · rename_i hc
    cases hf
    have e3 := asI_some e2
    dsimp only at e3
    subst e3
    refine PEw (pe_listRg hcalm hg hm (prg_1 hg2 hm2 pe_w na) nr) (ha.run L F0 H0 ρ D σ F H _ _ r e1 _ fun v F1 H1 t1 k1 hv => ?_)
    exact ⟨j, dp_int hv, few_ok (by decide) hc, fun l hl => q l _ F1 _ (t1.trans (Stp.fresh hl)) (k1.fresh hl) (back_none t1 hl) (k1.sub.back hl) upd_same (rg_dp _)⟩
  · cases hf
theorem dn_lsR2 (hcalm : X.calm = true) (hg : Gl X "list") (hm : X.mg "list" = none) (hg2 : Gl X "range") (hm2 : X.mg "range" = none) (ha : DE X a fa) (hb : DE X b fb)
    (na : starEach [a, b] X.env = (false, eval a X.env) :: starEach [b] X.env := by rfl) (nb : starEach [b] X.env = (false, eval b X.env) :: starEach [] X.env := by rfl) (hp : (backTo pos2 (starEach [b] X.env)).any (·.1) = false := by rfl)
    (nr : starEach [.Call (.Name "range" p2) [a, b] [] pos2] X.env = (false, eval (.Call (.Name "range" p2) [a, b] [] pos2) X.env) :: starEach [] X.env := by rfl) :
    DN X (.Call (.Name "list" p) [.Call (.Name "range" p2) [a, b] [] pos2] [] pos) (lsR2 fa fb) := by
  refine .mk ?_
  intro L F0 H0 ρ D σ F H z D' r hf Q q
  obtain ⟨⟨x, D1⟩, e1, hf⟩ := bind_split hf
  obtain ⟨i, e2, hf⟩ := bind_split hf
  obtain ⟨⟨y, D2⟩, e3, hf⟩ := bind_split hf
  obtain ⟨j, e4, hf⟩ := bind_split hf
  split at hf
  · rename_i hc
    cases hf
    have e5 := asI_some e2
    have e6 := asI_some e4
    dsimp only at e5 e6
    subst e5 e6
    obtain ⟨c1, c2⟩ := Bool.and_eq_true_iff.mp hc
    refine PEw (pe_listRg hcalm hg hm (prg_2 hg2 hm2 pe_w pe_w na nb hp) nr) (ha.run L F0 H0 ρ D σ F H _ _ r e1 _ fun v F1 H1 t1 k1 hv => hb.run L F0 H0 ρ D1 σ F1 H1 _ _ (r.step t1 k1) e3 _ fun u F2 H2 t2 k2 hu => ?_)
    exact ⟨i, j, dp_int hv, dp_int hu, few_ok c1 c2, fun l hl => q l _ F2 _ ((t1.trans t2).trans (Stp.fresh hl)) (k2.fresh hl) (back_none (t1.trans t2) hl) (k2.sub.back hl) upd_same (rg_dp _)⟩
  · cases hf
def sumO (f : FL) : FE := fun ρ D => (f ρ D).bind fun r => (intsD r.1).map fun ns => (.int ns.sum, r.2)
def maxL (f : FL) : FE := fun ρ D => (f ρ D).bind fun r => (intsD r.1).bind fun ns => ns.max?.map fun m => (.int m, r.2)
def minL (f : FL) : FE := fun ρ D => (f ρ D).bind fun r => (intsD r.1).bind fun ns => ns.min?.map fun m => (.int m, r.2)
theorem de_sum (hc : X.calm = true) (hg : Gl X "sum") (hm : X.mg "sum" = none) (hv : bootBuiltins "sum" = some (.builtin "sum")) (ha : DL X e fl)
    (he : starEach [e] X.env = (false, eval e X.env) :: starEach [] X.env := by rfl) (hpl : (backTo pos (starEach [] X.env)).any (·.1) = false := by rfl) : DE X (.Call (.Name "sum" p) [e] [] pos) (sumO fl) := by
  refine .mk ?_
  intro L F0 H0 ρ D σ F H z D' r hf Q q
  obtain ⟨⟨as, D1⟩, e1, hf⟩ := bind_split hf
  obtain ⟨ns, e2, hf⟩ := map_split hf
  cases hf
  refine PEw (pe_callB (cr_sum hc) hg hm hv (pa_cons pe_w pa_nil he) (by decide) (by decide) he hpl) (ha.run L F0 H0 ρ D σ F H _ _ r e1 _ fun pp vs F1 H1 t1 k1 hl hvs => ⟨pp, ns, rfl, ?_, q _ F1 H1 t1 k1 (.int _)⟩)
  rw [← ints_ok hvs e2]
  exact hl F1 H1 Stp.refl
theorem max_one {ns : List Int} {m m' : Int} (h : ns.max? = some m) (h1 : m' ∈ ns) (h2 : ∀ y, y ∈ ns → y ≤ m') : m' = m := by
  obtain ⟨a1, a2⟩ := List.max?_eq_some_iff.mp h
  exact Int.le_antisymm (a2 _ h1) (h2 _ a1)
theorem min_one {ns : List Int} {m m' : Int} (h : ns.min? = some m) (h1 : m' ∈ ns) (h2 : ∀ y, y ∈ ns → m' ≤ y) : m' = m := by
  obtain ⟨a1, a2⟩ := List.min?_eq_some_iff.mp h
  exact Int.le_antisymm (h2 _ a1) (a2 _ h1)
theorem de_maxL (hc : X.calm = true) (hg : Gl X "max") (hm : X.mg "max" = none) (hv : bootBuiltins "max" = some (.builtin "max")) (ha : DL X e fl)
    (he : starEach [e] X.env = (false, eval e X.env) :: starEach [] X.env := by rfl) (hpl : (backTo pos (starEach [] X.env)).any (·.1) = false := by rfl) : DE X (.Call (.Name "max" p) [e] [] pos) (maxL fl) := by
  refine .mk ?_
  intro L F0 H0 ρ D σ F H z D' r hf Q q
  obtain ⟨⟨as, D1⟩, e1, hf⟩ := bind_split hf
  obtain ⟨ns, e2, hf⟩ := bind_split hf
  obtain ⟨m, e3, hf⟩ := map_split hf
  cases hf
  refine PEw (pe_callB (cr_max hc) hg hm hv (pa_cons pe_w pa_nil he) (by decide) (by decide) he hpl) (ha.run L F0 H0 ρ D σ F H _ _ r e1 _ fun pp vs F1 H1 t1 k1 hl hvs => ⟨pp, ns, rfl, ?_, ?_, fun m' h1 h2 => by rw [max_one e3 h1 h2]; exact q _ F1 H1 t1 k1 (.int _)⟩)
  · rw [← ints_ok hvs e2]
    exact hl F1 H1 Stp.refl
  · exact List.length_pos_of_mem (List.max?_eq_some_iff.mp e3).1
theorem de_minL (hc : X.calm = true) (hg : Gl X "min") (hm : X.mg "min" = none) (hv : bootBuiltins "min" = some (.builtin "min")) (ha : DL X e fl)
    (he : starEach [e] X.env = (false, eval e X.env) :: starEach [] X.env := by rfl) (hpl : (backTo pos (starEach [] X.env)).any (·.1) = false := by rfl) : DE X (.Call (.Name "min" p) [e] [] pos) (minL fl) := by
  refine .mk ?_
  intro L F0 H0 ρ D σ F H z D' r hf Q q
  obtain ⟨⟨as, D1⟩, e1, hf⟩ := bind_split hf
  obtain ⟨ns, e2, hf⟩ := bind_split hf
  obtain ⟨m, e3, hf⟩ := map_split hf
  cases hf
  refine PEw (pe_callB (cr_min hc) hg hm hv (pa_cons pe_w pa_nil he) (by decide) (by decide) he hpl) (ha.run L F0 H0 ρ D σ F H _ _ r e1 _ fun pp vs F1 H1 t1 k1 hl hvs => ⟨pp, ns, rfl, ?_, ?_, fun m' h1 h2 => by rw [min_one e3 h1 h2]; exact q _ F1 H1 t1 k1 (.int _)⟩)
  · rw [← ints_ok hvs e2]
    exact hl F1 H1 Stp.refl
  · exact List.length_pos_of_mem (List.min?_eq_some_iff.mp e3).1
end
end Den

end
-- DenEg
section
set_option Elab.async false
set_option linter.all false
set_option maxRecDepth 100000
set_option maxHeartbeats 1000000
namespace Den
open PySem PySem.Spec PyProof.Rows L2
variable [TB : Tabl]
/-! ### str(x), s.split(t), s.strip(t) -/
def orOn (a b : On) : On := fun ds => match a ds with
  | some z => some z
  | none => b ds
section
variable {X : Cx} {a b e : Expr} {fa fb : FE} {p pos apos : Pos}
theorem CallS.or {f : Value} {a b : On} (ha : CallS X f a) (hb : CallS X f b) : CallS X f (orOn a b) := fun pins s σ H xs us Q I rx ⟨L, D, F, ds, dz, k, h1, e, q⟩ => by
  unfold orOn at e
  split at e
  · rename_i z hz
    cases e
    exact ha pins s σ H xs us Q I rx ⟨L, D, F, ds, _, k, h1, hz, q⟩
  · exact hb pins s σ H xs us Q I rx ⟨L, D, F, ds, _, k, h1, e, q⟩
def strS : On
  | [.str s] => some (.str s)
  | _ => none
def strI' : On
  | [.int i] => if i.natAbs.log2 < 1920 then some (.str (toString i)) else none
  | _ => none
theorem cs_strS : CallS X (.type "str") strS := .of SkE.call_str_str fun xs H Q ⟨L, D, F, ds, dz, k, h1, e, q⟩ => by
  match ds, e with
  | [.str s], e =>
    cases e
    obtain ⟨v, rfl, h⟩ := dpa_one h1
    rw [dp_str h]
    exact ⟨s, rfl, q _ F H Stp.refl k (.str _)⟩
theorem cs_strI : CallS X (.type "str") strI' := .of call_str_int fun xs H Q ⟨L, D, F, ds, dz, k, h1, e, q⟩ => by
  match ds, e with
  | [.int i], e =>
    replace e : (if i.natAbs.log2 < 1920 then some (PyData.str (toString i)) else none) = some dz := e
    split at e
    · rename_i hc
      cases e
      obtain ⟨v, rfl, h⟩ := dpa_one h1
      rw [dp_int h]
      exact ⟨i, rfl, hc, q _ F H Stp.refl k (.str _)⟩
    · cases e
def strO : On := orOn strS strI'
theorem cs_str : CallS X (.type "str") strO := .or cs_strS cs_strI
def splD (f g : FE) : FL := fun ρ D => (f ρ D).bind fun x => (asS x.1).bind fun s => (g ρ x.2).bind fun y => (asS y.1).bind fun t => if t.length ≠ 0 ∧ s.length ≤ 1000000 then some ((Txt.split s t).map PyData.str, y.2) else none
theorem strs_dp {K : PySem.W.Frag} {F : Hp} : ∀ l : List Str, DpAll K F (l.map V.str) (l.map PyData.str)
  | [] => .nil
  | x :: xs => .cons (.str _) (strs_dp xs)
theorem dn_split (ha : DE X a fa) (hb : DE X e fb) (hbase : attributeBase a "split" X.env (eval a X.env) = eval a X.env := by rfl)
    (hfew : ((backTo pos (starEach [e] X.env)).all (fun x => !x.1) && (backToKw pos (keywordEach [] X.env)).all (fun x => x.1.isSome)
      && decide ([e].length + ([] : List Keyword).length + (if ([] : List Keyword).isEmpty then 0 else 1) < 30)) = true := by rfl)
    (hline : (apos.endLine == pos.line) = true := by rfl) (hs : starEach [e] X.env = (false, eval e X.env) :: starEach [] X.env := by rfl) (hplain : (backTo pos (starEach [] X.env)).any (·.1) = false := by rfl) :
    DN X (.Call (.Attribute a "split" apos) [e] [] pos) (splD fa fb) := by
  refine .mk ?_
  intro L F0 H0 ρ D σ F H z D' r hf Q q
  obtain ⟨⟨x, D1⟩, e1, hf⟩ := bind_split hf
  obtain ⟨s, e2, hf⟩ := bind_split hf
  obtain ⟨⟨y, D2⟩, e3, hf⟩ := bind_split hf
  obtain ⟨t, e4, hf⟩ := bind_split hf
  split at hf
  · rename_i hc
    cases hf
    have e5 := asS_some e2
    have e6 := asS_some e4
    dsimp only at e5 e6
    subst e5 e6
    refine PEw (pe_bm PySem.F.plainAttrs_str PySem.F.slot_str_split PySem.F.type_str_split mt_split pe_w (pa_cons pe_w pa_nil hs) hbase hfew hline hs hplain) (ha.run L F0 H0 ρ D σ F H _ _ r e1 _ fun v F1 H1 t1 k1 hv => ?_)
    rw [dp_str hv]
    refine ⟨rfl, hb.run L F0 H0 ρ D1 σ F1 H1 _ _ (r.step t1 k1) e3 _ fun u F2 H2 t2 k2 hu => ?_⟩
    refine ⟨s, t, rfl, by rw [dp_str hu], beq_eq_false_iff_ne.mpr hc.1, Nat.le_trans (Nat.add_le_add_right hc.2 2) (by decide), fun l hl => ?_⟩
    exact q l _ F2 _ ((t1.trans t2).trans (Stp.fresh hl)) (k2.fresh hl) (back_none (t1.trans t2) hl) (k2.sub.back hl) upd_same (strs_dp _)
  · cases hf
def stripD (f g : FE) : FE := fun ρ D => (f ρ D).bind fun x => (asS x.1).bind fun s => (g ρ x.2).bind fun y => (asS y.1).bind fun t => if s.length ≤ 1000000 then some (.str (Txt.stripChars s t), y.2) else none
theorem de_strip (ha : DE X a fa) (hb : DE X e fb) (hbase : attributeBase a "strip" X.env (eval a X.env) = eval a X.env := by rfl)
    (hfew : ((backTo pos (starEach [e] X.env)).all (fun x => !x.1) && (backToKw pos (keywordEach [] X.env)).all (fun x => x.1.isSome)
      && decide ([e].length + ([] : List Keyword).length + (if ([] : List Keyword).isEmpty then 0 else 1) < 30)) = true := by rfl)
    (hline : (apos.endLine == pos.line) = true := by rfl) (hs : starEach [e] X.env = (false, eval e X.env) :: starEach [] X.env := by rfl) (hplain : (backTo pos (starEach [] X.env)).any (·.1) = false := by rfl) :
    DE X (.Call (.Attribute a "strip" apos) [e] [] pos) (stripD fa fb) := by
  refine .mk ?_
  intro L F0 H0 ρ D σ F H z D' r hf Q q
  obtain ⟨⟨x, D1⟩, e1, hf⟩ := bind_split hf
  obtain ⟨s, e2, hf⟩ := bind_split hf
  obtain ⟨⟨y, D2⟩, e3, hf⟩ := bind_split hf
  obtain ⟨t, e4, hf⟩ := bind_split hf
  split at hf
  · rename_i hc
    cases hf
    have e5 := asS_some e2
    have e6 := asS_some e4
    dsimp only at e5 e6
    subst e5 e6
    refine PEw (pe_bm PySem.F.plainAttrs_str PySem.F.slot_str_strip PySem.F.type_str_strip mt_stripChars pe_w (pa_cons pe_w pa_nil hs) hbase hfew hline hs hplain) (ha.run L F0 H0 ρ D σ F H _ _ r e1 _ fun v F1 H1 t1 k1 hv => ?_)
    rw [dp_str hv]
    refine ⟨rfl, hb.run L F0 H0 ρ D1 σ F1 H1 _ _ (r.step t1 k1) e3 _ fun u F2 H2 t2 k2 hu => ?_⟩
    exact ⟨s, t, rfl, by rw [dp_str hu], Nat.le_trans hc (by decide), q _ F2 H2 (t1.trans t2) k2 (.str _)⟩
  · cases hf
end
end Den

end
-- DenEh
section
set_option Elab.async false
set_option linter.all false
set_option maxRecDepth 100000
set_option maxHeartbeats 1000000
namespace Den
open PySem PySem.Spec PyProof.Rows L2
variable [TB : Tabl]
/-! ### f-strings of texts and ints -/
section
variable {X : Cx} {a b e : Expr} {es : List Expr} {fa fb f : FE} {p pos apos : Pos}
def fmtO : PyData → Option PyData
  | .str y => if y.length ≤ 1000000 then some (.str y) else none
  | .int i => if i.natAbs.log2 < 1920 then some (.str (toString i)) else none
  | _ => none
theorem de_fmt (ha : DE X a fa) : DE X (.FormattedValue a (-1) none pos) (unD fmtO fa) := by
  refine .mk ?_
  intro L F0 H0 ρ D σ F H z D' r hf Q q
  obtain ⟨⟨x, D1⟩, e1, hf⟩ := bind_split hf
  obtain ⟨y, e2, hf⟩ := map_split hf
  cases hf
  refine PEw (pe_fmt pe_w) (ha.run L F0 H0 ρ D σ F H _ _ r e1 _ fun v F1 H1 t1 k1 hv => ?_)
  match x, e2 with
  | .str s, e2 =>
    replace e2 : (if s.length ≤ 1000000 then some (PyData.str s) else none) = some z := e2
    split at e2
    · rename_i hc
      cases e2
      exact .inl ⟨s, dp_str hv, Nat.le_trans hc (by decide), q _ F1 H1 t1 k1 (.str _)⟩
    · cases e2
  | .int i, e2 =>
    replace e2 : (if i.natAbs.log2 < 1920 then some (PyData.str (toString i)) else none) = some z := e2
    split at e2
    · rename_i hc
      cases e2
      exact .inr ⟨i, dp_int hv, hc, q _ F1 H1 t1 k1 (.str _)⟩
    · cases e2
/-- the parts -/
inductive DJ (X : Cx) : List Expr → List FE → Prop where
  | nil : DJ X [] []
  | cons {e : Expr} {f : FE} {es : List Expr} {fs : List FE} (h : DE X e f) (r : DJ X es fs) : DJ X (e :: es) (f :: fs)
def fsD : List FE → Str → FE
  | [], acc => fun _ D => some (.str acc, D)
  | f :: fs, acc => fun ρ D => (f ρ D).bind fun r => (asS r.1).bind fun y => if (acc ++ y).length ≤ 1000000 then fsD fs (acc ++ y) ρ r.2 else none
theorem dj_pj {es : List Expr} {fs : List FE} (h : DJ X es fs) : PJ X es (es.map (tW X)) := by
  induction h with
  | nil => exact .nil
  | cons h r ih => exact .cons pe_w ih
theorem dj_run {es : List Expr} {fs : List FE} (h : DJ X es fs) : ∀ (acc : Str) L F0 H0 ρ D σ F H z D', Rep X.K L F0 H0 ρ D σ F H → fsD fs acc ρ D = some (z, D') → ∀ Q : VK, (∀ v F' H', Stp L F H F' H' → Ok L D' F' H' → Dp X.K F' v z → Q v H') →
    tJs (es.map (tW X)) acc σ H fun out H1 => Q (.str out) H1 := by
  induction h with
  | nil =>
    intro acc L F0 H0 ρ D σ F H z D' r hf Q q
    cases hf
    exact q _ F H Stp.refl r.ok (.str _)
  | cons h _ ih =>
    intro acc L F0 H0 ρ D σ F H z D' r hf Q q
    obtain ⟨⟨x, D1⟩, e1, hf⟩ := bind_split hf
    obtain ⟨y, e2, hf⟩ := bind_split hf
    split at hf
    · rename_i hc
      have e3 := asS_some e2
      dsimp only at e3
      subst e3
      refine h.run L F0 H0 ρ D σ F H _ _ r e1 _ fun v F1 H1 t1 k1 hv => ?_
      exact ⟨y, dp_str hv, Nat.le_trans hc (by decide), ih (acc ++ y) L F0 H0 ρ D1 σ F1 H1 z D' (r.step t1 k1) hf Q fun v F2 H2 t2 k2 h2 => q v F2 H2 (t1.trans t2) k2 h2⟩
    · cases hf
theorem de_fstr {v1 v2 : Expr} {rest : List Expr} {fs : List FE} (h : DJ X (v1 :: v2 :: rest) fs) : DE X (.JoinedStr (v1 :: v2 :: rest) pos) (fsD fs Str.empty) := by
  refine .mk ?_
  intro L F0 H0 ρ D σ F H z D' r hf Q q
  exact PEw (pe_joined (dj_pj h)) (dj_run h _ L F0 H0 ρ D σ F H z D' r hf Q q)
/-! ### text * int -/
def repS (x : Str) (n : Int) : Str := ⟨(List.replicate n.toNat x.cps).foldl (· ++ ·) #[]⟩
def mulS : O2 | .str x, .int n => if x.length ≠ 0 ∧ x.length ≤ 1000 ∧ 2 ≤ n ∧ n ≤ 10000 then some (.str (repS x n)) else none | _, _ => none
def rMulS : R2 := fun x y H Q => ∃ (z : Str) (n : Int), x = .str z ∧ y = .int n ∧ z.length ≠ 0 ∧ z.length ≤ 1000 ∧ 2 ≤ n ∧ n ≤ 10000 ∧ Q (.str (repS z n)) H
theorem rep_size (a : Array Nat) : ∀ (n : Nat) (acc : Array Nat), ((List.replicate n a).foldl (· ++ ·) acc).size = acc.size + n * a.size
  | 0, acc => by simp
  | n + 1, acc => by
    rw [List.replicate_succ, List.foldl_cons, rep_size a n, Array.size_append, Nat.add_mul]
    omega
theorem op_mulS : OpR X (binaryOp .Mult) rMulS := by
  intro pins s σ H x y v u Q I rx ry h
  obtain ⟨z, n, rfl, rfl, h0, h1, h2, h3, q⟩ := h
  obtain ⟨t, rfl⟩ := rx
  obtain ⟨t', rfl⟩ := ry
  have hm : z.length * n.toNat ≤ 1000 * 10000 := Nat.mul_le_mul h1 (by omega)
  have e1 : (n == 1 || z.length == 0) = false := by
    rw [Bool.or_eq_false_iff]
    exact ⟨beq_eq_false_iff_ne.mpr (by omega), beq_eq_false_iff_ne.mpr h0⟩
  refine PySem.P.mul_str (by rw [decide_eq_false (by omega), decide_eq_false (by omega)]; rfl) (fun _ _ => ?_) (fun _ _ => ?_) ?_
  · have : (10000 : Int) ≤ (2 ^ 63 - 1) / n := by
      refine Int.le_ediv_of_mul_le (by omega) ?_
      have : (10000 : Int) * n ≤ 10000 * 10000 := Int.mul_le_mul_of_nonneg_left h3 (by omega)
      omega
    omega
  · unfold PySem.Builtin.Str.tooLong sizeLine
    exact decide_eq_false (by omega)
  · rw [if_neg (by omega), e1, if_neg Bool.false_ne_true]
    refine ⟨?_, ⟨.str (repS z n), H, I.tok _, ⟨_, rfl⟩, q⟩⟩
    show ((List.replicate n.toNat z.cps).foldl (· ++ ·) #[]).size ≤ _
    rw [rep_size]
    have e : z.cps.size = z.length := rfl
    rw [e, Nat.mul_comm]
    show 0 + z.length * n.toNat ≤ _
    refine Nat.le_trans ?_ (show 10000000 ≤ sizeLine by decide)
    omega
theorem os_mulS : OpS X (binaryOp .Mult) mulS := .of op_mulS fun x y H Q ⟨L, D, F, dx, dy, dz, k, h1, h2, e, q⟩ => by
  match dx, dy, e with
  | .str z, .int n, e =>
    replace e : (if z.length ≠ 0 ∧ z.length ≤ 1000 ∧ 2 ≤ n ∧ n ≤ 10000 then some (PyData.str (repS z n)) else none) = some dz := e
    split at e
    · rename_i hc
      cases e
      exact ⟨z, n, dp_str h1, dp_int h2, hc.1, hc.2.1, hc.2.2.1, hc.2.2.2, q _ F H Stp.refl k (.str _)⟩
    · cases e
end
end Den

end
-- DenFa
section
set_option Elab.async false
set_option linter.all false
set_option maxRecDepth 100000
set_option maxHeartbeats 1000000
namespace Den
open PySem PySem.Spec PyProof.Rows L2
variable [TB : Tabl]
/-! ### zip over texts, tuples and lists in any mix -/
inductive ZS where
  | zs (z : Str) | zt (a : Addr) | zl (a : Addr)
def ZS.v : ZS → V
  | .zs z => .str z
  | .zt a => .ref a
  | .zl a => .ref a
def ZS.has (K : PySem.W.Frag) (H : Hp) : ZS → List V → Prop
  | .zs z, xs => xs = z.cps.toList.map fun c => V.str ⟨#[c]⟩
  | .zt a, xs => SqT K H a xs
  | .zl a, xs => SqL K H a xs
def ZS.below (N : Addr) : ZS → Prop
  | .zs _ => True
  | .zt a => a < N
  | .zl a => a < N
/-- the iterator at i1, behind i items -/
def ZS.it (i1 : Addr) (i : Nat) (h : Heap) : ZS → Prop
  | .zs z => ∃ t, h.IsStrIter i1 (strIterType z) z t i
  | .zt a => h.IsTupleIter i1 a i
  | .zl a => h.IsListIter i1 a i
omit TB in
theorem ZS.it_at {i1 : Addr} {i : Nat} {h h' : Heap} {S : ZS} (st : S.it i1 i h) (k : ∀ o, h.get? i1 = some o → h'.get? i1 = some o) : S.it i1 i h' := by
  match S, st with
  | .zs z, ⟨t, st⟩ => obtain ⟨o, ho, r⟩ := st; exact ⟨t, o, k o ho, r⟩
  | .zt a, st => exact st.at k
  | .zl a, st => exact st.at k
omit TB in
theorem ZS.it_obj {i1 : Addr} {i : Nat} {h : Heap} {S : ZS} (st : S.it i1 i h) : ∃ o, h.get? i1 = some o ∧ ∀ v, o.data ≠ .cell v := by
  match S, st with
  | .zs z, ⟨t, st⟩ => obtain ⟨o, ho, _, hd⟩ := st; exact ⟨o, ho, fun v q => by rw [hd] at q; cases q⟩
  | .zt a, ⟨o, ho, _, hd⟩ => exact ⟨o, ho, fun v q => by rw [hd] at q; cases q⟩
  | .zl a, ⟨o, ho, _, hd⟩ => exact ⟨o, ho, fun v q => by rw [hd] at q; cases q⟩
omit TB in
theorem vals_getR : ∀ {xs : List V} {us : List Value} {i : Nat} {u : Value}, Vals xs us → us[i]? = some u → ∃ x, xs[i]? = some x ∧ RelV x u
  | _, _, _, _, .nil, e => by simp at e
  | _, _, 0, _, .cons r _, e => by simp at e; subst e; exact ⟨_, rfl, r⟩
  | _, _, i + 1, _, .cons _ t, e => by
    obtain ⟨x, h1, h2⟩ := vals_getR (i := i) t (by simpa using e)
    exact ⟨x, by simpa using h1, h2⟩
omit TB in
/-- what its iterator draws -/
theorem ZS.draws {X : Cx} {pins : List (Addr × Obj)} {σ : L2.St} {H : Hp} {s : Shared} {N i1 : Addr} {i : Nat} {S : ZS} {xs : List V} (I : Inv X pins σ H s) (hc : X.calm = true) (hs : S.has X.K H xs) (hb : S.below N) (hN : N ≤ i1) (st : S.it i1 i s.heap) :
    ∃ (fp : List Addr) (P : Nat → Value → Prop) (Stt : Nat → Heap → Prop), (∀ b ∈ fp, b < N) ∧ Draws X.prog X.w X.A.in1 i1 (i1 :: fp) xs.length P Stt ∧ Stt i s.heap ∧ (∀ j h, Stt j h → S.it i1 j h) ∧ ∀ j v, P j v → ∃ x, xs[j]? = some x ∧ RelV x v := by
  have hh := I.ok.hd hc
  match S, hs, hb, st with
  | .zs z, hs, _, ⟨t, st⟩ =>
    have hs : xs = z.cps.toList.map fun c => V.str ⟨#[c]⟩ := hs
    subst hs
    refine ⟨[], fun j v => ∃ c u, z.cps[j]? = some c ∧ v = .str ⟨#[c]⟩ u, fun j h => h.IsStrIter i1 (strIterType z) z t j, fun _ h => (by cases h), ?_, st, fun j h q => ⟨t, q⟩, ?_⟩
    · rw [List.length_map, Array.length_toList]
      exact Draws.text (A := X.A.in1) hh i1 z t
    · rintro j v ⟨c, u, e, rfl⟩
      exact ⟨.str ⟨#[c]⟩, by rw [List.getElem?_map, Array.getElem?_toList, e]; rfl, u, rfl⟩
  | .zt a, hs, hb, st =>
    obtain ⟨its, rv, p, _⟩ := I.tuple hs
    have ha : a < i1 := Nat.lt_of_lt_of_le hb hN
    refine ⟨[a], fun j v => its.toArray[j]? = some v, fun j h => h.IsTupleIter i1 a j ∧ h.IsTuple a its.toArray, fun b h => by rw [List.mem_singleton.mp h]; exact hb, ?_, ⟨st, p⟩, fun j h q => q.1, ?_⟩
    · have := Draws.tuple (prog := X.prog) (w := X.w) (A := X.A.in1) hh i1 a (Nat.ne_of_lt ha) its.toArray
      rw [List.size_toArray, ← rv.length] at this
      exact this
    · intro j v e
      have e : its[j]? = some v := by simpa using e
      obtain ⟨x, e1, e2⟩ := vals_getR rv e
      exact ⟨x, e1, e2⟩
  | .zl a, hs, hb, st =>
    obtain ⟨its, rv, p, _⟩ := I.list hs
    have ha : a < i1 := Nat.lt_of_lt_of_le hb hN
    refine ⟨[a], fun j v => its.toArray[j]? = some v, fun j h => h.IsListIter i1 a j ∧ h.IsList a its.toArray, fun b h => by rw [List.mem_singleton.mp h]; exact hb, ?_, ⟨st, p.isList⟩, fun j h q => q.1, ?_⟩
    · have := Draws.list (prog := X.prog) (w := X.w) (A := X.A.in1) hh i1 a (Nat.ne_of_lt ha) its.toArray
      rw [List.size_toArray, ← rv.length] at this
      exact this
    · intro j v e
      have e : its[j]? = some v := by simpa using e
      obtain ⟨x, e1, e2⟩ := vals_getR rv e
      exact ⟨x, e1, e2⟩
omit TB in
/-- it begins -/
theorem ZS.begins {X : Cx} {pins : List (Addr × Obj)} {σ : L2.St} {H : Hp} {s : Shared} {S : ZS} {xs : List V} {u : Value} (I : Inv X pins σ H s) (hs : S.has X.K H xs) (r : RelV S.v u) :
    S.below s.heap.objs.size ∧ ∃ (o : Obj) (Hh : Heap → Prop), Begins u o Hh ∧ Hh s.heap ∧ ∀ (i1 : Addr) (h : Heap), h.get? i1 = some o → S.it i1 0 h := by
  match S, hs, r with
  | .zs z, _, r =>
    obtain ⟨t, rfl⟩ := r
    exact ⟨trivial, _, _, begins_text z t, trivial, fun i1 h e => ⟨t, _, e, rfl, rfl⟩⟩
  | .zt a, hs, r =>
    cases r
    obtain ⟨its, rv, p, _⟩ := I.tuple hs
    have p' : s.heap.IsTuple a its.toArray := p
    refine ⟨?_, _, _, begins_tuple a its.toArray, p', fun i1 h e => ⟨_, e, rfl, rfl⟩⟩
    obtain ⟨o, ho, _⟩ := p
    exact Heap.lt_size ho
  | .zl a, hs, r =>
    cases r
    obtain ⟨its, rv, p, _⟩ := I.list hs
    refine ⟨p.lt, _, _, begins_list a its.toArray, p.isList, fun i1 h e => ⟨_, e, rfl, rfl⟩⟩
/-! #### of two -/
def Itq2 (K : PySem.W.Frag) (S1 S2 : ZS) (xs ys : List V) : It :=
  ⟨fun i H => i < min xs.length ys.length ∧ S1.has K H xs ∧ S2.has K H ys,
    fun i H v H' => ∃ T x y, v = .ref T ∧ H T = none ∧ H' = upd H T (.tup [x, y]) ∧ xs[i]? = some x ∧ ys[i]? = some y,
    fun i H => min xs.length ys.length ≤ i ∧ S1.has K H xs ∧ S2.has K H ys⟩
def tnq2 (N : Addr) (S1 S2 : ZS) (n : Nat) (i : Nat) (h : Heap) : Prop :=
  i ≤ n ∧ IsZip h (N + 4) (N + 2) (N + 3) .none ∧ IsTupOf2 h (N + 2) (.ref N) (.ref (N + 1)) ∧ (∃ a b, IsTupOf2 h (N + 3) a b) ∧ S1.it N i h ∧ S2.it (N + 1) i h
def fpq2 (N : Addr) : List Addr := [N + 4, N + 2, N + 3, N, N + 1]
omit TB in
theorem turn_q2 {P : Program} {w : World} {K : PySem.W.Frag} {elts : List Expr} {kk : Nat} {tpos : Pos} {N : Addr} {S1 S2 : ZS} {xs ys : List V} (b1 : S1.below N) (b2 : S2.below N) :
    Turn P w K (.Tuple elts kk tpos) (Itq2 K S1 S2 xs ys) (fpq2 N) (N + 4) (tnq2 N S1 S2 (min xs.length ys.length)) where
  mem := by simp [fpq2]
  obj := fun i h st c hc => by
    obtain ⟨_, hz, hTI, ⟨x, y, hTO⟩, s1, s2⟩ := st
    simp only [fpq2, List.mem_cons, List.not_mem_nil, or_false] at hc
    rcases hc with q | q | q | q | q
    · rw [q]; exact ⟨_, hz, fun v q => nomatch q⟩
    · rw [q]; exact ⟨_, hTI, fun v q => nomatch q⟩
    · rw [q]; exact ⟨_, hTO, fun v q => nomatch q⟩
    · rw [q]; exact (ZS.it_obj s1)
    · rw [q]; exact (ZS.it_obj s2)
  keep := fun i h h' st k => by
    obtain ⟨hi, hz, hTI, ⟨x, y, hTO⟩, s1, s2⟩ := st
    exact ⟨hi, k _ (by simp [fpq2]) _ hz, k _ (by simp [fpq2]) _ hTI, ⟨x, y, k _ (by simp [fpq2]) _ hTO⟩, ZS.it_at s1 (fun o q => k N (by simp [fpq2]) o q), ZS.it_at s2 (fun o q => k (N + 1) (by simp [fpq2]) o q)⟩
  item := by
    intro X hP hw hK hc i pins s σ H E I hf st hg
    subst hP hw hK
    obtain ⟨hi, hz, hTI, hTO, s1, s2⟩ := st
    obtain ⟨hlt, h1, h2⟩ := hg
    obtain ⟨fp1, P1, T1, f1, D1, t1, u1, g1⟩ := ZS.draws I hc h1 b1 (Nat.le_refl _) s1
    obtain ⟨fp2, P2, T2, f2, D2, t2, u2, g2⟩ := ZS.draws I hc h2 b2 (Nat.le_succ _) s2
    refine (GoesN.zip2 (elts := elts) (x1 := kk) (pos := tpos) (zip_sep2 f1 f2) D1 D2).goes i s _ E hlt ⟨hz, hTI, hTO, t1, t2⟩ fun v h' tk hY st' hk htk => ?_
    obtain ⟨T, x, y, rfl, hT, p1, p2, o, ho, hcl, n, hd⟩ := hY
    obtain ⟨hz', hTI', hTO', t1', t2'⟩ := st'
    obtain ⟨vx, e1, r1⟩ := g1 _ _ p1
    obtain ⟨vy, e2, r2⟩ := g2 _ _ p2
    have new : ObjOk X.prog X.w (upd H T (.tup [vx, vy])) h' T (.tup [vx, vy]) := ⟨by show 2 ≤ sizeLine; decide, [x, y], .cons r1 (.cons r2 .nil), ⟨o, ho, hcl, n, hd⟩⟩
    have I1 : Inv X pins σ (upd H T (.tup [vx, vy])) { s with heap := h', toks := tk } := I.turnedNew (ch := [N + 4, N + 3, N, N + 1]) (fun c o hb q => hk c o hb q) (fun b hb => hf b (by simp only [List.mem_cons, List.not_mem_nil, or_false] at hb; rcases hb with q | q | q | q <;> simp [fpq2, q])) hT new
    refine ⟨.ref T, _, I1, rfl, ⟨T, vx, vy, rfl, I.hok.fresh hT, rfl, e1, e2⟩, ⟨by omega, hz', hTI', hTO', u1 _ _ t1', u2 _ _ t2'⟩, fun b hb => ?_⟩
    rw [upd_ne fun z => ?_]
    · exact (hf b hb).1
    · subst z
      obtain ⟨o, ho, _⟩ := (show ∃ o, s.heap.get? b = some o ∧ True from by
        simp only [fpq2, List.mem_cons, List.not_mem_nil, or_false] at hb
        obtain ⟨a1, a2, hTO⟩ := hTO
        rcases hb with q | q | q | q | q
        · exact ⟨_, by rw [q]; exact hz, trivial⟩
        · exact ⟨_, by rw [q]; exact hTI, trivial⟩
        · exact ⟨_, by rw [q]; exact hTO, trivial⟩
        · obtain ⟨o, e, _⟩ := (ZS.it_obj s1); exact ⟨o, by rw [q]; exact e, trivial⟩
        · obtain ⟨o, e, _⟩ := (ZS.it_obj s2); exact ⟨o, by rw [q]; exact e, trivial⟩)
      exact absurd (Heap.lt_size ho) (Nat.not_lt.mpr hT)
  done := by
    intro X hP hw hK hc i pins s σ H E I hf st hg
    subst hP hw hK
    obtain ⟨hi, hz, hTI, hTO, s1, s2⟩ := st
    obtain ⟨hle, h1, h2⟩ := hg
    have e : i = min xs.length ys.length := Nat.le_antisymm hi hle
    subst e
    obtain ⟨fp1, P1, T1, f1, D1, t1, u1, g1⟩ := ZS.draws I hc h1 b1 (Nat.le_refl _) s1
    obtain ⟨fp2, P2, T2, f2, D2, t2, u2, g2⟩ := ZS.draws I hc h2 b2 (Nat.le_succ _) s2
    refine (GoesN.zip2 (elts := elts) (x1 := kk) (pos := tpos) (zip_sep2 f1 f2) D1 D2).stops s (fun s' => Inv X pins σ H s') E ⟨hz, hTI, hTO, t1, t2⟩ fun h' tk hk htk => ?_
    exact I.turnedL (ch := [N + 4, N + 3, N, N + 1]) (fun c o hb q => hk c o hb q) fun b hb => hf b (by simp only [List.mem_cons, List.not_mem_nil, or_false] at hb; rcases hb with q | q | q | q <;> simp [fpq2, q])
  self := fun A i s Q E st h => wpAny_pyIter_zip st.2.1 h
/-! #### of three -/
def Itq3 (K : PySem.W.Frag) (S1 S2 S3 : ZS) (xs ys zs : List V) : It :=
  ⟨fun i H => i < min (min xs.length ys.length) zs.length ∧ S1.has K H xs ∧ S2.has K H ys ∧ S3.has K H zs,
    fun i H v H' => ∃ T x y z, v = .ref T ∧ H T = none ∧ H' = upd H T (.tup [x, y, z]) ∧ xs[i]? = some x ∧ ys[i]? = some y ∧ zs[i]? = some z,
    fun i H => min (min xs.length ys.length) zs.length ≤ i ∧ S1.has K H xs ∧ S2.has K H ys ∧ S3.has K H zs⟩
def tnq3 (N : Addr) (S1 S2 S3 : ZS) (n : Nat) (i : Nat) (h : Heap) : Prop :=
  i ≤ n ∧ IsZip h (N + 5) (N + 3) (N + 4) .none ∧ IsTupOf3 h (N + 3) (.ref N) (.ref (N + 1)) (.ref (N + 2)) ∧ (∃ a b c, IsTupOf3 h (N + 4) a b c) ∧ S1.it N i h ∧ S2.it (N + 1) i h ∧ S3.it (N + 2) i h
def fpq3 (N : Addr) : List Addr := [N + 5, N + 3, N + 4, N, N + 1, N + 2]
omit TB in
theorem turn_q3 {P : Program} {w : World} {K : PySem.W.Frag} {elts : List Expr} {kk : Nat} {tpos : Pos} {N : Addr} {S1 S2 S3 : ZS} {xs ys zs : List V} (b1 : S1.below N) (b2 : S2.below N) (b3 : S3.below N) :
    Turn P w K (.Tuple elts kk tpos) (Itq3 K S1 S2 S3 xs ys zs) (fpq3 N) (N + 5) (tnq3 N S1 S2 S3 (min (min xs.length ys.length) zs.length)) where
  mem := by simp [fpq3]
  obj := fun i h st c hc => by
    obtain ⟨_, hz, hTI, ⟨x, y, z, hTO⟩, s1, s2, s3⟩ := st
    simp only [fpq3, List.mem_cons, List.not_mem_nil, or_false] at hc
    rcases hc with q | q | q | q | q | q
    · rw [q]; exact ⟨_, hz, fun v q => nomatch q⟩
    · rw [q]; exact ⟨_, hTI, fun v q => nomatch q⟩
    · rw [q]; exact ⟨_, hTO, fun v q => nomatch q⟩
    · rw [q]; exact (ZS.it_obj s1)
    · rw [q]; exact (ZS.it_obj s2)
    · rw [q]; exact (ZS.it_obj s3)
  keep := fun i h h' st k => by
    obtain ⟨hi, hz, hTI, ⟨x, y, z, hTO⟩, s1, s2, s3⟩ := st
    exact ⟨hi, k _ (by simp [fpq3]) _ hz, k _ (by simp [fpq3]) _ hTI, ⟨x, y, z, k _ (by simp [fpq3]) _ hTO⟩, ZS.it_at s1 (fun o q => k N (by simp [fpq3]) o q), ZS.it_at s2 (fun o q => k (N + 1) (by simp [fpq3]) o q), ZS.it_at s3 (fun o q => k (N + 2) (by simp [fpq3]) o q)⟩
  item := by
    intro X hP hw hK hc i pins s σ H E I hf st hg
    subst hP hw hK
    obtain ⟨hi, hz, hTI, hTO, s1, s2, s3⟩ := st
    obtain ⟨hlt, h1, h2, h3⟩ := hg
    obtain ⟨fp1, P1, T1, f1, D1, t1, u1, g1⟩ := ZS.draws I hc h1 b1 (Nat.le_refl _) s1
    obtain ⟨fp2, P2, T2, f2, D2, t2, u2, g2⟩ := ZS.draws I hc h2 b2 (Nat.le_succ _) s2
    obtain ⟨fp3, P3, T3, f3, D3, t3, u3, g3⟩ := ZS.draws I hc h3 b3 (Nat.le_add_right _ 2) s3
    refine (GoesN.zip3 (elts := elts) (x1 := kk) (pos := tpos) (zip_sep3 f1 f2 f3) D1 D2 D3).goes i s _ E hlt ⟨hz, hTI, hTO, t1, t2, t3⟩ fun v h' tk hY st' hk htk => ?_
    obtain ⟨T, x, y, z, rfl, hT, p1, p2, p3, o, ho, hcl, n, hd⟩ := hY
    obtain ⟨hz', hTI', hTO', t1', t2', t3'⟩ := st'
    obtain ⟨vx, e1, r1⟩ := g1 _ _ p1
    obtain ⟨vy, e2, r2⟩ := g2 _ _ p2
    obtain ⟨vz, e3, r3⟩ := g3 _ _ p3
    have new : ObjOk X.prog X.w (upd H T (.tup [vx, vy, vz])) h' T (.tup [vx, vy, vz]) := ⟨by show 3 ≤ sizeLine; decide, [x, y, z], .cons r1 (.cons r2 (.cons r3 .nil)), ⟨o, ho, hcl, n, hd⟩⟩
    have I1 : Inv X pins σ (upd H T (.tup [vx, vy, vz])) { s with heap := h', toks := tk } := I.turnedNew (ch := [N + 5, N + 4, N, N + 1, N + 2]) (fun c o hb q => hk c o hb q) (fun b hb => hf b (by simp only [List.mem_cons, List.not_mem_nil, or_false] at hb; rcases hb with q | q | q | q | q <;> simp [fpq3, q])) hT new
    refine ⟨.ref T, _, I1, rfl, ⟨T, vx, vy, vz, rfl, I.hok.fresh hT, rfl, e1, e2, e3⟩, ⟨by omega, hz', hTI', hTO', u1 _ _ t1', u2 _ _ t2', u3 _ _ t3'⟩, fun b hb => ?_⟩
    rw [upd_ne fun z => ?_]
    · exact (hf b hb).1
    · subst z
      obtain ⟨o, ho, _⟩ := (show ∃ o, s.heap.get? b = some o ∧ True from by
        simp only [fpq3, List.mem_cons, List.not_mem_nil, or_false] at hb
        obtain ⟨a1, a2, a3, hTO⟩ := hTO
        rcases hb with q | q | q | q | q | q
        · exact ⟨_, by rw [q]; exact hz, trivial⟩
        · exact ⟨_, by rw [q]; exact hTI, trivial⟩
        · exact ⟨_, by rw [q]; exact hTO, trivial⟩
        · obtain ⟨o, e, _⟩ := (ZS.it_obj s1); exact ⟨o, by rw [q]; exact e, trivial⟩
        · obtain ⟨o, e, _⟩ := (ZS.it_obj s2); exact ⟨o, by rw [q]; exact e, trivial⟩
        · obtain ⟨o, e, _⟩ := (ZS.it_obj s3); exact ⟨o, by rw [q]; exact e, trivial⟩)
      exact absurd (Heap.lt_size ho) (Nat.not_lt.mpr hT)
  done := by
    intro X hP hw hK hc i pins s σ H E I hf st hg
    subst hP hw hK
    obtain ⟨hi, hz, hTI, hTO, s1, s2, s3⟩ := st
    obtain ⟨hle, h1, h2, h3⟩ := hg
    have e : i = min (min xs.length ys.length) zs.length := Nat.le_antisymm hi hle
    subst e
    obtain ⟨fp1, P1, T1, f1, D1, t1, u1, g1⟩ := ZS.draws I hc h1 b1 (Nat.le_refl _) s1
    obtain ⟨fp2, P2, T2, f2, D2, t2, u2, g2⟩ := ZS.draws I hc h2 b2 (Nat.le_succ _) s2
    obtain ⟨fp3, P3, T3, f3, D3, t3, u3, g3⟩ := ZS.draws I hc h3 b3 (Nat.le_add_right _ 2) s3
    refine (GoesN.zip3 (elts := elts) (x1 := kk) (pos := tpos) (zip_sep3 f1 f2 f3) D1 D2 D3).stops s (fun s' => Inv X pins σ H s') E ⟨hz, hTI, hTO, t1, t2, t3⟩ fun h' tk hk htk => ?_
    exact I.turnedL (ch := [N + 5, N + 4, N, N + 1, N + 2]) (fun c o hb q => hk c o hb q) fun b hb => hf b (by simp only [List.mem_cons, List.not_mem_nil, or_false] at hb; rcases hb with q | q | q | q | q <;> simp [fpq3, q])
  self := fun A i s Q E st h => wpAny_pyIter_zip st.2.1 h
/-! #### the walks begin -/
def iZip2 (K : PySem.W.Frag) (ta : TA) : TI := fun σ H R => ta σ H fun vs H1 => ∃ S1 S2 xs ys, vs = [ZS.v S1, ZS.v S2] ∧ ZS.has K H1 S1 xs ∧ ZS.has K H1 S2 ys ∧ R (Itq2 K S1 S2 xs ys) H1
theorem pi_zip2 {X : Cx} {e e2 : Expr} {ta : TA} {p pos tpos : Pos} {elts : List Expr} {kk : Nat} (hg : Gl X "zip") (hm : X.mg "zip" = none) (ha : PA X [e, e2] ta)
    (hs : starEach [e, e2] X.env = (false, eval e X.env) :: starEach [e2] X.env := by rfl) (hpl : (backTo pos (starEach [e2] X.env)).any (·.1) = false := by rfl) :
    PI X (.Tuple elts kk tpos) (.Call (.Name "zip" p) [e, e2] [] pos) (iZip2 X.K ta) := by
  refine ⟨fun pins s σ H R I h => ?_⟩
  refine Call_ (ld_blt I hg hm PyProof.Rows.boot_zip (PyProof.Rows.callWith_type1 (thn (ha.run pos pins s σ H _ I h) fun us s1 ⟨vs, H1, I1, r1, q1⟩ => ?_) hs hpl))
  obtain ⟨S1, S2, xs, ys, ex, h1, h2, q⟩ := q1
  subst ex
  cases r1 with
  | cons r rr =>
    cases rr with
    | cons r' rr =>
      cases rr
      obtain ⟨b1, o1, G1, B1, g1, i1⟩ := ZS.begins I1 h1 r
      obtain ⟨b2, o2, G2, B2, g2, i2⟩ := ZS.begins I1 h2 r'
      refine zip_begins2 B1 B2 g1 g2 fun h' hz hTI hTO e1 e2 hsz hk => wpAny_pyIter_zip hz ?_
      have I2 : Inv X pins σ H1 { s1 with heap := h' } := I1.kept (t' := s1.toks) hk
      refine ⟨s1.heap.objs.size + 4, fpq2 s1.heap.objs.size, _, _, H1, rfl, I2, turn_q2 b1 b2, ⟨Nat.zero_le _, hz, hTI, ⟨_, _, hTO⟩, i1 _ _ e1, i2 _ _ e2⟩, fun c hcm => ?_, q⟩
      have hle : s1.heap.objs.size ≤ c := by
        simp only [fpq2, List.mem_cons, List.not_mem_nil, or_false] at hcm
        rcases hcm with z | z | z | z | z
        · rw [z]; exact Nat.le_add_right _ _
        · rw [z]; exact Nat.le_add_right _ _
        · rw [z]; exact Nat.le_add_right _ _
        · rw [z]; exact Nat.le_refl _
        · rw [z]; exact Nat.le_add_right _ _
      exact I1.fpOk hle (I1.hok.fresh hle)
def iZip3 (K : PySem.W.Frag) (ta : TA) : TI := fun σ H R => ta σ H fun vs H1 => ∃ S1 S2 S3 xs ys zs, vs = [ZS.v S1, ZS.v S2, ZS.v S3] ∧ ZS.has K H1 S1 xs ∧ ZS.has K H1 S2 ys ∧ ZS.has K H1 S3 zs ∧ R (Itq3 K S1 S2 S3 xs ys zs) H1
theorem pi_zip3 {X : Cx} {e e2 e3 : Expr} {ta : TA} {p pos tpos : Pos} {elts : List Expr} {kk : Nat} (hg : Gl X "zip") (hm : X.mg "zip" = none) (ha : PA X [e, e2, e3] ta)
    (hs : starEach [e, e2, e3] X.env = (false, eval e X.env) :: starEach [e2, e3] X.env := by rfl) (hpl : (backTo pos (starEach [e2, e3] X.env)).any (·.1) = false := by rfl) :
    PI X (.Tuple elts kk tpos) (.Call (.Name "zip" p) [e, e2, e3] [] pos) (iZip3 X.K ta) := by
  refine ⟨fun pins s σ H R I h => ?_⟩
  refine Call_ (ld_blt I hg hm PyProof.Rows.boot_zip (PyProof.Rows.callWith_type1 (thn (ha.run pos pins s σ H _ I h) fun us s1 ⟨vs, H1, I1, r1, q1⟩ => ?_) hs hpl))
  obtain ⟨S1, S2, S3, xs, ys, zs, ex, h1, h2, h3, q⟩ := q1
  subst ex
  cases r1 with
  | cons r rr =>
    cases rr with
    | cons r' rr =>
      cases rr with
      | cons r'' rr =>
        cases rr
        obtain ⟨b1, o1, G1, B1, g1, i1⟩ := ZS.begins I1 h1 r
        obtain ⟨b2, o2, G2, B2, g2, i2⟩ := ZS.begins I1 h2 r'
        obtain ⟨b3, o3, G3, B3, g3, i3⟩ := ZS.begins I1 h3 r''
        refine zip_begins3 B1 B2 B3 g1 g2 g3 fun h' hz hTI hTO e1 e2 e3 hsz hk => wpAny_pyIter_zip hz ?_
        have I2 : Inv X pins σ H1 { s1 with heap := h' } := I1.kept (t' := s1.toks) hk
        refine ⟨s1.heap.objs.size + 5, fpq3 s1.heap.objs.size, _, _, H1, rfl, I2, turn_q3 b1 b2 b3, ⟨Nat.zero_le _, hz, hTI, ⟨_, _, _, hTO⟩, i1 _ _ e1, i2 _ _ e2, i3 _ _ e3⟩, fun c hcm => ?_, q⟩
        have hle : s1.heap.objs.size ≤ c := by
          simp only [fpq3, List.mem_cons, List.not_mem_nil, or_false] at hcm
          rcases hcm with z | z | z | z | z | z
          · rw [z]; exact Nat.le_add_right _ _
          · rw [z]; exact Nat.le_add_right _ _
          · rw [z]; exact Nat.le_add_right _ _
          · rw [z]; exact Nat.le_refl _
          · rw [z]; exact Nat.le_add_right _ _
          · rw [z]; exact Nat.le_add_right _ _
        exact I1.fpOk hle (I1.hok.fresh hle)
/-! ### zip, told by data -/
section
variable {X : Cx} {e e2 e3 iter : Expr} {f f1 f2 f3 : FE} {g1 g2 g3 : FL} {p pos tpos : Pos} {elts : List Expr} {kk : Nat}
variable (X) in
/-- e gives a thing whose items are these -/
structure DZ (e : Expr) (f : FL) : Prop where
  run : ∀ L F0 H0 ρ D σ F H xs D', Rep X.K L F0 H0 ρ D σ F H → f ρ D = some (xs, D') → ∀ Q : VK,
    (∀ S vs F' H', Stp L F H F' H' → Ok L D' F' H' → (∀ F2 H2 D2, Ex F' F2 → Ok L D2 F2 H2 → ZS.has X.K H2 S vs) → DpAll X.K F' vs xs → Q (ZS.v S) H') → tW X e σ H Q
theorem dz_str (h : DE X e f) : DZ X e (strI f) := .mk fun L F0 H0 ρ D σ F H xs D' r hf Q q => by
  obtain ⟨⟨y, D1⟩, e1, hf⟩ := bind_split hf
  obtain ⟨s, e2, hf⟩ := map_split hf
  cases hf
  have e3 := asS_some e2
  dsimp only at e3
  subst e3
  refine h.run L F0 H0 ρ D σ F H _ _ r e1 _ fun v F1 H1 t1 k1 hv => ?_
  rw [dp_str hv]
  exact q (.zs s) _ F1 H1 t1 k1 (fun F2 H2 D2 x2 k2 => rfl) (signs_dp _)
theorem dz_list (h : DE X e f) : DZ X e (lstD f) := .mk fun L F0 H0 ρ D σ F H xs D' r hf Q q => by
  obtain ⟨⟨y, D1⟩, e1, hf⟩ := bind_split hf
  obtain ⟨ys, e2, hf⟩ := map_split hf
  cases hf
  have e3 := asL_some e2
  dsimp only at e3
  subst e3
  refine h.run L F0 H0 ρ D σ F H _ _ r e1 _ fun v F1 H1 t1 k1 hv => ?_
  obtain ⟨a, vs, rfl, s1, a1⟩ := dp_list hv
  exact q (.zl a) vs F1 H1 t1 k1 (fun F2 H2 D2 x2 k2 => ex_l (x2.trans k2.sub) s1) a1
theorem dz_tup (h : DE X e f) : DZ X e (tupI f) := .mk fun L F0 H0 ρ D σ F H xs D' r hf Q q => by
  obtain ⟨⟨y, D1⟩, e1, hf⟩ := bind_split hf
  dsimp only at hf
  split at hf
  · cases hf
    refine h.run L F0 H0 ρ D σ F H _ _ r e1 _ fun v F1 H1 t1 k1 hv => ?_
    obtain ⟨a, vs, rfl, s1, a1⟩ := dp_tup hv
    exact q (.zt a) vs F1 H1 t1 k1 (fun F2 H2 D2 x2 k2 => ex_t (x2.trans k2.sub) s1) a1
  · cases hf
def zipV (xs ys : List PyData) : List PyData := List.zipWith (fun x y => .tuple [x, y]) xs ys
def zip2I (f g : FL) : FL := fun ρ D => (f ρ D).bind fun a => (g ρ a.2).map fun b => (zipV a.1 b.1, b.2)
theorem zipV_len (xs ys : List PyData) : (zipV xs ys).length = min xs.length ys.length := List.length_zipWith
theorem zipV_at {xs ys : List PyData} {i : Nat} {d : PyData} (h : (zipV xs ys)[i]? = some d) : ∃ x y, xs[i]? = some x ∧ ys[i]? = some y ∧ d = .tuple [x, y] := by
  unfold zipV at h
  rw [List.getElem?_zipWith] at h
  split at h
  · rename_i a b e1 e2
    cases h
    exact ⟨_, _, e1, e2, rfl⟩
  · cases h
theorem di_zip2 (hg : Gl X "zip") (hm : X.mg "zip" = none) (ha : DZ X e g1) (hb : DZ X e2 g2)
    (hs : starEach [e, e2] X.env = (false, eval e X.env) :: starEach [e2] X.env := by rfl) (hs2 : starEach [e2] X.env = (false, eval e2 X.env) :: starEach [] X.env := by rfl) (hpl : (backTo pos (starEach [e2] X.env)).any (·.1) = false := by rfl) :
    DI X (.Tuple elts kk tpos) (.Call (.Name "zip" p) [e, e2] [] pos) (zip2I g1 g2) := .mk fun L F0 H0 ρ D σ F H zs D' r hf R q => by
  obtain ⟨⟨xs, D1⟩, e1, hf⟩ := bind_split hf
  obtain ⟨⟨ys, D2⟩, e2, hf⟩ := map_split hf
  cases hf
  refine PIw (pi_zip2 hg hm (pa_cons pe_w (pa_cons pe_w pa_nil hs2) hs) hs hpl) (ha.run L F0 H0 ρ D σ F H _ _ r e1 _ fun S1 vs F1 H1 t1 k1 h1 a1 => ?_)
  refine hb.run L F0 H0 ρ D1 σ F1 H1 _ _ (r.step t1 k1) e2 _ fun S2 us F2 H2 t2 k2 h2 a2 => ?_
  have l1 := dpa_len a1
  have l2 := dpa_len a2
  refine ⟨S1, S2, vs, us, rfl, h1 F2 H2 _ t2.ex k2, h2 F2 H2 _ (Ex.refl _) k2, q _ F2 H2 (t1.trans t2) k2 ⟨fun i D F3 H3 x3 k3 hi => ?_, fun i D F3 H3 x3 k3 hi => ?_, fun i d D F3 H3 v H4 x3 k3 hi hy => ?_⟩⟩
  · rw [zipV_len] at hi
    exact ⟨by rw [l1, l2]; exact hi, h1 F3 H3 _ (t2.ex.trans x3) k3, h2 F3 H3 _ x3 k3⟩
  · rw [zipV_len] at hi
    exact ⟨by rw [l1, l2]; exact hi, h1 F3 H3 _ (t2.ex.trans x3) k3, h2 F3 H3 _ x3 k3⟩
  · obtain ⟨T, x, y, rfl, hT, rfl, y1, y2⟩ := hy
    obtain ⟨dx, dy, d1, d2, rfl⟩ := zipV_at hi
    obtain ⟨u1, z1, w1⟩ := dpa_getD a1 d1
    obtain ⟨u2, z2, w2⟩ := dpa_getD a2 d2
    rw [y1] at z1
    rw [y2] at z2
    cases z1
    cases z2
    have hF : F3 T = none := k3.sub.back hT
    exact ⟨_, Stp.laid k3.sub hT, k3.laid hT, .tup (.inl (.inl upd_same)) (.cons (dp_mono ((t2.ex.trans x3).trans (Ex.new hF)) w1) (.cons (dp_mono (x3.trans (Ex.new hF)) w2) .nil))⟩
def zipV3 : List PyData → List PyData → List PyData → List PyData
  | x :: xs, y :: ys, z :: zs => .tuple [x, y, z] :: zipV3 xs ys zs
  | _, _, _ => []
def zip3I (f g h : FL) : FL := fun ρ D => (f ρ D).bind fun a => (g ρ a.2).bind fun b => (h ρ b.2).map fun c => (zipV3 a.1 b.1 c.1, c.2)
theorem zipV3_len : ∀ xs ys zs : List PyData, (zipV3 xs ys zs).length = min (min xs.length ys.length) zs.length
  | [], _, _ => by simp [zipV3]
  | _ :: _, [], _ => by simp [zipV3]
  | _ :: _, _ :: _, [] => by simp [zipV3]
  | x :: xs, y :: ys, z :: zs => by
    rw [zipV3, List.length_cons, zipV3_len xs ys zs, List.length_cons, List.length_cons, List.length_cons]
    omega
theorem zipV3_at : ∀ {xs ys zs : List PyData} {i : Nat} {d : PyData}, (zipV3 xs ys zs)[i]? = some d → ∃ x y z, xs[i]? = some x ∧ ys[i]? = some y ∧ zs[i]? = some z ∧ d = .tuple [x, y, z]
  | [], _, _, _, _, h => by simp [zipV3] at h
  | _ :: _, [], _, _, _, h => by simp [zipV3] at h
  | _ :: _, _ :: _, [], _, _, h => by simp [zipV3] at h
  | x :: xs, y :: ys, z :: zs, 0, d, h => by
    rw [zipV3] at h
    exact ⟨x, y, z, rfl, rfl, rfl, by simpa using h.symm⟩
  | x :: xs, y :: ys, z :: zs, i + 1, d, h => by
    rw [zipV3] at h
    exact zipV3_at (i := i) (by simpa using h)
theorem di_zip3 (hg : Gl X "zip") (hm : X.mg "zip" = none) (ha : DZ X e g1) (hb : DZ X e2 g2) (hcc : DZ X e3 g3)
    (hs : starEach [e, e2, e3] X.env = (false, eval e X.env) :: starEach [e2, e3] X.env := by rfl) (hs2 : starEach [e2, e3] X.env = (false, eval e2 X.env) :: starEach [e3] X.env := by rfl) (hs3 : starEach [e3] X.env = (false, eval e3 X.env) :: starEach [] X.env := by rfl) (hpl : (backTo pos (starEach [e2, e3] X.env)).any (·.1) = false := by rfl) :
    DI X (.Tuple elts kk tpos) (.Call (.Name "zip" p) [e, e2, e3] [] pos) (zip3I g1 g2 g3) := .mk fun L F0 H0 ρ D σ F H zs D' r hf R q => by
  obtain ⟨⟨xs, D1⟩, e1, hf⟩ := bind_split hf
  obtain ⟨⟨ys, D2⟩, e2, hf⟩ := bind_split hf
  obtain ⟨⟨ws, D3⟩, e3, hf⟩ := map_split hf
  cases hf
  refine PIw (pi_zip3 hg hm (pa_cons pe_w (pa_cons pe_w (pa_cons pe_w pa_nil hs3) hs2) hs) hs hpl) (ha.run L F0 H0 ρ D σ F H _ _ r e1 _ fun S1 vs F1 H1 t1 k1 h1 a1 => ?_)
  refine hb.run L F0 H0 ρ D1 σ F1 H1 _ _ (r.step t1 k1) e2 _ fun S2 us F2 H2 t2 k2 h2 a2 => ?_
  refine hcc.run L F0 H0 ρ D2 σ F2 H2 _ _ ((r.step t1 k1).step t2 k2) e3 _ fun S3 ts F3 H3 t3 k3 h3 a3 => ?_
  have l1 := dpa_len a1
  have l2 := dpa_len a2
  have l3 := dpa_len a3
  have x23 := t2.ex.trans t3.ex
  refine ⟨S1, S2, S3, vs, us, ts, rfl, h1 F3 H3 _ x23 k3, h2 F3 H3 _ t3.ex k3, h3 F3 H3 _ (Ex.refl _) k3, q _ F3 H3 ((t1.trans t2).trans t3) k3 ⟨fun i D F4 H4 x4 k4 hi => ?_, fun i D F4 H4 x4 k4 hi => ?_, fun i d D F4 H4 v H5 x4 k4 hi hy => ?_⟩⟩
  · rw [zipV3_len] at hi
    exact ⟨by rw [l1, l2, l3]; exact hi, h1 F4 H4 _ (x23.trans x4) k4, h2 F4 H4 _ (t3.ex.trans x4) k4, h3 F4 H4 _ x4 k4⟩
  · rw [zipV3_len] at hi
    exact ⟨by rw [l1, l2, l3]; exact hi, h1 F4 H4 _ (x23.trans x4) k4, h2 F4 H4 _ (t3.ex.trans x4) k4, h3 F4 H4 _ x4 k4⟩
  · obtain ⟨T, x, y, z, rfl, hT, rfl, y1, y2, y3⟩ := hy
    obtain ⟨dx, dy, dz, d1, d2, d3, rfl⟩ := zipV3_at hi
    obtain ⟨u1, z1, w1⟩ := dpa_getD a1 d1
    obtain ⟨u2, z2, w2⟩ := dpa_getD a2 d2
    obtain ⟨u3, z3, w3⟩ := dpa_getD a3 d3
    rw [y1] at z1
    rw [y2] at z2
    rw [y3] at z3
    cases z1
    cases z2
    cases z3
    have hF : F4 T = none := k4.sub.back hT
    have xn : Ex F4 (upd F4 T (.tup [x, y, z])) := Ex.new hF
    exact ⟨_, Stp.laid k4.sub hT, k4.laid hT, .tup (.inl (.inl upd_same)) (.cons (dp_mono ((x23.trans x4).trans xn) w1) (.cons (dp_mono ((t3.ex.trans x4).trans xn) w2) (.cons (dp_mono (x4.trans xn) w3) .nil)))⟩
end
end Den

end
-- DenFb
section
set_option Elab.async false
set_option linter.all false
set_option maxRecDepth 100000
set_option maxHeartbeats 1000000
namespace Den
open PySem PySem.Spec PyProof.Rows L2
variable [TB : Tabl]
/-! ### tokens: what is said once a literal was made -/
section
variable {X : Cx} {a b c e : Expr} {es : List Expr} {st : Stmt} {sts : List Stmt} {fa fb fc f : FE} {ga : FT} {g g1 g2 : FS} {p pos apos : Pos}
variable (X) in
/-- an expression, where a token is out -/
structure DET (e : Expr) (f : FE) : Prop where
  run : ∀ L F0 H0 ρ D σ F H x D', Rep X.K L F0 H0 ρ D σ F H → f ρ D = some (x, D') → ∀ Q : VK, (∀ v F' H', Stp L F H F' H' → Ok L D' F' H' → Dp X.K F' v x → Q v H') → ∀ pins s, 1 ≤ s.toks → Inv X pins σ H s → wpAny (model X.prog X.w) X.A (eval e X.env) (EP X pins σ Q) X.xe s
variable (X) in
/-- an expression that puts one out -/
structure DEK (e : Expr) (f : FE) : Prop where
  run : ∀ L F0 H0 ρ D σ F H x D', Rep X.K L F0 H0 ρ D σ F H → f ρ D = some (x, D') → ∀ Q : VK, (∀ v F' H', Stp L F H F' H' → Ok L D' F' H' → Dp X.K F' v x → Q v H') → ∀ pins s, Inv X pins σ H s → wpAny (model X.prog X.w) X.A (eval e X.env) (fun v s' => 1 ≤ s'.toks ∧ EP X pins σ Q v s') X.xe s
variable (X) in
structure DST (st : Stmt) (g : FS) : Prop where
  run : ∀ L F0 H0 ρ D σ F H o (E : Ends), Rep X.K L F0 H0 ρ D σ F H → g ρ D = some o → Good X.K L F0 H0 E o → ∀ pins s, 1 ≤ s.toks → Inv X pins σ H s → wpAny (model X.prog X.w) X.A (exec st X.env) (SP X pins E) X.xe s
variable (X) in
structure DSK (st : Stmt) (g : FS) : Prop where
  run : ∀ L F0 H0 ρ D σ F H o (E : Ends), Rep X.K L F0 H0 ρ D σ F H → g ρ D = some o → Good X.K L F0 H0 E o → ∀ pins s, Inv X pins σ H s → wpAny (model X.prog X.w) X.A (exec st X.env) (fun fl s' => 1 ≤ s'.toks ∧ SP X pins E fl s') X.xe s
variable (X) in
structure DBT (sts : List Stmt) (g : FS) : Prop where
  run : ∀ L F0 H0 ρ D σ F H o (E : Ends), Rep X.K L F0 H0 ρ D σ F H → g ρ D = some o → Good X.K L F0 H0 E o → ∀ pins s, 1 ≤ s.toks → Inv X pins σ H s → wpAny (model X.prog X.w) X.A (execs sts X.env) (SP X pins E) X.xe s
theorem toks_le {α : Type} {M : Model} {A : Around} {s : Shared} {t : Sem α} {Q : α → Shared → Prop} {E : Value → Shared → Prop} (h0 : 1 ≤ s.toks) (h : wpAny M A t Q E s) : wpAny M A t (fun a s' => 1 ≤ s'.toks ∧ Q a s') E s :=
  wpAny_mono (PySem.wpAny_toks_of h0 h) (fun _ _ z => z) fun _ _ z => z.2
theorem DET.of (h : DE X e f) : DET X e f := .mk fun L F0 H0 ρ D σ F H x D' r hf Q q pins s h0 I => h.run L F0 H0 ρ D σ F H x D' r hf Q q pins s I
theorem DEK.de (h : DEK X e f) : DE X e f := .mk fun L F0 H0 ρ D σ F H x D' r hf Q q pins s I => wpAny_mono (h.run L F0 H0 ρ D σ F H x D' r hf Q q pins s I) (fun _ _ z => z.2) fun _ _ z => z
theorem DSK.ds (h : DSK X st g) : DS X st g := .mk fun L F0 H0 ρ D σ F H o E r hf q pins s I => wpAny_mono (h.run L F0 H0 ρ D σ F H o E r hf q pins s I) (fun _ _ z => z.2) fun _ _ z => z
/-- A if a == "..." else B -/
theorem dek_ifcmp {op : CmpOp} {o : O2} {z : Str} {j0 : Nat} {c0 : Pos} (ho : OpS X (compareOp op) o) (ha : DE X a fa) (hb : DE X b fb) (hcc : DE X c fc) (hm : behindInMarks op (.Constant (.str z) j0 c0) = false) :
    DEK X (.IfExp (.Compare a [op] [.Constant (.str z) j0 c0] p) b c pos) (ifE (boolD (binD o fa (cD (.str z)))) fb fc) := .mk fun L F0 H0 ρ D σ F H x D' r hf Q q pins s I => by
  obtain ⟨⟨k, D1⟩, e1, hf⟩ := bind_split hf
  obtain ⟨x1, D2, y, e2, e3, e4⟩ := bin_split (bool_split e1)
  cases e3
  refine wpAny_IfExp (wpAny_isTrue_Compare1 (thn (ha.run L F0 H0 ρ D σ F H _ _ r e2 (fun v H1 => ∃ F1, Stp L F H F1 H1 ∧ Ok L D1 F1 H1 ∧ Dp X.K F1 v x1) (fun v F1 H1 t1 k1 h1 => ⟨F1, t1, k1, h1⟩) pins s I) fun v s1 ⟨x2, H1, I1, r1, F1, t1, k1, h1⟩ => Calls.Constant_str ?_) hm)
  have I2 : Inv X pins σ H1 { s1 with toks := s1.toks + 1 } := I1.tok _
  refine thn (toks_le (s := { s1 with toks := s1.toks + 1 }) (by show 1 ≤ s1.toks + 1; omega) (ho pins _ σ H1 x2 (.str z) v _ (fun w H2 => ∃ F2, Stp L F1 H1 F2 H2 ∧ Ok L D1 F2 H2 ∧ w = .bl k) I2 r1 ⟨_, rfl⟩ ⟨L, D1, F1, x1, _, _, k1, h1, .str z, e4, fun w F2 H2 t2 k2 h2 => ⟨F2, t2, k2, by cases h2; rfl⟩⟩)) fun w s3 ⟨h3, w', H3, I3, r3, F3, t3, k3, ew⟩ => ?_
  subst ew
  cases r3
  refine wpAny_truthy_bool ?_
  have r' := r.step (t1.trans t3) k3
  cases k with
  | true => exact toks_le h3 (hb.run L F0 H0 ρ D1 σ F3 H3 x D' r' hf Q (fun v F4 H4 t4 k4 h4 => q v F4 H4 ((t1.trans t3).trans t4) k4 h4) pins s3 I3)
  | false => exact toks_le h3 (hcc.run L F0 H0 ρ D1 σ F3 H3 x D' r' hf Q (fun v F4 H4 t4 k4 h4 => q v F4 H4 ((t1.trans t3).trans t4) k4 h4) pins s3 I3)
theorem dsk_asg {i : Nat} {x : Str} {pos' : Pos} (hN : X.N.Nodup) (h : DEK X e f) (hi : X.N[i]? = some x := by rfl) (hx : L2.Loc X.env.scope x := by first | exact Or.inl rfl | exact Or.inr rfl) (hs : swapsWith e (some (.Name x pos')) pos.line X.env = pure false := by rfl)
    (hf : X.fn x = true ∨ X.env.scope.names.lookup x = some .local := by first | exact .inl rfl | exact .inr rfl | assumption) : DSK X (.Assign [.Name x pos'] e pos) (asgS i f) := .mk fun L F0 H0 ρ D σ F H o E r hfo q pins s I => by
  obtain ⟨⟨y, D1⟩, e1, ho⟩ := map_split hfo
  subst ho
  refine wpAny_Assign_Name (thn (h.run L F0 H0 ρ D σ F H _ _ r e1 (fun v H1 => E.nx (σ.set i (some v)) H1) (fun v F1 H1 t1 k1 hv => q _ F1 H1 ((r.step t1 k1).setD i hv)) pins s I) fun v s1 ⟨h1, y', H1, I1, r1, q1⟩ => ?_) hs
  exact toks_le h1 (store_ok I1 hN hi hx r1 (fun s2 I2 => ⟨_, H1, I2, q1⟩) hf)
theorem dst_asg {i : Nat} {x : Str} {pos' : Pos} (hN : X.N.Nodup) (h : DET X e f) (hi : X.N[i]? = some x := by rfl) (hx : L2.Loc X.env.scope x := by first | exact Or.inl rfl | exact Or.inr rfl) (hs : swapsWith e (some (.Name x pos')) pos.line X.env = pure false := by rfl)
    (hf : X.fn x = true ∨ X.env.scope.names.lookup x = some .local := by first | exact .inl rfl | exact .inr rfl | assumption) : DST X (.Assign [.Name x pos'] e pos) (asgS i f) := .mk fun L F0 H0 ρ D σ F H o E r hfo q pins s h0 I => by
  obtain ⟨⟨y, D1⟩, e1, ho⟩ := map_split hfo
  subst ho
  refine wpAny_Assign_Name (thn (h.run L F0 H0 ρ D σ F H _ _ r e1 (fun v H1 => E.nx (σ.set i (some v)) H1) (fun v F1 H1 t1 k1 hv => q _ F1 H1 ((r.step t1 k1).setD i hv)) pins s h0 I) fun v s1 ⟨y', H1, I1, r1, q1⟩ => ?_) hs
  exact store_ok I1 hN hi hx r1 (fun s2 I2 => ⟨_, H1, I2, q1⟩) hf
theorem dst_ret (h : DET X e f) : DST X (.Return (some e) pos) (retS f) := .mk fun L F0 H0 ρ D σ F H o E r hfo q pins s h0 I => by
  obtain ⟨⟨x, D1⟩, e1, ho⟩ := map_split hfo
  subst ho
  exact wpAny_Return_some (thn (h.run L F0 H0 ρ D σ F H _ _ r e1 (fun v H1 => E.rt v H1) (fun v F1 H1 t1 k1 hv => q v F1 H1 (r.stp.trans t1) k1 hv) pins s h0 I) fun v s1 ⟨x, H1, I1, r1, q1⟩ => ⟨x, σ, H1, I1, r1, q1⟩)
theorem dbt_cons (h1 : DST X st g1) (h2 : DBT X sts g2) : DBT X (st :: sts) (seqS g1 g2) := .mk fun L F0 H0 ρ D σ F H o E r hf q pins s h0 I => by
  obtain ⟨o1, e1, hf⟩ := bind_split hf
  refine wpAny_execs_cons (thn (toks_le h0 (h1.run L F0 H0 ρ D σ F H o1 { E with nx := fun σ1 H1 => ∃ ρ1 D1 F1, o1 = .nx ρ1 D1 ∧ Rep X.K L F0 H0 ρ1 D1 σ1 F1 H1 } r e1 ?_ pins s h0 I)) fun fl s1 ⟨h1, q1⟩ => ?_)
  · cases o1 with
    | nx ρ1 D1 => exact fun σ1 F1 H1 r1 => ⟨ρ1, D1, F1, rfl, r1⟩
    | rt x D1 => cases hf; exact q
    | bk ρ1 D1 => cases hf; exact q
    | ct ρ1 D1 => cases hf; exact q
  · cases fl with
    | next =>
      obtain ⟨σ1, H1, I1, ρ1, D1, F1, rfl, r1⟩ := q1
      exact h2.run L F0 H0 ρ1 D1 σ1 F1 H1 o E r1 hf q pins s1 h1 I1
    | ret v => exact q1
    | brk => exact q1
    | cont => exact q1
theorem DST.of (h : DS X st g) : DST X st g := .mk fun L F0 H0 ρ D σ F H o E r hf q pins s h0 I => h.run L F0 H0 ρ D σ F H o E r hf q pins s I
theorem dbt_one (h1 : DST X st g1) : DBT X [st] g1 := .mk fun L F0 H0 ρ D σ F H o E r hf q pins s h0 I => by
  refine wpAny_execs_cons (thn (h1.run L F0 H0 ρ D σ F H o E r hf q pins s h0 I) fun f s1 q => ?_)
  cases f with
  | next => exact wpAny_execs_nil q
  | ret v => exact q
  | brk => exact q
  | cont => exact q
/-- a statement that puts a token out, and what follows -/
theorem db_tok (h1 : DSK X st g1) (h2 : DBT X sts g2) : DB X (st :: sts) (seqS g1 g2) := .mk fun L F0 H0 ρ D σ F H o E r hf q pins s I => by
  obtain ⟨o1, e1, hf⟩ := bind_split hf
  refine wpAny_execs_cons (thn (h1.run L F0 H0 ρ D σ F H o1 { E with nx := fun σ1 H1 => ∃ ρ1 D1 F1, o1 = .nx ρ1 D1 ∧ Rep X.K L F0 H0 ρ1 D1 σ1 F1 H1 } r e1 ?_ pins s I) fun fl s1 ⟨h1, q1⟩ => ?_)
  · cases o1 with
    | nx ρ1 D1 => exact fun σ1 F1 H1 r1 => ⟨ρ1, D1, F1, rfl, r1⟩
    | rt x D1 => cases hf; exact q
    | bk ρ1 D1 => cases hf; exact q
    | ct ρ1 D1 => cases hf; exact q
  · cases fl with
    | next =>
      obtain ⟨σ1, H1, I1, ρ1, D1, F1, rfl, r1⟩ := q1
      exact h2.run L F0 H0 ρ1 D1 σ1 F1 H1 o E r1 hf q pins s1 h1 I1
    | ret v => exact q1
    | brk => exact q1
    | cont => exact q1
theorem det_if (hcc : DT X c ga) (ha : DET X a fa) (hb : DET X b fb) : DET X (.IfExp c a b pos) (ifE ga fa fb) := .mk fun L F0 H0 ρ D σ F H z D' r hf Q q pins s h0 I => by
  obtain ⟨⟨k, D1⟩, e1, hf⟩ := bind_split hf
  refine wpAny_IfExp (thn (toks_le h0 (hcc.run L F0 H0 ρ D σ F H _ _ r e1 (fun b H1 => b = k ∧ ∃ F1, Stp L F H F1 H1 ∧ Ok L D1 F1 H1) (fun F1 H1 t1 k1 => ⟨rfl, F1, t1, k1⟩) pins s I)) fun d s1 ⟨h1, H1, I1, ed, F1, t1, k1⟩ => ?_)
  subst ed
  cases d with
  | true => exact ha.run L F0 H0 ρ D1 σ F1 H1 z D' (r.step t1 k1) hf Q (fun v F2 H2 t2 k2 => q v F2 H2 (t1.trans t2) k2) pins s1 h1 I1
  | false => exact hb.run L F0 H0 ρ D1 σ F1 H1 z D' (r.step t1 k1) hf Q (fun v F2 H2 t2 k2 => q v F2 H2 (t1.trans t2) k2) pins s1 h1 I1
theorem det_cmp {op : CmpOp} {o : O2} (ho : OpS X (compareOp op) o) (ha : DET X a fa) (hb : DET X b fb) (hm : behindInMarks op b = false) : DET X (.Compare a [op] [b] pos) (binD o fa fb) := .mk fun L F0 H0 ρ D σ F H z D' r hf Q q pins s h0 I => by
  obtain ⟨x, D1, y, e1, e2, e3⟩ := bin_split hf
  refine wpAny_Compare1 (thn (toks_le h0 (ha.run L F0 H0 ρ D σ F H _ _ r e1 (fun v H1 => ∃ F1, Stp L F H F1 H1 ∧ Ok L D1 F1 H1 ∧ Dp X.K F1 v x) (fun v F1 H1 t1 k1 h1 => ⟨F1, t1, k1, h1⟩) pins s h0 I)) fun v s1 ⟨h1, x1, H1, I1, r1, F1, t1, k1, d1⟩ => ?_) hm
  refine thn (hb.run L F0 H0 ρ D1 σ F1 H1 _ _ (r.step t1 k1) e2 (fun v H2 => ∃ F2, Stp L F1 H1 F2 H2 ∧ Ok L D' F2 H2 ∧ Dp X.K F2 v y) (fun v F2 H2 t2 k2 h2 => ⟨F2, t2, k2, h2⟩) pins s1 h1 I1) fun u s2 ⟨y1, H2, I2, r2, F2, t2, k2, d2⟩ => ?_
  exact ho pins s2 σ H2 x1 y1 v u Q I2 r1 r2 ⟨L, D', F2, x, y, z, k2, dp_mono t2.ex d1, d2, e3, fun w F3 H3 t3 k3 h3 => q w F3 H3 ((t1.trans t2).trans t3) k3 h3⟩
/-- e.replace("..", "..") -/
def repO (y z : Str) : PyData → Option PyData
  | .str x => if x.length ≤ 1000 then some (.str (Txt.replace x y z)) else none
  | _ => none
theorem det_repl {y z : Str} {j k : Nat} {c0 c1 : Pos} (ha : DET X e f) (hyz : (y == z) = false := by decide) (hz : z.length ≤ 1 := by decide)
    (hst : starEach [.Constant (.str y) j c0, .Constant (.str z) k c1] X.env = [(false, eval (.Constant (.str y) j c0) X.env), (false, eval (.Constant (.str z) k c1) X.env)] := by rfl)
    (hbase : attributeBase e "replace" X.env (eval e X.env) = eval e X.env := by rfl) (hline : (apos.endLine == pos.line) = true := by rfl) :
    DET X (.Call (.Attribute e "replace" apos) [.Constant (.str y) j c0, .Constant (.str z) k c1] [] pos) (unD (repO y z) f) := .mk fun L F0 H0 ρ D σ F H w D' r hf Q q pins s h0 I => by
  obtain ⟨⟨x, D1⟩, e1, hf⟩ := bind_split hf
  obtain ⟨w', e2, hf⟩ := map_split hf
  cases hf
  have pt : PET X e (tW X e) := fun pins s σ H Q h0 I q => q pins s I
  match x, e2 with
  | .str x, e2 =>
    replace e2 : (if x.length ≤ 1000 then some (PyData.str (Txt.replace x y z)) else none) = some w := e2
    split at e2
    · rename_i hc
      cases e2
      refine PySem.Call_method2 hbase hst hline (wpAny_mono (PySem.wpAny_toks (ha.run L F0 H0 ρ D σ F H _ _ r e1 (fun v H1 => ∃ F1, Stp L F H F1 H1 ∧ Ok L D1 F1 H1 ∧ v = .str x) (fun v F1 H1 t1 k1 h1 => ⟨F1, t1, k1, dp_str h1⟩) pins s h0 I)) (fun v s1 ⟨hk, v', H1, I1, r1, F1, t1, k1, ev⟩ => ?_) fun _ _ z => z.2)
      subst ev
      obtain ⟨tx, e2⟩ := r1
      subst e2
      refine ⟨"str", _, PySem.F.plainAttrs_str, PySem.F.slot_str_replace, PySem.F.type_str_replace, typeIs_str _ _ _, (fun _ e => nomatch e), Calls.callWith_builtin rfl (Calls.evalArgs_plain (Calls.spliced_cons ?_))⟩
      refine Calls.Constant_str (Calls.spliced_cons (Calls.Constant_str (Calls.spliced_nil ?_)))
      have hb : x.length + (x.length + 1) * z.length ≤ 16777216 := by
        have : (x.length + 1) * z.length ≤ 1001 * 1 := Nat.mul_le_mul (by omega) hz
        omega
      exact PySem.SC.replace (by show s1.toks ≠ 0; omega) (by show s1.toks + 1 ≠ 0; omega) (by show s1.toks ≠ s1.toks + 1; omega) hyz hb fun t' k => ⟨.str (Txt.replace x y z), H1, I1.tok k, ⟨t', rfl⟩, q _ F1 H1 t1 k1 (.str _)⟩
    · cases e2
end
/-! ### defs that want a token out, defs that put one out -/
structure FnT (P : Program) (w : World) (K : PySem.W.Frag) (mg : Str → Option Value) (base : Heap) (k : Nat) (f : Addr) (fd : FuncData) (ps : List Str) (n : Nat) (φ : Fn) : Prop where
  run : ∀ (A : Around) (outer : List PySem.Env) (s : Shared) (H : Hp) (args : Args) (us : List Value) (vs : List V) (Q : VK) (E : XK), 1 ≤ s.toks → Room k A → Env0 P w K mg base A outer s H → BindsTo s fd args (ps.zip us) → Vals vs us → spOf K n φ vs H Q E →
    codeAny (model P w) A (.call (.ref f) args) (CR CX0 outer P w H s Q E) s
structure FnK (P : Program) (w : World) (K : PySem.W.Frag) (mg : Str → Option Value) (base : Heap) (k : Nat) (f : Addr) (fd : FuncData) (ps : List Str) (n : Nat) (φ : Fn) : Prop where
  run : ∀ (A : Around) (outer : List PySem.Env) (s : Shared) (H : Hp) (args : Args) (us : List Value) (vs : List V) (Q : VK) (E : XK), Room k A → Env0 P w K mg base A outer s H → BindsTo s fd args (ps.zip us) → Vals vs us → spOf K n φ vs H Q E →
    codeAny (model P w) A (.call (.ref f) args) (fun r s' => (∀ u, r = .ok (.ret u) → 1 ≤ s'.toks) ∧ CR CX0 outer P w H s Q E r s') s
section
variable {P : Program} {w : World} {K : PySem.W.Frag} {mg : Str → Option Value} {base : Heap}
section
variable (X : Cx)
structure DBK (sts : List Stmt) (g : FS) : Prop where
  run : ∀ L F0 H0 ρ D σ F H o (E : Ends), Rep X.K L F0 H0 ρ D σ F H → g ρ D = some o → Good X.K L F0 H0 E o → ∀ pins s, Inv X pins σ H s → wpAny (model X.prog X.w) X.A (execs sts X.env) (fun fl s' => 1 ≤ s'.toks ∧ SP X pins E fl s') X.xe s
end
section
variable {X : Cx} {a b c e : Expr} {es : List Expr} {st : Stmt} {sts : List Stmt} {fa fb fc f : FE} {ga : FA} {g g1 g2 : FS} {p pos apos : Pos}
theorem dbk_tok (h1 : DSK X st g1) (h2 : DBT X sts g2) : DBK X (st :: sts) (seqS g1 g2) := .mk fun L F0 H0 ρ D σ F H o E r hf q pins s I => by
  obtain ⟨o1, e1, hf⟩ := bind_split hf
  refine wpAny_execs_cons (thn (h1.run L F0 H0 ρ D σ F H o1 { E with nx := fun σ1 H1 => ∃ ρ1 D1 F1, o1 = .nx ρ1 D1 ∧ Rep X.K L F0 H0 ρ1 D1 σ1 F1 H1 } r e1 ?_ pins s I) fun fl s1 ⟨h1, q1⟩ => ?_)
  · cases o1 with
    | nx ρ1 D1 => exact fun σ1 F1 H1 r1 => ⟨ρ1, D1, F1, rfl, r1⟩
    | rt x D1 => cases hf; exact q
    | bk ρ1 D1 => cases hf; exact q
    | ct ρ1 D1 => cases hf; exact q
  · cases fl with
    | next =>
      obtain ⟨σ1, H1, I1, ρ1, D1, F1, rfl, r1⟩ := q1
      exact toks_le h1 (h2.run L F0 H0 ρ1 D1 σ1 F1 H1 o E r1 hf q pins s1 h1 I1)
    | ret v => exact ⟨h1, q1⟩
    | brk => exact ⟨h1, q1⟩
    | cont => exact ⟨h1, q1⟩
/-- what a statement that puts nothing out is followed by; it goes on -/
theorem dbk_cons (h1 : DS X st g1) (h2 : DBK X sts g2) (hn : ∀ ρ D o, g1 ρ D = some o → ∃ ρ1 D1, o = .nx ρ1 D1) : DBK X (st :: sts) (seqS g1 g2) := .mk fun L F0 H0 ρ D σ F H o E r hf q pins s I => by
  obtain ⟨o1, e1, hf⟩ := bind_split hf
  obtain ⟨ρ1, D1, rfl⟩ := hn _ _ _ e1
  refine wpAny_execs_cons (thn (h1.run L F0 H0 ρ D σ F H _ { nx := fun σ1 H1 => ∃ F1, Rep X.K L F0 H0 ρ1 D1 σ1 F1 H1, rt := fun _ _ => False, bk := fun _ _ => False, ct := fun _ _ => False } r e1 (fun σ1 F1 H1 r1 => ⟨F1, r1⟩) pins s I) fun fl s1 q1 => ?_)
  cases fl with
  | next =>
    obtain ⟨σ1, H1, I1, F1, r1⟩ := q1
    exact h2.run L F0 H0 ρ1 D1 σ1 F1 H1 o E r1 hf q pins s1 I1
  | ret v => obtain ⟨_, _, _, _, _, z⟩ := q1; exact z.elim
  | brk => obtain ⟨_, _, _, z⟩ := q1; exact z.elim
  | cont => obtain ⟨_, _, _, z⟩ := q1; exact z.elim
theorem dbk_one (h1 : DSK X st g1) : DBK X [st] g1 := .mk fun L F0 H0 ρ D σ F H o E r hf q pins s I => by
  refine wpAny_execs_cons (thn (h1.run L F0 H0 ρ D σ F H o E r hf q pins s I) fun f s1 ⟨h1, q⟩ => ?_)
  cases f with
  | next => exact wpAny_execs_nil ⟨h1, q⟩
  | ret v => exact ⟨h1, q⟩
  | brk => exact ⟨h1, q⟩
  | cont => exact ⟨h1, q⟩
theorem dsk_ret (h : DEK X e f) : DSK X (.Return (some e) pos) (retS f) := .mk fun L F0 H0 ρ D σ F H o E r hfo q pins s I => by
  obtain ⟨⟨x, D1⟩, e1, ho⟩ := map_split hfo
  subst ho
  exact wpAny_Return_some (thn (h.run L F0 H0 ρ D σ F H _ _ r e1 (fun v H1 => E.rt v H1) (fun v F1 H1 t1 k1 hv => q v F1 H1 (r.stp.trans t1) k1 hv) pins s I) fun v s1 ⟨h1, x, H1, I1, r1, q1⟩ => ⟨h1, x, σ, H1, I1, r1, q1⟩)
/-- a, b = e -/
theorem dsk_asgT {tg : Expr} {tf : PyData → Env → Option Env} (h : DEK X e f) (hg : DG X tg tf) (hs : swapsWithSole [tg] e pos.line X.env = pure false := by rfl) (hw : swappedStores [tg] e X.env = pure none := by rfl)
    (h1 : (assignEach [tg] X.env).map (·.2) = [assign tg X.env] := by rfl) : DSK X (.Assign [tg] e pos) (asgT f tf) := .mk fun L F0 H0 ρ D σ F H o E r hfo q pins s I => by
  obtain ⟨⟨y, D1⟩, e1, hfo⟩ := bind_split hfo
  obtain ⟨ρ', e2, ho⟩ := map_split hfo
  subst ho
  refine wpAny_Assign_stores (thn (h.run L F0 H0 ρ D σ F H _ _ r e1 (fun v H1 => ∃ F1, Stp L F H F1 H1 ∧ Ok L D1 F1 H1 ∧ Dp X.K F1 v y) (fun v F1 H1 t1 k1 hv => ⟨F1, t1, k1, hv⟩) pins s I) fun v s1 ⟨h2, x, H1, I1, r1, F1, t1, k1, hv⟩ => ?_) hs hw
  rw [h1]
  refine thn (toks_le h2 (hg.run L F0 H0 ρ D1 σ F1 H1 x y ρ' (r.step t1 k1) hv e2 (fun σ2 H2 => E.nx σ2 H2) (fun σ2 F2 H2 _ r2 => q σ2 F2 H2 r2) pins s1 v I1 r1)) fun _ s2 q => q
variable {k : Nat} {fd : FuncData} {ps : List Str} {φ : Fn} {n : Nat} {x : Str}
theorem pad_nil {K : PySem.W.Frag} {fd : FuncData} {ps : List Str} (hb : Binds K fd ps []) {s : Shared} {us : List Value} (kin : K.In s.heap) (hl : us.length = ps.length) : BindsTo s fd ⟨us, []⟩ (ps.zip us) := by
  have := hb s us kin (by rw [List.append_nil]; exact hl)
  rwa [List.append_nil] at this
theorem det_call {fx : Addr} (FO : FnT X.prog X.w X.K X.mg X.base k fx fd ps n φ) (hr : Room k X.A) (hg : Gl X x) (hm : X.mg x = some (.ref fx)) (hk : PySem.W.keepIn X.K (.ref fx) = true) (hb : Binds X.K fd ps []) (ha : DA X (e :: es) ga) (hl : (e :: es).length = n := by rfl) (hps : ps.length = n := by rfl)
    (hdb : (x == ("__debug__" : Str)) = false := by decide) (he : starEach (e :: es) X.env = (false, eval e X.env) :: starEach es X.env := by rfl) (hpl : (backTo pos (starEach es X.env)).any (·.1) = false := by rfl) (hlen : ∀ ρ D r, ga ρ D = some r → r.1.length = (e :: es).length) :
    DET X (.Call (.Name x p) (e :: es) [] pos) (callD φ ga) := .mk fun L F0 H0 ρ D σ F H z D' r hf Q q pins s h0 I => by
  obtain ⟨⟨as, D1⟩, e1, hf⟩ := bind_split hf
  refine wpAny_Call_Name_kw (ld_glob I hg hm ?_ hdb)
  refine PySem.W.callWith_K (h₀ := X.base) I.ok.mod.kin hk (thn (toks_le h0 (ha.run L F0 H0 ρ D σ F H _ _ r e1 (fun vs H1 => ∃ F1, Stp L F H F1 H1 ∧ Ok L D1 F1 H1 ∧ ArgsOk X.K L F1 vs as) (fun vs F1 H1 t1 k1 hvs => ⟨F1, t1, k1, hvs⟩) pos pins s I)) fun us s1 ⟨h1, vs, H1, I1, r1, F1, t1, k1, hvs⟩ => ⟨I1.kIn, ?_⟩) he hpl
  have hvl : vs.length = n := by rw [hvs.len, hlen ρ D _ e1, hl]
  refine wpAny_call (codeAny_mono (FO.run X.A X.stack s1 H1 ⟨us, []⟩ us vs Q E0 h1 hr I1.env0 (pad_nil hb I1.kIn (by rw [← r1.length, hvl, hps])) r1 ⟨L, D1, F1, as, z, D', hvl, k1, hvs, hf, fun v F2 H2 t2 k2 hv => q v F2 H2 (t1.trans t2) k2 hv⟩) fun r s' hq => ?_)
  cases r with
  | error e => exact pass0 pins σ H1 s1 e s' I1 hq
  | ok fl =>
    cases fl with
    | ret u => exact I1.after hq
    | next => exact False.elim hq
    | brk => exact False.elim hq
    | cont => exact False.elim hq
theorem dek_call {fx : Addr} (FO : FnK X.prog X.w X.K X.mg X.base k fx fd ps n φ) (hr : Room k X.A) (hg : Gl X x) (hm : X.mg x = some (.ref fx)) (hk : PySem.W.keepIn X.K (.ref fx) = true) (hb : Binds X.K fd ps []) (ha : DA X (e :: es) ga) (hl : (e :: es).length = n := by rfl) (hps : ps.length = n := by rfl)
    (hdb : (x == ("__debug__" : Str)) = false := by decide) (he : starEach (e :: es) X.env = (false, eval e X.env) :: starEach es X.env := by rfl) (hpl : (backTo pos (starEach es X.env)).any (·.1) = false := by rfl) (hlen : ∀ ρ D r, ga ρ D = some r → r.1.length = (e :: es).length) :
    DEK X (.Call (.Name x p) (e :: es) [] pos) (callD φ ga) := .mk fun L F0 H0 ρ D σ F H z D' r hf Q q pins s I => by
  obtain ⟨⟨as, D1⟩, e1, hf⟩ := bind_split hf
  refine wpAny_Call_Name_kw (ld_glob I hg hm ?_ hdb)
  refine PySem.W.callWith_K (h₀ := X.base) I.ok.mod.kin hk (thn (ha.run L F0 H0 ρ D σ F H _ _ r e1 (fun vs H1 => ∃ F1, Stp L F H F1 H1 ∧ Ok L D1 F1 H1 ∧ ArgsOk X.K L F1 vs as) (fun vs F1 H1 t1 k1 hvs => ⟨F1, t1, k1, hvs⟩) pos pins s I) fun us s1 ⟨vs, H1, I1, r1, F1, t1, k1, hvs⟩ => ⟨I1.kIn, ?_⟩) he hpl
  have hvl : vs.length = n := by rw [hvs.len, hlen ρ D _ e1, hl]
  refine wpAny_call (codeAny_mono (FO.run X.A X.stack s1 H1 ⟨us, []⟩ us vs Q E0 hr I1.env0 (pad_nil hb I1.kIn (by rw [← r1.length, hvl, hps])) r1 ⟨L, D1, F1, as, z, D', hvl, k1, hvs, hf, fun v F2 H2 t2 k2 hv => q v F2 H2 (t1.trans t2) k2 hv⟩) fun r s' ⟨hk, hq⟩ => ?_)
  cases r with
  | error e => exact pass0 pins σ H1 s1 e s' I1 hq
  | ok fl =>
    cases fl with
    | ret u => exact ⟨hk u rfl, I1.after hq⟩
    | next => exact False.elim hq
    | brk => exact False.elim hq
    | cont => exact False.elim hq
end
/-! #### their bodies -/
theorem dent_core {x qual : Str} {st : Stmt} {f : Addr} {fd : FuncData} {N ps : List Str} {k : Nat} (F : Fun K x qual st f fd) (S : FnScope N ps (defScope st))
    (A : Around) (outer : List PySem.Env) (s : Shared) (H : Hp) (args : Args) (us : List Value) (vs : List V) (Q : VK) (E : XK) (hr : Room (k + 1) A) (e0 : Env0 P w K mg base A outer s H) (hb : BindsTo s fd args (ps.zip us)) (r : Vals vs us) (hl : vs.length = ps.length) (Rr : Result → Shared → Prop)
    (hRe : ∀ e s', CR CX0 outer P w H s Q E (.error e) s' → Rr (.error e) s') (n0 : Nat) (hn0 : n0 ≤ s.toks)
    (body : ∀ cdv, Room k (A.deeper (envOfC qual (defScope st) s.heap.objs.size f cdv)) → ∀ s1, n0 ≤ s1.toks → Inv (cxOf CX0 P w K mg base N qual (defScope st) f cdv A outer s H E) [] (L2.start N vs) H s1 →
      wpAny (model P w) (cxOf CX0 P w K mg base N qual (defScope st) f cdv A outer s H E).A (execs (defBody st) (cxOf CX0 P w K mg base N qual (defScope st) f cdv A outer s H E).env) (fun fl s' => (∀ u, fl = .ret u → CE outer P w H s Q u s' → Rr (.ok (.ret u)) s') ∧ (fl = .next → CE outer P w H s Q Value.none s' → Rr (.ok (.ret Value.none)) s') ∧ SP (cxOf CX0 P w K mg base N qual (defScope st) f cdv A outer s H E) [] { nx := fun _ H' => Q .non H', rt := Q } fl s') (cxOf CX0 P w K mg base N qual (defScope st) f cdv A outer s H E).xe s1) :
    codeAny (model P w) A (.call (.ref f) args) Rr s := by
  obtain ⟨oc, od, kV, doc, pm, an, cdv, ct, osl, rfl, lk, hcd⟩ := F.ex
  have KX : K.In s.heap := e0.mod.kin.keeps fun b o e => (e0.bs b o e).1
  have lim : s.heap.NoLimit := e0.mod.nolimit.keeps fun b o e => (e0.bs b o e).1
  have hkind : ∀ y ∈ ps.zip us, (defScope st).names.lookup y.1 = some .local ∨ ((defScope st).names.lookup y.1 = some .cell ∧ ((cellsFrom (s.heap.objs.size + 1) (defScope st).names []).lookup y.1).isSome = true) := fun ⟨n, v⟩ hy => by
    rcases S.par n (List.of_mem_zip hy).1 with q | q
    · exact .inl q
    · exact .inr ⟨q, PySem.W.cellsFrom_some _ _ _ (.inl q)⟩
  refine codeAny_call_function hr.depth (KX _ _ lk) rfl S.co S.gen rfl (PySem.W.codeRec_of KX hcd) (hb _ _ _ _ ?_)
  refine wpAny_with_toks hn0 (wpAny_newFunctionEnv_cells S.kind hkind fun env he s1 x => fun hk => ?_)
  subst he
  refine ⟨lim.keeps x.toInCall.keep, codeAny_func ?_⟩
  have I : Inv (cxOf CX0 P w K mg base N qual (defScope st) f cdv A outer s H E) [] (L2.start N vs) H s1 := inv_start S hr.hd e0 hl r x
  refine wpAny_mono (body cdv (hr.deeper _) s1 hk I) (fun fl s' hs => ?_) fun e s' hs => wpAny_mono hs (fun _ s'' z => hRe e s'' z) (fun e' s'' z => hRe e' s'' z)
  have fin : ∀ {σ' : L2.St} {H' : Hp} {v : V} {u : Value}, Inv (cxOf CX0 P w K mg base N qual (defScope st) f cdv A outer s H E) [] σ' H' s' → RelV v u → Q v H' → CE outer P w H s Q u s' :=
    fun {σ' H' v u} J rv q => ⟨v, H', J.os, J.bare, J.base, J.hok, rv, q⟩
  obtain ⟨a1, a2, hs⟩ := hs
  cases fl with
  | ret u =>
    obtain ⟨v, σ', H', J, rv, q⟩ := hs
    exact a1 u rfl (fin J rv q)
  | next =>
    obtain ⟨σ', H', J, q⟩ := hs
    exact a2 rfl (fin (v := V.non) (u := Value.none) J rfl q)
  | brk =>
    obtain ⟨_, _, _, q⟩ := hs
    exact False.elim q
  | cont =>
    obtain ⟨_, _, _, q⟩ := hs
    exact False.elim q
theorem good_def {L : Loc} {F H : Hp} {Q : VK} {o : Out} {y : PyData} {D' : Dw} (e : outD o = some (y, D')) (q : ∀ v F' H', Stp L F H F' H' → Ok L D' F' H' → Dp K F' v y → Q v H') : Good K L F H { nx := fun _ H' => Q .non H', rt := Q } o := by
  cases o with
  | nx ρ D1 => cases e; exact fun σ F1 H1 r1 => q _ F1 H1 r1.stp r1.ok .non
  | rt z D1 => cases e; exact fun v F1 H1 t1 k1 hv => q v F1 H1 t1 k1 hv
  | bk ρ D1 => cases e
  | ct ρ D1 => cases e
/-- a def that wants a token out -/
theorem denT {x qual : Str} {st : Stmt} {f : Addr} {fd : FuncData} {N ps : List Str} {k : Nat} {g : FS} {φ : Fn} (F : Fun K x qual st f fd) (S : FnScope N ps (defScope st))
    (hb : ∀ (cdv : Value) (A : Around) (outer : List PySem.Env) (s : Shared) (H : Hp) (E : XK), Room k (A.deeper (envOfC qual (defScope st) s.heap.objs.size f cdv)) → DBT (cxOf CX0 P w K mg base N qual (defScope st) f cdv A outer s H E) (defBody st) g)
    (hφ : ∀ as D r, as.length = ps.length → φ as D = some r → (g (startA N as) D).bind outD = some r) : FnT P w K mg base (k + 1) f fd ps ps.length φ := by
  refine ⟨fun A outer s H args us vs Q E h0 hr e0 hbt r hsp => ?_⟩
  obtain ⟨L, D, F', as, y, D', hl, hk, ha, e, q⟩ := hsp
  have e2 := hφ as D _ (by rw [← ha.len]; exact hl) e
  obtain ⟨o, e3, e4⟩ := bind_split e2
  refine dent_core F S A outer s H args us vs Q E hr e0 hbt r hl _ (fun _ _ z => z) 1 h0 fun cdv hrm s1 h1 I => ?_
  refine wpAny_mono ((hb cdv A outer s H E hrm).run L F' H _ D _ F' H o _ (rep_start hk ha) e3 (good_def e4 q) [] s1 h1 I) (fun fl s' z => ⟨fun u _ c => c, fun _ c => c, z⟩) fun _ _ z => z
/-- a def that puts a token out -/
theorem denK {x qual : Str} {st : Stmt} {f : Addr} {fd : FuncData} {N ps : List Str} {k : Nat} {g : FS} {φ : Fn} (F : Fun K x qual st f fd) (S : FnScope N ps (defScope st))
    (hb : ∀ (cdv : Value) (A : Around) (outer : List PySem.Env) (s : Shared) (H : Hp) (E : XK), Room k (A.deeper (envOfC qual (defScope st) s.heap.objs.size f cdv)) → DBK (cxOf CX0 P w K mg base N qual (defScope st) f cdv A outer s H E) (defBody st) g)
    (hφ : ∀ as D r, as.length = ps.length → φ as D = some r → (g (startA N as) D).bind outD = some r) : FnK P w K mg base (k + 1) f fd ps ps.length φ := by
  refine ⟨fun A outer s H args us vs Q E hr e0 hbt r hsp => ?_⟩
  obtain ⟨L, D, F', as, y, D', hl, hk, ha, e, q⟩ := hsp
  have e2 := hφ as D _ (by rw [← ha.len]; exact hl) e
  obtain ⟨o, e3, e4⟩ := bind_split e2
  refine dent_core F S A outer s H args us vs Q E hr e0 hbt r hl _ (fun e s' z => ⟨fun u hu => (nomatch hu), z⟩) 0 (Nat.zero_le _) fun cdv hrm s1 _ I => ?_
  refine wpAny_mono ((hb cdv A outer s H E hrm).run L F' H _ D _ F' H o _ (rep_start hk ha) e3 (good_def e4 q) [] s1 I) (fun fl s' z => ⟨fun u _ c => ⟨fun _ _ => z.1, c⟩, fun _ c => ⟨fun _ _ => z.1, c⟩, z.2⟩) fun _ _ z => z
end
end Den

end
-- DenFc
section
set_option Elab.async false
set_option linter.all false
set_option maxRecDepth 100000
set_option maxHeartbeats 1000000
namespace Den
open PySem PySem.Spec PyProof.Rows L2
variable [TB : Tabl]
/-! ### def f(text, a, b, c): return text.replace(a, "y").replace(b, "z") if c, else text.replace(a, "z").replace(b, "y") -/
/-- text.replace(a, "y").replace(b, "z") -/
def rep2E (xt xa xb : Str) (y z : Str) (p1 p2 p3 p4 p5 p6 p7 p8 : Pos) (j k : Nat) : Expr :=
  .Call (.Attribute (.Call (.Attribute (.Name xt p1) "replace" p2) [.Name xa p3, .Constant (.str y) j p4] [] p5) "replace" p6) [.Name xb p7, .Constant (.str z) k p8] [] p8
structure DecRun (P : Program) (w : World) (K : PySem.W.Frag) (mg : Str → Option Value) (base : Heap) (k : Nat) (f : Addr) (fd : FuncData) (ps : List Str) (y0 y1 : Str) : Prop where
  run : ∀ (A : Around) (outer : List PySem.Env) (s : Shared) (H : Hp) (args : Args) (x ya yb : Str) (tx ta tb : Tok) (c : Bool) (Q : VK) (E : XK), Room k A → Env0 P w K mg base A outer s H → BindsTo s fd args (ps.zip [.str x tx, .str ya ta, .str yb tb, .bool c]) →
    x.length ≤ 1000 → ta ≠ 0 → tb ≠ 0 → ta < s.toks → tb < s.toks → (ya == y0) = false → (ya == y1) = false → (yb == y0) = false → (yb == y1) = false →
    Q (.str (if c then Txt.replace (Txt.replace x ya y0) yb y1 else Txt.replace (Txt.replace x ya y1) yb y0)) H →
    codeAny (model P w) A (.call (.ref f) args) (CR CX0 outer P w H s Q E) s
section
variable {P : Program} {w : World} {K : PySem.W.Frag} {mg : Str → Option Value} {base : Heap}
theorem rep_len {x y z : Str} (hz : z.length ≤ 1) {n : Nat} (h : x.length ≤ n) : (Txt.replace x y z).length ≤ 2 * n + 1 := by
  have h1 := TK.replace_len x y z
  have h2 : (x.length + 1) * z.length ≤ (x.length + 1) * 1 := Nat.mul_le_mul_left _ hz
  omega
/-- one replace: the receiver is there, the first argument a name whose token is known, the second a literal -/
theorem rep_step {A : Around} {env : PySem.Env} {Er : Value → Shared → Prop} {s : Shared} {o : Expr} {xa : Str} {y : Str} {j : Nat} {p3 p4 p5 p6 : Pos} {x ya : Str} {ta : Tok} {Q : Value → Shared → Prop}
    (hbase : attributeBase o "replace" env (eval o env) = eval o env) (hst : starEach [.Name xa p3, .Constant (.str y) j p4] env = [(false, eval (.Name xa p3) env), (false, eval (.Constant (.str y) j p4) env)]) (hline : (p6.endLine == p5.line) = true)
    (ho : ∀ Q' : Value → Shared → Prop, (∀ tx s1, s.toks ≤ s1.toks → s1.heap = s.heap → (∀ k, { s1 with toks := k } = { s with toks := k }) → Q' (.str x tx) s1) → wpAny (model P w) A (eval o env) Q' Er s)
    (ha : ∀ k (Q' : Value → Shared → Prop), Q' (.str ya ta) { s with toks := k } → wpAny (model P w) A (eval (.Name xa p3) env) Q' Er { s with toks := k })
    (h0 : ta ≠ 0) (hlt : ta < s.toks) (hy : (ya == y) = false) (hb : x.length ≤ 4000) (hz : y.length ≤ 1)
    (hq : ∀ t' k, s.toks ≤ k → Q (.str (Txt.replace x ya y) t') { s with toks := k }) :
    wpAny (model P w) A (eval (.Call (.Attribute o "replace" p6) [.Name xa p3, .Constant (.str y) j p4] [] p5) env) Q Er s := by
  refine PySem.Call_method2 hbase hst hline (ho _ fun tx s1 hk hh hs => ?_)
  have e1 : s1 = { s with toks := s1.toks } := hs s1.toks
  refine ⟨"str", _, PySem.F.plainAttrs_str, PySem.F.slot_str_replace, PySem.F.type_str_replace, typeIs_str _ _ _, (fun _ e => nomatch e), Calls.callWith_builtin rfl (Calls.evalArgs_plain (Calls.spliced_cons ?_))⟩
  rw [e1]
  refine ha _ _ (Calls.spliced_cons (Calls.Constant_str (Calls.spliced_nil ?_)))
  have hsz : x.length + (x.length + 1) * y.length ≤ 16777216 := by
    have : (x.length + 1) * y.length ≤ 4001 * 1 := Nat.mul_le_mul (by omega) hz
    omega
  have hne : ta ≠ s1.toks := Nat.ne_of_lt (Nat.lt_of_lt_of_le hlt hk)
  have hv : s1.toks ≠ 0 := Nat.ne_of_gt (Nat.lt_of_lt_of_le (Nat.lt_of_le_of_lt (Nat.zero_le _) hlt) hk)
  refine wpAny_with_toks (n := s.toks) (by show s.toks ≤ s1.toks + 1; omega) (PySem.SC.replace h0 hv hne hy hsz fun t' k hk => ?_)
  exact hq t' k hk
/-- a local name that is known -/
theorem name_at {A : Around} {qual : Str} {scope : Scope} {f : Addr} {cdv : Value} {n : Nat} {Er : Value → Shared → Prop} {x : Str} {p : Pos} {m : Str → Option Value} {v : Value} {s1 : Shared} (S : scope.kind = .function) (hx : scope.names.lookup x = some .local) (hn : s1.heap.Ns (envOfC qual scope n f cdv).locals m) (hm : m x = some v) (hd : (x == ("__debug__" : Str)) = false)
    (k : Nat) (Q' : Value → Shared → Prop) (q : Q' v { s1 with toks := k }) : wpAny (model P w) A (eval (.Name x p) (envOfC qual scope n f cdv)) Q' Er { s1 with toks := k } :=
  wpAny_Name (wpAny_loadName_local S hx (by exact hn) hm q) hd
theorem dec_run {x qual : Str} {st : Stmt} {f : Addr} {fd : FuncData} {N : List Str} {k : Nat} {a0 a1 a2 a3 : Str} (F : Fun K x qual st f fd) (S : FnScope N [a0, a1, a2, a3] (defScope st)) {y0 y1 : Str} {j0 j1 j2 j3 : Nat} {q0 q1 q2 q3 : Pos}
    {p1 p2 p3 p4 p5 p6 p7 p8 p9 r1 r2 r3 r4 r5 r6 r7 r8 r9 : Pos}
    (hbd : defBody st = [.If (.Name a3 q0) [.Return (some (.Call (.Attribute (.Call (.Attribute (.Name a0 p1) "replace" p2) [.Name a1 p3, .Constant (.str y0) j0 p4] [] p5) "replace" p6) [.Name a2 p7, .Constant (.str y1) j1 p8] [] p9)) q1] [] q2,
      .Return (some (.Call (.Attribute (.Call (.Attribute (.Name a0 r1) "replace" r2) [.Name a1 r3, .Constant (.str y1) j2 r4] [] r5) "replace" r6) [.Name a2 r7, .Constant (.str y0) j3 r8] [] r9)) q3])
    (h0 : (defScope st).names.lookup a0 = some .local) (h1 : (defScope st).names.lookup a1 = some .local) (h2 : (defScope st).names.lookup a2 = some .local) (h3 : (defScope st).names.lookup a3 = some .local)
    (d0 : (a0 == ("__debug__" : Str)) = false) (d1 : (a1 == ("__debug__" : Str)) = false) (d2 : (a2 == ("__debug__" : Str)) = false) (d3 : (a3 == ("__debug__" : Str)) = false)
    (l1 : (p2.endLine == p5.line) = true) (l2 : (p6.endLine == p9.line) = true) (l3 : (r2.endLine == r5.line) = true) (l4 : (r6.endLine == r9.line) = true) (hy0 : y0.length ≤ 1) (hy1 : y1.length ≤ 1) : DecRun P w K mg base (k + 1) f fd [a0, a1, a2, a3] y0 y1 := by
  refine ⟨fun A outer s H args x ya yb tx ta tb c Q E hr e0 hb hx t0 t1 lt0 lt1 n1 n2 n3 n4 q => ?_⟩
  obtain ⟨oc, od, kV, doc, pm, an, cdv, ct, osl, rfl, lk, hcd⟩ := F.ex
  have KX : K.In s.heap := e0.mod.kin.keeps fun b o e => (e0.bs b o e).1
  have lim : s.heap.NoLimit := e0.mod.nolimit.keeps fun b o e => (e0.bs b o e).1
  have hkind : ∀ y ∈ [a0, a1, a2, a3].zip [Value.str x tx, .str ya ta, .str yb tb, .bool c], (defScope st).names.lookup y.1 = some .local ∨ ((defScope st).names.lookup y.1 = some .cell ∧ ((cellsFrom (s.heap.objs.size + 1) (defScope st).names []).lookup y.1).isSome = true) := fun ⟨n, v⟩ hy => by
    rcases S.par n (List.of_mem_zip hy).1 with q | q
    · exact .inl q
    · exact .inr ⟨q, PySem.W.cellsFrom_some _ _ _ (.inl q)⟩
  refine codeAny_call_function hr.depth (KX _ _ lk) rfl S.co S.gen rfl (PySem.W.codeRec_of KX hcd) (hb _ _ _ _ ?_)
  refine wpAny_with_toks (Nat.le_refl _) (wpAny_newFunctionEnv_cells S.kind hkind fun env he s1 xx => fun hk => ?_)
  subst he
  refine ⟨lim.keeps xx.toInCall.keep, codeAny_func ?_⟩
  have rv : Vals [V.str x, .str ya, .str yb, .bl c] [Value.str x tx, .str ya ta, .str yb tb, .bool c] := .cons ⟨tx, rfl⟩ (.cons ⟨ta, rfl⟩ (.cons ⟨tb, rfl⟩ (.cons rfl .nil)))
  have I : Inv (cxOf CX0 P w K mg base N qual (defScope st) f cdv A outer s H E) [] (L2.start N [.str x, .str ya, .str yb, .bl c]) H s1 := inv_start S hr.hd e0 rfl rv xx
  have hn := xx.toInCall.ns
  have nd : [a0, a1, a2, a3].Nodup := by
    have e : [a0, a1, a2, a3] = N.take 4 := S.pre.symm
    rw [e]
    exact S.nd.sublist (List.take_sublist _ _)
  have m0 := bindL_get (kindOf := (envOfC qual (defScope st) s.heap.objs.size f cdv).kindOf) (x := a0) (v := Value.str x tx) (P := [a0, a1, a2, a3]) (vs := [.str x tx, .str ya ta, .str yb tb, .bool c]) (i := 0) (m := fun _ => none) nd rfl rfl h0
  have m1 := bindL_get (kindOf := (envOfC qual (defScope st) s.heap.objs.size f cdv).kindOf) (x := a1) (v := Value.str ya ta) (P := [a0, a1, a2, a3]) (vs := [.str x tx, .str ya ta, .str yb tb, .bool c]) (i := 1) (m := fun _ => none) nd rfl rfl h1
  have m2 := bindL_get (kindOf := (envOfC qual (defScope st) s.heap.objs.size f cdv).kindOf) (x := a2) (v := Value.str yb tb) (P := [a0, a1, a2, a3]) (vs := [.str x tx, .str ya ta, .str yb tb, .bool c]) (i := 2) (m := fun _ => none) nd rfl rfl h2
  have m3 := bindL_get (kindOf := (envOfC qual (defScope st) s.heap.objs.size f cdv).kindOf) (x := a3) (v := Value.bool c) (P := [a0, a1, a2, a3]) (vs := [.str x tx, .str ya ta, .str yb tb, .bool c]) (i := 3) (m := fun _ => none) nd rfl rfl h3
  have fin : ∀ {σ' : L2.St} {H' : Hp} {v : V} {r : Value} {s' : Shared}, Inv (cxOf CX0 P w K mg base N qual (defScope st) f cdv A outer s H E) [] σ' H' s' → RelV v r → Q v H' → CE outer P w H s Q r s' :=
    fun {σ' H' v r s'} J rv q => ⟨v, H', J.os, J.bare, J.base, J.hok, rv, q⟩
  have both : ∀ (u0 u1 : Str) (i0 i1 : Nat) (b1 b2 b3 b4 b5 b6 b7 b8 b9 : Pos) (Er : Value → Shared → Prop), (b2.endLine == b5.line) = true → (b6.endLine == b9.line) = true → u0.length ≤ 1 → u1.length ≤ 1 → (ya == u0) = false → (yb == u1) = false → Q (.str (Txt.replace (Txt.replace x ya u0) yb u1)) H →
      ∀ Q' : Value → Shared → Prop, (∀ t' k, Q' (.str (Txt.replace (Txt.replace x ya u0) yb u1) t') { s1 with toks := k }) →
      wpAny (model P w) (A.deeper (envOfC qual (defScope st) s.heap.objs.size f cdv)) (eval (.Call (.Attribute (.Call (.Attribute (.Name a0 b1) "replace" b2) [.Name a1 b3, .Constant (.str u0) i0 b4] [] b5) "replace" b6) [.Name a2 b7, .Constant (.str u1) i1 b8] [] b9) (envOfC qual (defScope st) s.heap.objs.size f cdv)) Q' Er s1 := by
    intro u0 u1 i0 i1 b1 b2 b3 b4 b5 b6 b7 b8 b9 Er ln1 ln2 z0 z1 w0 w1 hq Q' hQ'
    refine rep_step rfl rfl ln2 (fun Q2 hQ2 => ?_) (fun k Q2 q2 => name_at S.kind h2 hn m2 d2 k Q2 q2) t1 (Nat.lt_of_lt_of_le lt1 hk) w1 (Nat.le_trans (rep_len z0 hx) (by decide)) z1 (fun t' k _ => hQ' t' k)
    refine rep_step rfl rfl ln1 (fun Q3 hQ3 => ?_) (fun k Q3 q3 => name_at S.kind h1 hn m1 d1 k Q3 q3) t0 (Nat.lt_of_lt_of_le lt0 hk) w0 (by omega) z0 (fun t' k hk2 => hQ2 t' _ hk2 rfl fun _ => rfl)
    exact name_at (s1 := s1) S.kind h0 hn m0 d0 s1.toks Q3 (hQ3 tx s1 (Nat.le_refl _) rfl fun _ => rfl)
  rw [hbd]
  cases c with
  | true =>
    refine wpAny_execs_cons (wpAny_If (isTrue_plain (name_at (s1 := s1) S.kind h3 hn m3 d3 s1.toks _ (wpAny_truthy_bool ?_)) (by rfl)))
    rw [if_pos rfl]
    refine wpAny_execs_cons (wpAny_Return_some (both y0 y1 j0 j1 p1 p2 p3 p4 p5 p6 p7 p8 p9 _ l1 l2 hy0 hy1 n1 n4 q _ fun t' k => ?_))
    exact fin (v := V.str (Txt.replace (Txt.replace x ya y0) yb y1)) (r := Value.str (Txt.replace (Txt.replace x ya y0) yb y1) t') (I.tok k) ⟨t', rfl⟩ q
  | false =>
    refine wpAny_execs_cons (wpAny_If (isTrue_plain (name_at (s1 := s1) S.kind h3 hn m3 d3 s1.toks _ (wpAny_truthy_bool ?_)) (by rfl)))
    rw [if_neg Bool.false_ne_true]
    refine wpAny_execs_nil ?_
    refine wpAny_execs_cons (wpAny_Return_some (both y1 y0 j2 j3 r1 r2 r3 r4 r5 r6 r7 r8 r9 _ l3 l4 hy1 hy0 n2 n3 q _ fun t' k => ?_))
    exact fin (v := V.str (Txt.replace (Txt.replace x ya y1) yb y0)) (r := Value.str (Txt.replace (Txt.replace x ya y1) yb y0) t') (I.tok k) ⟨t', rfl⟩ q
end
section
variable {X : Cx} {e c : Expr} {f fc : FE} {p pos : Pos}
def decV (ya yb y0 y1 : Str) (x : Str) (b : Bool) : Str := if b then Txt.replace (Txt.replace x ya y0) yb y1 else Txt.replace (Txt.replace x ya y1) yb y0
def decD (ya yb y0 y1 : Str) (f fc : FE) : FE := fun ρ D => (f ρ D).bind fun a => (asS a.1).bind fun x => (fc ρ a.2).bind fun c => (asB c.1).bind fun b => if x.length ≤ 1000 then some (.str (decV ya yb y0 y1 x b), c.2) else none
theorem det_dec {k : Nat} {fx : Addr} {fd : FuncData} {ps : List Str} {y0 y1 ya yb nm : Str} {j k' : Nat} {c0 c1 : Pos} (R : DecRun X.prog X.w X.K X.mg X.base k fx fd ps y0 y1) (hr : Room k X.A) (hg : Gl X nm) (hm : X.mg nm = some (.ref fx)) (hk : PySem.W.keepIn X.K (.ref fx) = true) (hb : Binds X.K fd ps []) (ha : DET X e f) (hc : DE X c fc)
    (n1 : (ya == y0) = false := by decide) (n2 : (ya == y1) = false := by decide) (n3 : (yb == y0) = false := by decide) (n4 : (yb == y1) = false := by decide) (hps : ps.length = 4 := by rfl) (hdb : (nm == ("__debug__" : Str)) = false := by decide)
    (s1 : starEach [e, .Constant (.str ya) j c0, .Constant (.str yb) k' c1, c] X.env = (false, eval e X.env) :: starEach [.Constant (.str ya) j c0, .Constant (.str yb) k' c1, c] X.env := by rfl)
    (s2 : starEach [.Constant (.str ya) j c0, .Constant (.str yb) k' c1, c] X.env = (false, eval (.Constant (.str ya) j c0) X.env) :: starEach [.Constant (.str yb) k' c1, c] X.env := by rfl)
    (s3 : starEach [.Constant (.str yb) k' c1, c] X.env = (false, eval (.Constant (.str yb) k' c1) X.env) :: starEach [c] X.env := by rfl) (s4 : starEach [c] X.env = (false, eval c X.env) :: starEach [] X.env := by rfl)
    (hpl : (backTo pos (starEach [.Constant (.str ya) j c0, .Constant (.str yb) k' c1, c] X.env)).any (·.1) = false := by rfl) :
    DET X (.Call (.Name nm p) [e, .Constant (.str ya) j c0, .Constant (.str yb) k' c1, c] [] pos) (decD ya yb y0 y1 f fc) := .mk fun L F0 H0 ρ D σ F H z D' r hf Q q pins s h0 I => by
  obtain ⟨⟨x0, D1⟩, e1, hf⟩ := bind_split hf
  obtain ⟨x, e2, hf⟩ := bind_split hf
  obtain ⟨⟨b0, D2⟩, e3, hf⟩ := bind_split hf
  obtain ⟨b, e4, hf⟩ := bind_split hf
  split at hf
  · rename_i hx
    cases hf
    have e5 := asS_some e2
    dsimp only at e5
    subst e5
    have e6 := asB_some e4
    dsimp only at e6
    subst e6
    refine wpAny_Call_Name_kw (ld_glob I hg hm ?_ hdb)
    refine PySem.W.callWith_K (h₀ := X.base) I.ok.mod.kin hk ?_ s1 hpl
    rw [s1, s2, s3, s4]
    show wpAny _ _ (spliced ((false, eval e X.env) :: (false, eval (.Constant (.str ya) j c0) X.env) :: (false, eval (.Constant (.str yb) k' c1) X.env) :: (false, eval c X.env) :: backTo pos (starEach [] X.env))) _ _ s
    refine Calls.spliced_cons (thn (toks_le h0 (ha.run L F0 H0 ρ D σ F H _ _ r e1 (fun v H1 => ∃ F1, Stp L F H F1 H1 ∧ Ok L D1 F1 H1 ∧ v = .str x) (fun v F1 H1 t1 k1 h1 => ⟨F1, t1, k1, dp_str h1⟩) pins s h0 I)) fun u s1 ⟨h1, v1, H1, I1, r1, F1, t1, k1, ev⟩ => ?_)
    subst ev
    obtain ⟨tx, rfl⟩ := r1
    refine Calls.spliced_cons (Calls.Constant_str (Calls.spliced_cons (Calls.Constant_str ?_)))
    have I2 : Inv X pins σ H1 { s1 with toks := s1.toks + 1 + 1 } := (I1.tok _)
    refine Calls.spliced_cons (thn (PySem.wpAny_mono (PySem.wpAny_toks_of (s := { s1 with toks := s1.toks + 1 + 1 }) (n := s1.toks + 1 + 1) (Nat.le_refl _) (hc.run L F0 H0 ρ D1 σ F1 H1 _ _ (r.step t1 k1) e3 (fun v H2 => ∃ F2, Stp L F1 H1 F2 H2 ∧ Ok L D2 F2 H2 ∧ v = .bl b) (fun v F2 H2 t2 k2 h2 => ⟨F2, t2, k2, dp_bl h2⟩) pins _ I2)) (fun _ _ z => z) fun _ _ z => z.2) fun u s2 ⟨h2, v2, H2, I3, r2, F2, t2, k2, ev⟩ => ?_)
    subst ev
    cases r2
    refine Calls.spliced_nil ?_
    refine ⟨I3.kIn, wpAny_call (codeAny_mono (R.run X.A X.stack s2 H2 _ x ya yb tx s1.toks (s1.toks + 1) b Q E0 hr I3.env0 (pad_nil hb I3.kIn (by rw [hps]; rfl)) hx (by show s1.toks ≠ 0; omega) (by show s1.toks + 1 ≠ 0; omega) (by show s1.toks < s2.toks; omega) (by show s1.toks + 1 < s2.toks; omega) n1 n2 n3 n4 (q _ F2 H2 (t1.trans t2) k2 (.str _))) fun r s' hq => ?_)⟩
    cases r with
    | error e => exact pass0 pins σ H2 _ e s' I3 hq
    | ok fl =>
      cases fl with
      | ret u => exact I3.after hq
      | next => exact False.elim hq
      | brk => exact False.elim hq
      | cont => exact False.elim hq
  · cases hf
end
end Den

end
-- DenFd
section
set_option Elab.async false
set_option linter.all false
set_option maxRecDepth 100000
set_option maxHeartbeats 1000000
namespace Den
open PySem PySem.Spec PyProof.Rows L2
variable [TB : Tabl]
/-! ### s.find(t, i), s.lstrip(t), more of tokens -/
section
variable {X : Cx} {a b c e e2 : Expr} {fa fb fc : FE} {p pos apos : Pos}
def lstripD (f g : FE) : FE := fun ρ D => (f ρ D).bind fun x => (asS x.1).bind fun s => (g ρ x.2).bind fun y => (asS y.1).bind fun t => if s.length ≤ 1000000 then some (.str (Txt.lstripChars s t), y.2) else none
theorem de_lstrip (ha : DE X a fa) (hb : DE X e fb) (hbase : attributeBase a "lstrip" X.env (eval a X.env) = eval a X.env := by rfl)
    (hfew : ((backTo pos (starEach [e] X.env)).all (fun x => !x.1) && (backToKw pos (keywordEach [] X.env)).all (fun x => x.1.isSome)
      && decide ([e].length + ([] : List Keyword).length + (if ([] : List Keyword).isEmpty then 0 else 1) < 30)) = true := by rfl)
    (hline : (apos.endLine == pos.line) = true := by rfl) (hs : starEach [e] X.env = (false, eval e X.env) :: starEach [] X.env := by rfl) (hplain : (backTo pos (starEach [] X.env)).any (·.1) = false := by rfl) :
    DE X (.Call (.Attribute a "lstrip" apos) [e] [] pos) (lstripD fa fb) := by
  refine .mk ?_
  intro L F0 H0 ρ D σ F H z D' r hf Q q
  obtain ⟨⟨x, D1⟩, e1, hf⟩ := bind_split hf
  obtain ⟨s, e2, hf⟩ := bind_split hf
  obtain ⟨⟨y, D2⟩, e3, hf⟩ := bind_split hf
  obtain ⟨t, e4, hf⟩ := bind_split hf
  split at hf
  · rename_i hc
    cases hf
    have e5 := asS_some e2
    have e6 := asS_some e4
    dsimp only at e5 e6
    subst e5 e6
    refine PEw (pe_bm PySem.F.plainAttrs_str PySem.F.slot_str_lstrip PySem.F.type_str_lstrip mt_lstripChars pe_w (pa_cons pe_w pa_nil hs) hbase hfew hline hs hplain) (ha.run L F0 H0 ρ D σ F H _ _ r e1 _ fun v F1 H1 t1 k1 hv => ?_)
    rw [dp_str hv]
    refine ⟨rfl, hb.run L F0 H0 ρ D1 σ F1 H1 _ _ (r.step t1 k1) e3 _ fun u F2 H2 t2 k2 hu => ?_⟩
    exact ⟨s, t, rfl, by rw [dp_str hu], Nat.le_trans hc (by decide), q _ F2 H2 (t1.trans t2) k2 (.str _)⟩
  · cases hf
def findD (f g h : FE) : FE := fun ρ D => (f ρ D).bind fun x => (asS x.1).bind fun s => (g ρ x.2).bind fun y => (asS y.1).bind fun t => (h ρ y.2).bind fun z => (asI z.1).map fun i => (.int (Txt.find3 s t i), z.2)
theorem de_find3 (ha : DE X a fa) (hb : DE X e fb) (hcc : DE X e2 fc) (hbase : attributeBase a "find" X.env (eval a X.env) = eval a X.env := by rfl)
    (hfew : ((backTo pos (starEach [e, e2] X.env)).all (fun x => !x.1) && (backToKw pos (keywordEach [] X.env)).all (fun x => x.1.isSome)
      && decide ([e, e2].length + ([] : List Keyword).length + (if ([] : List Keyword).isEmpty then 0 else 1) < 30)) = true := by rfl)
    (hline : (apos.endLine == pos.line) = true := by rfl) (hs : starEach [e, e2] X.env = (false, eval e X.env) :: starEach [e2] X.env := by rfl) (hs2 : starEach [e2] X.env = (false, eval e2 X.env) :: starEach [] X.env := by rfl) (hplain : (backTo pos (starEach [e2] X.env)).any (·.1) = false := by rfl) :
    DE X (.Call (.Attribute a "find" apos) [e, e2] [] pos) (findD fa fb fc) := by
  refine .mk ?_
  intro L F0 H0 ρ D σ F H z D' r hf Q q
  obtain ⟨⟨x, D1⟩, e1, hf⟩ := bind_split hf
  obtain ⟨s, e2, hf⟩ := bind_split hf
  obtain ⟨⟨y, D2⟩, e3, hf⟩ := bind_split hf
  obtain ⟨t, e4, hf⟩ := bind_split hf
  obtain ⟨⟨j, D3⟩, e5, hf⟩ := bind_split hf
  obtain ⟨i, e6, hf⟩ := map_split hf
  cases hf
  have e7 := asS_some e2
  have e8 := asS_some e4
  have e9 := asI_some e6
  dsimp only at e7 e8 e9
  subst e7 e8 e9
  refine PEw (pe_bm PySem.F.plainAttrs_str PySem.F.slot_str_find PySem.F.type_str_find mt_find3 pe_w (pa_cons pe_w (pa_cons pe_w pa_nil hs2) hs) hbase hfew hline hs hplain) (ha.run L F0 H0 ρ D σ F H _ _ r e1 _ fun v F1 H1 t1 k1 hv => ?_)
  rw [dp_str hv]
  refine ⟨rfl, hb.run L F0 H0 ρ D1 σ F1 H1 _ _ (r.step t1 k1) e3 _ fun u F2 H2 t2 k2 hu => ?_⟩
  refine hcc.run L F0 H0 ρ D2 σ F2 H2 _ _ (r.step (t1.trans t2) k2) e5 _ fun u2 F3 H3 t3 k3 hu2 => ?_
  exact ⟨s, t, i, rfl, by rw [dp_str hu, dp_int hu2], q _ F3 H3 ((t1.trans t2).trans t3) k3 (.int _)⟩
/-- (a, b), where a puts a token out -/
theorem dek_tup2 {k} (ha : DEK X a fa) (hb : DE X b fb) (s1 : starEach [a, b] X.env = (false, eval a X.env) :: starEach [b] X.env := by rfl) (s2 : starEach [b] X.env = (false, eval b X.env) :: starEach [] X.env := by rfl) :
    DEK X (.Tuple [a, b] k pos) (tupD (argD fa (argD fb argN))) := .mk fun L F0 H0 ρ D σ F H z D' r hf Q q pins s I => by
  obtain ⟨⟨as, D1⟩, e1, hf⟩ := bind_split hf
  obtain ⟨ds, e2, hf⟩ := bind_split hf
  obtain ⟨⟨x, D2⟩, e3, e1⟩ := bind_split e1
  obtain ⟨⟨rs, D3⟩, e4, e1⟩ := map_split e1
  obtain ⟨⟨y, D4⟩, e5, e4⟩ := bind_split e4
  obtain ⟨⟨rs2, D5⟩, e6, e4⟩ := map_split e4
  cases e6
  cases e4
  cases e1
  split at hf
  · rename_i hc
    cases hf
    cases e2
    refine PySem.wpAny_Tuple_spliced ?_
    rw [s1, s2]
    show wpAny _ _ (spliced ((false, eval a X.env) :: (false, eval b X.env) :: backTo pos (starEach [] X.env))) _ _ s
    refine Calls.spliced_cons (thn (ha.run L F0 H0 ρ D σ F H _ _ r e3 (fun v H1 => ∃ F1, Stp L F H F1 H1 ∧ Ok L D2 F1 H1 ∧ Dp X.K F1 v x) (fun v F1 H1 t1 k1 hv => ⟨F1, t1, k1, hv⟩) pins s I) fun u s1 ⟨h1, v1, H1, I1, r1, F1, t1, k1, hv⟩ => ?_)
    refine Calls.spliced_cons (thn (toks_le h1 (hb.run L F0 H0 ρ D2 σ F1 H1 _ _ (r.step t1 k1) e5 (fun v H2 => ∃ F2, Stp L F1 H1 F2 H2 ∧ Ok L D4 F2 H2 ∧ Dp X.K F2 v y) (fun v F2 H2 t2 k2 hv => ⟨F2, t2, k2, hv⟩) pins s1 I1)) fun u2 s2 ⟨h2, v2, H2, I2, r2, F2, t2, k2, hv2⟩ => ?_)
    refine Calls.spliced_nil ⟨by show (2 : Nat) ≤ sizeLine; decide, h2, ?_⟩
    have hf : H2 s2.heap.objs.size = none := I2.hok.fresh (Nat.le_refl _)
    have rr : Vals [v1, v2] [u, u2] := .cons r1 (.cons r2 .nil)
    refine ⟨.ref s2.heap.objs.size, upd H2 s2.heap.objs.size (.tup [v1, v2]), I2.laid (t' := s2.toks) (fun b u e => Heap.get?_push_of_some _ e) (Nat.le_refl _) ?_, rfl, ?_⟩
    · exact ⟨by show (2 : Nat) ≤ sizeLine; decide, [u, u2], rr, ⟨_, Heap.get?_push_size _ rfl, rfl, _, rfl⟩⟩
    · refine q _ _ _ ((t1.trans t2).trans (Stp.laid k2.sub hf)) (k2.laid hf) (.tup (.inl (.inl upd_same)) (dpa_mono (Ex.new (k2.sub.back hf)) (.cons (dp_mono t2.ex hv) (.cons hv2 .nil))))
  · cases hf
/-- [a, b, ..] etc. go on -/
theorem asgT_nx {f : FE} {tf : PyData → Env → Option Env} {ρ : Env} {D : Dw} {o : Out} (h : asgT f tf ρ D = some o) : ∃ ρ1 D1, o = .nx ρ1 D1 := by
  obtain ⟨⟨y, D1⟩, e1, h⟩ := bind_split h
  obtain ⟨ρ', e2, h⟩ := map_split h
  exact ⟨_, _, h.symm⟩
theorem dropS_nx {f : FE} {ρ : Env} {D : Dw} {o : Out} (h : dropS f ρ D = some o) : ∃ ρ1 D1, o = .nx ρ1 D1 := by
  obtain ⟨⟨y, D1⟩, e1, h⟩ := map_split h
  exact ⟨_, _, h.symm⟩
theorem asgS_nx {i : Nat} {f : FE} {ρ : Env} {D : Dw} {o : Out} (h : asgS i f ρ D = some o) : ∃ ρ1 D1, o = .nx ρ1 D1 := by
  obtain ⟨⟨y, D1⟩, e1, h⟩ := map_split h
  exact ⟨_, _, h.symm⟩
end
theorem FnK.ok {P : Program} {w : World} {K : PySem.W.Frag} {mg : Str → Option Value} {base : Heap} {k : Nat} {f : Addr} {fd : FuncData} {ps : List Str} {n : Nat} {φ : Fn} (h : FnK P w K mg base k f fd ps n φ) (hl : ps.length = n := by rfl) : FnOk P w K mg base CX0 k f fd ps (spOf K n φ) :=
  ⟨fun vs H Q E ⟨L, D, F', as, y, D', hn, _⟩ => hn.trans hl.symm, fun A outer s H args us vs Q E hr e0 hb r hsp => codeAny_mono (h.run A outer s H args us vs Q E hr e0 hb r hsp) fun _ _ z => z.2⟩
end Den

end
-- DenLa
section
set_option Elab.async false
set_option linter.all false
set_option maxRecDepth 100000
set_option maxHeartbeats 4000000
namespace Den
open PySem PySem.Spec PyProof.Rows L2
/-! ### [e for .. in .. for .. in ..]: any number of clauses -/
def nE : Value → Shared → Prop := fun _ _ => False
/-- what is done with an item: the new list, the state, what is to hold behind it -/
abbrev BdT := Value → Shared → (Shared → Prop) → Prop
abbrev tstsOf (ifs : List Expr) (env : PySem.Env) : Sem Bool := forIn ifs true fun q b => if b = true then do let b' ← isTrue q env (eval q env); pure (ForInStep.yield b') else pure (ForInStep.yield b)
def LoopR (prog : Program) (w : World) (A : Around) (comp : Expr) (k : Nat) (tg : Expr) (ifs : List Expr) (env : PySem.Env) (B : BdT) : Prop :=
  ∀ (to it : Value) (R : Result → Shared → Prop) (J : Nat → Shared → Prop),
    (∀ j t0, J j t0 → wpAny (model prog w) A (pyNext it) (fun got t1 => match got with
      | none => R (.ok .next) t1
      | some z => wpAny (model prog w) A (letOwnedTupleGo tg it z) (fun _ t2 => wpAny (model prog w) A (assign tg env z) (fun _ t3 => wpAny (model prog w) A (tstsOf ifs env) (fun b t4 =>
          if b = true then B to t4 (fun t5 => ∃ m, m < j ∧ J m t5) else ∃ m, m < j ∧ J m t4) nE t3) nE t2) nE t1) nE t0) →
    ∀ j t0, J j t0 → codeAny (model prog w) A (.compLoop comp k it to env) R t0
section
variable {prog : Program} {w : World} {A : Around} {gens : List Comprehension} {scope : Scope} {cpos : Pos} {comp elt tg i0 i1 : Expr} {ifs : List Expr} {k : Nat} {env : PySem.Env}
def turnI (comp elt tg i0 : Expr) (ifs : List Expr) (k : Nat) (env : PySem.Env) (it to : Value) : Sem Fin := do
  standAt i0.pos
  match ← pyNext it with
  | none => pure (.done .next)
  | some z =>
    letOwnedTupleGo tg it z
    assign tg env z
    let mut good := true
    for q in ifs do
      if good then good ← isTrue q env (eval q env)
    if good then
      (do let _ ← call (.builtin "list.append") [to, ← eval elt env])
    again (.compLoop comp k it to env)
def turnO (comp tg i0 i1 : Expr) (ifs : List Expr) (k : Nat) (env : PySem.Env) (it to : Value) : Sem Fin := do
  standAt i0.pos
  match ← pyNext it with
  | none => pure (.done .next)
  | some z =>
    letOwnedTupleGo tg it z
    assign tg env z
    let mut good := true
    for q in ifs do
      if good then good ← isTrue q env (eval q env)
    if good then
      let y ← eval i1 env
      standAt i1.pos
      let y ← foldedSetIterable i1 env y
      let _ ← runOwn (.compStart comp (k + 1) (← holding [y] (pyIter y)) to env) env
    again (.compLoop comp k it to env)
/-- the last clause: the element, behind the list -/
def bdI (prog : Program) (w : World) (A : Around) (elt : Expr) (env : PySem.Env) : BdT := fun to t P => wpAny (model prog w) A (eval elt env) (fun y t1 => wpAny (model prog w) A (call (.builtin "list.append") [to, y]) (fun _ t2 => P t2) nE t1) nE t
/-- another one: the next one's walk -/
def bdO (prog : Program) (w : World) (A : Around) (comp i1 : Expr) (k : Nat) (env : PySem.Env) : BdT := fun to t P => wpAny (model prog w) A (eval i1 env) (fun y t1 => wpAny (model prog w) A (pyIter y) (fun it1 t2 =>
  codeAny (model prog w) A (.compStart comp (k + 1) it1 to env) (fun res t3 => match res with
    | .ok _ => P t3
    | .error _ => False) t2) nE t1) nE t
theorem loopR_in (hT : ∀ it to, compTurn (.ListComp elt gens scope cpos) k it to env = turnI (.ListComp elt gens scope cpos) elt tg i0 ifs k env it to) : LoopR prog w A (.ListComp elt gens scope cpos) k tg ifs env (bdI prog w A elt env) := fun to it R J turn j0 t00 h0 => by
  refine codeAny_loop rfl J (fun j t0 hJ => ?_) j0 h0
  show wpAny _ A ((compTurn (.ListComp elt gens scope cpos) k it to env).onRaise (fun u => do noteFrame u env; theTreesLotGoes u)) _ _ t0
  refine wpAny_noted ?_
  rw [hT]
  unfold turnI
  refine wpAny_bind (wpAny_standAt (wpAny_bind (wpAny_mono (turn j t0 hJ) (fun got t1 h1 => ?_) fun _ _ z => False.elim z)))
  cases got with
  | none => exact wpAny_pure h1
  | some v =>
    refine wpAny_bind (wpAny_mono h1 (fun _ t2 h2 => ?_) fun _ _ z => False.elim z)
    refine wpAny_bind (wpAny_mono h2 (fun _ t3 h3 => wpAny_bind (wpAny_mono h3 (fun b t4 h4 => ?_) fun _ _ z => False.elim z)) fun _ _ z => False.elim z)
    cases b with
    | false => exact wpAny_pure ⟨rfl, h4⟩
    | true =>
      exact wpAny_bind (wpAny_bind (wpAny_mono h4 (fun y t5 h5 => wpAny_bind (wpAny_mono h5 (fun _ t6 h6 => wpAny_pure (wpAny_pure ⟨rfl, h6⟩)) fun _ _ z => False.elim z)) fun _ _ z => False.elim z))
theorem loopR_out (hs : ∀ y, foldedSetIterable i1 env y = pure y) (hT : ∀ it to, compTurn (.ListComp elt gens scope cpos) k it to env = turnO (.ListComp elt gens scope cpos) tg i0 i1 ifs k env it to) : LoopR prog w A (.ListComp elt gens scope cpos) k tg ifs env (bdO prog w A (.ListComp elt gens scope cpos) i1 k env) := fun to it R J turn j0 t00 h0 => by
  refine codeAny_loop rfl J (fun j t0 hJ => ?_) j0 h0
  show wpAny _ A ((compTurn (.ListComp elt gens scope cpos) k it to env).onRaise (fun u => do noteFrame u env; theTreesLotGoes u)) _ _ t0
  refine wpAny_noted ?_
  rw [hT]
  unfold turnO
  refine wpAny_bind (wpAny_standAt (wpAny_bind (wpAny_mono (turn j t0 hJ) (fun got t1 h1 => ?_) fun _ _ z => False.elim z)))
  cases got with
  | none => exact wpAny_pure h1
  | some v =>
    refine wpAny_bind (wpAny_mono h1 (fun _ t2 h2 => ?_) fun _ _ z => False.elim z)
    refine wpAny_bind (wpAny_mono h2 (fun _ t3 h3 => wpAny_bind (wpAny_mono h3 (fun b t4 h4 => ?_) fun _ _ z => False.elim z)) fun _ _ z => False.elim z)
    cases b with
    | false => exact wpAny_pure ⟨rfl, h4⟩
    | true =>
      refine wpAny_bind (wpAny_mono h4 (fun y t5 h5 => ?_) fun _ _ z => False.elim z)
      refine wpAny_bind (wpAny_standAt (wpAny_bind (wpAny_of_eq (hs y) (wpAny_bind (wpAny_holding (wpAny_mono h5 (fun it1 t6 h6 => ?_) fun _ _ z => False.elim z))))))
      refine wpAny_bind (wpAny_runOwn ?_)
      rw [Around.mark_none]
      refine codeAny_mono h6 fun res t7 hres => ?_
      cases res with
      | ok f =>
        first
          | exact wpAny_pure ⟨rfl, hres⟩
          | exact wpAny_bind (wpAny_pure (wpAny_pure ⟨rfl, hres⟩))
      | error e => exact hres.elim
/-- a clause's start -/
theorem compStartK {it to : Value} {R : Result → Shared → Prop} {t : Shared} {g : Comprehension} (hg : (gens)[k]? = some g) (ha : g.is_async = 0) (h0 : codeAny (model prog w) A (.compLoop (.ListComp elt gens scope cpos) k it to env) R t)
    (h : wpAny (model prog w) A (pyIter it) (fun it' t' => codeAny (model prog w) A (.compLoop (.ListComp elt gens scope cpos) k it' to env) R t') (notedBy (model prog w) A env fun u t' => R (.error u) t') t) :
    codeAny (model prog w) A (.compStart (.ListComp elt gens scope cpos) k it to env) R t := by
  refine codeAny_of_tree ?_
  show wpAny _ _ ((compStart (.ListComp elt gens scope cpos) k it to env).onRaise (fun u => do noteFrame u env; standAt theWindowsPlace)) _ _ t
  refine wpAny_notedAt ?_
  unfold compStart
  rw [show clausesOf (.ListComp elt gens scope cpos) = gens from rfl, hg]
  have ea : (Option.elim (some g) false fun z => z.is_async != 0) = false := by rw [Option.elim_some, ha]; rfl
  rw [ea]
  show wpAny _ _ (ask >>= _) _ _ t
  refine wpAny_bind (wpAny_askSetting (wpAny_ite ?_))
  split
  · first
      | exact wpAny_bind (wpAny_pure (wpAny_pure (And.intro rfl h0)))
      | exact wpAny_pure (And.intro rfl h0)
  · first
      | exact wpAny_bind (wpAny_rule (wpAny_bind (wpAny_standAt (wpAny_bind (wpAny_mono h (fun it' t' z => wpAny_pure (And.intro rfl z)) fun _ _ z => z)))))
      | (refine wpAny_bind (wpAny_rule ?_); show wpAny _ _ (standAt g.iter.pos >>= _) _ _ t; exact wpAny_bind (wpAny_standAt (wpAny_bind (wpAny_mono h (fun it' t' z => wpAny_pure (And.intro rfl z)) fun _ _ z => z))))
end
theorem turn_last {gens : List Comprehension} {k : Nat} {tg i0 elt : Expr} {ifs : List Expr} {scope : Scope} {cpos : Pos} {env : PySem.Env} {it to : Value} (h : gens[k]? = some ⟨tg, i0, ifs, 0⟩) (h2 : gens[k+1]? = none) :
    compTurn (.ListComp elt gens scope cpos) k it to env = turnI (.ListComp elt gens scope cpos) elt tg i0 ifs k env it to := by
  unfold compTurn turnI
  simp only [h, h2]
  rfl
theorem turn_more {gens : List Comprehension} {k : Nat} {tg i0 elt tg1 i1 : Expr} {ifs ifs1 : List Expr} {scope : Scope} {cpos : Pos} {env : PySem.Env} {it to : Value} (h : gens[k]? = some ⟨tg, i0, ifs, 0⟩) (h2 : gens[k+1]? = some ⟨tg1, i1, ifs1, 0⟩) :
    compTurn (.ListComp elt gens scope cpos) k it to env = turnO (.ListComp elt gens scope cpos) tg i0 i1 ifs k env it to := by
  unfold compTurn turnO
  simp only [h, h2]
  rfl
end Den

end
-- DenLb
section
set_option Elab.async false
set_option linter.all false
set_option maxRecDepth 100000
set_option maxHeartbeats 4000000
namespace Den
open PySem PySem.Spec PyProof.Rows L2
/-- from the slots and the heap, the list at this place, to what is reached -/
abbrev TIn := L2.St → Hp → Addr → (Hp → Prop) → Prop
structure Bd (Y : Cx) (B : BdT) (vs : List Nat) (t : TIn) : Prop where
  run : ∀ (ps : List (Addr × Obj)) (t0 : Shared) (σ : L2.St) (H : Hp) (D : Addr) (Nx : Hp → Prop) (P : Shared → Prop), Inv Y ps σ H t0 → t σ H D Nx → (∀ t1 H1, Inv Y ps (wipe σ vs) H1 t1 → Nx H1 → P t1) → B (.ref D) t0 P
def tLast (te : TE) : TIn := fun σ H D Nx => te σ H fun y H1 => ∃ got, H1 D = some (.lst got) ∧ got.length < sizeLine ∧ Nx (upd H1 D (.lst (got ++ [y])))
def tCl (wi : TI) (g : TG) (tt : TT) (t : TIn) (V : List Nat) : TIn := fun σ H D Nx => wi σ H fun J H1 => ∃ W : Nat → Nat → Hp → Prop, (∃ m, W 0 m H1) ∧ ∀ i m H2, W i m H2 →
  (J.stop i H2 ∧ Nx H2) ∨ (J.go i H2 ∧ ∃ N1 : Hp → Prop, (∀ H3, N1 H3 → ∃ m1, m1 < m ∧ W (i + 1) m1 H3) ∧ ∀ x H3, J.yld i H2 x H3 → g x (wipe σ V) H3 fun σ4 H4 => wipe σ4 V = wipe σ V ∧ tt σ4 H4 fun b H5 =>
    if b = true then t σ4 H5 D N1 else N1 H5)
def tLcN (wi : TI) (g : TG) (tt : TT) (t : TIn) (V : List Nat) : TE := fun σ H Q => wi σ H fun J H1 => ∀ D, H1 D = none → ∃ W : Nat → Nat → Hp → Prop, (∃ m, W 0 m (upd H1 D (.lst []))) ∧ ∀ i m H2, W i m H2 →
  (J.stop i H2 ∧ Q (.ref D) H2) ∨ (J.go i H2 ∧ ∃ N1 : Hp → Prop, (∀ H3, N1 H3 → ∃ m1, m1 < m ∧ W (i + 1) m1 H3) ∧ ∀ x H3, J.yld i H2 x H3 → g x (wipe σ V) H3 fun σ4 H4 => wipe σ4 V = wipe σ V ∧ tt σ4 H4 fun b H5 =>
    if b = true then t σ4 H5 D N1 else N1 H5)
theorem thnY {α : Type} {t : Sem α} {Q Q' : α → Shared → Prop} {M : Model} {A : Around} {E : Value → Shared → Prop} {s : Shared} (hE : E = fun _ _ => False) (h : wpAny M A t Q E s) (hQ : ∀ a s1, Q a s1 → Q' a s1) : wpAny M A t Q' nE s := by
  subst hE
  exact wpAny_mono h hQ fun _ _ z => z
theorem thnN {α : Type} {t : Sem α} {Q Q' : α → Shared → Prop} {M : Model} {A : Around} {s : Shared} (h : wpAny M A t Q (fun _ _ => False) s) (hQ : ∀ a s1, Q a s1 → Q' a s1) : wpAny M A t Q' nE s := wpAny_mono h hQ fun _ _ z => z
section
variable {Y : Cx} {elt tg i1 : Expr} {ifs : List Expr} {gens : List Comprehension} {scope : Scope} {cpos : Pos} {k : Nat}
theorem bd_last {te : TE} (hx : Y.xe = fun _ _ => False) (pe : PE Y elt te) : Bd Y (bdI Y.prog Y.w Y.A elt Y.env) [] (tLast te) := ⟨fun ps t0 σ H D Nx P I h fin => by
  refine thnY hx (pe.run ps t0 σ H _ I h) fun y t1 ⟨v, H1, I1, r1, got, hD, hz, nx⟩ => ?_
  exact app_ok I1 hD hz r1 fun t2 I2 => fin t2 _ I2 nx⟩
theorem bd_clause {wi : TI} {g : TG} {tt : TT} {t : TIn} {vs V : List Nat} {B : BdT} {gc : Comprehension} (hx : Y.xe = fun _ _ => False) (hc : Y.calm = true) (hgc : gens[k + 1]? = some gc) (hga : gc.is_async = 0)
    (hL : LoopR Y.prog Y.w Y.A (.ListComp elt gens scope cpos) (k + 1) tg ifs Y.env B) (hb : Bd Y B vs t) (hi : PI Y tg i1 wi) (hg : PG Y tg g) (ht : PTs Y ifs tt) (hv : ∀ i ∈ vs, i ∈ V) :
    Bd Y (bdO Y.prog Y.w Y.A (.ListComp elt gens scope cpos) i1 k Y.env) V (tCl wi g tt t V) := ⟨fun ps t0 σ H D Nx P I h fin => by
  refine thnY hx (hi.run ps t0 σ H _ I h) fun xv t1 hxv => thnY hx hxv fun itv t2 h2 => ?_
  obtain ⟨it, fp, tn, J, H2, rfl, I2, T, st2, f2, W, ⟨m0, w0⟩, turn⟩ := h2
  have still : ∀ {H' : Hp}, (∀ b ∈ fp, H' b = none) → ∀ b ∈ fp, FpOk Y ps H' b := fun hn b hb => ⟨hn b hb, (f2 b hb).2⟩
  have loop : codeAny (model Y.prog Y.w) Y.A (.compLoop (.ListComp elt gens scope cpos) (k + 1) (.ref it) (.ref D) Y.env) (fun res t' => match res with
      | .ok _ => P t'
      | .error _ => False) t2 := by
    refine hL (.ref D) (.ref it) _ (fun q t' => ∃ i H', Inv Y ps (wipe σ V) H' t' ∧ tn i t'.heap ∧ (∀ b ∈ fp, H' b = none) ∧ W i q H') ?_ m0 t2 ⟨0, H2, I2.weak (wipe_length _ _) (fun j v e => (wipe_some e).1), st2, fun b hb => (f2 b hb).1, w0⟩
    rintro q t3 ⟨i, H3, I3, st3, n3, w3⟩
    rcases turn i q H3 w3 with ⟨stop, nx⟩ | ⟨go, N1, hN1, step⟩
    · refine thnN (T.done Y rfl rfl rfl hc i _ t3 (wipe σ V) H3 (fun _ _ => False) I3 (still n3) st3 stop) fun res t4 ⟨hr, I4⟩ => ?_
      subst hr
      exact fin t4 H3 I4 nx
    · refine thnN (T.item Y rfl rfl rfl hc i _ t3 (wipe σ V) H3 (fun _ _ => False) I3 (still n3) st3 go) fun res t4 ⟨u, hr, h4⟩ => ?_
      subst hr
      refine thnN h4 fun _ t5 ⟨x, H5, I5, r5, y5, st5, n5⟩ => ?_
      have I5' := I5.pinned (still n5) (T.obj _ _ st5)
      refine thnY hx (hg.run _ t5 (wipe σ V) H5 x u _ I5' r5 (step x H5 y5)) fun _ t6 ⟨σ6, H6, I6, hw6, q6⟩ => ?_
      refine thnY hx (ht.run _ t6 σ6 H6 _ I6 q6) fun b t7 ⟨H7, I7, q7⟩ => ?_
      have back : ∀ {σ9 : L2.St} {t' : Shared} {H' : Hp}, Inv Y (ps ++ pinsAt fp t5.heap) σ9 H' t' → (wipe σ V).length = σ9.length → (∀ (j : Nat) v, (wipe σ V)[j]? = some (some v) → σ9[j]? = some (some v)) → N1 H' →
          ∃ m, m < q ∧ ∃ i H', Inv Y ps (wipe σ V) H' t' ∧ tn i t'.heap ∧ (∀ b ∈ fp, H' b = none) ∧ W i m H' := fun {σ9 t' H'} I' hl hk nx => by
        obtain ⟨m', hm, w'⟩ := hN1 H' nx
        have pin' : ∀ b ∈ fp, ∀ o, t5.heap.get? b = some o → t'.heap.get? b = some o ∧ H' b = none := fun b hb o e =>
          let z := I'.pin (b, o) (List.mem_append_right _ (List.mem_append_right _ (mem_pinsAt hb e)))
          ⟨z.1, z.2.1⟩
        refine ⟨m', hm, i + 1, H', I'.unpinned.weak hl hk, T.keep _ _ _ st5 fun b hb o e => (pin' b hb o e).1, fun b hb => ?_, w'⟩
        obtain ⟨o, e, _⟩ := T.obj _ _ st5 b hb
        exact (pin' b hb o e).2
      have l6 : (wipe σ V).length = σ6.length := by rw [← hw6, wipe_length]
      have k6 : ∀ (j : Nat) v, (wipe σ V)[j]? = some (some v) → σ6[j]? = some (some v) := fun j v e => by
        rw [← hw6] at e
        exact (wipe_some e).1
      have k7 : ∀ (j : Nat) v, (wipe σ V)[j]? = some (some v) → (wipe σ6 vs)[j]? = some (some v) := fun j v e => by
        rw [← hw6] at e
        obtain ⟨e1, e2⟩ := wipe_some e
        rw [wipe_out fun z => e2 (hv j z)]
        exact e1
      cases b with
      | false =>
        simp only [Bool.false_eq_true, if_false] at q7 ⊢
        exact back I7 l6 k6 q7
      | true =>
        simp only [if_true] at q7 ⊢
        exact hb.run _ t7 σ6 H7 D N1 _ I7 q7 fun t8 H8 I8 nx => back I8 (l6.trans (wipe_length σ6 vs).symm) k7 nx
  exact compStartK hgc hga loop (T.self Y.A 0 _ _ _ st2 loop)⟩
end
section
variable {X : Cx}
theorem lcN_core {ps : List (Addr × Obj)} {t0 : Shared} {σ : L2.St} {H : Hp} {Q : VK} {elt tg iter : Expr} {ifs : List Expr} {gs : List Comprehension} {scope : Scope} {own : List (Str × Nat)} {vs : List Nat} {pos pos' : Pos} {wi : TI} {g : TG} {tt : TT} {t : TIn} {Bf : PySem.Env → BdT} {use : Option (Value → Sem Unit)} {Qf : Value → Shared → Prop}
    (hc : X.calm = true) (hN : X.N.Nodup) (I : Inv X ps σ H t0) (hi : PI X tg iter wi) (ok : BlkOk X.N X.env.scope scope own) (hv : ∀ i ∈ vs, i ∈ own.map (·.2))
    (hg : ∀ (s : Shared) (H : Hp) (C : Addr) (cl : List (Str × Addr)) (fp : List Addr), PG (X.blk s H scope (compEnvC scope cl C X.env) fp) tg g) (ht : ∀ (s : Shared) (H : Hp) (C : Addr) (cl : List (Str × Addr)) (fp : List Addr), PTs (X.blk s H scope (compEnvC scope cl C X.env) fp) ifs tt)
    (hL : ∀ (C : Addr) (cl : List (Str × Addr)), LoopR X.prog X.w X.A (.ListComp elt (⟨tg, iter, ifs, 0⟩ :: gs) scope pos) 0 tg ifs (compEnvC scope cl C X.env) (Bf (compEnvC scope cl C X.env)))
    (hB : ∀ (s : Shared) (H : Hp) (C : Addr) (cl : List (Str × Addr)) (fp : List Addr), Bd (X.blk s H scope (compEnvC scope cl C X.env) fp) (Bf (compEnvC scope cl C X.env)) vs t) (hs : ∀ x, foldedSetIterable iter X.env x = pure x)
    (h : tLcN wi g tt t (own.map (·.2)) σ H Q)
    (hRR : ∀ D C t' m H', Inv X ps σ H' t' → Q (.ref D) H' → t'.heap.Ns C m → FpOk X ps H' C → compPost (model X.prog X.w) X.A X.xe use Qf (.ref D) C (.ok .next) t') :
    wpAny (model X.prog X.w) X.A (comprehension (.ListComp elt (⟨tg, iter, ifs, 0⟩ :: gs) scope pos) scope X.env pos' (newList []) false (eval iter X.env) use) Qf X.xe t0 := by
  have hfr : ∀ y ∈ scope.names, y.2 = .free → ∃ c, X.env.cells.lookup y.1 = some c := fun y hy e => by
    rcases ok.free y hy e with z | z
    · exact I.ok.has _ (.inl z)
    · exact I.ok.has _ (.inr z)
  refine wpAny_comprehension_free (use := use) rfl hs (closure_ok hfr) ok.kind (fun y hy e => by rw [ok.uniq y hy, e])
    (thn (hi.run ps t0 σ H _ I h) fun xv t1 hxv => thn hxv fun itv t2 h2 => ?_)
  obtain ⟨it, fp, tn, J, H2, rfl, I2, T, st2, f2, q⟩ := h2
  refine wpAny_newObj_type (newEnv_comp ?_) (by show 0 ≤ sizeLine; decide)
  generalize eD : t2.heap.objs.size = D
  have nD : H2 D = none := I2.hok.fresh (Nat.le_of_eq eD)
  obtain ⟨W, ⟨m0, w0⟩, turn⟩ := q D nD
  generalize e3 : ({ t2 with heap := t2.heap.push { cls := .type "list", data := .seq ([] : List Value).toArray } } : Shared) = t3
  have I3 : Inv X ps σ (upd H2 D (.lst [])) t3 := by
    rw [← e3]
    refine I2.laid (t' := t2.toks) (fun b o z => Heap.get?_push_of_some _ z) (Nat.le_of_eq eD) ⟨Nat.zero_le _, [], 0, .nil, ?_⟩
    rw [← eD]
    exact Heap.get?_push_size _ rfl
  have p3 : t3.heap = t2.heap.push { cls := .type "list", data := .seq ([] : List Value).toArray } := by rw [← e3]
  have lt : ∀ b ∈ fp, b < t2.heap.objs.size := fun b hb => by
    obtain ⟨o, e, _⟩ := T.obj _ _ st2 b hb
    exact Heap.lt_size e
  have f3 : ∀ b ∈ fp, FpOk X ps (upd H2 D (.lst [])) b ∧ b < t3.heap.objs.size := fun b hb => by
    have z := lt b hb
    refine ⟨⟨?_, (f2 b hb).2⟩, by rw [p3, Heap.size_push]; exact Nat.lt_succ_of_lt z⟩
    rw [upd_ne (by rw [← eD]; exact Nat.ne_of_lt z)]
    exact (f2 b hb).1
  have st3 : tn 0 t3.heap := T.keep _ _ _ st2 fun b _ o e => by rw [p3]; exact Heap.get?_push_of_some _ e
  have I4 := block_start I3 ok hN f3
  show codeAny _ _ (.compStart (.ListComp elt (⟨tg, iter, ifs, 0⟩ :: gs) scope pos) 0 (.ref it) (.ref D) (compEnvC scope (cellsFrom (t3.heap.objs.size + 1) scope.names (cloFrom X.env.cells scope.names [])) t3.heap.objs.size X.env)) (compPost (model X.prog X.w) X.A X.xe use Qf (.ref D) t3.heap.objs.size) { t3 with heap := pushCells (t3.heap.push { cls := .type "dict", data := .dict #[] }) scope.names }
  generalize ecl : cellsFrom (t3.heap.objs.size + 1) scope.names (cloFrom X.env.cells scope.names []) = cl at I4 ⊢
  have pg := hg t3 (upd H2 D (.lst [])) t3.heap.objs.size cl fp
  have pt := ht t3 (upd H2 D (.lst [])) t3.heap.objs.size cl fp
  have pb := hB t3 (upd H2 D (.lst [])) t3.heap.objs.size cl fp
  have pl := hL t3.heap.objs.size cl
  have nfp : ∀ b ∈ fp, (upd H2 D (.lst [])) b = none := fun b hb => (f3 b hb).1.1
  generalize ece : compEnvC scope cl t3.heap.objs.size X.env = ce at I4 pg pt pb pl ⊢
  have cL : ce.locals = t3.heap.objs.size := by subst ece; rfl
  generalize eH : upd H2 D (.lst []) = H3 at I3 I4 pg pt pb w0 nfp f3
  generalize e4 : ({ t3 with heap := pushCells (t3.heap.push { cls := .type "dict", data := .dict #[] }) scope.names } : Shared) = t4 at I4 ⊢
  have st4 : tn 0 t4.heap := T.keep _ _ _ st3 fun b _ o e => by rw [← e4]; exact pushCells_keeps _ _ _ _ (Heap.get?_push_of_some _ e)
  have still : ∀ {σ' : L2.St} {H' : Hp} {t' : Shared}, Inv (X.blk t3 H3 scope ce fp) [] σ' H' t' → (∀ b ∈ fp, H' b = none) → ∀ b ∈ fp, FpOk (X.blk t3 H3 scope ce fp) [] H' b := fun {σ' H' t'} I' hn b hb =>
    ⟨hn b hb, (I'.ok.exf b hb).1, I'.ok.exfs b hb, .inl hb, fun x c e => (I'.ok.exf b hb).2 x c e, fun p hp => absurd (show p ∈ ([] : List (Addr × Obj)) ++ [] from hp) (by simp)⟩
  have loop : codeAny (model X.prog X.w) X.A (.compLoop (.ListComp elt (⟨tg, iter, ifs, 0⟩ :: gs) scope pos) 0 (.ref it) (.ref D) ce) (compPost (model X.prog X.w) X.A X.xe use Qf (.ref D) t3.heap.objs.size) t4 := by
    refine pl (.ref D) (.ref it) _ (fun c t' => ∃ i H', Inv (X.blk t3 H3 scope ce fp) [] (wipe σ (own.map (·.2))) H' t' ∧ tn i t'.heap ∧ (∀ b ∈ fp, H' b = none) ∧ W i c H') ?_ m0 t4 ⟨0, H3, I4, st4, nfp, w0⟩
    rintro c t5 ⟨i, H5, I5, st5, n5, w5⟩
    rcases turn i c H5 w5 with ⟨stop, qq⟩ | ⟨go, N1, hN1, step⟩
    · refine thnN (T.done (X.blk t3 H3 scope ce fp) rfl rfl rfl hc i [] t5 _ H5 (fun _ _ => False) I5 (still I5 n5) st5 stop) fun res t6 ⟨hr, I6⟩ => ?_
      subst hr
      have I7 : Inv X ps σ H5 t6 := I3.call' (ch := fp) I6.os I6.base I6.hok I6.bare fun b hb => ⟨(f3 b hb).1.2.2.2.1, (f3 b hb).1.2.1, (f3 b hb).1.2.2.2.2.1, (f3 b hb).1.2.2.2.2.2⟩
      have nC : H5 t3.heap.objs.size = none := by
        have z : H5 ce.locals = none := I6.free
        rw [cL] at z
        exact z
      obtain ⟨m, hn, _⟩ := I6.loc
      replace hn : t6.heap.Ns ce.locals m := hn
      rw [cL] at hn
      exact hRR D t3.heap.objs.size t6 m H5 I7 qq hn (I3.fpOk (Nat.le_refl _) nC)
    · refine thnN (T.item (X.blk t3 H3 scope ce fp) rfl rfl rfl hc i [] t5 _ H5 (fun _ _ => False) I5 (still I5 n5) st5 go) fun res t6 ⟨u, hr, h6⟩ => ?_
      subst hr
      refine thnN h6 fun _ t7 ⟨x, H7, I7, r7, y7, st7, n7⟩ => ?_
      have I7' := I7.pinned (still I7 n7) (T.obj _ _ st7)
      refine thnN (pg.run _ t7 _ H7 x u _ I7' r7 (step x H7 y7)) fun _ t8 ⟨σ8, H8, I8, hw8, q8⟩ => ?_
      refine thnN (pt.run _ t8 σ8 H8 _ I8 q8) fun b t9 ⟨H9, I9, q9⟩ => ?_
      have back : ∀ {σ9 : L2.St} {t' : Shared} {H' : Hp}, Inv (X.blk t3 H3 scope ce fp) ([] ++ pinsAt fp t7.heap) σ9 H' t' → (wipe σ (own.map (·.2))).length = σ9.length → (∀ (j : Nat) v, (wipe σ (own.map (·.2)))[j]? = some (some v) → σ9[j]? = some (some v)) → N1 H' →
          ∃ m, m < c ∧ ∃ i H', Inv (X.blk t3 H3 scope ce fp) [] (wipe σ (own.map (·.2))) H' t' ∧ tn i t'.heap ∧ (∀ b ∈ fp, H' b = none) ∧ W i m H' := fun {σ9 t' H'} I' hl hk nx => by
        obtain ⟨m', hm, w'⟩ := hN1 H' nx
        have pin' : ∀ b ∈ fp, ∀ o, t7.heap.get? b = some o → t'.heap.get? b = some o ∧ H' b = none := fun b hb o e =>
          let z := I'.pin (b, o) (List.mem_append_right _ (List.mem_append_right _ (mem_pinsAt hb e)))
          ⟨z.1, z.2.1⟩
        refine ⟨m', hm, i + 1, H', (I'.unpinned (pins := [])).weak hl hk, T.keep _ _ _ st7 fun b hb o e => (pin' b hb o e).1, fun b hb => ?_, w'⟩
        obtain ⟨o, e, _⟩ := T.obj _ _ st7 b hb
        exact (pin' b hb o e).2
      have l8 : (wipe σ (own.map (·.2))).length = σ8.length := by rw [← hw8, wipe_length]
      have k8 : ∀ (j : Nat) v, (wipe σ (own.map (·.2)))[j]? = some (some v) → σ8[j]? = some (some v) := fun j v e => by
        rw [← hw8] at e
        exact (wipe_some e).1
      have k9 : ∀ (j : Nat) v, (wipe σ (own.map (·.2)))[j]? = some (some v) → (wipe σ8 vs)[j]? = some (some v) := fun j v e => by
        rw [← hw8] at e
        obtain ⟨e1, e2⟩ := wipe_some e
        rw [wipe_out fun z => e2 (hv j z)]
        exact e1
      cases b with
      | false =>
        simp only [Bool.false_eq_true, if_false] at q9 ⊢
        exact back I9 l8 k8 q9
      | true =>
        simp only [if_true] at q9 ⊢
        exact pb.run _ t9 σ8 H9 D N1 _ I9 q9 fun t' H' I' nx => back I' (l8.trans (wipe_length σ8 vs).symm) k9 nx
  exact codeAny_compStart_list loop (T.self X.A 0 _ _ _ st4 loop)
end
end Den

end
-- DenLc
section
set_option Elab.async false
set_option linter.all false
set_option maxRecDepth 100000
set_option maxHeartbeats 2000000
namespace Den
open PySem PySem.Spec PyProof.Rows L2
variable [TB : Tabl]
/-! ### steps that may change one list -/
structure Stq (L : Loc) (p : Addr) (F H F' H' : Hp) : Prop where
  ex : Ex F F'
  keep : ∀ a o, H a = some o → ¬ isD L a → a ≠ p → H' a = some o
  sep : ∀ a, H a ≠ none → F' a ≠ none → F a ≠ none
  low : ∀ a, H a ≠ none → H' a ≠ none
theorem Stp.q {L : Loc} {p : Addr} {F H F' H' : Hp} (t : Stp L F H F' H') : Stq L p F H F' H' := ⟨t.ex, fun a o h n _ => t.keep a o h n, t.sep, t.low⟩
theorem Stq.trans {L : Loc} {p : Addr} {F H F1 H1 F2 H2 : Hp} (a : Stq L p F H F1 H1) (b : Stq L p F1 H1 F2 H2) : Stq L p F H F2 H2 :=
  ⟨a.ex.trans b.ex, fun c o h d n => b.keep c o (a.keep c o h d n) d n, fun c h q => a.sep c h (b.sep c (a.low c h) q), fun c h => b.low c (a.low c h)⟩
theorem Stq.mut {L : Loc} {p : Addr} {o : HO} {F H : Hp} : Stq L p F H F (upd H p o) :=
  ⟨Ex.refl F, fun a u e _ n => by rw [upd_ne n]; exact e, fun _ _ h => h, fun a e => by
    by_cases h : a = p
    · rw [h, upd_same]; exact fun z => nomatch z
    · rw [upd_ne h]; exact e⟩
theorem Stq.stp {L : Loc} {p : Addr} {F1 H1 F H F' H' : Hp} (a : Stp L F1 H1 F H) (n : H1 p = none) (b : Stq L p F H F' H') : Stp L F1 H1 F' H' :=
  ⟨a.ex.trans b.ex, fun c o h d => b.keep c o (a.keep c o h d) d fun z => (by rw [z, n] at h; cases h), fun c h q => a.sep c h (b.sep c (a.low c h) q), fun c h => b.low c (a.low c h)⟩
theorem Stq.dat {L : Loc} {p a : Addr} {F H F' H' : Hp} (b : Stq L p F H F' H') (h : H a ≠ none) (n : F a = none) : F' a = none := by
  cases e : F' a with
  | none => rfl
  | some u => exact absurd n (b.sep a h (by rw [e]; exact fun z => nomatch z))
def Ne (ρ : Env) (σ : L2.St) (p : Addr) : Prop := ∀ (j : Nat) (ys : List PyData), ρ[j]? = some (some (.own ys)) → σ[j]? ≠ some (some (.ref p))
theorem Rep.stepq {K : PySem.W.Frag} {L : Loc} {p : Addr} {F0 H0 F H F' H' : Hp} {ρ : Env} {D D' : Dw} {σ : L2.St} (r : Rep K L F0 H0 ρ D σ F H) (t : Stq L p F H F' H') (k : Ok L D' F' H') (h0 : H0 p = none) (ne : Ne ρ σ p) : Rep K L F0 H0 ρ D' σ F' H' := by
  refine ⟨k, Stq.stp r.stp h0 t, r.len, fun i a e => ?_, r.inj⟩
  obtain ⟨o, h1, h2⟩ := r.slot i a e
  refine ⟨o, h1, ?_⟩
  match a, h2 with
  | .d x, ⟨v, e, q⟩ => exact ⟨v, e, dp_mono t.ex q⟩
  | .own xs, ⟨b, vs, e1, g0, gF, n, hp, q⟩ =>
    have nb : b ≠ p := fun z => ne i xs e (by rw [h1, e1, z])
    exact ⟨b, vs, e1, g0, t.dat (by rw [hp]; exact fun z => nomatch z) gF, n, t.keep b _ hp n nb, dpa_mono t.ex q⟩
  | .drw, h => exact h
  | .dct xs, ⟨b, vs, e, hp, q⟩ => exact ⟨b, vs, e, t.ex _ _ hp, q.mono t.ex⟩
  | .exc c, ⟨b, e, hp⟩ => exact ⟨b, e, t.ex _ _ hp⟩
/-! ### the clauses' meanings -/
abbrev FO := Env → Dw → Option (List PyData × Dw)
def lcLoop (fg : PyData → Env → Option Env) (ft : FT) (f : FO) (ρ : Env) : List PyData → Dw → Option (List PyData × Dw)
  | [], D => some ([], D)
  | x :: xs, D => (fg x ρ).bind fun ρ' => (ft ρ' D).bind fun t => if t.1 then (f ρ' t.2).bind fun y => (lcLoop fg ft f ρ xs y.2).map fun r => (y.1 ++ r.1, r.2) else lcLoop fg ft f ρ xs t.2
def lastF (fe : FE) : FO := fun ρ D => (fe ρ D).map fun r => ([r.1], r.2)
def clF (V : List Nat) (fi : FL) (fg : PyData → Env → Option Env) (ft : FT) (f : FO) : FO := fun ρ D => (fi ρ D).bind fun r => lcLoop fg ft f (wipeE ρ V) r.1 r.2
def lcN (V : List Nat) (fi : FL) (fg : PyData → Env → Option Env) (ft : FT) (f : FO) : FL := fun ρ D => (clF V fi fg ft f ρ D).bind fun o => if o.1.length ≤ 1000000 then some o else none
def OwnLe (fg : PyData → Env → Option Env) : Prop := ∀ d ρ ρ', fg d ρ = some ρ' → ∀ (j : Nat) (ys : List PyData), ρ'[j]? = some (some (.own ys)) → ρ[j]? = some (some (.own ys))
def OwnLes (fg : List PyData → Env → Option Env) : Prop := ∀ d ρ ρ', fg d ρ = some ρ' → ∀ (j : Nat) (ys : List PyData), ρ'[j]? = some (some (.own ys)) → ρ[j]? = some (some (.own ys))
theorem ownLe_name {i : Nat} : OwnLe (nameG i) := fun d ρ ρ' h j ys e => by
  cases h
  rcases set_cases e with ⟨_, e', _⟩ | ⟨_, e'⟩
  · cases e'
  · exact e'
theorem ownLes_nil : OwnLes nilG := fun d ρ ρ' h j ys e => by
  cases d with
  | nil => cases h; exact e
  | cons x xs => cases h
theorem ownLes_cons {ft : PyData → Env → Option Env} {fu : List PyData → Env → Option Env} (h1 : OwnLe ft) (h2 : OwnLes fu) : OwnLes (consG ft fu) := fun d ρ ρ' h j ys e => by
  cases d with
  | nil => cases h
  | cons x xs =>
    obtain ⟨ρ1, e1, h⟩ := bind_split (show (ft x ρ).bind (fu xs) = some ρ' from h)
    exact h1 _ _ _ e1 j ys (h2 _ _ _ h j ys e)
theorem ownLe_tup {n : Nat} {ft : List PyData → Env → Option Env} (h1 : OwnLes ft) : OwnLe (tupG n ft) := fun d ρ ρ' h j ys e => by
  cases d with
  | tuple xs =>
    unfold tupG at h
    dsimp only at h
    split at h
    · exact h1 _ _ _ h j ys e
    · cases h
  | _ => cases h
theorem wipeE_some {ρ : Env} {i : Nat} {x : AV} : ∀ {vs : List Nat}, (wipeE ρ vs)[i]? = some (some x) → ρ[i]? = some (some x) ∧ i ∉ vs
  | [], h => ⟨h, fun z => nomatch z⟩
  | v :: vs, h => by
    rcases set_cases (show ((wipeE ρ vs).set v none)[i]? = some (some x) from h) with ⟨_, e', _⟩ | ⟨hn, e'⟩
    · cases e'
    · obtain ⟨h1, h2⟩ := wipeE_some e'
      exact ⟨h1, fun z => (List.mem_cons.mp z).elim (fun z => hn z.symm) h2⟩
structure DBd (K : PySem.W.Frag) (t : TIn) (f : FO) : Prop where
  run : ∀ L F0 H0 ρ D σ F H D' out (p : Addr) vs xs (Nx : Hp → Prop), Rep K L F0 H0 ρ D σ F H → H0 p = none → F p = none → ¬ isD L p → H p = some (.lst vs) → DpAll K F vs xs → Ne ρ σ p → xs.length + out.length ≤ 1000000 → f ρ D = some (out, D') →
  (∀ F' H' vs', Stq L p F H F' H' → Ok L D' F' H' → H' p = some (.lst vs') → DpAll K F' vs' (xs ++ out) → Nx H') → t σ H p Nx
section
variable {X : Cx} {scope : Scope} {elt tg i1 : Expr} {fe : FE} {fi : FL} {fg : PyData → Env → Option Env} {ft : FT} {f : FO} {g : TG} {Ws : List Nat} {t : TIn}
theorem dbd_last (he : DAllE X scope elt fe) : DBd X.K (tLast (tAllE X scope elt)) (lastF fe) := .mk fun L F0 H0 ρ D σ F H D' out p vs xs Nx r h0 nF n1 hp ha ne hb hf fin => by
  obtain ⟨⟨z, D1⟩, e1, hf⟩ := map_split hf
  cases hf
  refine fun s H5 C cl fp => (he s H5 C cl fp).run L F0 H0 _ D _ F H z D1 r e1 _ fun v F4 H4 t4 k4 hv => ?_
  have hp4 : H4 p = some (.lst vs) := t4.keep p _ hp n1
  have nF4 : F4 p = none := (t4.q (p := p)).dat (by rw [hp]; exact fun z => nomatch z) nF
  have hl : vs.length < sizeLine := Nat.lt_of_le_of_lt (by rw [dpa_len ha]; exact Nat.le_trans (Nat.le_add_right _ _) hb) (show 1000000 < sizeLine by decide)
  exact ⟨vs, hp4, hl, fin F4 _ (vs ++ [v]) (t4.q.trans Stq.mut) (k4.mut nF4 n1 (not_code hp4)) upd_same (dpa_app (dpa_mono t4.ex ha) (.cons hv .nil))⟩
/-- a walk's turns -/
theorem dbd_loop {J : It} {N : Hp → Prop} {L : Loc} {F0 H0 F H F1 : Hp} {ρ : Env} {D1 D' : Dw} {σ : L2.St} {p : Addr} {vs : List V} {xs ls out : List PyData} {tt : TT} (wd : WalkD X.K L F1 J ls) (hg : TgD X.K Ws g fg) (ow : OwnLe fg)
    (hft : ∀ L F0 H0 ρ D σ F H b D', Rep X.K L F0 H0 ρ D σ F H → ft ρ D = some (b, D') → ∀ Q : Bool → Hp → Prop, (∀ F' H', Stp L F H F' H' → Ok L D' F' H' → Q b H') → tt σ H Q) (hd : DBd X.K t f)
    (x1 : Ex F1 F) (r : Rep X.K L F0 H0 ρ D1 σ F H) (h0 : H0 p = none) (nF : F p = none) (n1 : ¬ isD L p) (hp : H p = some (.lst vs)) (ha : DpAll X.K F vs xs) (ne : Ne ρ σ p) (hb : xs.length + out.length ≤ 1000000) (hf : lcLoop fg ft f (wipeE ρ Ws) ls D1 = some (out, D'))
    (fin : ∀ F' H' vs', Stq L p F H F' H' → Ok L D' F' H' → H' p = some (.lst vs') → DpAll X.K F' vs' (xs ++ out) → N H') :
    ∃ W : Nat → Nat → Hp → Prop, (∃ m, W 0 m H) ∧ ∀ i m H2, W i m H2 →
      (J.stop i H2 ∧ N H2) ∨ (J.go i H2 ∧ ∃ N1 : Hp → Prop, (∀ H3, N1 H3 → ∃ m1, m1 < m ∧ W (i + 1) m1 H3) ∧ ∀ x H3, J.yld i H2 x H3 → g x (wipe σ Ws) H3 fun σ4 H4 => wipe σ4 Ws = wipe σ Ws ∧ tt σ4 H4 fun b H5 =>
        if b = true then t σ4 H5 p N1 else N1 H5) := by
  refine ⟨fun j m H' => ∃ Dj F' vs' got rest, Ex F1 F' ∧ Stq L p F H F' H' ∧ Ok L Dj F' H' ∧ H' p = some (.lst vs') ∧ DpAll X.K F' vs' (xs ++ got) ∧ j ≤ ls.length ∧ m = ls.length - j ∧ lcLoop fg ft f (wipeE ρ Ws) (ls.drop j) Dj = some (rest, D') ∧ got ++ rest = out,
    ⟨ls.length, D1, F, vs, [], out, x1, Stp.refl.q, r.ok, hp, by rw [List.append_nil]; exact ha, Nat.zero_le _, rfl, hf, rfl⟩, ?_⟩
  rintro j m H' ⟨Dj, F', vs', got, rest, xj, tj, kj, hpj, haj, hj, rfl, hl, hout⟩
  by_cases hlt : j < ls.length
  · rw [List.drop_eq_getElem_cons hlt] at hl
    obtain ⟨ρ1, e0, hl⟩ := bind_split hl
    obtain ⟨⟨b, D2⟩, e2, hl⟩ := bind_split hl
    refine .inr ⟨wd.go j Dj F' H' xj kj hlt, fun H2 => ∃ Dj F' vs' got rest, Ex F1 F' ∧ Stq L p F H F' H2 ∧ Ok L Dj F' H2 ∧ H2 p = some (.lst vs') ∧ DpAll X.K F' vs' (xs ++ got) ∧ lcLoop fg ft f (wipeE ρ Ws) (ls.drop (j + 1)) Dj = some (rest, D') ∧ got ++ rest = out, ?_, ?_⟩
    · rintro H2 ⟨Dk, F2, vs2, got2, rest2, a1, a2, a3, a4, a5, a6, a7⟩
      exact ⟨ls.length - (j + 1), by omega, Dk, F2, vs2, got2, rest2, a1, a2, a3, a4, a5, hlt, rfl, a6, a7⟩
    · intro y H2 hy
      obtain ⟨F2, t2, k2, hdp⟩ := wd.yld j _ Dj F' H' y H2 xj kj (List.getElem?_eq_getElem hlt) hy
      have tj2 := tj.trans (t2.q (p := p))
      have r2 := r.stepq tj2 k2 h0 ne
      refine hg.run L F0 H0 _ Dj _ F2 H2 y _ ρ1 (r2.wiped Ws) hdp e0 _ fun σ2 rb w2 => ?_
      have w3 : wipe σ2 Ws = wipe σ Ws := w2.trans (wipe_sub Ws Ws σ fun _ h => h)
      refine ⟨w3, hft L F0 H0 _ Dj _ F2 H2 b D2 rb e2 _ fun F3 H3 t3 k3 => ?_⟩
      have tj3 := tj2.trans (t3.q (p := p))
      have hp3 : H3 p = some (.lst vs') := t3.keep p _ (t2.keep p _ hpj n1) n1
      have nF3 : F3 p = none := tj3.dat (by rw [hp]; exact fun z => nomatch z) nF
      have ha3 : DpAll X.K F3 vs' (xs ++ got) := dpa_mono (t2.ex.trans t3.ex) haj
      have x3 : Ex F1 F3 := (xj.trans t2.ex).trans t3.ex
      cases b with
      | true =>
        rw [if_pos rfl] at hl
        obtain ⟨⟨z, D3⟩, e3, hl⟩ := bind_split hl
        obtain ⟨⟨rest', D4⟩, e4, hl⟩ := map_split hl
        cases hl
        have ne2 : Ne ρ1 σ2 p := fun i ys e => by
          obtain ⟨e5, e6⟩ := wipeE_some (ow _ _ _ e0 i ys e)
          have e7 : σ2[i]? = σ[i]? := by rw [← wipe_out (σ := σ2) e6, w3, wipe_out e6]
          rw [e7]
          exact ne i ys e5
        have hb2 : (xs ++ got).length + z.length ≤ 1000000 := by
          have := congrArg List.length hout
          simp only [List.length_append] at this ⊢
          omega
        refine iteT (hd.run L F0 H0 ρ1 D2 σ2 F3 H3 D3 z p vs' (xs ++ got) _ (rb.step t3 k3) h0 nF3 n1 hp3 ha3 ne2 hb2 e3 fun F4 H4 vs4 t4 k4 hp4 ha4 => ?_)
        exact ⟨D3, F4, vs4, got ++ z, rest', x3.trans t4.ex, tj3.trans t4, k4, hp4, by rw [← List.append_assoc]; exact ha4, e4, by rw [List.append_assoc]; exact hout⟩
      | false =>
        rw [if_neg Bool.false_ne_true] at hl
        exact iteF ⟨D2, F3, vs', got, rest, x3, tj3, k3, hp3, ha3, hl, hout⟩
  · have e : j = ls.length := by omega
    subst e
    rw [List.drop_length] at hl
    cases hl
    rw [List.append_nil] at hout
    subst hout
    exact .inl ⟨wd.stop _ _ F' H' xj kj (Nat.le_refl _), fin F' H' vs' tj kj hpj haj⟩
end
end Den

end
-- DenLd
section
set_option Elab.async false
set_option linter.all false
set_option maxRecDepth 100000
set_option maxHeartbeats 2000000
namespace Den
open PySem PySem.Spec PyProof.Rows L2
variable [TB : Tabl]
section
variable {X : Cx} {scope : Scope} {elt tg i1 iter : Expr} {ifs : List Expr} {gens gs : List Comprehension} {pos cpos spos : Pos} {fe : FE} {fi : FL} {fg : PyData → Env → Option Env} {ft : FT} {f : FO} {g : TG} {Ws vs : List Nat} {t : TIn} {k : Nat} {B : PySem.Env → BdT} {own : List (Str × Nat)} {Bf : PySem.Env → BdT}
def tAllI (X : Cx) (scope : Scope) (tg it : Expr) : TI := fun σ H R => ∀ (s : Shared) (H' : Hp) (C : Addr) (cl : List (Str × Addr)) (fp : List Addr), tWI (X.blk s H' scope (compEnvC scope cl C X.env) fp) tg it σ H R
theorem pi_allI : ∀ (s : Shared) (H : Hp) (C : Addr) (cl : List (Str × Addr)) (fp : List Addr), PI (X.blk s H scope (compEnvC scope cl C X.env) fp) tg i1 (tAllI X scope tg i1) :=
  fun s H C cl fp => ⟨fun pins s1 σ1 H1 R I h => h s H C cl fp pins s1 I⟩
def DAllI (X : Cx) (scope : Scope) (tg it : Expr) (fi : FL) : Prop := ∀ (s : Shared) (H' : Hp) (C : Addr) (cl : List (Str × Addr)) (fp : List Addr), DI (X.blk s H' scope (compEnvC scope cl C X.env) fp) tg it fi
theorem dbd_cl {tt : TT} (hi : DAllI X scope tg i1 fi) (hg : TgD X.K Ws g fg) (ow : OwnLe fg)
    (hft : ∀ L F0 H0 ρ D σ F H b D', Rep X.K L F0 H0 ρ D σ F H → ft ρ D = some (b, D') → ∀ Q : Bool → Hp → Prop, (∀ F' H', Stp L F H F' H' → Ok L D' F' H' → Q b H') → tt σ H Q) (hd : DBd X.K t f) :
    DBd X.K (tCl (tAllI X scope tg i1) g tt t Ws) (clF Ws fi fg ft f) := .mk fun L F0 H0 ρ D σ F H D' out p vs xs Nx r h0 nF n1 hp ha ne hb hf fin => by
  obtain ⟨⟨ls, D1⟩, e1, hf⟩ := bind_split hf
  refine fun s H5 C cl fp => (hi s H5 C cl fp).run L F0 H0 ρ D σ F H ls D1 r e1 _ fun J F1 H1 t1 k1 wd => ?_
  exact dbd_loop wd hg ow hft hd (Ex.refl F1) (r.step t1 k1) h0 ((t1.q (p := p)).dat (by rw [hp]; exact fun z => nomatch z) nF) n1 (t1.keep p _ hp n1) (dpa_mono t1.ex ha) ne hb hf fun F' H' vs' tq k hp' ha' => fin F' H' vs' (t1.q.trans tq) k hp' ha'
/-- what is done with an item, told by data -/
structure DBl (X : Cx) (scope : Scope) (B : PySem.Env → BdT) (vs : List Nat) (f : FO) : Prop where
  ex : ∃ t, (∀ (s : Shared) (H : Hp) (C : Addr) (cl : List (Str × Addr)) (fp : List Addr), Bd (X.blk s H scope (compEnvC scope cl C X.env) fp) (B (compEnvC scope cl C X.env)) vs t) ∧ DBd X.K t f
theorem dbl_last (he : DAllE X scope elt fe) : DBl X scope (bdI X.prog X.w X.A elt) [] (lastF fe) := ⟨_, fun s H C cl fp => bd_last rfl (pe_all s H C cl fp), dbd_last he⟩
theorem dbl_cl (hc : X.calm = true) (hgc : gens[k + 1]? = some ⟨tg, i1, ifs, 0⟩) (hb : DBl X scope B vs f) (hL : ∀ (C : Addr) (cl : List (Str × Addr)), LoopR X.prog X.w X.A (.ListComp elt gens scope cpos) (k + 1) tg ifs (compEnvC scope cl C X.env) (B (compEnvC scope cl C X.env)))
    (hi : DAllI X scope tg i1 fi) (hg : ∀ (s : Shared) (H : Hp) (C : Addr) (cl : List (Str × Addr)) (fp : List Addr), PG (X.blk s H scope (compEnvC scope cl C X.env) fp) tg g) (hd : TgD X.K Ws g fg) (ow : OwnLe fg) (ht : TestsD X scope ifs ft) (hv : ∀ i ∈ vs, i ∈ Ws) :
    DBl X scope (bdO X.prog X.w X.A (.ListComp elt gens scope cpos) i1 k) Ws (clF Ws fi fg ft f) := by
  obtain ⟨t, h1, h2⟩ := hb.ex
  obtain ⟨tt, htt, hft⟩ := ht.ex
  exact ⟨_, fun s H C cl fp => bd_clause rfl hc hgc rfl (hL C cl) (h1 s H C cl fp) (pi_allI s H C cl fp) (hg s H C cl fp) (htt s H C cl fp) hv, dbd_cl hi hd ow hft h2⟩
theorem lcN_read {tt : TT} (hi : DI X tg iter fi) (hg : TgD X.K Ws g fg) (ow : OwnLe fg)
    (hft : ∀ L F0 H0 ρ D σ F H b D', Rep X.K L F0 H0 ρ D σ F H → ft ρ D = some (b, D') → ∀ Q : Bool → Hp → Prop, (∀ F' H', Stp L F H F' H' → Ok L D' F' H' → Q b H') → tt σ H Q) (hd : DBd X.K t f)
    {L : Loc} {F0 H0 : Hp} {ρ : Env} {D D' : Dw} {σ : L2.St} {F H : Hp} {out : List PyData} (r : Rep X.K L F0 H0 ρ D σ F H) (hf : lcN Ws fi fg ft f ρ D = some (out, D')) (Q : VK)
    (q : ∀ p vs F' H', Stp L F H F' H' → Ok L D' F' H' → H p = none → F' p = none → H' p = some (.lst vs) → DpAll X.K F' vs out → Q (.ref p) H') : tLcN (tWI X tg iter) g tt t Ws σ H Q := by
  obtain ⟨⟨o, D2⟩, hf, hlen⟩ := bind_split hf
  dsimp only at hlen
  split at hlen
  · rename_i hb
    cases hlen
    obtain ⟨⟨ls, D1⟩, e1, hf⟩ := bind_split hf
    refine hi.run L F0 H0 ρ D σ F H ls D1 r e1 _ fun J F1 H1 t1 k1 wd p np => ?_
    have r1 := r.step t1 k1
    have n1 : ¬ isD L p := k1.nd np
    have nF1 : F1 p = none := k1.sub.back np
    have nH : H p = none := back_none t1 np
    have nH0 : H0 p = none := back_none r.stp nH
    have ne1 : Ne ρ σ p := fun j ys ej => r1.own_ne np ej
    refine dbd_loop (N := fun H' => Q (.ref p) H') wd hg ow hft hd (Ex.refl F1) (r1.beside nH0 nF1 n1 (fun q z => by rw [np] at z; cases z) ne1) nH0 nF1 n1 upd_same .nil ne1 (by simpa using hb) hf fun F' H' vs' tq k hp' ha' => ?_
    exact q p vs' F' H' (Stq.stp (t1.trans (Stp.fresh np)) nH tq) k nH (tq.dat (by rw [upd_same]; exact fun z => nomatch z) nF1) hp' ha'
  · cases hlen
theorem dn_lcN (hc : X.calm = true) (hN : X.N.Nodup) (hb : DBl X scope B vs f) (hi : DI X tg iter fi) (ok : BlkOk X.N X.env.scope scope own)
    (hg : ∀ (s : Shared) (H : Hp) (C : Addr) (cl : List (Str × Addr)) (fp : List Addr), PG (X.blk s H scope (compEnvC scope cl C X.env) fp) tg g) (hd : TgD X.K (own.map (·.2)) g fg) (ow : OwnLe fg) (ht : TestsD X scope ifs ft)
    (hL : ∀ (C : Addr) (cl : List (Str × Addr)), LoopR X.prog X.w X.A (.ListComp elt (⟨tg, iter, ifs, 0⟩ :: gs) scope pos) 0 tg ifs (compEnvC scope cl C X.env) (B (compEnvC scope cl C X.env)))
    (hv : ∀ i ∈ vs, i ∈ own.map (·.2)) (hs : ∀ x, foldedSetIterable iter X.env x = pure x := by intro _; rfl) : DN X (.ListComp elt (⟨tg, iter, ifs, 0⟩ :: gs) scope pos) (lcN (own.map (·.2)) fi fg ft f) := by
  refine .mk ?_
  intro L F0 H0 ρ D σ F H out D' r hf Q q
  obtain ⟨t, h1, h2⟩ := hb.ex
  obtain ⟨tt, htt, hft⟩ := ht.ex
  have pe : PE X (.ListComp elt (⟨tg, iter, ifs, 0⟩ :: gs) scope pos) (tLcN (tWI X tg iter) g tt t (own.map (·.2))) := by
    refine ⟨fun ps t0 σ H Q I h => ?_⟩
    rw [eval_ListComp]
    refine lcN_core hc hN I pi_w ok hv hg htt hL h1 hs h fun D C t' m H' I' q hn f => ⟨m, hn, fun h'' sb => ?_⟩
    obtain ⟨f0, f1, f2, f3, f4, f5⟩ := f
    exact ⟨.ref D, H', I'.turned (t' := t'.toks) (fun b o hb e => (sb.2 b hb).trans e) f0 f1 f3 f4 f5, rfl, q⟩
  exact PEw pe (lcN_read hi hd ow hft h2 r hf Q q)
/-- name = [..] -/
theorem ds_lcNN {i : Nat} {y : Str} {py : Pos} (hc : X.calm = true) (hN : X.N.Nodup) (hb : DBl X scope B vs f) (hi : DI X tg iter fi) (ok : BlkOk X.N X.env.scope scope own)
    (hg : ∀ (s : Shared) (H : Hp) (C : Addr) (cl : List (Str × Addr)) (fp : List Addr), PG (X.blk s H scope (compEnvC scope cl C X.env) fp) tg g) (hd : TgD X.K (own.map (·.2)) g fg) (ow : OwnLe fg) (ht : TestsD X scope ifs ft)
    (hL : ∀ (C : Addr) (cl : List (Str × Addr)), LoopR X.prog X.w X.A (.ListComp elt (⟨tg, iter, ifs, 0⟩ :: gs) scope pos) 0 tg ifs (compEnvC scope cl C X.env) (B (compEnvC scope cl C X.env)))
    (hv : ∀ i ∈ vs, i ∈ own.map (·.2)) (hy : X.N[i]? = some y := by rfl) (hyl : X.env.scope.names.lookup y = some .local := by rfl)
    (hsw : swapsWith (.ListComp elt (⟨tg, iter, ifs, 0⟩ :: gs) scope pos) (some (.Name y py)) spos.line X.env = pure true := by exact sw_true rfl rfl rfl (by decide +kernel)) (hs : ∀ x, foldedSetIterable iter X.env x = pure x := by intro _; rfl) :
    DS X (.Assign [.Name y py] (.ListComp elt (⟨tg, iter, ifs, 0⟩ :: gs) scope pos) spos) (lcS i (lcN (own.map (·.2)) fi fg ft f)) := by
  refine .mk ?_
  intro L F0 H0 ρ D σ F H o E r hf q
  obtain ⟨t, h1, h2⟩ := hb.ex
  obtain ⟨tt, htt, hft⟩ := ht.ex
  obtain ⟨⟨out, D'⟩, e1, ho⟩ := map_split hf
  subst ho
  have ps : PS X (.Assign [.Name y py] (.ListComp elt (⟨tg, iter, ifs, 0⟩ :: gs) scope pos) spos) (tAsg (tLcN (tWI X tg iter) g tt t (own.map (·.2))) (gName i)) := by
    refine ⟨fun ps t0 σ H En I h => ?_⟩
    rw [exec_Assign_Name_used _ _ _ _ hsw]
    refine wpAny_bind (wpAny_standAt (wpAny_bind ?_))
    show wpAny _ X.A (do let _ ← comprehension (.ListComp elt (⟨tg, iter, ifs, 0⟩ :: gs) scope pos) scope X.env (firstIterPos (⟨tg, iter, ifs, 0⟩ :: gs) pos) (newList []) false (eval iter X.env) (some (assign (.Name y py) X.env))) _ _ t0
    replace h : tLcN (tWI X tg iter) g tt t (own.map (·.2)) σ H (fun x H1 => gName i x σ H1 En.nx) := h
    refine wpAny_bind (thn (lcN_core (Qf := fun _ t' => SP X ps En .next t') hc hN I pi_w ok hv hg htt hL h1 hs h fun Ad C t' m H' I' q hn f => ?_) fun _ t' hq => wpAny_pure (wpAny_pure hq))
    show wpAny _ _ (assign (.Name y py) X.env (.ref Ad)) _ _ _
    refine wpAny_assign_Name (store_ok2 (v := V.ref Ad) I' hN hy (.inl hyl) rfl (fun t2 I2 ⟨a, sb, ha⟩ => ?_) (.inr hyl))
    obtain ⟨f0, f1, f2, f3, f4, f5⟩ := f
    have nCa : C ≠ a := by
      rcases ha with z | z
      · rw [z]; exact f1
      · exact fun e => f4 y a z e.symm
    refine ⟨m, hn.sameBut sb nCa, fun h3 sb3 => ?_⟩
    exact ⟨_, H', I2.turned (t' := t2.toks) (fun b o hb e => (sb3.2 b hb).trans e) f0 f1 f3 f4 f5, q⟩
  refine PSw ps (lcN_read hi hd ow hft h2 r e1 _ fun p vs F' H' t k n nF hp hv => ?_)
  have r' : Rep X.K L F0 H0 ρ D' σ (upd F' p (.lst vs)) H' := r.step (t.frz n nF) (k.frz hp nF (r.ok.nd n))
  exact q _ _ H' (r'.setD i (.lst (.inl (.inl upd_same)) (dpa_mono (Ex.new nF) hv)))
/-- as dbl_cl, a further clause behind it -/
theorem dbl_clO {tg2 i2 : Expr} {ifs2 : List Expr} (hc : X.calm = true) (hgc : gens[k + 1]? = some ⟨tg, i1, ifs, 0⟩) (hg2 : gens[k + 1 + 1]? = some ⟨tg2, i2, ifs2, 0⟩) (hb : DBl X scope (bdO X.prog X.w X.A (.ListComp elt gens scope cpos) i2 (k + 1)) vs f)
    (hi : DAllI X scope tg i1 fi) (hg : ∀ (s : Shared) (H : Hp) (C : Addr) (cl : List (Str × Addr)) (fp : List Addr), PG (X.blk s H scope (compEnvC scope cl C X.env) fp) tg g) (hd : TgD X.K Ws g fg) (ow : OwnLe fg) (ht : TestsD X scope ifs ft) (hv : ∀ i ∈ vs, i ∈ Ws)
    (hs : ∀ env x, foldedSetIterable i2 env x = pure x := by intro _ _; rfl) : DBl X scope (bdO X.prog X.w X.A (.ListComp elt gens scope cpos) i1 k) Ws (clF Ws fi fg ft f) :=
  dbl_cl hc hgc hb (fun _ _ => loopR_out (hs _) (fun _ _ => turn_more hgc hg2)) hi hg hd ow ht hv
/-- .. the last one -/
theorem dbl_clI (hc : X.calm = true) (hgc : gens[k + 1]? = some ⟨tg, i1, ifs, 0⟩) (hg2 : gens[k + 1 + 1]? = none) (hb : DBl X scope (bdI X.prog X.w X.A elt) vs f)
    (hi : DAllI X scope tg i1 fi) (hg : ∀ (s : Shared) (H : Hp) (C : Addr) (cl : List (Str × Addr)) (fp : List Addr), PG (X.blk s H scope (compEnvC scope cl C X.env) fp) tg g) (hd : TgD X.K Ws g fg) (ow : OwnLe fg) (ht : TestsD X scope ifs ft) (hv : ∀ i ∈ vs, i ∈ Ws) :
    DBl X scope (bdO X.prog X.w X.A (.ListComp elt gens scope cpos) i1 k) Ws (clF Ws fi fg ft f) :=
  dbl_cl hc hgc hb (fun _ _ => loopR_in (fun _ _ => turn_last hgc hg2)) hi hg hd ow ht hv
theorem dn_lcNO {tg1 : Expr} {ifs1 : List Expr} (hc : X.calm = true) (hN : X.N.Nodup) (hg1 : (⟨tg, iter, ifs, 0⟩ :: gs : List Comprehension)[0 + 1]? = some ⟨tg1, i1, ifs1, 0⟩) (hb : DBl X scope (bdO X.prog X.w X.A (.ListComp elt (⟨tg, iter, ifs, 0⟩ :: gs) scope pos) i1 0) vs f) (hi : DI X tg iter fi) (ok : BlkOk X.N X.env.scope scope own)
    (hg : ∀ (s : Shared) (H : Hp) (C : Addr) (cl : List (Str × Addr)) (fp : List Addr), PG (X.blk s H scope (compEnvC scope cl C X.env) fp) tg g) (hd : TgD X.K (own.map (·.2)) g fg) (ow : OwnLe fg) (ht : TestsD X scope ifs ft)
    (hv : ∀ i ∈ vs, i ∈ own.map (·.2)) (hs : ∀ x, foldedSetIterable iter X.env x = pure x := by intro _; rfl) (hs1 : ∀ env x, foldedSetIterable i1 env x = pure x := by intro _ _; rfl) : DN X (.ListComp elt (⟨tg, iter, ifs, 0⟩ :: gs) scope pos) (lcN (own.map (·.2)) fi fg ft f) :=
  dn_lcN hc hN hb hi ok hg hd ow ht (fun _ _ => loopR_out (hs1 _) (fun _ _ => turn_more rfl hg1)) hv hs
theorem ds_lcNNO {i : Nat} {y : Str} {py : Pos} {tg1 : Expr} {ifs1 : List Expr} (hc : X.calm = true) (hN : X.N.Nodup) (hg1 : (⟨tg, iter, ifs, 0⟩ :: gs : List Comprehension)[0 + 1]? = some ⟨tg1, i1, ifs1, 0⟩) (hb : DBl X scope (bdO X.prog X.w X.A (.ListComp elt (⟨tg, iter, ifs, 0⟩ :: gs) scope pos) i1 0) vs f) (hi : DI X tg iter fi) (ok : BlkOk X.N X.env.scope scope own)
    (hg : ∀ (s : Shared) (H : Hp) (C : Addr) (cl : List (Str × Addr)) (fp : List Addr), PG (X.blk s H scope (compEnvC scope cl C X.env) fp) tg g) (hd : TgD X.K (own.map (·.2)) g fg) (ow : OwnLe fg) (ht : TestsD X scope ifs ft)
    (hv : ∀ i ∈ vs, i ∈ own.map (·.2)) (hy : X.N[i]? = some y := by rfl) (hyl : X.env.scope.names.lookup y = some .local := by rfl)
    (hsw : swapsWith (.ListComp elt (⟨tg, iter, ifs, 0⟩ :: gs) scope pos) (some (.Name y py)) spos.line X.env = pure true := by exact sw_true rfl rfl rfl (by decide +kernel)) (hs : ∀ x, foldedSetIterable iter X.env x = pure x := by intro _; rfl) (hs1 : ∀ env x, foldedSetIterable i1 env x = pure x := by intro _ _; rfl) :
    DS X (.Assign [.Name y py] (.ListComp elt (⟨tg, iter, ifs, 0⟩ :: gs) scope pos) spos) (lcS i (lcN (own.map (·.2)) fi fg ft f)) :=
  ds_lcNN hc hN hb hi ok hg hd ow ht (fun _ _ => loopR_out (hs1 _) (fun _ _ => turn_more rfl hg1)) hv hy hyl hsw hs
end
end Den

end
-- DenM
section
set_option Elab.async false
set_option linter.all false
set_option maxRecDepth 100000
set_option maxHeartbeats 1000000
namespace Den
open PySem PySem.Spec PyProof.Rows L2
variable [TB : Tabl]

/-! ### texts by their sgs -/
def tx (l : List Nat) : Str := ⟨l.toArray⟩
abbrev sd (l : List Nat) : PyData := .str (tx l)
theorem tx_len (l : List Nat) : (tx l).length = l.length := by show l.toArray.size = l.length; simp
theorem tx_cps (l : List Nat) : (tx l).cps.toList = l := by show l.toArray.toList = l; simp
theorem tx_add (a b : List Nat) : tx a ++ tx b = tx (a ++ b) := by
  show (⟨a.toArray ++ b.toArray⟩ : Str) = ⟨(a ++ b).toArray⟩
  simp
theorem tx_inj {a b : List Nat} (h : tx a = tx b) : a = b := by
  have := congrArg (fun s : Str => s.cps.toList) h
  simpa [tx_cps] using this
theorem tx_of (s : Str) : tx s.cps.toList = s := by
  obtain ⟨⟨l⟩⟩ := s
  rfl
theorem signs_tx (l : List Nat) : sgs (tx l) = l.map fun c => sd [c] := by
  unfold sgs
  rw [tx_cps]
  rfl
def good (c : Nat) : Bool := (decide (48 ≤ c) && decide (c ≤ 57)) || (decide (65 ≤ c) && decide (c ≤ 90)) || decide (c = 95) || (decide (97 ≤ c) && decide (c ≤ 122))
def dig (c : Nat) : Bool := decide (48 ≤ c) && decide (c ≤ 57)
def cap (c : Nat) : Bool := decide (65 ≤ c) && decide (c ≤ 90)
def sml (c : Nat) : Bool := decide (97 ≤ c) && decide (c ≤ 122)
def upC (c : Nat) : Nat := if sml c then c - 32 else c
def loC (c : Nat) : Nat := if cap c then c + 32 else c
theorem good_lt {c : Nat} (h : good c = true) : c < 128 := by
  unfold good at h
  simp only [Bool.or_eq_true, Bool.and_eq_true, decide_eq_true_eq] at h
  omega
theorem dig_of : ∀ c : Nat, c < 128 → Unicode.isDigit c = dig c := by decide +kernel
theorem low_of : ∀ c : Nat, c < 128 → Unicode.isLower c = sml c := by decide +kernel
theorem upp_of : ∀ c : Nat, c < 128 → Unicode.isUpper c = cap c := by decide +kernel
theorem tit_of : ∀ c : Nat, c < 128 → Unicode.isTitle c = false := by decide +kernel
theorem alp_of : ∀ c : Nat, c < 128 → Unicode.isAlpha c = (cap c || sml c) := by decide +kernel
theorem lower_of : ∀ c : Nat, c < 128 → (Txt.lower (tx [c])) = tx [loC c] := by decide +kernel
theorem upper_of : ∀ c : Nat, c < 128 → (Txt.upper (tx [c])) = tx [upC c] := by decide +kernel
abbrev GL (l : List Nat) : Prop := ∀ c ∈ l, good c = true
theorem GL.app {a b : List Nat} (h : GL a) (h' : GL b) : GL (a ++ b) := fun c hc => (List.mem_append.mp hc).elim (h c) (h' c)
theorem GL.one {c : Nat} (h : good c = true) : GL [c] := fun d hd => by
  have : d = c := by simpa using hd
  rw [this]; exact h
def digs (p : List Nat) : Bool := !p.isEmpty && p.all dig
theorem all_congr {α : Type} {f g : α → Bool} : ∀ {l : List α}, (∀ x ∈ l, f x = g x) → l.all f = l.all g
  | [], _ => rfl
  | x :: l, h => by rw [List.all_cons, List.all_cons, h x List.mem_cons_self, all_congr fun y hy => h y (List.mem_cons_of_mem _ hy)]
theorem any_congr {α : Type} {f g : α → Bool} : ∀ {l : List α}, (∀ x ∈ l, f x = g x) → l.any f = l.any g
  | [], _ => rfl
  | x :: l, h => by rw [List.any_cons, List.any_cons, h x List.mem_cons_self, any_congr fun y hy => h y (List.mem_cons_of_mem _ hy)]
theorem arr_all (l : List Nat) (f : Nat → Bool) : (tx l).cps.all f = l.all f := by
  show l.toArray.all f = l.all f
  simp
theorem arr_any (l : List Nat) (f : Nat → Bool) : (tx l).cps.any f = l.any f := by
  show l.toArray.any f = l.any f
  simp
theorem isdigit_tx {l : List Nat} (h : GL l) : Txt.isdigit (tx l) = digs l := by
  unfold Txt.isdigit digs
  rw [tx_len, arr_all, all_congr fun x hx => dig_of x (good_lt (h x hx))]
  cases l <;> simp
theorem isalpha_tx {c : Nat} (h : good c = true) : Txt.isalpha (tx [c]) = (cap c || sml c) := by
  unfold Txt.isalpha
  rw [tx_len, arr_all, all_congr (g := fun c => (cap c || sml c)) fun x hx => alp_of x (by
    have : x = c := by simpa using hx
    rw [this]; exact good_lt h)]
  simp
theorem islower_tx {c : Nat} (h : good c = true) : Txt.islower (tx [c]) = sml c := by
  have hl := good_lt h
  unfold Txt.islower
  rw [arr_any, arr_any]
  simp only [List.any_cons, List.any_nil, Bool.or_false]
  rw [low_of c hl, upp_of c hl, tit_of c hl]
  unfold sml cap
  cases h1 : decide (97 ≤ c) <;> cases h2 : decide (c ≤ 122) <;> cases h3 : decide (65 ≤ c) <;> cases h4 : decide (c ≤ 90) <;> simp_all <;> omega
theorem isupper_tx {c : Nat} (h : good c = true) : Txt.isupper (tx [c]) = cap c := by
  have hl := good_lt h
  unfold Txt.isupper
  rw [arr_any, arr_any]
  simp only [List.any_cons, List.any_nil, Bool.or_false]
  rw [low_of c hl, upp_of c hl, tit_of c hl]
  unfold sml cap
  cases h1 : decide (97 ≤ c) <;> cases h2 : decide (c ≤ 122) <;> cases h3 : decide (65 ≤ c) <;> cases h4 : decide (c ≤ 90) <;> simp_all <;> omega
theorem strOk_tx {l : List Nat} (h : GL l) : PyData.strOk (tx l) = true := by
  unfold PyData.strOk
  rw [arr_all, all_congr (g := fun _ => true) fun x hx => by
    have := good_lt (h x hx)
    exact decide_eq_true (by omega)]
  simp
theorem shp_sd {l : List Nat} (h : GL l) : Shp 0 (sd l) := shp_str (strOk_tx h)
theorem small {l : List Nat} (h : l.length ≤ 1000) : (tx l).length ≤ 1000000 := by rw [tx_len]; omega
theorem eqv_str (a b : List Nat) : PyData.eqv (sd a) (sd b) = decide (a = b) := by
  rw [PyData.eqv]
  by_cases h : a = b
  · subst h; simp
  · rw [decide_eq_false h]
    have : tx a ≠ tx b := fun z => h (tx_inj z)
    simp [this]
theorem eqv_int (a b : Int) : PyData.eqv (.int a) (.int b) = decide (a = b) := by
  rw [PyData.eqv]
  by_cases h : a = b
  · subst h; simp
  · simp [h]
/-- a number's text is read -/
def numOf (l : List Nat) : Int := ((PySem.intText? (tx l)).getD 0)
theorem digs_ok {l : List Nat} (h : digs l = true) : l ≠ [] ∧ ∀ c ∈ l, 48 ≤ c ∧ c ≤ 57 := by
  unfold digs at h
  rw [Bool.and_eq_true] at h
  refine ⟨fun z => by subst z; exact absurd h.1 (by decide), fun c hc => ?_⟩
  have := List.all_eq_true.mp h.2 c hc
  unfold dig at this
  simpa using this
theorem int_tx {l : List Nat} (h : digs l = true) (hl : l.length ≤ 640) : PySem.intText? (tx l) = some (numOf l) := by
  obtain ⟨h1, h2⟩ := digs_ok h
  have e := PySem.intText_digits (x := tx l) (by rw [tx_cps]; exact h2) (by rw [tx_cps]; exact h1) (by rw [tx_len]; omega)
  unfold numOf
  rw [e]
  rfl

/-! ### three-way comparisons -/
def icmp (a b : Int) : Int := if a = b then 0 else if a < b then -1 else 1
def dcmp (x y : PyData) : Int := if PyData.eqv x y then 0 else if PySem.W.dataLt x y then -1 else 1
theorem dcmp_int (a b : Int) : dcmp (.int a) (.int b) = icmp a b := by
  unfold dcmp icmp
  rw [eqv_int, PySem.W.dataLt_int]
  by_cases h : a = b
  · rw [if_pos (decide_eq_true h), if_pos h]
  · rw [if_neg (by simp [h]), if_neg h]
    by_cases h2 : a < b
    · rw [if_pos (decide_eq_true h2), if_pos h2]
    · rw [if_neg (by simp [h2]), if_neg h2]

section
open PySem.W
theorem eqv_sound {x y : PyData} (h : alike x y = true) : PyData.eqv x y = true ↔ keyToks x = keyToks y := by
  obtain ⟨h1, h2⟩ := toks_eqv x y h
  refine ⟨h1, fun e => ?_⟩
  cases q : PyData.eqv x y with
  | true => rfl
  | false =>
    have a := h2 q [.inl 0] [.inl 1]
    rw [e, lex_pre, lex_irrefl, lex_one] at a
    exact absurd a (by decide)
theorem dcmp_toks {x y : PyData} (h : alike x y = true) : dcmp x y = if keyToks x = keyToks y then 0 else if PyProof.Rows.lexLt itemOrd (keyToks x) (keyToks y) then -1 else 1 := by
  unfold dcmp dataLt
  by_cases e : keyToks x = keyToks y
  · rw [if_pos e, if_pos ((eqv_sound h).mpr e)]
  · rw [if_neg e, if_neg (fun z => e ((eqv_sound h).mp z))]
theorem dcmp_anti {x y : PyData} (h : alike x y = true) (h' : alike y x = true) : dcmp y x = -dcmp x y := by
  rw [dcmp_toks h, dcmp_toks h']
  by_cases e : keyToks x = keyToks y
  · rw [if_pos e, if_pos e.symm]; rfl
  · rw [if_neg e, if_neg (Ne.symm e)]
    cases h1 : PyProof.Rows.lexLt itemOrd (keyToks x) (keyToks y) with
    | true =>
      have h2 : PyProof.Rows.lexLt itemOrd (keyToks y) (keyToks x) = false := by
        cases h2 : PyProof.Rows.lexLt itemOrd (keyToks y) (keyToks x) with
        | false => rfl
        | true =>
          have := lex_trans (O := itemOrd) _ _ _ h1 h2
          rw [lex_irrefl] at this
          cases this
      rw [h2]; rfl
    | false =>
      cases h2 : PyProof.Rows.lexLt itemOrd (keyToks y) (keyToks x) with
      | true => rfl
      | false => exact absurd (lex_total (O := itemOrd) _ _ h1 h2) e
theorem dcmp_mem (x y : PyData) : dcmp x y = -1 ∨ dcmp x y = 0 ∨ dcmp x y = 1 := by
  unfold dcmp
  split
  · exact .inr (.inl rfl)
  · split
    · exact .inl rfl
    · exact .inr (.inr rfl)
theorem dcmp_zero {x y : PyData} (h : alike x y = true) : dcmp x y = 0 ↔ keyToks x = keyToks y := by
  rw [dcmp_toks h]
  by_cases e : keyToks x = keyToks y
  · rw [if_pos e]; exact ⟨fun _ => e, fun _ => rfl⟩
  · rw [if_neg e]
    refine ⟨fun z => ?_, fun z => absurd z e⟩
    split at z <;> cases z
theorem dcmp_subst {x y z : PyData} (h : alike x y = true) (h1 : alike x z = true) (h2 : alike y z = true) (e : dcmp x y = 0) : dcmp x z = dcmp y z := by
  rw [dcmp_toks h1, dcmp_toks h2, (dcmp_zero h).mp e]
theorem dcmp_trans {x y z : PyData} (h : alike x y = true) (h1 : alike x z = true) (h2 : alike y z = true) (a : dcmp x y = -1) (b : dcmp y z < 1) : dcmp x z = -1 := by
  rw [dcmp_toks h] at a
  rw [dcmp_toks h2] at b
  rw [dcmp_toks h1]
  have e : keyToks x ≠ keyToks y := fun e => by rw [if_pos e] at a; cases a
  rw [if_neg e] at a
  have lt : PyProof.Rows.lexLt itemOrd (keyToks x) (keyToks y) = true := by
    cases q : PyProof.Rows.lexLt itemOrd (keyToks x) (keyToks y) with
    | true => rfl
    | false => rw [q] at a; cases a
  have lt2 : PyProof.Rows.lexLt itemOrd (keyToks x) (keyToks z) = true := by
    by_cases e2 : keyToks y = keyToks z
    · rw [← e2]; exact lt
    · rw [if_neg e2] at b
      cases q : PyProof.Rows.lexLt itemOrd (keyToks y) (keyToks z) with
      | true => exact lex_trans (O := itemOrd) _ _ _ lt q
      | false => rw [q] at b; exact absurd b (by decide)
  have e3 : keyToks x ≠ keyToks z := fun e => by rw [e, lex_irrefl] at lt2; cases lt2
  rw [if_neg e3, lt2]; rfl
theorem dcmp_cons {x y : PyData} {xs ys : List PyData} (h : alike x y = true) : dcmp (.list (x :: xs)) (.list (y :: ys)) = if PyData.eqv x y then dcmp (.list xs) (.list ys) else dcmp x y := by
  unfold dcmp
  rw [dataLt_list, dataLt_list, PyData.eqv, PyData.eqv, eqv_all_cons]
  cases e : PyData.eqv x y with
  | true => rw [dataLt_all_yes h e, Bool.true_and]; rfl
  | false => rw [dataLt_all_no h e, Bool.false_and]; rfl
theorem dcmp_consT {x y : PyData} {xs ys : List PyData} (h : alike x y = true) : dcmp (.tuple (x :: xs)) (.tuple (y :: ys)) = if PyData.eqv x y then dcmp (.list xs) (.list ys) else dcmp x y := by
  unfold dcmp
  rw [dataLt_tuple, dataLt_list, PyData.eqv, PyData.eqv, eqv_all_cons]
  cases e : PyData.eqv x y with
  | true => rw [dataLt_all_yes h e, Bool.true_and]; rfl
  | false => rw [dataLt_all_no h e, Bool.false_and]; rfl
theorem dcmp_nil : dcmp (.list []) (.list []) = 0 := by
  unfold dcmp
  rw [PyData.eqv, PyData.eqvAll]
  rfl
theorem dcmp_nil_cons (y : PyData) (ys : List PyData) : dcmp (.list []) (.list (y :: ys)) = -1 := by
  unfold dcmp
  rw [dataLt_list, PyData.eqv, PyData.eqvAll, keyToksAll, toks_all_cons, lex_diff (O := itemOrd) (by simp)]
  rfl
theorem dcmp_cons_nil (y : PyData) (ys : List PyData) : dcmp (.list (y :: ys)) (.list []) = 1 := by
  unfold dcmp
  rw [dataLt_list, PyData.eqv, PyData.eqvAll, keyToksAll, toks_all_cons, lex_diff (O := itemOrd) (by simp)]
  rfl
theorem dcmp_eqv {x y : PyData} (h : PyData.eqv x y = true) : dcmp x y = 0 := by unfold dcmp; rw [if_pos h]
theorem dcmp_ne {x y : PyData} (h : PyData.eqv x y = false) : dcmp x y ≠ 0 := by
  unfold dcmp
  rw [if_neg (by rw [h]; decide)]
  split <;> decide
/-- the first that is not 0 -/
def orC (a b : Int) : Int := if a = 0 then b else a
theorem dcmp_cons' {x y : PyData} {xs ys : List PyData} (h : alike x y = true) : dcmp (.list (x :: xs)) (.list (y :: ys)) = orC (dcmp x y) (dcmp (.list xs) (.list ys)) := by
  rw [dcmp_cons h]
  unfold orC
  cases e : PyData.eqv x y with
  | true => rw [if_pos rfl, if_pos (dcmp_eqv e)]
  | false => rw [if_neg Bool.false_ne_true, if_neg (dcmp_ne e)]
theorem dcmp_consT' {x y : PyData} {xs ys : List PyData} (h : alike x y = true) : dcmp (.tuple (x :: xs)) (.tuple (y :: ys)) = orC (dcmp x y) (dcmp (.list xs) (.list ys)) := by
  rw [dcmp_consT h]
  unfold orC
  cases e : PyData.eqv x y with
  | true => rw [if_pos rfl, if_pos (dcmp_eqv e)]
  | false => rw [if_neg Bool.false_ne_true, if_neg (dcmp_ne e)]
theorem orC_zero (a : Int) : orC a 0 = a := by unfold orC; split <;> simp_all
theorem orC_left {a b : Int} (h : a ≠ 0) : orC a b = a := by unfold orC; rw [if_neg h]
theorem orC_right {b : Int} : orC 0 b = b := by unfold orC; rw [if_pos rfl]
theorem orC_assoc (a b c : Int) : orC (orC a b) c = orC a (orC b c) := by unfold orC; split <;> simp_all
theorem dcmp_intsL : ∀ a b : List Int, a.length = b.length → dcmp (.list (a.map .int)) (.list (b.map .int)) = (a.zip b).foldr (fun p r => orC (icmp p.1 p.2) r) 0
  | [], [], _ => dcmp_nil
  | x :: a, y :: b, h => by
    rw [List.map_cons, List.map_cons, dcmp_cons' (by rw [alike]), dcmp_int, dcmp_intsL a b (by simpa using h)]
    rfl
  | [], _ :: _, h => by simp at h
  | _ :: _, [], h => by simp at h
end
end Den

end
-- DenN
section
set_option Elab.async false
set_option linter.all false
set_option maxRecDepth 100000
set_option maxHeartbeats 1000000
namespace Den
open PySem PySem.Spec PyProof.Rows L2
variable [TB : Tabl]

/-! ### pieces -/
def lastDigs (acc : List (List Nat)) : Bool := match acc.getLast? with
  | some p => digs p
  | none => false
def cutStep (acc : List (List Nat)) (c : Nat) : List (List Nat) := if dig c && lastDigs acc then acc.dropLast ++ [(acc.getLast?.getD []) ++ [c]] else acc ++ [[c]]
def pieces (whole : Bool) (l : List Nat) : List (List Nat) := if whole then l.foldl cutStep [] else l.map fun c => [c]
structure PieceOk (p : List Nat) : Prop where
  gl : GL p
  ne : p ≠ []
  kd : digs p = true ∨ ∃ c, p = [c] ∧ dig c = false
theorem piece_one {c : Nat} (h : good c = true) : PieceOk [c] := by
  refine ⟨GL.one h, by simp, ?_⟩
  cases hd : dig c with
  | true => left; unfold digs; simp [hd]
  | false => exact .inr ⟨c, rfl, hd⟩
theorem last_split {acc : List (List Nat)} (h : lastDigs acc = true) : ∃ a p, acc = a ++ [p] ∧ digs p = true := by
  unfold lastDigs at h
  rcases List.eq_nil_or_concat acc with rfl | ⟨a, p, rfl⟩
  · cases h
  · rw [List.concat_eq_append] at h ⊢
    refine ⟨a, p, rfl, ?_⟩
    simpa using h
theorem step_split (acc : List (List Nat)) (c : Nat) : (∃ a p, acc = a ++ [p] ∧ digs p = true ∧ dig c = true ∧ cutStep acc c = a ++ [p ++ [c]]) ∨ cutStep acc c = acc ++ [[c]] := by
  unfold cutStep
  by_cases h : (dig c && lastDigs acc) = true
  · rw [if_pos h]
    rw [Bool.and_eq_true] at h
    obtain ⟨a, p, rfl, hp⟩ := last_split h.2
    left
    exact ⟨a, p, rfl, hp, h.1, by simp⟩
  · rw [if_neg h]
    exact .inr rfl
structure CutOk (acc : List (List Nat)) (l : List Nat) : Prop where
  ok : ∀ p ∈ acc, PieceOk p
  fl : acc.flatten = l
theorem cut_step {acc : List (List Nat)} {l : List Nat} {c : Nat} (h : CutOk acc l) (hc : good c = true) : CutOk (cutStep acc c) (l ++ [c]) := by
  rcases step_split acc c with ⟨a, p, rfl, hp, hd, e⟩ | e
  · rw [e]
    refine ⟨fun q hq => ?_, ?_⟩
    · rcases List.mem_append.mp hq with hq | hq
      · exact h.ok q (List.mem_append_left _ hq)
      · have hq : q = p ++ [c] := by simpa using hq
        subst hq
        have hpk := h.ok p (by simp)
        refine ⟨hpk.gl.app (GL.one hc), by simp, .inl ?_⟩
        unfold digs at hp ⊢
        rw [Bool.and_eq_true] at hp ⊢
        refine ⟨by simp, ?_⟩
        rw [List.all_append, hp.2]
        simp [hd]
    · have := h.fl
      rw [List.flatten_append] at this ⊢
      simp at this ⊢
      rw [← List.append_assoc, this]
  · rw [e]
    refine ⟨fun q hq => ?_, ?_⟩
    · rcases List.mem_append.mp hq with hq | hq
      · exact h.ok q hq
      · have hq : q = [c] := by simpa using hq
        subst hq
        exact piece_one hc
    · rw [List.flatten_append, h.fl]
      simp
theorem cut_fold : ∀ (r : List Nat) (acc : List (List Nat)) (l : List Nat), CutOk acc l → GL r → CutOk (r.foldl cutStep acc) (l ++ r)
  | [], acc, l, h, _ => by simpa using h
  | c :: r, acc, l, h, hr => by
    have := cut_fold r (cutStep acc c) (l ++ [c]) (cut_step h (hr c List.mem_cons_self)) fun d hd => hr d (List.mem_cons_of_mem _ hd)
    rw [List.append_assoc] at this
    exact this
theorem pieces_ok {whole : Bool} {l : List Nat} (h : GL l) : CutOk (pieces whole l) l := by
  unfold pieces
  cases whole with
  | true => exact cut_fold l [] [] ⟨fun _ hp => absurd hp (by simp), rfl⟩ h
  | false =>
    refine ⟨fun p hp => ?_, ?_⟩
    · obtain ⟨c, hc, rfl⟩ := List.mem_map.mp hp
      exact piece_one (h c hc)
    · show (l.map fun c => [c]).flatten = l
      induction l with
      | nil => rfl
      | cons c l ih =>
        rw [List.map_cons, List.flatten_cons, ih fun d hd => h d (List.mem_cons_of_mem _ hd)]
        rfl
theorem flat_len : ∀ (ps : List (List Nat)), (∀ p ∈ ps, p ≠ []) → ps.length ≤ ps.flatten.length ∧ ∀ p ∈ ps, p.length ≤ ps.flatten.length
  | [], _ => ⟨Nat.le_refl _, fun _ h => absurd h (by simp)⟩
  | p :: ps, h => by
    obtain ⟨h1, h2⟩ := flat_len ps fun q hq => h q (List.mem_cons_of_mem _ hq)
    have hp : 0 < p.length := List.length_pos_iff.mpr (h p List.mem_cons_self)
    rw [List.flatten_cons, List.length_append, List.length_cons]
    refine ⟨by omega, fun q hq => ?_⟩
    rcases List.mem_cons.mp hq with rfl | hq
    · omega
    · have := h2 q hq
      omega
theorem CutOk.len {acc : List (List Nat)} {l : List Nat} (h : CutOk acc l) : acc.length ≤ l.length ∧ ∀ p ∈ acc, p.length ≤ l.length := by
  have := flat_len acc fun p hp => (h.ok p hp).ne
  rw [h.fl] at this
  exact this

/-! ### rules -/
inductive Cs where | apart | mixed | together | last
  deriving DecidableEq
inductive Fg where | signs | numbers | strict
  deriving DecidableEq
structure Rl where
  c : Cs
  f : Fg
  b : Bool
  e : Bool
  t : Bool
  deriving DecidableEq
def Cs.w : Cs → Str
  | .apart => "apart" | .mixed => "mixed" | .together => "together" | .last => "last"
def Fg.w : Fg → Str
  | .signs => "signs" | .numbers => "numbers" | .strict => "strict"
def barW (b : Bool) : Str := if b then "ahead" else "behind"
def endW (b : Bool) : Str := if b then "first" else "behind"
def Rl.data (r : Rl) : PyData := .tuple [.str r.c.w, .str r.f.w, .str (barW r.b), .str (endW r.e), .int (if r.t then 1 else 0)]
def Fg.whole : Fg → Bool
  | .signs => false
  | _ => true

/-! ### ranks -/
abbrev Tr := Int × Int × Int
def sm (c : Nat) : Int := if sml c then 1 else 0
def lw (c : Nat) : Int := if cap c then 0 else 1
def letT (cs : Cs) (c : Nat) : Tr := match cs with
  | .apart => (3, sm c, (loC c : Nat))
  | .mixed => (3, (loC c : Nat), sm c)
  | _ => (3, (loC c : Nat), 0)
def trip (cs : Cs) (b : Bool) (p : List Nat) : Tr := if p = [95] then (if b then 1 else 4, 0, 0) else if digs p then (2, numOf p, 0) else letT cs (p.headD 0)
def letR (cs : Cs) (c : Nat) : List Int := match cs with
  | .apart => [1, lw c, (upC c : Nat)]
  | .mixed => [1, (upC c : Nat), lw c]
  | _ => [1, (upC c : Nat)]
def lrank (cs : Cs) (b : Bool) (p : List Nat) : List Int := if p = [95] then [if b then -1 else 9] else if digs p then [0, numOf p] else letR cs (p.headD 0)
def trD (t : Tr) : PyData := .tuple [.int t.1, .int t.2.1, .int t.2.2]
def tcmp (t u : Tr) : Int := orC (icmp t.1 u.1) (orC (icmp t.2.1 u.2.1) (icmp t.2.2 u.2.2))
def rcmp (a b : List Int) : Int := dcmp (.list (a.map .int)) (.list (b.map .int))
theorem alike_int {a b : Int} : PySem.W.alike (.int a) (.int b) = true := by rw [PySem.W.alike]
theorem alike_tr (t u : Tr) : PySem.W.alike (trD t) (trD u) = true := by
  unfold trD
  rw [PySem.W.alike, PySem.W.alikeAll, PySem.W.alikeAll, PySem.W.alikeAll, PySem.W.alikeAll, alike_int, alike_int, alike_int]
  rfl
theorem dcmp_tr (t u : Tr) : dcmp (trD t) (trD u) = tcmp t u := by
  unfold trD tcmp
  rw [dcmp_consT' alike_int, dcmp_cons' alike_int, dcmp_cons' alike_int, dcmp_int, dcmp_int, dcmp_int, dcmp_nil, orC_zero]
theorem icmp_self (a : Int) : icmp a a = 0 := by unfold icmp; rw [if_pos rfl]
theorem icmp_lt {a b : Int} (h : a < b) : icmp a b = -1 := by unfold icmp; rw [if_neg (by omega), if_pos h]
theorem icmp_gt {a b : Int} (h : b < a) : icmp a b = 1 := by unfold icmp; rw [if_neg (by omega), if_neg (by omega)]
theorem orC_lt {a b x : Int} (h : a < b) : orC (icmp a b) x = -1 := by rw [icmp_lt h]; rfl
theorem orC_gt {a b x : Int} (h : b < a) : orC (icmp a b) x = 1 := by rw [icmp_gt h]; rfl
theorem orC_same {a x : Int} : orC (icmp a a) x = x := by rw [icmp_self]; rfl
theorem rcmp_cons (a b : Int) (l m : List Int) : rcmp (a :: l) (b :: m) = orC (icmp a b) (rcmp l m) := by
  unfold rcmp
  rw [List.map_cons, List.map_cons, dcmp_cons' alike_int, dcmp_int]
theorem rcmp_nil : rcmp [] [] = 0 := dcmp_nil
def letter (c : Nat) : Bool := cap c || sml c
/-- what a piece is -/
theorem kinds {p : List Nat} (h : PieceOk p) : p = [95] ∨ (p ≠ [95] ∧ digs p = true) ∨ (p ≠ [95] ∧ digs p = false ∧ ∃ c, p = [c] ∧ letter c = true) := by
  by_cases hb : p = [95]
  · exact .inl hb
  · right
    rcases h.kd with hd | ⟨c, rfl, hd⟩
    · exact .inl ⟨hb, hd⟩
    · refine .inr ⟨hb, by unfold digs; simp [hd], c, rfl, ?_⟩
      have hg := h.gl c (by simp)
      unfold good at hg
      unfold dig at hd
      unfold letter cap sml
      have hb : c ≠ 95 := fun z => hb (by rw [z])
      simp only [Bool.or_eq_true, Bool.and_eq_true, decide_eq_true_eq] at hg ⊢
      simp only [Bool.and_eq_false_iff, decide_eq_false_iff_not] at hd
      omega
theorem let_cmp (cs : Cs) : ∀ c d : Nat, letter c = true → letter d = true → tcmp (letT cs c) (letT cs d) = rcmp (letR cs c) (letR cs d) := by
  intro c d hc hd
  have e1 : ∀ c, letter c = true → sm c = lw c := fun c h => by
    unfold letter cap sml at h
    unfold sm lw sml cap
    simp only [Bool.or_eq_true, Bool.and_eq_true, decide_eq_true_eq] at h ⊢
    split <;> split <;> omega
  have e2 : ∀ c, letter c = true → (loC c : Int) = (upC c : Int) + 32 := fun c h => by
    unfold letter cap sml at h
    unfold loC upC sml cap
    simp only [Bool.or_eq_true, Bool.and_eq_true, decide_eq_true_eq] at h ⊢
    split <;> split <;> omega
  have e3 : icmp (loC c : Nat) (loC d : Nat) = icmp (upC c : Nat) (upC d : Nat) := by
    rw [e2 c hc, e2 d hd]
    unfold icmp
    split <;> split <;> (try split) <;> (try split) <;> omega
  cases cs with
  | apart =>
    show tcmp (3, sm c, (loC c : Nat)) (3, sm d, (loC d : Nat)) = rcmp [1, lw c, (upC c : Nat)] [1, lw d, (upC d : Nat)]
    unfold tcmp
    rw [rcmp_cons, rcmp_cons, rcmp_cons, rcmp_nil, orC_zero, orC_same, orC_same, e1 c hc, e1 d hd, e3]
  | mixed =>
    show tcmp (3, (loC c : Nat), sm c) (3, (loC d : Nat), sm d) = rcmp [1, (upC c : Nat), lw c] [1, (upC d : Nat), lw d]
    unfold tcmp
    rw [rcmp_cons, rcmp_cons, rcmp_cons, rcmp_nil, orC_zero, orC_same, orC_same, e1 c hc, e1 d hd, e3]
  | together =>
    show tcmp (3, (loC c : Nat), 0) (3, (loC d : Nat), 0) = rcmp [1, (upC c : Nat)] [1, (upC d : Nat)]
    unfold tcmp
    rw [rcmp_cons, rcmp_cons, rcmp_nil, orC_zero, orC_same, orC_same, e3, icmp_self, orC_zero]
  | last =>
    show tcmp (3, (loC c : Nat), 0) (3, (loC d : Nat), 0) = rcmp [1, (upC c : Nat)] [1, (upC d : Nat)]
    unfold tcmp
    rw [rcmp_cons, rcmp_cons, rcmp_nil, orC_zero, orC_same, orC_same, e3, icmp_self, orC_zero]
theorem letT_fst (cs : Cs) (c : Nat) : (letT cs c).1 = 3 := by cases cs <;> rfl
theorem letR_cons (cs : Cs) (c : Nat) : ∃ r, letR cs c = 1 :: r := by cases cs <;> exact ⟨_, rfl⟩
theorem trip_bar (cs : Cs) (b : Bool) : trip cs b [95] = (if b then 1 else 4, 0, 0) := by unfold trip; rw [if_pos rfl]
theorem trip_num (cs : Cs) (b : Bool) {p : List Nat} (n : p ≠ [95]) (d : digs p = true) : trip cs b p = (2, numOf p, 0) := by unfold trip; rw [if_neg n, if_pos d]
theorem trip_let (cs : Cs) (b : Bool) {c : Nat} (n : [c] ≠ [95]) (d : digs [c] = false) : trip cs b [c] = letT cs c := by
  unfold trip
  rw [if_neg n, if_neg (show ¬ digs [c] = true by rw [d]; decide)]
  rfl
theorem lrank_bar (cs : Cs) (b : Bool) : lrank cs b [95] = [if b then -1 else 9] := by unfold lrank; rw [if_pos rfl]
theorem lrank_num (cs : Cs) (b : Bool) {p : List Nat} (n : p ≠ [95]) (d : digs p = true) : lrank cs b p = [0, numOf p] := by unfold lrank; rw [if_neg n, if_pos d]
theorem lrank_let (cs : Cs) (b : Bool) {c : Nat} (n : [c] ≠ [95]) (d : digs [c] = false) : lrank cs b [c] = letR cs c := by
  unfold lrank
  rw [if_neg n, if_neg (show ¬ digs [c] = true by rw [d]; decide)]
  rfl
theorem tcmp_lt {t u : Tr} (h : t.1 < u.1) : tcmp t u = -1 := by unfold tcmp; exact orC_lt h
theorem tcmp_gt {t u : Tr} (h : u.1 < t.1) : tcmp t u = 1 := by unfold tcmp; exact orC_gt h
theorem rcmp_lt {a b : Int} {l m : List Int} (h : a < b) : rcmp (a :: l) (b :: m) = -1 := by rw [rcmp_cons]; exact orC_lt h
theorem rcmp_gt {a b : Int} {l m : List Int} (h : b < a) : rcmp (a :: l) (b :: m) = 1 := by rw [rcmp_cons]; exact orC_gt h
theorem piece_cmp (cs : Cs) (b : Bool) {p q : List Nat} (hp : PieceOk p) (hq : PieceOk q) : tcmp (trip cs b p) (trip cs b q) = rcmp (lrank cs b p) (lrank cs b q) := by
  rcases kinds hp with e1 | ⟨n1, d1⟩ | ⟨n1, d1, c, e1, l1⟩ <;> rcases kinds hq with e2 | ⟨n2, d2⟩ | ⟨n2, d2, d, e2, l2⟩
  · rw [e1, e2, trip_bar, lrank_bar]
    unfold tcmp
    rw [rcmp_cons, rcmp_nil, orC_zero, icmp_self, icmp_self, icmp_self]
    rfl
  · rw [e1, trip_bar, lrank_bar, trip_num cs b n2 d2, lrank_num cs b n2 d2]
    cases b with
    | true => exact (tcmp_lt (show (1 : Int) < 2 by decide)).trans (rcmp_lt (show (-1 : Int) < 0 by decide)).symm
    | false => exact (tcmp_gt (show (2 : Int) < 4 by decide)).trans (rcmp_gt (show (0 : Int) < 9 by decide)).symm
  · subst e2
    obtain ⟨r, er⟩ := letR_cons cs d
    rw [e1, trip_bar, lrank_bar, trip_let cs b n2 d2, lrank_let cs b n2 d2, er]
    cases b with
    | true => exact (tcmp_lt (show (1 : Int) < (letT cs d).1 by rw [letT_fst]; decide)).trans (rcmp_lt (show (-1 : Int) < 1 by decide)).symm
    | false => exact (tcmp_gt (show (letT cs d).1 < (4 : Int) by rw [letT_fst]; decide)).trans (rcmp_gt (show (1 : Int) < 9 by decide)).symm
  · rw [e2, trip_bar, lrank_bar, trip_num cs b n1 d1, lrank_num cs b n1 d1]
    cases b with
    | true => exact (tcmp_gt (show (1 : Int) < 2 by decide)).trans (rcmp_gt (show (-1 : Int) < 0 by decide)).symm
    | false => exact (tcmp_lt (show (2 : Int) < 4 by decide)).trans (rcmp_lt (show (0 : Int) < 9 by decide)).symm
  · rw [trip_num cs b n1 d1, lrank_num cs b n1 d1, trip_num cs b n2 d2, lrank_num cs b n2 d2]
    unfold tcmp
    rw [rcmp_cons, rcmp_cons, rcmp_nil]
    show orC (icmp 2 2) (orC (icmp (numOf p) (numOf q)) (icmp 0 0)) = _
    rw [orC_same, orC_same, icmp_self]
  · subst e2
    obtain ⟨r, er⟩ := letR_cons cs d
    rw [trip_num cs b n1 d1, lrank_num cs b n1 d1, trip_let cs b n2 d2, lrank_let cs b n2 d2, er, tcmp_lt (show (2 : Int) < (letT cs d).1 by rw [letT_fst]; decide), rcmp_lt (show (0 : Int) < 1 by decide)]
  · subst e1
    obtain ⟨r, er⟩ := letR_cons cs c
    rw [e2, trip_bar, lrank_bar, trip_let cs b n1 d1, lrank_let cs b n1 d1, er]
    cases b with
    | true => exact (tcmp_gt (show (1 : Int) < (letT cs c).1 by rw [letT_fst]; decide)).trans (rcmp_gt (show (-1 : Int) < 1 by decide)).symm
    | false => exact (tcmp_lt (show (letT cs c).1 < (4 : Int) by rw [letT_fst]; decide)).trans (rcmp_lt (show (1 : Int) < 9 by decide)).symm
  · subst e1
    obtain ⟨r, er⟩ := letR_cons cs c
    rw [trip_num cs b n2 d2, lrank_num cs b n2 d2, trip_let cs b n1 d1, lrank_let cs b n1 d1, er, tcmp_gt (show (2 : Int) < (letT cs c).1 by rw [letT_fst]; decide), rcmp_gt (show (0 : Int) < 1 by decide)]
  · subst e1 e2
    rw [trip_let cs b n1 d1, lrank_let cs b n1 d1, trip_let cs b n2 d2, lrank_let cs b n2 d2]
    exact let_cmp cs c d l1 l2
theorem trip_mid (cs : Cs) (b : Bool) (p : List Nat) : 0 < (trip cs b p).1 ∧ (trip cs b p).1 < 5 := by
  unfold trip
  split
  · cases b <;> exact ⟨by decide, by decide⟩
  · split
    · exact ⟨show (0 : Int) < 2 by decide, show (2 : Int) < 5 by decide⟩
    · rw [letT_fst]; exact ⟨by decide, by decide⟩

/-! ### looks -/
def endT (e : Bool) : Tr := (if e then 0 else 5, 0, 0)
/-- the key of one look -/
def lookD (cs : Cs) (b e : Bool) (ps : List (List Nat)) : PyData := .list (ps.map (fun p => trD (trip cs b p)) ++ [trD (endT e)])
/-- one look, piece by piece -/
def onceC (cs : Cs) (b e : Bool) : List (List Nat) → List (List Nat) → Int
  | [], [] => 0
  | [], _ :: _ => if e then -1 else 1
  | _ :: _, [] => if e then 1 else -1
  | p :: ps, q :: qs => orC (rcmp (lrank cs b p) (lrank cs b q)) (onceC cs b e ps qs)
theorem end_lt (cs : Cs) (b : Bool) (p : List Nat) (e : Bool) (x : Int) : orC (tcmp (endT e) (trip cs b p)) x = if e then -1 else 1 := by
  obtain ⟨h1, h2⟩ := trip_mid cs b p
  unfold tcmp endT
  cases e with
  | true => rw [if_pos rfl, orC_assoc, orC_lt h1]; rfl
  | false =>
    show orC (orC (icmp 5 _) _) _ = 1
    rw [orC_assoc, orC_gt h2]
theorem end_gt (cs : Cs) (b : Bool) (p : List Nat) (e : Bool) (x : Int) : orC (tcmp (trip cs b p) (endT e)) x = if e then 1 else -1 := by
  obtain ⟨h1, h2⟩ := trip_mid cs b p
  unfold tcmp endT
  cases e with
  | true => rw [if_pos rfl, orC_assoc, orC_gt h1]; rfl
  | false =>
    show orC (orC (icmp _ 5) _) _ = -1
    rw [orC_assoc, orC_lt h2]
theorem look_cmp (cs : Cs) (b e : Bool) : ∀ (ps qs : List (List Nat)), (∀ p ∈ ps, PieceOk p) → (∀ q ∈ qs, PieceOk q) → dcmp (lookD cs b e ps) (lookD cs b e qs) = onceC cs b e ps qs
  | [], [], _, _ => by
    unfold lookD onceC
    show dcmp (.list [_]) (.list [_]) = 0
    rw [dcmp_cons' (alike_tr _ _), dcmp_tr, dcmp_nil, orC_zero]
    unfold tcmp
    rw [icmp_self, icmp_self, icmp_self]
    rfl
  | [], q :: qs, _, _ => by
    unfold lookD onceC
    show dcmp (.list [_]) (.list (_ :: _)) = _
    rw [dcmp_cons' (alike_tr _ _), dcmp_tr, end_lt]
  | p :: ps, [], _, _ => by
    unfold lookD onceC
    show dcmp (.list (_ :: _)) (.list [_]) = _
    rw [dcmp_cons' (alike_tr _ _), dcmp_tr, end_gt]
  | p :: ps, q :: qs, hp, hq => by
    have ih := look_cmp cs b e ps qs (fun x hx => hp x (List.mem_cons_of_mem _ hx)) (fun x hx => hq x (List.mem_cons_of_mem _ hx))
    unfold lookD at ih ⊢
    unfold onceC
    show dcmp (.list (trD (trip cs b p) :: (ps.map _ ++ _))) (.list (trD (trip cs b q) :: (qs.map _ ++ _))) = _
    rw [dcmp_cons' (alike_tr _ _), dcmp_tr, ih, piece_cmp cs b (hp p List.mem_cons_self) (hq q List.mem_cons_self)]
end Den

end
-- DenO
section
set_option Elab.async false
set_option linter.all false
set_option maxRecDepth 100000
set_option maxHeartbeats 1000000
namespace Den
open PySem PySem.Spec PyProof.Rows L2
variable [TB : Tabl]

/-! ### the letters -/
def letD (l : List Nat) : PyData := .list ((l.filter letter).map fun c => sd [c])
theorem alike_str {a b : Str} : PySem.W.alike (.str a) (.str b) = true := by rw [PySem.W.alike]
theorem list_lt_one (c d : Nat) : decide ([c] < [d]) = decide (c < d) := by
  apply decide_eq_decide.mpr
  constructor
  · intro h
    rcases List.cons_lt_cons_iff.mp h with h | ⟨_, h⟩
    · exact h
    · exact absurd h (by simp)
  · intro h
    exact List.cons_lt_cons_iff.mpr (.inl h)
theorem dcmp_sign (c d : Nat) : dcmp (sd [c]) (sd [d]) = icmp c d := by
  unfold dcmp icmp
  rw [eqv_str, PySem.W.dataLt_str, tx_cps, tx_cps, list_lt_one]
  by_cases h : c = d
  · rw [if_pos (by simp [h]), if_pos (by rw [h])]
  · have h' : ¬ (c : Int) = (d : Int) := by omega
    rw [if_neg (by simp [h]), if_neg h']
    by_cases h2 : c < d
    · have h3 : (c : Int) < (d : Int) := by omega
      rw [if_pos (decide_eq_true h2), if_pos h3]
    · have h3 : ¬ (c : Int) < (d : Int) := by omega
      rw [if_neg (by simp [h2]), if_neg h3]
theorem orC_eq0 {a b : Int} (h : orC a b = 0) : a = 0 ∧ b = 0 := by
  unfold orC at h
  split at h
  · exact ⟨by assumption, h⟩
  · exact absurd h (by assumption)
theorem icmp_eq0 {a b : Int} (h : icmp a b = 0) : a = b := by
  unfold icmp at h
  split at h
  · assumption
  · split at h <;> cases h
theorem filt_digs {p : List Nat} (h : digs p = true) : p.filter letter = [] := by
  obtain ⟨_, h2⟩ := digs_ok h
  rw [List.filter_eq_nil_iff]
  intro c hc
  have := h2 c hc
  unfold letter cap sml
  simp only [Bool.or_eq_true, Bool.and_eq_true, decide_eq_true_eq]
  omega
theorem letD_app (p l : List Nat) (h : p.filter letter = []) : letD (p ++ l) = letD l := by
  unfold letD
  rw [List.filter_append, h, List.nil_append]
theorem letD_cons (c : Nat) (l : List Nat) (h : letter c = true) : letD ([c] ++ l) = .list (sd [c] :: (l.filter letter).map fun c => sd [c]) := by
  unfold letD
  rw [List.filter_append, List.filter_cons, if_pos h]
  rfl
theorem let_low {c d : Nat} (hc : letter c = true) (hd : letter d = true) (h : upC c = upC d) : icmp c d = icmp (lw c) (lw d) := by
  unfold letter cap sml at hc hd
  unfold upC sml at h
  unfold icmp lw cap
  simp only [Bool.or_eq_true, Bool.and_eq_true, decide_eq_true_eq] at hc hd h ⊢
  split at h <;> split at h <;> (repeat' split) <;> omega
theorem let_look (b e : Bool) : ∀ (ps qs : List (List Nat)), (∀ p ∈ ps, PieceOk p) → (∀ q ∈ qs, PieceOk q) → onceC .together b e ps qs = 0 → dcmp (letD ps.flatten) (letD qs.flatten) = onceC .mixed b e ps qs
  | [], [], _, _, _ => dcmp_nil
  | [], q :: qs, _, _, h => by
    unfold onceC at h
    cases e <;> cases h
  | p :: ps, [], _, _, h => by
    unfold onceC at h
    cases e <;> cases h
  | p :: ps, q :: qs, hp, hq, h => by
    unfold onceC at h ⊢
    obtain ⟨h1, h2⟩ := orC_eq0 h
    have ih := let_look b e ps qs (fun x hx => hp x (List.mem_cons_of_mem _ hx)) (fun x hx => hq x (List.mem_cons_of_mem _ hx)) h2
    rw [List.flatten_cons, List.flatten_cons]
    rcases kinds (hp p List.mem_cons_self) with e1 | ⟨n1, d1⟩ | ⟨n1, d1, c, e1, l1⟩ <;> rcases kinds (hq q List.mem_cons_self) with e2 | ⟨n2, d2⟩ | ⟨n2, d2, d, e2, l2⟩
    · subst e1 e2
      rw [letD_app _ _ (by decide), letD_app _ _ (by decide), ih, lrank_bar]
      unfold rcmp
      rw [dcmp_intsL _ _ rfl]
      show _ = orC (orC (icmp _ _) 0) _
      rw [icmp_self]; rfl
    · subst e1
      rw [lrank_bar, lrank_num _ b n2 d2] at h1
      cases b with
      | true => exact absurd ((rcmp_lt (show (-1 : Int) < 0 by decide)).symm.trans h1) (by decide)
      | false => exact absurd ((rcmp_gt (show (0 : Int) < 9 by decide)).symm.trans h1) (by decide)
    · subst e1 e2
      rw [lrank_bar, lrank_let _ b n2 d2] at h1
      cases b with
      | true => exact absurd ((rcmp_lt (show (-1 : Int) < 1 by decide)).symm.trans h1) (by decide)
      | false => exact absurd ((rcmp_gt (show (1 : Int) < 9 by decide)).symm.trans h1) (by decide)
    · subst e2
      rw [lrank_bar, lrank_num _ b n1 d1] at h1
      cases b with
      | true => exact absurd ((rcmp_gt (show (-1 : Int) < 0 by decide)).symm.trans h1) (by decide)
      | false => exact absurd ((rcmp_lt (show (0 : Int) < 9 by decide)).symm.trans h1) (by decide)
    · rw [letD_app _ _ (filt_digs d1), letD_app _ _ (filt_digs d2), ih]
      rw [lrank_num _ b n1 d1, lrank_num _ b n2 d2] at h1 ⊢
      rw [h1, orC_right]
    · subst e2
      rw [lrank_num _ b n1 d1, lrank_let _ b n2 d2] at h1
      exact absurd ((rcmp_lt (show (0 : Int) < 1 by decide)).symm.trans h1) (by decide)
    · subst e1 e2
      rw [lrank_bar, lrank_let _ b n1 d1] at h1
      cases b with
      | true => exact absurd ((rcmp_gt (show (-1 : Int) < 1 by decide)).symm.trans h1) (by decide)
      | false => exact absurd ((rcmp_lt (show (1 : Int) < 9 by decide)).symm.trans h1) (by decide)
    · subst e1
      rw [lrank_num _ b n2 d2, lrank_let _ b n1 d1] at h1
      exact absurd ((rcmp_gt (show (0 : Int) < 1 by decide)).symm.trans h1) (by decide)
    · subst e1 e2
      rw [lrank_let _ b n1 d1, lrank_let _ b n2 d2] at h1 ⊢
      have h3 : upC c = upC d := by
        have h1 : rcmp [1, (upC c : Int)] [1, (upC d : Int)] = 0 := h1
        rw [rcmp_cons, rcmp_cons, rcmp_nil, orC_same, orC_zero] at h1
        have := icmp_eq0 h1
        omega
      rw [letD_cons _ _ l1, letD_cons _ _ l2, dcmp_cons' alike_str, dcmp_sign]
      show orC _ (dcmp (letD ps.flatten) (letD qs.flatten)) = orC (rcmp [1, (upC c : Int), lw c] [1, (upC d : Int), lw d]) _
      rw [ih, rcmp_cons, rcmp_cons, rcmp_cons, rcmp_nil, orC_same, h3, orC_same, orC_zero, let_low l1 l2 h3]

/-! ### the key -/
theorem alikeAll_of {xs ys : List PyData} (h : ∀ x ∈ xs, ∀ y ∈ ys, PySem.W.alike x y = true) : PySem.W.alikeAll xs ys = true := by
  induction xs generalizing ys with
  | nil => rw [PySem.W.alikeAll]
  | cons x xs ih =>
    cases ys with
    | nil => rw [PySem.W.alikeAll]
    | cons y ys =>
      rw [PySem.W.alikeAll, h x List.mem_cons_self y List.mem_cons_self, ih fun a ha b hb => h a (List.mem_cons_of_mem _ ha) b (List.mem_cons_of_mem _ hb)]
      rfl
theorem look_mem {cs : Cs} {b e : Bool} {ps : List (List Nat)} {x : PyData} (h : x ∈ ps.map (fun p => trD (trip cs b p)) ++ [trD (endT e)]) : ∃ t, x = trD t := by
  rcases List.mem_append.mp h with h | h
  · obtain ⟨p, _, rfl⟩ := List.mem_map.mp h
    exact ⟨_, rfl⟩
  · exact ⟨_, by simpa using h⟩
theorem alike_look (cs : Cs) (b e : Bool) (ps qs : List (List Nat)) : PySem.W.alike (lookD cs b e ps) (lookD cs b e qs) = true := by
  unfold lookD
  rw [PySem.W.alike]
  refine alikeAll_of fun x hx y hy => ?_
  obtain ⟨t, rfl⟩ := look_mem hx
  obtain ⟨u, rfl⟩ := look_mem hy
  exact alike_tr t u
theorem alike_let (l m : List Nat) : PySem.W.alike (letD l) (letD m) = true := by
  unfold letD
  rw [PySem.W.alike]
  refine alikeAll_of fun x hx y hy => ?_
  obtain ⟨c, _, rfl⟩ := List.mem_map.mp hx
  obtain ⟨d, _, rfl⟩ := List.mem_map.mp hy
  exact alike_str
def keyL (r : Rl) (l : List Nat) : List PyData := lookD r.c r.b r.e (pieces r.f.whole l) :: ((if r.f = .strict then [lookD r.c r.b r.e (pieces false l)] else []) ++ (if r.c = .last then [letD l] else []))
def keyD (r : Rl) (l : List Nat) : PyData := .list (keyL r l)
theorem alike_key (r : Rl) (l m : List Nat) : PySem.W.alike (keyD r l) (keyD r m) = true := by
  unfold keyD keyL
  rw [PySem.W.alike, PySem.W.alikeAll, alike_look]
  by_cases h1 : r.f = .strict <;> by_cases h2 : r.c = .last
  · rw [if_pos h1, if_pos h1, if_pos h2, if_pos h2]
    show (true && PySem.W.alikeAll [_, _] [_, _]) = true
    rw [PySem.W.alikeAll, PySem.W.alikeAll, PySem.W.alikeAll, alike_look, alike_let]; rfl
  · rw [if_pos h1, if_pos h1, if_neg h2, if_neg h2]
    show (true && PySem.W.alikeAll [_] [_]) = true
    rw [PySem.W.alikeAll, PySem.W.alikeAll, alike_look]; rfl
  · rw [if_neg h1, if_neg h1, if_pos h2, if_pos h2]
    show (true && PySem.W.alikeAll [_] [_]) = true
    rw [PySem.W.alikeAll, PySem.W.alikeAll, alike_let]; rfl
  · rw [if_neg h1, if_neg h1, if_neg h2, if_neg h2]
    show (true && PySem.W.alikeAll [] []) = true
    rw [PySem.W.alikeAll]; rfl
def Cs.first : Cs → Cs
  | .last => .together
  | c => c
theorem lrank_first (cs : Cs) (b : Bool) (p : List Nat) : lrank cs.first b p = lrank cs b p := by cases cs <;> rfl
theorem once_first (cs : Cs) (b e : Bool) : ∀ ps qs, onceC cs.first b e ps qs = onceC cs b e ps qs
  | [], [] => by unfold onceC; rfl
  | [], _ :: _ => by unfold onceC; rfl
  | _ :: _, [] => by unfold onceC; rfl
  | p :: ps, q :: qs => by unfold onceC; rw [lrank_first, lrank_first, once_first cs b e ps qs]
/-- the comparison, not turned -/
def told0 (r : Rl) (l m : List Nat) : Int := orC (onceC r.c.first r.b r.e (pieces r.f.whole l) (pieces r.f.whole m))
  (orC (if r.f = .strict then onceC r.c.first r.b r.e (pieces false l) (pieces false m) else 0) (if r.c = .last then onceC .mixed r.b r.e (pieces r.f.whole l) (pieces r.f.whole m) else 0))
def told (r : Rl) (l m : List Nat) : Int := if r.t then -told0 r l m else told0 r l m
theorem key_cmp (r : Rl) {l m : List Nat} (hl : GL l) (hm : GL m) : dcmp (keyD r l) (keyD r m) = told0 r l m := by
  have o1 := pieces_ok (whole := r.f.whole) hl
  have o2 := pieces_ok (whole := r.f.whole) hm
  have o3 := pieces_ok (whole := false) hl
  have o4 := pieces_ok (whole := false) hm
  have k1 := look_cmp r.c r.b r.e _ _ o1.ok o2.ok
  have k2 := look_cmp r.c r.b r.e _ _ o3.ok o4.ok
  unfold keyD keyL told0
  rw [dcmp_cons' (alike_look _ _ _ _ _), k1, once_first, once_first]
  by_cases hz : onceC r.c r.b r.e (pieces r.f.whole l) (pieces r.f.whole m) = 0
  · rw [hz, orC_right, orC_right]
    have k3 : r.c = .last → dcmp (letD l) (letD m) = onceC .mixed r.b r.e (pieces r.f.whole l) (pieces r.f.whole m) := fun h => by
      have := let_look r.b r.e _ _ o1.ok o2.ok (by rw [← once_first, h] at hz; exact hz)
      rw [o1.fl, o2.fl] at this
      exact this
    by_cases h1 : r.f = .strict <;> by_cases h2 : r.c = .last
    · rw [if_pos h1, if_pos h1, if_pos h1, if_pos h2, if_pos h2, if_pos h2]
      show dcmp (.list [_, _]) (.list [_, _]) = _
      rw [dcmp_cons' (alike_look _ _ _ _ _), dcmp_cons' (alike_let _ _), dcmp_nil, orC_zero, k2, k3 h2]
    · rw [if_pos h1, if_pos h1, if_pos h1, if_neg h2, if_neg h2, if_neg h2]
      show dcmp (.list [_]) (.list [_]) = _
      rw [dcmp_cons' (alike_look _ _ _ _ _), dcmp_nil, k2]
    · rw [if_neg h1, if_neg h1, if_neg h1, if_pos h2, if_pos h2, if_pos h2]
      show dcmp (.list [_]) (.list [_]) = _
      rw [dcmp_cons' (alike_let _ _), dcmp_nil, orC_zero, k3 h2, orC_right]
    · rw [if_neg h1, if_neg h1, if_neg h1, if_neg h2, if_neg h2, if_neg h2]
      exact dcmp_nil
  · rw [orC_left hz, orC_left hz]
theorem told_anti (r : Rl) {l m : List Nat} (hl : GL l) (hm : GL m) : told r m l = -told r l m := by
  have := dcmp_anti (alike_key r l m) (alike_key r m l)
  rw [key_cmp r hl hm, key_cmp r hm hl] at this
  unfold told
  cases r.t <;> simp [this]
theorem told_self (r : Rl) {l : List Nat} (hl : GL l) : told r l l = 0 := by
  have := told_anti r hl hl
  omega
theorem told_mem (r : Rl) {l m : List Nat} (hl : GL l) (hm : GL m) : told r l m = -1 ∨ told r l m = 0 ∨ told r l m = 1 := by
  have := dcmp_mem (keyD r l) (keyD r m)
  rw [key_cmp r hl hm] at this
  unfold told
  cases r.t with
  | false => exact this
  | true => rcases this with h | h | h <;> (rw [h]; decide)
def Rl.turn (r : Rl) : Rl := { r with t := !r.t }
theorem told_turn (r : Rl) (l m : List Nat) : told r.turn l m = -told r l m := by
  unfold told
  have : told0 r.turn l m = told0 r l m := rfl
  rw [this]
  show (if (!r.t) = true then _ else _) = _
  cases r.t <;> simp
theorem told_subst (r : Rl) {l m n : List Nat} (hl : GL l) (hm : GL m) (hn : GL n) (h : told r l m = 0) : told r l n = told r m n := by
  have h0 : told0 r l m = 0 := by
    unfold told at h
    cases ht : r.t <;> rw [ht] at h
    · exact h
    · have : -told0 r l m = 0 := h
      omega
  have := dcmp_subst (alike_key r l m) (alike_key r l n) (alike_key r m n) (by rw [key_cmp r hl hm]; exact h0)
  rw [key_cmp r hl hn, key_cmp r hm hn] at this
  unfold told
  rw [this]
theorem told0_trans (r : Rl) {l m n : List Nat} (hl : GL l) (hm : GL m) (hn : GL n) (a : told0 r l m = -1) (b : told0 r m n < 1) : told0 r l n = -1 := by
  have := dcmp_trans (alike_key r l m) (alike_key r l n) (alike_key r m n) (by rw [key_cmp r hl hm]; exact a) (by rw [key_cmp r hm hn]; exact b)
  rw [key_cmp r hl hn] at this
  exact this
theorem told_trans (r : Rl) {l m n : List Nat} (hl : GL l) (hm : GL m) (hn : GL n) (a : told r l m = -1) (b : told r m n < 1) : told r l n = -1 := by
  cases ht : r.t with
  | false =>
    unfold told at a b ⊢
    rw [ht] at a b ⊢
    exact told0_trans r hl hm hn a b
  | true =>
    -- from behind: n, m, l
    have z : ∀ x y, told r.turn x y = told0 r x y := fun x y => by
      unfold told Rl.turn
      rw [ht]; rfl
    have f : told0 r l m = 1 ∧ -1 < told0 r m n := by
      unfold told at a b
      rw [ht] at a b
      have a : -told0 r l m = -1 := a
      have b : -told0 r m n < 1 := b
      omega
    have a1 : ∀ {x y : List Nat}, GL x → GL y → told0 r y x = -told0 r x y := fun {x y} hx hy => by
      have := dcmp_anti (alike_key r x y) (alike_key r y x)
      rw [key_cmp r hx hy, key_cmp r hy hx] at this
      exact this
    have m3 : told0 r m n = 0 ∨ told0 r m n = 1 := by
      have := dcmp_mem (keyD r m) (keyD r n)
      rw [key_cmp r hm hn] at this
      omega
    have g : told0 r l n = 1 := by
      rcases m3 with e | e
      · have := dcmp_subst (alike_key r n m) (alike_key r n l) (alike_key r m l) (by rw [key_cmp r hn hm, a1 hm hn, e]; rfl)
        rw [key_cmp r hn hl, key_cmp r hm hl, a1 hl hn, a1 hl hm, f.1] at this
        omega
      · have := told0_trans r hn hm hl (by rw [a1 hm hn, e]) (by rw [a1 hl hm, f.1]; decide)
        rw [a1 hl hn] at this
        omega
    unfold told
    rw [ht, g]; rfl
end Den

end
-- DenP
section
set_option Elab.async false
set_option linter.all false
set_option maxRecDepth 100000
set_option maxHeartbeats 1000000
namespace Den
open PySem PySem.Spec PyProof.Rows L2
variable [TB : Tabl]
/-! ### draws: what is known of them -/
structure DG' (n : Nat) (D : Dw) : Prop where
  l0 : 0 < D.1.length
  l1 : D.1.length ≤ 100000
  c0 : 0 ≤ D.2
  c1 : D.2 + (n : Int) ≤ 1000000
theorem DG'.mono {n m : Nat} {D : Dw} (h : DG' n D) (hm : m ≤ n) : DG' m D := ⟨h.l0, h.l1, h.c0, by have := h.c1; omega⟩
theorem drawOk_of {lim c : Int} {l : Nat} (h0 : 0 < lim) (h1 : lim ≤ 1000000) (l0 : 0 < l) (l1 : l ≤ 100000) (c0 : 0 ≤ c) (c1 : c ≤ 1000000) :
    (decide (0 < lim) && decide (lim < 1099511627776) && decide (0 < l) && decide (l ≤ 100000) && decide (0 ≤ c) && decide (c < 1099511627776)) = true := by
  simp only [Bool.and_eq_true, decide_eq_true_eq]
  omega
theorem draw_spec {n : Nat} {D : Dw} {lim : Int} (h : DG' (n + 1) D) (h0 : 0 < lim) (h1 : lim ≤ 1000000) : ∃ (r : Int) (D' : Dw), drawO lim D = some (.int r, D') ∧ 0 ≤ r ∧ r < lim ∧ DG' n D' := by
  have hc := h.c1
  have hd : drawOk lim D = true := drawOk_of h0 h1 h.l0 h.l1 h.c0 (by omega)
  refine ⟨(drawF lim D).1, (drawF lim D).2, by unfold drawO; rw [if_pos hd], ?_⟩
  unfold drawF
  split
  · exact ⟨Int.emod_nonneg _ (by omega), Int.emod_lt_of_pos _ h0, by show 0 < (D.1.set _ _).length; rw [List.length_set]; exact h.l0, by show (D.1.set _ _).length ≤ _; rw [List.length_set]; exact h.l1, by have := h.c0; show 0 ≤ D.2 + 1; omega, by show D.2 + 1 + (n : Int) ≤ 1000000; omega⟩
  · exact ⟨Int.emod_nonneg _ (by omega), Int.emod_lt_of_pos _ h0, h.l0, h.l1, by have := h.c0; show 0 ≤ D.2 + 1; omega, by show D.2 + 1 + (n : Int) ≤ 1000000; omega⟩
theorem call_draw {n : Nat} {D : Dw} {lim : Int} (h : DG' (n + 1) D) (h0 : 0 < lim) (h1 : lim ≤ 1000000) : ∃ (r : Int) (D' : Dw), drawPhi [.drw, .d (.int lim)] D = some (.int r, D') ∧ 0 ≤ r ∧ r < lim ∧ DG' n D' := draw_spec h h0 h1
/-! ### slices of texts -/
theorem cut_tx (l : List Nat) (lo hi : Option Int) : ∃ m, cutS (tx l) lo hi = tx m ∧ (∀ c ∈ m, c ∈ l) ∧ m.length ≤ l.length := by
  refine ⟨((l.drop (HT.sIx l.length 0 lo)).take (HT.sIx l.length l.length hi - HT.sIx l.length 0 lo)), ?_, fun c hc => List.mem_of_mem_drop (List.mem_of_mem_take hc), ?_⟩
  · unfold cutS
    rw [tx_cps, tx_len]
    rfl
  · rw [List.length_take, List.length_drop]; omega
theorem cut_first (l : List Nat) (k : Nat) : cutS (tx l) none (some (k : Int)) = tx (l.take k) := by
  unfold cutS
  rw [tx_cps, tx_len, HT.sIx_none, HT.sIx_nat, List.drop_zero, Nat.sub_zero]
  show tx _ = tx _
  congr 1
  by_cases h : k ≤ l.length
  · rw [Nat.min_eq_left h]
  · rw [Nat.min_eq_right (by omega), List.take_length, List.take_of_length_le (by omega)]
theorem good_up {c : Nat} (h : good c = true) : good (upC c) = true := by
  unfold good at h
  unfold upC sml
  simp only [Bool.or_eq_true, Bool.and_eq_true, decide_eq_true_eq] at h
  split <;> (unfold good; simp only [Bool.or_eq_true, Bool.and_eq_true, decide_eq_true_eq]; simp only [Bool.and_eq_true, decide_eq_true_eq] at *; omega)
theorem good_lo {c : Nat} (h : good c = true) : good (loC c) = true := by
  unfold good at h
  unfold loC cap
  simp only [Bool.or_eq_true, Bool.and_eq_true, decide_eq_true_eq] at h
  split <;> (unfold good; simp only [Bool.or_eq_true, Bool.and_eq_true, decide_eq_true_eq]; simp only [Bool.and_eq_true, decide_eq_true_eq] at *; omega)
end Den

end
-- DenSa
section
set_option Elab.async false
set_option linter.all false
set_option maxRecDepth 100000
set_option maxHeartbeats 1000000
namespace Den
open PySem PySem.Spec PyProof.Rows L2 PySem.W
/-! ### stable sorting -/
section
variable {α : Type} {le : α → α → Bool}
/-- an item goes behind all that are not behind it -/
theorem ins_sort (h : TotalLe le) (p : List α) (x : α) : (p.mergeSort le).filter (fun y => le y x) ++ [x] ++ (p.mergeSort le).filter (fun y => !le y x) = (p ++ [x]).mergeSort le := by
  have hs := sort_pairwise h p
  refine sort_unique h ?_ fun c => ?_
  · rw [List.append_assoc, List.pairwise_append]
    refine ⟨hs.filter _, ?_, fun a ha b hb => ?_⟩
    · rw [List.singleton_append, List.pairwise_cons]
      refine ⟨fun b hb => ?_, hs.filter _⟩
      have := (List.mem_filter.mp hb).2
      rcases h.total x b with k | k
      · exact k
      · rw [k] at this; cases this
    · have a1 := (List.mem_filter.mp ha).2
      rcases List.mem_append.mp hb with hb | hb
      · rw [List.mem_singleton.mp hb]; exact a1
      · have := (List.mem_filter.mp hb).2
        rcases h.total x b with k | k
        · exact h.trans _ _ _ a1 k
        · rw [k] at this; cases this
  · rw [List.filter_append, List.filter_append, List.filter_append, ← sort_stable h p c, List.filter_filter, List.filter_filter]
    have key : ∀ y ∈ p.mergeSort le, sameRank le c y = true → le y x = le c x := fun y _ hy => by
      unfold sameRank at hy
      rw [Bool.and_eq_true] at hy
      cases e1 : le c x with
      | true => exact h.trans _ _ _ hy.2 e1
      | false =>
        cases e2 : le y x with
        | true => rw [h.trans _ _ _ hy.1 e2] at e1; cases e1
        | false => rfl
    cases e : le c x with
    | true =>
      have e1 : (p.mergeSort le).filter (fun a => sameRank le c a && le a x) = (p.mergeSort le).filter (sameRank le c) := List.filter_congr fun y hy => by
        cases hs : sameRank le c y with
        | true => rw [key y hy hs, e]; rfl
        | false => rfl
      have e2 : (p.mergeSort le).filter (fun a => sameRank le c a && !le a x) = [] := List.filter_eq_nil_iff.mpr fun y hy => by
        cases hs : sameRank le c y with
        | true => rw [key y hy hs, e]; decide
        | false => exact Bool.false_ne_true
      rw [e1, e2, List.append_nil]
    | false =>
      have e1 : (p.mergeSort le).filter (fun a => sameRank le c a && le a x) = [] := List.filter_eq_nil_iff.mpr fun y hy => by
        cases hs : sameRank le c y with
        | true => rw [key y hy hs, e]; decide
        | false => exact Bool.false_ne_true
      have e2 : (p.mergeSort le).filter (fun a => sameRank le c a && !le a x) = (p.mergeSort le).filter (sameRank le c) := List.filter_congr fun y hy => by
        cases hs : sameRank le c y with
        | true => rw [key y hy hs, e]; rfl
        | false => rfl
      have e3 : [x].filter (sameRank le c) = [] := List.filter_eq_nil_iff.mpr fun y hy => by
        rw [List.mem_singleton.mp hy]
        unfold sameRank
        rw [e]; exact Bool.false_ne_true
      rw [e1, e2, e3, List.nil_append, List.append_nil, List.nil_append]
/-- what is in order stays as it is -/
theorem sort_done (h : TotalLe le) {l : List α} (hl : l.Pairwise (fun a b => le a b = true)) : l.mergeSort le = l := (sort_unique h hl fun _ => rfl).symm
theorem sort_idem (h : TotalLe le) (l : List α) : (l.mergeSort le).mergeSort le = l.mergeSort le := sort_done h (sort_pairwise h l)
/-- the reversed list by the order reversed -/
theorem sort_rev (h : TotalLe le) {ge : α → α → Bool} (hg : TotalLe ge) (hge : ∀ a b, ge a b = le b a) (l : List α) : l.reverse.mergeSort ge = (l.mergeSort le).reverse := by
  refine (sort_unique hg ?_ fun c => ?_).symm
  · rw [List.pairwise_reverse]
    exact (sort_pairwise h l).imp fun k => by rw [hge]; exact k
  · have e : sameRank ge c = sameRank le c := by
      funext a
      unfold sameRank
      rw [hge, hge, Bool.and_comm]
    rw [e, List.filter_reverse, List.filter_reverse, sort_stable h]
/-- lists of the same items where equal ones are the same -/
theorem sort_perm (h : TotalLe le) {l m : List α} (hp : l.Perm m) (he : ∀ a ∈ l, ∀ b ∈ l, sameRank le a b = true → a = b) : l.mergeSort le = m.mergeSort le := by
  refine sort_unique h (sort_pairwise h l) fun c => ?_
  rw [sort_stable h]
  have hl : (l.filter (sameRank le c)).length = (m.filter (sameRank le c)).length := (hp.filter _).length_eq
  match hf : l.filter (sameRank le c) with
  | [] =>
    rw [hf] at hl
    exact (List.eq_nil_of_length_eq_zero hl.symm).symm
  | a :: r =>
    have ha : a ∈ l.filter (sameRank le c) := by rw [hf]; exact List.mem_cons_self ..
    have all : ∀ b, b ∈ l → sameRank le c b = true → b = a := fun b hb hc => by
      have h1 := (List.mem_filter.mp ha).2
      unfold sameRank at h1 hc
      rw [Bool.and_eq_true] at h1 hc
      refine (he a (List.mem_filter.mp ha).1 b hb ?_).symm
      unfold sameRank
      rw [Bool.and_eq_true]
      exact ⟨h.trans _ _ _ h1.2 hc.1, h.trans _ _ _ hc.2 h1.1⟩
    rw [← hf]
    rw [List.eq_replicate_of_mem (a := a) (l := l.filter (sameRank le c)) fun b hb => all b (List.mem_filter.mp hb).1 (List.mem_filter.mp hb).2,
      List.eq_replicate_of_mem (a := a) (l := m.filter (sameRank le c)) fun b hb => all b (hp.mem_iff.mpr (List.mem_filter.mp hb).1) (List.mem_filter.mp hb).2, hl]
end
/-! ### texts sorted by a rule -/
variable [TB : Tabl]
theorem lt_told (r : Rl) {l m : List Nat} (hl : GL l) (hm : GL m) : dataLt (keyD r l) (keyD r m) = decide (told0 r l m = -1) := by
  have k := key_cmp r hl hm
  rw [dcmp_toks (alike_key r l m)] at k
  rw [← k]
  unfold dataLt
  by_cases e : keyToks (keyD r l) = keyToks (keyD r m)
  · rw [if_pos e, e, lex_irrefl]; rfl
  · rw [if_neg e]
    cases PyProof.Rows.lexLt itemOrd (keyToks (keyD r l)) (keyToks (keyD r m)) <;> rfl
/-- not behind, by a rule -/
def tle (r : Rl) : List Nat → List Nat → Bool := dataLe r.t (keyD r)
theorem tle_total (r : Rl) : TotalLe (tle r) := sortLe_total _ _ _
theorem tle_told (r : Rl) {l m : List Nat} (hl : GL l) (hm : GL m) : tle r l m = decide (told r l m < 1) := by
  have a := told_anti r hl hm
  have b := told_mem r hl hm
  have t0 : told0 r m l = -told0 r l m := by
    unfold told at a
    cases ht : r.t <;> rw [ht] at a
    · exact a
    · have : -told0 r m l = - -told0 r l m := a
      omega
  unfold tle dataLe sortLe told
  cases ht : r.t with
  | false =>
    have e : (listOrd itemOrd).blt (keyToks (keyD r m)) (keyToks (keyD r l)) = decide (told0 r m l = -1) := lt_told r hm hl
    show (!(listOrd itemOrd).blt (keyToks (keyD r m)) (keyToks (keyD r l))) = decide ((if false = true then _ else told0 r l m) < 1)
    rw [e, t0, if_neg Bool.false_ne_true, ← decide_not]
    unfold told at b
    rw [ht, if_neg Bool.false_ne_true] at b
    exact decide_eq_decide.mpr (by omega)
  | true =>
    have e : (listOrd itemOrd).blt (keyToks (keyD r l)) (keyToks (keyD r m)) = decide (told0 r l m = -1) := lt_told r hl hm
    show (!(listOrd itemOrd).blt (keyToks (keyD r l)) (keyToks (keyD r m))) = decide ((if true = true then -told0 r l m else _) < 1)
    rw [e, if_pos rfl, ← decide_not]
    unfold told at b
    rw [ht, if_pos rfl] at b
    exact decide_eq_decide.mpr (by omega)
theorem tle_turn (r : Rl) (l m : List Nat) : tle r.turn l m = tle r m l := by
  have e : keyD r.turn = keyD r := rfl
  unfold tle dataLe sortLe
  rw [e]
  show cond (!r.t) _ _ = _
  cases r.t <;> rfl
def srt (r : Rl) (xs : List (List Nat)) : List (List Nat) := xs.mergeSort (tle r)
theorem srt_perm (r : Rl) (xs : List (List Nat)) : (srt r xs).Perm xs := List.mergeSort_perm xs _
theorem srt_mem {r : Rl} {xs : List (List Nat)} {x : List Nat} : x ∈ srt r xs ↔ x ∈ xs := (srt_perm r xs).mem_iff
theorem srt_len (r : Rl) (xs : List (List Nat)) : (srt r xs).length = xs.length := (srt_perm r xs).length_eq
theorem srt_idem (r : Rl) (xs : List (List Nat)) : srt r (srt r xs) = srt r xs := sort_idem (tle_total r) xs
theorem srt_pair (r : Rl) (xs : List (List Nat)) : (srt r xs).Pairwise (fun a b => tle r a b = true) := sort_pairwise (tle_total r) xs
theorem srt_turn (r : Rl) (xs : List (List Nat)) : srt r.turn xs.reverse = (srt r xs).reverse := sort_rev (tle_total r) (tle_total r.turn) (tle_turn r) xs
theorem srt_rep (r : Rl) (n : Nat) (x : List Nat) : srt r (List.replicate n x) = List.replicate n x := sort_done (tle_total r) (by
  rw [List.pairwise_replicate]
  exact .inr ((tle_total r).refl x))
theorem srt_ins (r : Rl) (p : List (List Nat)) (x : List Nat) : (srt r p).filter (fun y => tle r y x) ++ [x] ++ (srt r p).filter (fun y => !tle r y x) = srt r (p ++ [x]) := ins_sort (tle_total r) p x
theorem sortBy_srt (r : Rl) (xs : List (List Nat)) : sortBy r.t (xs.map (keyD r)) (xs.map sd) = (srt r xs).map sd := by
  unfold sortBy srt
  have e : (xs.map (keyD r)).zip (xs.map sd) = xs.map fun l => (keyD r l, sd l) := by
    induction xs with
    | nil => rfl
    | cons x xs ih => rw [List.map_cons, List.map_cons, List.zip_cons_cons, ih, List.map_cons]
  rw [e, ← sort_maps (r := tle r) (fun l => (keyD r l, sd l)) (fun _ _ _ _ => rfl), List.map_map]
  rfl
end Den

end
-- DenRn
section
set_option Elab.async false
set_option linter.all false
set_option maxRecDepth 100000
set_option maxHeartbeats 1000000
namespace Den
open PySem PySem.Spec PyProof.Rows L2
variable [TB : Tabl]
/-! ### texts by other letters and figures that rise as the old ones -/
structure Rn where
  lo : Nat
  hi : Nat
  fg : Nat
  h1 : 97 ≤ lo
  h2 : lo < hi
  h3 : hi ≤ 122
  f1 : 49 ≤ fg
  f2 : fg ≤ 57
def Rn.c (R : Rn) (c : Nat) : Nat := if c = 97 then R.lo else if c = 98 then R.hi else if c = 65 then R.lo - 32 else if c = 66 then R.hi - 32 else if c = 49 then R.fg else c
def Rn.t (R : Rn) (l : List Nat) : List Nat := l.map R.c
def a7 (c : Nat) : Bool := decide (c ∈ [48, 49, 65, 66, 95, 97, 98])
abbrev A7 (l : List Nat) : Prop := ∀ c ∈ l, a7 c = true
theorem a7_cases {c : Nat} (h : a7 c = true) : c = 48 ∨ c = 49 ∨ c = 65 ∨ c = 66 ∨ c = 95 ∨ c = 97 ∨ c = 98 := by
  have := of_decide_eq_true h
  simpa using this
theorem a7_good {c : Nat} (h : a7 c = true) : good c = true := by
  rcases a7_cases h with rfl | rfl | rfl | rfl | rfl | rfl | rfl <;> decide
section
variable (R : Rn)
theorem rn48 : R.c 48 = 48 := rfl
theorem rn49 : R.c 49 = R.fg := rfl
theorem rn65 : R.c 65 = R.lo - 32 := rfl
theorem rn66 : R.c 66 = R.hi - 32 := rfl
theorem rn95 : R.c 95 = 95 := rfl
theorem rn97 : R.c 97 = R.lo := rfl
theorem rn98 : R.c 98 = R.hi := rfl
theorem rg_t {a b x : Nat} (h : a ≤ x) (h' : x ≤ b) : (decide (a ≤ x) && decide (x ≤ b)) = true := by
  rw [decide_eq_true h, decide_eq_true h']; rfl
theorem rg_l {a b x : Nat} (h : x < a) : (decide (a ≤ x) && decide (x ≤ b)) = false := by
  rw [decide_eq_false (by omega)]; rfl
theorem rg_g {a b x : Nat} (h : b < x) : (decide (a ≤ x) && decide (x ≤ b)) = false := by
  rw [decide_eq_false (p := x ≤ b) (by omega), Bool.and_false]
theorem rn_sml {c : Nat} (h : a7 c = true) : sml (R.c c) = sml c := by
  have := R.h1; have := R.h2; have := R.h3; have := R.f1; have := R.f2
  rcases a7_cases h with rfl | rfl | rfl | rfl | rfl | rfl | rfl <;> simp only [rn48, rn49, rn65, rn66, rn95, rn97, rn98, sml] <;> first | rfl | exact (rg_t (by omega) (by omega)).trans (by decide) | exact (rg_l (by omega)).trans (by decide) | exact (rg_g (by omega)).trans (by decide)
theorem rn_cap {c : Nat} (h : a7 c = true) : cap (R.c c) = cap c := by
  have := R.h1; have := R.h2; have := R.h3; have := R.f1; have := R.f2
  rcases a7_cases h with rfl | rfl | rfl | rfl | rfl | rfl | rfl <;> simp only [rn48, rn49, rn65, rn66, rn95, rn97, rn98, cap] <;> first | rfl | exact (rg_t (by omega) (by omega)).trans (by decide) | exact (rg_l (by omega)).trans (by decide) | exact (rg_g (by omega)).trans (by decide)
theorem rn_dig {c : Nat} (h : a7 c = true) : dig (R.c c) = dig c := by
  have := R.h1; have := R.h2; have := R.h3; have := R.f1; have := R.f2
  rcases a7_cases h with rfl | rfl | rfl | rfl | rfl | rfl | rfl <;> simp only [rn48, rn49, rn65, rn66, rn95, rn97, rn98, dig] <;> first | rfl | exact (rg_t (by omega) (by omega)).trans (by decide) | exact (rg_l (by omega)).trans (by decide) | exact (rg_g (by omega)).trans (by decide)
theorem rn_bar {c : Nat} (h : a7 c = true) : R.c c = 95 ↔ c = 95 := by
  have := R.h1; have := R.h2; have := R.h3; have := R.f1; have := R.f2
  rcases a7_cases h with rfl | rfl | rfl | rfl | rfl | rfl | rfl <;> simp only [rn48, rn49, rn65, rn66, rn95, rn97, rn98] <;> omega
theorem rn_good {c : Nat} (h : a7 c = true) : good (R.c c) = true := by
  show (dig (R.c c) || cap (R.c c) || decide (R.c c = 95) || sml (R.c c)) = true
  rw [rn_dig R h, rn_cap R h, rn_sml R h, show decide (R.c c = 95) = decide (c = 95) from decide_eq_decide.mpr (rn_bar R h)]
  exact a7_good h
theorem rn_inj {c d : Nat} (h : a7 c = true) (h' : a7 d = true) (e : R.c c = R.c d) : c = d := by
  have := R.h1; have := R.h2; have := R.h3; have := R.f1; have := R.f2
  rcases a7_cases h with rfl | rfl | rfl | rfl | rfl | rfl | rfl <;> rcases a7_cases h' with rfl | rfl | rfl | rfl | rfl | rfl | rfl <;> simp only [rn48, rn49, rn65, rn66, rn95, rn97, rn98] at e <;> omega
theorem u65 : upC (R.c 65) = R.lo - 32 := by
  unfold upC
  rw [rn_sml R (by decide), if_neg (by decide)]; rfl
theorem u66 : upC (R.c 66) = R.hi - 32 := by
  unfold upC
  rw [rn_sml R (by decide), if_neg (by decide)]; rfl
theorem u97 : upC (R.c 97) = R.lo - 32 := by
  unfold upC
  rw [rn_sml R (by decide), if_pos (by decide)]; rfl
theorem u98 : upC (R.c 98) = R.hi - 32 := by
  unfold upC
  rw [rn_sml R (by decide), if_pos (by decide)]; rfl
theorem rn_icmp {c d : Nat} (h : a7 c = true) (hl : letter c = true) (h' : a7 d = true) (hl' : letter d = true) : icmp ((upC (R.c c) : Nat) : Int) ((upC (R.c d) : Nat) : Int) = icmp ((upC c : Nat) : Int) ((upC d : Nat) : Int) := by
  have := R.h1; have := R.h2
  rcases a7_cases h with rfl | rfl | rfl | rfl | rfl | rfl | rfl <;> first | (exact absurd hl (by decide)) | skip
  all_goals rcases a7_cases h' with rfl | rfl | rfl | rfl | rfl | rfl | rfl <;> first | (exact absurd hl' (by decide)) | skip
  all_goals simp only [u65, u66, u97, u98]
  all_goals first
    | (rw [icmp_self]; decide)
    | (rw [icmp_lt (by omega)]; decide)
    | (rw [icmp_gt (by omega)]; decide)
theorem rn_let (cs : Cs) {c d : Nat} (h : a7 c = true) (hl : letter c = true) (h' : a7 d = true) (hl' : letter d = true) : rcmp (letR cs (R.c c)) (letR cs (R.c d)) = rcmp (letR cs c) (letR cs d) := by
  have e := rn_icmp R h hl h' hl'
  have l1 : lw (R.c c) = lw c := by unfold lw; rw [rn_cap R h]
  have l2 : lw (R.c d) = lw d := by unfold lw; rw [rn_cap R h']
  cases cs <;> simp only [letR, rcmp_cons, l1, l2, e]
/-! numbers -/
theorem rn_digs {p : List Nat} (h : A7 p) : digs (R.t p) = digs p := by
  unfold digs Rn.t
  rw [List.isEmpty_map, List.all_map]
  congr 1
  exact all_congr fun c hc => rn_dig R (h c hc)
theorem rn_fold : ∀ (p : List Nat) (a : Nat), A7 p → (∀ c ∈ p, dig c = true) → (p.map R.c).foldl (fun acc c => acc * 10 + (c - 48)) ((R.fg - 48) * a) = (R.fg - 48) * p.foldl (fun acc c => acc * 10 + (c - 48)) a
  | [], a, _, _ => rfl
  | c :: p, a, h, hd => by
    have hc : R.c c - 48 = (R.fg - 48) * (c - 48) := by
      have hd := hd c (List.mem_cons_self ..)
      rcases a7_cases (h c (List.mem_cons_self ..)) with rfl | rfl | rfl | rfl | rfl | rfl | rfl <;> first | (exact absurd hd (by decide)) | skip
      · rfl
      · rw [rn49]; simp
    rw [List.map_cons, List.foldl_cons, List.foldl_cons, hc]
    have e : (R.fg - 48) * a * 10 + (R.fg - 48) * (c - 48) = (R.fg - 48) * (a * 10 + (c - 48)) := by rw [Nat.mul_add, Nat.mul_assoc]
    rw [e]
    exact rn_fold p _ (fun d hd => h d (List.mem_cons_of_mem _ hd)) (fun d hd' => hd d (List.mem_cons_of_mem _ hd'))
theorem num_val {p : List Nat} (h : digs p = true) (hl : p.length ≤ 640) : numOf p = ((p.foldl (fun acc c => acc * 10 + (c - 48)) 0 : Nat) : Int) := by
  obtain ⟨h1, h2⟩ := digs_ok h
  have e := PySem.intText_digits (x := tx p) (by rw [tx_cps]; exact h2) (by rw [tx_cps]; exact h1) (by rw [tx_len]; omega)
  unfold numOf
  rw [e, tx_cps]
  rfl
theorem rn_num {p : List Nat} (h : A7 p) (hd : digs p = true) (hl : p.length ≤ 640) : numOf (R.t p) = ((R.fg - 48 : Nat) : Int) * numOf p := by
  have hd' : digs (R.t p) = true := by rw [rn_digs R h]; exact hd
  rw [num_val hd' (by unfold Rn.t; rw [List.length_map]; exact hl), num_val hd hl]
  have := rn_fold R p 0 h (fun c hc => by
    unfold digs at hd
    rw [Bool.and_eq_true] at hd
    exact List.all_eq_true.mp hd.2 c hc)
  rw [Nat.mul_zero] at this
  unfold Rn.t
  rw [this, Int.natCast_mul]
theorem icmp_mul {k a b : Int} (h : 0 < k) : icmp (k * a) (k * b) = icmp a b := by
  rcases Int.lt_trichotomy a b with g | g | g
  · rw [icmp_lt g, icmp_lt (Int.mul_lt_mul_of_pos_left g h)]
  · rw [g, icmp_self, icmp_self]
  · rw [icmp_gt g, icmp_gt (Int.mul_lt_mul_of_pos_left g h)]
theorem rn_ok {p : List Nat} (h : PieceOk p) (ha : A7 p) : PieceOk (R.t p) := by
  refine ⟨fun c hc => ?_, fun z => h.ne (List.map_eq_nil_iff.mp z), ?_⟩
  · obtain ⟨d, hd, rfl⟩ := List.mem_map.mp hc
    exact rn_good R (ha d hd)
  · rcases h.kd with k | ⟨c, rfl, k⟩
    · exact .inl (by rw [rn_digs R ha]; exact k)
    · exact .inr ⟨R.c c, rfl, by rw [rn_dig R (ha c (by simp))]; exact k⟩
theorem rn_lrl (cs : Cs) (b : Bool) {c : Nat} (n : R.t [c] ≠ [95]) (d : digs (R.t [c]) = false) : lrank cs b (R.t [c]) = letR cs (R.c c) := lrank_let cs b (c := R.c c) n d
theorem rn_piece (cs : Cs) (b : Bool) {p q : List Nat} (hp : PieceOk p) (hq : PieceOk q) (ap : A7 p) (aq : A7 q) (lp : p.length ≤ 640) (lq : q.length ≤ 640) : rcmp (lrank cs b (R.t p)) (lrank cs b (R.t q)) = rcmp (lrank cs b p) (lrank cs b q) := by
  have bar : ∀ {p : List Nat}, A7 p → (R.t p = [95] ↔ p = [95]) := fun {p} h => by
    constructor
    · intro e
      match p, h, e with
      | [c], h, e =>
        have : R.c c = 95 := by simpa [Rn.t] using e
        rw [(rn_bar R (h c (by simp))).mp this]
      | [], h, e => cases e
      | c :: d :: r, h, e => simp [Rn.t] at e
    · intro e
      rw [e]; rfl
  have k : (0 : Int) < ((R.fg - 48 : Nat) : Int) := by have := R.f1; omega
  rcases kinds hp with rfl | ⟨n1, d1⟩ | ⟨n1, d1, c, rfl, l1⟩
  · have e1 : R.t [95] = [95] := rfl
    rw [e1]
    rcases kinds hq with rfl | ⟨n2, d2⟩ | ⟨n2, d2, d, rfl, l2⟩
    · rfl
    · rw [lrank_bar, lrank_num cs b n2 d2, lrank_num cs b (fun z => n2 ((bar aq).mp z)) (by rw [rn_digs R aq]; exact d2)]
      cases b
      · rw [if_neg Bool.false_ne_true, rcmp_gt (by decide), rcmp_gt (by decide)]
      · rw [if_pos rfl, rcmp_lt (by decide), rcmp_lt (by decide)]
    · have n2' : R.t [d] ≠ [95] := fun z => n2 ((bar aq).mp z)
      have d2' : digs (R.t [d]) = false := by rw [rn_digs R aq]; exact d2
      obtain ⟨r1, g1⟩ := letR_cons cs d
      obtain ⟨r2, g2⟩ := letR_cons cs (R.c d)
      rw [lrank_bar, lrank_let cs b n2 d2, rn_lrl R cs b n2' d2', g1, g2]
      cases b
      · rw [if_neg Bool.false_ne_true, rcmp_gt (by decide), rcmp_gt (by decide)]
      · rw [if_pos rfl, rcmp_lt (by decide), rcmp_lt (by decide)]
  · have n1' : R.t p ≠ [95] := fun z => n1 ((bar ap).mp z)
    have d1' : digs (R.t p) = true := by rw [rn_digs R ap]; exact d1
    rw [lrank_num cs b n1 d1, lrank_num cs b n1' d1']
    rcases kinds hq with rfl | ⟨n2, d2⟩ | ⟨n2, d2, d, rfl, l2⟩
    · have e1 : R.t [95] = [95] := rfl
      rw [e1, lrank_bar]
      cases b
      · rw [if_neg Bool.false_ne_true, rcmp_lt (by decide), rcmp_lt (by decide)]
      · rw [if_pos rfl, rcmp_gt (by decide), rcmp_gt (by decide)]
    · rw [lrank_num cs b n2 d2, lrank_num cs b (fun z => n2 ((bar aq).mp z)) (by rw [rn_digs R aq]; exact d2), rcmp_cons, rcmp_cons, rcmp_cons, rcmp_cons, rn_num R ap d1 lp, rn_num R aq d2 lq, icmp_mul k]
    · have n2' : R.t [d] ≠ [95] := fun z => n2 ((bar aq).mp z)
      have d2' : digs (R.t [d]) = false := by rw [rn_digs R aq]; exact d2
      obtain ⟨r1, g1⟩ := letR_cons cs d
      obtain ⟨r2, g2⟩ := letR_cons cs (R.c d)
      rw [lrank_let cs b n2 d2, rn_lrl R cs b n2' d2', g1, g2, rcmp_lt (by decide), rcmp_lt (by decide)]
  · have n1' : R.t [c] ≠ [95] := fun z => n1 ((bar ap).mp z)
    have d1' : digs (R.t [c]) = false := by rw [rn_digs R ap]; exact d1
    rw [lrank_let cs b n1 d1, rn_lrl R cs b n1' d1']
    rcases kinds hq with rfl | ⟨n2, d2⟩ | ⟨n2, d2, d, rfl, l2⟩
    · have e1 : R.t [95] = [95] := rfl
      obtain ⟨r1, g1⟩ := letR_cons cs c
      obtain ⟨r2, g2⟩ := letR_cons cs (R.c c)
      rw [e1, lrank_bar, g1, g2]
      cases b
      · rw [if_neg Bool.false_ne_true, rcmp_lt (by decide), rcmp_lt (by decide)]
      · rw [if_pos rfl, rcmp_gt (by decide), rcmp_gt (by decide)]
    · obtain ⟨r1, g1⟩ := letR_cons cs c
      obtain ⟨r2, g2⟩ := letR_cons cs (R.c c)
      rw [lrank_num cs b n2 d2, lrank_num cs b (fun z => n2 ((bar aq).mp z)) (by rw [rn_digs R aq]; exact d2), g1, g2, rcmp_gt (by decide), rcmp_gt (by decide)]
    · have n2' : R.t [d] ≠ [95] := fun z => n2 ((bar aq).mp z)
      have d2' : digs (R.t [d]) = false := by rw [rn_digs R aq]; exact d2
      rw [lrank_let cs b n2 d2, rn_lrl R cs b n2' d2']
      exact rn_let R cs (ap c (by simp)) l1 (aq d (by simp)) l2
theorem rn_once (cs : Cs) (b e : Bool) : ∀ ps qs : List (List Nat), (∀ p ∈ ps, PieceOk p ∧ A7 p ∧ p.length ≤ 640) → (∀ p ∈ qs, PieceOk p ∧ A7 p ∧ p.length ≤ 640) → onceC cs b e (ps.map R.t) (qs.map R.t) = onceC cs b e ps qs
  | [], [], _, _ => rfl
  | [], _ :: _, _, _ => rfl
  | _ :: _, [], _, _ => rfl
  | p :: ps, q :: qs, hp, hq => by
    obtain ⟨p1, p2, p3⟩ := hp p (List.mem_cons_self ..)
    obtain ⟨q1, q2, q3⟩ := hq q (List.mem_cons_self ..)
    rw [List.map_cons, List.map_cons, onceC, onceC, rn_piece R cs b p1 q1 p2 q2 p3 q3, rn_once cs b e ps qs (fun x hx => hp x (List.mem_cons_of_mem _ hx)) (fun x hx => hq x (List.mem_cons_of_mem _ hx))]
/-! pieces -/
theorem rn_last {acc : List (List Nat)} (h : ∀ p ∈ acc, A7 p) : lastDigs (acc.map R.t) = lastDigs acc := by
  unfold lastDigs
  rw [List.getLast?_map]
  cases e : acc.getLast? with
  | none => rfl
  | some p => exact rn_digs R (h p (List.mem_of_getLast? e))
theorem rn_step {acc : List (List Nat)} {c : Nat} (h : ∀ p ∈ acc, A7 p) (hc : a7 c = true) : cutStep (acc.map R.t) (R.c c) = (cutStep acc c).map R.t := by
  unfold cutStep
  rw [rn_last R h, rn_dig R hc]
  split
  · rw [List.map_append, ← List.map_dropLast, List.getLast?_map]
    cases e : acc.getLast? with
    | none => simp [Rn.t]
    | some p => simp [Rn.t]
  · simp [Rn.t]
theorem step_a7 {acc : List (List Nat)} {c : Nat} (h : ∀ p ∈ acc, A7 p) (hc : a7 c = true) : ∀ p ∈ cutStep acc c, A7 p := by
  rcases step_split acc c with ⟨a, p, rfl, _, _, e⟩ | e
  · rw [e]
    intro q hq
    rcases List.mem_append.mp hq with hq | hq
    · exact h q (List.mem_append_left _ hq)
    · rw [List.mem_singleton.mp hq]
      intro d hd
      rcases List.mem_append.mp hd with hd | hd
      · exact h p (by simp) d hd
      · rw [List.mem_singleton.mp hd]; exact hc
  · rw [e]
    intro q hq
    rcases List.mem_append.mp hq with hq | hq
    · exact h q hq
    · rw [List.mem_singleton.mp hq]
      intro d hd
      rw [List.mem_singleton.mp hd]; exact hc
theorem rn_cut : ∀ (l : List Nat) (acc : List (List Nat)), A7 l → (∀ p ∈ acc, A7 p) → (R.t l).foldl cutStep (acc.map R.t) = (l.foldl cutStep acc).map R.t ∧ ∀ p ∈ l.foldl cutStep acc, A7 p
  | [], acc, _, h => ⟨rfl, h⟩
  | c :: l, acc, hl, h => by
    have hc := hl c (List.mem_cons_self ..)
    have := rn_cut l (cutStep acc c) (fun d hd => hl d (List.mem_cons_of_mem _ hd)) (step_a7 h hc)
    unfold Rn.t
    rw [List.map_cons, List.foldl_cons, List.foldl_cons]
    have e := rn_step R h hc
    unfold Rn.t at e this
    rw [e]
    exact this
theorem rn_pieces (whole : Bool) {l : List Nat} (h : A7 l) : pieces whole (R.t l) = (pieces whole l).map R.t ∧ ∀ p ∈ pieces whole l, A7 p := by
  unfold pieces
  cases whole with
  | true => exact rn_cut R l [] h (fun p hp => absurd hp (by simp))
  | false =>
    rw [if_neg Bool.false_ne_true, if_neg Bool.false_ne_true]
    refine ⟨by simp [Rn.t], fun p hp => ?_⟩
    obtain ⟨c, hc, rfl⟩ := List.mem_map.mp hp
    intro d hd
    rw [List.mem_singleton.mp hd]
    exact h c hc
theorem rn_gl {l : List Nat} (h : A7 l) : GL (R.t l) := fun c hc => by
  obtain ⟨d, hd, rfl⟩ := List.mem_map.mp hc
  exact rn_good R (h d hd)
theorem a7_gl {l : List Nat} (h : A7 l) : GL l := fun c hc => a7_good (h c hc)
theorem rn_told (r : Rl) {l m : List Nat} (hl : A7 l) (hm : A7 m) (ll : l.length ≤ 640) (lm : m.length ≤ 640) : told r (R.t l) (R.t m) = told r l m := by
  have pk : ∀ (w : Bool) {z : List Nat}, A7 z → z.length ≤ 640 → ∀ p ∈ pieces w z, PieceOk p ∧ A7 p ∧ p.length ≤ 640 := fun w z hz lz p hp => by
    have ok := pieces_ok (whole := w) (a7_gl hz)
    exact ⟨ok.ok p hp, (rn_pieces R w hz).2 p hp, Nat.le_trans (ok.len.2 p hp) lz⟩
  have o : ∀ (cs : Cs) (w : Bool), onceC cs r.b r.e (pieces w (R.t l)) (pieces w (R.t m)) = onceC cs r.b r.e (pieces w l) (pieces w m) := fun cs w => by
    rw [(rn_pieces R w hl).1, (rn_pieces R w hm).1]
    exact rn_once R cs r.b r.e _ _ (pk w hl ll) (pk w hm lm)
  unfold told told0
  rw [o, o, o]
theorem rn_tinj {l m : List Nat} (hl : A7 l) (hm : A7 m) (e : R.t l = R.t m) : l = m := by
  induction l generalizing m with
  | nil => cases m with
    | nil => rfl
    | cons d m => cases e
  | cons c l ih => cases m with
    | nil => cases e
    | cons d m =>
      unfold Rn.t at e
      rw [List.map_cons, List.map_cons] at e
      obtain ⟨e1, e2⟩ := List.cons.inj e
      rw [rn_inj R (hl c (List.mem_cons_self ..)) (hm d (List.mem_cons_self ..)) e1, ih (fun x hx => hl x (List.mem_cons_of_mem _ hx)) (fun x hx => hm x (List.mem_cons_of_mem _ hx)) e2]
abbrev TA (xs : List (List Nat)) : Prop := ∀ l ∈ xs, A7 l ∧ l.length ≤ 40
theorem rn_srt (r : Rl) {xs : List (List Nat)} (h : TA xs) : srt r (xs.map R.t) = (srt r xs).map R.t := by
  unfold srt
  refine (PySem.W.sort_maps R.t fun a ha b hb => ?_).symm
  obtain ⟨a1, a2⟩ := h a ha
  obtain ⟨b1, b2⟩ := h b hb
  rw [tle_told r (a7_gl a1) (a7_gl b1), tle_told r (rn_gl R a1) (rn_gl R b1), rn_told R r a1 b1 (by omega) (by omega)]
theorem map_tinj : ∀ {xs ys : List (List Nat)}, (∀ l ∈ xs, A7 l) → (∀ l ∈ ys, A7 l) → xs.map R.t = ys.map R.t → xs = ys
  | [], [], _, _, _ => rfl
  | [], _ :: _, _, _, e => by cases e
  | _ :: _, [], _, _, e => by cases e
  | x :: xs, y :: ys, h1, h2, e => by
    rw [List.map_cons, List.map_cons] at e
    obtain ⟨e1, e2⟩ := List.cons.inj e
    rw [rn_tinj R (h1 x (List.mem_cons_self ..)) (h2 y (List.mem_cons_self ..)) e1, map_tinj (fun l hl => h1 l (List.mem_cons_of_mem _ hl)) (fun l hl => h2 l (List.mem_cons_of_mem _ hl)) e2]
end
end Den

end
-- DenHp
section
set_option Elab.async false
set_option linter.all false
set_option maxRecDepth 100000
namespace Den
open PySem PySem.Spec PyProof.Rows L2
/-! ### LOOKS[(a, b)]: the module's table with tuple keys, read -/
def rTabK (K : PySem.W.Frag) (d : Addr) (ps : List (List Key × Addr × Value)) : R2 := fun x y H Q => ∃ (b : Addr) (ks : List Key) (v : Addr × Value) (z : Str), x = .ref d ∧ y = .ref b ∧ SqT K H b (ks.map kV) ∧ atKey ps ks = some v ∧ (∃ t, v.2 = Value.str z t) ∧ Q (.str z) H
section
variable {X : Cx} {d : Addr} {ps : List (List Key × Addr × Value)}
theorem key_sq {pins : List (Addr × Obj)} {σ : L2.St} {H : Hp} {s : Shared} {b : Addr} {ks : List Key} (I : Inv X pins σ H s) (h : SqT X.K H b (ks.map kV)) : (tupleKind (mixKind X.prog X.w)).is s.heap ks b := by
  rcases h with h | ⟨o, its, n, l, c, e, _, r⟩
  · obtain ⟨_, its, r, o, h1, h2, n, h3⟩ := (show ObjOk X.prog X.w H s.heap b (.tup (ks.map kV)) from rd_of I.hok h)
    exact ⟨o, its.toArray, n, h1, h2, h3, by simpa using items_are r⟩
  · exact ⟨o, its, n, I.kIn _ _ l, c, e, items_are r⟩
theorem ix_tabK (T : TabK X.prog X.w X.K d ps) (hu : X.A.units + 1 < cLine) : IxR X (rTabK X.K d ps) := by
  intro value slice pins s σ H x y v u Q I rx ry h hs
  obtain ⟨b, ks, a, z, rfl, rfl, hk, ha, ⟨t, e⟩, q⟩ := h
  obtain rfl : v = Value.ref d := rx
  obtain rfl : u = Value.ref b := ry
  have dd := T.dict _ I.kIn
  refine tail_any dd.typeIs slot_dict_getitem.lookup (wpAny_getItem_heap (tupleKind_room_in1 hu) (key_sq I hk) dd ha ?_) hs
  rw [e]
  exact ⟨.str z, H, I.tok _, ⟨t, rfl⟩, q⟩
variable [TB : Tabl]
def keysL : List PyData → Option (List Key)
  | [] => some []
  | d :: ds => (keyOf d).bind fun k => (keysL ds).map fun ks => k :: ks
theorem keysL_dp {K : PySem.W.Frag} {F : Hp} : ∀ {vs : List V} {ds : List PyData} {ks : List Key}, DpAll K F vs ds → keysL ds = some ks → vs = ks.map kV
  | [], [], ks, _, e => by cases e; rfl
  | v :: vs, d :: ds, ks, h, e => by
    cases h with
    | cons h t =>
      obtain ⟨k, e1, e⟩ := bind_split e
      obtain ⟨r, e2, e⟩ := map_split e
      cases e
      rw [List.map_cons, keyOf_dp h e1, keysL_dp t e2]
/-- LOOKS[e] -/
def tabD (ps : List (List Key × Addr × Value)) (f : FE) : FE := fun ρ D => (f ρ D).bind fun r => match r.1 with
  | .tuple ds => (keysL ds).bind fun ks => (atKey ps ks).bind fun v => (strOf v.2).map fun z => (.str z, r.2)
  | _ => none
theorem strOf_is {u : Value} {z : Str} (h : strOf u = some z) : ∃ t, u = .str z t := by
  cases u <;> try cases h
  exact ⟨_, rfl⟩
theorem de_tabK {nm : Str} {e : Expr} {f : FE} {p pos : Pos} (T : TabK X.prog X.w X.K d ps) (hu : X.A.units + 1 < cLine) (hg : Gl X nm) (hm : X.mg nm = some (.ref d)) (h : DE X e f) (hs : PlainIx e) (hd : (nm == ("__debug__" : Str)) = false := by decide) :
    DE X (.Subscript (.Name nm p) e pos) (tabD ps f) := by
  refine .mk ?_
  intro L F0 H0 ρ D σ F H z D' r hf Q q
  obtain ⟨⟨y, D1⟩, e1, hf⟩ := bind_split hf
  dsimp only at hf
  split at hf
  · rename_i ds
    obtain ⟨ks, e2, hf⟩ := bind_split hf
    obtain ⟨v, e3, hf⟩ := bind_split hf
    obtain ⟨w, e4, hf⟩ := map_split hf
    cases hf
    refine PEw (pe_ix (ix_tabK T hu) (pe_glob (v := .ref d) hg hm rfl hd) pe_w hs) ?_
    refine h.run L F0 H0 ρ D σ F H _ _ r e1 _ fun u F2 H2 t2 k2 hv => ?_
    cases hv with
    | tup hq ha =>
      have ev := keysL_dp ha e2
      subst ev
      exact ⟨_, ks, v, w, rfl, rfl, ex_t k2.sub hq, e3, strOf_is e4, q (.str w) F2 H2 t2 k2 (.str w)⟩
  · cases hf
end
end Den

end
-- DenHq
section
set_option Elab.async false
set_option linter.all false
set_option maxRecDepth 100000
namespace Den
open PySem PySem.Spec PyProof.Rows L2
/-! ### what the head tells of defs and classes of errors, for a law's end -/
theorem fun_of {K : PySem.W.Frag} {x : Str} {st : Stmt} {f : Addr} {fd : FuncData} (F : FunD K x x (defArgs st) (defBody st) (defScope st) [] [] f fd) : Fun K x x st f fd := by
  obtain ⟨oc, od, dV, kV, doc, pm, an, cdv, ct, osl, e, l, c, d, _⟩ := F.ex
  rcases d with ⟨_, rfl⟩ | ⟨z, _⟩
  · exact ⟨⟨oc, od, kV, doc, pm, an, cdv, ct, osl, e, l, c⟩, F.kp⟩
  · exact absurd rfl z
section
variable {K : PySem.W.Frag} {x : Str} {ok : List Str} {tabs : List (Option Str × List (Str × Bool))}
theorem exc_parts (h : (He.Fa.exc x).ok K = true) : PySem.W.excIn K (He.ga K x) [.type "ValueError", .type "Exception", .type "BaseException", .type "object"] "ValueError.__new__" = true ∧ PySem.W.keepIn K (.ref (He.ga K x)) = true ∧ PySem.W.subIn K (.ref (He.ga K x)) (.type "BaseException") = some true ∧ PySem.W.typeIn K (.ref (He.ga K x)) = some (.type "type") := by
  obtain ⟨h1, h2⟩ := He.ba h
  obtain ⟨h3, h4⟩ := He.ba h2
  obtain ⟨h5, h6⟩ := He.ba h4
  exact ⟨h1, h3, of_decide_eq_true h5, of_decide_eq_true h6⟩
theorem exm_parts {y : Str} {b : Bool} (h : (He.Fa.exm x y b).ok K = true) : PySem.W.exmOne K (.ref (He.ga K x)) (.ref (He.ga K y)) = some b := of_decide_eq_true h
theorem excC_of (h : excB ok tabs K = true) (hx : x ∈ ok) (he : (He.Fa.exc x).ok K = true) : ExcC K (He.ga K x) := by
  obtain ⟨h1, h2⟩ := Bool.and_eq_true_iff.mp h
  obtain ⟨h3, _⟩ := Bool.and_eq_true_iff.mp h2
  have c := List.all_eq_true.mp h3 x hx
  obtain ⟨c1, c2⟩ := Bool.and_eq_true_iff.mp c
  obtain ⟨c3, c4⟩ := Bool.and_eq_true_iff.mp c1
  obtain ⟨c5, c6⟩ := Bool.and_eq_true_iff.mp c2
  obtain ⟨c7, c8⟩ := Bool.and_eq_true_iff.mp c6
  obtain ⟨s1, s2⟩ := Bool.and_eq_true_iff.mp h1
  exact ⟨of_decide_eq_true c3, of_decide_eq_true c4, (exc_parts he).2.2.1, c5, of_decide_eq_true c7, of_decide_eq_true s1, of_decide_eq_true s2, of_decide_eq_true c8⟩
theorem kit_of (h : excB ok tabs K = true) {t : Option Str × List (Str × Bool)} (ht : t ∈ tabs) {n : Str} {b : Bool} (hn : (n, b) ∈ t.2) : PySem.W.kitOne K (.ref (He.ga K n)) (match t.1 with
  | some c => .ref (He.ga K c)
  | none => .type "ValueError") = some b := by
  obtain ⟨_, h2⟩ := Bool.and_eq_true_iff.mp h
  obtain ⟨_, h4⟩ := Bool.and_eq_true_iff.mp h2
  exact of_decide_eq_true (List.all_eq_true.mp (List.all_eq_true.mp h4 t ht) (n, b) hn)
/-- isinstance's table -/
theorem isa_of {c : Str} {tab : List (Str × Bool)} (h : excB ok tabs K = true) (ht : (some c, tab) ∈ tabs) (he : ∀ n ∈ ok, (He.Fa.exc n).ok K = true) (hk : tab.all (fun z => ok.contains z.1) = true) : ∀ n b, isaT tab n = some b → ExcC K (He.ga K n) ∧ PySem.W.kitOne K (.ref (He.ga K n)) (.ref (He.ga K c)) = some b :=
  isa_tab fun z hz => ⟨excC_of h (List.contains_iff_mem.mp (List.all_eq_true.mp hk z hz)) (he _ (List.contains_iff_mem.mp (List.all_eq_true.mp hk z hz))), kit_of h ht hz⟩
theorem isaV_of {tab : List (Str × Bool)} (h : excB ok tabs K = true) (ht : (none, tab) ∈ tabs) (he : ∀ n ∈ ok, (He.Fa.exc n).ok K = true) (hk : tab.all (fun z => ok.contains z.1) = true) : ∀ n b, isaT tab n = some b → ExcC K (He.ga K n) ∧ PySem.W.kitOne K (.ref (He.ga K n)) (.type "ValueError") = some b :=
  isa_tab fun z hz => ⟨excC_of h (List.contains_iff_mem.mp (List.all_eq_true.mp hk z hz)) (he _ (List.contains_iff_mem.mp (List.all_eq_true.mp hk z hz))), kit_of h ht hz⟩
end
end Den

end
-- DenHt
section
set_option Elab.async false
set_option linter.all false
set_option maxRecDepth 100000
namespace Den
open PySem PySem.Spec PyProof.Rows L2
/-! ### break; the end of a law whose defs hold lambdas, over a head of one's own -/
section
variable [TB : Tabl] {X : Cx} {a b : Expr} {pos : Pos}
/-- xs + ys as a list of one's own -/
def catD (f g : FL) : FL := fun ρ D => (f ρ D).bind fun x => (g ρ x.2).bind fun y => if x.1.length + y.1.length ≤ 1000000 then some (x.1 ++ y.1, y.2) else none
theorem dn_cat {fa fb : FL} (ha : DL X a fa) (hb : DL X b fb) : DN X (.BinOp a .Add b pos) (catD fa fb) := by
  refine .mk ?_
  intro L F0 H0 ρ D σ F H z D' r hf Q q
  obtain ⟨⟨xs, D1⟩, e1, hf⟩ := bind_split hf
  obtain ⟨⟨ys, D2⟩, e2, hf⟩ := bind_split hf
  dsimp only at hf
  split at hf
  · rename_i hc
    cases hf
    refine PEw (pe_op op_catA pe_w pe_w) (ha.run L F0 H0 ρ D σ F H _ _ r e1 _ fun p vs F1 H1 t1 k1 s1 a1 => ?_)
    refine hb.run L F0 H0 ρ D1 σ F1 H1 _ _ (r.step t1 k1) e2 _ fun p2 ws F2 H2 t2 k2 s2 a2 => ?_
    have l1 := dpa_len a1
    have l2 := dpa_len a2
    exact ⟨p, p2, vs, ws, rfl, rfl, s1 F2 H2 t2, s2 F2 H2 Stp.refl, big (by rw [l1, l2]; exact hc), fun l hl => q l _ F2 _ ((t1.trans t2).trans (Stp.fresh hl)) (k2.fresh hl) (back_none (t1.trans t2) hl) (k2.sub.back hl) upd_same (dpa_app (dpa_mono t2.ex a1) a2)⟩
  · cases hf
/-- x in ys, by == -/
def inDp (neg : Bool) : O2 := fun x y => match y with
  | .list ds => if SeqAt.shaped x && SeqAt.shaped (.list ds) then some (.bool (if neg then !(ds.any fun z => PyData.eqv z x) else ds.any fun z => PyData.eqv z x)) else none
  | _ => none
theorem os_inDp (hu : X.A.units + 65 < cLine) : OpS X (compareOp .In) (inDp false) := .of (op_inD hu) fun x y H Q ⟨L, D, F, dx, dy, dz, k, h1, h2, e, q⟩ => by
  match dy, h2, e with
  | .list ds, h2, e =>
    have e : (if SeqAt.shaped dx && SeqAt.shaped (.list ds) then some (PyData.bool (ds.any fun z => PyData.eqv z dx)) else none) = some dz := e
    split at e
    · rename_i hc
      cases e
      rw [Bool.and_eq_true] at hc
      exact ⟨dx, ds, dp_mono k.sub h1, dp_mono k.sub h2, hc.1, hc.2, q _ F H Stp.refl k (.bl _)⟩
    · cases e
theorem os_notInDp (hu : X.A.units + 65 < cLine) : OpS X (compareOp .NotIn) (inDp true) := .of (op_notInD hu) fun x y H Q ⟨L, D, F, dx, dy, dz, k, h1, h2, e, q⟩ => by
  match dy, h2, e with
  | .list ds, h2, e =>
    have e : (if SeqAt.shaped dx && SeqAt.shaped (.list ds) then some (PyData.bool (!(ds.any fun z => PyData.eqv z dx))) else none) = some dz := e
    split at e
    · rename_i hc
      cases e
      rw [Bool.and_eq_true] at hc
      exact ⟨dx, ds, dp_mono k.sub h1, dp_mono k.sub h2, hc.1, hc.2, q _ F H Stp.refl k (.bl _)⟩
    · cases e
def bkS : FS := fun ρ D => some (.bk ρ D)
theorem ds_brk : DS X (.Break pos) bkS := .mk fun L F0 H0 ρ D σ F H o E r hf q => by
  cases hf
  exact PSw ps_break (q σ F H r)
end
theorem walk_tabE {l : PySem.W.OpenLaw} {n k : Nat} {q : Program} {loose : List Str} {XP : (Str → Option Value) → Heap → Prop} {YP : World → Heap → Prop} {d : DefRec} {CX : World → CXT} {x : Str}
    (hn : l.most = some n) (hn2 : n ≤ sizeLine) (hdf : d.params.defaults = []) (hr : Room k callerA)
    (F : ∀ (w : World) (mg : Str → Option Value) (fa : Addr) (h : Heap), YP w h → h.Ns mainGlobals mg → mg d.name = some (.ref fa) → (∀ y : Str, ((recsOf q).any fun e => e.name == y) = true → TabOf mg h y) → ∃ K : PySem.W.Frag, K.In h ∧ LamX.LawAtS l w K (CX w) k n x mg fa h)
    (hCX : ∀ (w : World) (H : Hp) (s : Shared) (e : Value) (s' : Shared), CX w [] H s (fun _ _ _ => False) e s' → False) :
    PySem.W.WalkO q loose XP YP l.row.toRowW d [] (fun f vs => PySem.call f vs) := by
  refine Att.attach_callB hn hdf fun w s₀ s1 mg mb fa o pm cd doc a vs ns G Y ho hd hcd hmg hobj hints hlen hbits hg => ?_
  obtain ⟨K, KX, fd, cs, sp, hT, nT, C, hb, hsp, hF⟩ := F w mg fa _ Y G.T.g hmg fun y hy => by
    obtain ⟨dL, hm, hn1⟩ := List.any_eq_true.mp hy
    obtain ⟨a1, o1, fd1, c1, P1, h1, h2, h3, h4, h5, h6⟩ := G.T.tab dL hm
    rw [beq_iff_eq.mp hn1] at h1
    exact ⟨a1, o1, fd1, c1, P1, h1, h2, h3, h4, .of h5 h6, h6.2⟩
  exact LamX.law_callTs KX G.T.g G.T.b G.T.builtins G.T.nolimit hg hT nT C G.T.bmain hobj hints (Nat.le_trans hlen hn2) hr hF hb (fun H hH hS => hsp H a ns hlen hbits hH hS) fun H e s' => hCX w H s1 e s'
/-- a def that makes lambdas: its code object, the place of its table -/
theorem lam_of {K : PySem.W.Frag} {x : Str} {st : Stmt} {fd : FuncData} (h : lamB K x = true) (F : FunD K x x (defArgs st) (defBody st) (defScope st) [] [] (He.ga K x) fd) :
    ∃ (cc tP : Addr) (e : Value) (dd : Option Addr) (vs : Array Value) (sl : Array (Option Value)), FunC K x x st (He.ga K x) fd (.ref cc) ∧ K.lookup cc = some ⟨e, dd, .fields vs, sl⟩ ∧ vs[11]? = some (.ref tP) ∧ K.lookup tP = none ∧ (∃ o, K.lookup (He.ga K x) = some o ∧ o.data = .func fd) ∧ fd.code = .ref cc := by
  obtain ⟨⟨oc, od, kV, doc, pm, an, cdv, ct, osl, e, l, c⟩, kp⟩ := fun_of F
  unfold lamB at h
  rw [l] at h
  have ec : fd.code = cdv := by rw [e]
  dsimp only at h
  rw [ec] at h
  split at h
  · rename_i cc
    cases hk : K.lookup cc with
    | none => rw [hk] at h; cases h
    | some oo =>
      obtain ⟨e1, dd, dt, sl⟩ := oo
      rw [hk] at h
      split at h
      · rename_i vs hq
        cases hq
        split at h
        · rename_i tP ht
          have hn : K.lookup tP = none := Option.isNone_iff_eq_none.mp h
          exact ⟨cc, tP, _, _, _, _, ⟨⟨oc, od, kV, doc, pm, an, ct, osl, e, l, c⟩, kp⟩, hk, ht, hn, ⟨_, l, rfl⟩, ec⟩
        · cases h
      · cases h
  · cases h
end Den

end
-- DenCa
section
set_option Elab.async false
set_option linter.all false
set_option maxRecDepth 100000
set_option maxHeartbeats 1000000
namespace Den
open PySem PySem.Spec PyProof.Rows L2
/-! ### list(d.values()), d with keys that are ints and texts -/
def vwO (p a : Addr) : HO := .ext fun h => h.IsValuesView p a
theorem vw_keep {p a : Addr} (h1 h2 : Heap) (x : h1.IsValuesView p a) (k : ∀ o, h1.get? p = some o → h2.get? p = some o) : h2.IsValuesView p a := by
  obtain ⟨o, ho, r⟩ := x
  exact ⟨o, k _ ho, r⟩
def tVals (td : TE) : TE := fun σ H Q => td σ H fun x H1 => ∃ a kvs, x = V.ref a ∧ H1 a = some (.dK kvs) ∧ ∀ p, H1 p = none → Q (.ref p) (upd H1 p (vwO p a))
section
variable {X : Cx} {o : Expr} {p pos apos mpos : Pos} {td : TE}
theorem pe_vals (hd : PE X o td) (hbase : attributeBase o "values" X.env (eval o X.env) = eval o X.env := by rfl) (hline : (apos.endLine == mpos.line) = true := by rfl) :
    PE X (.Call (.Attribute o "values" apos) [] [] mpos) (tVals td) := by
  refine ⟨fun pins s σ H Q I h => ?_⟩
  refine wpAny_Call_method0_late hbase hline (thn (hd.run pins s σ H _ I h) fun v s1 ⟨x, H1, I1, r1, a, kvs, ex, ha, q⟩ => ?_)
  subst ex
  obtain rfl : v = Value.ref a := r1
  obtain ⟨_, hsys, vs, rel, dof⟩ := dk_of I1.hok ha
  obtain ⟨ep, dat⟩ := dof.dictAt
  have dat' := dat
  obtain ⟨ob, es, ho, ex, hdat, hko, hpr, hnd⟩ := dat'
  refine ⟨"dict", "dict.values", PySem.F.plainAttrs_dict, PySem.F.slot_dict_values, PySem.F.type_dict_values, ⟨ob, ho, ex.1⟩, fun b e => ?_, Calls.callWith_builtin rfl (PySem.evalArgs_none ?_)⟩
  · cases e
    exact ⟨ob, ho, ex.2.1⟩
  refine call_meetsIn PySem.F.slot_dict_values ⟨ob, ho, ex.1⟩ PySem.F.entry_dict_values (PySem.F.args_dict_values_1 _) (meets_dict_values (mixKind X.prog X.w) a hsys) ⟨⟨vs, dof⟩, ?_⟩
  have eb : (s1.heap.push { cls := .type "dict_values", data := .fields #[.ref a] }).IsValuesView s1.heap.objs.size a := ⟨_, Heap.get?_push_size _ rfl, rfl, rfl⟩
  have hp := I1.hok.fresh (Nat.le_refl s1.heap.objs.size)
  exact ⟨.ref s1.heap.objs.size, upd H1 s1.heap.objs.size (vwO s1.heap.objs.size a),
    I1.laid (t' := s1.toks) (a := s1.heap.objs.size) (o := vwO s1.heap.objs.size a) (h' := s1.heap.push { cls := .type "dict_values", data := .fields #[.ref a] }) (fun b u q => Heap.get?_push_of_some _ q) (Nat.le_refl _) ⟨eb, ⟨_, Heap.get?_push_size _ rfl⟩, fun h1 h2 f k => vw_keep h1 h2 f k⟩, rfl, q _ hp⟩
theorem call_listV (hc : X.calm = true) : CallR X (.type "list") (fun xs H Q => ∃ p a kvs, xs = [.ref p] ∧ H p = some (vwO p a) ∧ H a = some (.dK kvs) ∧ ∀ l, H l = none → Q (.ref l) (upd H l (.lst (kvs.map (·.2))))) := by
  intro pins s σ H xs us Q I r h
  obtain ⟨p, a, kvs, rfl, hp, ha, q⟩ := h
  obtain ⟨u, rfl, rx⟩ := vals1 r
  cases rx
  have hv : s.heap.IsValuesView p a := (show ObjOk X.prog X.w H s.heap p (vwO p a) from I.hok p _ hp).1
  obtain ⟨hz, hsys, vs, rel, dof⟩ := dk_of I.hok ha
  obtain ⟨ep, dat⟩ := dof.dictAt
  have hlen : kvs.length = vs.length := KV.length rel
  refine PySem.W.kdl_call (PySem.W.kdl_values (knd := mixKind X.prog X.w) (r := p) (d := a) (kvs := vs) (ep := ep)) (I.ok.hd hc) ⟨hv, dat⟩ (by rw [← hlen]; exact hz) fun h' tk acc' c' hk hS items => ?_
  have e : acc'.toList = vs.map (·.2) := PySem.W.kdl_vals_eq acc'.toList (by rw [Array.length_toList]; exact items.1) fun j v e => items.2 j v (by rw [← Array.getElem?_toList]; exact e)
  have rv : Vals (kvs.map (·.2)) (vs.map (·.2)) := by
    clear dat dof hv e hS items hlen hz ha q
    induction rel with
    | nil => exact .nil
    | cons h t ih => exact .cons (by first | exact h.2 | exact h) ih
  refine ⟨.ref s.heap.objs.size, _, I.laid (t' := tk) (h' := h') hk (Nat.le_refl _) (show ObjOk X.prog X.w _ h' _ (.lst (kvs.map (·.2))) from ⟨by rw [List.length_map]; exact hz, vs.map (·.2), c', rv, ?_⟩), rfl, q _ (I.hok.fresh (Nat.le_refl _))⟩
  rw [hS, ← e, Array.toArray_toList]
end
end Den

end
-- DenCb
section
set_option Elab.async false
set_option linter.all false
set_option maxRecDepth 100000
set_option maxHeartbeats 2000000
namespace Den
open PySem PySem.Spec PyProof.Rows L2
variable [TB : Tabl]
/-! ### d = {}, then d.setdefault(key, []).append(value) in a loop, then list(d.values()) -/
theorem nm_cons {α : Type} {a b : α} {l : List α} (h : a ∉ b :: l) : a ≠ b ∧ a ∉ l := ⟨fun z => h (by rw [z]; exact List.mem_cons_self ..), fun z => h (List.mem_cons_of_mem _ z)⟩
def grpS : List (Str × List PyData) → Str → PyData → List (Str × List PyData)
  | [], k, v => [(k, [v])]
  | g :: r, k, v => if g.1 = k then (g.1, g.2 ++ [v]) :: r else g :: grpS r k v
def noOwn (ρ : Env) : Bool := ρ.all fun o => match o with
  | some (.own _) => false
  | _ => true
def smallG (gs : List (Str × List PyData)) : Bool := decide (gs.length < 1000000) && gs.all fun g => decide (g.2.length < 1000000)
def grpL (tf : PyData → Env → Option Env) (fk fv : FE) : List PyData → Env → Dw → List (Str × List PyData) → Option (List (Str × List PyData) × Dw)
  | [], _, D, gs => some (gs, D)
  | x :: xs, ρ, D, gs => (tf x ρ).bind fun ρ1 => if noOwn ρ1 && smallG gs then (fk ρ1 D).bind fun k => (asS k.1).bind fun s => (fv ρ1 k.2).bind fun v => grpL tf fk fv xs ρ1 v.2 (grpS gs s v.1) else none
def grpB (i : Nat) (fi : FL) (tf : PyData → Env → Option Env) (fk fv : FE) : FS := fun ρ D => if (noOwn (ρ.set i none) && decide (i < ρ.length)) = true then (fi (ρ.set i none) D).bind fun r => (grpL tf fk fv r.1 (ρ.set i none) r.2 []).bind fun z => if z.1.length ≤ 1000000 then some (.rt (.list (z.1.map fun g => .list g.2)) z.2) else none else none
theorem noOwn_at {ρ : Env} (h : noOwn ρ = true) (j : Nat) (ys : List PyData) : ρ[j]? ≠ some (some (.own ys)) := fun e => by
  have := List.all_eq_true.mp h _ (List.mem_of_getElem? e)
  cases this
/-- the groups, where they stand -/
inductive GI (K : PySem.W.Frag) (L : Loc) (H0 F H : Hp) : List (Key × V) → List (Str × List PyData) → List Addr → Prop where
  | nil : GI K L H0 F H [] [] []
  | cons {s : Str} {p : Addr} {vs : List V} {xs : List PyData} {kvs : List (Key × V)} {gs : List (Str × List PyData)} {ps : List Addr} : H0 p = none → F p = none → ¬ isD L p → H p = some (.lst vs) → DpAll K F vs xs → p ∉ ps → GI K L H0 F H kvs gs ps → GI K L H0 F H ((.inr s, .ref p) :: kvs) ((s, xs) :: gs) (p :: ps)
section
variable {K : PySem.W.Frag} {L : Loc} {H0 F H F' H' : Hp} {kvs : List (Key × V)} {gs : List (Str × List PyData)} {ps : List Addr}
theorem GI.len (g : GI K L H0 F H kvs gs ps) : kvs.length = gs.length := by
  induction g with
  | nil => rfl
  | cons _ _ _ _ _ _ _ ih => rw [List.length_cons, List.length_cons, ih]
theorem GI.there (g : GI K L H0 F H kvs gs ps) {q : Addr} (h : q ∈ ps) : H q ≠ none := by
  induction g with
  | nil => cases h
  | cons h0 hF n hp hv hn g ih =>
    rcases List.mem_cons.mp h with rfl | h
    · rw [hp]; exact fun z => nomatch z
    · exact ih h
theorem GI.step (g : GI K L H0 F H kvs gs ps) (t : Stp L F H F' H') : GI K L H0 F' H' kvs gs ps := by
  induction g with
  | nil => exact .nil
  | cons h0 hF n hp hv hn g ih =>
    rename_i s p vs xs kvs gs ps
    refine .cons h0 ?_ n (t.keep p _ hp n) (dpa_mono t.ex hv) hn ih
    cases r : F' p with
    | none => rfl
    | some u => exact absurd hF (t.sep p (by rw [hp]; exact fun z => nomatch z) (by rw [r]; exact fun z => nomatch z))
theorem GI.put (g : GI K L H0 F H kvs gs ps) {q : Addr} {o : HO} (h : q ∉ ps) : GI K L H0 F (upd H q o) kvs gs ps := by
  induction g with
  | nil => exact .nil
  | cons h0 hF n hp hv hn g ih =>
    have h1 := nm_cons h
    exact .cons h0 hF n (by rw [upd_ne (Ne.symm h1.1)]; exact hp) hv hn (ih h1.2)
theorem GI.at_ (g : GI K L H0 F H kvs gs ps) {s : Str} {v : V} (h : valV kvs (.inr s) = some v) : ∃ p vs, v = .ref p ∧ p ∈ ps ∧ H0 p = none ∧ F p = none ∧ ¬ isD L p ∧ H p = some (.lst vs) ∧ ∃ xs, (s, xs) ∈ gs ∧ vs.length = xs.length := by
  induction g with
  | nil => cases h
  | cons h0 hF n hp hv hn g ih =>
    rename_i s' p vs xs kvs gs ps
    by_cases e : s' = s
    · subst e
      rw [valV_pos rfl] at h
      cases h
      exact ⟨p, vs, rfl, List.mem_cons_self .., h0, hF, n, hp, xs, List.mem_cons_self .., (dpa_len hv).symm ▸ rfl⟩
    · rw [valV_neg (fun z => e (Sum.inr.inj z))] at h
      obtain ⟨p', vs', e1, e2, r1, r2, r3, r4, xs', r5, r6⟩ := ih h
      exact ⟨p', vs', e1, List.mem_cons_of_mem _ e2, r1, r2, r3, r4, xs', List.mem_cons_of_mem _ r5, r6⟩
theorem GI.app (g : GI K L H0 F H kvs gs ps) {s : Str} {p : Addr} {vs : List V} {w : V} {x : PyData} (h : valV kvs (.inr s) = some (.ref p)) (hp : H p = some (.lst vs)) (hw : Dp K F w x) : GI K L H0 F (upd H p (.lst (vs ++ [w]))) kvs (grpS gs s x) ps := by
  induction g with
  | nil => cases h
  | cons h0 hF n hp' hv hn g ih =>
    rename_i s' p' vs' xs kvs gs ps
    by_cases e : s' = s
    · subst e
      rw [valV_pos rfl] at h
      cases h
      rw [hp] at hp'
      cases hp'
      unfold grpS
      rw [if_pos rfl]
      exact .cons h0 hF n upd_same (dpa_app hv (.cons hw .nil)) hn (g.put hn)
    · rw [valV_neg (fun z => e (Sum.inr.inj z))] at h
      unfold grpS
      rw [if_neg e]
      obtain ⟨q, _, e1, e2, _⟩ := g.at_ h
      cases e1
      exact .cons h0 hF n (by rw [upd_ne (fun z => hn (by rw [z]; exact e2))]; exact hp') hv hn (ih h)
theorem GI.new (g : GI K L H0 F H kvs gs ps) {s : Str} {l : Addr} {w : V} {x : PyData} (h : valV kvs (.inr s) = none) (h0 : H0 l = none) (hF : F l = none) (n : ¬ isD L l) (hl : H l = some (.lst [w])) (hn : l ∉ ps) (hw : Dp K F w x) : GI K L H0 F H (kvs ++ [(.inr s, .ref l)]) (grpS gs s x) (ps ++ [l]) := by
  induction g with
  | nil => exact .cons h0 hF n hl (.cons hw .nil) (by simp) .nil
  | cons h0' hF' n' hp' hv hn' g ih =>
    rename_i s' p' vs' xs kvs gs ps
    by_cases e : s' = s
    · subst e
      rw [valV_pos rfl] at h
      cases h
    · rw [valV_neg (fun z => e (Sum.inr.inj z))] at h
      unfold grpS
      rw [if_neg e]
      have h1 := nm_cons hn
      exact .cons h0' hF' n' hp' hv (fun z => by
        rcases List.mem_append.mp z with z | z
        · exact hn' z
        · exact h1.1 (List.mem_singleton.mp z).symm) (ih h h1.2)
theorem put_new {s : Str} {v : V} : ∀ {kvs : List (Key × V)}, valV kvs (.inr s) = none → putK kvs (.inr s) v = kvs ++ [(.inr s, v)] := fun {kvs} h => by
  unfold putK
  rw [if_neg]
  intro z
  obtain ⟨kv, hm, e⟩ := List.any_eq_true.mp z
  unfold valV at h
  have h := Option.map_eq_none_iff.mp h
  exact List.find?_eq_none.mp h kv hm e
/-- the groups become data -/
theorem GI.frz {F0 : Hp} {ρ : Env} {D : Dw} {σ : L2.St} (g : GI K L H0 F H kvs gs ps) : ∀ {F : Hp}, GI K L H0 F H kvs gs ps → Rep K L F0 H0 ρ D σ F H → noOwn ρ = true → ∃ F', Rep K L F0 H0 ρ D σ F' H ∧ Ex F F' ∧ (∀ q, q ∉ ps → F' q = F q) ∧ DpAll K F' (kvs.map (·.2)) (gs.map fun g => .list g.2) := by
  clear g
  induction kvs generalizing gs ps with
  | nil =>
    intro F g r no
    cases g
    exact ⟨F, r, Ex.refl F, fun _ _ => rfl, .nil⟩
  | cons kv kvs ih =>
    intro F g r no
    cases g with
    | cons h0 hF n hp hv hn g =>
      rename_i s p vs xs gs ps
      obtain ⟨F1, r1, x1, o1, d1⟩ := ih g r no
      have hF1 : F1 p = none := by rw [o1 p hn]; exact hF
      refine ⟨upd F1 p (.lst vs), r1.frzBeside hp h0 hF1 n (fun j ys e => absurd e (noOwn_at no j ys)), x1.trans (Ex.new hF1), fun q hq => ?_, ?_⟩
      · have h1 := nm_cons hq
        rw [upd_ne h1.1, o1 q h1.2]
      · exact .cons (.lst (.inl (.inl upd_same)) (dpa_mono (x1.trans (Ex.new hF1)) hv)) (dpa_mono (Ex.new hF1) d1)
end
theorem wipe_ne {j : Nat} : ∀ (vs : List Nat) (σ : L2.St), j ∉ vs → (wipe σ vs)[j]? = σ[j]?
  | [], _, _ => rfl
  | v :: vs, σ, h => by
    have h1 := nm_cons h
    show ((wipe σ vs).set v none)[j]? = _
    rw [List.getElem?_set_ne (Ne.symm h1.1), wipe_ne vs σ h1.2]
end Den

end
-- DenCc
section
set_option Elab.async false
set_option linter.all false
set_option maxRecDepth 100000
set_option maxHeartbeats 4000000
namespace Den
open PySem PySem.Spec PyProof.Rows L2
variable [TB : Tabl]
/-! ### the groups: the rule of the block -/
section
variable {X : Cx} {tg iter ek ev : Expr} {fi : FL} {tf : PyData → Env → Option Env} {fk fv : FE} {i : Nat} {x : Str} {is : List Nat} {g : TG} {px p0 p2 pa n1 n2 a1 a2 a3 c1 c2 c3 c4 e1 f1 l1 r1 : Pos}
/-- the block -/
def grpSts (x : Str) (tg iter ek ev : Expr) (px p0 p2 pa n1 n2 a1 a2 a3 c1 c2 c3 c4 e1 f1 l1 r1 : Pos) : List Stmt :=
  [.Assign [.Name x px] (.Dict [] [] p0) pa,
   .For tg iter [.Expr (.Call (.Attribute (.Call (.Attribute (.Name x n1) "setdefault" a1) [ek, .List [] p2] [] c1) "append" a2) [ev] [] c2) e1] [] f1,
   .Return (some (.Call (.Name "list" l1) [.Call (.Attribute (.Name x n2) "values" a3) [] [] c3] [] c4)) r1]
theorem small_at {gs : List (Str × List PyData)} (h : smallG gs = true) : gs.length < 1000000 ∧ ∀ g ∈ gs, g.2.length < 1000000 := by
  obtain ⟨h1, h2⟩ := Bool.and_eq_true_iff.mp h
  exact ⟨of_decide_eq_true h1, fun g hg => of_decide_eq_true (List.all_eq_true.mp h2 g hg)⟩
theorem lt_size {n : Nat} (h : n < 1000000) : n < sizeLine := Nat.lt_of_lt_of_le h (by decide)
theorem db_grp (hp : PassesOwn (model X.prog X.w) X.A X.env X.xe) (hc : X.calm = true) (hN : X.N.Nodup) (hgl : Gl X "list") (hml : X.mg "list" = none) (hbl : bootBuiltins "list" = some (.type "list"))
    (hi : DI X tg iter fi) (hpg : PG X tg g) (hgd : TgD X.K is g tf) (hk : DE X ek fk) (hv : DE X ev fv) (hni : i ∉ is)
    (hx : X.N[i]? = some x) (hl : L2.Loc X.env.scope x) (hvis : Vis X.env.scope x) (hd : (x == ("__debug__" : Str)) = false) (hcd : (x == ("__classdict__" : Str)) = false)
    (hs : swapsWith (.Dict [] [] p0) (some (.Name x px)) pa.line X.env = pure false) (hf : X.fn x = true ∨ X.env.scope.names.lookup x = some .local)
    (hfold : ∀ v, foldedSetIterable iter X.env v = pure v)
    (m : M2 X (.Name x n1) "setdefault" a1 ek (.List [] p2) c1)
    (hb2 : attributeBase (.Call (.Attribute (.Name x n1) "setdefault" a1) [ek, .List [] p2] [] c1) "append" X.env (eval (.Call (.Attribute (.Name x n1) "setdefault" a1) [ek, .List [] p2] [] c1) X.env) = eval (.Call (.Attribute (.Name x n1) "setdefault" a1) [ek, .List [] p2] [] c1) X.env)
    (hfew : ((backTo c2 (starEach [ev] X.env)).all (fun x => !x.1) && (backToKw c2 (keywordEach [] X.env)).all (fun x => x.1.isSome)
      && decide ([ev].length + ([] : List Keyword).length + (if ([] : List Keyword).isEmpty then 0 else 1) < 30)) = true)
    (hline : (a2.endLine == c2.line) = true) (hse : starEach [ev] X.env = (false, eval ev X.env) :: starEach [] X.env) (hpl : (backTo c2 (starEach [] X.env)).any (·.1) = false)
    (hsw : swapsWith (.Call (.Attribute (.Call (.Attribute (.Name x n1) "setdefault" a1) [ek, .List [] p2] [] c1) "append" a2) [ev] [] c2) none e1.line X.env = pure false)
    (hbv : attributeBase (.Name x n2) "values" X.env (eval (.Name x n2) X.env) = eval (.Name x n2) X.env) (hlv : (a3.endLine == c3.line) = true)
    (hsl : starEach [.Call (.Attribute (.Name x n2) "values" a3) [] [] c3] X.env = (false, eval (.Call (.Attribute (.Name x n2) "values" a3) [] [] c3) X.env) :: starEach [] X.env) (hpl4 : (backTo c4 (starEach [] X.env)).any (·.1) = false) :
    DB X (grpSts x tg iter ek ev px p0 p2 pa n1 n2 a1 a2 a3 c1 c2 c3 c4 e1 f1 l1 r1) (grpB i fi tf fk fv) := .mk fun L F0 H0 ρ D σ F H o E r hfo q => by
  unfold grpB at hfo
  split at hfo
  · rename_i no
    obtain ⟨no, il0⟩ := Bool.and_eq_true_iff.mp no
    have il0 := of_decide_eq_true il0
    obtain ⟨⟨xs, D1⟩, e1, hfo⟩ := bind_split hfo
    obtain ⟨⟨gs, D2⟩, e2, hfo⟩ := bind_split hfo
    dsimp only at hfo
    split at hfo
    · rename_i hsz
      cases hfo
      refine PBw (pss_cons (ps_set hN hx hl pe_dnewK hs hf) (pss_cons (ps_for hp hc pi_w hpg (pss_one (ps_expr (pe_bm PySem.F.plainAttrs_list PySem.F.slot_list_append PySem.F.type_list_append mt_append (pe_dsetd (pe_var hx hvis hd hcd) pe_w (pe_lst pa_nil) m) (pa_cons pe_w pa_nil hse) hb2 hfew hline hse hpl) hsw)) hfold)
        (pss_one (ps_ret (pe_callTy (call_listV hc) hgl hml hbl (pa_cons (pe_vals (pe_var hx hvis hd hcd) hbv hlv) pa_nil hsl) (by decide) (by decide) hsl hpl4))))) fun a ha => ?_
      have h0a : H0 a = none := back_none r.stp ha
      have hFa : F a = none := r.ok.sub.back ha
      have na : ¬ isD L a := r.ok.nd ha
      have rr : Rep X.K L F0 H0 (ρ.set i none) D (σ.set i (some (.ref a))) F (upd H a (.dK [])) := (r.step (Stp.fresh ha (o := .dK [])) (r.ok.fresh ha)).setN i (some (.ref a))
      have il : i < σ.length := by rw [r.len]; exact il0
      have sa : (σ.set i (some (V.ref a)))[i]? = some (some (.ref a)) := List.getElem?_set_self il
      refine hi.run L F0 H0 _ D _ F _ xs D1 rr e1 _ fun J F1 H1 t1 k1 wd => ?_
      have hHa : H1 a = some (.dK []) := t1.keep a _ upd_same na
      have hF1 : F1 a = none := by
        cases z : F1 a with
        | none => rfl
        | some u => exact absurd hFa (t1.sep a (by rw [upd_same]; exact fun z => nomatch z) (by rw [z]; exact fun z => nomatch z))
      refine ⟨fun k mm σ' H' => ∃ ρ' D' F' kvs gs' ps, Rep X.K L F0 H0 ρ' D' σ' F' H' ∧ Ex F1 F' ∧ k ≤ xs.length ∧ mm = xs.length - k ∧ grpL tf fk fv (xs.drop k) ρ' D' gs' = some (gs, D2) ∧ noOwn ρ' = true ∧ σ'[i]? = some (some (.ref a)) ∧ H' a = some (.dK kvs) ∧ F' a = none ∧ a ∉ ps ∧ GI X.K L H0 F' H' kvs gs' ps,
        ⟨xs.length, _, D1, F1, [], [], [], rr.step t1 k1, Ex.refl F1, Nat.zero_le _, rfl, e2, no, sa, hHa, hF1, by simp, .nil⟩, ?_⟩
      rintro k mm σ' H' ⟨ρ', D', F', kvs, gs', ps, r', x', hk', rfl, hl', no', sa', ha', hFa', hap, gi⟩
      by_cases hlt : k < xs.length
      · rw [List.drop_eq_getElem_cons hlt] at hl'
        obtain ⟨ρ1, e3, hl'⟩ := bind_split hl'
        split at hl'
        · rename_i hcc
          obtain ⟨no1, hsm⟩ := Bool.and_eq_true_iff.mp hcc
          obtain ⟨⟨kd, D3⟩, e4, hq1⟩ := bind_split hl'
          obtain ⟨s, e5, hq2⟩ := bind_split hq1
          obtain ⟨⟨vd, D4⟩, e6, hq3⟩ := bind_split hq2
          have e7 := asS_some e5
          dsimp only at e7 hq3 e6
          subst e7
          obtain ⟨sm1, sm2⟩ := small_at hsm
          refine .inr ⟨wd.go k D' F' H' x' r'.ok hlt, fun σ2 H2 => ∃ ρ2 D2' F2 kvs2 gs2 ps2, Rep X.K L F0 H0 ρ2 D2' σ2 F2 H2 ∧ Ex F1 F2 ∧ grpL tf fk fv (xs.drop (k + 1)) ρ2 D2' gs2 = some (gs, D2) ∧ noOwn ρ2 = true ∧ σ2[i]? = some (some (.ref a)) ∧ H2 a = some (.dK kvs2) ∧ F2 a = none ∧ a ∉ ps2 ∧ GI X.K L H0 F2 H2 kvs2 gs2 ps2, ?_, ?_⟩
          · rintro σ2 H2 ⟨ρ2, D2', F2, kvs2, gs2, ps2, r2, x2, h2, n2, s2, ha2, hF2, hap2, gi2⟩
            exact ⟨xs.length - (k + 1), by omega, ρ2, D2', F2, kvs2, gs2, ps2, r2, x2, hlt, rfl, h2, n2, s2, ha2, hF2, hap2, gi2⟩
          · intro y H2 hy
            obtain ⟨F2, t2, k2, hd2⟩ := wd.yld k _ D' F' H' y H2 x' r'.ok (List.getElem?_eq_getElem hlt) hy
            have x12 := x'.trans t2.ex
            have keepA : ∀ {Fa Ha Fb Hb : Hp} {kv : List (Key × V)}, Stp L Fa Ha Fb Hb → Ha a = some (.dK kv) → Fa a = none → Hb a = some (.dK kv) ∧ Fb a = none := fun {Fa Ha Fb Hb kv} t h hF => by
              refine ⟨t.keep a _ h na, ?_⟩
              cases z : Fb a with
              | none => rfl
              | some u => exact absurd hF (t.sep a (by rw [h]; exact fun z => nomatch z) (by rw [z]; exact fun z => nomatch z))
            obtain ⟨ha2, hF2⟩ := keepA t2 ha' hFa'
            have gi2 := gi.step t2
            refine hgd.run L F0 H0 ρ' D' σ' F2 H2 y _ ρ1 (r'.step t2 k2) hd2 e3 _ fun σ3 r3 w3 => ?_
            have s3 : σ3[i]? = some (some (.ref a)) := by
              rw [← wipe_ne is σ3 hni, w3, wipe_ne is σ' hni]; exact sa'
            -- the receiver: groups.setdefault(key, [])
            refine ⟨_, s3, a, rfl, .inl ⟨_, .inl ha2⟩, hk.run L F0 H0 ρ1 D' σ3 F2 H2 _ _ r3 e4 _ fun kv F3 H3 t3 k3 hkv => ?_⟩
            have ekv := dp_str hkv
            subst ekv
            obtain ⟨ha3, hF3⟩ := keepA t3 ha2 hF2
            have gi3 := gi2.step t3
            have r4 := r3.step t3 k3
            refine ⟨Nat.zero_le _, fun l hl3 => ?_⟩
            have nla : l ≠ a := fun z => by rw [z, ha3] at hl3; cases hl3
            have h0l : H0 l = none := back_none r4.stp hl3
            have hFl : F3 l = none := r4.ok.sub.back hl3
            have ndl : ¬ isD L l := r4.ok.nd hl3
            have nlp : l ∉ ps := fun z => gi3.there z hl3
            have r5 := r4.step (Stp.fresh hl3 (o := .lst [])) (r4.ok.fresh hl3)
            have gi5 : GI X.K L H0 F3 (upd H3 l (.lst [])) kvs gs' ps := gi3.put nlp
            have ha5 : upd H3 l (.lst []) a = some (.dK kvs) := by rw [upd_ne (Ne.symm nla)]; exact ha3
            have klen : kvs.length < sizeLine := by rw [gi5.len]; exact lt_size sm1
            -- what follows: the list at p gets the value
            refine ⟨kvs, .inr s, ha5, rfl, klen, fun v hval => ?_, fun hnone => ?_⟩
            · obtain ⟨p, vs, rfl, hpm, h0p, hFp, ndp, hpl', zs, hzs, hzl⟩ := gi5.at_ hval
              refine ⟨.inl ⟨rfl, vs, .inl (.inl hpl')⟩, ?_⟩
              refine hv.run L F0 H0 ρ1 D3 σ3 F3 _ _ _ r5 e6 _ fun w F6 H6 t6 k6 hw => ?_
              obtain ⟨ha6, hF6⟩ := keepA t6 ha5 hF3
              have gi6 := gi5.step t6
              have r6 := r5.step t6 k6
              have hp6 : H6 p = some (.lst vs) := t6.keep p _ hpl' ndp
              have npa : p ≠ a := fun z => hap (by rw [← z]; exact hpm)
              have hF6p : F6 p = none := by
                cases z : F6 p with
                | none => rfl
                | some u => exact absurd hFp (t6.sep p (by rw [hpl']; exact fun z => nomatch z) (by rw [z]; exact fun z => nomatch z))
              refine ⟨p, vs, w, rfl, rfl, hp6, lt_size (by rw [hzl]; exact sm2 _ hzs), ?_⟩
              refine ⟨ρ1, D4, F6, kvs, grpS gs' s vd, ps, r6.beside h0p hF6p ndp (not_code hp6) (fun j ys e => absurd e (noOwn_at no1 j ys)), (x12.trans t3.ex).trans t6.ex, hq3, no1, s3, by rw [upd_ne (Ne.symm npa)]; exact ha6, hF6, hap, gi6.app hval hp6 hw⟩
            · -- a new group
              have ea : upd (upd H3 l (.lst [])) a (.dK (putK kvs (.inr s) (.ref l))) l = some (.lst []) := by rw [upd_ne nla]; exact upd_same
              refine ⟨.inl ⟨rfl, [], .inl (.inl ea)⟩, ?_⟩
              have h0a' : H0 a = none := h0a
              have nca : ∀ q, upd H3 l (.lst []) a ≠ some (LamX.CodeO a q) := fun q z => by
                rw [ha5] at z
                unfold LamX.CodeO at z
                cases z
              have r7 := r5.beside (o := .dK (putK kvs (.inr s) (.ref l))) h0a' hF3 na nca (fun j ys e => absurd e (noOwn_at no1 j ys))
              refine hv.run L F0 H0 ρ1 D3 σ3 F3 _ _ _ r7 e6 _ fun w F6 H6 t6 k6 hw => ?_
              obtain ⟨ha6, hF6⟩ := keepA t6 upd_same hF3
              have gi7 : GI X.K L H0 F3 (upd (upd H3 l (.lst [])) a (.dK (putK kvs (.inr s) (.ref l)))) kvs gs' ps := gi5.put hap
              have gi6 := gi7.step t6
              have r6 := r7.step t6 k6
              have hl6 : H6 l = some (.lst []) := t6.keep l _ ea ndl
              have hF6l : F6 l = none := by
                cases z : F6 l with
                | none => rfl
                | some u => exact absurd hFl (t6.sep l (by rw [ea]; exact fun z => nomatch z) (by rw [z]; exact fun z => nomatch z))
              refine ⟨l, [], w, rfl, rfl, hl6, lt_size (by decide), ?_⟩
              refine ⟨ρ1, D4, F6, kvs ++ [(.inr s, .ref l)], grpS gs' s vd, ps ++ [l], r6.beside h0l hF6l ndl (not_code hl6) (fun j ys e => absurd e (noOwn_at no1 j ys)), (x12.trans t3.ex).trans t6.ex, hq3, no1, s3, ?_, hF6, ?_, ?_⟩
              · rw [upd_ne (Ne.symm nla), ha6, put_new hnone]
              · intro z
                rcases List.mem_append.mp z with z | z
                · exact hap z
                · exact nla (List.mem_singleton.mp z).symm
              · exact (gi6.put nlp).new hnone h0l hF6l ndl upd_same nlp hw
        · cases hl'
      · have e : k = xs.length := by omega
        subst e
        rw [List.drop_length] at hl'
        cases hl'
        refine .inl ⟨wd.stop _ _ F' H' x' r'.ok (Nat.le_refl _), ?_⟩
        -- list(groups.values())
        refine ⟨_, sa', a, kvs, rfl, ha', fun p hp' => ?_⟩
        have npa : p ≠ a := fun z => by rw [z, ha'] at hp'; cases hp'
        have npp : p ∉ ps := fun z => gi.there z hp'
        have r2 := r'.step (Stp.fresh hp' (o := vwO p a)) (r'.ok.fresh hp')
        have gi2 : GI X.K L H0 F' (upd H' p (vwO p a)) kvs gs ps := gi.put npp
        refine ⟨p, a, kvs, rfl, upd_same, by rw [upd_ne (Ne.symm npa)]; exact ha', fun l hl2 => ?_⟩
        obtain ⟨F2, r3, x3, _, d3⟩ := gi2.frz gi2 r2 no'
        have hFl := r3.ok.sub.back hl2
        exact q (.ref l) _ _ (r3.stp.trans (Stp.laid r3.ok.sub hl2)) (r3.ok.laid hl2) (.lst (.inl (.inl upd_same)) (dpa_mono (Ex.new hFl) d3))
    · cases hfo
  · cases hfo
end
end Den

end
-- K04g
section
set_option Elab.async false
set_option linter.all false
set_option maxRecDepth 100000
set_option maxHeartbeats 4000000
namespace K04
open PySem PySem.Spec PyProof.Rows L2 Den
/-- the module's table with tuple keys, as written -/
def looksP : List (List Str × Str) := [(["signs", "apart"], "=e<<b<<<<ee<<<<<<bb<<<<b<<<<<<<b<<<<<<<<<<<<bbbb<<<<<<<<<bb<<bbbb<<<<bbbbbb"), (["signs", "mixed"], "=e<>b<<<<ee<<<<<<bb<<<<b<<<<<<<b<<<<<<<<<<<<bbbb<<<<<<<<<bb<<bbbb<<<<bbbbbb"), (["signs", "together"], "=e<>b=eE<ee>bB<<<bb<<<<b<><eEeEb<<>><<><bBbBbbbb<<>>bB<<<bbbBbbbbbbBBbbbbbb"), (["numbers", "apart"], "=e<<b<<<=<=<<<eE><E><bB=<<><<<<e<<<<>><<<<<<>><B<<<<<<>>><><<<<>><<<<<<<>>>"), (["numbers", "mixed"], "=e<>b<<<=<=<<<eE><E<>bB=<<><<<<e<<<<>><<<<<<><>B<<<<<<>>><><<<<>><<<<<<<>>>"), (["numbers", "together"], "=e<>b=eE=<=>bBeE><E<>bB====<>==eeEeEeE<><>Ee><>BbBbB==<bB==eEeEeE>B<b>bB<bB")]
abbrev dT : Addr := 115
abbrev psT : List (List Key × Addr × Value) := psFrom dT 340 looksP
def phi__law_draw : Fn := drawPhi
def tab_OrderError : List (Str × Bool) := [("BadRule", true), ("BadText", true), ("BadNumber", true), ("NotFound", true)]
def tab_BadRule : List (Str × Bool) := [("BadRule", true), ("BadText", false), ("BadNumber", false), ("NotFound", false)]
def tab_BadText : List (Str × Bool) := [("BadRule", false), ("BadText", true), ("BadNumber", false), ("NotFound", false)]
def tab_BadNumber : List (Str × Bool) := [("BadRule", false), ("BadText", false), ("BadNumber", true), ("NotFound", false)]
def tab_NotFound : List (Str × Bool) := [("BadRule", false), ("BadText", false), ("BadNumber", false), ("NotFound", true)]
def tab_ValueError : List (Str × Bool) := [("BadRule", true), ("BadText", true), ("BadNumber", true), ("NotFound", true)]
def clsT (q_OrderError q_BadRule q_BadText q_BadNumber q_NotFound : Addr) : Str → Addr := fun s => (([("OrderError", q_OrderError), ("BadRule", q_BadRule), ("BadText", q_BadText), ("BadNumber", q_BadNumber), ("NotFound", q_NotFound)] : List (Str × Addr)).lookup s).getD 0
theorem cls_OrderError (q_OrderError q_BadRule q_BadText q_BadNumber q_NotFound : Addr) : clsT q_OrderError q_BadRule q_BadText q_BadNumber q_NotFound "OrderError" = q_OrderError := by kernel_rfl
theorem cls_BadRule (q_OrderError q_BadRule q_BadText q_BadNumber q_NotFound : Addr) : clsT q_OrderError q_BadRule q_BadText q_BadNumber q_NotFound "BadRule" = q_BadRule := by kernel_rfl
theorem cls_BadText (q_OrderError q_BadRule q_BadText q_BadNumber q_NotFound : Addr) : clsT q_OrderError q_BadRule q_BadText q_BadNumber q_NotFound "BadText" = q_BadText := by kernel_rfl
theorem cls_BadNumber (q_OrderError q_BadRule q_BadText q_BadNumber q_NotFound : Addr) : clsT q_OrderError q_BadRule q_BadText q_BadNumber q_NotFound "BadNumber" = q_BadNumber := by kernel_rfl
theorem cls_NotFound (q_OrderError q_BadRule q_BadText q_BadNumber q_NotFound : Addr) : clsT q_OrderError q_BadRule q_BadText q_BadNumber q_NotFound "NotFound" = q_NotFound := by kernel_rfl
abbrev N_is_whole : List Str := ["value", "low", "high"]
def g_is_whole : FS := seqS (ifS (orT (notT (truD (isiD "int" (varD 0)))) (truD (isiD "bool" (varD 0)))) (retS (cD (.bool false))) (nxS)) (retS (chainD leI leI (varD 1) (varD 0) (varD 2)))
def phi_is_whole : Fn := fun as D => (g_is_whole (startA N_is_whole as) D).bind outD
abbrev N_is_word : List Str := ["value", "words"]
def g_is_word : FS := retS (andV (isiD "str" (varD 0)) (binD inO (varD 0) (varD 1)))
def phi_is_word : Fn := fun as D => (g_is_word (startA N_is_word as) D).bind outD
abbrev N_is_rule : List Str := ["value", "case", "figures", "bars", "ends", "turned"]
def g_is_rule : FS := seqS (ifS (orT (notT (truD (isiD "tuple" (varD 0)))) (boolD (binD neO (biD lenO (argD (varD 0) (argN))) (cD (.int 5))))) (retS (cD (.bool false))) (nxS)) (seqS (asgT (varD 0) (tupG 5 (consG (nameG 1) (consG (nameG 2) (consG (nameG 3) (consG (nameG 4) (consG (nameG 5) (nilG)))))))) (seqS (ifS (orT (notT (truD (callD phi_is_word (argD (varD 1) (argD (cD (.tuple [(.str "apart"), (.str "mixed"), (.str "together"), (.str "last")])) (argN)))))) (notT (truD (callD phi_is_word (argD (varD 2) (argD (cD (.tuple [(.str "signs"), (.str "numbers"), (.str "strict")])) (argN))))))) (retS (cD (.bool false))) (nxS)) (seqS (ifS (orT (notT (truD (callD phi_is_word (argD (varD 3) (argD (cD (.tuple [(.str "ahead"), (.str "behind")])) (argN)))))) (notT (truD (callD phi_is_word (argD (varD 4) (argD (cD (.tuple [(.str "first"), (.str "behind")])) (argN))))))) (retS (cD (.bool false))) (nxS)) (retS (callD phi_is_whole (argD (varD 5) (argD (cD (.int 0)) (argD (cD (.int 1)) (argN)))))))))
def phi_is_rule : Fn := fun as D => (g_is_rule (startA N_is_rule as) D).bind outD
abbrev N_check_rule : List Str := ["value"]
def g_check_rule : FS := ifS (notT (truD (callD phi_is_rule (argD (varD 0) (argN))))) (noS) (nxS)
def phi_check_rule : Fn := fun as D => (g_check_rule (startA N_check_rule as) D).bind outD
abbrev N_check_family : List Str := ["value", "rule"]
def g_check_family : FS := seqS (ifS (orT (notT (truD (isiD "list" (varD 0)))) (notT (boolD (chainD leI leI (cD (.int 1)) (biD lenO (argD (varD 0) (argN))) (cD (.int 8)))))) (noS) (nxS)) (forS (lstD (varD 0)) (nameG 1) (dropS (callD phi_check_rule (argD (varD 1) (argN)))))
def phi_check_family : Fn := fun as D => (g_check_family (startA N_check_family as) D).bind outD
abbrev N_marks_behind : List Str := ["marks", "others", "mark", "other"]
def g_marks_behind : FS := retS (joinD (cD (.str "")) (lcT [2, 3] (zip2I (strI (varD 0)) (strI (varD 1))) (tupG 2 (consG (nameG 2) (consG (nameG 3) (nilG)))) (yesT) (ifE (boolD (binD eqO (varD 2) (cD (.str "=")))) (varD 3) (varD 2))))
def phi_marks_behind : Fn := fun as D => (g_marks_behind (startA N_marks_behind as) D).bind outD
abbrev N_decided : List Str := ["marks", "one", "other", "comes_first"]
abbrev N_turned_round : List Str := ["marks"]
def g_turned_round : FS := retS (unD (repO "b" ">") (unD (repO ">" "<") (unD (repO "<" "b") (varD 0))))
def phi_turned_round : Fn := fun as D => (g_turned_round (startA N_turned_round as) D).bind outD
abbrev N_marks_of : List Str := ["rule", "case", "figures", "bars", "ends", "turned", "letters", "marks"]
def g_marks_of : FS := seqS (asgT (varD 0) (tupG 5 (consG (nameG 1) (consG (nameG 2) (consG (nameG 3) (consG (nameG 4) (consG (nameG 5) (nilG)))))))) (seqS (asgS 6 (ifE (boolD (binD eqO (varD 1) (cD (.str "last")))) (cD (.str "together")) (varD 1))) (seqS (asgS 7 (tabD psT (tupD (argD (ifE (boolD (binD eqO (varD 2) (cD (.str "signs")))) (cD (.str "signs")) (cD (.str "numbers"))) (argD (varD 6) (argN)))))) (seqS (ifS (boolD (binD eqO (varD 2) (cD (.str "strict")))) (asgS 7 (callD phi_marks_behind (argD (varD 7) (argD (tabD psT (tupD (argD (cD (.str "signs")) (argD (varD 6) (argN))))) (argN))))) (nxS)) (seqS (ifS (boolD (binD eqO (varD 1) (cD (.str "last")))) (asgS 7 (callD phi_marks_behind (argD (varD 7) (argD (cD (.str "=====<==================<<>==<<=====================<<===<>================")) (argN))))) (nxS)) (seqS (asgS 7 (decD "e" "E" "<" ">" (decD "b" "B" "<" ">" (varD 7) (binD eqO (varD 3) (cD (.str "ahead")))) (binD eqO (varD 4) (cD (.str "first"))))) (retS (ifE (boolD (binD eqO (varD 5) (cD (.int 1)))) (callD phi_turned_round (argD (varD 7) (argN))) (varD 7))))))))
def phi_marks_of : Fn := fun as D => (g_marks_of (startA N_marks_of as) D).bind outD
abbrev N_signs_of : List Str := ["pair"]
def g_signs_of : FS := retS (binD addO (biD lenO (argD (binD ixO (varD 0) (cD (.int 0))) (argN))) (biD lenO (argD (binD ixO (varD 0) (cD (.int 1))) (argN))))
def phi_signs_of : Fn := fun as D => (g_signs_of (startA N_signs_of as) D).bind outD
abbrev N_marks_of_two : List Str := ["one", "other"]
def g_marks_of_two : FS := seqS (dropS (callD phi_check_rule (argD (varD 0) (argN)))) (seqS (dropS (callD phi_check_rule (argD (varD 1) (argN)))) (retS (tupD (argD (callD phi_marks_of (argD (varD 0) (argN))) (argD (callD phi_marks_of (argD (varD 1) (argN))) (argN))))))
def phi_marks_of_two : Fn := fun as D => (g_marks_of_two (startA N_marks_of_two as) D).bind outD
abbrev N_same : List Str := ["one", "other", "marks", "others"]
def g_same : FS := seqS (asgT (callD phi_marks_of_two (argD (varD 0) (argD (varD 1) (argN)))) (tupG 2 (consG (nameG 2) (consG (nameG 3) (nilG))))) (retS (binD eqO (varD 2) (varD 3)))
def phi_same : Fn := fun as D => (g_same (startA N_same as) D).bind outD
abbrev N_first_unlike : List Str := ["marks", "others", "pair", "this", "that"]
def g_first_unlike : FS := seqS (ifS (boolD (binD eqO (varD 0) (varD 1))) (retS (cD .none)) (nxS)) (seqS (forS (zip3I (tupI (cD (.tuple [(.tuple [(.str ""), (.str "")]), (.tuple [(.str ""), (.str "A")]), (.tuple [(.str "A"), (.str "B")]), (.tuple [(.str "B"), (.str "a")]), (.tuple [(.str "_"), (.str "A")]), (.tuple [(.str "A"), (.str "a")]), (.tuple [(.str "A"), (.str "aA")]), (.tuple [(.str "AA"), (.str "a")]), (.tuple [(.str "01"), (.str "1")]), (.tuple [(.str "0"), (.str "01")]), (.tuple [(.str "0"), (.str "00")]), (.tuple [(.str "AB"), (.str "aA")]), (.tuple [(.str "A_"), (.str "aA")]), (.tuple [(.str "AA"), (.str "a_")]), (.tuple [(.str "01"), (.str "1A")]), (.tuple [(.str "01A"), (.str "1")]), (.tuple [(.str "010"), (.str "1")]), (.tuple [(.str "0_"), (.str "01")]), (.tuple [(.str "0_"), (.str "00")]), (.tuple [(.str "01a"), (.str "1B")]), (.tuple [(.str "01B"), (.str "1a")]), (.tuple [(.str "01_"), (.str "1A")]), (.tuple [(.str "01A"), (.str "1_")]), (.tuple [(.str "0_"), (.str "00_")]), (.tuple [(.str "A01"), (.str "a1")]), (.tuple [(.str "A1"), (.str "a01")]), (.tuple [(.str "01a"), (.str "1A")]), (.tuple [(.str "A0"), (.str "a01")]), (.tuple [(.str "A01"), (.str "a0")]), (.tuple [(.str "A0"), (.str "a00")]), (.tuple [(.str "A00"), (.str "a0")]), (.tuple [(.str "0_"), (.str "00_A")]), (.tuple [(.str "A01"), (.str "a1A")]), (.tuple [(.str "A01A"), (.str "a1")]), (.tuple [(.str "A1"), (.str "a01A")]), (.tuple [(.str "A1A"), (.str "a01")]), (.tuple [(.str "01a"), (.str "1AA")]), (.tuple [(.str "01aA"), (.str "1A")]), (.tuple [(.str "A1"), (.str "a010")]), (.tuple [(.str "A010"), (.str "a1")]), (.tuple [(.str "A0_"), (.str "a01")]), (.tuple [(.str "A01"), (.str "a0_")]), (.tuple [(.str "A0_"), (.str "a00")]), (.tuple [(.str "A00"), (.str "a0_")]), (.tuple [(.str "0_B"), (.str "00_A")]), (.tuple [(.str "0_a"), (.str "00_B")]), (.tuple [(.str "0_B"), (.str "00_a")]), (.tuple [(.str "0_A"), (.str "00__")]), (.tuple [(.str "A01_"), (.str "a1A")]), (.tuple [(.str "A01A"), (.str "a1_")]), (.tuple [(.str "A1_"), (.str "a01A")]), (.tuple [(.str "A1A"), (.str "a01_")]), (.tuple [(.str "A0_"), (.str "a00_")]), (.tuple [(.str "A00_"), (.str "a0_")]), (.tuple [(.str "01aA"), (.str "1AB")]), (.tuple [(.str "01a_"), (.str "1AA")]), (.tuple [(.str "01aA"), (.str "1A_")]), (.tuple [(.str "0_A"), (.str "00_a")]), (.tuple [(.str "0_a"), (.str "00_A")]), (.tuple [(.str "A0_"), (.str "a00_A")]), (.tuple [(.str "A00_A"), (.str "a0_")]), (.tuple [(.str "0_A"), (.str "00_aA")]), (.tuple [(.str "0_AA"), (.str "00_a")]), (.tuple [(.str "0_a"), (.str "00_AA")]), (.tuple [(.str "0_aA"), (.str "00_A")]), (.tuple [(.str "A0_B"), (.str "a00_A")]), (.tuple [(.str "A0_A"), (.str "a00__")]), (.tuple [(.str "A00_A"), (.str "a0_B")]), (.tuple [(.str "A00__"), (.str "a0_A")]), (.tuple [(.str "0_AB"), (.str "00_aA")]), (.tuple [(.str "0_A_"), (.str "00_aA")]), (.tuple [(.str "0_AA"), (.str "00_a_")]), (.tuple [(.str "0_aA"), (.str "00_AB")]), (.tuple [(.str "0_a_"), (.str "00_AA")]), (.tuple [(.str "0_aA"), (.str "00_A_")])]))) (strI (varD 0)) (strI (varD 1))) (tupG 3 (consG (nameG 2) (consG (nameG 3) (consG (nameG 4) (nilG))))) (ifS (boolD (binD neO (varD 3) (varD 4))) (retS (varD 2)) (nxS))) (retS (cD .none)))
def phi_first_unlike : Fn := fun as D => (g_first_unlike (startA N_first_unlike as) D).bind outD
abbrev N_telling_pair : List Str := ["one", "other", "marks", "others", "pair"]
def g_telling_pair : FS := seqS (asgT (callD phi_marks_of_two (argD (varD 0) (argD (varD 1) (argN)))) (tupG 2 (consG (nameG 2) (consG (nameG 3) (nilG))))) (seqS (asgS 4 (callD phi_first_unlike (argD (varD 2) (argD (varD 3) (argN))))) (seqS (ifS (boolD (binD isO (varD 4) (cD .none))) (noS) (nxS)) (retS (varD 4))))
def phi_telling_pair : Fn := fun as D => (g_telling_pair (startA N_telling_pair as) D).bind outD
def gx_telling_pair : FX := thS (asgT (callD phi_marks_of_two (argD (varD 0) (argD (varD 1) (argN)))) (tupG 2 (consG (nameG 2) (consG (nameG 3) (nilG))))) (thS (asgS 4 (callD phi_first_unlike (argD (varD 2) (argD (varD 3) (argN))))) (thB (boolD (binD isO (varD 4) (cD .none))) true (rsX "NotFound")))
def psi_telling_pair : Rn' := fun as D => outX (gx_telling_pair (startA N_telling_pair as) D)
abbrev N_classes : List Str := ["family", "groups", "place", "rule"]
def g_classes : FS := seqS (dropS (callD phi_check_family (argD (varD 0) (argN)))) (grpB 1 (enumI (lstD (varD 0))) (tupG 2 (consG (nameG 2) (consG (nameG 3) (nilG)))) (callD phi_marks_of (argD (varD 3) (argN))) (varD 2))
def phi_classes : Fn := fun as D => (g_classes (startA N_classes as) D).bind outD
abbrev N_least_signs : List Str := ["marks", "others", "pair"]
def g_least_signs : FS := seqS (asgS 2 (callD phi_first_unlike (argD (varD 0) (argD (varD 1) (argN))))) (retS (ifE (boolD (binD isO (varD 2) (cD .none))) (cD .none) (callD phi_signs_of (argD (varD 2) (argN)))))
def phi_least_signs : Fn := fun as D => (g_least_signs (startA N_least_signs as) D).bind outD
abbrev N_telling_table : List Str := ["family", "columns", "rule", "marks", "others"]
def g_telling_table : FS := seqS (dropS (callD phi_check_family (argD (varD 0) (argN)))) (seqS (asgS 1 (datD (lcF 2 (lstD (varD 0)) (yesT) (callD phi_marks_of (argD (varD 2) (argN)))))) (retS (datD (lcF 3 (lstD (varD 1)) (yesT) (datD (lcF 4 (lstD (varD 1)) (yesT) (callD phi_least_signs (argD (varD 3) (argD (varD 4) (argN))))))))))
def phi_telling_table : Fn := fun as D => (g_telling_table (startA N_telling_table as) D).bind outD
abbrev N__law_pick : List Str := ["_law_draws", "_law_choices"]
def g__law_pick : FS := retS (binD ixO (varD 1) (callD phi__law_draw (argW 0 (argD (biD lenO (argD (varD 1) (argN))) (argN)))))
def phi__law_pick : Fn := fun as D => (g__law_pick (startA N__law_pick as) D).bind outD
abbrev N__law_error : List Str := ["_law_caught", "_law_kinds"]
def g__law_error : FS := seqS (asgS 1 (datD (dispD (argD (exI 0 (isaT tab_BadRule)) (argD (exI 0 (isaT tab_BadText)) (argD (exI 0 (isaT tab_BadNumber)) (argD (exI 0 (isaT tab_NotFound)) (argN)))))))) (seqS (ifS (orT (boolD (binD neO (cntD (lstD (varD 1)) (cD (.bool true))) (cD (.int 1)))) (orT (notT (truD (exI 0 (isaT tab_OrderError)))) (notT (truD (exI 0 (isaT tab_ValueError)))))) (retS (cD (.str "odd"))) (nxS)) (retS (binD ixO (datD (dispD (argD (cD (.str "rule")) (argD (cD (.str "text")) (argD (cD (.str "number")) (argD (cD (.str "none")) (argN))))))) (idxD (lstD (varD 1)) (cD (.bool true))))))
def phi__law_error : Fn := fun as D => (g__law_error (startA N__law_error as) D).bind outD
abbrev N__law_words : List Str := []
def g__law_words : FS := retS (datD (dispD (argD (datD (dispD (argD (cD (.str "apart")) (argD (cD (.str "mixed")) (argD (cD (.str "together")) (argD (cD (.str "last")) (argN))))))) (argD (datD (dispD (argD (cD (.str "signs")) (argD (cD (.str "numbers")) (argD (cD (.str "strict")) (argN)))))) (argD (datD (dispD (argD (cD (.str "ahead")) (argD (cD (.str "behind")) (argN))))) (argD (datD (dispD (argD (cD (.str "first")) (argD (cD (.str "behind")) (argN))))) (argN)))))))
def phi__law_words : Fn := fun as D => (g__law_words (startA N__law_words as) D).bind outD
abbrev N__law_rule : List Str := ["_law_draws", "_law_words_here"]
def g__law_rule : FS := retS (binD addO (biD tupO (argD (datD (lcF 1 (lstD (callN phi__law_words)) (yesT) (callD phi__law_pick (argW 0 (argD (varD 1) (argN)))))) (argN))) (tupD (argD (callD phi__law_draw (argW 0 (argD (cD (.int 2)) (argN)))) (argN))))
def phi__law_rule : Fn := fun as D => (g__law_rule (startA N__law_rule as) D).bind outD
abbrev N__law_cut : List Str := ["_law_text", "_law_whole", "_law_found", "_law_sign"]
def g__law_cut : FS := seqS (asgO 2 (dispD (argN))) (seqS (forS (strI (varD 0)) (nameG 3) (ifS (andT (truD (varD 1)) (andT (truD (unD (ms0 fun s => .bool (Txt.isdigit s)) (varD 3))) (andT (boolD (cmpLD neO (ownD 2) (datD (dispD (argN))))) (truD (unD (ms0 fun s => .bool (Txt.isdigit s)) (ixLL (ownD 2) (unD negI (cD (.int 1))))))))) (setS 2 (unD negI (cD (.int 1))) (binD addO (ixLL (ownD 2) (unD negI (cD (.int 1)))) (varD 3))) (appS 2 (varD 3)))) (frzS 2 (retS (varD 2))))
def phi__law_cut : Fn := fun as D => (g__law_cut (startA N__law_cut as) D).bind outD
abbrev N__law_rank : List Str := ["_law_piece", "_law_case", "_law_bars_here", "_law_letter", "_law_low"]
def g__law_rank : FS := seqS (ifS (boolD (binD eqO (varD 0) (cD (.str "_")))) (retS (ifE (boolD (binD eqO (varD 2) (cD (.str "ahead")))) (datD (dispD (argD (unD negI (cD (.int 1))) (argN)))) (datD (dispD (argD (cD (.int 9)) (argN)))))) (nxS)) (seqS (ifS (truD (unD (ms0 fun s => .bool (Txt.isdigit s)) (varD 0))) (retS (datD (dispD (argD (cD (.int 0)) (argD (biD intO (argD (varD 0) (argN))) (argN)))))) (nxS)) (seqS (parS 3 4 (biD ordO (argD (unD (ms0 fun s => .str (Txt.upper s)) (varD 0)) (argN))) (ifE (truD (unD (ms0 fun s => .bool (Txt.isupper s)) (varD 0))) (cD (.int 0)) (cD (.int 1)))) (retS (ifE (boolD (binD eqO (varD 1) (cD (.str "apart")))) (datD (dispD (argD (cD (.int 1)) (argD (varD 4) (argD (varD 3) (argN)))))) (ifE (boolD (binD eqO (varD 1) (cD (.str "mixed")))) (datD (dispD (argD (cD (.int 1)) (argD (varD 3) (argD (varD 4) (argN)))))) (datD (dispD (argD (cD (.int 1)) (argD (varD 3) (argN))))))))))
def phi__law_rank : Fn := fun as D => (g__law_rank (startA N__law_rank as) D).bind outD
abbrev N__law_once : List Str := ["_law_case", "_law_whole", "_law_bars_here", "_law_ends", "_law_one", "_law_other", "_law_mine", "_law_yours", "_law_k", "_law_first", "_law_second"]
def g__law_once : FS := seqS (parS 6 7 (callD phi__law_cut (argD (varD 4) (argD (varD 1) (argN)))) (callD phi__law_cut (argD (varD 5) (argD (varD 1) (argN))))) (seqS (forS (rng1I (biD minO (argD (biD lenO (argD (varD 6) (argN))) (argD (biD lenO (argD (varD 7) (argN))) (argN))))) (nameG 8) (seqS (parS 9 10 (callD phi__law_rank (argD (binD ixO (varD 6) (varD 8)) (argD (varD 0) (argD (varD 2) (argN))))) (callD phi__law_rank (argD (binD ixO (varD 7) (varD 8)) (argD (varD 0) (argD (varD 2) (argN)))))) (ifS (boolD (binD neO (varD 9) (varD 10))) (retS (ifE (boolD (binD ltA (varD 9) (varD 10))) (unD negI (cD (.int 1))) (cD (.int 1)))) (nxS)))) (seqS (ifS (boolD (binD eqO (biD lenO (argD (varD 6) (argN))) (biD lenO (argD (varD 7) (argN))))) (retS (cD (.int 0))) (nxS)) (retS (ifE (boolD (binD eqO (binD ltA (biD lenO (argD (varD 6) (argN))) (biD lenO (argD (varD 7) (argN)))) (binD eqO (varD 3) (cD (.str "first"))))) (unD negI (cD (.int 1))) (cD (.int 1))))))
def phi__law_once : Fn := fun as D => (g__law_once (startA N__law_once as) D).bind outD
abbrev N__law_compare : List Str := ["_law_rule_here", "_law_one", "_law_other", "_law_case", "_law_figures", "_law_bars_here", "_law_ends", "_law_turned", "_law_first", "_law_told"]
def g__law_compare : FS := seqS (asgT (varD 0) (tupG 5 (consG (nameG 3) (consG (nameG 4) (consG (nameG 5) (consG (nameG 6) (consG (nameG 7) (nilG)))))))) (seqS (asgS 8 (ifE (boolD (binD eqO (varD 3) (cD (.str "last")))) (cD (.str "together")) (varD 3))) (seqS (asgS 9 (callD phi__law_once (argD (varD 8) (argD (binD neO (varD 4) (cD (.str "signs"))) (argD (varD 5) (argD (varD 6) (argD (varD 1) (argD (varD 2) (argN))))))))) (seqS (ifS (andT (boolD (binD eqO (varD 9) (cD (.int 0)))) (boolD (binD eqO (varD 4) (cD (.str "strict"))))) (asgS 9 (callD phi__law_once (argD (varD 8) (argD (cD (.bool false)) (argD (varD 5) (argD (varD 6) (argD (varD 1) (argD (varD 2) (argN))))))))) (nxS)) (seqS (ifS (andT (boolD (binD eqO (varD 9) (cD (.int 0)))) (boolD (binD eqO (varD 3) (cD (.str "last"))))) (asgS 9 (callD phi__law_once (argD (cD (.str "mixed")) (argD (binD neO (varD 4) (cD (.str "signs"))) (argD (varD 5) (argD (varD 6) (argD (varD 1) (argD (varD 2) (argN))))))))) (nxS)) (retS (ifE (boolD (binD eqO (varD 7) (cD (.int 1)))) (unD negI (varD 9)) (varD 9)))))))
def phi__law_compare : Fn := fun as D => (g__law_compare (startA N__law_compare as) D).bind outD
abbrev N__law_texts : List Str := ["_law_length", "_law_found", "_law_turn_here", "_law_longer", "_law_text", "_law_sign"]
def g__law_texts : FS := seqS (asgS 1 (datD (dispD (argD (cD (.str "")) (argN))))) (seqS (forS (rng1I (varD 0)) (nameG 2) (seqS (asgS 3 (datD (dispD (argN)))) (seqS (forS (lstD (varD 1)) (nameG 4) (asgS 3 (binD addO (varD 3) (datD (lcF 5 (strI (cD (.str "01AB_ab"))) (yesT) (binD addO (varD 4) (varD 5))))))) (asgS 1 (varD 3))))) (retS (varD 1)))
def phi__law_texts : Fn := fun as D => (g__law_texts (startA N__law_texts as) D).bind outD
abbrev N__law_pairs : List Str := ["_law_signs", "_law_found", "_law_first", "_law_one", "_law_other"]
def g__law_pairs : FS := seqS (asgS 1 (datD (dispD (argN)))) (seqS (forS (rng1I (binD addO (varD 0) (cD (.int 1)))) (nameG 2) (forS (lstD (callD phi__law_texts (argD (varD 2) (argN)))) (nameG 3) (asgS 1 (binD addO (varD 1) (datD (lcF 4 (lstD (callD phi__law_texts (argD (binD subI (varD 0) (varD 2)) (argN)))) (yesT) (tupD (argD (varD 3) (argD (varD 4) (argN)))))))))) (retS (varD 1)))
def phi__law_pairs : Fn := fun as D => (g__law_pairs (startA N__law_pairs as) D).bind outD
abbrev N__law_groups : List Str := ["_law_told", "_law_first", "_law_k", "_law_j"]
def g__law_groups : FS := seqS (lcS 1 (lcF 2 (rng1I (biD lenO (argD (varD 0) (argN)))) (boolD (binD (inDp true) (binD ixO (varD 0) (varD 2)) (slD (varD 0) none (some (varD 2))))) (varD 2))) (retS (datD (lcF 3 (lstD (varD 1)) (yesT) (datD (lcF 2 (rng1I (biD lenO (argD (varD 0) (argN)))) (boolD (binD eqO (binD ixO (varD 0) (varD 2)) (binD ixO (varD 0) (varD 3)))) (varD 2))))))
def phi__law_groups : Fn := fun as D => (g__law_groups (startA N__law_groups as) D).bind outD
abbrev N__law_call : List Str := ["_law_one", "_law_other", "_law_found", "_law_caught", "e"]
def g__law_call : FS := seqS (asgS 2 (cD .none)) (seqS (asgS 3 (cD .none)) (seqS (tryS ["BadRule", "BadText", "BadNumber", "NotFound"] 4 3 (toX (rcD psi_telling_pair (argD (varD 0) (argD (varD 1) (argN))))) (asgS 2 (callD phi_telling_pair (argD (varD 0) (argD (varD 1) (argN)))))) (retS (ifE (boolD (exN 3 false)) (varD 2) (callD phi__law_error (argX 3 (argN)))))))
def phi__law_call : Fn := fun as D => (g__law_call (startA N__law_call as) D).bind outD
abbrev N__law_changed : List Str := ["_law_draws", "_law_rule_here", "_law_at"]
def g__law_changed : FS := seqS (asgS 2 (callD phi__law_draw (argW 0 (argD (cD (.int 5)) (argN))))) (retS (binD addOO (binD addOO (slD (varD 1) none (some (varD 2))) (tupD (argD (binD ixO (callD phi__law_rule (argW 0 (argN))) (varD 2)) (argN)))) (slD (varD 1) (some (binD addOO (varD 2) (cD (.int 1)))) none)))
def phi__law_changed : Fn := fun as D => (g__law_changed (startA N__law_changed as) D).bind outD
abbrev N_law : List Str := ["_law_script", "_law_draws", "_law_one", "_law_other", "_law_least", "_law_signs", "_law_first", "_law_second", "_law_told", "_law_family", "_law_table", "_law_a", "_law_b"]
def g_law : FS := seqS (asgS 2 (callD phi__law_rule (argW 1 (argN)))) (seqS (asgS 3 (ifE (boolD (binD gtI (callD phi__law_draw (argW 1 (argD (cD (.int 3)) (argN)))) (cD (.int 0)))) (callD phi__law_changed (argW 1 (argD (varD 2) (argN)))) (callD phi__law_rule (argW 1 (argN))))) (seqS (asgS 4 (cD .none)) (seqS (forS (rng1I (cD (.int 3))) (nameG 5) (forS (lstD (ifE (boolD (binD isO (varD 4) (cD .none))) (callD phi__law_pairs (argD (varD 5) (argN))) (datD (dispD (argN))))) (tupG 2 (consG (nameG 6) (consG (nameG 7) (nilG)))) (ifS (boolD (binD neO (callD phi__law_compare (argD (varD 2) (argD (varD 6) (argD (varD 7) (argN))))) (callD phi__law_compare (argD (varD 3) (argD (varD 6) (argD (varD 7) (argN))))))) (seqS (asgS 4 (varD 5)) (bkS)) (nxS)))) (seqS (asgS 8 (callD phi__law_call (argD (varD 2) (argD (varD 3) (argN))))) (seqS (ifS (andT (boolD (binD isO (varD 4) (cD .none))) (boolD (binD eqO (varD 8) (cD (.str "none"))))) (retS (andV (binD eqO (varD 2) (varD 3)) (andV (binD isO (callD phi_same (argD (varD 2) (argD (varD 3) (argN)))) (cD (.bool true))) (binD eqO (callD phi_telling_table (argD (datD (dispD (argD (varD 2) (argD (varD 3) (argN))))) (argN))) (datD (dispD (argD (datD (dispD (argD (cD .none) (argD (cD .none) (argN))))) (argD (datD (dispD (argD (cD .none) (argD (cD .none) (argN))))) (argN))))))))) (nxS)) (seqS (ifS (orT (boolD (binD eqO (varD 2) (varD 3))) (orT (boolD (binD isNotO (callD phi_same (argD (varD 2) (argD (varD 3) (argN)))) (cD (.bool false)))) (orT (notT (truD (isiD "tuple" (varD 8)))) (boolD (binD neO (biD lenO (argD (varD 8) (argN))) (cD (.int 2))))))) (retS (cD (.bool false))) (nxS)) (seqS (asgT (varD 8) (tupG 2 (consG (nameG 6) (consG (nameG 7) (nilG))))) (seqS (ifS (orT (boolD (binD neO (stripD (binD addO (varD 6) (varD 7)) (cD (.str "01AB_ab"))) (cD (.str "")))) (boolD (binD eqO (callD phi__law_compare (argD (varD 2) (argD (varD 6) (argD (varD 7) (argN))))) (callD phi__law_compare (argD (varD 3) (argD (varD 6) (argD (varD 7) (argN)))))))) (retS (cD (.bool false))) (nxS)) (seqS (ifS (orT (andT (boolD (binD isNotO (varD 4) (cD .none))) (boolD (binD neO (biD lenO (argD (binD addO (varD 6) (varD 7)) (argN))) (varD 4)))) (andT (boolD (binD isO (varD 4) (cD .none))) (boolD (binD ltA (biD lenO (argD (binD addO (varD 6) (varD 7)) (argN))) (cD (.int 3)))))) (retS (cD (.bool false))) (nxS)) (seqS (asgS 9 (datD (dispD (argD (varD 2) (argD (varD 3) (argD (callD phi__law_changed (argW 1 (argD (varD 2) (argN)))) (argD (varD 3) (argN)))))))) (seqS (asgS 10 (callD phi_telling_table (argD (varD 9) (argN)))) (seqS (ifS (orT (boolD (binD neO (binD ixO (binD ixO (varD 10) (cD (.int 0))) (cD (.int 1))) (biD lenO (argD (binD addO (varD 6) (varD 7)) (argN))))) (boolD (binD neO (callD phi_classes (argD (varD 9) (argN))) (callD phi__law_groups (argD (varD 9) (argN)))))) (retS (cD (.bool false))) (nxS)) (seqS (forS (rng1I (cD (.int 4))) (nameG 11) (forS (rng1I (cD (.int 4))) (nameG 12) (ifS (orT (boolD (binD neO (binD isO (binD ixO (binD ixO (varD 10) (varD 11)) (varD 12)) (cD .none)) (binD eqO (binD ixO (varD 9) (varD 11)) (binD ixO (varD 9) (varD 12))))) (boolD (binD neO (binD ixO (binD ixO (varD 10) (varD 11)) (varD 12)) (binD ixO (binD ixO (varD 10) (varD 12)) (varD 11))))) (retS (cD (.bool false))) (nxS)))) (retS (andV (binD isO (callD phi_same (argD (varD 3) (argD (varD 2) (argN)))) (cD (.bool false))) (andV (binD isO (callD phi_same (argD (varD 2) (argD (varD 2) (argN)))) (cD (.bool true))) (binD eqO (callD phi__law_call (argD (varD 3) (argD (varD 3) (argN)))) (cD (.str "none")))))))))))))))))))
end K04

end
-- K04m
section
set_option Elab.async false
set_option linter.all false
set_option maxRecDepth 100000
set_option maxHeartbeats 2000000
namespace K04
open PySem PySem.Spec PyProof.Rows L2 Den
variable [TB : Tabl]
/-! ### words -/
theorem cs_apart (c : Cs) : eqO (.str c.w) (.str "apart") = some (.bool (decide (c = .apart))) := by cases c <;> kernel_rfl
theorem cs_mixed (c : Cs) : eqO (.str c.w) (.str "mixed") = some (.bool (decide (c = .mixed))) := by cases c <;> kernel_rfl
theorem cs_last (c : Cs) : eqO (.str c.w) (.str "last") = some (.bool (decide (c = .last))) := by cases c <;> kernel_rfl
theorem fg_signs (f : Fg) : eqO (.str f.w) (.str "signs") = some (.bool (decide (f = .signs))) := by cases f <;> kernel_rfl
theorem fg_nsigns (f : Fg) : neO (.str f.w) (.str "signs") = some (.bool (!decide (f = .signs))) := by cases f <;> kernel_rfl
theorem fg_strict (f : Fg) : eqO (.str f.w) (.str "strict") = some (.bool (decide (f = .strict))) := by cases f <;> kernel_rfl
theorem bar_ahead (b : Bool) : eqO (.str (barW b)) (.str "ahead") = some (.bool b) := by cases b <;> kernel_rfl
theorem end_first (b : Bool) : eqO (.str (endW b)) (.str "first") = some (.bool b) := by cases b <;> kernel_rfl
theorem eqO_int (a b : Int) : eqO (.int a) (.int b) = some (.bool (decide (a = b))) := by
  unfold eqO
  rw [shp_int.ok (by decide), shp_int.ok (by decide), eqv_int]
  rfl
theorem neO_int (a b : Int) : neO (.int a) (.int b) = some (.bool (!decide (a = b))) := by
  unfold neO
  rw [shp_int.ok (by decide), shp_int.ok (by decide), eqv_int]
  rfl
theorem eqO_bool (a b : Bool) : eqO (.bool a) (.bool b) = some (.bool (decide (a = b))) := by cases a <;> cases b <;> kernel_rfl
theorem eqO_sd {a b : List Nat} (ha : GL a) (hb : GL b) : eqO (sd a) (sd b) = some (.bool (decide (a = b))) := by
  unfold eqO
  rw [(shp_sd ha).ok (by decide), (shp_sd hb).ok (by decide), eqv_str]
  rfl
theorem neO_sd {a b : List Nat} (ha : GL a) (hb : GL b) : neO (sd a) (sd b) = some (.bool (!decide (a = b))) := by
  unfold neO
  rw [(shp_sd ha).ok (by decide), (shp_sd hb).ok (by decide), eqv_str]
  rfl
theorem bar_sd {p : List Nat} (h : GL p) : eqO (sd p) (.str "_") = some (.bool (decide (p = [95]))) := eqO_sd h (b := [95]) (by decide)

/-! ### rules -/
theorem whole_01 {t : Int} (h : t = 0 ∨ t = 1) (D : Dw) : phi_is_whole [.d (.int t), .d (.int 0), .d (.int 1)] D = some (.bool true, D) := by
  rcases h with rfl | rfl <;> kernel_rfl
theorem is_rule_ok (r : Rl) (D : Dw) : phi_is_rule [.d r.data] D = some (.bool true, D) := by
  obtain ⟨c, f, b, e, t⟩ := r
  cases c <;> cases f <;> cases b <;> cases e <;> cases t <;> kernel_rfl
theorem check_rule_ok (r : Rl) (D : Dw) : phi_check_rule [.d r.data] D = some (.none, D) := by
  simp only [phi_check_rule, g_check_rule, startA, outD, seqS, thenO, nxS, asgS, asgO, retS, retN, ifS, noS, dropS, frzS, lcS, parS, asgT, varD, ownD, cD, lstD, datD, binD, boolD, truD, truL, andT, orT, notT, andV, orV, notV, unD, ifE, chainD, argN, argD, argW, callD, callN, allD, biD, drwD, isiD, isTy, tyName, ms0, tupD, dispD, slD, partD, ixLL, lenL, cmpLD, yesT, asI, asB, asS, asL, isN, negI, addI, subI, leI, gtI, geI, ltA, ltI, orO, addO, addS, lenO, ordO, minO, intO, tupO, ixO, ixL, ixT, ixS, tupG, consG, nilG, nameG, truthD, List.map_cons, List.map_nil, List.cons_append, List.getElem?_cons_zero, Option.bind_some, Option.map_some, is_rule_ok]
  rfl

/-! ### texts -/
theorem lc_all {i : Nat} {fe : FE} {ρ : Den.Env} {F : PyData → PyData} (D : Dw) : ∀ (xs : List PyData), (∀ x ∈ xs, fe (ρ.set i (some (.d x))) D = some (F x, D)) → lcD i yesT fe ρ xs D = some (xs.map F, D)
  | [], _ => rfl
  | x :: xs, h => by
    unfold lcD yesT
    simp only [Option.bind_some, if_true, h x List.mem_cons_self]
    have := lc_all (i := i) (fe := fe) (ρ := ρ) (F := F) D xs fun y hy => h y (List.mem_cons_of_mem _ hy)
    rw [show lcD i (fun _ D => some (true, D)) fe ρ xs D = some (xs.map F, D) from this]
    rfl
end K04

end
-- K04n
section
set_option Elab.async false
set_option linter.all false
set_option maxRecDepth 100000
set_option maxHeartbeats 2000000
namespace K04
open PySem PySem.Spec PyProof.Rows L2 Den
variable [TB : Tabl]
/-! ### pieces -/
theorem ixN_last (n : Nat) : ixN (n + 1) (-1) = some n := by
  unfold ixN
  rw [if_neg (by decide), if_pos (by omega)]
  congr 1
  omega
theorem at_last (a : List PyData) (x : PyData) : atI (a ++ [x]) (-1) = some x := atI_last a x
theorem isd {p : List Nat} (h : GL p) (hl : p.length ≤ 1000) : ms0 (fun s => .bool (Txt.isdigit s)) (sd p) = some (.bool (digs p)) := by
  show (if (tx p).length ≤ 1000000 then some (PyData.bool (Txt.isdigit (tx p))) else none) = _
  rw [if_pos (small hl), isdigit_tx h]
theorem digs_one (c : Nat) : digs [c] = dig c := by unfold digs; simp
theorem addS_sd {p q : List Nat} (h : p.length + q.length ≤ 1000) : addS (sd p) (sd q) = some (sd (p ++ q)) := by
  show (if (tx p).length + (tx q).length ≤ 1000000 then some (PyData.str (tx p ++ tx q)) else none) = _
  rw [tx_len, tx_len, if_pos (by omega), tx_add]
theorem addO_sd {p q : List Nat} (h : p.length + q.length ≤ 1000) : addO (sd p) (sd q) = some (sd (p ++ q)) := by
  show orO addI (orO addS (orO addT addL)) _ _ = _
  unfold orO
  show (match (none : Option PyData) with | some z => some z | none => orO addS (orO addT addL) (sd p) (sd q)) = _
  show orO addS (orO addT addL) (sd p) (sd q) = _
  unfold orO
  rw [addS_sd h]
def bodyA : FS := ifS (andT (truD (unD (ms0 fun s => .bool (Txt.isdigit s)) (varD 3))) (andT (truL (ownD 2)) (truD (unD (ms0 fun s => .bool (Txt.isdigit s)) (ixLL (ownD 2) (unD negI (cD (.int 1)))))))) (augIxS 2 (unD negI (cD (.int 1))) (orO addI addS) (varD 3)) (appS 2 (varD 3))
theorem app_turn {a0 a1 : Option AV} {acc : List (List Nat)} {c : Nat} {D : Dw} (hn : acc.length ≤ 1000) : appS 2 (varD 3) [a0, a1, some (.own (acc.map sd)), some (.d (sd [c]))] D = some (.nx [a0, a1, some (.own ((acc ++ [[c]]).map sd)), some (.d (sd [c]))] D) := by
  have h : (acc.map sd).length < 1000000 := by rw [List.length_map]; omega
  simp [appS, varD, ownD]
  omega
theorem turnA {a0 a1 : Option AV} {acc : List (List Nat)} {c : Nat} {D : Dw} (hp : ∀ p ∈ acc, PieceOk p ∧ p.length < 1000) (hc : good c = true) (hn : acc.length ≤ 1000) :
    bodyA [a0, a1, some (.own (acc.map sd)), some (.d (sd [c]))] D = some (.nx [a0, a1, some (.own ((cutStep acc c).map sd)), some (.d (sd [c]))] D) := by
  have e0 := isd (GL.one hc) (by simp : [c].length ≤ 1000)
  rw [digs_one] at e0
  have t0 : truD (unD (ms0 fun s => .bool (Txt.isdigit s)) (varD 3)) [a0, a1, some (.own (acc.map sd)), some (.d (sd [c]))] D = some (dig c, D) := by
    simp [truD, unD, varD, e0, truthD]
  unfold bodyA ifS andT
  rw [t0]
  simp only [Option.bind_some]
  rcases List.eq_nil_or_concat acc with rfl | ⟨a, p, rfl⟩
  · have e1 : cutStep [] c = [[c]] := by unfold cutStep lastDigs; simp
    rw [e1]
    have := app_turn (a0 := a0) (a1 := a1) (acc := []) (c := c) (D := D) (by decide)
    cases dig c <;> simpa [truL, ownD] using this
  · rw [List.concat_eq_append] at hp hn ⊢
    have hpl := (hp p (by simp)).2
    have e2 := isd (hp p (by simp)).1.gl (by omega : p.length ≤ 1000)
    have t1 : truD (unD (ms0 fun s => .bool (Txt.isdigit s)) (ixLL (ownD 2) (unD negI (cD (.int 1))))) [a0, a1, some (.own ((a ++ [p]).map sd)), some (.d (sd [c]))] D = some (digs p, D) := by
      have : atI (a.map sd ++ [sd p]) (-1) = some (sd p) := at_last _ _
      simp [truD, unD, ixLL, ownD, cD, negI, asI, this, e2, truthD]
    have t2 : truL (ownD 2) [a0, a1, some (.own ((a ++ [p]).map sd)), some (.d (sd [c]))] D = some (true, D) := by
      simp [truL, ownD]
    rw [t2]
    simp only [Option.bind_some, if_true]
    rw [t1]
    have ld : lastDigs (a ++ [p]) = digs p := by unfold lastDigs; simp
    unfold cutStep
    rw [ld]
    have ap := app_turn (a0 := a0) (a1 := a1) (acc := a ++ [p]) (c := c) (D := D) hn
    cases hd : dig c with
    | false => simpa using ap
    | true =>
      cases hdp : digs p with
      | false => simpa using ap
      | true =>
        have e3 : atI (a.map sd ++ [sd p]) (-1) = some (sd p) := at_last _ _
        have e4 : ixN (a.length + 1) (-1) = some a.length := ixN_last _
        have e5 : orO addI addS (sd p) (sd [c]) = some (sd (p ++ [c])) := by
          unfold orO
          show addS (sd p) (sd [c]) = _
          exact addS_sd (by simp; omega)
        simp [augIxS, ownD, varD, unD, cD, negI, asI, e3, e4, e5]
theorem cutStep_len (acc : List (List Nat)) (c : Nat) : (cutStep acc c).length ≤ acc.length + 1 := by
  unfold cutStep
  split <;> simp <;> omega
theorem cutStep_piece {acc : List (List Nat)} {c n : Nat} (h : ∀ p ∈ acc, p.length ≤ n) : ∀ p ∈ cutStep acc c, p.length ≤ n + 1 := by
  intro p hp
  rcases step_split acc c with ⟨a, q, rfl, _, _, e⟩ | e <;> rw [e] at hp <;> rcases List.mem_append.mp hp with hp | hp
  · have := h p (List.mem_append_left _ hp); omega
  · have hp : p = q ++ [c] := by simpa using hp
    have := h q (by simp)
    rw [hp]; simp; omega
  · have := h p hp; omega
  · have hp : p = [c] := by simpa using hp
    rw [hp]; simp
theorem loopA {a0 a1 : Option AV} {D : Dw} {body : FS} (hbody : ∀ (acc : List (List Nat)) (c : Nat), (∀ p ∈ acc, PieceOk p ∧ p.length < 1000) → good c = true → acc.length ≤ 1000 → body [a0, a1, some (.own (acc.map sd)), some (.d (sd [c]))] D = some (.nx [a0, a1, some (.own ((cutStep acc c).map sd)), some (.d (sd [c]))] D)) :
    ∀ (r : List Nat) (acc : List (List Nat)) (l : List Nat) (n : Nat) (x3 : Option AV), CutOk acc l → GL r → acc.length + r.length ≤ 900 → (∀ p ∈ acc, p.length ≤ n) → n + r.length ≤ 900 →
    ∃ x3', loopD (nameG 3) body (r.map fun c => sd [c]) [a0, a1, some (.own (acc.map sd)), x3] D = some (.nx [a0, a1, some (.own ((r.foldl cutStep acc).map sd)), x3'] D)
  | [], acc, l, n, x3, _, _, _, _, _ => ⟨x3, rfl⟩
  | c :: r, acc, l, n, x3, hk, hr, h1, h2, h3 => by
    have hc := hr c List.mem_cons_self
    have h4 := cutStep_len acc c
    rw [List.length_cons] at h1 h3
    obtain ⟨x3', ih⟩ := loopA hbody r (cutStep acc c) (l ++ [c]) (n + 1) (some (.d (sd [c]))) (cut_step hk hc) (fun d hd => hr d (List.mem_cons_of_mem _ hd)) (by omega) (cutStep_piece h2) (by omega)
    refine ⟨x3', ?_⟩
    have hb := hbody acc c (fun p hp => ⟨hk.ok p hp, by have := h2 p hp; omega⟩) hc (by omega)
    rw [List.map_cons, loopD]
    simp only [nameG, Option.bind_some, List.set_cons_succ, List.set_cons_zero]
    rw [hb]
    exact ih
theorem cut_nums {l : List Nat} (hl : GL l) (hn : l.length ≤ 800) {a0 a1 : Option AV} {x3 : Option AV} {D : Dw} {body : FS} (hbody : ∀ (acc : List (List Nat)) (c : Nat), (∀ p ∈ acc, PieceOk p ∧ p.length < 1000) → good c = true → acc.length ≤ 1000 → body [a0, a1, some (.own (acc.map sd)), some (.d (sd [c]))] D = some (.nx [a0, a1, some (.own ((cutStep acc c).map sd)), some (.d (sd [c]))] D)) :
    ∃ x3', loopD (nameG 3) body (sgs (tx l)) [a0, a1, some (.own []), x3] D = some (.nx [a0, a1, some (.own ((pieces true l).map sd)), x3'] D) := by
  rw [signs_tx]
  exact loopA hbody l [] [] 0 x3 ⟨fun _ h => absurd h (by simp), rfl⟩ hl (by simp; omega) (fun _ h => absurd h (by simp)) (by omega)
theorem sgs_list (l : List Nat) : sgs (tx l) = (l.map fun c => [c]).map sd := by rw [signs_tx, List.map_map]; rfl
/-- the law's own cut -/
def bodyB : FS := ifS (andT (truD (varD 1)) (andT (truD (unD (ms0 fun s => .bool (Txt.isdigit s)) (varD 3))) (andT (boolD (cmpLD neO (ownD 2) (datD (dispD (argN))))) (truD (unD (ms0 fun s => .bool (Txt.isdigit s)) (ixLL (ownD 2) (unD negI (cD (.int 1))))))))) (setS 2 (unD negI (cD (.int 1))) (binD addO (ixLL (ownD 2) (unD negI (cD (.int 1)))) (varD 3))) (appS 2 (varD 3))
theorem neO_nil {acc : List (List Nat)} (h : ∀ p ∈ acc, GL p) : neO (.list (acc.map sd)) (.list []) = some (.bool (!acc.isEmpty)) := by
  have s1 : Shp 1 (.list (acc.map sd)) := shp_list fun x hx => by
    obtain ⟨p, hp, rfl⟩ := List.mem_map.mp hx
    exact shp_sd (h p hp)
  have s2 : SeqAt.shaped (.list []) = true := (shp_ints []).ok (by decide)
  unfold neO
  rw [s1.ok (by decide), s2, PyData.eqv]
  cases acc with
  | nil => rfl
  | cons p acc => rfl
theorem turnB {a0 : Option AV} {acc : List (List Nat)} {c : Nat} {D : Dw} (hp : ∀ p ∈ acc, PieceOk p ∧ p.length < 1000) (hc : good c = true) (hn : acc.length ≤ 1000) :
    bodyB [a0, some (.d (.bool true)), some (.own (acc.map sd)), some (.d (sd [c]))] D = some (.nx [a0, some (.d (.bool true)), some (.own ((cutStep acc c).map sd)), some (.d (sd [c]))] D) := by
  have e0 := isd (GL.one hc) (by simp : [c].length ≤ 1000)
  rw [digs_one] at e0
  have t0 : truD (unD (ms0 fun s => .bool (Txt.isdigit s)) (varD 3)) [a0, some (.d (.bool true)), some (.own (acc.map sd)), some (.d (sd [c]))] D = some (dig c, D) := by
    simp [truD, unD, varD, e0, truthD]
  have tt : truD (varD 1) [a0, some (.d (.bool true)), some (.own (acc.map sd)), some (.d (sd [c]))] D = some (true, D) := by simp [truD, varD, truthD]
  have t2 : boolD (cmpLD neO (ownD 2) (datD (dispD (argN)))) [a0, some (.d (.bool true)), some (.own (acc.map sd)), some (.d (sd [c]))] D = some (!acc.isEmpty, D) := by
    simp [boolD, cmpLD, ownD, datD, dispD, argN, allD, neO_nil fun p h => (hp p h).1.gl, asB]
  unfold bodyB ifS andT
  rw [tt]
  simp only [Option.bind_some, if_true]
  rw [t0]
  simp only [Option.bind_some]
  rw [t2]
  simp only [Option.bind_some]
  rcases List.eq_nil_or_concat acc with rfl | ⟨a, p, rfl⟩
  · have e1 : cutStep [] c = [[c]] := by unfold cutStep lastDigs; simp
    rw [e1]
    have := app_turn (a0 := a0) (a1 := some (.d (.bool true))) (acc := []) (c := c) (D := D) (by decide)
    cases dig c <;> simpa using this
  · rw [List.concat_eq_append] at hp hn ⊢
    have hpl := (hp p (by simp)).2
    have e2 := isd (hp p (by simp)).1.gl (by omega : p.length ≤ 1000)
    have t1 : truD (unD (ms0 fun s => .bool (Txt.isdigit s)) (ixLL (ownD 2) (unD negI (cD (.int 1))))) [a0, some (.d (.bool true)), some (.own ((a ++ [p]).map sd)), some (.d (sd [c]))] D = some (digs p, D) := by
      have : atI (a.map sd ++ [sd p]) (-1) = some (sd p) := at_last _ _
      simp [truD, unD, ixLL, ownD, cD, negI, asI, this, e2, truthD]
    rw [t1]
    have ld : lastDigs (a ++ [p]) = digs p := by unfold lastDigs; simp
    unfold cutStep
    rw [ld]
    have ap := app_turn (a0 := a0) (a1 := some (.d (.bool true))) (acc := a ++ [p]) (c := c) (D := D) hn
    cases hd : dig c with
    | false => simpa using ap
    | true =>
      cases hdp : digs p with
      | false => simpa using ap
      | true =>
        have e3 : atI (a.map sd ++ [sd p]) (-1) = some (sd p) := at_last _ _
        have e4 : ixN (a.length + 1) (-1) = some a.length := ixN_last _
        have e5 : addO (sd p) (sd [c]) = some (sd (p ++ [c])) := addO_sd (by simp; omega)
        simp [setS, binD, ixLL, ownD, varD, unD, cD, negI, asI, e3, e4, e5]
theorem loopC {a0 : Option AV} {D : Dw} : ∀ (r : List Nat) (acc : List (List Nat)) (x3 : Option AV), acc.length + r.length ≤ 900 →
    ∃ x3', loopD (nameG 3) bodyB (r.map fun c => sd [c]) [a0, some (.d (.bool false)), some (.own (acc.map sd)), x3] D = some (.nx [a0, some (.d (.bool false)), some (.own ((acc ++ r.map fun c => [c]).map sd)), x3'] D)
  | [], acc, x3, _ => ⟨x3, by simp [loopD]⟩
  | c :: r, acc, x3, h => by
    rw [List.length_cons] at h
    obtain ⟨x3', ih⟩ := loopC (a0 := a0) (D := D) r (acc ++ [[c]]) (some (.d (sd [c]))) (by simp; omega)
    refine ⟨x3', ?_⟩
    have hb : bodyB [a0, some (.d (.bool false)), some (.own (acc.map sd)), some (.d (sd [c]))] D = some (.nx [a0, some (.d (.bool false)), some (.own ((acc ++ [[c]]).map sd)), some (.d (sd [c]))] D) := by
      have ap := app_turn (a0 := a0) (a1 := some (.d (.bool false))) (acc := acc) (c := c) (D := D) (by omega)
      simpa [bodyB, ifS, andT, truD, varD, truthD] using ap
    rw [List.map_cons, loopD]
    simp only [nameG, Option.bind_some, List.set_cons_succ, List.set_cons_zero]
    rw [hb]
    simp only [Option.bind_some, stepO]
    rw [ih]
    simp
theorem law_cut_ok (whole : Bool) {l : List Nat} (hl : GL l) (hn : l.length ≤ 800) (D : Dw) : phi__law_cut [.d (sd l), .d (.bool whole)] D = some (.list ((pieces whole l).map sd), D) := by
  have hs : startA N__law_cut [.d (sd l), .d (.bool whole)] = [some (.d (sd l)), some (.d (.bool whole)), none, none] := rfl
  have e3 : ∃ x3', forS (strI (varD 0)) (nameG 3) bodyB [some (.d (sd l)), some (.d (.bool whole)), some (.own []), none] D = some (.nx [some (.d (sd l)), some (.d (.bool whole)), some (.own ((pieces whole l).map sd)), x3'] D) := by
    show ∃ x3', loopD (nameG 3) bodyB (sgs (tx l)) _ D = _
    cases whole with
    | true => exact cut_nums hl hn fun acc c h1 h2 h3 => turnB h1 h2 h3
    | false =>
      rw [signs_tx]
      have := loopC (a0 := some (.d (sd l))) (D := D) l [] none (by simp; omega)
      simpa [pieces] using this
  obtain ⟨x3', e3⟩ := e3
  unfold phi__law_cut g__law_cut
  rw [hs]
  show ((seqS (asgO 2 (dispD argN)) (seqS (forS (strI (varD 0)) (nameG 3) bodyB) (frzS 2 (retS (varD 2))))) _ D).bind outD = _
  have e5 : asgO 2 (dispD argN) [some (.d (sd l)), some (.d (.bool whole)), none, none] D = some (.nx [some (.d (sd l)), some (.d (.bool whole)), some (.own []), none] D) := by
    simp [asgO, dispD, argN, allD]
  have e6 : frzS 2 (retS (varD 2)) [some (.d (sd l)), some (.d (.bool whole)), some (.own ((pieces whole l).map sd)), x3'] D = some (.rt (.list ((pieces whole l).map sd)) D) := by
    simp [frzS, ownD, retS, varD]
  unfold seqS
  rw [e5]
  simp only [Option.bind_some, thenO]
  rw [e3]
  simp only [Option.bind_some, thenO]
  rw [e6]
  rfl
end K04

end
-- K04o
section
set_option Elab.async false
set_option linter.all false
set_option maxRecDepth 100000
set_option maxHeartbeats 2000000
namespace K04
open PySem PySem.Spec PyProof.Rows L2 Den
variable [TB : Tabl]
/-! ### ranks -/
theorem low_sd {c : Nat} (h : good c = true) : ms0 (fun s => .bool (Txt.islower s)) (sd [c]) = some (.bool (sml c)) := by
  show (if (tx [c]).length ≤ 1000000 then some (PyData.bool (Txt.islower (tx [c]))) else none) = _
  rw [if_pos (small (by simp)), islower_tx h]
theorem upp_sd {c : Nat} (h : good c = true) : ms0 (fun s => .bool (Txt.isupper s)) (sd [c]) = some (.bool (cap c)) := by
  show (if (tx [c]).length ≤ 1000000 then some (PyData.bool (Txt.isupper (tx [c]))) else none) = _
  rw [if_pos (small (by simp)), isupper_tx h]
theorem alp_sd {c : Nat} (h : good c = true) : ms0 (fun s => .bool (Txt.isalpha s)) (sd [c]) = some (.bool (letter c)) := by
  show (if (tx [c]).length ≤ 1000000 then some (PyData.bool (Txt.isalpha (tx [c]))) else none) = _
  rw [if_pos (small (by simp)), isalpha_tx h]
  rfl
theorem lo_sd {c : Nat} (h : good c = true) : ms0 (fun s => .str (Txt.lower s)) (sd [c]) = some (sd [loC c]) := by
  show (if (tx [c]).length ≤ 1000000 then some (PyData.str (Txt.lower (tx [c]))) else none) = _
  rw [if_pos (small (by simp)), lower_of c (good_lt h)]
theorem up_sd {c : Nat} (h : good c = true) : ms0 (fun s => .str (Txt.upper s)) (sd [c]) = some (sd [upC c]) := by
  show (if (tx [c]).length ≤ 1000000 then some (PyData.str (Txt.upper (tx [c]))) else none) = _
  rw [if_pos (small (by simp)), upper_of c (good_lt h)]
theorem ord_sd (c : Nat) : ordO [sd [c]] = some (.int (c : Nat)) := rfl
theorem int_sd {p : List Nat} (h : digs p = true) (hl : p.length ≤ 640) : intO [sd p] = some (.int (numOf p)) := by
  show (if (tx p).length ≤ 640 then (PySem.intText? (tx p)).map PyData.int else none) = _
  rw [tx_len, if_pos hl, int_tx h hl]
  rfl
theorem shp_tr (t : Tr) : Shp 1 (trD t) := shp_tup fun x hx => by
  rcases List.mem_cons.mp hx with rfl | hx
  · exact shp_int
  rcases List.mem_cons.mp hx with rfl | hx
  · exact shp_int
  rcases List.mem_cons.mp hx with rfl | hx
  · exact shp_int
  exact absurd hx (by simp)
theorem shp_look (cs : Cs) (b e : Bool) (ps : List (List Nat)) : Shp 2 (lookD cs b e ps) := shp_list fun x hx => by
  obtain ⟨t, rfl⟩ := look_mem hx
  exact shp_tr t
theorem shp_letD {l : List Nat} (h : GL l) : Shp 1 (letD l) := shp_list fun x hx => by
  obtain ⟨c, hc, rfl⟩ := List.mem_map.mp hx
  exact shp_sd (GL.one (h c (List.mem_filter.mp hc).1))
theorem shp_key (r : Rl) {l : List Nat} (h : GL l) : Shp 3 (keyD r l) := shp_list fun x hx => by
  unfold keyL at hx
  rcases List.mem_cons.mp hx with rfl | hx
  · exact shp_look _ _ _ _
  rcases List.mem_append.mp hx with hx | hx
  · split at hx
    · have hx : x = lookD r.c r.b r.e (pieces false l) := by simpa using hx
      rw [hx]; exact shp_look _ _ _ _
    · exact absurd hx (by simp)
  · split at hx
    · have hx : x = letD l := by simpa using hx
      rw [hx]; exact (shp_letD h).mono (by decide)
    · exact absurd hx (by simp)
theorem key_eq (r : Rl) {l m : List Nat} (hl : GL l) (hm : GL m) : eqO (keyD r l) (keyD r m) = some (.bool (PyData.eqv (keyD r l) (keyD r m))) := by
  unfold eqO
  rw [(shp_key r hl).ok (by decide), (shp_key r hm).ok (by decide)]
  rfl
theorem key_lt (r : Rl) {l m : List Nat} (hl : GL l) (hm : GL m) : ltA (keyD r l) (keyD r m) = some (.bool (PySem.W.dataLt (keyD r l) (keyD r m))) := by
  have d1 := (shp_key r hl).dep
  have e : ltO (keyD r l) (keyD r m) = some (.bool (PySem.W.dataLt (keyD r l) (keyD r m))) := by
    unfold ltO
    rw [alike_key, decide_eq_true (show min (keyD r l).depth (keyD r m).depth ≤ 60 by omega)]
    rfl
  show orO ltI ltO _ _ = _
  unfold orO
  show ltO _ _ = _
  exact e
theorem turn_ix (r : Rl) : ixO r.data (.int 4) = some (.int (if r.t then 1 else 0)) := by
  obtain ⟨c, f, b, e, t⟩ := r
  cases t <;> rfl

/-! ### the law's own comparison -/
theorem law_rank_ok (cs : Cs) (b : Bool) {p : List Nat} (h : PieceOk p) (hl : p.length ≤ 640) (D : Dw) : phi__law_rank [.d (sd p), .d (.str cs.w), .d (.str (barW b))] D = some (.list ((lrank cs b p).map .int), D) := by
  have hs : startA N__law_rank [.d (sd p), .d (.str cs.w), .d (.str (barW b))] = [some (.d (sd p)), some (.d (.str cs.w)), some (.d (.str (barW b))), none, none] := rfl
  unfold phi__law_rank g__law_rank
  rw [hs]
  rcases kinds h with rfl | ⟨n1, d1⟩ | ⟨n1, d1, c, rfl, l1⟩
  · rw [lrank_bar]
    cases b <;> simp [seqS, ifS, boolD, binD, varD, cD, bar_sd h.gl, asB, retS, datD, dispD, argD, argN, ifE, bar_ahead, allD, thenO, outD, unD, negI]
  · rw [lrank_num cs b n1 d1]
    simp [seqS, ifS, boolD, binD, varD, cD, bar_sd h.gl, n1, asB, nxS, thenO, truD, unD, isd h.gl (by omega : p.length ≤ 1000), d1, truthD, retS, datD, dispD, argD, argN, biD, allD, int_sd d1 hl, outD]
  · rw [lrank_let cs b n1 d1]
    have hg := h.gl c (by simp)
    have n2 : ¬ c = 95 := fun z => n1 (by rw [z])
    have e : (if cap c = true then (some (PyData.int 0, D) : Option (PyData × Dw)) else some (.int 1, D)) = some (.int (lw c), D) := by unfold lw; cases cap c <;> rfl
    cases cs <;> simp [seqS, ifS, boolD, binD, varD, cD, bar_sd h.gl, n2, asB, nxS, thenO, truD, unD, isd h.gl (by simp : [c].length ≤ 1000), d1, truthD, retS, parS, biD, argD, argN, up_sd hg, ord_sd, allD, ifE, upp_sd hg, e, cs_apart, cs_mixed, datD, dispD, outD, letR]
end K04

end
-- K04q
section
set_option Elab.async false
set_option linter.all false
set_option maxRecDepth 100000
set_option maxHeartbeats 2000000
namespace K04
open PySem PySem.Spec PyProof.Rows L2 Den
variable [TB : Tabl]
/-! ### one look of the law -/
def cmpPre (cs : Cs) (b : Bool) : List (List Nat) → List (List Nat) → Int
  | p :: ps, q :: qs => orC (rcmp (lrank cs b p) (lrank cs b q)) (cmpPre cs b ps qs)
  | _, _ => 0
theorem once_pre (cs : Cs) (b e : Bool) : ∀ ps qs, onceC cs b e ps qs = orC (cmpPre cs b ps qs) (if ps.length = qs.length then 0 else if decide (ps.length < qs.length) = e then -1 else 1)
  | [], [] => by unfold onceC cmpPre; rfl
  | [], q :: qs => by
    unfold onceC cmpPre
    cases e <;> simp [orC]
  | p :: ps, [] => by
    unfold onceC cmpPre
    cases e <;> simp [orC]
  | p :: ps, q :: qs => by
    unfold onceC cmpPre
    rw [once_pre cs b e ps qs, orC_assoc]
    congr 2
    simp
theorem alike_ints (a b : List Int) : PySem.W.alike (.list (a.map .int)) (.list (b.map .int)) = true := by
  rw [PySem.W.alike]
  refine alikeAll_of fun x hx y hy => ?_
  obtain ⟨i, _, rfl⟩ := List.mem_map.mp hx
  obtain ⟨j, _, rfl⟩ := List.mem_map.mp hy
  exact alike_int
theorem ints_ne (a b : List Int) : neO (.list (a.map .int)) (.list (b.map .int)) = some (.bool (!PyData.eqv (.list (a.map .int)) (.list (b.map .int)))) := by
  unfold neO
  rw [(shp_ints a).ok (by decide), (shp_ints b).ok (by decide)]
  rfl
theorem ints_lt (a b : List Int) : ltA (.list (a.map .int)) (.list (b.map .int)) = some (.bool (PySem.W.dataLt (.list (a.map .int)) (.list (b.map .int)))) := by
  have d1 := (shp_ints a).dep
  have e : ltO (.list (a.map .int)) (.list (b.map .int)) = some (.bool (PySem.W.dataLt (.list (a.map .int)) (.list (b.map .int)))) := by
    unfold ltO
    rw [alike_ints, decide_eq_true (show min (PyData.list (a.map .int)).depth (PyData.list (b.map .int)).depth ≤ 60 by omega)]
    rfl
  show orO ltI ltO _ _ = _
  unfold orO
  exact e
def bodyO : FS := seqS (parS 9 10 (callD phi__law_rank (argD (binD ixO (varD 6) (varD 8)) (argD (varD 0) (argD (varD 2) (argN))))) (callD phi__law_rank (argD (binD ixO (varD 7) (varD 8)) (argD (varD 0) (argD (varD 2) (argN)))))) (ifS (boolD (binD neO (varD 9) (varD 10))) (retS (ifE (boolD (binD ltA (varD 9) (varD 10))) (unD negI (cD (.int 1))) (cD (.int 1)))) (nxS))
abbrev stO (cs : Cs) (w b e : PyData) (o1 o2 : Option AV) (bb : Bool) (A B : List (List Nat)) (k f s : Option AV) : Den.Env := [some (.d (.str cs.w)), some (.d w), some (.d (.str (barW bb))), some (.d e), o1, o2, some (.d (.list (A.map sd))), some (.d (.list (B.map sd))), k, f, s]
theorem ix_at {A : List (List Nat)} {i : Nat} {p : List Nat} (h : A[i]? = some p) : ixO (.list (A.map sd)) (.int (i : Nat)) = some (sd p) := by
  have hi : i < A.length := (List.getElem?_eq_some_iff.mp h).1
  have e : atI (A.map sd) (i : Int) = some (sd p) := atI_pos (by omega) (by rw [List.length_map]; omega) (by rw [List.getElem?_map]; simp [h])
  show orO ixL (orO ixT ixS) _ _ = _
  unfold orO
  show (match atI (A.map sd) (i : Int) with | some z => some z | none => _) = _
  rw [e]
theorem turnO {cs : Cs} {w b e : PyData} {o1 o2 : Option AV} {bb : Bool} {A B : List (List Nat)} {f s : Option AV} {D : Dw} {i : Nat} {p q : List Nat} (hp : A[i]? = some p) (hq : B[i]? = some q) (kp : PieceOk p) (kq : PieceOk q) (lp : p.length ≤ 640) (lq : q.length ≤ 640) :
    bodyO (stO cs w b e o1 o2 bb A B (some (.d (.int (i : Nat)))) f s) D = some (if rcmp (lrank cs bb p) (lrank cs bb q) = 0 then .nx (stO cs w b e o1 o2 bb A B (some (.d (.int (i : Nat)))) (some (.d (.list ((lrank cs bb p).map .int)))) (some (.d (.list ((lrank cs bb q).map .int))))) D else .rt (.int (rcmp (lrank cs bb p) (lrank cs bb q))) D) := by
  have r1 := law_rank_ok cs bb kp lp D
  have r2 := law_rank_ok cs bb kq lq D
  have i1 := ix_at hp
  have i2 := ix_at hq
  unfold bodyO seqS
  have e1 : parS 9 10 (callD phi__law_rank (argD (binD ixO (varD 6) (varD 8)) (argD (varD 0) (argD (varD 2) (argN))))) (callD phi__law_rank (argD (binD ixO (varD 7) (varD 8)) (argD (varD 0) (argD (varD 2) (argN))))) (stO cs w b e o1 o2 bb A B (some (.d (.int (i : Nat)))) f s) D
      = some (.nx (stO cs w b e o1 o2 bb A B (some (.d (.int (i : Nat)))) (some (.d (.list ((lrank cs bb p).map .int)))) (some (.d (.list ((lrank cs bb q).map .int))))) D) := by
    simp [parS, callD, argD, binD, varD, argN, i1, i2, r1, r2]
  rw [e1]
  simp only [Option.bind_some, thenO]
  unfold rcmp dcmp
  cases he : PyData.eqv (.list ((lrank cs bb p).map .int)) (.list ((lrank cs bb q).map .int)) with
  | true => simp [ifS, boolD, binD, varD, ints_ne, he, asB, nxS]
  | false =>
    cases hlt : PySem.W.dataLt (.list ((lrank cs bb p).map .int)) (.list ((lrank cs bb q).map .int)) <;>
      simp [ifS, boolD, binD, varD, ints_ne, he, asB, nxS, retS, ifE, ints_lt, hlt, unD, negI, cD]
theorem rng_drop {n i : Nat} (h : i < n) : (rngV 0 n).drop i = .int (i : Nat) :: (rngV 0 n).drop (i + 1) := by
  have hl : i < (rngV 0 n).length := by unfold rngV; simpa using h
  rw [List.drop_eq_getElem_cons hl]
  congr 1
  unfold rngV
  simp
theorem loopO {cs : Cs} {w b e : PyData} {o1 o2 : Option AV} {bb : Bool} {A B : List (List Nat)} {D : Dw} (hA : ∀ p ∈ A, PieceOk p ∧ p.length ≤ 640) (hB : ∀ p ∈ B, PieceOk p ∧ p.length ≤ 640) :
    ∀ (m i : Nat) (k f s : Option AV), i + m = min A.length B.length → ∃ k' f' s', loopD (nameG 8) bodyO ((rngV 0 (min A.length B.length)).drop i) (stO cs w b e o1 o2 bb A B k f s) D = some (if cmpPre cs bb (A.drop i) (B.drop i) = 0 then .nx (stO cs w b e o1 o2 bb A B k' f' s') D else .rt (.int (cmpPre cs bb (A.drop i) (B.drop i))) D)
  | 0, i, k, f, s, h => by
    refine ⟨k, f, s, ?_⟩
    have h1 : (rngV 0 (min A.length B.length)).drop i = [] := List.drop_of_length_le (by unfold rngV; simp; omega)
    have h2 : cmpPre cs bb (A.drop i) (B.drop i) = 0 := by
      have : A.drop i = [] ∨ B.drop i = [] := by
        by_cases hh : A.length ≤ i
        · exact .inl (List.drop_of_length_le hh)
        · exact .inr (List.drop_of_length_le (by omega))
      rcases this with z | z <;> rw [z]
      · unfold cmpPre; rfl
      · cases A.drop i <;> (unfold cmpPre; rfl)
    rw [h1, h2]
    rfl
  | m + 1, i, k, f, s, h => by
    have ha : i < A.length := by omega
    have hb : i < B.length := by omega
    rw [rng_drop (by omega), List.drop_eq_getElem_cons ha, List.drop_eq_getElem_cons hb]
    have mA := hA A[i] (List.getElem_mem ha)
    have mB := hB B[i] (List.getElem_mem hb)
    have t := turnO (cs := cs) (w := w) (b := b) (e := e) (o1 := o1) (o2 := o2) (bb := bb) (A := A) (B := B) (f := f) (s := s) (D := D) (i := i) (List.getElem?_eq_getElem ha) (List.getElem?_eq_getElem hb) mA.1 mB.1 mA.2 mB.2
    obtain ⟨k', f', s', ih⟩ := loopO (cs := cs) (w := w) (b := b) (e := e) (o1 := o1) (o2 := o2) (bb := bb) (D := D) hA hB m (i + 1) (some (.d (.int (i : Nat)))) (some (.d (.list ((lrank cs bb A[i]).map .int)))) (some (.d (.list ((lrank cs bb B[i]).map .int)))) (by omega)
    refine ⟨k', f', s', ?_⟩
    rw [loopD]
    have en : nameG 8 (.int (i : Nat)) (stO cs w b e o1 o2 bb A B k f s) = some (stO cs w b e o1 o2 bb A B (some (.d (.int (i : Nat)))) f s) := rfl
    rw [en]
    simp only [Option.bind_some]
    rw [t]
    simp only [Option.bind_some]
    unfold cmpPre
    by_cases hz : rcmp (lrank cs bb A[i]) (lrank cs bb B[i]) = 0
    · rw [if_pos hz, hz, orC_right]
      exact ih
    · rw [if_neg hz, orC_left hz, if_neg hz]
      rfl
theorem inRg_of {j : Int} (h0 : 0 ≤ j) (h1 : j ≤ 1000) : inRg j = true := by
  unfold inRg
  simp only [Bool.and_eq_true, decide_eq_true_eq]
  omega
theorem rng1_of {f : FE} {ρ : Den.Env} {D : Dw} {n : Nat} (h : f ρ D = some (.int (n : Nat), D)) (ir : inRg (n : Nat) = true) : rng1I f ρ D = some (rngV 0 n, D) := by
  unfold rng1I
  rw [h, Option.bind_some, asI, Option.bind_some, if_pos ir, Int.toNat_natCast]
theorem seq_nx {g1 g2 : FS} {ρ ρ' : Den.Env} {D D' : Dw} (h : g1 ρ D = some (.nx ρ' D')) : seqS g1 g2 ρ D = g2 ρ' D' := by
  unfold seqS
  rw [h]
  rfl
theorem seq_rt {g1 g2 : FS} {ρ : Den.Env} {D D' : Dw} {x : PyData} (h : g1 ρ D = some (.rt x D')) : seqS g1 g2 ρ D = some (.rt x D') := by
  unfold seqS
  rw [h]
  rfl
theorem rng_min {a b : Nat} (ha : a ≤ 500) (hb : b ≤ 500) {D : Dw} {f : FE} {ρ : Den.Env} (h : f ρ D = some (.int (if (b : Int) < (a : Int) then (b : Int) else (a : Int)), D)) : rng1I f ρ D = some (rngV 0 (min a b), D) := by
  have em : (if (b : Int) < (a : Int) then (b : Int) else (a : Int)) = ((min a b : Nat) : Int) := by
    split <;> omega
  have ir : inRg ((min a b : Nat) : Int) = true := inRg_of (by omega) (by omega)
  rw [em] at h
  exact rng1_of h ir
theorem once_par {cs : Cs} {w b e : Bool} {l m : List Nat} (hl : GL l) (hn : l.length ≤ 500) (hm : GL m) (hk : m.length ≤ 500) {D : Dw} : parS 6 7 (callD phi__law_cut (argD (varD 4) (argD (varD 1) (argN)))) (callD phi__law_cut (argD (varD 5) (argD (varD 1) (argN)))) [some (.d (.str cs.w)), some (.d (.bool w)), some (.d (.str (barW b))), some (.d (.str (endW e))), some (.d (sd l)), some (.d (sd m)), none, none, none, none, none] D
      = some (.nx (stO cs (.bool w) .none (.str (endW e)) (some (.d (sd l))) (some (.d (sd m))) b (pieces w l) (pieces w m) none none none) D) := by
  simp [parS, callD, argD, varD, argN, law_cut_ok w hl (by omega : l.length ≤ 800), law_cut_ok w hm (by omega : m.length ≤ 800)]
theorem once_min {cs : Cs} {w b e : PyData} {o1 o2 : Option AV} {bb : Bool} {A B : List (List Nat)} {k f s : Option AV} {D : Dw} : biD minO (argD (biD lenO (argD (varD 6) (argN))) (argD (biD lenO (argD (varD 7) (argN))) (argN))) (stO cs w b e o1 o2 bb A B k f s) D
      = some (.int (if (B.length : Int) < (A.length : Int) then (B.length : Int) else (A.length : Int)), D) := by
  simp only [biD, argD, varD, argN, lenO, allD, minO, stO, List.getElem?_cons_succ, List.getElem?_cons_zero, Option.bind_some, Option.map_some, List.length_map]
theorem once_end {cs : Cs} {w b : PyData} {e : Bool} {o1 o2 : Option AV} {bb : Bool} {A B : List (List Nat)} {k f s : Option AV} {D : Dw} :
    ((seqS (ifS (boolD (binD eqO (biD lenO (argD (varD 6) (argN))) (biD lenO (argD (varD 7) (argN))))) (retS (cD (.int 0))) (nxS)) (retS (ifE (boolD (binD eqO (binD ltA (biD lenO (argD (varD 6) (argN))) (biD lenO (argD (varD 7) (argN)))) (binD eqO (varD 3) (cD (.str "first"))))) (unD negI (cD (.int 1))) (cD (.int 1))))) (stO cs w b (.str (endW e)) o1 o2 bb A B k f s) D).bind outD
      = some (.int (if A.length = B.length then 0 else if decide (A.length < B.length) = e then -1 else 1), D) := by
  by_cases hlen : A.length = B.length
  · simp [seqS, ifS, boolD, binD, biD, argD, argN, varD, lenO, allD, hlen, eqO_int, asB, retS, cD, thenO, outD]
  · have hlen' : ¬ (A.length : Int) = (B.length : Int) := by omega
    have hltI : decide ((A.length : Int) < (B.length : Int)) = decide (A.length < B.length) := decide_eq_decide.mpr (by omega)
    have hl2 : ltA (.int (A.length : Int)) (.int (B.length : Int)) = some (.bool (decide (A.length < B.length))) := by
      rw [← hltI]; rfl
    cases hd : decide (A.length < B.length) <;> cases e <;>
      simp [seqS, ifS, boolD, binD, biD, argD, argN, varD, lenO, allD, hlen, hlen', eqO_int, asB, retS, cD, thenO, outD, nxS, ifE, hl2, hd, end_first, eqO_bool, unD, negI]
theorem law_once_ok (cs : Cs) (w b e : Bool) {l m : List Nat} (hl : GL l) (hn : l.length ≤ 500) (hm : GL m) (hk : m.length ≤ 500) (D : Dw) :
    phi__law_once [.d (.str cs.w), .d (.bool w), .d (.str (barW b)), .d (.str (endW e)), .d (sd l), .d (sd m)] D = some (.int (onceC cs b e (pieces w l) (pieces w m)), D) := by
  have hs : startA N__law_once [.d (.str cs.w), .d (.bool w), .d (.str (barW b)), .d (.str (endW e)), .d (sd l), .d (sd m)] = [some (.d (.str cs.w)), some (.d (.bool w)), some (.d (.str (barW b))), some (.d (.str (endW e))), some (.d (sd l)), some (.d (sd m)), none, none, none, none, none] := rfl
  have o1 := pieces_ok (whole := w) hl
  have o2 := pieces_ok (whole := w) hm
  have l1 := o1.len
  have l2 := o2.len
  rw [once_pre]
  unfold phi__law_once g__law_once
  rw [hs, seq_nx (once_par hl hn hm hk)]
  have hA : ∀ p ∈ pieces w l, PieceOk p ∧ p.length ≤ 640 := fun p hp => ⟨o1.ok p hp, by have := l1.2 p hp; omega⟩
  have hB : ∀ p ∈ pieces w m, PieceOk p ∧ p.length ≤ 640 := fun p hp => ⟨o2.ok p hp, by have := l2.2 p hp; omega⟩
  have lA : (pieces w l).length ≤ 500 := by omega
  have lB : (pieces w m).length ≤ 500 := by omega
  clear hs o1 o2 l1 l2
  generalize pieces w l = A at *
  generalize pieces w m = B at *
  obtain ⟨k', f', s', ih⟩ := loopO (cs := cs) (w := .bool w) (b := .none) (e := .str (endW e)) (o1 := some (.d (sd l))) (o2 := some (.d (sd m))) (bb := b) (A := A) (B := B) (D := D) hA hB (min A.length B.length) 0 none none none (by omega)
  rw [List.drop_zero, List.drop_zero, List.drop_zero] at ih
  have e3 : forS (rng1I (biD minO (argD (biD lenO (argD (varD 6) (argN))) (argD (biD lenO (argD (varD 7) (argN))) (argN))))) (nameG 8) bodyO (stO cs (.bool w) .none (.str (endW e)) (some (.d (sd l))) (some (.d (sd m))) b A B none none none) D
      = some (if cmpPre cs b A B = 0 then .nx (stO cs (.bool w) .none (.str (endW e)) (some (.d (sd l))) (some (.d (sd m))) b A B k' f' s') D else .rt (.int (cmpPre cs b A B)) D) := by
    unfold forS
    rw [rng_min lA lB once_min]
    exact ih
  by_cases hz : cmpPre cs b A B = 0
  · rw [if_pos hz] at e3
    rw [hz, orC_right]
    have e4 := seq_nx (g2 := seqS (ifS (boolD (binD eqO (biD lenO (argD (varD 6) (argN))) (biD lenO (argD (varD 7) (argN))))) (retS (cD (.int 0))) (nxS)) (retS (ifE (boolD (binD eqO (binD ltA (biD lenO (argD (varD 6) (argN))) (biD lenO (argD (varD 7) (argN)))) (binD eqO (varD 3) (cD (.str "first"))))) (unD negI (cD (.int 1))) (cD (.int 1))))) e3
    unfold bodyO at e4
    rw [e4]
    exact once_end
  · rw [if_neg hz] at e3
    rw [orC_left hz]
    have e4 := seq_rt (g2 := seqS (ifS (boolD (binD eqO (biD lenO (argD (varD 6) (argN))) (biD lenO (argD (varD 7) (argN))))) (retS (cD (.int 0))) (nxS)) (retS (ifE (boolD (binD eqO (binD ltA (biD lenO (argD (varD 6) (argN))) (biD lenO (argD (varD 7) (argN)))) (binD eqO (varD 3) (cD (.str "first"))))) (unD negI (cD (.int 1))) (cD (.int 1))))) e3
    unfold bodyO at e4
    rw [e4]
    rfl
abbrev stC (r : Rl) (l m : List Nat) (x y : Option AV) : Den.Env := [some (.d r.data), some (.d (sd l)), some (.d (sd m)), some (.d (.str r.c.w)), some (.d (.str r.f.w)), some (.d (.str (barW r.b))), some (.d (.str (endW r.e))), some (.d (.int (if r.t then 1 else 0))), x, y]
theorem law_compare_ok (r : Rl) {l m : List Nat} (hl : GL l) (hn : l.length ≤ 500) (hm : GL m) (hk : m.length ≤ 500) (D : Dw) : phi__law_compare [.d r.data, .d (sd l), .d (sd m)] D = some (.int (told r l m), D) := by
  obtain ⟨c, f, b, e, t⟩ := r
  have hs : startA N__law_compare [.d (Rl.data ⟨c, f, b, e, t⟩), .d (sd l), .d (sd m)] = [some (.d (Rl.data ⟨c, f, b, e, t⟩)), some (.d (sd l)), some (.d (sd m)), none, none, none, none, none, none, none] := rfl
  have ht : (Str.ofString "together") = Cs.together.w := rfl
  have hx : (Str.ofString "mixed") = Cs.mixed.w := rfl
  have hw : (!decide (f = .signs)) = f.whole := by cases f <;> rfl
  have e8 : (if decide (c = Cs.last) = true then (some (PyData.str Cs.together.w, D) : Option (PyData × Dw)) else some (.str c.w, D)) = some (.str c.first.w, D) := by cases c <;> rfl
  have kA := law_once_ok c.first f.whole b e hl hn hm hk D
  have kB := law_once_ok c.first false b e hl hn hm hk D
  have kC := law_once_ok .mixed f.whole b e hl hn hm hk D
  generalize hA : onceC c.first b e (pieces f.whole l) (pieces f.whole m) = vA at kA
  generalize hB : onceC c.first b e (pieces false l) (pieces false m) = vB at kB
  generalize hC : onceC .mixed b e (pieces f.whole l) (pieces f.whole m) = vC at kC
  have goal2 : told ⟨c, f, b, e, t⟩ l m = if t = true then -(orC vA (orC (if f = .strict then vB else 0) (if c = .last then vC else 0))) else orC vA (orC (if f = .strict then vB else 0) (if c = .last then vC else 0)) := by
    rw [← hA, ← hB, ← hC]
    rfl
  rw [goal2]
  clear goal2 hA hB hC
  unfold phi__law_compare g__law_compare
  rw [hs, ht, hx]
  have s1 : asgT (varD 0) (tupG 5 (consG (nameG 3) (consG (nameG 4) (consG (nameG 5) (consG (nameG 6) (consG (nameG 7) nilG)))))) [some (.d (Rl.data ⟨c, f, b, e, t⟩)), some (.d (sd l)), some (.d (sd m)), none, none, none, none, none, none, none] D
      = some (.nx (stC ⟨c, f, b, e, t⟩ l m none none) D) := by
    simp [asgT, varD, Rl.data, tupG, consG, nameG, nilG]
  have s2 : asgS 8 (ifE (boolD (binD eqO (varD 3) (cD (.str "last")))) (cD (.str Cs.together.w)) (varD 3)) (stC ⟨c, f, b, e, t⟩ l m none none) D = some (.nx (stC ⟨c, f, b, e, t⟩ l m (some (.d (.str c.first.w))) none) D) := by
    simp only [asgS, ifE, boolD, binD, varD, cD, stC, List.getElem?_cons_succ, List.getElem?_cons_zero, Option.bind_some, Option.map_some, cs_last, asB]
    rw [e8]
    rfl
  have s3 : asgS 9 (callD phi__law_once (argD (varD 8) (argD (binD neO (varD 4) (cD (.str "signs"))) (argD (varD 5) (argD (varD 6) (argD (varD 1) (argD (varD 2) (argN)))))))) (stC ⟨c, f, b, e, t⟩ l m (some (.d (.str c.first.w))) none) D = some (.nx (stC ⟨c, f, b, e, t⟩ l m (some (.d (.str c.first.w))) (some (.d (.int vA)))) D) := by
    simp [asgS, callD, argD, argN, varD, binD, cD, fg_nsigns, hw, kA]
  have s4 : ifS (andT (boolD (binD eqO (varD 9) (cD (.int 0)))) (boolD (binD eqO (varD 4) (cD (.str "strict"))))) (asgS 9 (callD phi__law_once (argD (varD 8) (argD (cD (.bool false)) (argD (varD 5) (argD (varD 6) (argD (varD 1) (argD (varD 2) (argN))))))))) (nxS) (stC ⟨c, f, b, e, t⟩ l m (some (.d (.str c.first.w))) (some (.d (.int vA)))) D
      = some (.nx (stC ⟨c, f, b, e, t⟩ l m (some (.d (.str c.first.w))) (some (.d (.int (orC vA (if f = .strict then vB else 0)))))) D) := by
    by_cases hz : vA = 0
    · by_cases hf : f = .strict
      · simp [ifS, andT, boolD, binD, varD, cD, eqO_int, asB, fg_strict, hf, hz, asgS, callD, argD, argN, kB, orC]
      · simp [ifS, andT, boolD, binD, varD, cD, eqO_int, asB, fg_strict, hf, hz, nxS, orC]
    · simp [ifS, andT, boolD, binD, varD, cD, eqO_int, asB, hz, nxS, orC]
  generalize hv : orC vA (if f = .strict then vB else 0) = v1 at s4
  have s5 : ifS (andT (boolD (binD eqO (varD 9) (cD (.int 0)))) (boolD (binD eqO (varD 3) (cD (.str "last"))))) (asgS 9 (callD phi__law_once (argD (cD (.str Cs.mixed.w)) (argD (binD neO (varD 4) (cD (.str "signs"))) (argD (varD 5) (argD (varD 6) (argD (varD 1) (argD (varD 2) (argN))))))))) (nxS) (stC ⟨c, f, b, e, t⟩ l m (some (.d (.str c.first.w))) (some (.d (.int v1)))) D
      = some (.nx (stC ⟨c, f, b, e, t⟩ l m (some (.d (.str c.first.w))) (some (.d (.int (orC v1 (if c = .last then vC else 0)))))) D) := by
    by_cases hz : v1 = 0
    · by_cases hf : c = .last
      · simp [ifS, andT, boolD, binD, varD, cD, eqO_int, asB, cs_last, hf, hz, asgS, callD, argD, argN, kC, orC, fg_nsigns, hw]
      · simp [ifS, andT, boolD, binD, varD, cD, eqO_int, asB, cs_last, hf, hz, nxS, orC]
    · simp [ifS, andT, boolD, binD, varD, cD, eqO_int, asB, hz, nxS, orC]
  rw [← orC_assoc, hv]
  generalize hv2 : orC v1 (if c = .last then vC else 0) = v2 at s5
  unfold seqS
  rw [s1]
  simp only [Option.bind_some, thenO]
  rw [s2]
  simp only [Option.bind_some, thenO]
  rw [s3]
  simp only [Option.bind_some, thenO]
  rw [s4]
  simp only [Option.bind_some, thenO]
  rw [s5]
  simp only [Option.bind_some, thenO]
  cases t <;> simp [retS, ifE, boolD, binD, varD, cD, eqO_int, asB, unD, negI, outD]
end K04

end
-- K04r
section
set_option Elab.async false
set_option linter.all false
set_option maxRecDepth 100000
set_option maxHeartbeats 2000000
namespace K04
open PySem PySem.Spec PyProof.Rows L2 Den
variable [TB : Tabl]
/-! ### the law's draws -/
theorem addO_int (a b : Int) : addO (.int a) (.int b) = some (.int (a + b)) := rfl
theorem ixO_list {xs : List PyData} {i : Nat} {x : PyData} (h : xs[i]? = some x) : ixO (.list xs) (.int (i : Nat)) = some x := by
  have hi : i < xs.length := (List.getElem?_eq_some_iff.mp h).1
  have e : atI xs (i : Int) = some x := atI_pos (by omega) (by omega) (by simp [h])
  show orO ixL (orO ixT ixS) _ _ = _
  unfold orO
  show (match atI xs (i : Int) with | some z => some z | none => _) = _
  rw [e]
theorem ixO_str {l : List Nat} {i : Nat} {c : Nat} (hl : l.length ≤ 1000) (h : l[i]? = some c) : ixO (sd l) (.int (i : Nat)) = some (sd [c]) := by
  have hi : i < l.length := (List.getElem?_eq_some_iff.mp h).1
  have e : atI (tx l).cps.toList (i : Int) = some c := by rw [tx_cps]; exact atI_pos (by omega) (by omega) (by simp [h])
  simp only [ixO, orO, ixL, ixT, ixS]
  rw [if_pos (small hl), e]
  rfl
theorem pick_ok {n : Nat} {D : Dw} {xs : List PyData} (h : DG' (n + 1) D) (h0 : xs ≠ []) (h1 : xs.length ≤ 1000) : ∃ x D', phi__law_pick [.drw, .d (.list xs)] D = some (x, D') ∧ x ∈ xs ∧ DG' n D' := by
  have hp : 0 < xs.length := List.length_pos_iff.mpr h0
  obtain ⟨r, D', e, r0, r1, g⟩ := call_draw (lim := (xs.length : Int)) h (by omega) (by omega)
  have hr : r.toNat < xs.length := by omega
  have er : ((r.toNat : Nat) : Int) = r := by omega
  have ix := ixO_list (xs := xs) (i := r.toNat) (List.getElem?_eq_getElem hr)
  rw [er] at ix
  refine ⟨xs[r.toNat], D', ?_, List.getElem_mem hr, g⟩
  have hs : startA N__law_pick [.drw, .d (.list xs)] = [some .drw, some (.d (.list xs))] := rfl
  unfold phi__law_pick g__law_pick
  rw [hs]
  have e' : phi__law_draw [.drw, .d (.int (xs.length : Int))] D = some (.int r, D') := e
  simp [retS, binD, varD, callD, argW, drwD, argD, biD, argN, lenO, allD, e', ix, outD]
theorem words_ok (D : Dw) : phi__law_words [] D = some (.list [.list [.str "apart", .str "mixed", .str "together", .str "last"], .list [.str "signs", .str "numbers", .str "strict"], .list [.str "ahead", .str "behind"], .list [.str "first", .str "behind"]], D) := by
  have hs : startA N__law_words [] = [] := rfl
  unfold phi__law_words g__law_words
  rw [hs]
  simp [retS, datD, dispD, argD, cD, argN, allD, outD]
theorem lc_cons {i : Nat} {fe : FE} {ρ : Den.Env} {x y : PyData} {xs ys : List PyData} {D D1 D2 : Dw} (h : fe (ρ.set i (some (.d x))) D = some (y, D1)) (h2 : lcD i yesT fe ρ xs D1 = some (ys, D2)) : lcD i yesT fe ρ (x :: xs) D = some (y :: ys, D2) := by
  rw [lcD]
  simp [yesT, h]
  exact h2
theorem rule_ok {n : Nat} {D : Dw} (h : DG' (n + 5) D) : ∃ (r : Rl) (D' : Dw), phi__law_rule [.drw] D = some (r.data, D') ∧ DG' n D' := by
  obtain ⟨x1, D1, e1, m1, g1⟩ := pick_ok (n := n + 4) (xs := [.str "apart", .str "mixed", .str "together", .str "last"]) h (by simp) (by simp)
  obtain ⟨x2, D2, e2, m2, g2⟩ := pick_ok (n := n + 3) (xs := [.str "signs", .str "numbers", .str "strict"]) g1 (by simp) (by simp)
  obtain ⟨x3, D3, e3, m3, g3⟩ := pick_ok (n := n + 2) (xs := [.str "ahead", .str "behind"]) g2 (by simp) (by simp)
  obtain ⟨x4, D4, e4, m4, g4⟩ := pick_ok (n := n + 1) (xs := [.str "first", .str "behind"]) g3 (by simp) (by simp)
  obtain ⟨r, D5, e5, r0, r1, g5⟩ := call_draw (lim := 2) g4 (by decide) (by decide)
  have hs : startA N__law_rule [.drw] = [some .drw, none] := rfl
  have key : ∀ (x : PyData) (xs : PyData) (D D' : Dw), phi__law_pick [.drw, .d xs] D = some (x, D') → callD phi__law_pick (argW 0 (argD (varD 1) argN)) (([some .drw, none] : Den.Env).set 1 (some (.d xs))) D = some (x, D') := fun x xs D D' e => by
    simp [callD, argW, drwD, argD, varD, argN, e]
  have lc := lc_cons (i := 1) (ρ := [some .drw, none]) (key _ _ _ _ e1) (lc_cons (key _ _ _ _ e2) (lc_cons (key _ _ _ _ e3) (lc_cons (key _ _ _ _ e4) (show lcD 1 yesT (callD phi__law_pick (argW 0 (argD (varD 1) argN))) [some .drw, none] [] D4 = some ([], D4) from rfl))))
  have lf : lcF 1 (lstD (callN phi__law_words)) yesT (callD phi__law_pick (argW 0 (argD (varD 1) argN))) [some .drw, none] D = some ([x1, x2, x3, x4], D4) := by
    unfold lcF lstD callN
    rw [words_ok]
    simp only [Option.bind_some, asL, Option.map_some]
    rw [if_pos (by decide)]
    exact lc
  have hr : r = 0 ∨ r = 1 := by omega
  have e5' : phi__law_draw [.drw, .d (.int 2)] D4 = some (.int r, D5) := e5
  have tot : phi__law_rule [.drw] D = some (.tuple [x1, x2, x3, x4, .int r], D5) := by
    unfold phi__law_rule g__law_rule
    rw [hs]
    simp [retS, binD, biD, argD, datD, lf, argN, allD, tupO, tupD, callD, argW, drwD, cD, e5', addO, orO, addI, addS, addT, outD]
  have c1 : ∃ c : Cs, x1 = .str c.w := by
    simp only [List.mem_cons, List.not_mem_nil, or_false] at m1
    rcases m1 with rfl | rfl | rfl | rfl
    · exact ⟨.apart, rfl⟩
    · exact ⟨.mixed, rfl⟩
    · exact ⟨.together, rfl⟩
    · exact ⟨.last, rfl⟩
  have c2 : ∃ f : Fg, x2 = .str f.w := by
    simp only [List.mem_cons, List.not_mem_nil, or_false] at m2
    rcases m2 with rfl | rfl | rfl
    · exact ⟨.signs, rfl⟩
    · exact ⟨.numbers, rfl⟩
    · exact ⟨.strict, rfl⟩
  have c3 : ∃ b : Bool, x3 = .str (barW b) := by
    simp only [List.mem_cons, List.not_mem_nil, or_false] at m3
    rcases m3 with rfl | rfl
    · exact ⟨true, rfl⟩
    · exact ⟨false, rfl⟩
  have c4 : ∃ b : Bool, x4 = .str (endW b) := by
    simp only [List.mem_cons, List.not_mem_nil, or_false] at m4
    rcases m4 with rfl | rfl
    · exact ⟨true, rfl⟩
    · exact ⟨false, rfl⟩
  obtain ⟨c, rfl⟩ := c1
  obtain ⟨f, rfl⟩ := c2
  obtain ⟨b, rfl⟩ := c3
  obtain ⟨e, rfl⟩ := c4
  refine ⟨⟨c, f, b, e, decide (r = 1)⟩, D5, ?_, g5⟩
  rw [tot]
  rcases hr with rfl | rfl <;> rfl

/-! ### drawn texts -/
theorem str_lit : (Str.ofString "") = tx [] := by decide +kernel
theorem lit_text : (Str.ofString "0001AaBb_") = tx [48, 48, 48, 49, 65, 97, 66, 98, 95] := by decide +kernel
theorem lit_wild : (Str.ofString "00129AaBbZz__") = tx [48, 48, 49, 50, 57, 65, 97, 66, 98, 90, 122, 95, 95] := by decide +kernel
theorem lit_nil : (Str.ofString "0") = tx [48] := by decide +kernel
/-- the signs of drawn texts -/
def al (c : Nat) : Bool := decide (c ∈ [48, 49, 65, 66, 95, 97, 98])
abbrev GA (l : List Nat) : Prop := ∀ c ∈ l, good c = true ∧ al c = true
theorem GA.gl {l : List Nat} (h : GA l) : GL l := fun c hc => (h c hc).1
end K04

end
-- K04s
section
set_option Elab.async false
set_option linter.all false
set_option maxRecDepth 100000
set_option maxHeartbeats 2000000
namespace K04
open PySem PySem.Spec PyProof.Rows L2 Den
variable [TB : Tabl]
/-! ### a near text -/
theorem slO_tx {l : List Nat} (h : l.length ≤ 1000) (lo hi : Option Int) : slO (sd l) lo hi = some (.str (cutS (tx l) lo hi)) := by
  show (if (tx l).length ≤ 1000000 then some (PyData.str (cutS (tx l) lo hi)) else none) = _
  rw [if_pos (small h)]
theorem cut_one (l : List Nat) (k : Nat) : ∃ m, cutS (tx l) (some (k : Int)) (some ((k : Int) + 1)) = tx m ∧ (m = [] ∨ ∃ c ∈ l, m = [c]) := by
  refine ⟨((l.drop (min k l.length)).take (min (k + 1) l.length - min k l.length)), ?_, ?_⟩
  · unfold cutS
    rw [tx_cps, tx_len]
    have e : HT.sIx l.length l.length (some ((k : Int) + 1)) = min (k + 1) l.length := HT.sIx_nat l.length l.length (k + 1)
    rw [HT.sIx_nat, e]
    rfl
  · by_cases h : k < l.length
    · right
      refine ⟨l[k], List.getElem_mem h, ?_⟩
      rw [Nat.min_eq_left (by omega), Nat.min_eq_left (by omega), List.drop_eq_getElem_cons h]
      rw [show k + 1 - k = 1 by omega]
      rfl
    · left
      rw [Nat.min_eq_right (by omega), Nat.min_eq_right (by omega), Nat.sub_self]
      rfl
theorem upp_nil : ms0 (fun s => .bool (Txt.isupper s)) (sd []) = some (.bool false) := by kernel_rfl
theorem up_nil : ms0 (fun s => .str (Txt.upper s)) (sd []) = some (sd []) := by kernel_rfl
theorem al_lo {c : Nat} (h : al c = true) : al (loC c) = true := by
  unfold al at h
  have := of_decide_eq_true h
  simp at this
  rcases this with rfl | rfl | rfl | rfl | rfl | rfl | rfl <;> decide
theorem al_up {c : Nat} (h : al c = true) : al (upC c) = true := by
  unfold al at h
  have := of_decide_eq_true h
  simp at this
  rcases this with rfl | rfl | rfl | rfl | rfl | rfl | rfl <;> decide
theorem flip_ok {l : List Nat} (hl : GL l) {m : List Nat} (h : m = [] ∨ ∃ c ∈ l, m = [c]) : ∃ b v, ms0 (fun s => .bool (Txt.isupper s)) (sd m) = some (.bool b) ∧ (if b then ms0 (fun s => .str (Txt.lower s)) (sd m) else ms0 (fun s => .str (Txt.upper s)) (sd m)) = some (sd v) ∧ GL v ∧ v.length ≤ 1 ∧ ((∀ c ∈ l, al c = true) → ∀ c ∈ v, al c = true) := by
  rcases h with rfl | ⟨c, hc, rfl⟩
  · exact ⟨false, [], upp_nil, up_nil, fun _ h => absurd h (by simp), by simp, fun _ _ h => absurd h (by simp)⟩
  · have hg := hl c hc
    cases hb : cap c with
    | true => exact ⟨true, [loC c], by rw [upp_sd hg, hb], by rw [if_pos rfl, lo_sd hg], GL.one (good_lo hg), by simp, fun ha d hd => by rw [List.mem_singleton.mp hd]; exact al_lo (ha c hc)⟩
    | false => exact ⟨false, [upC c], by rw [upp_sd hg, hb], by rw [if_neg Bool.false_ne_true, up_sd hg], GL.one (good_up hg), by simp, fun ha d hd => by rw [List.mem_singleton.mp hd]; exact al_up (ha c hc)⟩
abbrev st4 (t : List Nat) (at_ w : Int) (s : Option AV) : Den.Env := [some .drw, some (.d (sd t)), some (.d (.int at_)), some (.d (.int w)), s]
theorem cut_hd (t : List Nat) (a : Int) (h : 0 ≤ a) : cutS (tx t) none (some a) = tx (t.take a.toNat) := by
  unfold cutS
  rw [tx_cps, tx_len, show a = ((a.toNat : Nat) : Int) by omega, HT.sIx_nat]
  show tx ((t.drop 0).take (min a.toNat t.length - 0)) = _
  rw [List.drop_zero, Nat.sub_zero, Int.toNat_natCast]
  congr 1
  rcases Nat.le_total a.toNat t.length with h | h
  · rw [Nat.min_eq_left h]
  · rw [Nat.min_eq_right h, List.take_length, List.take_of_length_le h]
theorem cut_tl (t : List Nat) (a : Int) (h : 0 ≤ a) : cutS (tx t) (some a) none = tx (t.drop a.toNat) := by
  unfold cutS
  rw [tx_cps, tx_len, show a = ((a.toNat : Nat) : Int) by omega, HT.sIx_nat]
  show tx ((t.drop (min a.toNat t.length)).take (t.length - min a.toNat t.length)) = _
  rw [Int.toNat_natCast]
  congr 1
  rcases Nat.le_total a.toNat t.length with h | h
  · rw [Nat.min_eq_left h, List.take_of_length_le (by rw [List.length_drop]; omega)]
  · rw [Nat.min_eq_right h, Nat.sub_self, List.take_zero, List.drop_of_length_le h]
theorem sl_a {t : List Nat} (ht : t.length ≤ 40) (hg : GL t) (at_ w : Int) (h0 : 0 ≤ at_) (s : Option AV) (D : Dw) : ∃ m, slD (varD 1) none (some (varD 2)) (st4 t at_ w s) D = some (sd m, D) ∧ (∀ c ∈ m, c ∈ t) ∧ m.length = min at_.toNat t.length := by
  exact ⟨t.take at_.toNat, by simp [slD, varD, partD, asI, slO_tx (by omega : t.length ≤ 1000), cut_hd t at_ h0], fun c hc => List.mem_of_mem_take hc, by rw [List.length_take]⟩
theorem sl_b {t : List Nat} (ht : t.length ≤ 40) (hg : GL t) (at_ w : Int) (h0 : 0 ≤ at_) (s : Option AV) (D : Dw) : ∃ m, slD (varD 1) (some (varD 2)) none (st4 t at_ w s) D = some (sd m, D) ∧ (∀ c ∈ m, c ∈ t) ∧ m.length = t.length - min at_.toNat t.length := by
  exact ⟨t.drop at_.toNat, by simp [slD, varD, partD, asI, slO_tx (by omega : t.length ≤ 1000), cut_tl t at_ h0], fun c hc => List.mem_of_mem_drop hc, by rw [List.length_drop]; omega⟩
theorem sl_c {t : List Nat} (ht : t.length ≤ 40) (hg : GL t) (at_ w : Int) (h0 : 0 ≤ at_) (s : Option AV) (D : Dw) : ∃ m, slD (varD 1) (some (binD addO (varD 2) (cD (.int 1)))) none (st4 t at_ w s) D = some (sd m, D) ∧ (∀ c ∈ m, c ∈ t) ∧ m.length ≤ t.length - min at_.toNat t.length := by
  exact ⟨t.drop (at_ + 1).toNat, by simp [slD, varD, partD, asI, binD, cD, addO_int, slO_tx (by omega : t.length ≤ 1000), cut_tl t (at_ + 1) (by omega)], fun c hc => List.mem_of_mem_drop hc, by rw [List.length_drop]; omega⟩
theorem sl_d {t : List Nat} (ht : t.length ≤ 40) (at_ : Nat) (w : Int) (s : Option AV) (D : Dw) : ∃ m, slD (varD 1) (some (varD 2)) (some (binD addO (varD 2) (cD (.int 1)))) (st4 t (at_ : Int) w s) D = some (sd m, D) ∧ (m = [] ∨ ∃ c ∈ t, m = [c]) := by
  obtain ⟨m, e, h⟩ := cut_one t at_
  exact ⟨m, by simp [slD, varD, partD, asI, binD, cD, addO_int, slO_tx (by omega : t.length ≤ 1000), e], h⟩
theorem bin_add {f g : FE} {ρ : Den.Env} {D D1 D2 : Dw} {a b : List Nat} (h1 : f ρ D = some (sd a, D1)) (h2 : g ρ D1 = some (sd b, D2)) (hl : a.length + b.length ≤ 1000) : binD addO f g ρ D = some (sd (a ++ b), D2) := by
  unfold binD
  rw [h1, Option.bind_some, h2, Option.bind_some, addO_sd hl]
  rfl
end K04

end
-- K04v
section
set_option Elab.async false
set_option linter.all false
set_option maxRecDepth 100000
set_option maxHeartbeats 2000000
namespace K04
open PySem PySem.Spec PyProof.Rows L2 Den
variable [TB : Tabl]
/-! ### equations of meanings -/
theorem join_nil : ∀ ps : List (List Nat), Txt.join (tx []) (ps.map tx) = tx ps.flatten := by
  intro ps
  have e : Txt.join (tx []) (ps.map tx) = Str.join (tx []) (ps.map tx) := PySem.StrLaws.glued_eq_join _ _
  rw [e]
  clear e
  induction ps with
  | nil => rfl
  | cons p ps ih =>
    cases ps with
    | nil => simp [Str.join]
    | cons q qs =>
      rw [List.map_cons] at ih ⊢
      rw [List.map_cons, Str.join]
      rw [ih, tx_add, tx_add]
      simp
      intro h; cases h
theorem strs_sd : ∀ ps : List (List Nat), strsD (ps.map sd) = some (ps.map tx)
  | [] => rfl
  | p :: ps => by rw [List.map_cons, strsD, strs_sd ps]; rfl
theorem sum_len : ∀ ps : List (List Nat), ((ps.map tx).map (·.length)).sum = ps.flatten.length
  | [] => rfl
  | p :: ps => by
    rw [List.map_cons, List.map_cons, List.sum_cons, sum_len ps, tx_len, List.flatten_cons, List.length_append]
theorem join_ok {f : FL} {ρ : Den.Env} {D D' : Dw} {ps : List (List Nat)} (h : f ρ D = some (ps.map sd, D')) (hl : ps.flatten.length ≤ 1000) : joinD (cD (.str "")) f ρ D = some (sd ps.flatten, D') := by
  unfold joinD cD
  rw [Option.bind_some, asS, Option.bind_some, h, Option.bind_some, strs_sd, Option.bind_some, str_lit, if_pos (by rw [sum_len]; show _ + _ * 0 ≤ _; omega), join_nil]
theorem shp_pieces {ps : List (List Nat)} (h : ∀ p ∈ ps, GL p) : Shp 1 (.list (ps.map sd)) := shp_list fun x hx => by
  obtain ⟨p, hp, rfl⟩ := List.mem_map.mp hx
  exact shp_sd (h p hp)
theorem ne_self {d : PyData} {n : Nat} (h : Shp n d) (hn : n ≤ 64) : neO d d = some (.bool false) := by
  unfold neO
  rw [h.ok hn, SeqAt.eqv_refl d h.can]
  rfl
theorem eq_self {d : PyData} {n : Nat} (h : Shp n d) (hn : n ≤ 64) : eqO d d = some (.bool true) := by
  unfold eqO
  rw [h.ok hn, SeqAt.eqv_refl d h.can]
  rfl
theorem t_ne {f g : FE} {ρ : Den.Env} {D D1 D2 : Dw} {a b : Int} (h1 : f ρ D = some (.int a, D1)) (h2 : g ρ D1 = some (.int b, D2)) : boolD (binD neO f g) ρ D = some (!decide (a = b), D2) := by
  unfold boolD binD
  rw [h1, Option.bind_some, h2, Option.bind_some, neO_int]
  rfl
theorem t_eq {f g : FE} {ρ : Den.Env} {D D1 D2 : Dw} {a b : Int} (h1 : f ρ D = some (.int a, D1)) (h2 : g ρ D1 = some (.int b, D2)) : boolD (binD eqO f g) ρ D = some (decide (a = b), D2) := by
  unfold boolD binD
  rw [h1, Option.bind_some, h2, Option.bind_some, eqO_int]
  rfl
theorem t_or {f g : FT} {ρ : Den.Env} {D D1 D2 : Dw} (h1 : f ρ D = some (false, D1)) {b : Bool} (h2 : g ρ D1 = some (b, D2)) : orT f g ρ D = some (b, D2) := by
  unfold orT
  rw [h1, Option.bind_some, if_neg Bool.false_ne_true, h2]
theorem if_no {t : FT} {g : FS} {ρ : Den.Env} {D D1 : Dw} (h : t ρ D = some (false, D1)) : ifS t g nxS ρ D = some (.nx ρ D1) := by
  unfold ifS
  rw [h, Option.bind_some, if_neg Bool.false_ne_true]
  rfl
theorem neg_c (k : Int) (ρ : Den.Env) (D : Dw) : unD negI (cD (.int k)) ρ D = some (.int (-k), D) := rfl
theorem neg_v {i : Nat} {k : Int} {ρ : Den.Env} {D : Dw} (h : ρ[i]? = some (some (.d (.int k)))) : unD negI (varD i) ρ D = some (.int (-k), D) := by
  unfold unD varD
  rw [h]
  rfl
theorem c_c (x : PyData) (ρ : Den.Env) (D : Dw) : cD x ρ D = some (x, D) := rfl
theorem bin_of {op : PyData → PyData → Option PyData} {f g : FE} {ρ : Den.Env} {D D1 D2 : Dw} {a b z : PyData} (h1 : f ρ D = some (a, D1)) (h2 : g ρ D1 = some (b, D2)) (h3 : op a b = some z) : binD op f g ρ D = some (z, D2) := by
  unfold binD
  rw [h1, Option.bind_some, h2, Option.bind_some, h3]
  rfl
theorem turn_data (r : Rl) (D : Dw) (ρ : Den.Env) (h : ρ[2]? = some (some (.d r.data))) : binD addO (slD (varD 2) none (some (cD (.int 4)))) (tupD (argD (binD subI (cD (.int 1)) (binD ixO (varD 2) (cD (.int 4)))) (argN))) ρ D = some (r.turn.data, D) := by
  have e1 : slD (varD 2) none (some (cD (.int 4))) ρ D = some (.tuple [.str r.c.w, .str r.f.w, .str (barW r.b), .str (endW r.e)], D) := by
    simp only [slD, varD, h, Option.bind_some, partD, cD, asI, Option.map_some]
    rfl
  have e2 : binD subI (cD (.int 1)) (binD ixO (varD 2) (cD (.int 4))) ρ D = some (.int (1 - if r.t then 1 else 0), D) := by
    simp only [binD, cD, Option.bind_some, varD, h, turn_ix, Option.map_some, subI]
  have e3 : tupD (argD (binD subI (cD (.int 1)) (binD ixO (varD 2) (cD (.int 4)))) (argN)) ρ D = some (.tuple [.int (1 - if r.t then 1 else 0)], D) := by
    simp [tupD, argD, e2, argN, allD]
  refine bin_of e1 e3 ?_
  obtain ⟨c, f, b, e, t⟩ := r
  cases t <;> rfl
end K04

end
-- K04w
section
set_option Elab.async false
set_option linter.all false
set_option maxRecDepth 100000
set_option maxHeartbeats 2000000
namespace K04
open PySem PySem.Spec PyProof.Rows L2 Den
variable [TB : Tabl]
/-! ### lists of texts -/
abbrev ld (xs : List (List Nat)) : PyData := .list (xs.map sd)
abbrev TL (xs : List (List Nat)) : Prop := ∀ l ∈ xs, GL l ∧ l.length ≤ 40
theorem TL.gl {xs : List (List Nat)} (h : TL xs) : ∀ l ∈ xs, GL l := fun l hl => (h l hl).1
theorem TL.at {xs : List (List Nat)} (h : TL xs) {i : Nat} {l : List Nat} (e : xs[i]? = some l) : GL l ∧ l.length ≤ 40 := h l (List.mem_of_getElem? e)
theorem shp_ld {xs : List (List Nat)} (h : ∀ l ∈ xs, GL l) : Shp 1 (ld xs) := shp_list fun x hx => by
  obtain ⟨p, hp, rfl⟩ := List.mem_map.mp hx
  exact shp_sd (h p hp)
theorem eqv_ld : ∀ xs ys : List (List Nat), PyData.eqv (ld xs) (ld ys) = decide (xs = ys)
  | [], [] => by
    show PyData.eqv (.list []) (.list []) = _
    rw [PyData.eqv, PyData.eqvAll]; rfl
  | [], y :: ys => by
    show PyData.eqv (.list []) (.list (_ :: _)) = _
    rw [PyData.eqv, PyData.eqvAll]; rfl
  | x :: xs, [] => by
    show PyData.eqv (.list (_ :: _)) (.list []) = _
    rw [PyData.eqv, PyData.eqvAll]; rfl
  | x :: xs, y :: ys => by
    have ih := eqv_ld xs ys
    unfold ld at ih
    rw [PyData.eqv] at ih
    unfold ld
    rw [List.map_cons, List.map_cons, PyData.eqv, PySem.W.eqv_all_cons, ih, eqv_str]
    by_cases h1 : x = y <;> by_cases h2 : xs = ys <;> simp [h1, h2]
theorem ld_eq {xs ys : List (List Nat)} (h : ∀ l ∈ xs, GL l) (h' : ∀ l ∈ ys, GL l) : eqO (ld xs) (ld ys) = some (.bool (decide (xs = ys))) := by
  unfold eqO
  rw [(shp_ld h).ok (by decide), (shp_ld h').ok (by decide), eqv_ld]
  rfl
theorem ld_ne {xs ys : List (List Nat)} (h : ∀ l ∈ xs, GL l) (h' : ∀ l ∈ ys, GL l) : neO (ld xs) (ld ys) = some (.bool (!decide (xs = ys))) := by
  unfold neO
  rw [(shp_ld h).ok (by decide), (shp_ld h').ok (by decide), eqv_ld]
  rfl
theorem depth_key (r : Rl) {l : List Nat} (h : GL l) : (keyD r l).depth ≤ 60 := Nat.le_trans (shp_key r h).dep (by decide)
theorem keys_ok (r : Rl) {xs : List (List Nat)} (h : ∀ l ∈ xs, GL l) : keysOk (xs.map (keyD r)) = true := by
  unfold keysOk
  simp only [Bool.and_eq_true, Bool.or_eq_true, List.all_eq_true, decide_eq_true_eq]
  refine ⟨⟨fun a ha b hb => ?_, .inr fun a ha => ?_⟩, fun a ha => ?_⟩
  · obtain ⟨l, _, rfl⟩ := List.mem_map.mp ha
    obtain ⟨m, _, rfl⟩ := List.mem_map.mp hb
    exact alike_key r l m
  · obtain ⟨l, _, rfl⟩ := List.mem_map.mp ha
    rfl
  · obtain ⟨l, hl, rfl⟩ := List.mem_map.mp ha
    exact depth_key r (h l hl)
def wr (r : Rl) (xs : List (List Nat)) (k : Nat) : Bool := decide (told r (xs.getD (k - 1) []) (xs.getD k []) = 1)
def idx (n : Nat) : List Nat := (List.range n).map (1 + ·)
def wrongs (r : Rl) (xs : List (List Nat)) : List Nat := (idx (xs.length - 1)).filter (wr r xs)
theorem rng_idx (n : Nat) : rngV 1 n = (idx n).map fun k => PyData.int (k : Nat) := by
  unfold rngV idx
  rw [List.map_map]
  refine List.map_congr_left fun i _ => ?_
  show PyData.int (1 + (i : Int)) = PyData.int ((1 + i : Nat) : Int)
  rw [Int.natCast_add]
  rfl
theorem mem_idx {n k : Nat} (h : k ∈ idx n) : 1 ≤ k ∧ k < n + 1 := by
  unfold idx at h
  obtain ⟨i, hi, rfl⟩ := List.mem_map.mp h
  have := List.mem_range.mp hi
  omega
def wrongD (ks : List Nat) : PyData := match ks with
  | [] => .none
  | k :: _ => .int (k : Nat)
end K04

end
-- K04x
section
set_option Elab.async false
set_option linter.all false
set_option maxRecDepth 100000
set_option maxHeartbeats 2000000
namespace K04
open PySem PySem.Spec PyProof.Rows L2 Den
variable [TB : Tabl]
/-! ### the law's own sorting -/
theorem lc_filter {α : Type} {i : Nat} {ft : FT} {ρ : Den.Env} {D : Dw} (f : α → PyData) {p : α → Bool} (hi : i < ρ.length) : ∀ {xs : List α}, (∀ x ∈ xs, ft (ρ.set i (some (.d (f x)))) D = some (p x, D)) → lcD i ft (varD i) ρ (xs.map f) D = some ((xs.filter p).map f, D)
  | [], _ => rfl
  | x :: xs, h => by
    have ih := lc_filter f hi (xs := xs) fun y hy => h y (List.mem_cons_of_mem _ hy)
    rw [List.map_cons, lcD, h x (List.mem_cons_self ..), Option.bind_some]
    cases hp : p x with
    | true =>
      have e : varD i (ρ.set i (some (.d (f x)))) D = some (f x, D) := by
        unfold varD
        rw [List.getElem?_set_self hi]
      rw [if_pos rfl, e, Option.bind_some, ih, List.filter_cons_of_pos hp]
      rfl
    | false => rw [if_neg Bool.false_ne_true, ih, List.filter_cons_of_neg (by rw [hp]; decide)]
theorem addO_list {a b : List PyData} (h : a.length + b.length ≤ 1000000) : addO (.list a) (.list b) = some (.list (a ++ b)) := by
  show (if a.length + b.length ≤ 1000000 then some (PyData.list (a ++ b)) else none) = _
  rw [if_pos h]
theorem lcF_list {i : Nat} {ft : FT} {fe : FE} {fi : FL} {ρ : Den.Env} {D D1 D2 : Dw} {xs ys : List PyData} (h : fi ρ D = some (xs, D1)) (hl : xs.length ≤ 1000000) (h2 : lcD i ft fe ρ xs D1 = some (ys, D2)) : lcF i fi ft fe ρ D = some (ys, D2) := by
  unfold lcF
  rw [h, Option.bind_some, if_pos hl]
  exact h2
theorem asg_of {i : Nat} {f : FE} {ρ : Den.Env} {D D1 : Dw} {x : PyData} (h : f ρ D = some (x, D1)) : asgS i f ρ D = some (.nx (ρ.set i (some (.d x))) D1) := by
  unfold asgS
  rw [h]; rfl
theorem lcS_of {i : Nat} {f : FL} {ρ : Den.Env} {D D1 : Dw} {x : List PyData} (h : f ρ D = some (x, D1)) : lcS i f ρ D = some (.nx (ρ.set i (some (.d (.list x)))) D1) := by
  unfold lcS
  rw [h]; rfl
theorem ltA_int (a b : Int) : ltA (.int a) (.int b) = some (.bool (decide (a < b))) := rfl
end K04

end
-- K04y
section
set_option Elab.async false
set_option linter.all false
set_option maxRecDepth 100000
set_option maxHeartbeats 2000000
namespace K04
open PySem PySem.Spec PyProof.Rows L2 Den
variable [TB : Tabl]
/-! ### places -/
def pl {α : Type} (p : α → Bool) : Nat → List α → List Nat
  | _, [] => []
  | k, x :: xs => if p x then k :: pl p (k + 1) xs else pl p (k + 1) xs
theorem pl_filter {α : Type} (p : α → Bool) (q : Nat → Bool) : ∀ (xs : List α) (k : Nat), (∀ (i : Nat) (x : α), xs[i]? = some x → q (k + i) = p x) → (List.range' k xs.length).filter q = pl p k xs
  | [], k, _ => rfl
  | x :: xs, k, h => by
    have h0 := h 0 x rfl
    have ih := pl_filter p q xs (k + 1) fun i y e => by
      rw [show k + 1 + i = k + (i + 1) by omega]
      exact h (i + 1) y (by simpa using e)
    rw [Nat.add_zero] at h0
    rw [List.length_cons, List.range'_succ, pl]
    cases hp : p x with
    | true => rw [if_pos rfl, List.filter_cons_of_pos (by rw [h0]; exact hp), ih]
    | false => rw [if_neg Bool.false_ne_true, List.filter_cons_of_neg (by rw [h0, hp]; exact Bool.false_ne_true), ih]
theorem pl_congr {α : Type} {p q : α → Bool} : ∀ (xs : List α) (k : Nat), (∀ x ∈ xs, p x = q x) → pl p k xs = pl q k xs
  | [], _, _ => rfl
  | x :: xs, k, h => by
    rw [pl, pl, h x (List.mem_cons_self ..), pl_congr xs (k + 1) fun y hy => h y (List.mem_cons_of_mem _ hy)]
theorem pl_mem {α : Type} {p : α → Bool} {xs : List α} {i : Nat} : i ∈ pl p 0 xs ↔ ∃ x, xs[i]? = some x ∧ p x = true := by
  rw [← pl_filter p (fun i => (xs[i]?.map p).getD false) xs 0 (fun i x e => by rw [Nat.zero_add, e]; rfl), List.mem_filter]
  constructor
  · rintro ⟨_, h⟩
    cases e : xs[i]? with
    | none => rw [e] at h; cases h
    | some x => rw [e] at h; exact ⟨x, rfl, h⟩
  · rintro ⟨x, e, h⟩
    have hl := (List.getElem?_eq_some_iff.mp e).1
    exact ⟨by rw [List.mem_range'_1]; omega, by rw [e]; exact h⟩
theorem pl_lt {α : Type} {p : α → Bool} {xs : List α} {i : Nat} (h : i ∈ pl p 0 xs) : i < xs.length := by
  obtain ⟨x, e, _⟩ := pl_mem.mp h
  exact (List.getElem?_eq_some_iff.mp e).1
theorem pl_len {α : Type} {p : α → Bool} : ∀ (xs : List α) (k : Nat), (pl p k xs).length ≤ xs.length
  | [], _ => Nat.le_refl _
  | x :: xs, k => by
    have := pl_len (p := p) xs (k + 1)
    rw [pl]
    split <;> simp <;> omega
theorem rng_range' (n : Nat) : rngV 0 n = (List.range' 0 n).map fun k => PyData.int (k : Nat) := by
  unfold rngV
  rw [List.range_eq_range']
  refine List.map_congr_left fun i _ => ?_
  rw [Int.zero_add]
abbrev nd (ks : List Nat) : PyData := .list (ks.map fun k => PyData.int (k : Nat))
theorem shp_nd (ks : List Nat) : Shp 1 (nd ks) := shp_list fun x hx => by
  obtain ⟨i, _, rfl⟩ := List.mem_map.mp hx
  exact shp_int
theorem eqv_nd : ∀ xs ys : List Nat, PyData.eqv (nd xs) (nd ys) = decide (xs = ys)
  | [], [] => by
    show PyData.eqv (.list []) (.list []) = _
    rw [PyData.eqv, PyData.eqvAll]; rfl
  | [], y :: ys => by
    show PyData.eqv (.list []) (.list (_ :: _)) = _
    rw [PyData.eqv, PyData.eqvAll]; rfl
  | x :: xs, [] => by
    show PyData.eqv (.list (_ :: _)) (.list []) = _
    rw [PyData.eqv, PyData.eqvAll]; rfl
  | x :: xs, y :: ys => by
    have ih := eqv_nd xs ys
    unfold nd at ih
    rw [PyData.eqv] at ih
    unfold nd
    rw [List.map_cons, List.map_cons, PyData.eqv, PySem.W.eqv_all_cons, ih, eqv_int]
    by_cases h1 : x = y <;> by_cases h2 : xs = ys <;> simp [h1, h2] <;> omega
theorem nd_eq (xs ys : List Nat) : eqO (nd xs) (nd ys) = some (.bool (decide (xs = ys))) := by
  unfold eqO
  rw [(shp_nd xs).ok (by decide), (shp_nd ys).ok (by decide), eqv_nd]
  rfl
theorem nd_ne (xs ys : List Nat) : neO (nd xs) (nd ys) = some (.bool (!decide (xs = ys))) := by
  unfold neO
  rw [(shp_nd xs).ok (by decide), (shp_nd ys).ok (by decide), eqv_nd]
  rfl
/-- the places of a comprehension over enumerate -/
theorem lcG_enum {α : Type} {i j : Nat} {ρ : Den.Env} {ft : FT} {D : Dw} (f : α → PyData) (p : α → Bool) (hij : i ≠ j) (hi : i < ρ.length) : ∀ (xs : List α) (k : Nat), (∀ x ∈ xs, ∀ k : Nat, ft ((ρ.set i (some (.d (.int (k : Nat))))).set j (some (.d (f x)))) D = some (p x, D)) →
    lcG (tupG 2 (consG (nameG i) (consG (nameG j) (nilG)))) ft (varD i) ρ (enumV k (xs.map f)) D = some ((pl p k xs).map fun k => PyData.int (k : Nat), D)
  | [], k, _ => rfl
  | x :: xs, k, h => by
    have ih := lcG_enum f p hij hi xs (k + 1) fun y hy => h y (List.mem_cons_of_mem _ hy)
    rw [List.map_cons, enumV, lcG]
    show Option.bind (some ((ρ.set i (some (.d (.int (k : Nat))))).set j (some (.d (f x))))) _ = _
    rw [Option.bind_some, h x (List.mem_cons_self ..) k, Option.bind_some, pl]
    cases hp : p x with
    | false =>
      rw [if_neg Bool.false_ne_true, if_neg Bool.false_ne_true]
      exact ih
    | true =>
      have e : varD i ((ρ.set i (some (.d (.int (k : Nat))))).set j (some (.d (f x)))) D = some (.int (k : Nat), D) := by
        unfold varD
        rw [List.getElem?_set_ne hij.symm, List.getElem?_set_self hi]
      rw [if_pos rfl, if_pos rfl, e, Option.bind_some, ih]
      rfl
theorem lcT_of {is : List Nat} {fi : FL} {fg : PyData → Den.Env → Option Den.Env} {ft : FT} {fe : FE} {ρ : Den.Env} {D D1 D2 : Dw} {xs ys : List PyData} (h : fi ρ D = some (xs, D1)) (hl : xs.length ≤ 1000000) (h2 : lcG fg ft fe (wipeE ρ is) xs D1 = some (ys, D2)) : lcT is fi fg ft fe ρ D = some (ys, D2) := by
  unfold lcT
  rw [h, Option.bind_some, if_pos hl]
  exact h2
theorem enum_of {f : FE} {ρ : Den.Env} {D D1 : Dw} {xs : List PyData} (h : f ρ D = some (.list xs, D1)) : enumI (lstD f) ρ D = some (enumV 0 xs, D1) := by
  unfold enumI lstD
  rw [h]
  rfl
/-! ### families, lists of lists -/
abbrev fd (rs : List Rl) : PyData := .list (rs.map Rl.data)
abbrev lld (LS : List (List (List Nat))) : PyData := .list (LS.map ld)
abbrev LL (LS : List (List (List Nat))) : Prop := ∀ xs ∈ LS, TL xs ∧ 1 ≤ xs.length ∧ xs.length ≤ 12
theorem loop_rules (v : PyData) (D : Dw) : ∀ (rs : List Rl) (o : Option AV), ∃ o', loopD (nameG 1) (dropS (callD phi_check_rule (argD (varD 1) (argN)))) (rs.map Rl.data) [some (.d v), o] D = some (.nx [some (.d v), o'] D)
  | [], o => ⟨o, rfl⟩
  | r :: rs, o => by
    obtain ⟨o', e⟩ := loop_rules v D rs (some (.d r.data))
    refine ⟨o', ?_⟩
    rw [List.map_cons, loopD, nameG, Option.bind_some]
    have e1 : dropS (callD phi_check_rule (argD (varD 1) (argN))) [some (.d v), some (.d r.data)] D = some (.nx [some (.d v), some (.d r.data)] D) := by
      simp [dropS, callD, argD, varD, argN, check_rule_ok]
    show Option.bind (dropS (callD phi_check_rule (argD (varD 1) (argN))) [some (.d v), some (.d r.data)] D) _ = _
    rw [e1, Option.bind_some]
    exact e
theorem check_family_ok {rs : List Rl} (h1 : 1 ≤ rs.length) (h2 : rs.length ≤ 8) (D : Dw) : phi_check_family [.d (fd rs)] D = some (.none, D) := by
  have hs : startA N_check_family [.d (fd rs)] = [some (.d (fd rs)), none] := rfl
  obtain ⟨o', e⟩ := loop_rules (fd rs) D rs none
  have c1 : (1 : Int) ≤ (rs.length : Nat) := by omega
  have c2 : ((rs.length : Nat) : Int) ≤ 8 := by omega
  have c3 : rs.length ≤ 1000000 := by omega
  have e1 : ifS (orT (notT (truD (isiD "list" (varD 0)))) (notT (boolD (chainD leI leI (cD (.int 1)) (biD lenO (argD (varD 0) (argN))) (cD (.int 8)))))) (noS) (nxS) [some (.d (fd rs)), none] D = some (.nx [some (.d (fd rs)), none] D) := by
    simp [ifS, orT, notT, truD, isiD, varD, isTy, tyName, truthD, boolD, chainD, cD, biD, argD, argN, allD, lenO, leI, asB, nxS, c1, c2, c3]
  have e2 : forS (lstD (varD 0)) (nameG 1) (dropS (callD phi_check_rule (argD (varD 1) (argN)))) [some (.d (fd rs)), none] D = some (.nx [some (.d (fd rs)), o'] D) := by
    unfold forS
    have : lstD (varD 0) [some (.d (fd rs)), none] D = some (rs.map Rl.data, D) := by simp [lstD, varD, asL]
    rw [this, Option.bind_some]
    exact e
  unfold phi_check_family g_check_family
  rw [hs, seq_nx e1, e2]
  rfl
def barO (r : Rl) : Nat → List (List (List Nat)) → Option (Nat × Nat)
  | _, [] => none
  | k, xs :: LS => match wrongs r xs with
    | [] => barO r (k + 1) LS
    | w :: _ => some (k, w)
def barD : Option (Nat × Nat) → PyData
  | none => .none
  | some (k, w) => .tuple [.int (k : Nat), .int (w : Nat)]
abbrev stF (r : Rl) (v : PyData) (a b c : Option AV) : Den.Env := [some (.d r.data), some (.d v), a, b, c]
theorem barD_none (o : Option (Nat × Nat)) : isO (barD o) .none = some (.bool o.isNone) := by
  cases o with
  | none => rfl
  | some z => rfl
end K04

end
-- K04u
section
set_option Elab.async false
set_option linter.all false
set_option maxRecDepth 100000
set_option maxHeartbeats 2000000
namespace K04
open PySem PySem.Spec PyProof.Rows L2 Den
variable [TB : Tabl]
/-! ### marks, as lists of signs -/
abbrev ML (l : List Nat) : Prop := ∀ c ∈ l, c < 128
theorem strOk_ml {l : List Nat} (h : ML l) : PyData.strOk (tx l) = true := by
  unfold PyData.strOk
  rw [arr_all, all_congr (g := fun _ => true) fun x hx => by
    have := h x hx
    exact decide_eq_true (by omega)]
  simp
theorem shp_ml {l : List Nat} (h : ML l) : Shp 0 (sd l) := shp_str (strOk_ml h)
theorem eqO_ml {a b : List Nat} (ha : ML a) (hb : ML b) : eqO (sd a) (sd b) = some (.bool (decide (a = b))) := by
  unfold eqO
  rw [(shp_ml ha).ok (by decide), (shp_ml hb).ok (by decide), eqv_str]
  rfl
theorem neO_ml {a b : List Nat} (ha : ML a) (hb : ML b) : neO (sd a) (sd b) = some (.bool (!decide (a = b))) := by
  unfold neO
  rw [(shp_ml ha).ok (by decide), (shp_ml hb).ok (by decide), eqv_str]
  rfl
/-- one sign in place of another -/
def rp (a b : Nat) (l : List Nat) : List Nat := l.map fun c => if c = a then b else c
theorem rp_len (a b : Nat) (l : List Nat) : (rp a b l).length = l.length := List.length_map ..
theorem rp_ml {a b : Nat} {l : List Nat} (hb : b < 128) (h : ML l) : ML (rp a b l) := fun c hc => by
  obtain ⟨d, hd, rfl⟩ := List.mem_map.mp hc
  have := h d hd
  show (if d = a then b else d) < 128
  split <;> omega
theorem repl_one (a b : Nat) : ∀ l : List Nat, PySem.StrLaws.replL [a] [b] l = rp a b l
  | [] => PySem.StrLaws.replL_nil
  | c :: r => by
    by_cases h : c = a
    · subst h
      rw [PySem.StrLaws.replL_hit (by simp) (by simp)]
      show [b] ++ PySem.StrLaws.replL [c] [b] r = _
      rw [repl_one c b r]
      simp [rp]
    · rw [PySem.StrLaws.replL_miss (by simp [h]), repl_one a b r]
      simp [rp, h]
theorem rep_tx (a b : Nat) (l : List Nat) : Txt.replace (tx l) (tx [a]) (tx [b]) = tx (rp a b l) := by
  have h := PySem.StrLaws.replace_list (x := tx l) (y := tx [a]) (z := tx [b]) (by rw [tx_len]; exact Nat.le_refl 1)
  rw [tx_cps, tx_cps, tx_cps, repl_one] at h
  rw [← tx_of (Txt.replace _ _ _), h]
theorem li_lt : (Str.ofString "<") = tx [60] := by decide +kernel
theorem li_gt : (Str.ofString ">") = tx [62] := by decide +kernel
theorem li_eq : (Str.ofString "=") = tx [61] := by decide +kernel
theorem li_b : (Str.ofString "b") = tx [98] := by decide +kernel
theorem li_B : (Str.ofString "B") = tx [66] := by decide +kernel
theorem li_e : (Str.ofString "e") = tx [101] := by decide +kernel
theorem li_E : (Str.ofString "E") = tx [69] := by decide +kernel
theorem repO_sd {l : List Nat} (a b : Nat) (h : l.length ≤ 1000) : repO (tx [a]) (tx [b]) (sd l) = some (sd (rp a b l)) := by
  show (if (tx l).length ≤ 1000 then some (PyData.str (Txt.replace (tx l) (tx [a]) (tx [b]))) else none) = _
  rw [tx_len, if_pos h, rep_tx]
def turnL (l : List Nat) : List Nat := rp 98 62 (rp 62 60 (rp 60 98 l))
theorem turned_round_ok {l : List Nat} (h : l.length ≤ 1000) (D : Dw) : phi_turned_round [.d (sd l)] D = some (sd (turnL l), D) := by
  have hs : startA N_turned_round [.d (sd l)] = [some (.d (sd l))] := rfl
  unfold phi_turned_round g_turned_round
  rw [hs, li_lt, li_gt, li_b]
  simp [retS, unD, varD, repO_sd 60 98 h, repO_sd 62 60 (l := rp 60 98 l) (by rw [rp_len]; exact h), repO_sd 98 62 (l := rp 62 60 (rp 60 98 l)) (by rw [rp_len, rp_len]; exact h), outD, turnL]
/-- the marks, with others where these are "=" -/
def bhL (ms os : List Nat) : List Nat := List.zipWith (fun m o => if m = 61 then o else m) ms os
theorem bh_len (ms os : List Nat) : (bhL ms os).length = min ms.length os.length := List.length_zipWith
theorem bh_ml : ∀ {ms os : List Nat}, ML ms → ML os → ML (bhL ms os)
  | [], _, _, _ => fun c hc => by simp [bhL] at hc
  | _ :: _, [], _, _ => fun c hc => by simp [bhL] at hc
  | m :: ms, o :: os, h, h' => fun c hc => by
    simp only [bhL, List.zipWith_cons_cons, List.mem_cons] at hc
    rcases hc with rfl | hc
    · split
      · exact h' o (List.mem_cons_self ..)
      · exact h m (List.mem_cons_self ..)
    · exact bh_ml (fun c hc => h c (List.mem_cons_of_mem _ hc)) (fun c hc => h' c (List.mem_cons_of_mem _ hc)) c hc
def sg1 (l : List Nat) : List PyData := l.map fun c => sd [c]
theorem ml_one {c : Nat} (h : c < 128) : ML [c] := fun d hd => by
  rw [List.mem_singleton.mp hd]; exact h
theorem bh_loop (x y : Option AV) (D : Dw) : ∀ ms os : List Nat, ML ms → ML os → lcG (tupG 2 (consG (nameG 2) (consG (nameG 3) (nilG)))) yesT (ifE (boolD (binD eqO (varD 2) (cD (.str "=")))) (varD 3) (varD 2)) [x, y, none, none] (zipV (sg1 ms) (sg1 os)) D = some (sg1 (bhL ms os), D)
  | [], _, _, _ => rfl
  | _ :: _, [], _, _ => rfl
  | m :: ms, o :: os, h, h' => by
    have ih := bh_loop x y D ms os (fun c hc => h c (List.mem_cons_of_mem _ hc)) (fun c hc => h' c (List.mem_cons_of_mem _ hc))
    have hm := h m (List.mem_cons_self ..)
    have e0 : eqO (sd [m]) (.str "=") = some (.bool (decide (m = 61))) := by
      have := eqO_ml (a := [m]) (b := [61]) (ml_one hm) (ml_one (by decide))
      rw [show (PyData.str (Str.ofString "=")) = sd [61] from congrArg PyData.str li_eq, this]
      simp
    have e1 : ifE (boolD (binD eqO (varD 2) (cD (.str "=")))) (varD 3) (varD 2) [x, y, some (.d (sd [m])), some (.d (sd [o]))] D = some (sd [if m = 61 then o else m], D) := by
      by_cases q : m = 61
      · subst q
        simp [ifE, boolD, binD, varD, cD, e0, asB]
      · simp [ifE, boolD, binD, varD, cD, e0, asB, q]
    show (lcG _ _ _ _ (.tuple [sd [m], sd [o]] :: zipV (sg1 ms) (sg1 os)) D) = _
    rw [lcG]
    show (ifE _ _ _ [x, y, some (.d (sd [m])), some (.d (sd [o]))] D).bind _ = _
    rw [e1, Option.bind_some, ih]
    rfl
theorem sg1_sgs (l : List Nat) : sgs (tx l) = sg1 l := signs_tx l
theorem sg1_map (l : List Nat) : sg1 l = (l.map fun c => [c]).map sd := by
  unfold sg1
  rw [List.map_map]
  rfl
theorem flat_one : ∀ l : List Nat, (l.map fun c => [c]).flatten = l
  | [] => rfl
  | c :: l => by rw [List.map_cons, List.flatten_cons, flat_one l]; rfl
theorem marks_behind_ok {ms os : List Nat} (h : ML ms) (h' : ML os) (hl : ms.length ≤ 1000) (D : Dw) : phi_marks_behind [.d (sd ms), .d (sd os)] D = some (sd (bhL ms os), D) := by
  have hs : startA N_marks_behind [.d (sd ms), .d (sd os)] = [some (.d (sd ms)), some (.d (sd os)), none, none] := rfl
  have e1 : zip2I (strI (varD 0)) (strI (varD 1)) [some (.d (sd ms)), some (.d (sd os)), none, none] D = some (zipV (sg1 ms) (sg1 os), D) := by
    simp [zip2I, strI, varD, asS, sg1_sgs]
  have hz : (zipV (sg1 ms) (sg1 os)).length ≤ 1000000 := by
    have : (sg1 ms).length = ms.length := List.length_map ..
    rw [zipV_len]; omega
  have e2 := lcT_of (is := [2, 3]) (fg := tupG 2 (consG (nameG 2) (consG (nameG 3) (nilG)))) (ft := yesT) (fe := ifE (boolD (binD eqO (varD 2) (cD (.str "=")))) (varD 3) (varD 2)) e1 hz (bh_loop (some (.d (sd ms))) (some (.d (sd os))) D ms os h h')
  rw [sg1_map] at e2
  have e3 := join_ok e2 (by rw [flat_one, bh_len]; omega)
  rw [flat_one] at e3
  unfold phi_marks_behind g_marks_behind
  rw [hs]
  simp [retS, e3, outD]
/-- two marks decided -/
def decL (a b : Nat) (c : Bool) (l : List Nat) : List Nat := if c then rp b 62 (rp a 60 l) else rp b 60 (rp a 62 l)
theorem dec_len (a b : Nat) (c : Bool) (l : List Nat) : (decL a b c l).length = l.length := by unfold decL; split <;> rw [rp_len, rp_len]
theorem dec_ml {a b : Nat} {c : Bool} {l : List Nat} (h : ML l) : ML (decL a b c l) := by
  unfold decL
  split <;> exact rp_ml (by decide) (rp_ml (by decide) h)
theorem dec_ok {a b : Nat} {c : Bool} {l : List Nat} {f fc : FE} {ρ : Den.Env} {D D1 D2 : Dw} (h1 : f ρ D = some (sd l, D1)) (h2 : fc ρ D1 = some (.bool c, D2)) (hl : l.length ≤ 1000) : decD (tx [a]) (tx [b]) (tx [60]) (tx [62]) f fc ρ D = some (sd (decL a b c l), D2) := by
  unfold decD
  rw [h1, Option.bind_some]
  show (some (tx l)).bind _ = _
  rw [Option.bind_some, h2, Option.bind_some]
  show (some c).bind _ = _
  rw [Option.bind_some, tx_len, if_pos hl]
  unfold decV decL
  cases c
  · rw [if_neg Bool.false_ne_true, if_neg Bool.false_ne_true, rep_tx, rep_tx]
  · rw [if_pos rfl, if_pos rfl, rep_tx, rep_tx]
def lookL : Bool → Cs → List Nat
  | false, .apart => [61, 101, 60, 60, 98, 60, 60, 60, 60, 101, 101, 60, 60, 60, 60, 60, 60, 98, 98, 60, 60, 60, 60, 98, 60, 60, 60, 60, 60, 60, 60, 98, 60, 60, 60, 60, 60, 60, 60, 60, 60, 60, 60, 60, 98, 98, 98, 98, 60, 60, 60, 60, 60, 60, 60, 60, 60, 98, 98, 60, 60, 98, 98, 98, 98, 60, 60, 60, 60, 98, 98, 98, 98, 98, 98]
  | false, .mixed => [61, 101, 60, 62, 98, 60, 60, 60, 60, 101, 101, 60, 60, 60, 60, 60, 60, 98, 98, 60, 60, 60, 60, 98, 60, 60, 60, 60, 60, 60, 60, 98, 60, 60, 60, 60, 60, 60, 60, 60, 60, 60, 60, 60, 98, 98, 98, 98, 60, 60, 60, 60, 60, 60, 60, 60, 60, 98, 98, 60, 60, 98, 98, 98, 98, 60, 60, 60, 60, 98, 98, 98, 98, 98, 98]
  | false, _ => [61, 101, 60, 62, 98, 61, 101, 69, 60, 101, 101, 62, 98, 66, 60, 60, 60, 98, 98, 60, 60, 60, 60, 98, 60, 62, 60, 101, 69, 101, 69, 98, 60, 60, 62, 62, 60, 60, 62, 60, 98, 66, 98, 66, 98, 98, 98, 98, 60, 60, 62, 62, 98, 66, 60, 60, 60, 98, 98, 98, 66, 98, 98, 98, 98, 98, 98, 66, 66, 98, 98, 98, 98, 98, 98]
  | true, .apart => [61, 101, 60, 60, 98, 60, 60, 60, 61, 60, 61, 60, 60, 60, 101, 69, 62, 60, 69, 62, 60, 98, 66, 61, 60, 60, 62, 60, 60, 60, 60, 101, 60, 60, 60, 60, 62, 62, 60, 60, 60, 60, 60, 60, 62, 62, 60, 66, 60, 60, 60, 60, 60, 60, 62, 62, 62, 60, 62, 60, 60, 60, 60, 62, 62, 60, 60, 60, 60, 60, 60, 60, 62, 62, 62]
  | true, .mixed => [61, 101, 60, 62, 98, 60, 60, 60, 61, 60, 61, 60, 60, 60, 101, 69, 62, 60, 69, 60, 62, 98, 66, 61, 60, 60, 62, 60, 60, 60, 60, 101, 60, 60, 60, 60, 62, 62, 60, 60, 60, 60, 60, 60, 62, 60, 62, 66, 60, 60, 60, 60, 60, 60, 62, 62, 62, 60, 62, 60, 60, 60, 60, 62, 62, 60, 60, 60, 60, 60, 60, 60, 62, 62, 62]
  | true, _ => [61, 101, 60, 62, 98, 61, 101, 69, 61, 60, 61, 62, 98, 66, 101, 69, 62, 60, 69, 60, 62, 98, 66, 61, 61, 61, 61, 60, 62, 61, 61, 101, 101, 69, 101, 69, 101, 69, 60, 62, 60, 62, 69, 101, 62, 60, 62, 66, 98, 66, 98, 66, 61, 61, 60, 98, 66, 61, 61, 101, 69, 101, 69, 101, 69, 62, 66, 60, 98, 62, 98, 66, 60, 98, 66]
def capL : List Nat := [61, 61, 61, 61, 61, 60, 61, 61, 61, 61, 61, 61, 61, 61, 61, 61, 61, 61, 61, 61, 61, 61, 61, 61, 60, 60, 62, 61, 61, 60, 60, 61, 61, 61, 61, 61, 61, 61, 61, 61, 61, 61, 61, 61, 61, 61, 61, 61, 61, 61, 61, 61, 60, 60, 61, 61, 61, 60, 62, 61, 61, 61, 61, 61, 61, 61, 61, 61, 61, 61, 61, 61, 61, 61, 61]
theorem li_cap : (Str.ofString "=====<==================<<>==<<=====================<<===<>================") = tx capL := by decide +kernel
theorem look_ml (w : Bool) (c : Cs) : ML (lookL w c) ∧ (lookL w c).length = 75 := by cases w <;> cases c <;> decide +kernel
theorem cap_ml : ML capL ∧ capL.length = 75 := by decide +kernel
def figW (w : Bool) : Str := if w then "numbers" else "signs"
theorem look_at (w : Bool) (c : Cs) (D : Dw) : ((keysL [.str (figW w), .str c.first.w]).bind fun ks => (atKey psT ks).bind fun v => (Den.strOf v.2).map fun z => (PyData.str z, D)) = some (sd (lookL w c.first), D) := by
  cases w <;> cases c <;> kernel_rfl
theorem tab_ok {w : Bool} {c : Cs} {f g : FE} {ρ : Den.Env} {D D1 D2 : Dw} (h1 : f ρ D = some (.str (figW w), D1)) (h2 : g ρ D1 = some (.str c.first.w, D2)) : tabD psT (tupD (argD f (argD g (argN)))) ρ D = some (sd (lookL w c.first), D2) := by
  have e : tupD (argD f (argD g (argN))) ρ D = some (.tuple [.str (figW w), .str c.first.w], D2) := by
    simp [tupD, argD, h1, h2, argN, allD]
  unfold tabD
  rw [e, Option.bind_some]
  exact look_at w c D2
/-- the marks of a rule -/
def mk1 (r : Rl) : List Nat := if r.f = .strict then bhL (lookL r.f.whole r.c.first) (lookL false r.c.first) else lookL r.f.whole r.c.first
def mk2 (r : Rl) : List Nat := if r.c = .last then bhL (mk1 r) capL else mk1 r
def mk3 (r : Rl) : List Nat := decL 101 69 r.e (decL 98 66 r.b (mk2 r))
def mkL (r : Rl) : List Nat := if r.t then turnL (mk3 r) else mk3 r
theorem mk1_ml (r : Rl) : ML (mk1 r) ∧ (mk1 r).length = 75 := by
  have h1 := look_ml r.f.whole r.c.first
  have h2 := look_ml false r.c.first
  unfold mk1
  split
  · exact ⟨bh_ml h1.1 h2.1, by rw [bh_len, h1.2, h2.2]; rfl⟩
  · exact h1
theorem mk2_ml (r : Rl) : ML (mk2 r) ∧ (mk2 r).length = 75 := by
  have h1 := mk1_ml r
  unfold mk2
  split
  · exact ⟨bh_ml h1.1 cap_ml.1, by rw [bh_len, h1.2, cap_ml.2]; rfl⟩
  · exact h1
theorem mk3_ml (r : Rl) : ML (mk3 r) ∧ (mk3 r).length = 75 := ⟨dec_ml (dec_ml (mk2_ml r).1), by unfold mk3; rw [dec_len, dec_len, (mk2_ml r).2]⟩
theorem turn_ml {l : List Nat} (h : ML l) : ML (turnL l) := rp_ml (by decide) (rp_ml (by decide) (rp_ml (by decide) h))
theorem turn_len (l : List Nat) : (turnL l).length = l.length := by unfold turnL; rw [rp_len, rp_len, rp_len]
theorem mkL_ml (r : Rl) : ML (mkL r) ∧ (mkL r).length = 75 := by
  unfold mkL
  split
  · exact ⟨turn_ml (mk3_ml r).1, by rw [turn_len, (mk3_ml r).2]⟩
  · exact mk3_ml r
theorem marks_of_ok (r : Rl) (D : Dw) : phi_marks_of [.d r.data] D = some (sd (mkL r), D) := by
  have hs : startA N_marks_of [.d r.data] = [some (.d r.data), none, none, none, none, none, none, none] := rfl
  have s1 : asgT (varD 0) (tupG 5 (consG (nameG 1) (consG (nameG 2) (consG (nameG 3) (consG (nameG 4) (consG (nameG 5) (nilG))))))) [some (.d r.data), none, none, none, none, none, none, none] D = some (.nx [some (.d r.data), some (.d (.str r.c.w)), some (.d (.str r.f.w)), some (.d (.str (barW r.b))), some (.d (.str (endW r.e))), some (.d (.int (if r.t then 1 else 0))), none, none] D) := rfl
  have s2 : asgS 6 (ifE (boolD (binD eqO (varD 1) (cD (.str "last")))) (cD (.str "together")) (varD 1)) [some (.d r.data), some (.d (.str r.c.w)), some (.d (.str r.f.w)), some (.d (.str (barW r.b))), some (.d (.str (endW r.e))), some (.d (.int (if r.t then 1 else 0))), none, none] D = some (.nx [some (.d r.data), some (.d (.str r.c.w)), some (.d (.str r.f.w)), some (.d (.str (barW r.b))), some (.d (.str (endW r.e))), some (.d (.int (if r.t then 1 else 0))), some (.d (.str r.c.first.w)), none] D) := by
    cases hc : r.c <;> (have e := cs_last r.c; rw [hc] at e; simp [asgS, ifE, boolD, binD, varD, cD, e, asB, Cs.first]) <;> rfl
  have s3 : asgS 7 (tabD psT (tupD (argD (ifE (boolD (binD eqO (varD 2) (cD (.str "signs")))) (cD (.str "signs")) (cD (.str "numbers"))) (argD (varD 6) (argN))))) [some (.d r.data), some (.d (.str r.c.w)), some (.d (.str r.f.w)), some (.d (.str (barW r.b))), some (.d (.str (endW r.e))), some (.d (.int (if r.t then 1 else 0))), some (.d (.str r.c.first.w)), none] D = some (.nx [some (.d r.data), some (.d (.str r.c.w)), some (.d (.str r.f.w)), some (.d (.str (barW r.b))), some (.d (.str (endW r.e))), some (.d (.int (if r.t then 1 else 0))), some (.d (.str r.c.first.w)), some (.d (sd (lookL r.f.whole r.c.first)))] D) := by
    unfold asgS
    rw [tab_ok (w := r.f.whole) (c := r.c) (D1 := D) (D2 := D) ?_ rfl]
    · rfl
    · cases hf : r.f <;> (have e := fg_signs r.f; rw [hf] at e; simp [ifE, boolD, binD, varD, cD, e, asB]) <;> rfl
  have s4 : ifS (boolD (binD eqO (varD 2) (cD (.str "strict")))) (asgS 7 (callD phi_marks_behind (argD (varD 7) (argD (tabD psT (tupD (argD (cD (.str "signs")) (argD (varD 6) (argN))))) (argN))))) (nxS) [some (.d r.data), some (.d (.str r.c.w)), some (.d (.str r.f.w)), some (.d (.str (barW r.b))), some (.d (.str (endW r.e))), some (.d (.int (if r.t then 1 else 0))), some (.d (.str r.c.first.w)), some (.d (sd (lookL r.f.whole r.c.first)))] D = some (.nx [some (.d r.data), some (.d (.str r.c.w)), some (.d (.str r.f.w)), some (.d (.str (barW r.b))), some (.d (.str (endW r.e))), some (.d (.int (if r.t then 1 else 0))), some (.d (.str r.c.first.w)), some (.d (sd (mk1 r)))] D) := by
    unfold mk1
    by_cases h : r.f = .strict
    · have e : tabD psT (tupD (argD (cD (.str "signs")) (argD (varD 6) (argN)))) [some (.d r.data), some (.d (.str r.c.w)), some (.d (.str r.f.w)), some (.d (.str (barW r.b))), some (.d (.str (endW r.e))), some (.d (.int (if r.t then 1 else 0))), some (.d (.str r.c.first.w)), some (.d (sd (lookL r.f.whole r.c.first)))] D = some (sd (lookL false r.c.first), D) := tab_ok (w := false) (c := r.c) (D1 := D) rfl rfl
      have e2 := marks_behind_ok (look_ml r.f.whole r.c.first).1 (look_ml false r.c.first).1 (by rw [(look_ml _ _).2]; decide) D
      have e3 := fg_strict r.f
      rw [h, decide_eq_true rfl] at e3
      simp only [h] at *
      simp [ifS, boolD, binD, varD, cD, e3, asB, asgS, callD, argD, argN, e, e2]
    · have e3 := fg_strict r.f
      rw [decide_eq_false h] at e3
      simp [ifS, boolD, binD, varD, cD, e3, asB, h, nxS]
  have s5 : ifS (boolD (binD eqO (varD 1) (cD (.str "last")))) (asgS 7 (callD phi_marks_behind (argD (varD 7) (argD (cD (.str "=====<==================<<>==<<=====================<<===<>================")) (argN))))) (nxS) [some (.d r.data), some (.d (.str r.c.w)), some (.d (.str r.f.w)), some (.d (.str (barW r.b))), some (.d (.str (endW r.e))), some (.d (.int (if r.t then 1 else 0))), some (.d (.str r.c.first.w)), some (.d (sd (mk1 r)))] D = some (.nx [some (.d r.data), some (.d (.str r.c.w)), some (.d (.str r.f.w)), some (.d (.str (barW r.b))), some (.d (.str (endW r.e))), some (.d (.int (if r.t then 1 else 0))), some (.d (.str r.c.first.w)), some (.d (sd (mk2 r)))] D) := by
    unfold mk2
    by_cases h : r.c = .last
    · have e2 := marks_behind_ok (mk1_ml r).1 cap_ml.1 (by rw [(mk1_ml r).2]; decide) D
      have e3 := cs_last r.c
      rw [h, decide_eq_true rfl] at e3
      rw [if_pos h, li_cap]
      simp only [h]
      simp [ifS, boolD, binD, varD, cD, e3, asB, asgS, callD, argD, argN, e2]
    · have e3 := cs_last r.c
      rw [decide_eq_false h] at e3
      rw [if_neg h]
      simp [ifS, boolD, binD, varD, cD, e3, asB, nxS]
  have s6 : asgS 7 (decD "e" "E" "<" ">" (decD "b" "B" "<" ">" (varD 7) (binD eqO (varD 3) (cD (.str "ahead")))) (binD eqO (varD 4) (cD (.str "first")))) [some (.d r.data), some (.d (.str r.c.w)), some (.d (.str r.f.w)), some (.d (.str (barW r.b))), some (.d (.str (endW r.e))), some (.d (.int (if r.t then 1 else 0))), some (.d (.str r.c.first.w)), some (.d (sd (mk2 r)))] D = some (.nx [some (.d r.data), some (.d (.str r.c.w)), some (.d (.str r.f.w)), some (.d (.str (barW r.b))), some (.d (.str (endW r.e))), some (.d (.int (if r.t then 1 else 0))), some (.d (.str r.c.first.w)), some (.d (sd (mk3 r)))] D) := by
    have a := bar_ahead r.b
    have b := end_first r.e
    have hl := (mk2_ml r).2
    unfold asgS
    rw [li_b, li_B, li_e, li_E, li_lt, li_gt]
    rw [dec_ok (D1 := D) (D2 := D) (c := r.e) (l := decL 98 66 r.b (mk2 r)) (dec_ok (D1 := D) (D2 := D) (c := r.b) (l := mk2 r) rfl ?_ (by omega)) ?_ (by rw [dec_len]; omega)]
    · rfl
    · simp [binD, varD, cD, a]
    · simp [binD, varD, cD, b]
  unfold phi_marks_of g_marks_of
  rw [hs, seq_nx s1, seq_nx s2, seq_nx s3, seq_nx s4, seq_nx s5, seq_nx s6]
  have hl := (mk3_ml r).2
  unfold mkL
  cases ht : r.t with
  | true =>
    rw [if_pos rfl, if_pos rfl]
    simp [retS, ifE, boolD, binD, varD, cD, eqO_int, asB, callD, argD, argN, turned_round_ok (l := mk3 r) (by omega), outD]
  | false =>
    rw [if_neg Bool.false_ne_true, if_neg Bool.false_ne_true]
    simp [retS, ifE, boolD, binD, varD, cD, eqO_int, asB, outD]
end K04

end
-- K04i
section
set_option Elab.async false
set_option linter.all false
set_option maxRecDepth 100000
set_option maxHeartbeats 2000000
namespace K04
open PySem PySem.Spec PyProof.Rows L2 Den
variable [TB : Tabl]
/-! ### all rules, one by one -/
def allR : List Rl := [Cs.apart, .mixed, .together, .last].flatMap fun c => [Fg.signs, .numbers, .strict].flatMap fun f => [true, false].flatMap fun b => [true, false].flatMap fun e => [true, false].map fun t => ⟨c, f, b, e, t⟩
theorem mem_allR (r : Rl) : r ∈ allR := by
  obtain ⟨c, f, b, e, t⟩ := r
  cases c <;> cases f <;> cases b <;> cases e <;> cases t <;> decide
theorem for_all {p : Rl → Bool} (h : allR.all p = true) (r : Rl) : p r = true := List.all_eq_true.mp h r (mem_allR r)
/-! ### comparing, in a form that can be worked out -/
def rcN : List Int → List Int → Int
  | [], [] => 0
  | [], _ :: _ => -1
  | _ :: _, [] => 1
  | a :: l, b :: m => orC (icmp a b) (rcN l m)
theorem rcN_eq : ∀ a b : List Int, rcmp a b = rcN a b
  | [], [] => rcmp_nil
  | [], _ :: _ => dcmp_nil_cons ..
  | _ :: _, [] => dcmp_cons_nil ..
  | a :: l, b :: m => by rw [rcmp_cons, rcN_eq l m]; rfl
theorem rcN_zero : ∀ {a b : List Int}, rcN a b = 0 → a = b
  | [], [], _ => rfl
  | [], _ :: _, h => by cases h
  | _ :: _, [], h => by cases h
  | a :: l, b :: m, h => by
    obtain ⟨h1, h2⟩ := orC_eq0 (show orC (icmp a b) (rcN l m) = 0 from h)
    rw [icmp_eq0 h1, rcN_zero h2]
def onN (cs : Cs) (b e : Bool) : List (List Nat) → List (List Nat) → Int
  | [], [] => 0
  | [], _ :: _ => if e then -1 else 1
  | _ :: _, [] => if e then 1 else -1
  | p :: ps, q :: qs => orC (rcN (lrank cs b p) (lrank cs b q)) (onN cs b e ps qs)
theorem onN_eq (cs : Cs) (b e : Bool) : ∀ ps qs, onceC cs b e ps qs = onN cs b e ps qs
  | [], [] => rfl
  | [], _ :: _ => rfl
  | _ :: _, [] => rfl
  | p :: ps, q :: qs => by unfold onceC onN; rw [rcN_eq, onN_eq cs b e ps qs]
def toldN (r : Rl) (l m : List Nat) : Int := orC (onN r.c.first r.b r.e (pieces r.f.whole l) (pieces r.f.whole m))
  (orC (if r.f = .strict then onN r.c.first r.b r.e (pieces false l) (pieces false m) else 0) (if r.c = .last then onN .mixed r.b r.e (pieces r.f.whole l) (pieces r.f.whole m) else 0))
theorem toldN_eq (r : Rl) (l m : List Nat) : told0 r l m = toldN r l m := by
  unfold told0 toldN
  simp only [onN_eq]
theorem told_zero (r : Rl) (l m : List Nat) : told r l m = 0 ↔ told0 r l m = 0 := by
  unfold told
  split <;> omega
/-! ### a rule that parts all -/
def invR : Cs → List Int → Nat
  | .apart, [_, x, y] => if x = 0 then y.toNat else y.toNat + 32
  | _, [_, x, y] => if y = 0 then x.toNat else x.toNat + 32
  | _, [_, n] => 48 + n.toNat
  | _, _ => 95
theorem inv_ok (cs : Cs) (h : cs = .apart ∨ cs = .mixed) (b : Bool) : ∀ c : Nat, c < 128 → good c = true → invR cs (lrank cs b [c]) = c := by
  rcases h with rfl | rfl <;> cases b <;> decide +kernel
theorem inj_signs (cs : Cs) (h : cs = .apart ∨ cs = .mixed) (b e : Bool) : ∀ {l m : List Nat}, GL l → GL m → onceC cs b e (pieces false l) (pieces false m) = 0 → l = m
  | [], [], _, _, _ => rfl
  | [], _ :: _, _, _, z => by cases e <;> cases z
  | _ :: _, [], _, _, z => by cases e <;> cases z
  | c :: l, d :: m, hl, hm, z => by
    have z : orC (rcmp (lrank cs b [c]) (lrank cs b [d])) (onceC cs b e (pieces false l) (pieces false m)) = 0 := z
    obtain ⟨z1, z2⟩ := orC_eq0 z
    rw [rcN_eq] at z1
    have k := rcN_zero z1
    have hc := hl c (List.mem_cons_self ..)
    have hd := hm d (List.mem_cons_self ..)
    have e1 := inv_ok cs h b c (good_lt hc) hc
    have e2 := inv_ok cs h b d (good_lt hd) hd
    rw [k, e2] at e1
    rw [e1, inj_signs cs h b e (fun x hx => hl x (List.mem_cons_of_mem _ hx)) (fun x hx => hm x (List.mem_cons_of_mem _ hx)) z2]
/-- where the marks tell a tie -/
def plc (r : Rl) : Int := if r.c = .together then 5 else if r.f = .numbers then 8 else -1
theorem parts_inj (r : Rl) (hp : plc r = -1) {l m : List Nat} (hl : GL l) (hm : GL m) (h : told r l m = 0) : l = m := by
  have h := (told_zero r l m).mp h
  unfold told0 at h
  obtain ⟨h1, h2⟩ := orC_eq0 h
  obtain ⟨h3, h4⟩ := orC_eq0 h2
  obtain ⟨c, f, b, e, t⟩ := r
  have o1 := pieces_ok (whole := true) hl
  have o2 := pieces_ok (whole := true) hm
  have o3 := pieces_ok (whole := false) hl
  have o4 := pieces_ok (whole := false) hm
  cases f with
  | numbers => cases c <;> cases hp
  | signs =>
    cases c with
    | apart => exact inj_signs .apart (.inl rfl) b e hl hm h1
    | mixed => exact inj_signs .mixed (.inr rfl) b e hl hm h1
    | together => cases hp
    | last => exact inj_signs .mixed (.inr rfl) b e hl hm h4
  | strict =>
    cases c with
    | apart => exact inj_signs .apart (.inl rfl) b e hl hm h3
    | mixed => exact inj_signs .mixed (.inr rfl) b e hl hm h3
    | together => cases hp
    | last =>
      have a1 := let_look b e _ _ o1.ok o2.ok h1
      have a2 := let_look b e _ _ o3.ok o4.ok h3
      rw [o1.fl, o2.fl] at a1
      rw [o3.fl, o4.fl] at a2
      refine inj_signs .mixed (.inr rfl) b e hl hm ?_
      rw [← a2, a1]
      exact h4
theorem loop_step {tf : PyData → Den.Env → Option Den.Env} {gb : FS} {x : PyData} {xs : List PyData} {ρ ρ1 ρ2 : Den.Env} {D D2 : Dw} (h1 : tf x ρ = some ρ1) (h2 : gb ρ1 D = some (.nx ρ2 D2)) : loopD tf gb (x :: xs) ρ D = loopD tf gb xs ρ2 D2 := by
  rw [loopD, h1, Option.bind_some, h2]
  rfl
theorem c1_of {φ : Fn} {f : FE} {ρ : Den.Env} {D D1 : Dw} {x : PyData} (h : f ρ D = some (x, D1)) : callD φ (argD f (argN)) ρ D = φ [.d x] D1 := by
  simp [callD, argD, h, argN]
theorem c2_of {φ : Fn} {f g : FE} {ρ : Den.Env} {D D1 D2 : Dw} {x y : PyData} (h : f ρ D = some (x, D1)) (h2 : g ρ D1 = some (y, D2)) : callD φ (argD f (argD g (argN))) ρ D = φ [.d x, .d y] D2 := by
  simp [callD, argD, h, h2, argN]
theorem for_of {fi : FL} {tf : PyData → Den.Env → Option Den.Env} {gb : FS} {ρ : Den.Env} {D D1 : Dw} {xs : List PyData} (h : fi ρ D = some (xs, D1)) : forS fi tf gb ρ D = loopD tf gb xs ρ D1 := by
  unfold forS
  rw [h]
  rfl
/-! ### texts and pairs -/
def sgnL : List Nat := [48, 49, 65, 66, 95, 97, 98]
def txs : Nat → List (List Nat)
  | 0 => [[]]
  | n + 1 => (txs n).flatMap fun t => sgnL.map fun c => t ++ [c]
def prs (k : Nat) : List (List Nat × List Nat) := (List.range (k + 1)).flatMap fun f => (txs f).flatMap fun a => (txs (k - f)).map fun b => (a, b)
abbrev pD (p : List Nat × List Nat) : PyData := .tuple [sd p.1, sd p.2]
theorem prs0 (D : Dw) : phi__law_pairs [.d (.int 0)] D = some (.list ((prs 0).map pD), D) := by kernel_rfl
theorem prs1 (D : Dw) : phi__law_pairs [.d (.int 1)] D = some (.list ((prs 1).map pD), D) := by kernel_rfl
theorem prs2 (D : Dw) : phi__law_pairs [.d (.int 2)] D = some (.list ((prs 2).map pD), D) := by kernel_rfl
/-! ### ties of two rules -/
theorem marks_of_two_ok (r r' : Rl) (D : Dw) : phi_marks_of_two [.d r.data, .d r'.data] D = some (.tuple [sd (mkL r), sd (mkL r')], D) := by
  have hs : startA N_marks_of_two [.d r.data, .d r'.data] = [some (.d r.data), some (.d r'.data)] := rfl
  unfold phi_marks_of_two g_marks_of_two
  rw [hs]
  simp [seqS, dropS, callD, argD, varD, argN, check_rule_ok, thenO, retS, tupD, marks_of_ok, allD, outD]
/-! ### marks tell rules apart -/
theorem mk_turn (r : Rl) : mkL r.turn = turnL (mkL r) := of_decide_eq_true (for_all (p := fun r => decide (mkL r.turn = turnL (mkL r))) (by decide +kernel) r)
theorem mk_inj {r r' : Rl} (h : mkL r = mkL r') : r = r' := by
  have z := for_all (for_all (p := fun r => allR.all fun r' => !decide (mkL r = mkL r') || decide (r = r')) (by decide +kernel) r) r'
  rcases Bool.or_eq_true_iff.mp z with z | z
  · rw [h, decide_eq_true rfl] at z; cases z
  · exact of_decide_eq_true z
theorem mk_eq (r r' : Rl) : decide (mkL r = mkL r') = decide (r = r') := by
  by_cases h : r = r'
  · rw [h]; simp
  · rw [decide_eq_false h, decide_eq_false fun z => h (mk_inj z)]
theorem same_ok (r r' : Rl) (D : Dw) : phi_same [.d r.data, .d r'.data] D = some (.bool (decide (r = r')), D) := by
  have hs : startA N_same [.d r.data, .d r'.data] = [some (.d r.data), some (.d r'.data), none, none] := rfl
  have s1 : asgT (callD phi_marks_of_two (argD (varD 0) (argD (varD 1) (argN)))) (tupG 2 (consG (nameG 2) (consG (nameG 3) (nilG)))) [some (.d r.data), some (.d r'.data), none, none] D = some (.nx [some (.d r.data), some (.d r'.data), some (.d (sd (mkL r))), some (.d (sd (mkL r')))] D) := by
    unfold asgT
    rw [c2_of rfl rfl, marks_of_two_ok]
    rfl
  unfold phi_same g_same
  rw [hs, seq_nx s1]
  simp [retS, binD, varD, eqO_ml (mkL_ml r).1 (mkL_ml r').1, outD, mk_eq]
end K04

end
-- K04j
section
set_option Elab.async false
set_option linter.all false
set_option maxRecDepth 100000
set_option maxHeartbeats 2000000
namespace K04
open PySem PySem.Spec PyProof.Rows L2 Den
variable [TB : Tabl]
end K04

end
-- K04p
section
set_option Elab.async false
set_option linter.all false
set_option maxRecDepth 100000
set_option maxHeartbeats 2000000
namespace K04
open PySem PySem.Spec PyProof.Rows L2 Den
variable [TB : Tabl]
/-! ### the pairs that tell rules apart -/
abbrev Pr : Type := List Nat × List Nat
def psL : List Pr := [([], []), ([], [65]), ([65], [66]), ([66], [97]), ([95], [65]), ([65], [97]), ([65], [97, 65]), ([65, 65], [97]), ([48, 49], [49]), ([48], [48, 49]), ([48], [48, 48]), ([65, 66], [97, 65]), ([65, 95], [97, 65]), ([65, 65], [97, 95]), ([48, 49], [49, 65]), ([48, 49, 65], [49]), ([48, 49, 48], [49]), ([48, 95], [48, 49]), ([48, 95], [48, 48]), ([48, 49, 97], [49, 66]), ([48, 49, 66], [49, 97]), ([48, 49, 95], [49, 65]), ([48, 49, 65], [49, 95]), ([48, 95], [48, 48, 95]), ([65, 48, 49], [97, 49]), ([65, 49], [97, 48, 49]), ([48, 49, 97], [49, 65]), ([65, 48], [97, 48, 49]), ([65, 48, 49], [97, 48]), ([65, 48], [97, 48, 48]), ([65, 48, 48], [97, 48]), ([48, 95], [48, 48, 95, 65]), ([65, 48, 49], [97, 49, 65]), ([65, 48, 49, 65], [97, 49]), ([65, 49], [97, 48, 49, 65]), ([65, 49, 65], [97, 48, 49]), ([48, 49, 97], [49, 65, 65]), ([48, 49, 97, 65], [49, 65]), ([65, 49], [97, 48, 49, 48]), ([65, 48, 49, 48], [97, 49]), ([65, 48, 95], [97, 48, 49]), ([65, 48, 49], [97, 48, 95]), ([65, 48, 95], [97, 48, 48]), ([65, 48, 48], [97, 48, 95]), ([48, 95, 66], [48, 48, 95, 65]), ([48, 95, 97], [48, 48, 95, 66]), ([48, 95, 66], [48, 48, 95, 97]), ([48, 95, 65], [48, 48, 95, 95]), ([65, 48, 49, 95], [97, 49, 65]), ([65, 48, 49, 65], [97, 49, 95]), ([65, 49, 95], [97, 48, 49, 65]), ([65, 49, 65], [97, 48, 49, 95]), ([65, 48, 95], [97, 48, 48, 95]), ([65, 48, 48, 95], [97, 48, 95]), ([48, 49, 97, 65], [49, 65, 66]), ([48, 49, 97, 95], [49, 65, 65]), ([48, 49, 97, 65], [49, 65, 95]), ([48, 95, 65], [48, 48, 95, 97]), ([48, 95, 97], [48, 48, 95, 65]), ([65, 48, 95], [97, 48, 48, 95, 65]), ([65, 48, 48, 95, 65], [97, 48, 95]), ([48, 95, 65], [48, 48, 95, 97, 65]), ([48, 95, 65, 65], [48, 48, 95, 97]), ([48, 95, 97], [48, 48, 95, 65, 65]), ([48, 95, 97, 65], [48, 48, 95, 65]), ([65, 48, 95, 66], [97, 48, 48, 95, 65]), ([65, 48, 95, 65], [97, 48, 48, 95, 95]), ([65, 48, 48, 95, 65], [97, 48, 95, 66]), ([65, 48, 48, 95, 95], [97, 48, 95, 65]), ([48, 95, 65, 66], [48, 48, 95, 97, 65]), ([48, 95, 65, 95], [48, 48, 95, 97, 65]), ([48, 95, 65, 65], [48, 48, 95, 97, 95]), ([48, 95, 97, 65], [48, 48, 95, 65, 66]), ([48, 95, 97, 95], [48, 48, 95, 65, 65]), ([48, 95, 97, 65], [48, 48, 95, 65, 95])]
abbrev sg (p : Pr) : Nat := p.1.length + p.2.length
theorem li_pairs : ((.tuple [(.tuple [(.str ""), (.str "")]), (.tuple [(.str ""), (.str "A")]), (.tuple [(.str "A"), (.str "B")]), (.tuple [(.str "B"), (.str "a")]), (.tuple [(.str "_"), (.str "A")]), (.tuple [(.str "A"), (.str "a")]), (.tuple [(.str "A"), (.str "aA")]), (.tuple [(.str "AA"), (.str "a")]), (.tuple [(.str "01"), (.str "1")]), (.tuple [(.str "0"), (.str "01")]), (.tuple [(.str "0"), (.str "00")]), (.tuple [(.str "AB"), (.str "aA")]), (.tuple [(.str "A_"), (.str "aA")]), (.tuple [(.str "AA"), (.str "a_")]), (.tuple [(.str "01"), (.str "1A")]), (.tuple [(.str "01A"), (.str "1")]), (.tuple [(.str "010"), (.str "1")]), (.tuple [(.str "0_"), (.str "01")]), (.tuple [(.str "0_"), (.str "00")]), (.tuple [(.str "01a"), (.str "1B")]), (.tuple [(.str "01B"), (.str "1a")]), (.tuple [(.str "01_"), (.str "1A")]), (.tuple [(.str "01A"), (.str "1_")]), (.tuple [(.str "0_"), (.str "00_")]), (.tuple [(.str "A01"), (.str "a1")]), (.tuple [(.str "A1"), (.str "a01")]), (.tuple [(.str "01a"), (.str "1A")]), (.tuple [(.str "A0"), (.str "a01")]), (.tuple [(.str "A01"), (.str "a0")]), (.tuple [(.str "A0"), (.str "a00")]), (.tuple [(.str "A00"), (.str "a0")]), (.tuple [(.str "0_"), (.str "00_A")]), (.tuple [(.str "A01"), (.str "a1A")]), (.tuple [(.str "A01A"), (.str "a1")]), (.tuple [(.str "A1"), (.str "a01A")]), (.tuple [(.str "A1A"), (.str "a01")]), (.tuple [(.str "01a"), (.str "1AA")]), (.tuple [(.str "01aA"), (.str "1A")]), (.tuple [(.str "A1"), (.str "a010")]), (.tuple [(.str "A010"), (.str "a1")]), (.tuple [(.str "A0_"), (.str "a01")]), (.tuple [(.str "A01"), (.str "a0_")]), (.tuple [(.str "A0_"), (.str "a00")]), (.tuple [(.str "A00"), (.str "a0_")]), (.tuple [(.str "0_B"), (.str "00_A")]), (.tuple [(.str "0_a"), (.str "00_B")]), (.tuple [(.str "0_B"), (.str "00_a")]), (.tuple [(.str "0_A"), (.str "00__")]), (.tuple [(.str "A01_"), (.str "a1A")]), (.tuple [(.str "A01A"), (.str "a1_")]), (.tuple [(.str "A1_"), (.str "a01A")]), (.tuple [(.str "A1A"), (.str "a01_")]), (.tuple [(.str "A0_"), (.str "a00_")]), (.tuple [(.str "A00_"), (.str "a0_")]), (.tuple [(.str "01aA"), (.str "1AB")]), (.tuple [(.str "01a_"), (.str "1AA")]), (.tuple [(.str "01aA"), (.str "1A_")]), (.tuple [(.str "0_A"), (.str "00_a")]), (.tuple [(.str "0_a"), (.str "00_A")]), (.tuple [(.str "A0_"), (.str "a00_A")]), (.tuple [(.str "A00_A"), (.str "a0_")]), (.tuple [(.str "0_A"), (.str "00_aA")]), (.tuple [(.str "0_AA"), (.str "00_a")]), (.tuple [(.str "0_a"), (.str "00_AA")]), (.tuple [(.str "0_aA"), (.str "00_A")]), (.tuple [(.str "A0_B"), (.str "a00_A")]), (.tuple [(.str "A0_A"), (.str "a00__")]), (.tuple [(.str "A00_A"), (.str "a0_B")]), (.tuple [(.str "A00__"), (.str "a0_A")]), (.tuple [(.str "0_AB"), (.str "00_aA")]), (.tuple [(.str "0_A_"), (.str "00_aA")]), (.tuple [(.str "0_AA"), (.str "00_a_")]), (.tuple [(.str "0_aA"), (.str "00_AB")]), (.tuple [(.str "0_a_"), (.str "00_AA")]), (.tuple [(.str "0_aA"), (.str "00_A_")])]) : PyData) = .tuple (psL.map pD) := by kernel_rfl
def cdI (x : Int) : Nat := if x < 0 then 60 else if x = 0 then 61 else 62
def tnC (c : Nat) : Nat := if c = 60 then 62 else if c = 62 then 60 else c
def cd (r : Rl) (p : Pr) : Nat := cdI (told r p.1 p.2)
def cdN (r : Rl) (p : Pr) : Nat := cdI (if r.t then -(toldN r p.1 p.2) else toldN r p.1 p.2)
theorem cd_N (r : Rl) (p : Pr) : cd r p = cdN r p := by
  unfold cd cdN told
  rw [toldN_eq]
theorem cdI_neg (x : Int) : cdI (-x) = tnC (cdI x) := by
  unfold cdI
  by_cases h : x < 0
  · rw [if_pos h, if_neg (by omega), if_neg (by omega)]; rfl
  · by_cases h2 : x = 0
    · subst h2; rfl
    · rw [if_neg h, if_neg h2, if_pos (by omega)]; rfl
theorem cdI_inj {x y : Int} (hx : x = -1 ∨ x = 0 ∨ x = 1) (hy : y = -1 ∨ y = 0 ∨ y = 1) (h : cdI x = cdI y) : x = y := by
  rcases hx with rfl | rfl | rfl <;> rcases hy with rfl | rfl | rfl <;> first | rfl | (exact absurd h (by decide))
def bet : List (Bool × Bool × Bool) := [true, false].flatMap fun b => [true, false].flatMap fun e => [true, false].map fun t => (b, e, t)
theorem mem_bet (b e t : Bool) : (b, e, t) ∈ bet := by cases b <;> cases e <;> cases t <;> decide
def be2 : List (Bool × Bool) := [(true, true), (true, false), (false, true), (false, false)]
theorem mem_be2 (b e : Bool) : (b, e) ∈ be2 := by cases b <;> cases e <;> decide
def okM (c : Cs) (f : Fg) : Bool := bet.all fun x => decide (mkL ⟨c, f, x.1, x.2.1, x.2.2⟩ = psL.map (cdN ⟨c, f, x.1, x.2.1, x.2.2⟩))
theorem okM_apart_signs : okM .apart .signs = true := by decide +kernel
theorem okM_apart_numbers : okM .apart .numbers = true := by decide +kernel
theorem okM_apart_strict : okM .apart .strict = true := by decide +kernel
theorem okM_mixed_signs : okM .mixed .signs = true := by decide +kernel
theorem okM_mixed_numbers : okM .mixed .numbers = true := by decide +kernel
theorem okM_mixed_strict : okM .mixed .strict = true := by decide +kernel
theorem okM_together_signs : okM .together .signs = true := by decide +kernel
theorem okM_together_numbers : okM .together .numbers = true := by decide +kernel
theorem okM_together_strict : okM .together .strict = true := by decide +kernel
theorem okM_last_signs : okM .last .signs = true := by decide +kernel
theorem okM_last_numbers : okM .last .numbers = true := by decide +kernel
theorem okM_last_strict : okM .last .strict = true := by decide +kernel
theorem okM_all (c : Cs) (f : Fg) : okM c f = true := by
  cases c <;> cases f
  · exact okM_apart_signs
  · exact okM_apart_numbers
  · exact okM_apart_strict
  · exact okM_mixed_signs
  · exact okM_mixed_numbers
  · exact okM_mixed_strict
  · exact okM_together_signs
  · exact okM_together_numbers
  · exact okM_together_strict
  · exact okM_last_signs
  · exact okM_last_numbers
  · exact okM_last_strict
/-- the marks are what the rules tell of the pairs -/
theorem mk_cd (r : Rl) : mkL r = psL.map (cd r) := by
  obtain ⟨c, f, b, e, t⟩ := r
  have z := of_decide_eq_true (List.all_eq_true.mp (okM_all c f) _ (mem_bet b e t))
  rw [z]
  exact List.map_congr_left fun p _ => (cd_N _ p).symm
/-! ### pairs of at most two signs -/
def repL : List (Pr × Nat × Bool) := [(([], []), 0, false), (([], [48]), 1, false), (([], [49]), 1, false), (([], [65]), 1, false), (([], [66]), 1, false), (([], [95]), 1, false), (([], [97]), 1, false), (([], [98]), 1, false), (([48], []), 1, true), (([49], []), 1, true), (([65], []), 1, true), (([66], []), 1, true), (([95], []), 1, true), (([97], []), 1, true), (([98], []), 1, true), (([], [48, 48]), 1, false), (([], [48, 49]), 1, false), (([], [48, 65]), 1, false), (([], [48, 66]), 1, false), (([], [48, 95]), 1, false), (([], [48, 97]), 1, false), (([], [48, 98]), 1, false), (([], [49, 48]), 1, false), (([], [49, 49]), 1, false), (([], [49, 65]), 1, false), (([], [49, 66]), 1, false), (([], [49, 95]), 1, false), (([], [49, 97]), 1, false), (([], [49, 98]), 1, false), (([], [65, 48]), 1, false), (([], [65, 49]), 1, false), (([], [65, 65]), 1, false), (([], [65, 66]), 1, false), (([], [65, 95]), 1, false), (([], [65, 97]), 1, false), (([], [65, 98]), 1, false), (([], [66, 48]), 1, false), (([], [66, 49]), 1, false), (([], [66, 65]), 1, false), (([], [66, 66]), 1, false), (([], [66, 95]), 1, false), (([], [66, 97]), 1, false), (([], [66, 98]), 1, false), (([], [95, 48]), 1, false), (([], [95, 49]), 1, false), (([], [95, 65]), 1, false), (([], [95, 66]), 1, false), (([], [95, 95]), 1, false), (([], [95, 97]), 1, false), (([], [95, 98]), 1, false), (([], [97, 48]), 1, false), (([], [97, 49]), 1, false), (([], [97, 65]), 1, false), (([], [97, 66]), 1, false), (([], [97, 95]), 1, false), (([], [97, 97]), 1, false), (([], [97, 98]), 1, false), (([], [98, 48]), 1, false), (([], [98, 49]), 1, false), (([], [98, 65]), 1, false), (([], [98, 66]), 1, false), (([], [98, 95]), 1, false), (([], [98, 97]), 1, false), (([], [98, 98]), 1, false), (([48], [48]), 0, false), (([48], [49]), 2, false), (([48], [65]), 2, false), (([48], [66]), 2, false), (([48], [95]), 4, true), (([48], [97]), 2, false), (([48], [98]), 2, false), (([49], [48]), 2, true), (([49], [49]), 0, false), (([49], [65]), 2, false), (([49], [66]), 2, false), (([49], [95]), 4, true), (([49], [97]), 2, false), (([49], [98]), 2, false), (([65], [48]), 2, true), (([65], [49]), 2, true), (([65], [65]), 0, false), (([65], [66]), 2, false), (([65], [95]), 4, true), (([65], [97]), 5, false), (([65], [98]), 2, false), (([66], [48]), 2, true), (([66], [49]), 2, true), (([66], [65]), 2, true), (([66], [66]), 0, false), (([66], [95]), 4, true), (([66], [97]), 3, false), (([66], [98]), 5, false), (([95], [48]), 4, false), (([95], [49]), 4, false), (([95], [65]), 4, false), (([95], [66]), 4, false), (([95], [95]), 0, false), (([95], [97]), 4, false), (([95], [98]), 4, false), (([97], [48]), 2, true), (([97], [49]), 2, true), (([97], [65]), 5, true), (([97], [66]), 3, true), (([97], [95]), 4, true), (([97], [97]), 0, false), (([97], [98]), 2, false), (([98], [48]), 2, true), (([98], [49]), 2, true), (([98], [65]), 2, true), (([98], [66]), 5, true), (([98], [95]), 4, true), (([98], [97]), 2, true), (([98], [98]), 0, false), (([48, 48], []), 1, true), (([48, 49], []), 1, true), (([48, 65], []), 1, true), (([48, 66], []), 1, true), (([48, 95], []), 1, true), (([48, 97], []), 1, true), (([48, 98], []), 1, true), (([49, 48], []), 1, true), (([49, 49], []), 1, true), (([49, 65], []), 1, true), (([49, 66], []), 1, true), (([49, 95], []), 1, true), (([49, 97], []), 1, true), (([49, 98], []), 1, true), (([65, 48], []), 1, true), (([65, 49], []), 1, true), (([65, 65], []), 1, true), (([65, 66], []), 1, true), (([65, 95], []), 1, true), (([65, 97], []), 1, true), (([65, 98], []), 1, true), (([66, 48], []), 1, true), (([66, 49], []), 1, true), (([66, 65], []), 1, true), (([66, 66], []), 1, true), (([66, 95], []), 1, true), (([66, 97], []), 1, true), (([66, 98], []), 1, true), (([95, 48], []), 1, true), (([95, 49], []), 1, true), (([95, 65], []), 1, true), (([95, 66], []), 1, true), (([95, 95], []), 1, true), (([95, 97], []), 1, true), (([95, 98], []), 1, true), (([97, 48], []), 1, true), (([97, 49], []), 1, true), (([97, 65], []), 1, true), (([97, 66], []), 1, true), (([97, 95], []), 1, true), (([97, 97], []), 1, true), (([97, 98], []), 1, true), (([98, 48], []), 1, true), (([98, 49], []), 1, true), (([98, 65], []), 1, true), (([98, 66], []), 1, true), (([98, 95], []), 1, true), (([98, 97], []), 1, true), (([98, 98], []), 1, true)]
def prsA : List Pr := prs 0 ++ prs 1 ++ prs 2
theorem rep_all : repL.map (·.1) = prsA := by decide +kernel
def sixL : List Pr := psL.take 6
def okC (c : Cs) (f : Fg) : Bool := be2.all fun x =>
  let v := sixL.map (cdN ⟨c, f, x.1, x.2, false⟩)
  repL.all fun z => decide (cdN ⟨c, f, x.1, x.2, false⟩ z.1 = if z.2.2 then tnC (v.getD z.2.1 0) else v.getD z.2.1 0)
theorem okC_apart_signs : okC .apart .signs = true := by decide +kernel
theorem okC_apart_numbers : okC .apart .numbers = true := by decide +kernel
theorem okC_apart_strict : okC .apart .strict = true := by decide +kernel
theorem okC_mixed_signs : okC .mixed .signs = true := by decide +kernel
theorem okC_mixed_numbers : okC .mixed .numbers = true := by decide +kernel
theorem okC_mixed_strict : okC .mixed .strict = true := by decide +kernel
theorem okC_together_signs : okC .together .signs = true := by decide +kernel
theorem okC_together_numbers : okC .together .numbers = true := by decide +kernel
theorem okC_together_strict : okC .together .strict = true := by decide +kernel
theorem okC_last_signs : okC .last .signs = true := by decide +kernel
theorem okC_last_numbers : okC .last .numbers = true := by decide +kernel
theorem okC_last_strict : okC .last .strict = true := by decide +kernel
theorem okC_all (c : Cs) (f : Fg) : okC c f = true := by
  cases c <;> cases f
  · exact okC_apart_signs
  · exact okC_apart_numbers
  · exact okC_apart_strict
  · exact okC_mixed_signs
  · exact okC_mixed_numbers
  · exact okC_mixed_strict
  · exact okC_together_signs
  · exact okC_together_numbers
  · exact okC_together_strict
  · exact okC_last_signs
  · exact okC_last_numbers
  · exact okC_last_strict
theorem rep_small : repL.all (fun z => decide (z.2.1 < 6) && decide (sg (sixL.getD z.2.1 ([], [])) ≤ sg z.1)) = true := by decide +kernel
theorem six_get {α : Type} (F : Pr → α) (d : α) (j : Nat) (h : j < 6) : (sixL.map F).getD j d = F (sixL.getD j ([], [])) := by
  have l : sixL.length = 6 := by decide +kernel
  rw [List.getD_eq_getElem?_getD, List.getD_eq_getElem?_getD, List.getElem?_map, List.getElem?_eq_getElem (by omega : j < sixL.length)]
  rfl
theorem six_mem (j : Nat) (h : j < 6) : sixL.getD j ([], []) ∈ psL := by
  have l : sixL.length = 6 := by decide +kernel
  rw [List.getD_eq_getElem?_getD, List.getElem?_eq_getElem (by omega : j < sixL.length)]
  exact List.mem_of_mem_take (List.getElem_mem _)
theorem cd_false (r : Rl) (p : Pr) : cd r p = if r.t then tnC (cdN ⟨r.c, r.f, r.b, r.e, false⟩ p) else cdN ⟨r.c, r.f, r.b, r.e, false⟩ p := by
  obtain ⟨c, f, b, e, t⟩ := r
  rw [cd_N]
  cases t
  · rfl
  · show cdI (-_) = tnC (cdI _)
    rw [cdI_neg]
    rfl
theorem tn_tn {c : Nat} : tnC (tnC c) = c := by
  unfold tnC
  by_cases h : c = 60
  · subst h; rfl
  · by_cases h2 : c = 62
    · subst h2; rfl
    · simp [h, h2]
/-- one of the pairs tells as much -/
theorem cover {p : Pr} (hp : p ∈ prsA) : ∃ q ∈ psL, sg q ≤ sg p ∧ ∀ r r' : Rl, cd r q = cd r' q → cd r p = cd r' p := by
  rw [← rep_all] at hp
  obtain ⟨z, hz, rfl⟩ := List.mem_map.mp hp
  have s := List.all_eq_true.mp rep_small z hz
  obtain ⟨s1, s2⟩ := Bool.and_eq_true_iff.mp s
  have s1 := of_decide_eq_true s1
  have s2 := of_decide_eq_true s2
  refine ⟨sixL.getD z.2.1 ([], []), six_mem _ s1, s2, fun r r' h => ?_⟩
  have k : ∀ r : Rl, cd r z.1 = if z.2.2 then tnC (cd r (sixL.getD z.2.1 ([], []))) else cd r (sixL.getD z.2.1 ([], [])) := fun r => by
    have e := of_decide_eq_true (List.all_eq_true.mp (List.all_eq_true.mp (okC_all r.c r.f) _ (mem_be2 r.b r.e)) z hz)
    rw [six_get _ _ _ s1] at e
    rw [cd_false, cd_false, e]
    cases r.t <;> cases z.2.2 <;> simp
  rw [k r, k r', h]
/-! ### the first pair told unlike -/
def ulk (r r' : Rl) (p : Pr) : Bool := !decide (cd r p = cd r' p)
def fO (r r' : Rl) : Option Pr := psL.find? (ulk r r')
theorem fO_none {r r' : Rl} (h : r = r') : fO r r' = none := by
  subst h
  exact List.find?_eq_none.mpr fun p _ => by simp [ulk]
theorem fO_some {r r' : Rl} (h : r ≠ r') : ∃ q, fO r r' = some q := by
  cases e : fO r r' with
  | some q => exact ⟨q, rfl⟩
  | none =>
    refine absurd (mk_inj ?_) h
    rw [mk_cd, mk_cd]
    exact List.map_congr_left fun p hp => by
      have := List.find?_eq_none.mp e p hp
      simpa [ulk] using this
theorem fO_iff (r r' : Rl) : (fO r r').isNone = decide (r = r') := by
  by_cases h : r = r'
  · rw [fO_none h, decide_eq_true h]; rfl
  · obtain ⟨q, e⟩ := fO_some h
    rw [e, decide_eq_false h]; rfl
theorem ulk_sym (r r' : Rl) : ulk r r' = ulk r' r := by
  funext p
  unfold ulk
  congr 1
  exact decide_eq_decide.mpr eq_comm
theorem fO_sym (r r' : Rl) : fO r r' = fO r' r := by
  unfold fO
  rw [ulk_sym]
theorem find_least {f : Pr → Bool} : ∀ {L : List Pr} {q p : Pr}, (L.Pairwise fun a b => sg a ≤ sg b) → L.find? f = some q → p ∈ L → f p = true → sg q ≤ sg p
  | [], _, _, _, h, _, _ => by cases h
  | a :: L, q, p, hs, h, hp, hf => by
    by_cases k : f a = true
    · rw [List.find?_cons_of_pos k] at h
      cases h
      rcases List.mem_cons.mp hp with rfl | hp
      · exact Nat.le_refl _
      · exact (List.pairwise_cons.mp hs).1 p hp
    · rw [List.find?_cons_of_neg k] at h
      rcases List.mem_cons.mp hp with rfl | hp
      · exact absurd hf k
      · exact find_least (List.pairwise_cons.mp hs).2 h hp hf
def ascL : List Pr → Bool
  | a :: b :: L => decide (sg a ≤ sg b) && ascL (b :: L)
  | _ => true
theorem asc_pw : ∀ {L : List Pr}, ascL L = true → L.Pairwise fun a b => sg a ≤ sg b
  | [], _ => .nil
  | [a], _ => List.pairwise_singleton ..
  | a :: b :: L, h => by
    obtain ⟨h1, h2⟩ := Bool.and_eq_true_iff.mp h
    have ih := asc_pw h2
    refine List.pairwise_cons.mpr ⟨fun c hc => ?_, ih⟩
    rcases List.mem_cons.mp hc with rfl | hc
    · exact of_decide_eq_true h1
    · exact Nat.le_trans (of_decide_eq_true h1) ((List.pairwise_cons.mp ih).1 c hc)
theorem ps_asc : psL.Pairwise fun a b => sg a ≤ sg b := asc_pw (by decide +kernel)
theorem ps_good : psL.all (fun p => (p.1.all good && decide (p.1.length ≤ 40)) && (p.2.all good && decide (p.2.length ≤ 40)) && (decide (2 < sg p) || prsA.contains p)) = true := by decide +kernel
theorem ps_gl {p : Pr} (hp : p ∈ psL) : (GL p.1 ∧ p.1.length ≤ 40) ∧ (GL p.2 ∧ p.2.length ≤ 40) ∧ (2 < sg p ∨ p ∈ prsA) := by
  have z := List.all_eq_true.mp ps_good p hp
  simp only [Bool.and_eq_true, Bool.or_eq_true, decide_eq_true_eq, List.all_eq_true, List.contains_iff_mem] at z
  exact ⟨z.1.1, z.1.2, z.2⟩
theorem sg_prs : (prs 0).all (fun p => decide (sg p = 0)) = true ∧ (prs 1).all (fun p => decide (sg p = 1)) = true ∧ (prs 2).all (fun p => decide (sg p = 2)) = true := by decide +kernel
theorem prs_sg {k : Nat} {p : Pr} (hk : k ≤ 2) (hp : p ∈ prs k) : sg p = k ∧ p ∈ prsA := by
  have a : k = 0 ∨ k = 1 ∨ k = 2 := by omega
  rcases a with rfl | rfl | rfl
  · exact ⟨of_decide_eq_true (List.all_eq_true.mp sg_prs.1 p hp), List.mem_append.mpr (.inl (List.mem_append.mpr (.inl hp)))⟩
  · exact ⟨of_decide_eq_true (List.all_eq_true.mp sg_prs.2.1 p hp), List.mem_append.mpr (.inl (List.mem_append.mpr (.inr hp)))⟩
  · exact ⟨of_decide_eq_true (List.all_eq_true.mp sg_prs.2.2 p hp), List.mem_append.mpr (.inr hp)⟩
theorem prsA_k {p : Pr} (hp : p ∈ prsA) : sg p ≤ 2 ∧ p ∈ prs (sg p) := by
  unfold prsA at hp
  rcases List.mem_append.mp hp with h | h
  · rcases List.mem_append.mp h with h | h
    · have := (prs_sg (by decide) h).1; rw [this]; exact ⟨by decide, h⟩
    · have := (prs_sg (by decide) h).1; rw [this]; exact ⟨by decide, h⟩
  · have := (prs_sg (by decide) h).1; rw [this]; exact ⟨by decide, h⟩
theorem cd_told {r r' : Rl} {p : Pr} (h1 : GL p.1) (h2 : GL p.2) : cd r p = cd r' p ↔ told r p.1 p.2 = told r' p.1 p.2 :=
  ⟨fun h => cdI_inj (told_mem r h1 h2) (told_mem r' h1 h2) h, fun h => by unfold cd; rw [h]⟩
/-- the least number of signs told unlike, as found by looking -/
def LstOk (r r' : Rl) (o : Option Nat) : Prop := (o = none → ∀ k ≤ 2, ∀ p ∈ prs k, cd r p = cd r' p) ∧ ∀ s, o = some s → s ≤ 2 ∧ (∃ p ∈ prs s, cd r p ≠ cd r' p) ∧ ∀ k < s, ∀ p ∈ prs k, cd r p = cd r' p
theorem first_least {r r' : Rl} {q : Pr} {o : Option Nat} (h : fO r r' = some q) (hl : LstOk r r' o) : match o with
  | none => 3 ≤ sg q
  | some s => sg q = s := by
  have hq := List.mem_of_find?_eq_some h
  have hu := List.find?_some h
  have hu : cd r q ≠ cd r' q := by simpa [ulk] using hu
  obtain ⟨_, _, hd⟩ := ps_gl hq
  cases o with
  | none =>
    rcases hd with hd | hd
    · exact hd
    · exact absurd (hl.1 rfl _ (prsA_k hd).1 q (prsA_k hd).2) hu
  | some s =>
    obtain ⟨s2, ⟨p, hp, hpu⟩, hb⟩ := hl.2 s rfl
    obtain ⟨ps, pa⟩ := prs_sg s2 hp
    obtain ⟨p', hp', hs', hc'⟩ := cover pa
    have ku : ulk r r' p' = true := by
      unfold ulk
      rw [decide_eq_false fun z => hpu (hc' r r' z)]
      rfl
    have l1 := find_least ps_asc h hp' ku
    show sg q = s
    rcases Nat.lt_or_ge (sg q) s with l | l
    · rcases hd with hd | hd
      · omega
      · exact absurd (hb _ l q (prsA_k hd).2) hu
    · omega
end K04

end
-- K04k
section
set_option Elab.async false
set_option linter.all false
set_option maxRecDepth 100000
set_option maxHeartbeats 2000000
namespace K04
open PySem PySem.Spec PyProof.Rows L2 Den
variable [TB : Tabl]
/-! ### rules as data, compared -/
theorem sh_cs (c : Cs) : Shp 0 (.str c.w) := shp_str (by cases c <;> kernel_rfl)
theorem sh_fg (f : Fg) : Shp 0 (.str f.w) := shp_str (by cases f <;> kernel_rfl)
theorem sh_ba (b : Bool) : Shp 0 (.str (barW b)) := shp_str (by cases b <;> kernel_rfl)
theorem sh_en (b : Bool) : Shp 0 (.str (endW b)) := shp_str (by cases b <;> kernel_rfl)
theorem ev_cs (c c' : Cs) : PyData.eqv (.str c.w) (.str c'.w) = decide (c = c') := by cases c <;> cases c' <;> kernel_rfl
theorem ev_fg (c c' : Fg) : PyData.eqv (.str c.w) (.str c'.w) = decide (c = c') := by cases c <;> cases c' <;> kernel_rfl
theorem ev_ba (c c' : Bool) : PyData.eqv (.str (barW c)) (.str (barW c')) = decide (c = c') := by cases c <;> cases c' <;> kernel_rfl
theorem ev_en (c c' : Bool) : PyData.eqv (.str (endW c)) (.str (endW c')) = decide (c = c') := by cases c <;> cases c' <;> kernel_rfl
theorem ev_tu (c c' : Bool) : PyData.eqv (.int (if c then 1 else 0)) (.int (if c' then 1 else 0)) = decide (c = c') := by
  rw [eqv_int]
  cases c <;> cases c' <;> decide
theorem sh_data (r : Rl) : Shp 1 r.data := shp_tup fun x hx => by
  simp only [List.mem_cons, List.not_mem_nil, or_false] at hx
  rcases hx with rfl | rfl | rfl | rfl | rfl
  · exact sh_cs _
  · exact sh_fg _
  · exact sh_ba _
  · exact sh_en _
  · exact shp_int
theorem ev_data (r r' : Rl) : PyData.eqv r.data r'.data = decide (r = r') := by
  unfold Rl.data
  rw [PyData.eqv, PySem.W.eqv_all_cons, PySem.W.eqv_all_cons, PySem.W.eqv_all_cons, PySem.W.eqv_all_cons, PySem.W.eqv_all_cons, ev_cs, ev_fg, ev_ba, ev_en, ev_tu, PyData.eqvAll]
  obtain ⟨c, f, b, e, t⟩ := r
  obtain ⟨c', f', b', e', t'⟩ := r'
  simp only [Rl.mk.injEq, Bool.decide_and, Bool.and_true]
theorem sh_none : Shp 0 (.str "none") := shp_str (by kernel_rfl)
theorem ev_str (r : Rl) : PyData.eqv r.data (.str "none") = false := by
  unfold Rl.data
  rw [PyData.eqv]
  all_goals simp
theorem ev_str2 (r : Rl) : PyData.eqv (.str "none") r.data = false := by
  unfold Rl.data
  rw [PyData.eqv]
  all_goals simp
theorem ev_none : PyData.eqv (.str "none") (.str "none") = true := by kernel_rfl
theorem eq_of {x y : PyData} {b : Bool} (hx : Shp 1 x) (hy : Shp 1 y) (h : PyData.eqv x y = b) : eqO x y = some (.bool b) := by
  unfold eqO
  rw [hx.ok (by decide), hy.ok (by decide), h]
  rfl
theorem ne_of {x y : PyData} {b : Bool} (hx : Shp 1 x) (hy : Shp 1 y) (h : PyData.eqv x y = b) : neO x y = some (.bool (!b)) := by
  unfold neO
  rw [hx.ok (by decide), hy.ok (by decide), h]
  rfl
theorem in_rules {x : PyData} (hx : Shp 1 x) (neg : Bool) (rs : List Rl) {p : Rl → Bool} (h : ∀ r : Rl, PyData.eqv r.data x = p r) : inDp neg x (.list (rs.map Rl.data)) = some (.bool (if neg then !rs.any p else rs.any p)) := by
  have hs : Shp 2 (.list (rs.map Rl.data)) := shp_list fun y hy => by
    obtain ⟨r, _, rfl⟩ := List.mem_map.mp hy
    exact sh_data r
  have e : ((rs.map Rl.data).any fun z => PyData.eqv z x) = rs.any p := by
    rw [List.any_map]
    exact any_congr fun r _ => h r
  show (if SeqAt.shaped x && SeqAt.shaped (.list (rs.map Rl.data)) then some (PyData.bool (if neg then !((rs.map Rl.data).any fun z => PyData.eqv z x) else (rs.map Rl.data).any fun z => PyData.eqv z x)) else none) = _
  rw [hx.ok (by decide), hs.ok (by decide), e]
  rfl
theorem tru_b {f : FE} {ρ : Den.Env} {D D1 : Dw} {b : Bool} (h : f ρ D = some (.bool b, D1)) : truD f ρ D = some (b, D1) := by
  unfold truD
  rw [h]
  rfl
theorem not_b {t : FT} {ρ : Den.Env} {D D1 : Dw} {b : Bool} (h : t ρ D = some (b, D1)) : notT t ρ D = some (!b, D1) := by
  unfold notT
  rw [h]
  rfl
theorem bool_b {f : FE} {ρ : Den.Env} {D D1 : Dw} {b : Bool} (h : f ρ D = some (.bool b, D1)) : boolD f ρ D = some (b, D1) := by
  unfold boolD
  rw [h]
  rfl
theorem and_b {f g : FT} {ρ : Den.Env} {D : Dw} {a b : Bool} (h1 : f ρ D = some (a, D)) (h2 : a = true → g ρ D = some (b, D)) : andT f g ρ D = some (a && b, D) := by
  unfold andT
  rw [h1, Option.bind_some]
  cases a with
  | true => rw [if_pos rfl, h2 rfl]; rfl
  | false => rw [if_neg Bool.false_ne_true]; rfl
theorem or_b {f g : FT} {ρ : Den.Env} {D : Dw} {a b : Bool} (h1 : f ρ D = some (a, D)) (h2 : a = false → g ρ D = some (b, D)) : orT f g ρ D = some (a || b, D) := by
  unfold orT
  rw [h1, Option.bind_some]
  cases a with
  | true => rw [if_pos rfl]; rfl
  | false => rw [if_neg Bool.false_ne_true, h2 rfl]; rfl

theorem tup1_of {f : FE} {ρ : Den.Env} {D D1 : Dw} {x : PyData} (h : f ρ D = some (x, D1)) : tupD (argD f (argN)) ρ D = some (.tuple [x], D1) := by
  simp [tupD, argD, h, argN, allD]
theorem lst_of {f : FE} {ρ : Den.Env} {D D1 : Dw} {xs : List PyData} (h : f ρ D = some (.list xs, D1)) : lstD f ρ D = some (xs, D1) := by
  unfold lstD
  rw [h]
  rfl
theorem dat_of {f : FL} {ρ : Den.Env} {D D1 : Dw} {xs : List PyData} (h : f ρ D = some (xs, D1)) : datD f ρ D = some (.list xs, D1) := by
  unfold datD
  rw [h]
  rfl
theorem lc_map {α : Type} {i : Nat} {fe : FE} {ρ : Den.Env} {D : Dw} (f G : α → PyData) : ∀ (xs : List α), (∀ x ∈ xs, fe (ρ.set i (some (.d (f x)))) D = some (G x, D)) → lcD i yesT fe ρ (xs.map f) D = some (xs.map G, D)
  | [], _ => rfl
  | x :: xs, h => by
    rw [List.map_cons, List.map_cons]
    exact lc_cons (h x (List.mem_cons_self ..)) (lc_map f G xs fun y hy => h y (List.mem_cons_of_mem _ hy))
/-! ### the first pair, and its signs -/
def foD : Option Pr → PyData
  | none => .none
  | some p => pD p
def lsD : Option Pr → PyData
  | none => .none
  | some p => .int (sg p : Nat)
theorem fo_none (o : Option Pr) : isO (foD o) .none = some (.bool o.isNone) := by cases o <;> rfl
theorem ls_none (o : Option Pr) : isO (lsD o) .none = some (.bool o.isNone) := by cases o <;> rfl
theorem sh_ls (o : Option Pr) : Shp 0 (lsD o) := by
  cases o
  · exact shp_none
  · exact shp_int
theorem gl_ml {l : List Nat} (h : GL l) : ML l := fun c hc => good_lt (h c hc)
theorem len_sd {f : FE} {ρ : Den.Env} {D D1 : Dw} {l : List Nat} (h : f ρ D = some (sd l, D1)) (hl : l.length ≤ 1000) : biD lenO (argD f (argN)) ρ D = some (.int (l.length : Nat), D1) := by
  have e : lenO [sd l] = some (.int (l.length : Nat)) := by
    show (if (tx l).length ≤ 1000000 then some (PyData.int ((tx l).length : Nat)) else none) = _
    rw [tx_len, if_pos (by omega)]
  simp [biD, argD, h, argN, allD, e]
theorem signs_of_ok {p : Pr} (hp : p ∈ psL) (D : Dw) : phi_signs_of [.d (pD p)] D = some (.int (sg p : Nat), D) := by
  obtain ⟨⟨_, h1⟩, ⟨_, h2⟩, _⟩ := ps_gl hp
  have hs : startA N_signs_of [.d (pD p)] = [some (.d (pD p))] := rfl
  have i0 : binD ixO (varD 0) (cD (.int 0)) [some (.d (pD p))] D = some (sd p.1, D) := bin_of rfl (c_c _ _ _) rfl
  have i1 : binD ixO (varD 0) (cD (.int 1)) [some (.d (pD p))] D = some (sd p.2, D) := bin_of rfl (c_c _ _ _) rfl
  have e : addO (.int (p.1.length : Nat)) (.int (p.2.length : Nat)) = some (.int (sg p : Nat)) := by
    show some (PyData.int ((p.1.length : Int) + p.2.length)) = _
    rw [← Int.natCast_add]
  unfold phi_signs_of g_signs_of
  rw [hs]
  unfold retS
  rw [bin_of (len_sd i0 (by omega)) (len_sd i1 (by omega)) e]
  rfl
theorem cd_lt (r : Rl) (p : Pr) : cd r p < 128 := by
  unfold cd cdI
  split
  · decide
  · split <;> decide
def bodyU : FS := (ifS (boolD (binD neO (varD 3) (varD 4))) (retS (varD 2)) (nxS))
abbrev tgU : PyData → Den.Env → Option Den.Env := tupG 3 (consG (nameG 2) (consG (nameG 3) (consG (nameG 4) (nilG))))
theorem loop_u (r r' : Rl) (x y : Option AV) (D : Dw) : ∀ (ps : List Pr) (a b c : Option AV), (∃ q, ps.find? (ulk r r') = some q ∧ loopD tgU bodyU (zipV3 (ps.map pD) (sg1 (ps.map (cd r))) (sg1 (ps.map (cd r')))) [x, y, a, b, c] D = some (.rt (pD q) D)) ∨
    (∃ a' b' c', ps.find? (ulk r r') = none ∧ loopD tgU bodyU (zipV3 (ps.map pD) (sg1 (ps.map (cd r))) (sg1 (ps.map (cd r')))) [x, y, a, b, c] D = some (.nx [x, y, a', b', c'] D))
  | [], a, b, c => .inr ⟨a, b, c, rfl, rfl⟩
  | p :: ps, a, b, c => by
    have t1 : tgU (.tuple [pD p, sd [cd r p], sd [cd r' p]]) [x, y, a, b, c] = some [x, y, some (.d (pD p)), some (.d (sd [cd r p])), some (.d (sd [cd r' p]))] := rfl
    have tt : boolD (binD neO (varD 3) (varD 4)) [x, y, some (.d (pD p)), some (.d (sd [cd r p])), some (.d (sd [cd r' p]))] D = some (!decide ([cd r p] = [cd r' p]), D) := bool_b (bin_of rfl rfl (neO_ml (ml_one (cd_lt r p)) (ml_one (cd_lt r' p))))
    have tl : decide ([cd r p] = [cd r' p]) = decide (cd r p = cd r' p) := by simp
    have z : zipV3 ((p :: ps).map pD) (sg1 ((p :: ps).map (cd r))) (sg1 ((p :: ps).map (cd r'))) = .tuple [pD p, sd [cd r p], sd [cd r' p]] :: zipV3 (ps.map pD) (sg1 (ps.map (cd r))) (sg1 (ps.map (cd r'))) := rfl
    rw [tl] at tt
    have tt : boolD (binD neO (varD 3) (varD 4)) [x, y, some (.d (pD p)), some (.d (sd [cd r p])), some (.d (sd [cd r' p]))] D = some (ulk r r' p, D) := tt
    rw [z]
    cases hu : ulk r r' p with
    | true =>
      refine .inl ⟨p, List.find?_cons_of_pos hu, ?_⟩
      rw [loopD, t1, Option.bind_some]
      unfold bodyU ifS
      rw [tt, hu, Option.bind_some, if_pos rfl]
      rfl
    | false =>
      have b1 : bodyU [x, y, some (.d (pD p)), some (.d (sd [cd r p])), some (.d (sd [cd r' p]))] D = some (.nx [x, y, some (.d (pD p)), some (.d (sd [cd r p])), some (.d (sd [cd r' p]))] D) := by
        unfold bodyU ifS
        rw [tt, hu, Option.bind_some, if_neg Bool.false_ne_true]
        rfl
      rw [List.find?_cons_of_neg (by rw [hu]; exact Bool.false_ne_true), loop_step t1 b1]
      exact loop_u r r' x y D ps _ _ _
theorem first_unlike_ok (r r' : Rl) (D : Dw) : phi_first_unlike [.d (sd (mkL r)), .d (sd (mkL r'))] D = some (foD (fO r r'), D) := by
  have hs : startA N_first_unlike [.d (sd (mkL r)), .d (sd (mkL r'))] = [some (.d (sd (mkL r))), some (.d (sd (mkL r'))), none, none, none] := rfl
  have t : boolD (binD eqO (varD 0) (varD 1)) [some (.d (sd (mkL r))), some (.d (sd (mkL r'))), none, none, none] D = some (decide (r = r'), D) := by
    rw [bool_b (bin_of rfl rfl (eqO_ml (mkL_ml r).1 (mkL_ml r').1)), mk_eq]
  unfold phi_first_unlike g_first_unlike
  rw [hs]
  by_cases h : r = r'
  · have s : ∀ g : FS, seqS (ifS (boolD (binD eqO (varD 0) (varD 1))) (retS (cD .none)) (nxS)) g [some (.d (sd (mkL r))), some (.d (sd (mkL r'))), none, none, none] D = some (.rt .none D) := fun g => by
      refine seq_rt ?_
      unfold ifS
      rw [t, Option.bind_some, if_pos (decide_eq_true h)]
      rfl
    rw [s, fO_none h]
    rfl
  · rw [seq_nx (if_no (by rw [t, decide_eq_false h])), li_pairs]
    have e : zip3I (tupI (cD (.tuple (psL.map pD)))) (strI (varD 0)) (strI (varD 1)) [some (.d (sd (mkL r))), some (.d (sd (mkL r'))), none, none, none] D = some (zipV3 (psL.map pD) (sg1 (psL.map (cd r))) (sg1 (psL.map (cd r'))), D) := by
      rw [← mk_cd, ← mk_cd, ← sg1_sgs, ← sg1_sgs]
      rfl
    have f := for_of (tf := tgU) (gb := bodyU) e
    rcases loop_u r r' (some (.d (sd (mkL r)))) (some (.d (sd (mkL r')))) D psL none none none with ⟨q, h1, h2⟩ | ⟨a', b', c', h1, h2⟩
    · rw [h2] at f
      unfold bodyU tgU at f
      rw [seq_rt f, show fO r r' = some q from h1]
      rfl
    · obtain ⟨q, z⟩ := fO_some h
      rw [show fO r r' = none from h1] at z
      cases z
theorem least_signs_ok (r r' : Rl) (D : Dw) : phi_least_signs [.d (sd (mkL r)), .d (sd (mkL r'))] D = some (lsD (fO r r'), D) := by
  have hs : startA N_least_signs [.d (sd (mkL r)), .d (sd (mkL r'))] = [some (.d (sd (mkL r))), some (.d (sd (mkL r'))), none] := rfl
  have s1 : asgS 2 (callD phi_first_unlike (argD (varD 0) (argD (varD 1) (argN)))) [some (.d (sd (mkL r))), some (.d (sd (mkL r'))), none] D = some (.nx [some (.d (sd (mkL r))), some (.d (sd (mkL r'))), some (.d (foD (fO r r')))] D) := asg_of ((c2_of rfl rfl).trans (first_unlike_ok r r' D))
  have t : boolD (binD isO (varD 2) (cD .none)) [some (.d (sd (mkL r))), some (.d (sd (mkL r'))), some (.d (foD (fO r r')))] D = some ((fO r r').isNone, D) := bool_b (bin_of rfl (c_c _ _ _) (fo_none _))
  unfold phi_least_signs g_least_signs
  rw [hs, seq_nx s1]
  unfold retS ifE
  rw [t, Option.bind_some]
  cases h : fO r r' with
  | none => rfl
  | some q =>
    have e := (c1_of (φ := phi_signs_of) (f := varD 2) (ρ := [some (.d (sd (mkL r))), some (.d (sd (mkL r'))), some (.d (foD (some q)))]) (D := D) (x := pD q) rfl).trans (signs_of_ok (List.mem_of_find?_eq_some h) D)
    rw [if_neg (by exact Bool.false_ne_true), e]
    rfl
/-! ### a pair, or an error -/
theorem tell_ok (r r' : Rl) (D : Dw) : (∃ q, fO r r' = some q ∧ psi_telling_pair [.d r.data, .d r'.data] D = none ∧ phi_telling_pair [.d r.data, .d r'.data] D = some (pD q, D)) ∨
    (fO r r' = none ∧ psi_telling_pair [.d r.data, .d r'.data] D = some (("NotFound" : Str), D)) := by
  have hs : startA N_telling_pair [.d r.data, .d r'.data] = [some (.d r.data), some (.d r'.data), none, none, none] := rfl
  have c1 : asgT (callD phi_marks_of_two (argD (varD 0) (argD (varD 1) (argN)))) (tupG 2 (consG (nameG 2) (consG (nameG 3) (nilG)))) [some (.d r.data), some (.d r'.data), none, none, none] D = some (.nx [some (.d r.data), some (.d r'.data), some (.d (sd (mkL r))), some (.d (sd (mkL r'))), none] D) := by
    unfold asgT
    rw [c2_of rfl rfl, marks_of_two_ok]
    rfl
  have c2 : asgS 4 (callD phi_first_unlike (argD (varD 2) (argD (varD 3) (argN)))) [some (.d r.data), some (.d r'.data), some (.d (sd (mkL r))), some (.d (sd (mkL r'))), none] D = some (.nx [some (.d r.data), some (.d r'.data), some (.d (sd (mkL r))), some (.d (sd (mkL r'))), some (.d (foD (fO r r')))] D) := asg_of ((c2_of rfl rfl).trans (first_unlike_ok r r' D))
  have t : boolD (binD isO (varD 4) (cD .none)) [some (.d r.data), some (.d r'.data), some (.d (sd (mkL r))), some (.d (sd (mkL r'))), some (.d (foD (fO r r')))] D = some ((fO r r').isNone, D) := bool_b (bin_of rfl (c_c _ _ _) (fo_none _))
  have px : psi_telling_pair [.d r.data, .d r'.data] D = outX (thB (boolD (binD isO (varD 4) (cD .none))) true (rsX "NotFound") [some (.d r.data), some (.d r'.data), some (.d (sd (mkL r))), some (.d (sd (mkL r'))), some (.d (foD (fO r r')))] D) := by
    unfold psi_telling_pair gx_telling_pair
    rw [hs]
    unfold thS
    rw [c1]
    dsimp only
    rw [c2]
  cases h : fO r r' with
  | none =>
    refine .inr ⟨rfl, ?_⟩
    rw [px]
    unfold thB
    rw [t, h]
    rfl
  | some q =>
    refine .inl ⟨q, rfl, ?_, ?_⟩
    · rw [px]
      unfold thB
      rw [t, h]
      rfl
    · unfold phi_telling_pair g_telling_pair
      rw [hs, seq_nx c1, seq_nx c2, seq_nx (if_no (by rw [t, h]; rfl)), h]
      rfl
theorem err_none (D : Dw) : phi__law_error [.exc "NotFound"] D = some (.str "none", D) := by kernel_rfl
def caD : Option Pr → PyData
  | some q => pD q
  | none => .str "none"
theorem law_call_ok (one other : Rl) (D : Dw) : phi__law_call [.d one.data, .d other.data] D = some (caD (fO one other), D) := by
  have hs : startA N__law_call [.d one.data, .d other.data] = [some (.d one.data), some (.d other.data), none, none, none] := rfl
  have a1 : asgS 2 (cD .none) [some (.d one.data), some (.d other.data), none, none, none] D = some (.nx [some (.d one.data), some (.d other.data), some (.d .none), none, none] D) := rfl
  have a2 : asgS 3 (cD .none) [some (.d one.data), some (.d other.data), some (.d .none), none, none] D = some (.nx [some (.d one.data), some (.d other.data), some (.d .none), some (.d .none), none] D) := rfl
  unfold phi__law_call g__law_call
  rw [hs]
  rcases tell_ok one other D with ⟨t, h, h1, h2⟩ | ⟨h, h1⟩
  · have t' : tryS ["BadRule", "BadText", "BadNumber", "NotFound"] 4 3 (toX (rcD psi_telling_pair (argD (varD 0) (argD (varD 1) (argN))))) (asgS 2 (callD phi_telling_pair (argD (varD 0) (argD (varD 1) (argN))))) [some (.d one.data), some (.d other.data), some (.d .none), some (.d .none), none] D = some (.nx [some (.d one.data), some (.d other.data), some (.d (pD t)), some (.d .none), none] D) := by
      simp [tryS, toX, rcD, argD, varD, argN, h1, asgS, callD, h2]
    rw [seq_nx a1, seq_nx a2, seq_nx t', h]
    rfl
  · have t' : ∃ o, tryS ["BadRule", "BadText", "BadNumber", "NotFound"] 4 3 (toX (rcD psi_telling_pair (argD (varD 0) (argD (varD 1) (argN))))) (asgS 2 (callD phi_telling_pair (argD (varD 0) (argD (varD 1) (argN))))) [some (.d one.data), some (.d other.data), some (.d .none), some (.d .none), none] D = some (.nx [some (.d one.data), some (.d other.data), some (.d .none), some (.exc "NotFound"), o] D) := by
      simp [tryS, toX, rcD, argD, varD, argN, h1, asgS, callD]
    obtain ⟨o, t'⟩ := t'
    rw [seq_nx a1, seq_nx a2, seq_nx t', h]
    simp [retS, ifE, boolD, exN, asB, callD, argX, excD, argN, err_none, outD, caD]
/-! ### the table -/
def tabL (rs : List Rl) : PyData := .list (rs.map fun a => .list (rs.map fun b => lsD (fO a b)))
theorem telling_table_ok {rs : List Rl} (h1 : 1 ≤ rs.length) (h2 : rs.length ≤ 8) (D : Dw) : phi_telling_table [.d (K04.fd rs)] D = some (tabL rs, D) := by
  have hs : startA N_telling_table [.d (K04.fd rs)] = [some (.d (K04.fd rs)), none, none, none, none] := rfl
  have s0 : dropS (callD phi_check_family (argD (varD 0) (argN))) [some (.d (K04.fd rs)), none, none, none, none] D = some (.nx [some (.d (K04.fd rs)), none, none, none, none] D) := by
    unfold dropS
    rw [c1_of rfl, check_family_ok h1 h2]
    rfl
  have s1 : asgS 1 (datD (lcF 2 (lstD (varD 0)) (yesT) (callD phi_marks_of (argD (varD 2) (argN))))) [some (.d (K04.fd rs)), none, none, none, none] D = some (.nx [some (.d (K04.fd rs)), some (.d (.list (rs.map fun r => sd (mkL r)))), none, none, none] D) :=
    asg_of (dat_of (lcF_list (lst_of rfl) (by rw [List.length_map]; omega) (lc_map Rl.data (fun r => sd (mkL r)) rs fun r _ => (c1_of rfl).trans (marks_of_ok r D))))
  have inn : ∀ a : Rl, datD (lcF 4 (lstD (varD 1)) (yesT) (callD phi_least_signs (argD (varD 3) (argD (varD 4) (argN))))) [some (.d (K04.fd rs)), some (.d (.list (rs.map fun r => sd (mkL r)))), none, some (.d (sd (mkL a))), none] D = some (.list (rs.map fun b => lsD (fO a b)), D) := fun a =>
    dat_of (lcF_list (lst_of rfl) (by rw [List.length_map]; omega) (lc_map (fun r => sd (mkL r)) (fun b => lsD (fO a b)) rs fun b _ => (c2_of rfl rfl).trans (least_signs_ok a b D)))
  unfold phi_telling_table g_telling_table
  rw [hs, seq_nx s0, seq_nx s1]
  unfold retS
  rw [dat_of (lcF_list (lst_of rfl) (by rw [List.length_map]; omega) (lc_map (fun r => sd (mkL r)) (fun a => .list (rs.map fun b => lsD (fO a b))) rs fun a _ => inn a))]
  rfl
/-! ### the groups of four -/
def at4 (a b c d : Rl) : Nat → Rl
  | 0 => a
  | 1 => b
  | 2 => c
  | _ => d
def fst4 (a b c d : Rl) (k : Nat) : Bool := !(([a, b, c, d].take k).any fun r => decide (r = at4 a b c d k))
def gr4 (a b c d : Rl) : List (List Nat) := ([0, 1, 2, 3].filter (fst4 a b c d)).map fun j => [0, 1, 2, 3].filter fun k => decide (at4 a b c d k = at4 a b c d j)
abbrev n4 : List Nat := [0, 1, 2, 3]
theorem ix4_of {a b c d : Rl} {j : Nat} {ρ : Den.Env} {D : Dw} (hf : ρ[0]? = some (some (.d (K04.fd [a, b, c, d])))) (k : Nat) (hk : k ∈ n4) (hj : ρ[j]? = some (some (.d (.int (k : Nat))))) : binD ixO (varD 0) (varD j) ρ D = some ((at4 a b c d k).data, D) := by
  have v0 : varD 0 ρ D = some (K04.fd [a, b, c, d], D) := by simp [varD, hf]
  have vj : varD j ρ D = some (.int (k : Nat), D) := by simp [varD, hj]
  refine bin_of v0 vj (ixO_list ?_)
  simp only [List.mem_cons, List.not_mem_nil, or_false] at hk
  rcases hk with rfl | rfl | rfl | rfl <;> rfl
theorem law_groups_ok (a b c d : Rl) (D : Dw) : phi__law_groups [.d (K04.fd [a, b, c, d])] D = some (.list ((gr4 a b c d).map nd), D) := by
  have hs : startA N__law_groups [.d (K04.fd [a, b, c, d])] = [some (.d (K04.fd [a, b, c, d])), none, none, none] := rfl
  have rg : ∀ o p q : Option AV, rng1I (biD lenO (argD (varD 0) (argN))) [some (.d (K04.fd [a, b, c, d])), o, p, q] D = some (n4.map fun k => PyData.int (k : Nat), D) := fun o p q => by
    have e : biD lenO (argD (varD 0) (argN)) [some (.d (K04.fd [a, b, c, d])), o, p, q] D = some (.int 4, D) := rfl
    have e2 : rng1I (cD (.int 4)) [some (.d (K04.fd [a, b, c, d])), o, p, q] D = some (n4.map fun k => PyData.int (k : Nat), D) := rfl
    unfold rng1I at e2 ⊢
    rw [e]
    exact e2
  have t1 : ∀ k ∈ n4, boolD (binD (inDp true) (binD ixO (varD 0) (varD 2)) (slD (varD 0) none (some (varD 2)))) [some (.d (K04.fd [a, b, c, d])), none, some (.d (.int (k : Nat))), none] D = some (fst4 a b c d k, D) := fun k hk => by
    have e1 : binD ixO (varD 0) (varD 2) [some (.d (K04.fd [a, b, c, d])), none, some (.d (.int (k : Nat))), none] D = some ((at4 a b c d k).data, D) := ix4_of rfl k hk rfl
    have e2 : slD (varD 0) none (some (varD 2)) [some (.d (K04.fd [a, b, c, d])), none, some (.d (.int (k : Nat))), none] D = some (.list (([a, b, c, d].take k).map Rl.data), D) := by
      simp only [List.mem_cons, List.not_mem_nil, or_false] at hk
      rcases hk with rfl | rfl | rfl | rfl <;> rfl
    exact bool_b (bin_of e1 e2 (in_rules (sh_data _) true _ fun r => ev_data r _))
  have s1 : lcS 1 (lcF 2 (rng1I (biD lenO (argD (varD 0) (argN)))) (boolD (binD (inDp true) (binD ixO (varD 0) (varD 2)) (slD (varD 0) none (some (varD 2))))) (varD 2)) [some (.d (K04.fd [a, b, c, d])), none, none, none] D = some (.nx [some (.d (K04.fd [a, b, c, d])), some (.d (nd (n4.filter (fst4 a b c d)))), none, none] D) :=
    lcS_of (lcF_list (rg _ _ _) (by decide) (lc_filter (fun k : Nat => PyData.int (k : Nat)) (by simp) (fun k hk => t1 k hk)))
  have inn : ∀ j ∈ n4, ∀ o : Option AV, datD (lcF 2 (rng1I (biD lenO (argD (varD 0) (argN)))) (boolD (binD eqO (binD ixO (varD 0) (varD 2)) (binD ixO (varD 0) (varD 3)))) (varD 2)) [some (.d (K04.fd [a, b, c, d])), o, none, some (.d (.int (j : Nat)))] D = some (nd (n4.filter fun k => decide (at4 a b c d k = at4 a b c d j)), D) := fun j hj o => by
    refine dat_of (lcF_list (rg _ _ _) (by decide) (lc_filter (fun k : Nat => PyData.int (k : Nat)) (by simp) (fun k hk => ?_)))
    exact bool_b (bin_of (ix4_of rfl k hk rfl) (ix4_of rfl j hj rfl) (eq_of (sh_data _) (sh_data _) (ev_data _ _)))
  have fin : ∀ js : List Nat, js.length ≤ 4 → (∀ j ∈ js, j ∈ n4) → datD (lcF 3 (lstD (varD 1)) (yesT) (datD (lcF 2 (rng1I (biD lenO (argD (varD 0) (argN)))) (boolD (binD eqO (binD ixO (varD 0) (varD 2)) (binD ixO (varD 0) (varD 3)))) (varD 2)))) [some (.d (K04.fd [a, b, c, d])), some (.d (nd js)), none, none] D = some (.list (js.map fun j => nd (n4.filter fun k => decide (at4 a b c d k = at4 a b c d j))), D) := fun js h1 h2 =>
    dat_of (lcF_list (xs := js.map fun k => PyData.int (k : Nat)) (lst_of rfl) (by rw [List.length_map]; omega) (lc_map (fun k : Nat => PyData.int (k : Nat)) (fun j => nd (n4.filter fun k => decide (at4 a b c d k = at4 a b c d j))) js fun j hj => inn j (h2 j hj) _))
  unfold phi__law_groups g__law_groups
  rw [hs, seq_nx s1]
  unfold retS
  rw [fin _ (List.length_filter_le _ _) fun j hj => (List.mem_filter.mp hj).1]
  unfold gr4
  rw [List.map_map]
  rfl
/-! #### as the program groups them -/
abbrev gD (k : Nat) (r : Rl) : PyData := .tuple [.int (k : Nat), r.data]
abbrev tgG : PyData → Den.Env → Option Den.Env := tupG 2 (consG (nameG 2) (consG (nameG 3) (nilG)))
theorem grp_step (f : PyData) (k : Nat) (r : Rl) (xs : List PyData) (o p : Option AV) (D : Dw) (gs : List (Str × List PyData)) (hn : (noOwn [some (.d f), none, some (.d (.int (k : Nat))), some (.d r.data)] && smallG gs) = true) :
    grpL tgG (callD phi_marks_of (argD (varD 3) (argN))) (varD 2) (gD k r :: xs) [some (.d f), none, o, p] D gs = grpL tgG (callD phi_marks_of (argD (varD 3) (argN))) (varD 2) xs [some (.d f), none, some (.d (.int (k : Nat))), some (.d r.data)] D (grpS gs (tx (mkL r)) (.int (k : Nat))) := by
  have t : tgG (gD k r) [some (.d f), none, o, p] = some [some (.d f), none, some (.d (.int (k : Nat))), some (.d r.data)] := rfl
  have e : callD phi_marks_of (argD (varD 3) (argN)) [some (.d f), none, some (.d (.int (k : Nat))), some (.d r.data)] D = some (sd (mkL r), D) := (c1_of rfl).trans (marks_of_ok r D)
  rw [grpL, t, Option.bind_some, if_pos hn, e]
  rfl
theorem key_ne {r r' : Rl} (h : r ≠ r') : tx (mkL r) ≠ tx (mkL r') := fun z => h (mk_inj (tx_inj z))
theorem classes_go {a b c d : Rl} {gs : List (Str × List PyData)} (D : Dw) (hg : grpS (grpS (grpS (grpS [] (tx (mkL a)) (.int (0 : Nat))) (tx (mkL b)) (.int (1 : Nat))) (tx (mkL c)) (.int (2 : Nat))) (tx (mkL d)) (.int (3 : Nat)) = gs)
    (h1 : smallG (grpS [] (tx (mkL a)) (.int (0 : Nat))) = true) (h2 : smallG (grpS (grpS [] (tx (mkL a)) (.int (0 : Nat))) (tx (mkL b)) (.int (1 : Nat))) = true) (h3 : smallG (grpS (grpS (grpS [] (tx (mkL a)) (.int (0 : Nat))) (tx (mkL b)) (.int (1 : Nat))) (tx (mkL c)) (.int (2 : Nat))) = true) (hl : gs.length ≤ 1000000) :
    phi_classes [.d (K04.fd [a, b, c, d])] D = some (.list (gs.map fun g => .list g.2), D) := by
  have hs : startA N_classes [.d (K04.fd [a, b, c, d])] = [some (.d (K04.fd [a, b, c, d])), none, none, none] := rfl
  have s0 : dropS (callD phi_check_family (argD (varD 0) (argN))) [some (.d (K04.fd [a, b, c, d])), none, none, none] D = some (.nx [some (.d (K04.fd [a, b, c, d])), none, none, none] D) := by
    unfold dropS
    rw [c1_of rfl, check_family_ok (by simp : 1 ≤ [a, b, c, d].length) (by simp : [a, b, c, d].length ≤ 8)]
    rfl
  have e : enumI (lstD (varD 0)) [some (.d (K04.fd [a, b, c, d])), none, none, none] D = some ([gD 0 a, gD 1 b, gD 2 c, gD 3 d], D) := rfl
  have g : grpL tgG (callD phi_marks_of (argD (varD 3) (argN))) (varD 2) [gD 0 a, gD 1 b, gD 2 c, gD 3 d] [some (.d (K04.fd [a, b, c, d])), none, none, none] D [] = some (gs, D) := by
    rw [grp_step _ 0 a _ _ _ D [] (by rfl), grp_step _ 1 b _ _ _ D _ (by rw [h1]; rfl), grp_step _ 2 c _ _ _ D _ (by rw [h2]; rfl), grp_step _ 3 d _ _ _ D _ (by rw [h3]; rfl), hg]
    rfl
  unfold phi_classes g_classes
  rw [hs, seq_nx s0]
  unfold grpB
  show ((if _ then ((enumI (lstD (varD 0)) [some (.d (K04.fd [a, b, c, d])), none, none, none] D).bind fun r => _) else none).bind outD) = _
  rw [if_pos (by rfl), e, Option.bind_some]
  show ((grpL tgG (callD phi_marks_of (argD (varD 3) (argN))) (varD 2) [gD 0 a, gD 1 b, gD 2 c, gD 3 d] [some (.d (K04.fd [a, b, c, d])), none, none, none] D []).bind _).bind outD = _
  rw [g, Option.bind_some, if_pos hl]
  rfl
theorem classes_ok {a b : Rl} (h : a ≠ b) (c : Rl) (D : Dw) : phi_classes [.d (K04.fd [a, b, c, b])] D = some (.list ((gr4 a b c b).map nd), D) := by
  have n1 := key_ne h
  have n2 := key_ne (Ne.symm h)
  have h' := Ne.symm h
  by_cases ca : c = a
  · subst ca
    have g : (gr4 c b c b) = [[0, 2], [1, 3]] := by simp [gr4, fst4, at4, h, h']
    rw [g, classes_go (gs := [(tx (mkL c), [.int (0 : Nat), .int (2 : Nat)]), (tx (mkL b), [.int (1 : Nat), .int (3 : Nat)])]) D (by simp [grpS, n1, n2]) (by simp [grpS, smallG]) (by simp [grpS, smallG, n1]) (by simp [grpS, smallG, n1]) (by simp)]
    rfl
  · by_cases cb : c = b
    · subst cb
      have g : (gr4 a c c c) = [[0], [1, 2, 3]] := by simp [gr4, fst4, at4, h, h']
      rw [g, classes_go (gs := [(tx (mkL a), [.int (0 : Nat)]), (tx (mkL c), [.int (1 : Nat), .int (2 : Nat), .int (3 : Nat)])]) D (by simp [grpS, n1, n2]) (by simp [grpS, smallG]) (by simp [grpS, smallG, n1]) (by simp [grpS, smallG, n1]) (by simp)]
      rfl
    · have m1 := key_ne ca
      have m2 := key_ne (Ne.symm ca)
      have m3 := key_ne cb
      have m4 := key_ne (Ne.symm cb)
      have g : (gr4 a b c b) = [[0], [1, 3], [2]] := by simp [gr4, fst4, at4, h, h', ca, cb, Ne.symm ca, Ne.symm cb]
      rw [g, classes_go (gs := [(tx (mkL a), [.int (0 : Nat)]), (tx (mkL b), [.int (1 : Nat), .int (3 : Nat)]), (tx (mkL c), [.int (2 : Nat)])]) D (by simp [grpS, n1, n2, m1, m2, m3, m4]) (by simp [grpS, smallG]) (by simp [grpS, smallG, n1]) (by simp [grpS, smallG, n1, m1, m2, m3, m4]) (by simp)]
      rfl
/-! ### a rule with one part changed -/
theorem changed_ok {n : Nat} {D : Dw} (r : Rl) (h : DG' (n + 6) D) : ∃ (r2 : Rl) (D' : Dw), phi__law_changed [.drw, .d r.data] D = some (r2.data, D') ∧ DG' n D' := by
  obtain ⟨q, D1, e1, q0, q1, g1⟩ := call_draw (lim := 5) (n := n + 5) h (by decide) (by decide)
  obtain ⟨r', D2, e2, g2⟩ := rule_ok (n := n) g1
  have e1' : phi__law_draw [.drw, .d (.int 5)] D = some (.int q, D1) := e1
  have hs : startA N__law_changed [.drw, .d r.data] = [some .drw, some (.d r.data), none] := rfl
  have s1 : asgS 2 (callD phi__law_draw (argW 0 (argD (cD (.int 5)) (argN)))) [some .drw, some (.d r.data), none] D = some (.nx [some .drw, some (.d r.data), some (.d (.int q))] D1) := by
    simp [asgS, callD, argW, drwD, argD, cD, argN, e1']
  have er : callD phi__law_rule (argW 0 (argN)) [some .drw, some (.d r.data), some (.d (.int q))] D1 = some (r'.data, D2) := by
    simp [callD, argW, drwD, argN, e2]
  have hq : q = 0 ∨ q = 1 ∨ q = 2 ∨ q = 3 ∨ q = 4 := by omega
  unfold phi__law_changed g__law_changed
  rw [hs, seq_nx s1]
  unfold retS
  rcases hq with rfl | rfl | rfl | rfl | rfl
  · refine ⟨⟨r'.c, r.f, r.b, r.e, r.t⟩, D2, ?_, g2⟩
    rw [bin_of (bin_of (show slD (varD 1) none (some (varD 2)) [some .drw, some (.d r.data), some (.d (.int 0))] D1 = some (.tuple [], D1) from rfl) (tup1_of (bin_of er rfl (show ixO r'.data (.int 0) = some (.str r'.c.w) from rfl))) (show addOO (.tuple []) (.tuple [.str r'.c.w]) = some (.tuple [.str r'.c.w]) from rfl)) (show slD (varD 1) (some (binD addOO (varD 2) (cD (.int 1)))) none [some .drw, some (.d r.data), some (.d (.int 0))] D2 = some (.tuple [.str r.f.w, .str (barW r.b), .str (endW r.e), .int (if r.t then 1 else 0)], D2) from rfl) (show addOO (.tuple [.str r'.c.w]) (.tuple [.str r.f.w, .str (barW r.b), .str (endW r.e), .int (if r.t then 1 else 0)]) = some (.tuple [.str r'.c.w, .str r.f.w, .str (barW r.b), .str (endW r.e), .int (if r.t then 1 else 0)]) from rfl)]
    rfl
  · refine ⟨⟨r.c, r'.f, r.b, r.e, r.t⟩, D2, ?_, g2⟩
    rw [bin_of (bin_of (show slD (varD 1) none (some (varD 2)) [some .drw, some (.d r.data), some (.d (.int 1))] D1 = some (.tuple [.str r.c.w], D1) from rfl) (tup1_of (bin_of er rfl (show ixO r'.data (.int 1) = some (.str r'.f.w) from rfl))) (show addOO (.tuple [.str r.c.w]) (.tuple [.str r'.f.w]) = some (.tuple [.str r.c.w, .str r'.f.w]) from rfl)) (show slD (varD 1) (some (binD addOO (varD 2) (cD (.int 1)))) none [some .drw, some (.d r.data), some (.d (.int 1))] D2 = some (.tuple [.str (barW r.b), .str (endW r.e), .int (if r.t then 1 else 0)], D2) from rfl) (show addOO (.tuple [.str r.c.w, .str r'.f.w]) (.tuple [.str (barW r.b), .str (endW r.e), .int (if r.t then 1 else 0)]) = some (.tuple [.str r.c.w, .str r'.f.w, .str (barW r.b), .str (endW r.e), .int (if r.t then 1 else 0)]) from rfl)]
    rfl
  · refine ⟨⟨r.c, r.f, r'.b, r.e, r.t⟩, D2, ?_, g2⟩
    rw [bin_of (bin_of (show slD (varD 1) none (some (varD 2)) [some .drw, some (.d r.data), some (.d (.int 2))] D1 = some (.tuple [.str r.c.w, .str r.f.w], D1) from rfl) (tup1_of (bin_of er rfl (show ixO r'.data (.int 2) = some (.str (barW r'.b)) from rfl))) (show addOO (.tuple [.str r.c.w, .str r.f.w]) (.tuple [.str (barW r'.b)]) = some (.tuple [.str r.c.w, .str r.f.w, .str (barW r'.b)]) from rfl)) (show slD (varD 1) (some (binD addOO (varD 2) (cD (.int 1)))) none [some .drw, some (.d r.data), some (.d (.int 2))] D2 = some (.tuple [.str (endW r.e), .int (if r.t then 1 else 0)], D2) from rfl) (show addOO (.tuple [.str r.c.w, .str r.f.w, .str (barW r'.b)]) (.tuple [.str (endW r.e), .int (if r.t then 1 else 0)]) = some (.tuple [.str r.c.w, .str r.f.w, .str (barW r'.b), .str (endW r.e), .int (if r.t then 1 else 0)]) from rfl)]
    rfl
  · refine ⟨⟨r.c, r.f, r.b, r'.e, r.t⟩, D2, ?_, g2⟩
    rw [bin_of (bin_of (show slD (varD 1) none (some (varD 2)) [some .drw, some (.d r.data), some (.d (.int 3))] D1 = some (.tuple [.str r.c.w, .str r.f.w, .str (barW r.b)], D1) from rfl) (tup1_of (bin_of er rfl (show ixO r'.data (.int 3) = some (.str (endW r'.e)) from rfl))) (show addOO (.tuple [.str r.c.w, .str r.f.w, .str (barW r.b)]) (.tuple [.str (endW r'.e)]) = some (.tuple [.str r.c.w, .str r.f.w, .str (barW r.b), .str (endW r'.e)]) from rfl)) (show slD (varD 1) (some (binD addOO (varD 2) (cD (.int 1)))) none [some .drw, some (.d r.data), some (.d (.int 3))] D2 = some (.tuple [.int (if r.t then 1 else 0)], D2) from rfl) (show addOO (.tuple [.str r.c.w, .str r.f.w, .str (barW r.b), .str (endW r'.e)]) (.tuple [.int (if r.t then 1 else 0)]) = some (.tuple [.str r.c.w, .str r.f.w, .str (barW r.b), .str (endW r'.e), .int (if r.t then 1 else 0)]) from rfl)]
    rfl
  · refine ⟨⟨r.c, r.f, r.b, r.e, r'.t⟩, D2, ?_, g2⟩
    rw [bin_of (bin_of (show slD (varD 1) none (some (varD 2)) [some .drw, some (.d r.data), some (.d (.int 4))] D1 = some (.tuple [.str r.c.w, .str r.f.w, .str (barW r.b), .str (endW r.e)], D1) from rfl) (tup1_of (bin_of er rfl (show ixO r'.data (.int 4) = some (.int (if r'.t then 1 else 0)) from rfl))) (show addOO (.tuple [.str r.c.w, .str r.f.w, .str (barW r.b), .str (endW r.e)]) (.tuple [.int (if r'.t then 1 else 0)]) = some (.tuple [.str r.c.w, .str r.f.w, .str (barW r.b), .str (endW r.e), .int (if r'.t then 1 else 0)]) from rfl)) (show slD (varD 1) (some (binD addOO (varD 2) (cD (.int 1)))) none [some .drw, some (.d r.data), some (.d (.int 4))] D2 = some (.tuple [], D2) from rfl) (show addOO (.tuple [.str r.c.w, .str r.f.w, .str (barW r.b), .str (endW r.e), .int (if r'.t then 1 else 0)]) (.tuple []) = some (.tuple [.str r.c.w, .str r.f.w, .str (barW r.b), .str (endW r.e), .int (if r'.t then 1 else 0)]) from rfl)]
    rfl
end K04

end
-- K04t
section
set_option Elab.async false
set_option linter.all false
set_option maxRecDepth 100000
set_option maxHeartbeats 2000000
namespace K04
open PySem PySem.Spec PyProof.Rows L2 Den
variable [TB : Tabl]
/-! ### the least number of signs -/
abbrev sL (one other : Rl) (l s f g t fa ta a b : Option AV) : Den.Env := [none, some .drw, some (.d one.data), some (.d other.data), l, s, f, g, t, fa, ta, a, b]
def loD : Option Nat → PyData
  | none => .none
  | some s => .int (s : Nat)
theorem lo_none (o : Option Nat) : isO (loD o) .none = some (.bool o.isNone) := by cases o <;> rfl
theorem lo_nnone (o : Option Nat) : isNotO (loD o) .none = some (.bool (!o.isNone)) := by cases o <;> rfl
def bodyL : FS := ifS (boolD (binD neO (callD phi__law_compare (argD (varD 2) (argD (varD 6) (argD (varD 7) (argN))))) (callD phi__law_compare (argD (varD 3) (argD (varD 6) (argD (varD 7) (argN))))))) (seqS (asgS 4 (varD 5)) (bkS)) (nxS)
abbrev tgL : PyData → Den.Env → Option Den.Env := tupG 2 (consG (nameG 6) (consG (nameG 7) (nilG)))
theorem c3_of {φ : Fn} {f g h : FE} {ρ : Den.Env} {D D1 D2 D3 : Dw} {x y z : PyData} (e1 : f ρ D = some (x, D1)) (e2 : g ρ D1 = some (y, D2)) (e3 : h ρ D2 = some (z, D3)) : callD φ (argD f (argD g (argD h (argN)))) ρ D = φ [.d x, .d y, .d z] D3 := by
  simp [callD, argD, e1, e2, e3, argN]
abbrev GP (p : Pr) : Prop := (GL p.1 ∧ p.1.length ≤ 500) ∧ GL p.2 ∧ p.2.length ≤ 500
theorem cmp1 {one other : Rl} {l s t fa ta a b : Option AV} {p : Pr} (h : GP p) (D : Dw) : callD phi__law_compare (argD (varD 2) (argD (varD 6) (argD (varD 7) (argN)))) (sL one other l s (some (.d (sd p.1))) (some (.d (sd p.2))) t fa ta a b) D = some (.int (told one p.1 p.2), D) :=
  (c3_of rfl rfl rfl).trans (law_compare_ok one h.1.1 h.1.2 h.2.1 h.2.2 D)
theorem cmp2 {one other : Rl} {l s t fa ta a b : Option AV} {p : Pr} (h : GP p) (D : Dw) : callD phi__law_compare (argD (varD 3) (argD (varD 6) (argD (varD 7) (argN)))) (sL one other l s (some (.d (sd p.1))) (some (.d (sd p.2))) t fa ta a b) D = some (.int (told other p.1 p.2), D) :=
  (c3_of rfl rfl rfl).trans (law_compare_ok other h.1.1 h.1.2 h.2.1 h.2.2 D)
theorem loop_l (one other : Rl) (k : Nat) (t fa ta x y : Option AV) (D : Dw) : ∀ (ps : List Pr), (∀ p ∈ ps, GP p) → ∀ a b : Option AV,
    ((∀ p ∈ ps, cd one p = cd other p) ∧ ∃ a' b', loopD tgL bodyL (ps.map pD) (sL one other (some (.d .none)) (some (.d (.int (k : Nat)))) a b t fa ta x y) D = some (.nx (sL one other (some (.d .none)) (some (.d (.int (k : Nat)))) a' b' t fa ta x y) D)) ∨
    ((∃ p ∈ ps, cd one p ≠ cd other p) ∧ ∃ a' b', loopD tgL bodyL (ps.map pD) (sL one other (some (.d .none)) (some (.d (.int (k : Nat)))) a b t fa ta x y) D = some (.nx (sL one other (some (.d (.int (k : Nat)))) (some (.d (.int (k : Nat)))) a' b' t fa ta x y) D))
  | [], _, a, b => .inl ⟨(fun _ h => nomatch h), a, b, rfl⟩
  | p :: ps, h, a, b => by
    have hp := h p (List.mem_cons_self ..)
    have t1 : tgL (pD p) (sL one other (some (.d .none)) (some (.d (.int (k : Nat)))) a b t fa ta x y) = some (sL one other (some (.d .none)) (some (.d (.int (k : Nat)))) (some (.d (sd p.1))) (some (.d (sd p.2))) t fa ta x y) := rfl
    have tt : boolD (binD neO (callD phi__law_compare (argD (varD 2) (argD (varD 6) (argD (varD 7) (argN))))) (callD phi__law_compare (argD (varD 3) (argD (varD 6) (argD (varD 7) (argN)))))) (sL one other (some (.d .none)) (some (.d (.int (k : Nat)))) (some (.d (sd p.1))) (some (.d (sd p.2))) t fa ta x y) D = some (!decide (told one p.1 p.2 = told other p.1 p.2), D) := t_ne (cmp1 hp D) (cmp2 hp D)
    by_cases q : told one p.1 p.2 = told other p.1 p.2
    · have b1 : bodyL (sL one other (some (.d .none)) (some (.d (.int (k : Nat)))) (some (.d (sd p.1))) (some (.d (sd p.2))) t fa ta x y) D = some (.nx (sL one other (some (.d .none)) (some (.d (.int (k : Nat)))) (some (.d (sd p.1))) (some (.d (sd p.2))) t fa ta x y) D) := by
        unfold bodyL ifS
        rw [tt, decide_eq_true q, Option.bind_some, if_neg (by exact Bool.false_ne_true)]
        rfl
      rw [List.map_cons, loop_step t1 b1]
      have qc := (cd_told (r := one) (r' := other) hp.1.1 hp.2.1).mpr q
      rcases loop_l one other k t fa ta x y D ps (fun z hz => h z (List.mem_cons_of_mem _ hz)) (some (.d (sd p.1))) (some (.d (sd p.2))) with ⟨h1, h2⟩ | ⟨⟨z, hz, hn⟩, h2⟩
      · exact .inl ⟨fun z hz => (List.mem_cons.mp hz).elim (fun e => by rw [e]; exact qc) (h1 z), h2⟩
      · exact .inr ⟨⟨z, List.mem_cons_of_mem _ hz, hn⟩, h2⟩
    · refine .inr ⟨⟨p, List.mem_cons_self .., fun z => q ((cd_told (r := one) (r' := other) hp.1.1 hp.2.1).mp z)⟩, some (.d (sd p.1)), some (.d (sd p.2)), ?_⟩
      rw [List.map_cons, loopD, t1, Option.bind_some]
      unfold bodyL ifS
      rw [tt, decide_eq_false q, Option.bind_some, if_pos (by rfl)]
      rfl
def inL : FS := forS (lstD (ifE (boolD (binD isO (varD 4) (cD .none))) (callD phi__law_pairs (argD (varD 5) (argN))) (datD (dispD (argN))))) tgL bodyL
def PrevOk (r r' : Rl) (k : Nat) (o : Option Nat) : Prop := (o = none → ∀ j < k, ∀ p ∈ prs j, cd r p = cd r' p) ∧ ∀ s, o = some s → s < k ∧ (∃ p ∈ prs s, cd r p ≠ cd r' p) ∧ ∀ j < s, ∀ p ∈ prs j, cd r p = cd r' p
theorem in_l (one other : Rl) (t fa ta x y : Option AV) (k : Nat) (D : Dw) (hk : phi__law_pairs [.d (.int (k : Nat))] D = some (.list ((prs k).map pD), D)) (hc : ∀ p ∈ prs k, GP p) (o : Option Nat) (ho : PrevOk one other k o) (a b : Option AV) :
    ∃ o' a' b', inL (sL one other (some (.d (loD o))) (some (.d (.int (k : Nat)))) a b t fa ta x y) D = some (.nx (sL one other (some (.d (loD o'))) (some (.d (.int (k : Nat)))) a' b' t fa ta x y) D) ∧ PrevOk one other (k + 1) o' := by
  have tt : boolD (binD isO (varD 4) (cD .none)) (sL one other (some (.d (loD o))) (some (.d (.int (k : Nat)))) a b t fa ta x y) D = some (o.isNone, D) := bool_b (bin_of rfl (c_c _ _ _) (lo_none _))
  cases o with
  | some s =>
    refine ⟨some s, a, b, ?_, (fun z => nomatch z), fun s' hs => ?_⟩
    · have e1 : lstD (ifE (boolD (binD isO (varD 4) (cD .none))) (callD phi__law_pairs (argD (varD 5) (argN))) (datD (dispD (argN)))) (sL one other (some (.d (loD (some s)))) (some (.d (.int (k : Nat)))) a b t fa ta x y) D = some ([], D) := by
        refine lst_of ?_
        unfold ifE
        rw [tt, Option.bind_some, if_neg (by exact Bool.false_ne_true)]
        rfl
      unfold inL
      rw [for_of e1]
      rfl
    · obtain ⟨h1, h2⟩ := ho.2 s' hs
      exact ⟨by omega, h2⟩
  | none =>
    have c1 : callD phi__law_pairs (argD (varD 5) (argN)) (sL one other (some (.d (loD none))) (some (.d (.int (k : Nat)))) a b t fa ta x y) D = some (.list ((prs k).map pD), D) := (c1_of rfl).trans hk
    have e1 : lstD (ifE (boolD (binD isO (varD 4) (cD .none))) (callD phi__law_pairs (argD (varD 5) (argN))) (datD (dispD (argN)))) (sL one other (some (.d (loD none))) (some (.d (.int (k : Nat)))) a b t fa ta x y) D = some ((prs k).map pD, D) := by
      refine lst_of ?_
      unfold ifE
      rw [tt, Option.bind_some, if_pos (by rfl), c1]
    unfold inL
    rw [for_of e1]
    have hb := ho.1 rfl
    rcases loop_l one other k t fa ta x y D (prs k) hc a b with ⟨h1, a', b', e⟩ | ⟨h1, a', b', e⟩
    · refine ⟨none, a', b', e, fun _ j hj p hp => ?_, (fun _ z => nomatch z)⟩
      by_cases z : j = k
      · subst z; exact h1 p hp
      · exact hb j (by omega) p hp
    · refine ⟨some k, a', b', e, (fun z => nomatch z), fun s hs => ?_⟩
      cases hs
      exact ⟨by omega, h1, hb⟩
def okP (k : Nat) : Bool := (prs k).all fun p => (p.1.all good && decide (p.1.length ≤ 500)) && (p.2.all good && decide (p.2.length ≤ 500))
theorem okP_all {k : Nat} (h : okP k = true) : ∀ p ∈ prs k, GP p := fun p hp => by
  have z := List.all_eq_true.mp h p hp
  simp only [Bool.and_eq_true, decide_eq_true_eq, List.all_eq_true] at z
  exact ⟨z.1, z.2⟩
theorem outer_l (one other : Rl) (t fa ta x y : Option AV) (D : Dw) : ∃ o s a b, forS (rng1I (cD (.int 3))) (nameG 5) inL (sL one other (some (.d .none)) none none none t fa ta x y) D = some (.nx (sL one other (some (.d (loD o))) s a b t fa ta x y) D) ∧ LstOk one other o := by
  obtain ⟨o0, a0, b0, e0, p0⟩ := in_l one other t fa ta x y 0 D (prs0 D) (okP_all (by decide +kernel)) none ⟨fun _ j hj => absurd hj (Nat.not_lt_zero _), (fun _ z => nomatch z)⟩ none none
  obtain ⟨o1, a1, b1, e1, p1⟩ := in_l one other t fa ta x y 1 D (prs1 D) (okP_all (by decide +kernel)) o0 p0 a0 b0
  obtain ⟨o2, a2, b2, e2, p2⟩ := in_l one other t fa ta x y 2 D (prs2 D) (okP_all (by decide +kernel)) o1 p1 a1 b1
  refine ⟨o2, some (.d (.int ((2 : Nat) : Int))), a2, b2, ?_, fun h k hk => p2.1 h k (by omega), fun s hs => ?_⟩
  · have n5 : ∀ (z : PyData) (l s a b : Option AV), nameG 5 z (sL one other l s a b t fa ta x y) = some (sL one other l (some (.d z)) a b t fa ta x y) := fun _ _ _ _ _ => rfl
    have three : ∀ ρ : Den.Env, rng1I (cD (.int 3)) ρ D = some ([.int ((0 : Nat) : Int), .int ((1 : Nat) : Int), .int ((2 : Nat) : Int)], D) := fun _ => rfl
    change inL (sL one other (some (.d .none)) (some (.d (.int ((0 : Nat) : Int)))) none none t fa ta x y) D = _ at e0
    rw [for_of (three _), loop_step (n5 ..) e0, loop_step (n5 ..) e1, loop_step (n5 ..) e2]
    rfl
  · obtain ⟨h1, h2⟩ := p2.2 s hs
    exact ⟨by omega, h2⟩
/-! ### the table, by places -/
theorem and_v {f g : FE} {ρ : Den.Env} {D D1 : Dw} {z : PyData × Dw} (h1 : f ρ D = some (.bool true, D1)) (h2 : g ρ D1 = some z) : andV f g ρ D = some z := by
  unfold andV
  rw [h1, Option.bind_some]
  show (some true).bind _ = _
  rw [Option.bind_some, if_pos rfl]
  exact h2
theorem sh_pd {p : Pr} (h1 : GL p.1) (h2 : GL p.2) : Shp 1 (pD p) := shp_tup fun x hx => by
  simp only [List.mem_cons, List.not_mem_nil, or_false] at hx
  rcases hx with rfl | rfl
  · exact shp_ml (gl_ml h1)
  · exact shp_ml (gl_ml h2)
theorem ev_pd (p : Pr) : PyData.eqv (pD p) (.str "none") = false := by
  unfold pD
  rw [PyData.eqv]
  all_goals simp
abbrev F4 (one other c : Rl) : List Rl := [one, other, c, other]
theorem tab_at {one other c : Rl} {i j : Nat} {ρ : Den.Env} {D : Dw} {f g : FE} (hi : i ∈ n4) (hj : j ∈ n4) (h10 : ρ[10]? = some (some (.d (tabL (F4 one other c))))) (ef : f ρ D = some (.int (i : Nat), D)) (eg : g ρ D = some (.int (j : Nat), D)) :
    binD ixO (binD ixO (varD 10) f) g ρ D = some (lsD (fO (at4 one other c other i) (at4 one other c other j)), D) := by
  have v : varD 10 ρ D = some (tabL (F4 one other c), D) := by simp [varD, h10]
  have e1 : binD ixO (varD 10) f ρ D = some (.list ((F4 one other c).map fun b => lsD (fO (at4 one other c other i) b)), D) := by
    refine bin_of v ef (ixO_list ?_)
    simp only [List.mem_cons, List.not_mem_nil, or_false] at hi
    rcases hi with rfl | rfl | rfl | rfl <;> rfl
  refine bin_of e1 eg (ixO_list ?_)
  simp only [List.mem_cons, List.not_mem_nil, or_false] at hj
  rcases hj with rfl | rfl | rfl | rfl <;> rfl
theorem fam_at {one other c : Rl} {i : Nat} {ρ : Den.Env} {D : Dw} {f : FE} (hi : i ∈ n4) (h9 : ρ[9]? = some (some (.d (K04.fd (F4 one other c))))) (ef : f ρ D = some (.int (i : Nat), D)) : binD ixO (varD 9) f ρ D = some ((at4 one other c other i).data, D) := by
  have v : varD 9 ρ D = some (K04.fd (F4 one other c), D) := by simp [varD, h9]
  refine bin_of v ef (ixO_list ?_)
  simp only [List.mem_cons, List.not_mem_nil, or_false] at hi
  rcases hi with rfl | rfl | rfl | rfl <;> rfl
theorem neO_b (x y : Bool) : neO (.bool x) (.bool y) = some (.bool (!decide (x = y))) := by cases x <;> cases y <;> kernel_rfl
theorem iso (x y : Bool) : isO (.bool x) (.bool y) = some (.bool (decide (x = y))) := by cases x <;> cases y <;> kernel_rfl
theorem isn (x y : Bool) : isNotO (.bool x) (.bool y) = some (.bool (!decide (x = y))) := by cases x <;> cases y <;> kernel_rfl
def bodyT : FS := ifS (orT (boolD (binD neO (binD isO (binD ixO (binD ixO (varD 10) (varD 11)) (varD 12)) (cD .none)) (binD eqO (binD ixO (varD 9) (varD 11)) (binD ixO (varD 9) (varD 12))))) (boolD (binD neO (binD ixO (binD ixO (varD 10) (varD 11)) (varD 12)) (binD ixO (binD ixO (varD 10) (varD 12)) (varD 11))))) (retS (cD (.bool false))) (nxS)
abbrev sT (one other c : Rl) (l s f g t a b : Option AV) : Den.Env := sL one other l s f g t (some (.d (K04.fd (F4 one other c)))) (some (.d (tabL (F4 one other c)))) a b
theorem body_t {one other c : Rl} {l s f g t : Option AV} {i j : Nat} (hi : i ∈ n4) (hj : j ∈ n4) (D : Dw) : bodyT (sT one other c l s f g t (some (.d (.int (i : Nat)))) (some (.d (.int (j : Nat))))) D = some (.nx (sT one other c l s f g t (some (.d (.int (i : Nat)))) (some (.d (.int (j : Nat))))) D) := by
  have v11 : varD 11 (sT one other c l s f g t (some (.d (.int (i : Nat)))) (some (.d (.int (j : Nat))))) D = some (.int (i : Nat), D) := rfl
  have v12 : varD 12 (sT one other c l s f g t (some (.d (.int (i : Nat)))) (some (.d (.int (j : Nat))))) D = some (.int (j : Nat), D) := rfl
  have t1 := tab_at (one := one) (other := other) (c := c) hi hj rfl v11 v12
  have t2 := tab_at (one := one) (other := other) (c := c) hj hi rfl v12 v11
  have f1 := fam_at (one := one) (other := other) (c := c) hi rfl v11
  have f2 := fam_at (one := one) (other := other) (c := c) hj rfl v12
  have z : neO (lsD (fO (at4 one other c other i) (at4 one other c other j))) (lsD (fO (at4 one other c other j) (at4 one other c other i))) = some (.bool false) := by
    rw [fO_sym]
    exact ne_self (sh_ls _) (by decide)
  refine if_no ((or_b (b := false) (bool_b (bin_of (bin_of t1 (c_c _ _ _) (ls_none _)) (bin_of f1 f2 (eq_of (sh_data _) (sh_data _) (ev_data _ _))) (neO_b _ _))) fun _ => bool_b (bin_of t1 t2 z)).trans ?_)
  rw [fO_iff]
  simp
theorem loop_t1 {one other c : Rl} {l s f g t : Option AV} {i : Nat} (hi : i ∈ n4) (D : Dw) : ∀ js : List Nat, (∀ j ∈ js, j ∈ n4) → ∀ b : Option AV, ∃ b', loopD (nameG 12) bodyT (js.map fun k => PyData.int (k : Nat)) (sT one other c l s f g t (some (.d (.int (i : Nat)))) b) D = some (.nx (sT one other c l s f g t (some (.d (.int (i : Nat)))) b') D)
  | [], _, b => ⟨b, rfl⟩
  | j :: js, h, b => by
    obtain ⟨b', e⟩ := loop_t1 (one := one) (other := other) (c := c) (l := l) (s := s) (f := f) (g := g) (t := t) hi D js (fun z hz => h z (List.mem_cons_of_mem _ hz)) (some (.d (.int (j : Nat))))
    refine ⟨b', ?_⟩
    rw [List.map_cons, loop_step (show nameG 12 (.int (j : Nat)) (sT one other c l s f g t (some (.d (.int (i : Nat)))) b) = some (sT one other c l s f g t (some (.d (.int (i : Nat)))) (some (.d (.int (j : Nat))))) from rfl) (body_t hi (h j (List.mem_cons_self ..)) D), e]
def inT : FS := forS (rng1I (cD (.int 4))) (nameG 12) bodyT
theorem four (ρ : Den.Env) (D : Dw) : rng1I (cD (.int 4)) ρ D = some (n4.map fun k => PyData.int (k : Nat), D) := rfl
theorem loop_t2 {one other c : Rl} {l s f g t : Option AV} (D : Dw) : ∀ js : List Nat, (∀ j ∈ js, j ∈ n4) → ∀ a b : Option AV, ∃ a' b', loopD (nameG 11) inT (js.map fun k => PyData.int (k : Nat)) (sT one other c l s f g t a b) D = some (.nx (sT one other c l s f g t a' b') D)
  | [], _, a, b => ⟨a, b, rfl⟩
  | j :: js, h, a, b => by
    obtain ⟨b1, e1⟩ := loop_t1 (one := one) (other := other) (c := c) (l := l) (s := s) (f := f) (g := g) (t := t) (h j (List.mem_cons_self ..)) D n4 (fun _ z => z) b
    obtain ⟨a', b', e⟩ := loop_t2 (one := one) (other := other) (c := c) (l := l) (s := s) (f := f) (g := g) (t := t) D js (fun z hz => h z (List.mem_cons_of_mem _ hz)) (some (.d (.int (j : Nat)))) b1
    refine ⟨a', b', ?_⟩
    have e2 : inT (sT one other c l s f g t (some (.d (.int (j : Nat)))) b) D = some (.nx (sT one other c l s f g t (some (.d (.int (j : Nat)))) b1) D) := by
      unfold inT
      rw [for_of (four _ D)]
      exact e1
    rw [List.map_cons, loop_step (show nameG 11 (.int (j : Nat)) (sT one other c l s f g t a b) = some (sT one other c l s f g t (some (.d (.int (j : Nat)))) b) from rfl) e2, e]
/-! ### the law -/
theorem strip_all : psL.all (fun q => decide (Txt.stripChars (tx (q.1 ++ q.2)) (Str.ofString "01AB_ab") = tx [])) = true := by decide +kernel
theorem li_none : (Str.ofString "") = tx [] := by decide +kernel
theorem ca_none {a b : Rl} (h : a = b) : caD (fO a b) = .str "none" := by rw [fO_none h]; rfl
theorem same_is {a b : Rl} {f g : FE} {ρ : Den.Env} {D : Dw} {x : Bool} (ef : f ρ D = some (a.data, D)) (eg : g ρ D = some (b.data, D)) : binD isO (callD phi_same (argD f (argD g (argN)))) (cD (.bool x)) ρ D = some (.bool (decide (decide (a = b) = x)), D) :=
  bin_of ((c2_of ef eg).trans (same_ok a b D)) (c_c _ _ _) (iso _ _)
theorem sh_tab (rs : List Rl) : Shp 2 (tabL rs) := shp_list fun x hx => by
  obtain ⟨a, _, rfl⟩ := List.mem_map.mp hx
  exact shp_list fun y hy => by
    obtain ⟨b, _, rfl⟩ := List.mem_map.mp hy
    exact sh_ls _
theorem law_true (ns : List Int) (h0 : 0 < ns.length) (h1 : ns.length ≤ 63) : ∃ D', g_law (lawEnv 11) (ns, 0) = some (.rt (.bool true) D') := by
  have hD : DG' (3000 + 5) (ns, (0 : Int)) := ⟨h0, by show ns.length ≤ 100000; omega, Int.le_refl 0, by show (0:Int) + _ ≤ _; decide⟩
  obtain ⟨one, D1, e1, g1⟩ := rule_ok (n := 3000) hD
  have s1 : asgS 2 (callD phi__law_rule (argW 1 (argN))) (lawEnv 11) (ns, 0) = some (.nx [none, some .drw, some (.d one.data), none, none, none, none, none, none, none, none, none, none] D1) := by
    simp [asgS, callD, argW, drwD, argN, lawEnv, e1]
  obtain ⟨q, D2, e2, q0, q1, g2⟩ := call_draw (lim := 3) (n := 2999) g1 (by decide) (by decide)
  have e2' : phi__law_draw [.drw, .d (.int 3)] D1 = some (.int q, D2) := e2
  have s2 : ∃ (other : Rl) (D3 : Dw), asgS 3 (ifE (boolD (binD gtI (callD phi__law_draw (argW 1 (argD (cD (.int 3)) (argN)))) (cD (.int 0)))) (callD phi__law_changed (argW 1 (argD (varD 2) (argN)))) (callD phi__law_rule (argW 1 (argN)))) [none, some .drw, some (.d one.data), none, none, none, none, none, none, none, none, none, none] D1 = some (.nx [none, some .drw, some (.d one.data), some (.d other.data), none, none, none, none, none, none, none, none, none] D3) ∧ DG' 2900 D3 := by
    have tst : boolD (binD gtI (callD phi__law_draw (argW 1 (argD (cD (.int 3)) (argN)))) (cD (.int 0))) [none, some .drw, some (.d one.data), none, none, none, none, none, none, none, none, none, none] D1 = some (decide (0 < q), D2) := by
      simp [boolD, binD, callD, argW, drwD, argD, cD, argN, e2', gtI, asB]
    by_cases hq : 0 < q
    · obtain ⟨other, D3, e3, g3⟩ := changed_ok (n := 2993) one g2
      refine ⟨other, D3, asg_of ?_, g3.mono (by decide)⟩
      unfold ifE
      rw [tst, Option.bind_some, if_pos (decide_eq_true hq)]
      simp [callD, argW, drwD, argD, varD, argN, e3]
    · obtain ⟨other, D3, e3, g3⟩ := rule_ok (n := 2994) g2
      refine ⟨other, D3, asg_of ?_, g3.mono (by decide)⟩
      unfold ifE
      rw [tst, Option.bind_some, if_neg (by simp [hq])]
      simp [callD, argW, drwD, argN, e3]
  obtain ⟨other, D3, s2, g3⟩ := s2
  have s3 : asgS 4 (cD .none) [none, some .drw, some (.d one.data), some (.d other.data), none, none, none, none, none, none, none, none, none] D3 = some (.nx (sL one other (some (.d .none)) none none none none none none none none) D3) := rfl
  obtain ⟨o, s, f, g, s4, lo⟩ := outer_l one other none none none none none D3
  unfold inL bodyL tgL at s4
  have s5 : asgS 8 (callD phi__law_call (argD (varD 2) (argD (varD 3) (argN)))) (sL one other (some (.d (loD o))) s f g none none none none none) D3 = some (.nx (sL one other (some (.d (loD o))) s f g (some (.d (caD (fO one other)))) none none none none) D3) := asg_of ((c2_of rfl rfl).trans (law_call_ok one other D3))
  have tN : ∀ {f g t fa ta a b : Option AV} {D : Dw}, boolD (binD isO (varD 4) (cD .none)) (sL one other (some (.d (loD o))) s f g t fa ta a b) D = some (o.isNone, D) := bool_b (bin_of rfl (c_c _ _ _) (lo_none _))
  unfold g_law
  rw [seq_nx s1, seq_nx s2, seq_nx s3, seq_nx s4, seq_nx s5]
  by_cases h : one = other
  · -- the same rule
    have on : o = none := by
      cases o with
      | none => rfl
      | some z =>
        obtain ⟨_, ⟨p, _, hp⟩, _⟩ := lo.2 z rfl
        exact absurd (by rw [h]) hp
    refine ⟨D3, seq_rt ?_⟩
    have t8 : boolD (binD eqO (varD 8) (cD (.str "none"))) (sL one other (some (.d (loD o))) s f g (some (.d (caD (fO one other)))) none none none none) D3 = some (true, D3) := by
      rw [ca_none h]
      exact bool_b (bin_of rfl (c_c _ _ _) (eq_of (sh_none.mono (by decide)) (sh_none.mono (by decide)) ev_none))
    unfold ifS
    rw [and_b tN fun _ => t8, on, Option.bind_some, if_pos (by rfl)]
    have a1 : binD eqO (varD 2) (varD 3) (sL one other (some (.d (loD none))) s f g (some (.d (caD (fO one other)))) none none none none) D3 = some (.bool true, D3) := by
      rw [bin_of rfl rfl (eq_of (sh_data one) (sh_data other) (ev_data one other)), decide_eq_true h]
    have a2 : binD isO (callD phi_same (argD (varD 2) (argD (varD 3) (argN)))) (cD (.bool true)) (sL one other (some (.d (loD none))) s f g (some (.d (caD (fO one other)))) none none none none) D3 = some (.bool true, D3) := by
      rw [same_is (a := one) (b := other) rfl rfl, decide_eq_true h]
      rfl
    have a3 : callD phi_telling_table (argD (datD (dispD (argD (varD 2) (argD (varD 3) (argN))))) (argN)) (sL one other (some (.d (loD none))) s f g (some (.d (caD (fO one other)))) none none none none) D3 = some (tabL [one, other], D3) :=
      (c1_of (x := K04.fd [one, other]) rfl).trans (telling_table_ok (by simp) (by simp) D3)
    have tb : tabL [one, other] = .list [.list [.none, .none], .list [.none, .none]] := by
      unfold tabL
      rw [h]
      simp [fO_none (rfl : other = other), lsD]
    have a4 : binD eqO (callD phi_telling_table (argD (datD (dispD (argD (varD 2) (argD (varD 3) (argN))))) (argN))) (datD (dispD (argD (datD (dispD (argD (cD .none) (argD (cD .none) (argN))))) (argD (datD (dispD (argD (cD .none) (argD (cD .none) (argN))))) (argN))))) (sL one other (some (.d (loD none))) s f g (some (.d (caD (fO one other)))) none none none none) D3 = some (.bool true, D3) := by
      refine bin_of a3 (show _ = some (PyData.list [.list [.none, .none], .list [.none, .none]], D3) from rfl) ?_
      rw [tb]
      exact eq_self (by rw [← tb]; exact sh_tab _) (by decide)
    unfold retS
    rw [and_v a1 (and_v a2 a4)]
    rfl
  · -- rules unlike
    obtain ⟨p, hp⟩ := fO_some h
    have pm := List.mem_of_find?_eq_some hp
    obtain ⟨⟨p1, l1⟩, ⟨p2, l2⟩, _⟩ := ps_gl pm
    have hu : cd one p ≠ cd other p := by simpa [ulk] using List.find?_some hp
    have ht : told one p.1 p.2 ≠ told other p.1 p.2 := fun z => hu ((cd_told p1 p2).mpr z)
    have gp : GP p := ⟨⟨p1, by omega⟩, p2, by omega⟩
    have fl := first_least hp lo
    rw [hp]
    have s6 : ∀ G : FS, ifS (andT (boolD (binD isO (varD 4) (cD .none))) (boolD (binD eqO (varD 8) (cD (.str "none"))))) G nxS (sL one other (some (.d (loD o))) s f g (some (.d (pD p))) none none none none) D3 = some (.nx (sL one other (some (.d (loD o))) s f g (some (.d (pD p))) none none none none) D3) := fun G => by
      refine if_no ((and_b tN fun _ => bool_b (bin_of rfl (c_c _ _ _) (eq_of (sh_pd p1 p2) (sh_none.mono (by decide)) (ev_pd p)))).trans ?_)
      simp
    have s7 : ∀ G : FS, ifS (orT (boolD (binD eqO (varD 2) (varD 3))) (orT (boolD (binD isNotO (callD phi_same (argD (varD 2) (argD (varD 3) (argN)))) (cD (.bool false)))) (orT (notT (truD (isiD "tuple" (varD 8)))) (boolD (binD neO (biD lenO (argD (varD 8) (argN))) (cD (.int 2))))))) G nxS (sL one other (some (.d (loD o))) s f g (some (.d (pD p))) none none none none) D3 = some (.nx (sL one other (some (.d (loD o))) s f g (some (.d (pD p))) none none none none) D3) := fun G => by
      have c1 : boolD (binD eqO (varD 2) (varD 3)) (sL one other (some (.d (loD o))) s f g (some (.d (pD p))) none none none none) D3 = some (false, D3) := by
        rw [bool_b (bin_of rfl rfl (eq_of (sh_data one) (sh_data other) (ev_data one other))), decide_eq_false h]
      have c2 : boolD (binD isNotO (callD phi_same (argD (varD 2) (argD (varD 3) (argN)))) (cD (.bool false))) (sL one other (some (.d (loD o))) s f g (some (.d (pD p))) none none none none) D3 = some (false, D3) := by
        rw [bool_b (bin_of ((c2_of rfl rfl).trans (same_ok one other D3)) (c_c _ _ _) (isn _ _)), decide_eq_false h]
        rfl
      have c3 : notT (truD (isiD "tuple" (varD 8))) (sL one other (some (.d (loD o))) s f g (some (.d (pD p))) none none none none) D3 = some (false, D3) := rfl
      have c4 : boolD (binD neO (biD lenO (argD (varD 8) (argN))) (cD (.int 2))) (sL one other (some (.d (loD o))) s f g (some (.d (pD p))) none none none none) D3 = some (false, D3) := t_ne (a := 2) (b := 2) rfl rfl
      exact if_no (or_b c1 fun _ => or_b c2 fun _ => or_b c3 fun _ => c4)
    have s8 : asgT (varD 8) (tupG 2 (consG (nameG 6) (consG (nameG 7) (nilG)))) (sL one other (some (.d (loD o))) s f g (some (.d (pD p))) none none none none) D3 = some (.nx (sL one other (some (.d (loD o))) s (some (.d (sd p.1))) (some (.d (sd p.2))) (some (.d (pD p))) none none none none) D3) := rfl
    have ad : ∀ {t fa ta a b : Option AV} {D : Dw}, binD addO (varD 6) (varD 7) (sL one other (some (.d (loD o))) s (some (.d (sd p.1))) (some (.d (sd p.2))) t fa ta a b) D = some (sd (p.1 ++ p.2), D) := bin_of rfl rfl (addO_sd (by omega))
    have ln : ∀ {t fa ta a b : Option AV} {D : Dw}, biD lenO (argD (binD addO (varD 6) (varD 7)) (argN)) (sL one other (some (.d (loD o))) s (some (.d (sd p.1))) (some (.d (sd p.2))) t fa ta a b) D = some (.int (sg p : Nat), D) := by
      intro t fa ta a b D
      rw [len_sd ad (by rw [List.length_append]; omega), List.length_append]
    have s9 : ∀ G : FS, ifS (orT (boolD (binD neO (stripD (binD addO (varD 6) (varD 7)) (cD (.str "01AB_ab"))) (cD (.str "")))) (boolD (binD eqO (callD phi__law_compare (argD (varD 2) (argD (varD 6) (argD (varD 7) (argN))))) (callD phi__law_compare (argD (varD 3) (argD (varD 6) (argD (varD 7) (argN)))))))) G nxS (sL one other (some (.d (loD o))) s (some (.d (sd p.1))) (some (.d (sd p.2))) (some (.d (pD p))) none none none none) D3 = some (.nx (sL one other (some (.d (loD o))) s (some (.d (sd p.1))) (some (.d (sd p.2))) (some (.d (pD p))) none none none none) D3) := fun G => by
      have st : stripD (binD addO (varD 6) (varD 7)) (cD (.str "01AB_ab")) (sL one other (some (.d (loD o))) s (some (.d (sd p.1))) (some (.d (sd p.2))) (some (.d (pD p))) none none none none) D3 = some (sd [], D3) := by
        unfold stripD
        rw [ad, Option.bind_some]
        show (if (tx (p.1 ++ p.2)).length ≤ 1000000 then some (PyData.str (Txt.stripChars (tx (p.1 ++ p.2)) (Str.ofString "01AB_ab")), D3) else none) = _
        rw [tx_len, if_pos (by rw [List.length_append]; omega), of_decide_eq_true (List.all_eq_true.mp strip_all p pm)]
      have ne : neO (sd []) (.str "") = some (.bool false) := by
        rw [show (PyData.str "") = sd [] from congrArg PyData.str li_none]
        exact ne_self (shp_ml (fun _ h => nomatch h)) (by decide)
      refine if_no ((or_b (bool_b (bin_of st (c_c _ _ _) ne)) fun _ => t_eq (cmp1 gp D3) (cmp2 gp D3)).trans ?_)
      simp [ht]
    have s10 : ∀ G : FS, ifS (orT (andT (boolD (binD isNotO (varD 4) (cD .none))) (boolD (binD neO (biD lenO (argD (binD addO (varD 6) (varD 7)) (argN))) (varD 4)))) (andT (boolD (binD isO (varD 4) (cD .none))) (boolD (binD ltA (biD lenO (argD (binD addO (varD 6) (varD 7)) (argN))) (cD (.int 3)))))) G nxS (sL one other (some (.d (loD o))) s (some (.d (sd p.1))) (some (.d (sd p.2))) (some (.d (pD p))) none none none none) D3 = some (.nx (sL one other (some (.d (loD o))) s (some (.d (sd p.1))) (some (.d (sd p.2))) (some (.d (pD p))) none none none none) D3) := fun G => by
      have nN : boolD (binD isNotO (varD 4) (cD .none)) (sL one other (some (.d (loD o))) s (some (.d (sd p.1))) (some (.d (sd p.2))) (some (.d (pD p))) none none none none) D3 = some (!o.isNone, D3) := bool_b (bin_of rfl (c_c _ _ _) (lo_nnone _))
      have lt : boolD (binD ltA (biD lenO (argD (binD addO (varD 6) (varD 7)) (argN))) (cD (.int 3))) (sL one other (some (.d (loD o))) s (some (.d (sd p.1))) (some (.d (sd p.2))) (some (.d (pD p))) none none none none) D3 = some (decide (((sg p : Nat) : Int) < 3), D3) := bool_b (bin_of ln (c_c _ _ _) (ltA_int _ _))
      have nl : (!o.isNone) = true → boolD (binD neO (biD lenO (argD (binD addO (varD 6) (varD 7)) (argN))) (varD 4)) (sL one other (some (.d (loD o))) s (some (.d (sd p.1))) (some (.d (sd p.2))) (some (.d (pD p))) none none none none) D3 = some (false, D3) := fun z => by
        cases o with
        | none => cases z
        | some k =>
          have fl : sg p = k := fl
          have v : varD 4 (sL one other (some (.d (loD (some k)))) s (some (.d (sd p.1))) (some (.d (sd p.2))) (some (.d (pD p))) none none none none) D3 = some (.int (k : Nat), D3) := rfl
          rw [t_ne ln v, fl]
          simp
      refine if_no ((or_b (and_b nN nl) fun _ => and_b tN fun _ => lt).trans ?_)
      cases o with
      | none =>
        have fl : 3 ≤ sg p := fl
        have : ¬ ((sg p : Nat) : Int) < 3 := by omega
        rw [decide_eq_false this]
        rfl
      | some k => rfl
    obtain ⟨c, D4, e4, g4⟩ := changed_ok (n := 2000) one (g3.mono (by decide))
    have s11 : asgS 9 (datD (dispD (argD (varD 2) (argD (varD 3) (argD (callD phi__law_changed (argW 1 (argD (varD 2) (argN)))) (argD (varD 3) (argN))))))) (sL one other (some (.d (loD o))) s (some (.d (sd p.1))) (some (.d (sd p.2))) (some (.d (pD p))) none none none none) D3 = some (.nx (sL one other (some (.d (loD o))) s (some (.d (sd p.1))) (some (.d (sd p.2))) (some (.d (pD p))) (some (.d (K04.fd (F4 one other c)))) none none none) D4) := by
      have ec : callD phi__law_changed (argW 1 (argD (varD 2) (argN))) (sL one other (some (.d (loD o))) s (some (.d (sd p.1))) (some (.d (sd p.2))) (some (.d (pD p))) none none none none) D3 = some (c.data, D4) := by
        simp [callD, argW, drwD, argD, varD, argN, e4]
      have v2 : varD 2 (sL one other (some (.d (loD o))) s (some (.d (sd p.1))) (some (.d (sd p.2))) (some (.d (pD p))) none none none none) D3 = some (one.data, D3) := rfl
      have v3 : ∀ D : Dw, varD 3 (sL one other (some (.d (loD o))) s (some (.d (sd p.1))) (some (.d (sd p.2))) (some (.d (pD p))) none none none none) D = some (other.data, D) := fun _ => rfl
      exact asg_of (dat_of (xs := [one.data, other.data, c.data, other.data]) (by simp [dispD, argD, ec, v2, v3, argN, allD]))
    have s12 : asgS 10 (callD phi_telling_table (argD (varD 9) (argN))) (sL one other (some (.d (loD o))) s (some (.d (sd p.1))) (some (.d (sd p.2))) (some (.d (pD p))) (some (.d (K04.fd (F4 one other c)))) none none none) D4 = some (.nx (sT one other c (some (.d (loD o))) s (some (.d (sd p.1))) (some (.d (sd p.2))) (some (.d (pD p))) none none) D4) :=
      asg_of ((c1_of rfl).trans (telling_table_ok (rs := F4 one other c) (by simp) (by simp) D4))
    have s13 : ∀ G : FS, ifS (orT (boolD (binD neO (binD ixO (binD ixO (varD 10) (cD (.int 0))) (cD (.int 1))) (biD lenO (argD (binD addO (varD 6) (varD 7)) (argN))))) (boolD (binD neO (callD phi_classes (argD (varD 9) (argN))) (callD phi__law_groups (argD (varD 9) (argN)))))) G nxS (sT one other c (some (.d (loD o))) s (some (.d (sd p.1))) (some (.d (sd p.2))) (some (.d (pD p))) none none) D4 = some (.nx (sT one other c (some (.d (loD o))) s (some (.d (sd p.1))) (some (.d (sd p.2))) (some (.d (pD p))) none none) D4) := fun G => by
      have i1 : binD ixO (binD ixO (varD 10) (cD (.int 0))) (cD (.int 1)) (sT one other c (some (.d (loD o))) s (some (.d (sd p.1))) (some (.d (sd p.2))) (some (.d (pD p))) none none) D4 = some (.int (sg p : Nat), D4) := by
        rw [tab_at (one := one) (other := other) (c := c) (i := 0) (j := 1) (f := cD (.int 0)) (g := cD (.int 1)) (by simp) (by simp) rfl rfl rfl]
        show some (lsD (fO one other), D4) = _
        rw [hp]
        rfl
      have i2 : neO (.list ((gr4 one other c other).map nd)) (.list ((gr4 one other c other).map nd)) = some (.bool false) := ne_self (n := 2) (shp_list fun x hx => by
        obtain ⟨ks, _, rfl⟩ := List.mem_map.mp hx
        exact shp_nd ks) (by decide)
      refine if_no ((or_b (t_ne i1 ln) fun _ => bool_b (bin_of ((c1_of rfl).trans (classes_ok h c D4)) ((c1_of rfl).trans (law_groups_ok one other c other D4)) i2)).trans ?_)
      simp
    obtain ⟨a', b', s14⟩ := loop_t2 (one := one) (other := other) (c := c) (l := some (.d (loD o))) (s := s) (f := some (.d (sd p.1))) (g := some (.d (sd p.2))) (t := some (.d (pD p))) D4 n4 (fun _ z => z) none none
    have s14 := (for_of (tf := nameG 11) (gb := inT) (four (sT one other c (some (.d (loD o))) s (some (.d (sd p.1))) (some (.d (sd p.2))) (some (.d (pD p))) none none) D4)).trans s14
    unfold inT bodyT at s14
    refine ⟨D4, ?_⟩
    show seqS _ _ (sL one other (some (.d (loD o))) s f g (some (.d (pD p))) none none none none) D3 = _
    rw [seq_nx (s6 _), seq_nx (s7 _), seq_nx s8, seq_nx (s9 _), seq_nx (s10 _), seq_nx s11, seq_nx s12, seq_nx (s13 _), seq_nx s14]
    have b1 : binD isO (callD phi_same (argD (varD 3) (argD (varD 2) (argN)))) (cD (.bool false)) (sT one other c (some (.d (loD o))) s (some (.d (sd p.1))) (some (.d (sd p.2))) (some (.d (pD p))) a' b') D4 = some (.bool true, D4) := by
      rw [same_is (a := other) (b := one) rfl rfl, decide_eq_false (Ne.symm h)]
      rfl
    have b2 : binD isO (callD phi_same (argD (varD 2) (argD (varD 2) (argN)))) (cD (.bool true)) (sT one other c (some (.d (loD o))) s (some (.d (sd p.1))) (some (.d (sd p.2))) (some (.d (pD p))) a' b') D4 = some (.bool true, D4) := by
      rw [same_is (a := one) (b := one) rfl rfl, decide_eq_true (rfl : one = one)]
      rfl
    have b3 : binD eqO (callD phi__law_call (argD (varD 3) (argD (varD 3) (argN)))) (cD (.str "none")) (sT one other c (some (.d (loD o))) s (some (.d (sd p.1))) (some (.d (sd p.2))) (some (.d (pD p))) a' b') D4 = some (.bool true, D4) := by
      refine bin_of ((c2_of rfl rfl).trans (law_call_ok other other D4)) (c_c _ _ _) ?_
      rw [ca_none rfl]
      exact eq_of (sh_none.mono (by decide)) (sh_none.mono (by decide)) ev_none
    unfold retS
    rw [and_v b1 (and_v b2 b3)]
    rfl
end K04

end
-- K04h
section
set_option Elab.async false
set_option linter.all false
set_option maxRecDepth 100000
set_option maxHeartbeats 4000000
namespace K04
open PySem PySem.Spec PyProof.Rows L2 Den

def topS (i : Nat) : Stmt := PySem.Challenge.pw_orderrules_k04_whole_telling.main.body.getD i (.Pass ⟨0, 0, 0, 0⟩)
abbrev st_is_whole : Stmt := topS 7
abbrev st_is_word : Stmt := topS 13
abbrev st_is_rule : Stmt := topS 14
abbrev st_check_rule : Stmt := topS 17
abbrev st_check_family : Stmt := topS 18
abbrev st_marks_of : Stmt := topS 22
abbrev st_marks_behind : Stmt := topS 23
abbrev st_decided : Stmt := topS 24
abbrev st_turned_round : Stmt := topS 25
abbrev st_signs_of : Stmt := topS 28
abbrev st_marks_of_two : Stmt := topS 30
abbrev st_same : Stmt := topS 31
abbrev st_telling_pair : Stmt := topS 32
abbrev st_first_unlike : Stmt := topS 33
abbrev st_classes : Stmt := topS 34
abbrev st_telling_table : Stmt := topS 35
abbrev st_least_signs : Stmt := topS 36
abbrev st__law_start : Stmt := topS 38
abbrev st__law_draw : Stmt := topS 39
abbrev st__law_pick : Stmt := topS 40
abbrev st__law_error : Stmt := topS 41
abbrev st__law_words : Stmt := topS 42
abbrev st__law_rule : Stmt := topS 43
abbrev st__law_cut : Stmt := topS 44
abbrev st__law_rank : Stmt := topS 45
abbrev st__law_once : Stmt := topS 46
abbrev st__law_compare : Stmt := topS 47
abbrev st__law_texts : Stmt := topS 48
abbrev st__law_pairs : Stmt := topS 49
abbrev st__law_groups : Stmt := topS 50
abbrev st__law_call : Stmt := topS 51
abbrev st__law_changed : Stmt := topS 52
abbrev st_law : Stmt := topS 53
structure All [TB : Tabl] (K : PySem.W.Frag) (mg : Str → Option Value) where
  f_is_whole : Addr
  fd_is_whole : FuncData
  F_is_whole : Fun K "is_whole" "is_whole" st_is_whole f_is_whole fd_is_whole
  m_is_whole : mg "is_whole" = some (.ref f_is_whole)
  f_is_word : Addr
  fd_is_word : FuncData
  F_is_word : Fun K "is_word" "is_word" st_is_word f_is_word fd_is_word
  m_is_word : mg "is_word" = some (.ref f_is_word)
  f_is_rule : Addr
  fd_is_rule : FuncData
  F_is_rule : Fun K "is_rule" "is_rule" st_is_rule f_is_rule fd_is_rule
  m_is_rule : mg "is_rule" = some (.ref f_is_rule)
  f_check_rule : Addr
  fd_check_rule : FuncData
  F_check_rule : Fun K "check_rule" "check_rule" st_check_rule f_check_rule fd_check_rule
  m_check_rule : mg "check_rule" = some (.ref f_check_rule)
  f_check_family : Addr
  fd_check_family : FuncData
  F_check_family : Fun K "check_family" "check_family" st_check_family f_check_family fd_check_family
  m_check_family : mg "check_family" = some (.ref f_check_family)
  f_marks_of : Addr
  fd_marks_of : FuncData
  F_marks_of : Fun K "marks_of" "marks_of" st_marks_of f_marks_of fd_marks_of
  m_marks_of : mg "marks_of" = some (.ref f_marks_of)
  f_marks_behind : Addr
  fd_marks_behind : FuncData
  F_marks_behind : Fun K "marks_behind" "marks_behind" st_marks_behind f_marks_behind fd_marks_behind
  m_marks_behind : mg "marks_behind" = some (.ref f_marks_behind)
  f_decided : Addr
  fd_decided : FuncData
  F_decided : Fun K "decided" "decided" st_decided f_decided fd_decided
  m_decided : mg "decided" = some (.ref f_decided)
  f_turned_round : Addr
  fd_turned_round : FuncData
  F_turned_round : Fun K "turned_round" "turned_round" st_turned_round f_turned_round fd_turned_round
  m_turned_round : mg "turned_round" = some (.ref f_turned_round)
  f_signs_of : Addr
  fd_signs_of : FuncData
  F_signs_of : Fun K "signs_of" "signs_of" st_signs_of f_signs_of fd_signs_of
  m_signs_of : mg "signs_of" = some (.ref f_signs_of)
  f_marks_of_two : Addr
  fd_marks_of_two : FuncData
  F_marks_of_two : Fun K "marks_of_two" "marks_of_two" st_marks_of_two f_marks_of_two fd_marks_of_two
  m_marks_of_two : mg "marks_of_two" = some (.ref f_marks_of_two)
  f_same : Addr
  fd_same : FuncData
  F_same : Fun K "same" "same" st_same f_same fd_same
  m_same : mg "same" = some (.ref f_same)
  f_telling_pair : Addr
  fd_telling_pair : FuncData
  F_telling_pair : Fun K "telling_pair" "telling_pair" st_telling_pair f_telling_pair fd_telling_pair
  m_telling_pair : mg "telling_pair" = some (.ref f_telling_pair)
  f_first_unlike : Addr
  fd_first_unlike : FuncData
  F_first_unlike : Fun K "first_unlike" "first_unlike" st_first_unlike f_first_unlike fd_first_unlike
  m_first_unlike : mg "first_unlike" = some (.ref f_first_unlike)
  f_classes : Addr
  fd_classes : FuncData
  F_classes : Fun K "classes" "classes" st_classes f_classes fd_classes
  m_classes : mg "classes" = some (.ref f_classes)
  f_telling_table : Addr
  fd_telling_table : FuncData
  F_telling_table : Fun K "telling_table" "telling_table" st_telling_table f_telling_table fd_telling_table
  m_telling_table : mg "telling_table" = some (.ref f_telling_table)
  f_least_signs : Addr
  fd_least_signs : FuncData
  F_least_signs : Fun K "least_signs" "least_signs" st_least_signs f_least_signs fd_least_signs
  m_least_signs : mg "least_signs" = some (.ref f_least_signs)
  f__law_start : Addr
  fd__law_start : FuncData
  F__law_start : Fun K "_law_start" "_law_start" st__law_start f__law_start fd__law_start
  m__law_start : mg "_law_start" = some (.ref f__law_start)
  f__law_draw : Addr
  fd__law_draw : FuncData
  F__law_draw : Fun K "_law_draw" "_law_draw" st__law_draw f__law_draw fd__law_draw
  m__law_draw : mg "_law_draw" = some (.ref f__law_draw)
  f__law_pick : Addr
  fd__law_pick : FuncData
  F__law_pick : Fun K "_law_pick" "_law_pick" st__law_pick f__law_pick fd__law_pick
  m__law_pick : mg "_law_pick" = some (.ref f__law_pick)
  f__law_error : Addr
  fd__law_error : FuncData
  F__law_error : Fun K "_law_error" "_law_error" st__law_error f__law_error fd__law_error
  m__law_error : mg "_law_error" = some (.ref f__law_error)
  f__law_words : Addr
  fd__law_words : FuncData
  F__law_words : Fun K "_law_words" "_law_words" st__law_words f__law_words fd__law_words
  m__law_words : mg "_law_words" = some (.ref f__law_words)
  f__law_rule : Addr
  fd__law_rule : FuncData
  F__law_rule : Fun K "_law_rule" "_law_rule" st__law_rule f__law_rule fd__law_rule
  m__law_rule : mg "_law_rule" = some (.ref f__law_rule)
  f__law_cut : Addr
  fd__law_cut : FuncData
  F__law_cut : Fun K "_law_cut" "_law_cut" st__law_cut f__law_cut fd__law_cut
  m__law_cut : mg "_law_cut" = some (.ref f__law_cut)
  f__law_rank : Addr
  fd__law_rank : FuncData
  F__law_rank : Fun K "_law_rank" "_law_rank" st__law_rank f__law_rank fd__law_rank
  m__law_rank : mg "_law_rank" = some (.ref f__law_rank)
  f__law_once : Addr
  fd__law_once : FuncData
  F__law_once : Fun K "_law_once" "_law_once" st__law_once f__law_once fd__law_once
  m__law_once : mg "_law_once" = some (.ref f__law_once)
  f__law_compare : Addr
  fd__law_compare : FuncData
  F__law_compare : Fun K "_law_compare" "_law_compare" st__law_compare f__law_compare fd__law_compare
  m__law_compare : mg "_law_compare" = some (.ref f__law_compare)
  f__law_texts : Addr
  fd__law_texts : FuncData
  F__law_texts : Fun K "_law_texts" "_law_texts" st__law_texts f__law_texts fd__law_texts
  m__law_texts : mg "_law_texts" = some (.ref f__law_texts)
  f__law_pairs : Addr
  fd__law_pairs : FuncData
  F__law_pairs : Fun K "_law_pairs" "_law_pairs" st__law_pairs f__law_pairs fd__law_pairs
  m__law_pairs : mg "_law_pairs" = some (.ref f__law_pairs)
  f__law_groups : Addr
  fd__law_groups : FuncData
  F__law_groups : Fun K "_law_groups" "_law_groups" st__law_groups f__law_groups fd__law_groups
  m__law_groups : mg "_law_groups" = some (.ref f__law_groups)
  f__law_call : Addr
  fd__law_call : FuncData
  F__law_call : Fun K "_law_call" "_law_call" st__law_call f__law_call fd__law_call
  m__law_call : mg "_law_call" = some (.ref f__law_call)
  f__law_changed : Addr
  fd__law_changed : FuncData
  F__law_changed : Fun K "_law_changed" "_law_changed" st__law_changed f__law_changed fd__law_changed
  m__law_changed : mg "_law_changed" = some (.ref f__law_changed)
  f_law : Addr
  fd_law : FuncData
  F_law : Fun K "law" "law" st_law f_law fd_law
  m_law : mg "law" = some (.ref f_law)
  mc_OrderError : mg "OrderError" = some (.ref (TB.C "OrderError"))
  kc_OrderError : PySem.W.keepIn K (.ref (TB.C "OrderError")) = true
  xc_OrderError : PySem.W.excIn K (TB.C "OrderError") [.type "ValueError", .type "Exception", .type "BaseException", .type "object"] "ValueError.__new__" = true
  bc_OrderError : PySem.W.subIn K (.ref (TB.C "OrderError")) (.type "BaseException") = some true
  tc_OrderError : PySem.W.typeIn K (.ref (TB.C "OrderError")) = some (.type "type")
  mc_BadRule : mg "BadRule" = some (.ref (TB.C "BadRule"))
  kc_BadRule : PySem.W.keepIn K (.ref (TB.C "BadRule")) = true
  xc_BadRule : PySem.W.excIn K (TB.C "BadRule") [.type "ValueError", .type "Exception", .type "BaseException", .type "object"] "ValueError.__new__" = true
  bc_BadRule : PySem.W.subIn K (.ref (TB.C "BadRule")) (.type "BaseException") = some true
  tc_BadRule : PySem.W.typeIn K (.ref (TB.C "BadRule")) = some (.type "type")
  mc_BadText : mg "BadText" = some (.ref (TB.C "BadText"))
  kc_BadText : PySem.W.keepIn K (.ref (TB.C "BadText")) = true
  xc_BadText : PySem.W.excIn K (TB.C "BadText") [.type "ValueError", .type "Exception", .type "BaseException", .type "object"] "ValueError.__new__" = true
  bc_BadText : PySem.W.subIn K (.ref (TB.C "BadText")) (.type "BaseException") = some true
  tc_BadText : PySem.W.typeIn K (.ref (TB.C "BadText")) = some (.type "type")
  mc_BadNumber : mg "BadNumber" = some (.ref (TB.C "BadNumber"))
  kc_BadNumber : PySem.W.keepIn K (.ref (TB.C "BadNumber")) = true
  xc_BadNumber : PySem.W.excIn K (TB.C "BadNumber") [.type "ValueError", .type "Exception", .type "BaseException", .type "object"] "ValueError.__new__" = true
  bc_BadNumber : PySem.W.subIn K (.ref (TB.C "BadNumber")) (.type "BaseException") = some true
  tc_BadNumber : PySem.W.typeIn K (.ref (TB.C "BadNumber")) = some (.type "type")
  mc_NotFound : mg "NotFound" = some (.ref (TB.C "NotFound"))
  kc_NotFound : PySem.W.keepIn K (.ref (TB.C "NotFound")) = true
  xc_NotFound : PySem.W.excIn K (TB.C "NotFound") [.type "ValueError", .type "Exception", .type "BaseException", .type "object"] "ValueError.__new__" = true
  bc_NotFound : PySem.W.subIn K (.ref (TB.C "NotFound")) (.type "BaseException") = some true
  tc_NotFound : PySem.W.typeIn K (.ref (TB.C "NotFound")) = some (.type "type")
  xm_OrderError : ∀ n ∈ [("BadRule" : Str), ("BadText" : Str), ("BadNumber" : Str), ("NotFound" : Str)], PySem.W.exmOne K (.ref (TB.C n)) (.ref (TB.C "OrderError")) = some true
  i_OrderError : ∀ n b, isaT tab_OrderError n = some b → ExcC K (TB.C n) ∧ PySem.W.kitOne K (.ref (TB.C n)) (.ref (TB.C "OrderError")) = some b
  i_BadRule : ∀ n b, isaT tab_BadRule n = some b → ExcC K (TB.C n) ∧ PySem.W.kitOne K (.ref (TB.C n)) (.ref (TB.C "BadRule")) = some b
  i_BadText : ∀ n b, isaT tab_BadText n = some b → ExcC K (TB.C n) ∧ PySem.W.kitOne K (.ref (TB.C n)) (.ref (TB.C "BadText")) = some b
  i_BadNumber : ∀ n b, isaT tab_BadNumber n = some b → ExcC K (TB.C n) ∧ PySem.W.kitOne K (.ref (TB.C n)) (.ref (TB.C "BadNumber")) = some b
  i_NotFound : ∀ n b, isaT tab_NotFound n = some b → ExcC K (TB.C n) ∧ PySem.W.kitOne K (.ref (TB.C n)) (.ref (TB.C "NotFound")) = some b
  i_ValueError : ∀ n b, isaT tab_ValueError n = some b → ExcC K (TB.C n) ∧ PySem.W.kitOne K (.ref (TB.C n)) (.type "ValueError") = some b
  z_ValueError : mg "ValueError" = none
  z_bool : mg "bool" = none
  z_enumerate : mg "enumerate" = none
  z_int : mg "int" = none
  z_isinstance : mg "isinstance" = none
  z_len : mg "len" = none
  z_list : mg "list" = none
  z_min : mg "min" = none
  z_ord : mg "ord" = none
  z_range : mg "range" = none
  z_str : mg "str" = none
  z_tuple : mg "tuple" = none
  z_zip : mg "zip" = none
  v_CASES : V
  u_CASES : Value
  m_CASES : mg "CASES" = some u_CASES
  r_CASES : RelV v_CASES u_CASES
  d_CASES : ∀ F, Dp K F v_CASES (.tuple [(.str "apart"), (.str "mixed"), (.str "together"), (.str "last")])
  v_FIGURES : V
  u_FIGURES : Value
  m_FIGURES : mg "FIGURES" = some u_FIGURES
  r_FIGURES : RelV v_FIGURES u_FIGURES
  d_FIGURES : ∀ F, Dp K F v_FIGURES (.tuple [(.str "signs"), (.str "numbers"), (.str "strict")])
  v_BARS : V
  u_BARS : Value
  m_BARS : mg "BARS" = some u_BARS
  r_BARS : RelV v_BARS u_BARS
  d_BARS : ∀ F, Dp K F v_BARS (.tuple [(.str "ahead"), (.str "behind")])
  v_ENDS : V
  u_ENDS : Value
  m_ENDS : mg "ENDS" = some u_ENDS
  r_ENDS : RelV v_ENDS u_ENDS
  d_ENDS : ∀ F, Dp K F v_ENDS (.tuple [(.str "first"), (.str "behind")])
  v_MOST_RULES : V
  u_MOST_RULES : Value
  m_MOST_RULES : mg "MOST_RULES" = some u_MOST_RULES
  r_MOST_RULES : RelV v_MOST_RULES u_MOST_RULES
  d_MOST_RULES : ∀ F, Dp K F v_MOST_RULES (.int 8)
  v_CAPITALS : V
  u_CAPITALS : Value
  m_CAPITALS : mg "CAPITALS" = some u_CAPITALS
  r_CAPITALS : RelV v_CAPITALS u_CAPITALS
  d_CAPITALS : ∀ F, Dp K F v_CAPITALS (.str "=====<==================<<>==<<=====================<<===<>================")
  v_PAIRS : V
  u_PAIRS : Value
  m_PAIRS : mg "PAIRS" = some u_PAIRS
  r_PAIRS : RelV v_PAIRS u_PAIRS
  d_PAIRS : ∀ F, Dp K F v_PAIRS (.tuple [(.tuple [(.str ""), (.str "")]), (.tuple [(.str ""), (.str "A")]), (.tuple [(.str "A"), (.str "B")]), (.tuple [(.str "B"), (.str "a")]), (.tuple [(.str "_"), (.str "A")]), (.tuple [(.str "A"), (.str "a")]), (.tuple [(.str "A"), (.str "aA")]), (.tuple [(.str "AA"), (.str "a")]), (.tuple [(.str "01"), (.str "1")]), (.tuple [(.str "0"), (.str "01")]), (.tuple [(.str "0"), (.str "00")]), (.tuple [(.str "AB"), (.str "aA")]), (.tuple [(.str "A_"), (.str "aA")]), (.tuple [(.str "AA"), (.str "a_")]), (.tuple [(.str "01"), (.str "1A")]), (.tuple [(.str "01A"), (.str "1")]), (.tuple [(.str "010"), (.str "1")]), (.tuple [(.str "0_"), (.str "01")]), (.tuple [(.str "0_"), (.str "00")]), (.tuple [(.str "01a"), (.str "1B")]), (.tuple [(.str "01B"), (.str "1a")]), (.tuple [(.str "01_"), (.str "1A")]), (.tuple [(.str "01A"), (.str "1_")]), (.tuple [(.str "0_"), (.str "00_")]), (.tuple [(.str "A01"), (.str "a1")]), (.tuple [(.str "A1"), (.str "a01")]), (.tuple [(.str "01a"), (.str "1A")]), (.tuple [(.str "A0"), (.str "a01")]), (.tuple [(.str "A01"), (.str "a0")]), (.tuple [(.str "A0"), (.str "a00")]), (.tuple [(.str "A00"), (.str "a0")]), (.tuple [(.str "0_"), (.str "00_A")]), (.tuple [(.str "A01"), (.str "a1A")]), (.tuple [(.str "A01A"), (.str "a1")]), (.tuple [(.str "A1"), (.str "a01A")]), (.tuple [(.str "A1A"), (.str "a01")]), (.tuple [(.str "01a"), (.str "1AA")]), (.tuple [(.str "01aA"), (.str "1A")]), (.tuple [(.str "A1"), (.str "a010")]), (.tuple [(.str "A010"), (.str "a1")]), (.tuple [(.str "A0_"), (.str "a01")]), (.tuple [(.str "A01"), (.str "a0_")]), (.tuple [(.str "A0_"), (.str "a00")]), (.tuple [(.str "A00"), (.str "a0_")]), (.tuple [(.str "0_B"), (.str "00_A")]), (.tuple [(.str "0_a"), (.str "00_B")]), (.tuple [(.str "0_B"), (.str "00_a")]), (.tuple [(.str "0_A"), (.str "00__")]), (.tuple [(.str "A01_"), (.str "a1A")]), (.tuple [(.str "A01A"), (.str "a1_")]), (.tuple [(.str "A1_"), (.str "a01A")]), (.tuple [(.str "A1A"), (.str "a01_")]), (.tuple [(.str "A0_"), (.str "a00_")]), (.tuple [(.str "A00_"), (.str "a0_")]), (.tuple [(.str "01aA"), (.str "1AB")]), (.tuple [(.str "01a_"), (.str "1AA")]), (.tuple [(.str "01aA"), (.str "1A_")]), (.tuple [(.str "0_A"), (.str "00_a")]), (.tuple [(.str "0_a"), (.str "00_A")]), (.tuple [(.str "A0_"), (.str "a00_A")]), (.tuple [(.str "A00_A"), (.str "a0_")]), (.tuple [(.str "0_A"), (.str "00_aA")]), (.tuple [(.str "0_AA"), (.str "00_a")]), (.tuple [(.str "0_a"), (.str "00_AA")]), (.tuple [(.str "0_aA"), (.str "00_A")]), (.tuple [(.str "A0_B"), (.str "a00_A")]), (.tuple [(.str "A0_A"), (.str "a00__")]), (.tuple [(.str "A00_A"), (.str "a0_B")]), (.tuple [(.str "A00__"), (.str "a0_A")]), (.tuple [(.str "0_AB"), (.str "00_aA")]), (.tuple [(.str "0_A_"), (.str "00_aA")]), (.tuple [(.str "0_AA"), (.str "00_a_")]), (.tuple [(.str "0_aA"), (.str "00_AB")]), (.tuple [(.str "0_a_"), (.str "00_AA")]), (.tuple [(.str "0_aA"), (.str "00_A_")])])
  m_LOOKS : mg "LOOKS" = some (.ref dT)
/-- the table with tuple keys, where it stands -/
structure TbT [TB : Tabl] (P : Program) (w : World) {K : PySem.W.Frag} {mg : Str → Option Value} (T : All K mg) (base : Heap) : Prop where
  tab : TabK P w K dT psT
section
variable [TB : Tabl] {P : Program} {w : World} {K : PySem.W.Frag} {mg : Str → Option Value} {base : Heap}
theorem b_is_whole (T : All K mg) : Binds K T.fd_is_whole ["value", "low", "high"] [] := T.F_is_whole.binds fun _ _ _ _ _ _ us hl => match us, hl with | [_, _, _], _ => rfl
theorem b_is_word (T : All K mg) : Binds K T.fd_is_word ["value", "words"] [] := T.F_is_word.binds fun _ _ _ _ _ _ us hl => match us, hl with | [_, _], _ => rfl
theorem b_is_rule (T : All K mg) : Binds K T.fd_is_rule ["value"] [] := T.F_is_rule.binds fun _ _ _ _ _ _ us hl => match us, hl with | [_], _ => rfl
theorem b_check_rule (T : All K mg) : Binds K T.fd_check_rule ["value"] [] := T.F_check_rule.binds fun _ _ _ _ _ _ us hl => match us, hl with | [_], _ => rfl
theorem b_check_family (T : All K mg) : Binds K T.fd_check_family ["value"] [] := T.F_check_family.binds fun _ _ _ _ _ _ us hl => match us, hl with | [_], _ => rfl
theorem b_marks_of (T : All K mg) : Binds K T.fd_marks_of ["rule"] [] := T.F_marks_of.binds fun _ _ _ _ _ _ us hl => match us, hl with | [_], _ => rfl
theorem b_marks_behind (T : All K mg) : Binds K T.fd_marks_behind ["marks", "others"] [] := T.F_marks_behind.binds fun _ _ _ _ _ _ us hl => match us, hl with | [_, _], _ => rfl
theorem b_decided (T : All K mg) : Binds K T.fd_decided ["marks", "one", "other", "comes_first"] [] := T.F_decided.binds fun _ _ _ _ _ _ us hl => match us, hl with | [_, _, _, _], _ => rfl
theorem b_turned_round (T : All K mg) : Binds K T.fd_turned_round ["marks"] [] := T.F_turned_round.binds fun _ _ _ _ _ _ us hl => match us, hl with | [_], _ => rfl
theorem b_signs_of (T : All K mg) : Binds K T.fd_signs_of ["pair"] [] := T.F_signs_of.binds fun _ _ _ _ _ _ us hl => match us, hl with | [_], _ => rfl
theorem b_marks_of_two (T : All K mg) : Binds K T.fd_marks_of_two ["one", "other"] [] := T.F_marks_of_two.binds fun _ _ _ _ _ _ us hl => match us, hl with | [_, _], _ => rfl
theorem b_same (T : All K mg) : Binds K T.fd_same ["one", "other"] [] := T.F_same.binds fun _ _ _ _ _ _ us hl => match us, hl with | [_, _], _ => rfl
theorem b_telling_pair (T : All K mg) : Binds K T.fd_telling_pair ["one", "other"] [] := T.F_telling_pair.binds fun _ _ _ _ _ _ us hl => match us, hl with | [_, _], _ => rfl
theorem b_first_unlike (T : All K mg) : Binds K T.fd_first_unlike ["marks", "others"] [] := T.F_first_unlike.binds fun _ _ _ _ _ _ us hl => match us, hl with | [_, _], _ => rfl
theorem b_classes (T : All K mg) : Binds K T.fd_classes ["family"] [] := T.F_classes.binds fun _ _ _ _ _ _ us hl => match us, hl with | [_], _ => rfl
theorem b_telling_table (T : All K mg) : Binds K T.fd_telling_table ["family"] [] := T.F_telling_table.binds fun _ _ _ _ _ _ us hl => match us, hl with | [_], _ => rfl
theorem b_least_signs (T : All K mg) : Binds K T.fd_least_signs ["marks", "others"] [] := T.F_least_signs.binds fun _ _ _ _ _ _ us hl => match us, hl with | [_, _], _ => rfl
theorem b__law_start (T : All K mg) : Binds K T.fd__law_start ["_law_script"] [] := T.F__law_start.binds fun _ _ _ _ _ _ us hl => match us, hl with | [_], _ => rfl
theorem b__law_draw (T : All K mg) : Binds K T.fd__law_draw ["_law_draws", "_law_limit"] [] := T.F__law_draw.binds fun _ _ _ _ _ _ us hl => match us, hl with | [_, _], _ => rfl
theorem b__law_pick (T : All K mg) : Binds K T.fd__law_pick ["_law_draws", "_law_choices"] [] := T.F__law_pick.binds fun _ _ _ _ _ _ us hl => match us, hl with | [_, _], _ => rfl
theorem b__law_error (T : All K mg) : Binds K T.fd__law_error ["_law_caught"] [] := T.F__law_error.binds fun _ _ _ _ _ _ us hl => match us, hl with | [_], _ => rfl
theorem b__law_words (T : All K mg) : Binds K T.fd__law_words [] [] := T.F__law_words.binds fun _ _ _ _ _ _ us hl => match us, hl with | [], _ => rfl
theorem b__law_rule (T : All K mg) : Binds K T.fd__law_rule ["_law_draws"] [] := T.F__law_rule.binds fun _ _ _ _ _ _ us hl => match us, hl with | [_], _ => rfl
theorem b__law_cut (T : All K mg) : Binds K T.fd__law_cut ["_law_text", "_law_whole"] [] := T.F__law_cut.binds fun _ _ _ _ _ _ us hl => match us, hl with | [_, _], _ => rfl
theorem b__law_rank (T : All K mg) : Binds K T.fd__law_rank ["_law_piece", "_law_case", "_law_bars_here"] [] := T.F__law_rank.binds fun _ _ _ _ _ _ us hl => match us, hl with | [_, _, _], _ => rfl
theorem b__law_once (T : All K mg) : Binds K T.fd__law_once ["_law_case", "_law_whole", "_law_bars_here", "_law_ends", "_law_one", "_law_other"] [] := T.F__law_once.binds fun _ _ _ _ _ _ us hl => match us, hl with | [_, _, _, _, _, _], _ => rfl
theorem b__law_compare (T : All K mg) : Binds K T.fd__law_compare ["_law_rule_here", "_law_one", "_law_other"] [] := T.F__law_compare.binds fun _ _ _ _ _ _ us hl => match us, hl with | [_, _, _], _ => rfl
theorem b__law_texts (T : All K mg) : Binds K T.fd__law_texts ["_law_length"] [] := T.F__law_texts.binds fun _ _ _ _ _ _ us hl => match us, hl with | [_], _ => rfl
theorem b__law_pairs (T : All K mg) : Binds K T.fd__law_pairs ["_law_signs"] [] := T.F__law_pairs.binds fun _ _ _ _ _ _ us hl => match us, hl with | [_], _ => rfl
theorem b__law_groups (T : All K mg) : Binds K T.fd__law_groups ["_law_told"] [] := T.F__law_groups.binds fun _ _ _ _ _ _ us hl => match us, hl with | [_], _ => rfl
theorem b__law_call (T : All K mg) : Binds K T.fd__law_call ["_law_one", "_law_other"] [] := T.F__law_call.binds fun _ _ _ _ _ _ us hl => match us, hl with | [_, _], _ => rfl
theorem b__law_changed (T : All K mg) : Binds K T.fd__law_changed ["_law_draws", "_law_rule_here"] [] := T.F__law_changed.binds fun _ _ _ _ _ _ us hl => match us, hl with | [_, _], _ => rfl
theorem b_law (T : All K mg) : Binds K T.fd_law ["_law_script"] [] := T.F_law.binds fun _ _ _ _ _ _ us hl => match us, hl with | [_], _ => rfl
end
section
variable [TB : Tabl] {P : Program} {w : World} {K : PySem.W.Frag} {mg : Str → Option Value} {base : Heap}
abbrev N__law_draw : List Str := ["_law_draws", "_law_limit", "_law_numbers", "_law_at", "_law_cell", "_law_mixed"]
theorem sc__law_draw : FnScope N__law_draw ["_law_draws", "_law_limit"] (defScope st__law_draw) := ⟨rfl, rfl, rfl, by decide +kernel, rfl, by decide +kernel, by decide +kernel⟩
theorem ok__law_draw (T : All K mg) (B : TbT P w T base) : FnOk P w K mg base CX0 1 T.f__law_draw T.fd__law_draw ["_law_draws", "_law_limit"] (spOf K 2 phi__law_draw) := by
  refine T.F__law_draw.ok sc__law_draw (fun vs H Q E h => ?_) fun cdv A outer s H vs Q E hr h => ?_
  · obtain ⟨_, _, _, _, _, _, h, _⟩ := h
    exact h
  · obtain ⟨L, D, F', as, y, D', hl, hk, ha, e, q⟩ := h
    refine ⟨_, pss_cons (ps_set (i := 2) sc__law_draw.nd rfl (.inl rfl) (pe_ix ix_list (pv 0) pe_int (fun _ _ => rfl)))
      (pss_cons (ps_asg (pe_op op_add (pe_ix ix_list (pv 0) pe_int (fun _ _ => rfl)) pe_int) (pg_sub (pv 0) pe_int set_list))
      (pss_cons (ps_set (i := 3) sc__law_draw.nd rfl (.inl rfl) (pe_op op_mod (pe_ix ix_list (pv 0) pe_int (fun _ _ => rfl)) (pe_callB call_len_seq (by rfl) T.z_len PySem.boot_len (pa_cons (pv 2) pa_nil))))
      (pss_cons (ps_set (i := 4) sc__law_draw.nd rfl (.inl rfl) (pe_ix ix_list (pv 2) (pv 3) (fun _ _ => rfl)))
      (pss_cons (ps_if (pt_cmpR op_ge (pv 4) pe_int (nomark _)) (pss_cons (ps_asg (pe_op op_fdivW (pv 4) (pv 1)) (pg_sub (pv 2) (pv 3) set_list)) (pss_one (ps_ret (pe_op op_mod (pv 4) (pv 1))))) pss_nil)
      (pss_cons (ps_set (i := 5) sc__law_draw.nd rfl (.inl rfl) (pe_op op_mod (pe_op op_add (pv 4) (pe_op op_mulW pe_int (pe_ix ix_list (pv 0) pe_int (fun _ _ => rfl)))) pe_int))
      (pss_cons (ps_set (i := 5) sc__law_draw.nd rfl (.inl rfl) (pe_op op_mod (pe_op op_pow (pv 5) pe_int) pe_int))
      (pss_one (ps_ret (pe_op op_mod (pe_op op_fdiv (pe_op op_mod (pe_op op_add (pe_op op_mulW (pe_op op_fdiv (pv 5) pe_int) pe_int) (pv 5)) pe_int) pe_int) (pv 1)))))))))), ?_⟩
    obtain ⟨a, lim, rfl, hh⟩ := draw_done hk ha e q
    exact hh

abbrev N__law_start : List Str := ["_law_script"]
theorem sc__law_start : FnScope N__law_start ["_law_script"] (defScope st__law_start) := ⟨rfl, rfl, rfl, by decide +kernel, rfl, by decide +kernel, by decide +kernel⟩
theorem ok__law_start (T : All K mg) (B : TbT P w T base) : FnOk P w K mg base CX0 1 T.f__law_start T.fd__law_start ["_law_script"] (spStart K) := by
  refine T.F__law_start.ok sc__law_start (fun vs H Q E h => ?_) fun cdv A outer s H vs Q E hr h => ?_
  · obtain ⟨s, ns, rfl, _⟩ := h
    rfl
  · refine ⟨_, pss_one (ps_ret (pe_lst (pa_cons (pe_ifExp (pt_cmpR (op_neD hr.units) (pv 0) (pe_lst pa_nil) (nomark _)) (pe_callTy call_list_of (by rfl) T.z_list (by decide +kernel) (pa_cons (pv 0) pa_nil)) (pe_lst (pa_cons pe_int pa_nil))) (pa_cons pe_int pa_nil)))), ?_⟩
    obtain ⟨s, rfl, hh⟩ := start_done h
    exact hh

end
end K04
end
-- K04a
section
set_option Elab.async false
set_option linter.all false
set_option maxRecDepth 100000
set_option maxHeartbeats 4000000
namespace K04
open PySem PySem.Spec PyProof.Rows L2 Den
section
variable [TB : Tabl] {P : Program} {w : World} {K : PySem.W.Frag} {mg : Str → Option Value} {base : Heap}
/-! is whole -/
theorem sc_is_whole : FnScope N_is_whole ["value", "low", "high"] (defScope st_is_whole) := ⟨rfl, rfl, rfl, by decide +kernel, rfl, by decide +kernel, by decide +kernel⟩
theorem ok_is_whole (T : All K mg) (B : TbT P w T base) : FnOk P w K mg base CX0 1 T.f_is_whole T.fd_is_whole ["value", "low", "high"] (spOf K 3 phi_is_whole) :=
  den (k := 0) T.F_is_whole sc_is_whole (fun cdv A outer s H E hr => by
    unfold g_is_whole
    refine db_cons ?_ ?_
    · refine ds_if ?_ (db_one (ds_ret de_bl)) db_nil
      refine dt_w ?_
      refine dw_or ?_ ?_
      · exact (dt_not (dt_val (de_isi plain_int rfl T.z_isinstance (by decide +kernel) rfl T.z_int (by decide +kernel) (de_var (i := 0)))))
      · exact (dw_or1 (dt_val (de_isi plain_bool rfl T.z_isinstance (by decide +kernel) rfl T.z_bool (by decide +kernel) (de_var (i := 0)))))
    · exact (db_one (ds_ret (de_chain os_leI os_leI (de_var (i := 1)) (de_var (i := 0)) (de_var (i := 2)))))) (fun _ _ _ _ h => h)

/-! is word -/
theorem sc_is_word : FnScope N_is_word ["value", "words"] (defScope st_is_word) := ⟨rfl, rfl, rfl, by decide +kernel, rfl, by decide +kernel, by decide +kernel⟩
theorem ok_is_word (T : All K mg) (B : TbT P w T base) : FnOk P w K mg base CX0 1 T.f_is_word T.fd_is_word ["value", "words"] (spOf K 2 phi_is_word) :=
  den (k := 0) T.F_is_word sc_is_word (fun cdv A outer s H E hr => by
    unfold g_is_word
    refine db_one ?_
    refine ds_ret ?_
    refine de_and ?_ ?_
    · exact (de_isi plain_str rfl T.z_isinstance (by decide +kernel) rfl T.z_str (by decide +kernel) (de_var (i := 0)))
    · exact (de_one (de_cmp os_in (de_var (i := 0)) (de_var (i := 1)) (by rfl)))) (fun _ _ _ _ h => h)

/-! is rule -/
theorem sc_is_rule : FnScope N_is_rule ["value"] (defScope st_is_rule) := ⟨rfl, rfl, rfl, by decide +kernel, rfl, by decide +kernel, by decide +kernel⟩
theorem ok_is_rule (T : All K mg) (B : TbT P w T base) : FnOk P w K mg base CX0 2 T.f_is_rule T.fd_is_rule ["value"] (spOf K 1 phi_is_rule) :=
  den (k := 1) T.F_is_rule sc_is_rule (fun cdv A outer s H E hr => by
    unfold g_is_rule
    refine db_cons ?_ ?_
    · refine ds_if ?_ (db_one (ds_ret de_bl)) db_nil
      refine dt_w ?_
      refine dw_or ?_ ?_
      · exact (dt_not (dt_val (de_isi plain_tuple rfl T.z_isinstance (by decide +kernel) rfl T.z_tuple (by decide +kernel) (de_var (i := 0)))))
      · exact (dw_or1 (dt_cmp (os_ne hr.units) (de_biB cs_len rfl T.z_len (by decide +kernel) (da_d (de_var (i := 0)) da_nil)) de_int (nomark _)))
    · refine db_cons ?_ ?_
      · refine ds_asgT (de_var (i := 0)) ?_
        refine dg_tup rfl ?_
        refine dgs_cons (dg_name (i := 1) sc_is_rule.nd) ?_
        refine dgs_cons (dg_name (i := 2) sc_is_rule.nd) ?_
        exact (dgs_cons (dg_name (i := 3) sc_is_rule.nd) (dgs_cons (dg_name (i := 4) sc_is_rule.nd) (dgs_cons (dg_name (i := 5) sc_is_rule.nd) dgs_nil)))
      · refine db_cons ?_ ?_
        · refine ds_if ?_ (db_one (ds_ret de_bl)) db_nil
          refine dt_w ?_
          refine dw_or ?_ ?_
          · refine dt_not ?_
            refine dt_val ?_
            refine de_call (ok_is_word T B) (hr.mono (by decide)) rfl T.m_is_word T.F_is_word.kp (b_is_word T) ?_ (hlen := (len_d (len_d len_nil)))
            exact (da_d (de_var (i := 1)) (da_d (de_glob rfl T.m_CASES T.r_CASES T.d_CASES) da_nil))
          · refine dw_or1 ?_
            refine dt_not ?_
            refine dt_val ?_
            refine de_call (ok_is_word T B) (hr.mono (by decide)) rfl T.m_is_word T.F_is_word.kp (b_is_word T) ?_ (hlen := (len_d (len_d len_nil)))
            exact (da_d (de_var (i := 2)) (da_d (de_glob rfl T.m_FIGURES T.r_FIGURES T.d_FIGURES) da_nil))
        · refine db_cons ?_ ?_
          · refine ds_if ?_ (db_one (ds_ret de_bl)) db_nil
            refine dt_w ?_
            refine dw_or ?_ ?_
            · refine dt_not ?_
              refine dt_val ?_
              refine de_call (ok_is_word T B) (hr.mono (by decide)) rfl T.m_is_word T.F_is_word.kp (b_is_word T) ?_ (hlen := (len_d (len_d len_nil)))
              exact (da_d (de_var (i := 3)) (da_d (de_glob rfl T.m_BARS T.r_BARS T.d_BARS) da_nil))
            · refine dw_or1 ?_
              refine dt_not ?_
              refine dt_val ?_
              refine de_call (ok_is_word T B) (hr.mono (by decide)) rfl T.m_is_word T.F_is_word.kp (b_is_word T) ?_ (hlen := (len_d (len_d len_nil)))
              exact (da_d (de_var (i := 4)) (da_d (de_glob rfl T.m_ENDS T.r_ENDS T.d_ENDS) da_nil))
          · refine db_one ?_
            refine ds_ret ?_
            exact (de_call (ok_is_whole T B) (hr.mono (by decide)) rfl T.m_is_whole T.F_is_whole.kp (b_is_whole T) (da_d (de_var (i := 5)) (da_d de_int (da_d de_int da_nil))) (hlen := (len_d (len_d (len_d len_nil)))))) (fun _ _ _ _ h => h)

/-! check rule -/
theorem sc_check_rule : FnScope N_check_rule ["value"] (defScope st_check_rule) := ⟨rfl, rfl, rfl, by decide +kernel, rfl, by decide +kernel, by decide +kernel⟩
theorem ok_check_rule (T : All K mg) (B : TbT P w T base) : FnOk P w K mg base CX0 3 T.f_check_rule T.fd_check_rule ["value"] (spOf K 1 phi_check_rule) :=
  den (k := 2) T.F_check_rule sc_check_rule (fun cdv A outer s H E hr => by
    unfold g_check_rule
    refine db_one ?_
    refine ds_if ?_ (db_one ds_never) db_nil
    refine dt_not ?_
    exact (dt_val (de_call (ok_is_rule T B) (hr.mono (by decide)) rfl T.m_is_rule T.F_is_rule.kp (b_is_rule T) (da_d (de_var (i := 0)) da_nil) (hlen := (len_d len_nil))))) (fun _ _ _ _ h => h)

/-! check family -/
theorem sc_check_family : FnScope N_check_family ["value"] (defScope st_check_family) := ⟨rfl, rfl, rfl, by decide +kernel, rfl, by decide +kernel, by decide +kernel⟩
theorem ok_check_family (T : All K mg) (B : TbT P w T base) : FnOk P w K mg base CX0 4 T.f_check_family T.fd_check_family ["value"] (spOf K 1 phi_check_family) :=
  den (k := 3) T.F_check_family sc_check_family (fun cdv A outer s H E hr => by
    unfold g_check_family
    refine db_cons ?_ ?_
    · refine ds_if ?_ (db_one ds_never) db_nil
      refine dt_w ?_
      refine dw_or ?_ ?_
      · exact (dt_not (dt_val (de_isi plain_list rfl T.z_isinstance (by decide +kernel) rfl T.z_list (by decide +kernel) (de_var (i := 0)))))
      · refine dw_or1 ?_
        refine dt_not ?_
        refine dt_chain os_leI os_leI de_int ?_ (de_glob rfl T.m_MOST_RULES T.r_MOST_RULES T.d_MOST_RULES)
        exact (de_biB cs_len rfl T.z_len (by decide +kernel) (da_d (de_var (i := 0)) da_nil))
    · refine db_one ?_
      refine ds_for PassesOwn.never rfl (di_list (de_var (i := 0))) (dg_name (i := 1) sc_check_family.nd) ?_
      refine db_one ?_
      refine ds_drop ?_
      exact (de_call (ok_check_rule T B) (hr.mono (by decide)) rfl T.m_check_rule T.F_check_rule.kp (b_check_rule T) (da_d (de_var (i := 1)) da_nil) (hlen := (len_d len_nil)))) (fun _ _ _ _ h => h)

/-! marks behind -/
theorem sc_marks_behind : FnScope N_marks_behind ["marks", "others"] (defScope st_marks_behind) := ⟨rfl, rfl, rfl, by decide +kernel, rfl, by decide +kernel, by decide +kernel⟩
theorem ok_marks_behind (T : All K mg) (B : TbT P w T base) : FnOk P w K mg base CX0 1 T.f_marks_behind T.fd_marks_behind ["marks", "others"] (spOf K 2 phi_marks_behind) :=
  den (k := 0) T.F_marks_behind sc_marks_behind (fun cdv A outer s H E hr => by
    unfold g_marks_behind
    refine db_one ?_
    refine ds_ret ?_
    refine de_join de_str ?_
    refine dl_new ?_
    refine dn_lcT (own := [("mark", 2), ("other", 3)]) rfl sc_marks_behind.nd ?_ (blkOk_by (sc := defScope st_marks_behind) (N := N_marks_behind) (by decide +kernel)) (fun _ _ _ _ _ => pg_tup rfl (pgs_cons (pg_name (i := 2) sc_marks_behind.nd rfl (Or.inl rfl)) (pgs_cons (pg_name (i := 3) sc_marks_behind.nd rfl (Or.inl rfl)) pgs_nil))) (tg_tup (tgs_cons (tg_name (i := 2) (by decide)) (tgs_cons (tg_name (i := 3) (by decide)) tgs_nil))) tests_no ?_
    · exact (di_zip2 rfl T.z_zip (dz_str (de_var (i := 0))) (dz_str (de_var (i := 1))))
    · intro _ _ _ _ _
      exact (de_if (dt_cmp (os_eq hr.units) (de_var (i := 2)) de_str (nomark _)) (de_var (i := 3)) (de_var (i := 2)))) (fun _ _ _ _ h => h)

/-! decided -/
theorem sc_decided : FnScope N_decided ["marks", "one", "other", "comes_first"] (defScope st_decided) := ⟨rfl, rfl, rfl, by decide +kernel, rfl, by decide +kernel, by decide +kernel⟩
theorem R_decided (T : All K mg) (B : TbT P w T base) : DecRun P w K mg base 1 T.f_decided T.fd_decided ["marks", "one", "other", "comes_first"] "<" ">" :=
  dec_run (k := 0) T.F_decided sc_decided rfl rfl rfl rfl rfl (by decide) (by decide) (by decide) (by decide) rfl rfl rfl rfl (by decide) (by decide)

/-! turned round -/
theorem sc_turned_round : FnScope N_turned_round ["marks"] (defScope st_turned_round) := ⟨rfl, rfl, rfl, by decide +kernel, rfl, by decide +kernel, by decide +kernel⟩
theorem okT_turned_round (T : All K mg) (B : TbT P w T base) : FnT P w K mg base 1 T.f_turned_round T.fd_turned_round ["marks"] 1 phi_turned_round :=
  denT (k := 0) T.F_turned_round sc_turned_round (fun cdv A outer s H E hr => by
    unfold g_turned_round
    exact (dbt_one (dst_ret (det_repl (det_repl (det_repl (DET.of (de_var (i := 0))))))))) (fun _ _ _ _ h => h)

/-! marks of -/
theorem sc_marks_of : FnScope N_marks_of ["rule"] (defScope st_marks_of) := ⟨rfl, rfl, rfl, by decide +kernel, rfl, by decide +kernel, by decide +kernel⟩
theorem okK_marks_of (T : All K mg) (B : TbT P w T base) : FnK P w K mg base 2 T.f_marks_of T.fd_marks_of ["rule"] 1 phi_marks_of :=
  denK (k := 1) T.F_marks_of sc_marks_of (fun cdv A outer s H E hr => by
    unfold g_marks_of
    refine dbk_cons ?_ ?_ (fun _ _ _ h => asgT_nx h)
    · refine ds_asgT (de_var (i := 0)) ?_
      refine dg_tup rfl ?_
      refine dgs_cons (dg_name (i := 1) sc_marks_of.nd) ?_
      refine dgs_cons (dg_name (i := 2) sc_marks_of.nd) ?_
      exact (dgs_cons (dg_name (i := 3) sc_marks_of.nd) (dgs_cons (dg_name (i := 4) sc_marks_of.nd) (dgs_cons (dg_name (i := 5) sc_marks_of.nd) dgs_nil)))
    · refine dbk_tok ?_ ?_
      · exact (dsk_asg (i := 6) sc_marks_of.nd (dek_ifcmp (os_eq hr.units) (de_var (i := 1)) de_str (de_var (i := 1)) (nomark _)))
      · refine dbt_cons ?_ ?_
        · refine dst_asg (i := 7) sc_marks_of.nd ?_
          refine DET.of ?_
          refine de_tabK B.tab (unit1 hr) rfl T.m_LOOKS ?_ (fun _ _ => rfl)
          exact (de_tup (da_d (de_if (dt_cmp (os_eq hr.units) (de_var (i := 2)) de_str (nomark _)) de_str de_str) (da_d (de_var (i := 6)) da_nil)))
        · refine dbt_cons ?_ ?_
          · refine DST.of ?_
            refine ds_if ?_ ?_ db_nil
            · exact (dt_cmp (os_eq hr.units) (de_var (i := 2)) de_str (nomark _))
            · refine db_one ?_
              refine ds_asg (i := 7) sc_marks_of.nd ?_
              refine de_call (ok_marks_behind T B) (hr.mono (by decide)) rfl T.m_marks_behind T.F_marks_behind.kp (b_marks_behind T) ?_ (hlen := (len_d (len_d len_nil)))
              exact (da_d (de_var (i := 7)) (da_d (de_tabK B.tab (unit1 hr) rfl T.m_LOOKS (de_tup (da_d de_str (da_d (de_var (i := 6)) da_nil))) (fun _ _ => rfl)) da_nil))
          · refine dbt_cons ?_ ?_
            · refine DST.of ?_
              refine ds_if ?_ ?_ db_nil
              · exact (dt_cmp (os_eq hr.units) (de_var (i := 1)) de_str (nomark _))
              · refine db_one ?_
                refine ds_asg (i := 7) sc_marks_of.nd ?_
                refine de_call (ok_marks_behind T B) (hr.mono (by decide)) rfl T.m_marks_behind T.F_marks_behind.kp (b_marks_behind T) ?_ (hlen := (len_d (len_d len_nil)))
                exact (da_d (de_var (i := 7)) (da_d (de_glob rfl T.m_CAPITALS T.r_CAPITALS T.d_CAPITALS) da_nil))
            · refine dbt_cons ?_ ?_
              · refine dst_asg (i := 7) sc_marks_of.nd ?_
                refine det_dec (R_decided T B) (hr.mono (by decide)) rfl T.m_decided T.F_decided.kp (b_decided T) ?_ ?_
                · refine det_dec (R_decided T B) (hr.mono (by decide)) rfl T.m_decided T.F_decided.kp (b_decided T) (DET.of (de_var (i := 7))) ?_
                  exact (de_cmp (os_eq hr.units) (de_var (i := 3)) de_str (nomark _))
                · exact (de_cmp (os_eq hr.units) (de_var (i := 4)) de_str (nomark _))
              · refine dbt_one ?_
                refine dst_ret ?_
                refine det_if ?_ ?_ (DET.of (de_var (i := 7)))
                · exact (dt_cmp (os_eq hr.units) (de_var (i := 5)) de_int (nomark _))
                · exact (det_call (okT_turned_round T B) (hr.mono (by decide)) rfl T.m_turned_round T.F_turned_round.kp (b_turned_round T) (da_d (de_var (i := 7)) da_nil) (hlen := (len_d len_nil)))) (fun _ _ _ _ h => h)
theorem ok_marks_of (T : All K mg) (B : TbT P w T base) : FnOk P w K mg base CX0 2 T.f_marks_of T.fd_marks_of ["rule"] (spOf K 1 phi_marks_of) := (okK_marks_of T B).ok

/-! signs of -/
theorem sc_signs_of : FnScope N_signs_of ["pair"] (defScope st_signs_of) := ⟨rfl, rfl, rfl, by decide +kernel, rfl, by decide +kernel, by decide +kernel⟩
theorem ok_signs_of (T : All K mg) (B : TbT P w T base) : FnOk P w K mg base CX0 1 T.f_signs_of T.fd_signs_of ["pair"] (spOf K 1 phi_signs_of) :=
  den (k := 0) T.F_signs_of sc_signs_of (fun cdv A outer s H E hr => by
    unfold g_signs_of
    refine db_one ?_
    refine ds_ret ?_
    refine de_bin os_add ?_ ?_
    · exact (de_biB cs_len rfl T.z_len (by decide +kernel) (da_d (de_ix is_ix (de_var (i := 0)) de_int (fun _ _ => rfl)) da_nil))
    · exact (de_biB cs_len rfl T.z_len (by decide +kernel) (da_d (de_ix is_ix (de_var (i := 0)) de_int (fun _ _ => rfl)) da_nil))) (fun _ _ _ _ h => h)

/-! marks of two -/
theorem sc_marks_of_two : FnScope N_marks_of_two ["one", "other"] (defScope st_marks_of_two) := ⟨rfl, rfl, rfl, by decide +kernel, rfl, by decide +kernel, by decide +kernel⟩
theorem okK_marks_of_two (T : All K mg) (B : TbT P w T base) : FnK P w K mg base 4 T.f_marks_of_two T.fd_marks_of_two ["one", "other"] 2 phi_marks_of_two :=
  denK (k := 3) T.F_marks_of_two sc_marks_of_two (fun cdv A outer s H E hr => by
    unfold g_marks_of_two
    refine dbk_cons ?_ ?_ (fun _ _ _ h => dropS_nx h)
    · refine ds_drop ?_
      exact (de_call (ok_check_rule T B) (hr.mono (by decide)) rfl T.m_check_rule T.F_check_rule.kp (b_check_rule T) (da_d (de_var (i := 0)) da_nil) (hlen := (len_d len_nil)))
    · refine dbk_cons ?_ ?_ (fun _ _ _ h => dropS_nx h)
      · refine ds_drop ?_
        exact (de_call (ok_check_rule T B) (hr.mono (by decide)) rfl T.m_check_rule T.F_check_rule.kp (b_check_rule T) (da_d (de_var (i := 1)) da_nil) (hlen := (len_d len_nil)))
      · refine dbk_one ?_
        refine dsk_ret ?_
        refine dek_tup2 ?_ ?_
        · exact (dek_call (okK_marks_of T B) (hr.mono (by decide)) rfl T.m_marks_of T.F_marks_of.kp (b_marks_of T) (da_d (de_var (i := 0)) da_nil) (hlen := (len_d len_nil)))
        · exact (de_call (ok_marks_of T B) (hr.mono (by decide)) rfl T.m_marks_of T.F_marks_of.kp (b_marks_of T) (da_d (de_var (i := 1)) da_nil) (hlen := (len_d len_nil)))) (fun _ _ _ _ h => h)
theorem ok_marks_of_two (T : All K mg) (B : TbT P w T base) : FnOk P w K mg base CX0 4 T.f_marks_of_two T.fd_marks_of_two ["one", "other"] (spOf K 2 phi_marks_of_two) := (okK_marks_of_two T B).ok

/-! same -/
theorem sc_same : FnScope N_same ["one", "other"] (defScope st_same) := ⟨rfl, rfl, rfl, by decide +kernel, rfl, by decide +kernel, by decide +kernel⟩
theorem ok_same (T : All K mg) (B : TbT P w T base) : FnOk P w K mg base CX0 5 T.f_same T.fd_same ["one", "other"] (spOf K 2 phi_same) :=
  den (k := 4) T.F_same sc_same (fun cdv A outer s H E hr => by
    unfold g_same
    refine db_cons ?_ ?_
    · refine ds_asgT ?_ ?_
      · exact (de_call (ok_marks_of_two T B) (hr.mono (by decide)) rfl T.m_marks_of_two T.F_marks_of_two.kp (b_marks_of_two T) (da_d (de_var (i := 0)) (da_d (de_var (i := 1)) da_nil)) (hlen := (len_d (len_d len_nil))))
      · exact (dg_tup rfl (dgs_cons (dg_name (i := 2) sc_same.nd) (dgs_cons (dg_name (i := 3) sc_same.nd) dgs_nil)))
    · exact (db_one (ds_ret (de_cmp (os_eq hr.units) (de_var (i := 2)) (de_var (i := 3)) (nomark _))))) (fun _ _ _ _ h => h)

/-! first unlike -/
theorem sc_first_unlike : FnScope N_first_unlike ["marks", "others"] (defScope st_first_unlike) := ⟨rfl, rfl, rfl, by decide +kernel, rfl, by decide +kernel, by decide +kernel⟩
theorem ok_first_unlike (T : All K mg) (B : TbT P w T base) : FnOk P w K mg base CX0 1 T.f_first_unlike T.fd_first_unlike ["marks", "others"] (spOf K 2 phi_first_unlike) :=
  den (k := 0) T.F_first_unlike sc_first_unlike (fun cdv A outer s H E hr => by
    unfold g_first_unlike
    refine db_cons ?_ ?_
    · exact (ds_if (dt_cmp (os_eq hr.units) (de_var (i := 0)) (de_var (i := 1)) (nomark _)) (db_one (ds_ret de_non)) db_nil)
    · refine db_cons ?_ (db_one (ds_ret de_non))
      refine ds_for PassesOwn.never rfl ?_ ?_ ?_
      · exact (di_zip3 rfl T.z_zip (dz_tup (de_glob rfl T.m_PAIRS T.r_PAIRS T.d_PAIRS)) (dz_str (de_var (i := 0))) (dz_str (de_var (i := 1))))
      · refine dg_tup rfl ?_
        exact (dgs_cons (dg_name (i := 2) sc_first_unlike.nd) (dgs_cons (dg_name (i := 3) sc_first_unlike.nd) (dgs_cons (dg_name (i := 4) sc_first_unlike.nd) dgs_nil)))
      · exact (db_one (ds_if (dt_cmp (os_ne hr.units) (de_var (i := 3)) (de_var (i := 4)) (nomark _)) (db_one (ds_ret (de_var (i := 2)))) db_nil))) (fun _ _ _ _ h => h)

/-! telling pair -/
theorem sc_telling_pair : FnScope N_telling_pair ["one", "other"] (defScope st_telling_pair) := ⟨rfl, rfl, rfl, by decide +kernel, rfl, by decide +kernel, by decide +kernel⟩
theorem ok_telling_pair (T : All K mg) (B : TbT P w T base) : FnOk P w K mg base (L2.CX P w) 5 T.f_telling_pair T.fd_telling_pair ["one", "other"] (spR K 2 phi_telling_pair psi_telling_pair) :=
  denR (k := 4) T.F_telling_pair sc_telling_pair (fun cdv A outer s H E hr => by
    unfold g_telling_pair
    refine db_cons ?_ ?_
    · refine ds_asgT ?_ ?_
      · exact (de_call (ok_marks_of_two T B) (hr.mono (by decide)) rfl T.m_marks_of_two T.F_marks_of_two.kp (b_marks_of_two T) (da_d (de_var (i := 0)) (da_d (de_var (i := 1)) da_nil)) (hlen := (len_d (len_d len_nil))))
      · exact (dg_tup rfl (dgs_cons (dg_name (i := 2) sc_telling_pair.nd) (dgs_cons (dg_name (i := 3) sc_telling_pair.nd) dgs_nil)))
    · refine db_cons ?_ ?_
      · refine ds_asg (i := 4) sc_telling_pair.nd ?_
        exact (de_call (ok_first_unlike T B) (hr.mono (by decide)) rfl T.m_first_unlike T.F_first_unlike.kp (b_first_unlike T) (da_d (de_var (i := 2)) (da_d (de_var (i := 3)) da_nil)) (hlen := (len_d (len_d len_nil))))
      · exact (db_cons (ds_if (dt_cmp os_is (de_var (i := 4)) de_non (nomark _)) (db_one ds_never) db_nil) (db_one (ds_ret (de_var (i := 4)))))) (fun cdv A outer s H E hr tk => by
    unfold gx_telling_pair
    refine rb_tl (DS.nox (ds_asgT (de_call (ok_marks_of_two T B) (hr.mono (by decide)) rfl T.m_marks_of_two T.F_marks_of_two.kp (b_marks_of_two T) (da_d (de_var (i := 0)) (da_d (de_var (i := 1)) da_nil)) (hlen := (len_d (len_d len_nil)))) (dg_tup rfl (dgs_cons (dg_name (i := 2) sc_telling_pair.nd) (dgs_cons (dg_name (i := 3) sc_telling_pair.nd) dgs_nil))))) ?_
    refine rb_tl (DS.nox (ds_asg (i := 4) sc_telling_pair.nd (de_call (ok_first_unlike T B) (hr.mono (by decide)) rfl T.m_first_unlike T.F_first_unlike.kp (b_first_unlike T) (da_d (de_var (i := 2)) (da_d (de_var (i := 3)) da_nil)) (hlen := (len_d (len_d len_nil)))))) ?_
    refine rb_hd ?_
    refine rs_ifT (dt_cmp os_is (de_var (i := 4)) de_non (nomark _)) ?_
    exact (rb_hd (rs_raise (C := "NotFound") rfl tk PySem.F.excBase_ValueError T.xc_NotFound T.mc_NotFound T.kc_NotFound T.bc_NotFound T.tc_NotFound rfl))) (fun _ _ _ _ h => h) (fun _ _ _ _ h => h)

/-! classes -/
theorem sc_classes : FnScope N_classes ["family"] (defScope st_classes) := ⟨rfl, rfl, rfl, by decide +kernel, rfl, by decide +kernel, by decide +kernel⟩
theorem ok_classes (T : All K mg) (B : TbT P w T base) : FnOk P w K mg base CX0 5 T.f_classes T.fd_classes ["family"] (spOf K 1 phi_classes) :=
  den (k := 4) T.F_classes sc_classes (fun cdv A outer s H E hr => by
    unfold g_classes
    refine db_cons ?_ ?_
    · refine ds_drop ?_
      exact (de_call (ok_check_family T B) (hr.mono (by decide)) rfl T.m_check_family T.F_check_family.kp (b_check_family T) (da_d (de_var (i := 0)) da_nil) (hlen := (len_d len_nil)))
    · refine db_grp (i := 1) (is := [2, 3]) PassesOwn.never rfl sc_classes.nd rfl T.z_list (by decide +kernel) (di_enum rfl T.z_enumerate (de_var (i := 0))) (pg_tup rfl (pgs_cons (pg_name (i := 2) sc_classes.nd rfl (by first | exact Or.inl rfl | exact Or.inr rfl)) (pgs_cons (pg_name (i := 3) sc_classes.nd rfl (by first | exact Or.inl rfl | exact Or.inr rfl)) pgs_nil))) (tg_tup (tgs_cons (tg_name (i := 2) (by decide)) (tgs_cons (tg_name (i := 3) (by decide)) tgs_nil))) ?_ (de_var (i := 2)) (by decide) rfl (by first | exact Or.inl rfl | exact Or.inr rfl) (by first | exact Or.inl rfl | exact Or.inr (Or.inl rfl) | exact Or.inr (Or.inr rfl)) (by decide) (by decide) rfl (by first | exact .inl rfl | exact .inr rfl) (fun _ => rfl) ⟨rfl, rfl, rfl, rfl⟩ rfl rfl rfl rfl rfl rfl rfl rfl rfl rfl
      exact (de_call (ok_marks_of T B) (hr.mono (by decide)) rfl T.m_marks_of T.F_marks_of.kp (b_marks_of T) (da_d (de_var (i := 3)) da_nil) (hlen := (len_d len_nil)))) (fun _ _ _ _ h => h)

/-! least signs -/
theorem sc_least_signs : FnScope N_least_signs ["marks", "others"] (defScope st_least_signs) := ⟨rfl, rfl, rfl, by decide +kernel, rfl, by decide +kernel, by decide +kernel⟩
theorem ok_least_signs (T : All K mg) (B : TbT P w T base) : FnOk P w K mg base CX0 2 T.f_least_signs T.fd_least_signs ["marks", "others"] (spOf K 2 phi_least_signs) :=
  den (k := 1) T.F_least_signs sc_least_signs (fun cdv A outer s H E hr => by
    unfold g_least_signs
    refine db_cons ?_ ?_
    · refine ds_asg (i := 2) sc_least_signs.nd ?_
      exact (de_call (ok_first_unlike T B) (hr.mono (by decide)) rfl T.m_first_unlike T.F_first_unlike.kp (b_first_unlike T) (da_d (de_var (i := 0)) (da_d (de_var (i := 1)) da_nil)) (hlen := (len_d (len_d len_nil))))
    · refine db_one ?_
      refine ds_ret ?_
      refine de_if (dt_cmp os_is (de_var (i := 2)) de_non (nomark _)) de_non ?_
      exact (de_call (ok_signs_of T B) (hr.mono (by decide)) rfl T.m_signs_of T.F_signs_of.kp (b_signs_of T) (da_d (de_var (i := 2)) da_nil) (hlen := (len_d len_nil)))) (fun _ _ _ _ h => h)

/-! telling table -/
theorem sc_telling_table : FnScope N_telling_table ["family"] (defScope st_telling_table) := ⟨rfl, rfl, rfl, by decide +kernel, rfl, by decide +kernel, by decide +kernel⟩
theorem ok_telling_table (T : All K mg) (B : TbT P w T base) : FnOk P w K mg base CX0 5 T.f_telling_table T.fd_telling_table ["family"] (spOf K 1 phi_telling_table) :=
  den (k := 4) T.F_telling_table sc_telling_table (fun cdv A outer s H E hr => by
    unfold g_telling_table
    refine db_cons ?_ ?_
    · refine ds_drop ?_
      exact (de_call (ok_check_family T B) (hr.mono (by decide)) rfl T.m_check_family T.F_check_family.kp (b_check_family T) (da_d (de_var (i := 0)) da_nil) (hlen := (len_d len_nil)))
    · refine db_cons ?_ ?_
      · refine ds_asg (i := 1) sc_telling_table.nd ?_
        refine de_of ?_
        refine dn_lc (i := 2) (x := "rule") rfl sc_telling_table.nd (di_list (de_var (i := 0))) (blkOk_by (sc := defScope st_telling_table) (N := N_telling_table) (by decide +kernel)) (fun _ _ _ _ _ => pg_name (i := 2) sc_telling_table.nd rfl (by first | exact Or.inl rfl | exact Or.inr rfl)) tests_no ?_
        intro _ _ _ _ _
        exact (de_call (ok_marks_of T B) (hr.mono (by decide)) rfl T.m_marks_of T.F_marks_of.kp (b_marks_of T) (da_d (de_var (i := 2)) da_nil) (hlen := (len_d len_nil)))
      · refine db_one ?_
        refine ds_ret ?_
        refine de_of ?_
        refine dn_lc (i := 3) (x := "marks") rfl sc_telling_table.nd (di_list (de_var (i := 1))) (blkOk_by (sc := defScope st_telling_table) (N := N_telling_table) (by decide +kernel)) (fun _ _ _ _ _ => pg_name (i := 3) sc_telling_table.nd rfl (by first | exact Or.inl rfl | exact Or.inr rfl)) tests_no ?_
        intro _ _ _ _ _
        refine de_of ?_
        refine dn_lc (i := 4) (x := "others") rfl sc_telling_table.nd (di_list (de_var (i := 1))) (blkOk_by (by kernel_rfl)) (fun _ _ _ _ _ => pg_name (i := 4) sc_telling_table.nd rfl (by first | exact Or.inl rfl | exact Or.inr rfl)) tests_no ?_
        intro _ _ _ _ _
        exact (de_call (ok_least_signs T B) (hr.mono (by decide)) rfl T.m_least_signs T.F_least_signs.kp (b_least_signs T) (da_d (de_var (i := 3)) (da_d (de_var (i := 4)) da_nil)) (hlen := (len_d (len_d len_nil))))) (fun _ _ _ _ h => h)

/-! law pick -/
theorem sc__law_pick : FnScope N__law_pick ["_law_draws", "_law_choices"] (defScope st__law_pick) := ⟨rfl, rfl, rfl, by decide +kernel, rfl, by decide +kernel, by decide +kernel⟩
theorem ok__law_pick (T : All K mg) (B : TbT P w T base) : FnOk P w K mg base CX0 2 T.f__law_pick T.fd__law_pick ["_law_draws", "_law_choices"] (spOf K 2 phi__law_pick) :=
  den (k := 1) T.F__law_pick sc__law_pick (fun cdv A outer s H E hr => by
    unfold g__law_pick
    refine db_one ?_
    refine ds_ret ?_
    refine de_ix is_ix (de_var (i := 1)) ?_ (fun _ _ => rfl)
    refine de_call (ok__law_draw T B) (hr.mono (by decide)) rfl T.m__law_draw T.F__law_draw.kp (b__law_draw T) ?_ (hlen := (len_w (len_d len_nil)))
    exact (da_w (i := 0) (da_d (de_biB cs_len rfl T.z_len (by decide +kernel) (da_d (de_var (i := 1)) da_nil)) da_nil))) (fun _ _ _ _ h => h)

/-! law error -/
theorem sc__law_error : FnScope N__law_error ["_law_caught"] (defScope st__law_error) := ⟨rfl, rfl, rfl, by decide +kernel, rfl, by decide +kernel, by decide +kernel⟩
theorem ok__law_error (T : All K mg) (B : TbT P w T base) : FnOk P w K mg base CX0 1 T.f__law_error T.fd__law_error ["_law_caught"] (spOf K 1 phi__law_error) :=
  den (k := 0) T.F__law_error sc__law_error (fun cdv A outer s H E hr => by
    unfold g__law_error
    refine db_cons ?_ ?_
    · refine ds_asg (i := 1) sc__law_error.nd ?_
      refine de_of ?_
      refine dn_lst ?_
      refine da_d ?_ ?_
      · exact (de_exI (i := 0) (c := .ref (TB.C "BadRule")) T.i_BadRule rfl T.z_isinstance (by decide +kernel) (pe_glob rfl T.mc_BadRule rfl) (fun u r => r))
      · refine da_d ?_ ?_
        · exact (de_exI (i := 0) (c := .ref (TB.C "BadText")) T.i_BadText rfl T.z_isinstance (by decide +kernel) (pe_glob rfl T.mc_BadText rfl) (fun u r => r))
        · refine da_d ?_ ?_
          · exact (de_exI (i := 0) (c := .ref (TB.C "BadNumber")) T.i_BadNumber rfl T.z_isinstance (by decide +kernel) (pe_glob rfl T.mc_BadNumber rfl) (fun u r => r))
          · exact (da_d (de_exI (i := 0) (c := .ref (TB.C "NotFound")) T.i_NotFound rfl T.z_isinstance (by decide +kernel) (pe_glob rfl T.mc_NotFound rfl) (fun u r => r)) da_nil)
    · refine db_cons ?_ ?_
      · refine ds_if ?_ (db_one (ds_ret de_str)) db_nil
        refine dt_w ?_
        refine dw_or ?_ ?_
        · exact (dt_cmp (os_ne hr.units) (de_cnt (room65 hr) (dl_of (de_var (i := 1))) de_bl) de_int (nomark _))
        · refine dw_or ?_ ?_
          · refine dt_not ?_
            refine dt_val ?_
            exact (de_exI (i := 0) (c := .ref (TB.C "OrderError")) T.i_OrderError rfl T.z_isinstance (by decide +kernel) (pe_glob rfl T.mc_OrderError rfl) (fun u r => r))
          · refine dw_or1 ?_
            refine dt_not ?_
            refine dt_val ?_
            exact (de_exI (i := 0) T.i_ValueError rfl T.z_isinstance (by decide +kernel) (pe_bltn (v := .ty "ValueError") rfl T.z_ValueError (by decide +kernel) rfl) (fun u r => r))
      · refine db_one ?_
        refine ds_ret ?_
        refine de_ix is_ix ?_ (de_idx (room65 hr) (dl_of (de_var (i := 1))) de_bl) (fun _ _ => rfl)
        exact (de_of (dn_lst (da_d de_str (da_d de_str (da_d de_str (da_d de_str da_nil))))))) (fun _ _ _ _ h => h)

/-! law words -/
theorem sc__law_words : FnScope N__law_words [] (defScope st__law_words) := ⟨rfl, rfl, rfl, by decide +kernel, rfl, by decide +kernel, by decide +kernel⟩
theorem ok__law_words (T : All K mg) (B : TbT P w T base) : FnOk P w K mg base CX0 1 T.f__law_words T.fd__law_words [] (spOf K 0 phi__law_words) :=
  den (k := 0) T.F__law_words sc__law_words (fun cdv A outer s H E hr => by
    unfold g__law_words
    refine db_one ?_
    refine ds_ret ?_
    refine de_of ?_
    refine dn_lst ?_
    refine da_d ?_ ?_
    · exact (de_of (dn_lst (da_d de_str (da_d de_str (da_d de_str (da_d de_str da_nil))))))
    · refine da_d ?_ ?_
      · exact (de_of (dn_lst (da_d de_str (da_d de_str (da_d de_str da_nil)))))
      · exact (da_d (de_of (dn_lst (da_d de_str (da_d de_str da_nil)))) (da_d (de_of (dn_lst (da_d de_str (da_d de_str da_nil)))) da_nil))) (fun _ _ _ _ h => h)

/-! law rule -/
theorem sc__law_rule : FnScope N__law_rule ["_law_draws"] (defScope st__law_rule) := ⟨rfl, rfl, rfl, by decide +kernel, rfl, by decide +kernel, by decide +kernel⟩
theorem ok__law_rule (T : All K mg) (B : TbT P w T base) : FnOk P w K mg base CX0 3 T.f__law_rule T.fd__law_rule ["_law_draws"] (spOf K 1 phi__law_rule) :=
  den (k := 2) T.F__law_rule sc__law_rule (fun cdv A outer s H E hr => by
    unfold g__law_rule
    refine db_one ?_
    refine ds_ret ?_
    refine de_bin os_add ?_ ?_
    · refine de_biT cs_tup rfl T.z_tuple (by decide +kernel) ?_
      refine da_d ?_ da_nil
      refine de_of ?_
      refine dn_lc (i := 1) (x := "_law_words_here") rfl sc__law_rule.nd ?_ (blkOk_by (sc := defScope st__law_rule) (N := N__law_rule) (by decide +kernel)) (fun _ _ _ _ _ => pg_name (i := 1) sc__law_rule.nd rfl (by first | exact Or.inl rfl | exact Or.inr rfl)) tests_no ?_
      · exact (di_list (de_call0 (ok__law_words T B) (hr.mono (by decide)) rfl T.m__law_words T.F__law_words.kp (b__law_words T)))
      · intro _ _ _ _ _
        exact (de_call (ok__law_pick T B) (hr.mono (by decide)) rfl T.m__law_pick T.F__law_pick.kp (b__law_pick T) (da_w (i := 0) (da_d (de_var (i := 1)) da_nil)) (hlen := (len_w (len_d len_nil))))
    · refine de_tup ?_
      refine da_d ?_ da_nil
      exact (de_call (ok__law_draw T B) (hr.mono (by decide)) rfl T.m__law_draw T.F__law_draw.kp (b__law_draw T) (da_w (i := 0) (da_d de_int da_nil)) (hlen := (len_w (len_d len_nil))))) (fun _ _ _ _ h => h)

/-! law cut -/
theorem sc__law_cut : FnScope N__law_cut ["_law_text", "_law_whole"] (defScope st__law_cut) := ⟨rfl, rfl, rfl, by decide +kernel, rfl, by decide +kernel, by decide +kernel⟩
theorem ok__law_cut (T : All K mg) (B : TbT P w T base) : FnOk P w K mg base CX0 1 T.f__law_cut T.fd__law_cut ["_law_text", "_law_whole"] (spOf K 2 phi__law_cut) :=
  den (k := 0) T.F__law_cut sc__law_cut (fun cdv A outer s H E hr => by
    unfold g__law_cut
    refine db_cons (ds_own (i := 2) sc__law_cut.nd (dn_lst da_nil)) ?_
    refine db_cons ?_ (db_one (ds_frz (ds_ret (de_var (i := 2)))))
    refine ds_for PassesOwn.never rfl (di_str (de_var (i := 0))) (dg_name (i := 3) sc__law_cut.nd) ?_
    refine db_one ?_
    refine ds_if ?_ ?_ (db_one (ds_app (i := 2) (y := "") (de_var (i := 3))))
    · refine dt_w ?_
      refine dw_and (dt_val (de_var (i := 1))) ?_
      refine dw_and (dt_val (de_isdigit (de_var (i := 3)))) ?_
      refine dw_and ?_ ?_
      · exact (dt_neL hr.units (dl_own (i := 2)) (de_of (dn_lst da_nil)) (nomark _))
      · exact (dw_and1 (dt_val (de_isdigit (de_ixL (dl_own (i := 2)) (de_neg de_int) (fun _ _ => rfl)))))
    · exact (db_one (ds_setOwn (i := 2) (de_bin os_add (de_ixL (dl_own (i := 2)) (de_neg de_int) (fun _ _ => rfl)) (de_var (i := 3))) (de_neg de_int)))) (fun _ _ _ _ h => h)

/-! law rank -/
theorem sc__law_rank : FnScope N__law_rank ["_law_piece", "_law_case", "_law_bars_here"] (defScope st__law_rank) := ⟨rfl, rfl, rfl, by decide +kernel, rfl, by decide +kernel, by decide +kernel⟩
theorem ok__law_rank (T : All K mg) (B : TbT P w T base) : FnOk P w K mg base CX0 1 T.f__law_rank T.fd__law_rank ["_law_piece", "_law_case", "_law_bars_here"] (spOf K 3 phi__law_rank) :=
  den (k := 0) T.F__law_rank sc__law_rank (fun cdv A outer s H E hr => by
    unfold g__law_rank
    refine db_cons ?_ ?_
    · refine ds_if ?_ ?_ db_nil
      · exact (dt_cmp (os_eq hr.units) (de_var (i := 0)) de_str (nomark _))
      · refine db_one ?_
        refine ds_ret ?_
        exact (de_if (dt_cmp (os_eq hr.units) (de_var (i := 2)) de_str (nomark _)) (de_of (dn_lst (da_d (de_neg de_int) da_nil))) (de_of (dn_lst (da_d de_int da_nil))))
    · refine db_cons ?_ ?_
      · refine ds_if (dt_val (de_isdigit (de_var (i := 0)))) ?_ db_nil
        exact (db_one (ds_ret (de_of (dn_lst (da_d de_int (da_d (de_biT cs_int rfl T.z_int (by decide +kernel) (da_d (de_var (i := 0)) da_nil)) da_nil))))))
      · refine db_cons ?_ ?_
        · refine ds_par (i := 3) (j := 4) rfl sc__law_rank.nd ?_ ?_
          · exact (de_biB cs_ord rfl T.z_ord (by decide +kernel) (da_d (de_upper (de_var (i := 0))) da_nil))
          · exact (de_if (dt_val (de_isupper (de_var (i := 0)))) de_int de_int)
        · refine db_one ?_
          refine ds_ret ?_
          refine de_if ?_ ?_ ?_
          · exact (dt_cmp (os_eq hr.units) (de_var (i := 1)) de_str (nomark _))
          · exact (de_of (dn_lst (da_d de_int (da_d (de_var (i := 4)) (da_d (de_var (i := 3)) da_nil)))))
          · refine de_if ?_ ?_ ?_
            · exact (dt_cmp (os_eq hr.units) (de_var (i := 1)) de_str (nomark _))
            · exact (de_of (dn_lst (da_d de_int (da_d (de_var (i := 3)) (da_d (de_var (i := 4)) da_nil)))))
            · exact (de_of (dn_lst (da_d de_int (da_d (de_var (i := 3)) da_nil))))) (fun _ _ _ _ h => h)

/-! law once -/
theorem sc__law_once : FnScope N__law_once ["_law_case", "_law_whole", "_law_bars_here", "_law_ends", "_law_one", "_law_other"] (defScope st__law_once) := ⟨rfl, rfl, rfl, by decide +kernel, rfl, by decide +kernel, by decide +kernel⟩
theorem ok__law_once (T : All K mg) (B : TbT P w T base) : FnOk P w K mg base CX0 2 T.f__law_once T.fd__law_once ["_law_case", "_law_whole", "_law_bars_here", "_law_ends", "_law_one", "_law_other"] (spOf K 6 phi__law_once) :=
  den (k := 1) T.F__law_once sc__law_once (fun cdv A outer s H E hr => by
    unfold g__law_once
    refine db_cons ?_ ?_
    · refine ds_par (i := 6) (j := 7) rfl sc__law_once.nd ?_ ?_
      · exact (de_call (ok__law_cut T B) (hr.mono (by decide)) rfl T.m__law_cut T.F__law_cut.kp (b__law_cut T) (da_d (de_var (i := 4)) (da_d (de_var (i := 1)) da_nil)) (hlen := (len_d (len_d len_nil))))
      · exact (de_call (ok__law_cut T B) (hr.mono (by decide)) rfl T.m__law_cut T.F__law_cut.kp (b__law_cut T) (da_d (de_var (i := 5)) (da_d (de_var (i := 1)) da_nil)) (hlen := (len_d (len_d len_nil))))
    · refine db_cons ?_ ?_
      · refine ds_for PassesOwn.never rfl ?_ (dg_name (i := 8) sc__law_once.nd) ?_
        · refine di_rng1 rfl T.z_range ?_
          refine de_biB (cs_min rfl) rfl T.z_min (by decide +kernel) ?_
          refine da_d ?_ ?_
          · exact (de_biB cs_len rfl T.z_len (by decide +kernel) (da_d (de_var (i := 6)) da_nil))
          · exact (da_d (de_biB cs_len rfl T.z_len (by decide +kernel) (da_d (de_var (i := 7)) da_nil)) da_nil)
        · refine db_cons ?_ ?_
          · refine ds_par (i := 9) (j := 10) rfl sc__law_once.nd ?_ ?_
            · refine de_call (ok__law_rank T B) (hr.mono (by decide)) rfl T.m__law_rank T.F__law_rank.kp (b__law_rank T) ?_ (hlen := (len_d (len_d (len_d len_nil))))
              exact (da_d (de_ix is_ix (de_var (i := 6)) (de_var (i := 8)) (fun _ _ => rfl)) (da_d (de_var (i := 0)) (da_d (de_var (i := 2)) da_nil)))
            · refine de_call (ok__law_rank T B) (hr.mono (by decide)) rfl T.m__law_rank T.F__law_rank.kp (b__law_rank T) ?_ (hlen := (len_d (len_d (len_d len_nil))))
              exact (da_d (de_ix is_ix (de_var (i := 7)) (de_var (i := 8)) (fun _ _ => rfl)) (da_d (de_var (i := 0)) (da_d (de_var (i := 2)) da_nil)))
          · refine db_one ?_
            refine ds_if ?_ ?_ db_nil
            · exact (dt_cmp (os_ne hr.units) (de_var (i := 9)) (de_var (i := 10)) (nomark _))
            · exact (db_one (ds_ret (de_if (dt_cmp (os_ltA hr.units) (de_var (i := 9)) (de_var (i := 10)) (nomark _)) (de_neg de_int) de_int)))
      · refine db_cons ?_ ?_
        · refine ds_if ?_ (db_one (ds_ret de_int)) db_nil
          refine dt_cmp (os_eq hr.units) ?_ ?_ (nomark _)
          · exact (de_biB cs_len rfl T.z_len (by decide +kernel) (da_d (de_var (i := 6)) da_nil))
          · exact (de_biB cs_len rfl T.z_len (by decide +kernel) (da_d (de_var (i := 7)) da_nil))
        · refine db_one ?_
          refine ds_ret ?_
          refine de_if ?_ (de_neg de_int) de_int
          refine dt_cmp (os_eq hr.units) ?_ ?_ (nomark _)
          · refine de_cmp (os_ltA hr.units) ?_ ?_ (nomark _)
            · exact (de_biB cs_len rfl T.z_len (by decide +kernel) (da_d (de_var (i := 6)) da_nil))
            · exact (de_biB cs_len rfl T.z_len (by decide +kernel) (da_d (de_var (i := 7)) da_nil))
          · exact (de_cmp (os_eq hr.units) (de_var (i := 3)) de_str (nomark _))) (fun _ _ _ _ h => h)

/-! law compare -/
theorem sc__law_compare : FnScope N__law_compare ["_law_rule_here", "_law_one", "_law_other"] (defScope st__law_compare) := ⟨rfl, rfl, rfl, by decide +kernel, rfl, by decide +kernel, by decide +kernel⟩
theorem ok__law_compare (T : All K mg) (B : TbT P w T base) : FnOk P w K mg base CX0 3 T.f__law_compare T.fd__law_compare ["_law_rule_here", "_law_one", "_law_other"] (spOf K 3 phi__law_compare) :=
  den (k := 2) T.F__law_compare sc__law_compare (fun cdv A outer s H E hr => by
    unfold g__law_compare
    refine db_cons ?_ ?_
    · refine ds_asgT (de_var (i := 0)) ?_
      refine dg_tup rfl ?_
      refine dgs_cons (dg_name (i := 3) sc__law_compare.nd) ?_
      refine dgs_cons (dg_name (i := 4) sc__law_compare.nd) ?_
      exact (dgs_cons (dg_name (i := 5) sc__law_compare.nd) (dgs_cons (dg_name (i := 6) sc__law_compare.nd) (dgs_cons (dg_name (i := 7) sc__law_compare.nd) dgs_nil)))
    · refine db_cons ?_ ?_
      · exact (ds_asg (i := 8) sc__law_compare.nd (de_if (dt_cmp (os_eq hr.units) (de_var (i := 3)) de_str (nomark _)) de_str (de_var (i := 3))))
      · refine db_cons ?_ ?_
        · refine ds_asg (i := 9) sc__law_compare.nd ?_
          refine de_call (ok__law_once T B) (hr.mono (by decide)) rfl T.m__law_once T.F__law_once.kp (b__law_once T) ?_ (hlen := (len_d (len_d (len_d (len_d (len_d (len_d len_nil)))))))
          refine da_d (de_var (i := 8)) ?_
          refine da_d ?_ ?_
          · exact (de_cmp (os_ne hr.units) (de_var (i := 4)) de_str (nomark _))
          · exact (da_d (de_var (i := 5)) (da_d (de_var (i := 6)) (da_d (de_var (i := 1)) (da_d (de_var (i := 2)) da_nil))))
        · refine db_cons ?_ ?_
          · refine ds_if ?_ ?_ db_nil
            · exact (dt_w (dw_and (dt_cmp (os_eq hr.units) (de_var (i := 9)) de_int (nomark _)) (dw_and1 (dt_cmp (os_eq hr.units) (de_var (i := 4)) de_str (nomark _)))))
            · refine db_one ?_
              refine ds_asg (i := 9) sc__law_compare.nd ?_
              refine de_call (ok__law_once T B) (hr.mono (by decide)) rfl T.m__law_once T.F__law_once.kp (b__law_once T) ?_ (hlen := (len_d (len_d (len_d (len_d (len_d (len_d len_nil)))))))
              exact (da_d (de_var (i := 8)) (da_d de_bl (da_d (de_var (i := 5)) (da_d (de_var (i := 6)) (da_d (de_var (i := 1)) (da_d (de_var (i := 2)) da_nil))))))
          · refine db_cons ?_ ?_
            · refine ds_if ?_ ?_ db_nil
              · exact (dt_w (dw_and (dt_cmp (os_eq hr.units) (de_var (i := 9)) de_int (nomark _)) (dw_and1 (dt_cmp (os_eq hr.units) (de_var (i := 3)) de_str (nomark _)))))
              · refine db_one ?_
                refine ds_asg (i := 9) sc__law_compare.nd ?_
                refine de_call (ok__law_once T B) (hr.mono (by decide)) rfl T.m__law_once T.F__law_once.kp (b__law_once T) ?_ (hlen := (len_d (len_d (len_d (len_d (len_d (len_d len_nil)))))))
                refine da_d de_str ?_
                refine da_d ?_ ?_
                · exact (de_cmp (os_ne hr.units) (de_var (i := 4)) de_str (nomark _))
                · exact (da_d (de_var (i := 5)) (da_d (de_var (i := 6)) (da_d (de_var (i := 1)) (da_d (de_var (i := 2)) da_nil))))
            · exact (db_one (ds_ret (de_if (dt_cmp (os_eq hr.units) (de_var (i := 7)) de_int (nomark _)) (de_neg (de_var (i := 9))) (de_var (i := 9)))))) (fun _ _ _ _ h => h)

/-! law texts -/
theorem sc__law_texts : FnScope N__law_texts ["_law_length"] (defScope st__law_texts) := ⟨rfl, rfl, rfl, by decide +kernel, rfl, by decide +kernel, by decide +kernel⟩
theorem ok__law_texts (T : All K mg) (B : TbT P w T base) : FnOk P w K mg base CX0 1 T.f__law_texts T.fd__law_texts ["_law_length"] (spOf K 1 phi__law_texts) :=
  den (k := 0) T.F__law_texts sc__law_texts (fun cdv A outer s H E hr => by
    unfold g__law_texts
    refine db_cons ?_ ?_
    · exact (ds_asg (i := 1) sc__law_texts.nd (de_of (dn_lst (da_d de_str da_nil))))
    · refine db_cons ?_ (db_one (ds_ret (de_var (i := 1))))
      refine ds_for PassesOwn.never rfl (di_rng1 rfl T.z_range (de_var (i := 0))) (dg_name (i := 2) sc__law_texts.nd) ?_
      refine db_cons (ds_asg (i := 3) sc__law_texts.nd (de_of (dn_lst da_nil))) ?_
      refine db_cons ?_ ?_
      · refine ds_for PassesOwn.never rfl (di_list (de_var (i := 1))) (dg_name (i := 4) sc__law_texts.nd) ?_
        refine db_one ?_
        refine ds_asg (i := 3) sc__law_texts.nd ?_
        refine de_bin os_add (de_var (i := 3)) ?_
        refine de_of ?_
        refine dn_lc (i := 5) (x := "_law_sign") rfl sc__law_texts.nd (di_str de_str) (blkOk_by (sc := defScope st__law_texts) (N := N__law_texts) (by decide +kernel)) (fun _ _ _ _ _ => pg_name (i := 5) sc__law_texts.nd rfl (by first | exact Or.inl rfl | exact Or.inr rfl)) tests_no ?_
        intro _ _ _ _ _
        exact (de_bin os_add (de_var (i := 4)) (de_var (i := 5)))
      · exact (db_one (ds_asg (i := 1) sc__law_texts.nd (de_var (i := 3))))) (fun _ _ _ _ h => h)

/-! law pairs -/
theorem sc__law_pairs : FnScope N__law_pairs ["_law_signs"] (defScope st__law_pairs) := ⟨rfl, rfl, rfl, by decide +kernel, rfl, by decide +kernel, by decide +kernel⟩
theorem ok__law_pairs (T : All K mg) (B : TbT P w T base) : FnOk P w K mg base CX0 2 T.f__law_pairs T.fd__law_pairs ["_law_signs"] (spOf K 1 phi__law_pairs) :=
  den (k := 1) T.F__law_pairs sc__law_pairs (fun cdv A outer s H E hr => by
    unfold g__law_pairs
    refine db_cons (ds_asg (i := 1) sc__law_pairs.nd (de_of (dn_lst da_nil))) ?_
    refine db_cons ?_ (db_one (ds_ret (de_var (i := 1))))
    refine ds_for PassesOwn.never rfl ?_ (dg_name (i := 2) sc__law_pairs.nd) ?_
    · exact (di_rng1 rfl T.z_range (de_bin os_add (de_var (i := 0)) de_int))
    · refine db_one ?_
      refine ds_for PassesOwn.never rfl ?_ (dg_name (i := 3) sc__law_pairs.nd) ?_
      · refine di_list ?_
        exact (de_call (ok__law_texts T B) (hr.mono (by decide)) rfl T.m__law_texts T.F__law_texts.kp (b__law_texts T) (da_d (de_var (i := 2)) da_nil) (hlen := (len_d len_nil)))
      · refine db_one ?_
        refine ds_asg (i := 1) sc__law_pairs.nd ?_
        refine de_bin os_add (de_var (i := 1)) ?_
        refine de_of ?_
        refine dn_lc (i := 4) (x := "_law_other") rfl sc__law_pairs.nd ?_ (blkOk_by (sc := defScope st__law_pairs) (N := N__law_pairs) (by decide +kernel)) (fun _ _ _ _ _ => pg_name (i := 4) sc__law_pairs.nd rfl (by first | exact Or.inl rfl | exact Or.inr rfl)) tests_no ?_
        · refine di_list ?_
          refine de_call (ok__law_texts T B) (hr.mono (by decide)) rfl T.m__law_texts T.F__law_texts.kp (b__law_texts T) ?_ (hlen := (len_d len_nil))
          exact (da_d (de_bin os_subI (de_var (i := 0)) (de_var (i := 2))) da_nil)
        · intro _ _ _ _ _
          exact (de_tup (da_d (de_var (i := 3)) (da_d (de_var (i := 4)) da_nil)))) (fun _ _ _ _ h => h)

/-! law groups -/
theorem sc__law_groups : FnScope N__law_groups ["_law_told"] (defScope st__law_groups) := ⟨rfl, rfl, rfl, by decide +kernel, rfl, by decide +kernel, by decide +kernel⟩
theorem ok__law_groups (T : All K mg) (B : TbT P w T base) : FnOk P w K mg base CX0 1 T.f__law_groups T.fd__law_groups ["_law_told"] (spOf K 1 phi__law_groups) :=
  den (k := 0) T.F__law_groups sc__law_groups (fun cdv A outer s H E hr => by
    unfold g__law_groups
    refine db_cons ?_ ?_
    · refine ds_lcN (i := 1) (ix := 2) (x := "_law_k") rfl sc__law_groups.nd ?_ (blkOk_by (sc := defScope st__law_groups) (N := N__law_groups) (by decide +kernel)) (fun _ _ _ _ _ => pg_name (i := 2) sc__law_groups.nd rfl (by first | exact Or.inl rfl | exact Or.inr rfl)) ?_ (fun _ _ _ _ _ => (de_var (i := 2)))
      · exact (di_rng1 rfl T.z_range (de_biB cs_len rfl T.z_len (by decide +kernel) (da_d (de_var (i := 0)) da_nil)))
      · exact (tests_one (fun _ _ _ _ _ => (dt_cmp (os_notInDp (room65 hr)) (de_ix is_ix (de_var (i := 0)) (de_var (i := 2)) (fun _ _ => rfl)) (de_slice (de_var (i := 0)) dp_none (dp_some (de_var (i := 2)))) (by rfl))))
    · refine db_one ?_
      refine ds_ret ?_
      refine de_of ?_
      refine dn_lc (i := 3) (x := "_law_j") rfl sc__law_groups.nd (di_list (de_var (i := 1))) (blkOk_by (sc := defScope st__law_groups) (N := N__law_groups) (by decide +kernel)) (fun _ _ _ _ _ => pg_name (i := 3) sc__law_groups.nd rfl (by first | exact Or.inl rfl | exact Or.inr rfl)) tests_no ?_
      intro _ _ _ _ _
      refine de_of ?_
      refine dn_lc (i := 2) (x := "_law_k") rfl sc__law_groups.nd ?_ (blkOk_by (by kernel_rfl)) (fun _ _ _ _ _ => pg_name (i := 2) sc__law_groups.nd rfl (by first | exact Or.inl rfl | exact Or.inr rfl)) ?_ (fun _ _ _ _ _ => (de_var (i := 2)))
      · exact (di_rng1 rfl T.z_range (de_biB cs_len rfl T.z_len (by decide +kernel) (da_d (de_var (i := 0)) da_nil)))
      · exact (tests_one (fun _ _ _ _ _ => (dt_cmp (os_eq hr.units) (de_ix is_ix (de_var (i := 0)) (de_var (i := 2)) (fun _ _ => rfl)) (de_ix is_ix (de_var (i := 0)) (de_var (i := 3)) (fun _ _ => rfl)) (nomark _))))) (fun _ _ _ _ h => h)

/-! law call -/
theorem sc__law_call : FnScope N__law_call ["_law_one", "_law_other"] (defScope st__law_call) := ⟨rfl, rfl, rfl, by decide +kernel, rfl, by decide +kernel, by decide +kernel⟩
theorem ok__law_call (T : All K mg) (B : TbT P w T base) : FnOk P w K mg base CX0 6 T.f__law_call T.fd__law_call ["_law_one", "_law_other"] (spOf K 2 phi__law_call) :=
  den (k := 5) T.F__law_call sc__law_call (fun cdv A outer s H E hr => by
    unfold g__law_call
    refine db_cons (ds_asg (i := 2) sc__law_call.nd de_non) ?_
    refine db_cons (ds_asg (i := 3) sc__law_call.nd de_non) ?_
    refine db_cons ?_ ?_
    · exact (ds_try (ok := ["BadRule", "BadText", "BadNumber", "NotFound"]) (i := 4) (j := 3) rfl rfl rfl sc__law_call.nd rfl rfl (by decide) rfl rfl (by decide) (by decide) (fun _ _ => rfl) ⟨rfl, by decide, .inl T.mc_OrderError⟩ T.xm_OrderError (fun pn xe => (db_one (ds_asg (i := 2) sc__law_call.nd (de_callX (ok_telling_pair T B) (hr.mono (by decide)) rfl T.m_telling_pair T.F_telling_pair.kp (b_telling_pair T) (da_d (de_var (i := 0)) (da_d (de_var (i := 1)) da_nil)) (len_d (len_d len_nil)))))) (fun W pn xe tk po => (rb_hd (rs_asg (i := 2) sc__law_call.nd (re_call (ok_telling_pair T B) tk (hr.mono (by decide)) rfl T.m_telling_pair T.F_telling_pair.kp (b_telling_pair T) (da_d (de_var (i := 0)) (da_d (de_var (i := 1)) da_nil)) (hlen := (len_d (len_d len_nil))))))))
    · refine db_one ?_
      refine ds_ret ?_
      refine de_if (dt_exN (i := 3)) (de_var (i := 2)) ?_
      exact (de_call (ok__law_error T B) (hr.mono (by decide)) rfl T.m__law_error T.F__law_error.kp (b__law_error T) (da_x (i := 3) da_nil) (hlen := (len_x len_nil)))) (fun _ _ _ _ h => h)

/-! law changed -/
theorem sc__law_changed : FnScope N__law_changed ["_law_draws", "_law_rule_here"] (defScope st__law_changed) := ⟨rfl, rfl, rfl, by decide +kernel, rfl, by decide +kernel, by decide +kernel⟩
theorem ok__law_changed (T : All K mg) (B : TbT P w T base) : FnOk P w K mg base CX0 4 T.f__law_changed T.fd__law_changed ["_law_draws", "_law_rule_here"] (spOf K 2 phi__law_changed) :=
  den (k := 3) T.F__law_changed sc__law_changed (fun cdv A outer s H E hr => by
    unfold g__law_changed
    refine db_cons ?_ ?_
    · refine ds_asg (i := 2) sc__law_changed.nd ?_
      exact (de_call (ok__law_draw T B) (hr.mono (by decide)) rfl T.m__law_draw T.F__law_draw.kp (b__law_draw T) (da_w (i := 0) (da_d de_int da_nil)) (hlen := (len_w (len_d len_nil))))
    · refine db_one ?_
      refine ds_ret ?_
      refine de_bin os_addO ?_ ?_
      · refine de_bin os_addO ?_ ?_
        · exact (de_slice (de_var (i := 1)) dp_none (dp_some (de_var (i := 2))))
        · refine de_tup ?_
          refine da_d ?_ da_nil
          refine de_ix is_ix ?_ (de_var (i := 2)) (fun _ _ => rfl)
          exact (de_call (ok__law_rule T B) (hr.mono (by decide)) rfl T.m__law_rule T.F__law_rule.kp (b__law_rule T) (da_w (i := 0) da_nil) (hlen := (len_w len_nil)))
      · exact (de_slice (de_var (i := 1)) (dp_some (de_bin os_addO (de_var (i := 2)) de_int)) dp_none)) (fun _ _ _ _ h => h)

end
end K04
end
-- K04l
section
set_option Elab.async false
set_option linter.all false
set_option maxRecDepth 100000
set_option maxHeartbeats 4000000
namespace K04
open PySem PySem.Spec PyProof.Rows L2 Den
section
variable [TB : Tabl] {P : Program} {w : World} {K : PySem.W.Frag} {mg : Str → Option Value} {base : Heap}
theorem sc_law : FnScope N_law ["_law_script"] (defScope st_law) := ⟨rfl, rfl, rfl, by decide +kernel, rfl, by decide +kernel, by decide +kernel⟩
theorem ok_law (T : All K mg) (B : TbT P w T base) (hg : ∀ ns : List Int, 0 < ns.length → ns.length ≤ 63 → ∃ D', g_law (lawEnv 11) (ns, 0) = some (.rt (.bool true) D')) : FnOk P w K mg base CX0 7 T.f_law T.fd_law ["_law_script"] (spLaw K) := by
  refine law_ok (k := 6) (n := 11) T.F_law sc_law rfl rfl (fun cdv A outer s H E hr => ?_) (fun cdv A outer s H E hr => ?_) hg
  · exact ps_set (i := 1) sc_law.nd rfl (by first | exact .inl rfl | exact .inr rfl) (pe_call (ok__law_start T B) (hr.mono (by decide)) (by rfl) T.m__law_start T.F__law_start.kp (b__law_start T) .nil pass0 (pa_cons (pv 0) pa_nil))
  · unfold g_law
    refine db_cons ?_ ?_
    · refine ds_asg (i := 2) sc_law.nd ?_
      exact (de_call (ok__law_rule T B) (hr.mono (by decide)) rfl T.m__law_rule T.F__law_rule.kp (b__law_rule T) (da_w (i := 1) da_nil) (hlen := (len_w len_nil)))
    · refine db_cons ?_ ?_
      · refine ds_asg (i := 3) sc_law.nd ?_
        refine de_if ?_ ?_ ?_
        · refine dt_cmp os_gtI ?_ de_int (nomark _)
          exact (de_call (ok__law_draw T B) (hr.mono (by decide)) rfl T.m__law_draw T.F__law_draw.kp (b__law_draw T) (da_w (i := 1) (da_d de_int da_nil)) (hlen := (len_w (len_d len_nil))))
        · exact (de_call (ok__law_changed T B) (hr.mono (by decide)) rfl T.m__law_changed T.F__law_changed.kp (b__law_changed T) (da_w (i := 1) (da_d (de_var (i := 2)) da_nil)) (hlen := (len_w (len_d len_nil))))
        · exact (de_call (ok__law_rule T B) (hr.mono (by decide)) rfl T.m__law_rule T.F__law_rule.kp (b__law_rule T) (da_w (i := 1) da_nil) (hlen := (len_w len_nil)))
      · refine db_cons (ds_asg (i := 4) sc_law.nd de_non) ?_
        refine db_cons ?_ ?_
        · refine ds_for PassesOwn.never rfl (di_rng1 rfl T.z_range de_int) (dg_name (i := 5) sc_law.nd) ?_
          refine db_one ?_
          refine ds_for PassesOwn.never rfl ?_ ?_ ?_
          · refine di_list ?_
            refine de_if (dt_cmp os_is (de_var (i := 4)) de_non (nomark _)) ?_ (de_of (dn_lst da_nil))
            exact (de_call (ok__law_pairs T B) (hr.mono (by decide)) rfl T.m__law_pairs T.F__law_pairs.kp (b__law_pairs T) (da_d (de_var (i := 5)) da_nil) (hlen := (len_d len_nil)))
          · exact (dg_tup rfl (dgs_cons (dg_name (i := 6) sc_law.nd) (dgs_cons (dg_name (i := 7) sc_law.nd) dgs_nil)))
          · refine db_one ?_
            refine ds_if ?_ ?_ db_nil
            · refine dt_cmp (os_ne hr.units) ?_ ?_ (nomark _)
              · refine de_call (ok__law_compare T B) (hr.mono (by decide)) rfl T.m__law_compare T.F__law_compare.kp (b__law_compare T) ?_ (hlen := (len_d (len_d (len_d len_nil))))
                exact (da_d (de_var (i := 2)) (da_d (de_var (i := 6)) (da_d (de_var (i := 7)) da_nil)))
              · refine de_call (ok__law_compare T B) (hr.mono (by decide)) rfl T.m__law_compare T.F__law_compare.kp (b__law_compare T) ?_ (hlen := (len_d (len_d (len_d len_nil))))
                exact (da_d (de_var (i := 3)) (da_d (de_var (i := 6)) (da_d (de_var (i := 7)) da_nil)))
            · exact (db_cons (ds_asg (i := 4) sc_law.nd (de_var (i := 5))) (db_one ds_brk))
        · refine db_cons ?_ ?_
          · refine ds_asg (i := 8) sc_law.nd ?_
            exact (de_call (ok__law_call T B) (hr.mono (by decide)) rfl T.m__law_call T.F__law_call.kp (b__law_call T) (da_d (de_var (i := 2)) (da_d (de_var (i := 3)) da_nil)) (hlen := (len_d (len_d len_nil))))
          · refine db_cons ?_ ?_
            · refine ds_if ?_ ?_ db_nil
              · exact (dt_w (dw_and (dt_cmp os_is (de_var (i := 4)) de_non (nomark _)) (dw_and1 (dt_cmp (os_eq hr.units) (de_var (i := 8)) de_str (nomark _)))))
              · refine db_one ?_
                refine ds_ret ?_
                refine de_and ?_ ?_
                · exact (de_cmp (os_eq hr.units) (de_var (i := 2)) (de_var (i := 3)) (nomark _))
                · refine de_and ?_ ?_
                  · refine de_cmp os_is ?_ de_bl (nomark _)
                    exact (de_call (ok_same T B) (hr.mono (by decide)) rfl T.m_same T.F_same.kp (b_same T) (da_d (de_var (i := 2)) (da_d (de_var (i := 3)) da_nil)) (hlen := (len_d (len_d len_nil))))
                  · refine de_one ?_
                    refine de_cmp (os_eq hr.units) ?_ ?_ (nomark _)
                    · refine de_call (ok_telling_table T B) (hr.mono (by decide)) rfl T.m_telling_table T.F_telling_table.kp (b_telling_table T) ?_ (hlen := (len_d len_nil))
                      exact (da_d (de_of (dn_lst (da_d (de_var (i := 2)) (da_d (de_var (i := 3)) da_nil)))) da_nil)
                    · exact (de_of (dn_lst (da_d (de_of (dn_lst (da_d de_non (da_d de_non da_nil)))) (da_d (de_of (dn_lst (da_d de_non (da_d de_non da_nil)))) da_nil))))
            · refine db_cons ?_ ?_
              · refine ds_if ?_ (db_one (ds_ret de_bl)) db_nil
                refine dt_w ?_
                refine dw_or ?_ ?_
                · exact (dt_cmp (os_eq hr.units) (de_var (i := 2)) (de_var (i := 3)) (nomark _))
                · refine dw_or ?_ ?_
                  · refine dt_cmp os_isNot ?_ de_bl (nomark _)
                    exact (de_call (ok_same T B) (hr.mono (by decide)) rfl T.m_same T.F_same.kp (b_same T) (da_d (de_var (i := 2)) (da_d (de_var (i := 3)) da_nil)) (hlen := (len_d (len_d len_nil))))
                  · refine dw_or ?_ ?_
                    · exact (dt_not (dt_val (de_isi plain_tuple rfl T.z_isinstance (by decide +kernel) rfl T.z_tuple (by decide +kernel) (de_var (i := 8)))))
                    · exact (dw_or1 (dt_cmp (os_ne hr.units) (de_biB cs_len rfl T.z_len (by decide +kernel) (da_d (de_var (i := 8)) da_nil)) de_int (nomark _)))
              · refine db_cons ?_ ?_
                · exact (ds_asgT (de_var (i := 8)) (dg_tup rfl (dgs_cons (dg_name (i := 6) sc_law.nd) (dgs_cons (dg_name (i := 7) sc_law.nd) dgs_nil))))
                · refine db_cons ?_ ?_
                  · refine ds_if ?_ (db_one (ds_ret de_bl)) db_nil
                    refine dt_w ?_
                    refine dw_or ?_ ?_
                    · exact (dt_cmp (os_ne hr.units) (de_strip (de_bin os_add (de_var (i := 6)) (de_var (i := 7))) de_str) de_str (nomark _))
                    · refine dw_or1 ?_
                      refine dt_cmp (os_eq hr.units) ?_ ?_ (nomark _)
                      · refine de_call (ok__law_compare T B) (hr.mono (by decide)) rfl T.m__law_compare T.F__law_compare.kp (b__law_compare T) ?_ (hlen := (len_d (len_d (len_d len_nil))))
                        exact (da_d (de_var (i := 2)) (da_d (de_var (i := 6)) (da_d (de_var (i := 7)) da_nil)))
                      · refine de_call (ok__law_compare T B) (hr.mono (by decide)) rfl T.m__law_compare T.F__law_compare.kp (b__law_compare T) ?_ (hlen := (len_d (len_d (len_d len_nil))))
                        exact (da_d (de_var (i := 3)) (da_d (de_var (i := 6)) (da_d (de_var (i := 7)) da_nil)))
                  · refine db_cons ?_ ?_
                    · refine ds_if ?_ (db_one (ds_ret de_bl)) db_nil
                      refine dt_w ?_
                      refine dw_or ?_ ?_
                      · refine dt_w ?_
                        refine dw_and (dt_cmp os_isNot (de_var (i := 4)) de_non (nomark _)) ?_
                        refine dw_and1 ?_
                        refine dt_cmp (os_ne hr.units) ?_ (de_var (i := 4)) (nomark _)
                        exact (de_biB cs_len rfl T.z_len (by decide +kernel) (da_d (de_bin os_add (de_var (i := 6)) (de_var (i := 7))) da_nil))
                      · refine dw_or1 ?_
                        refine dt_w ?_
                        refine dw_and (dt_cmp os_is (de_var (i := 4)) de_non (nomark _)) ?_
                        refine dw_and1 ?_
                        exact (dt_cmp (os_ltA hr.units) (de_biB cs_len rfl T.z_len (by decide +kernel) (da_d (de_bin os_add (de_var (i := 6)) (de_var (i := 7))) da_nil)) de_int (nomark _))
                    · refine db_cons ?_ ?_
                      · refine ds_asg (i := 9) sc_law.nd ?_
                        refine de_of ?_
                        refine dn_lst ?_
                        refine da_d (de_var (i := 2)) ?_
                        refine da_d (de_var (i := 3)) ?_
                        refine da_d ?_ (da_d (de_var (i := 3)) da_nil)
                        exact (de_call (ok__law_changed T B) (hr.mono (by decide)) rfl T.m__law_changed T.F__law_changed.kp (b__law_changed T) (da_w (i := 1) (da_d (de_var (i := 2)) da_nil)) (hlen := (len_w (len_d len_nil))))
                      · refine db_cons ?_ ?_
                        · refine ds_asg (i := 10) sc_law.nd ?_
                          exact (de_call (ok_telling_table T B) (hr.mono (by decide)) rfl T.m_telling_table T.F_telling_table.kp (b_telling_table T) (da_d (de_var (i := 9)) da_nil) (hlen := (len_d len_nil)))
                        · refine db_cons ?_ ?_
                          · refine ds_if ?_ (db_one (ds_ret de_bl)) db_nil
                            refine dt_w ?_
                            refine dw_or ?_ ?_
                            · refine dt_cmp (os_ne hr.units) ?_ ?_ (nomark _)
                              · exact (de_ix is_ix (de_ix is_ix (de_var (i := 10)) de_int (fun _ _ => rfl)) de_int (fun _ _ => rfl))
                              · exact (de_biB cs_len rfl T.z_len (by decide +kernel) (da_d (de_bin os_add (de_var (i := 6)) (de_var (i := 7))) da_nil))
                            · refine dw_or1 ?_
                              refine dt_cmp (os_ne hr.units) ?_ ?_ (nomark _)
                              · exact (de_call (ok_classes T B) (hr.mono (by decide)) rfl T.m_classes T.F_classes.kp (b_classes T) (da_d (de_var (i := 9)) da_nil) (hlen := (len_d len_nil)))
                              · exact (de_call (ok__law_groups T B) (hr.mono (by decide)) rfl T.m__law_groups T.F__law_groups.kp (b__law_groups T) (da_d (de_var (i := 9)) da_nil) (hlen := (len_d len_nil)))
                          · refine db_cons ?_ ?_
                            · refine ds_for PassesOwn.never rfl (di_rng1 rfl T.z_range de_int) (dg_name (i := 11) sc_law.nd) ?_
                              refine db_one ?_
                              refine ds_for PassesOwn.never rfl (di_rng1 rfl T.z_range de_int) (dg_name (i := 12) sc_law.nd) ?_
                              refine db_one ?_
                              refine ds_if ?_ (db_one (ds_ret de_bl)) db_nil
                              refine dt_w ?_
                              refine dw_or ?_ ?_
                              · refine dt_cmp (os_ne hr.units) ?_ ?_ (nomark _)
                                · exact (de_cmp os_is (de_ix is_ix (de_ix is_ix (de_var (i := 10)) (de_var (i := 11)) (fun _ _ => rfl)) (de_var (i := 12)) (fun _ _ => rfl)) de_non (nomark _))
                                · refine de_cmp (os_eq hr.units) ?_ ?_ (nomark _)
                                  · exact (de_ix is_ix (de_var (i := 9)) (de_var (i := 11)) (fun _ _ => rfl))
                                  · exact (de_ix is_ix (de_var (i := 9)) (de_var (i := 12)) (fun _ _ => rfl))
                              · refine dw_or1 ?_
                                refine dt_cmp (os_ne hr.units) ?_ ?_ (nomark _)
                                · exact (de_ix is_ix (de_ix is_ix (de_var (i := 10)) (de_var (i := 11)) (fun _ _ => rfl)) (de_var (i := 12)) (fun _ _ => rfl))
                                · exact (de_ix is_ix (de_ix is_ix (de_var (i := 10)) (de_var (i := 12)) (fun _ _ => rfl)) (de_var (i := 11)) (fun _ _ => rfl))
                            · refine db_one ?_
                              refine ds_ret ?_
                              refine de_and ?_ ?_
                              · refine de_cmp os_is ?_ de_bl (nomark _)
                                exact (de_call (ok_same T B) (hr.mono (by decide)) rfl T.m_same T.F_same.kp (b_same T) (da_d (de_var (i := 3)) (da_d (de_var (i := 2)) da_nil)) (hlen := (len_d (len_d len_nil))))
                              · refine de_and ?_ ?_
                                · refine de_cmp os_is ?_ de_bl (nomark _)
                                  exact (de_call (ok_same T B) (hr.mono (by decide)) rfl T.m_same T.F_same.kp (b_same T) (da_d (de_var (i := 2)) (da_d (de_var (i := 2)) da_nil)) (hlen := (len_d (len_d len_nil))))
                                · refine de_one ?_
                                  refine de_cmp (os_eq hr.units) ?_ de_str (nomark _)
                                  exact (de_call (ok__law_call T B) (hr.mono (by decide)) rfl T.m__law_call T.F__law_call.kp (b__law_call T) (da_d (de_var (i := 3)) (da_d (de_var (i := 3)) da_nil)) (hlen := (len_d (len_d len_nil))))
end
theorem binds_law [TB : Tabl] {K : PySem.W.Frag} {mg : Str → Option Value} (T : All K mg) (s : Shared) (v : Value) : BindsTo s T.fd_law ⟨[v], []⟩ [("_law_script", v)] := by
  obtain ⟨oc, od, kV, doc, pm, an, cdv, ct, osl, e, _⟩ := T.F_law.ex
  rw [e]
  exact .of_eq rfl
section
open PySem.W PySem.Calls
theorem facts {w : World} {K : PySem.W.Frag} {mg : Str → Option Value} {h : Heap} {f : Addr} (X : K.In h) (G : h.Ns mainGlobals mg) (hfa : mg "law" = some (.ref f)) (e : Hd.l.obs K = Hd.l.val Hd.p w) :
    ∃ fd : FuncData, (∀ (s : Shared) (v : Value), BindsTo s fd ⟨[v], []⟩ [("_law_script", v)]) ∧ ∀ base : Heap, K.In base → base.Ns mainGlobals mg → FnOk Hd.p w K mg base CX0 7 f fd ["_law_script"] (@spLaw ⟨[], He.ga K⟩ K) := by
  letI TB : Tabl := ⟨[], He.ga K⟩
  have c := Looks.saysD e
  obtain ⟨fd_is_whole, F_is_whole⟩ := c.def_ 0 (d := dD "is_whole" st_is_whole) rfl
  obtain ⟨fd_is_word, F_is_word⟩ := c.def_ 1 (d := dD "is_word" st_is_word) rfl
  obtain ⟨fd_is_rule, F_is_rule⟩ := c.def_ 2 (d := dD "is_rule" st_is_rule) rfl
  obtain ⟨fd_check_rule, F_check_rule⟩ := c.def_ 3 (d := dD "check_rule" st_check_rule) rfl
  obtain ⟨fd_check_family, F_check_family⟩ := c.def_ 4 (d := dD "check_family" st_check_family) rfl
  obtain ⟨fd_marks_of, F_marks_of⟩ := c.def_ 5 (d := dD "marks_of" st_marks_of) rfl
  obtain ⟨fd_marks_behind, F_marks_behind⟩ := c.def_ 6 (d := dD "marks_behind" st_marks_behind) rfl
  obtain ⟨fd_decided, F_decided⟩ := c.def_ 7 (d := dD "decided" st_decided) rfl
  obtain ⟨fd_turned_round, F_turned_round⟩ := c.def_ 8 (d := dD "turned_round" st_turned_round) rfl
  obtain ⟨fd_signs_of, F_signs_of⟩ := c.def_ 9 (d := dD "signs_of" st_signs_of) rfl
  obtain ⟨fd_marks_of_two, F_marks_of_two⟩ := c.def_ 10 (d := dD "marks_of_two" st_marks_of_two) rfl
  obtain ⟨fd_same, F_same⟩ := c.def_ 11 (d := dD "same" st_same) rfl
  obtain ⟨fd_telling_pair, F_telling_pair⟩ := c.def_ 12 (d := dD "telling_pair" st_telling_pair) rfl
  obtain ⟨fd_first_unlike, F_first_unlike⟩ := c.def_ 13 (d := dD "first_unlike" st_first_unlike) rfl
  obtain ⟨fd_classes, F_classes⟩ := c.def_ 14 (d := dD "classes" st_classes) rfl
  obtain ⟨fd_telling_table, F_telling_table⟩ := c.def_ 15 (d := dD "telling_table" st_telling_table) rfl
  obtain ⟨fd_least_signs, F_least_signs⟩ := c.def_ 16 (d := dD "least_signs" st_least_signs) rfl
  obtain ⟨fd__law_start, F__law_start⟩ := c.def_ 17 (d := dD "_law_start" st__law_start) rfl
  obtain ⟨fd__law_draw, F__law_draw⟩ := c.def_ 18 (d := dD "_law_draw" st__law_draw) rfl
  obtain ⟨fd__law_pick, F__law_pick⟩ := c.def_ 19 (d := dD "_law_pick" st__law_pick) rfl
  obtain ⟨fd__law_error, F__law_error⟩ := c.def_ 20 (d := dD "_law_error" st__law_error) rfl
  obtain ⟨fd__law_words, F__law_words⟩ := c.def_ 21 (d := dD "_law_words" st__law_words) rfl
  obtain ⟨fd__law_rule, F__law_rule⟩ := c.def_ 22 (d := dD "_law_rule" st__law_rule) rfl
  obtain ⟨fd__law_cut, F__law_cut⟩ := c.def_ 23 (d := dD "_law_cut" st__law_cut) rfl
  obtain ⟨fd__law_rank, F__law_rank⟩ := c.def_ 24 (d := dD "_law_rank" st__law_rank) rfl
  obtain ⟨fd__law_once, F__law_once⟩ := c.def_ 25 (d := dD "_law_once" st__law_once) rfl
  obtain ⟨fd__law_compare, F__law_compare⟩ := c.def_ 26 (d := dD "_law_compare" st__law_compare) rfl
  obtain ⟨fd__law_texts, F__law_texts⟩ := c.def_ 27 (d := dD "_law_texts" st__law_texts) rfl
  obtain ⟨fd__law_pairs, F__law_pairs⟩ := c.def_ 28 (d := dD "_law_pairs" st__law_pairs) rfl
  obtain ⟨fd__law_groups, F__law_groups⟩ := c.def_ 29 (d := dD "_law_groups" st__law_groups) rfl
  obtain ⟨fd__law_call, F__law_call⟩ := c.def_ 30 (d := dD "_law_call" st__law_call) rfl
  obtain ⟨fd__law_changed, F__law_changed⟩ := c.def_ 31 (d := dD "_law_changed" st__law_changed) rfl
  obtain ⟨fd_law, F_law⟩ := c.def_ 32 (d := dD "law" st_law) rfl
  obtain ⟨v_CASES, u_CASES, m_CASES, r_CASES, d_CASES⟩ := datAt_ok X G (Looks.dat e 0 (x := ("CASES", (.tuple [(.str "apart"), (.str "mixed"), (.str "together"), (.str "last")]))) rfl)
  obtain ⟨v_FIGURES, u_FIGURES, m_FIGURES, r_FIGURES, d_FIGURES⟩ := datAt_ok X G (Looks.dat e 1 (x := ("FIGURES", (.tuple [(.str "signs"), (.str "numbers"), (.str "strict")]))) rfl)
  obtain ⟨v_BARS, u_BARS, m_BARS, r_BARS, d_BARS⟩ := datAt_ok X G (Looks.dat e 2 (x := ("BARS", (.tuple [(.str "ahead"), (.str "behind")]))) rfl)
  obtain ⟨v_ENDS, u_ENDS, m_ENDS, r_ENDS, d_ENDS⟩ := datAt_ok X G (Looks.dat e 3 (x := ("ENDS", (.tuple [(.str "first"), (.str "behind")]))) rfl)
  obtain ⟨v_MOST_RULES, u_MOST_RULES, m_MOST_RULES, r_MOST_RULES, d_MOST_RULES⟩ := datAt_ok X G (Looks.dat e 4 (x := ("MOST_RULES", (.int 8))) rfl)
  obtain ⟨v_CAPITALS, u_CAPITALS, m_CAPITALS, r_CAPITALS, d_CAPITALS⟩ := datAt_ok X G (Looks.dat e 5 (x := ("CAPITALS", (.str "=====<==================<<>==<<=====================<<===<>================"))) rfl)
  obtain ⟨v_PAIRS, u_PAIRS, m_PAIRS, r_PAIRS, d_PAIRS⟩ := datAt_ok X G (Looks.dat e 6 (x := ("PAIRS", (.tuple [(.tuple [(.str ""), (.str "")]), (.tuple [(.str ""), (.str "A")]), (.tuple [(.str "A"), (.str "B")]), (.tuple [(.str "B"), (.str "a")]), (.tuple [(.str "_"), (.str "A")]), (.tuple [(.str "A"), (.str "a")]), (.tuple [(.str "A"), (.str "aA")]), (.tuple [(.str "AA"), (.str "a")]), (.tuple [(.str "01"), (.str "1")]), (.tuple [(.str "0"), (.str "01")]), (.tuple [(.str "0"), (.str "00")]), (.tuple [(.str "AB"), (.str "aA")]), (.tuple [(.str "A_"), (.str "aA")]), (.tuple [(.str "AA"), (.str "a_")]), (.tuple [(.str "01"), (.str "1A")]), (.tuple [(.str "01A"), (.str "1")]), (.tuple [(.str "010"), (.str "1")]), (.tuple [(.str "0_"), (.str "01")]), (.tuple [(.str "0_"), (.str "00")]), (.tuple [(.str "01a"), (.str "1B")]), (.tuple [(.str "01B"), (.str "1a")]), (.tuple [(.str "01_"), (.str "1A")]), (.tuple [(.str "01A"), (.str "1_")]), (.tuple [(.str "0_"), (.str "00_")]), (.tuple [(.str "A01"), (.str "a1")]), (.tuple [(.str "A1"), (.str "a01")]), (.tuple [(.str "01a"), (.str "1A")]), (.tuple [(.str "A0"), (.str "a01")]), (.tuple [(.str "A01"), (.str "a0")]), (.tuple [(.str "A0"), (.str "a00")]), (.tuple [(.str "A00"), (.str "a0")]), (.tuple [(.str "0_"), (.str "00_A")]), (.tuple [(.str "A01"), (.str "a1A")]), (.tuple [(.str "A01A"), (.str "a1")]), (.tuple [(.str "A1"), (.str "a01A")]), (.tuple [(.str "A1A"), (.str "a01")]), (.tuple [(.str "01a"), (.str "1AA")]), (.tuple [(.str "01aA"), (.str "1A")]), (.tuple [(.str "A1"), (.str "a010")]), (.tuple [(.str "A010"), (.str "a1")]), (.tuple [(.str "A0_"), (.str "a01")]), (.tuple [(.str "A01"), (.str "a0_")]), (.tuple [(.str "A0_"), (.str "a00")]), (.tuple [(.str "A00"), (.str "a0_")]), (.tuple [(.str "0_B"), (.str "00_A")]), (.tuple [(.str "0_a"), (.str "00_B")]), (.tuple [(.str "0_B"), (.str "00_a")]), (.tuple [(.str "0_A"), (.str "00__")]), (.tuple [(.str "A01_"), (.str "a1A")]), (.tuple [(.str "A01A"), (.str "a1_")]), (.tuple [(.str "A1_"), (.str "a01A")]), (.tuple [(.str "A1A"), (.str "a01_")]), (.tuple [(.str "A0_"), (.str "a00_")]), (.tuple [(.str "A00_"), (.str "a0_")]), (.tuple [(.str "01aA"), (.str "1AB")]), (.tuple [(.str "01a_"), (.str "1AA")]), (.tuple [(.str "01aA"), (.str "1A_")]), (.tuple [(.str "0_A"), (.str "00_a")]), (.tuple [(.str "0_a"), (.str "00_A")]), (.tuple [(.str "A0_"), (.str "a00_A")]), (.tuple [(.str "A00_A"), (.str "a0_")]), (.tuple [(.str "0_A"), (.str "00_aA")]), (.tuple [(.str "0_AA"), (.str "00_a")]), (.tuple [(.str "0_a"), (.str "00_AA")]), (.tuple [(.str "0_aA"), (.str "00_A")]), (.tuple [(.str "A0_B"), (.str "a00_A")]), (.tuple [(.str "A0_A"), (.str "a00__")]), (.tuple [(.str "A00_A"), (.str "a0_B")]), (.tuple [(.str "A00__"), (.str "a0_A")]), (.tuple [(.str "0_AB"), (.str "00_aA")]), (.tuple [(.str "0_A_"), (.str "00_aA")]), (.tuple [(.str "0_AA"), (.str "00_a_")]), (.tuple [(.str "0_aA"), (.str "00_AB")]), (.tuple [(.str "0_a_"), (.str "00_AA")]), (.tuple [(.str "0_aA"), (.str "00_A_")])]))) rfl)
  have M : excB Hd.okC Hd.tabsC K = true := Looks.mor e
  have x_OrderError := c.fact 18 (f := .exc "OrderError") rfl
  obtain ⟨x1_OrderError, x2_OrderError, x3_OrderError, x4_OrderError⟩ := exc_parts x_OrderError
  have x_BadRule := c.fact 19 (f := .exc "BadRule") rfl
  obtain ⟨x1_BadRule, x2_BadRule, x3_BadRule, x4_BadRule⟩ := exc_parts x_BadRule
  have x_BadText := c.fact 20 (f := .exc "BadText") rfl
  obtain ⟨x1_BadText, x2_BadText, x3_BadText, x4_BadText⟩ := exc_parts x_BadText
  have x_BadNumber := c.fact 21 (f := .exc "BadNumber") rfl
  obtain ⟨x1_BadNumber, x2_BadNumber, x3_BadNumber, x4_BadNumber⟩ := exc_parts x_BadNumber
  have x_NotFound := c.fact 22 (f := .exc "NotFound") rfl
  obtain ⟨x1_NotFound, x2_NotFound, x3_NotFound, x4_NotFound⟩ := exc_parts x_NotFound
  have ex : ∀ n ∈ Hd.okC, (He.Fa.exc n).ok K = true := (List.forall_mem_cons.mpr ⟨x_BadRule, (List.forall_mem_cons.mpr ⟨x_BadText, (List.forall_mem_cons.mpr ⟨x_BadNumber, (List.forall_mem_cons.mpr ⟨x_NotFound, (fun _ h => nomatch h)⟩)⟩)⟩)⟩)
  have T : Nonempty { T : All K mg // T.f_law = He.ga K "law" } := ⟨⟨⟨He.ga K "is_whole", fd_is_whole, fun_of F_is_whole, He.glo_ok X G (c.fact 27 (f := .glo "is_whole") rfl), He.ga K "is_word", fd_is_word, fun_of F_is_word, He.glo_ok X G (c.fact 28 (f := .glo "is_word") rfl), He.ga K "is_rule", fd_is_rule, fun_of F_is_rule, He.glo_ok X G (c.fact 29 (f := .glo "is_rule") rfl), He.ga K "check_rule", fd_check_rule, fun_of F_check_rule, He.glo_ok X G (c.fact 30 (f := .glo "check_rule") rfl), He.ga K "check_family", fd_check_family, fun_of F_check_family, He.glo_ok X G (c.fact 31 (f := .glo "check_family") rfl), He.ga K "marks_of", fd_marks_of, fun_of F_marks_of, He.glo_ok X G (c.fact 32 (f := .glo "marks_of") rfl), He.ga K "marks_behind", fd_marks_behind, fun_of F_marks_behind, He.glo_ok X G (c.fact 33 (f := .glo "marks_behind") rfl), He.ga K "decided", fd_decided, fun_of F_decided, He.glo_ok X G (c.fact 34 (f := .glo "decided") rfl), He.ga K "turned_round", fd_turned_round, fun_of F_turned_round, He.glo_ok X G (c.fact 35 (f := .glo "turned_round") rfl), He.ga K "signs_of", fd_signs_of, fun_of F_signs_of, He.glo_ok X G (c.fact 36 (f := .glo "signs_of") rfl), He.ga K "marks_of_two", fd_marks_of_two, fun_of F_marks_of_two, He.glo_ok X G (c.fact 37 (f := .glo "marks_of_two") rfl), He.ga K "same", fd_same, fun_of F_same, He.glo_ok X G (c.fact 38 (f := .glo "same") rfl), He.ga K "telling_pair", fd_telling_pair, fun_of F_telling_pair, He.glo_ok X G (c.fact 39 (f := .glo "telling_pair") rfl), He.ga K "first_unlike", fd_first_unlike, fun_of F_first_unlike, He.glo_ok X G (c.fact 40 (f := .glo "first_unlike") rfl), He.ga K "classes", fd_classes, fun_of F_classes, He.glo_ok X G (c.fact 41 (f := .glo "classes") rfl), He.ga K "telling_table", fd_telling_table, fun_of F_telling_table, He.glo_ok X G (c.fact 42 (f := .glo "telling_table") rfl), He.ga K "least_signs", fd_least_signs, fun_of F_least_signs, He.glo_ok X G (c.fact 43 (f := .glo "least_signs") rfl), He.ga K "_law_start", fd__law_start, fun_of F__law_start, He.glo_ok X G (c.fact 44 (f := .glo "_law_start") rfl), He.ga K "_law_draw", fd__law_draw, fun_of F__law_draw, He.glo_ok X G (c.fact 45 (f := .glo "_law_draw") rfl), He.ga K "_law_pick", fd__law_pick, fun_of F__law_pick, He.glo_ok X G (c.fact 46 (f := .glo "_law_pick") rfl), He.ga K "_law_error", fd__law_error, fun_of F__law_error, He.glo_ok X G (c.fact 47 (f := .glo "_law_error") rfl), He.ga K "_law_words", fd__law_words, fun_of F__law_words, He.glo_ok X G (c.fact 48 (f := .glo "_law_words") rfl), He.ga K "_law_rule", fd__law_rule, fun_of F__law_rule, He.glo_ok X G (c.fact 49 (f := .glo "_law_rule") rfl), He.ga K "_law_cut", fd__law_cut, fun_of F__law_cut, He.glo_ok X G (c.fact 50 (f := .glo "_law_cut") rfl), He.ga K "_law_rank", fd__law_rank, fun_of F__law_rank, He.glo_ok X G (c.fact 51 (f := .glo "_law_rank") rfl), He.ga K "_law_once", fd__law_once, fun_of F__law_once, He.glo_ok X G (c.fact 52 (f := .glo "_law_once") rfl), He.ga K "_law_compare", fd__law_compare, fun_of F__law_compare, He.glo_ok X G (c.fact 53 (f := .glo "_law_compare") rfl), He.ga K "_law_texts", fd__law_texts, fun_of F__law_texts, He.glo_ok X G (c.fact 54 (f := .glo "_law_texts") rfl), He.ga K "_law_pairs", fd__law_pairs, fun_of F__law_pairs, He.glo_ok X G (c.fact 55 (f := .glo "_law_pairs") rfl), He.ga K "_law_groups", fd__law_groups, fun_of F__law_groups, He.glo_ok X G (c.fact 56 (f := .glo "_law_groups") rfl), He.ga K "_law_call", fd__law_call, fun_of F__law_call, He.glo_ok X G (c.fact 57 (f := .glo "_law_call") rfl), He.ga K "_law_changed", fd__law_changed, fun_of F__law_changed, He.glo_ok X G (c.fact 58 (f := .glo "_law_changed") rfl), He.ga K "law", fd_law, fun_of F_law, He.glo_ok X G (c.fact 59 (f := .glo "law") rfl), He.glo_ok X G (c.fact 13 (f := .glo "OrderError") rfl), x2_OrderError, x1_OrderError, x3_OrderError, x4_OrderError, He.glo_ok X G (c.fact 14 (f := .glo "BadRule") rfl), x2_BadRule, x1_BadRule, x3_BadRule, x4_BadRule, He.glo_ok X G (c.fact 15 (f := .glo "BadText") rfl), x2_BadText, x1_BadText, x3_BadText, x4_BadText, He.glo_ok X G (c.fact 16 (f := .glo "BadNumber") rfl), x2_BadNumber, x1_BadNumber, x3_BadNumber, x4_BadNumber, He.glo_ok X G (c.fact 17 (f := .glo "NotFound") rfl), x2_NotFound, x1_NotFound, x3_NotFound, x4_NotFound, (List.forall_mem_cons.mpr ⟨exm_parts (c.fact 23 (f := .exm "BadRule" "OrderError" true) rfl), (List.forall_mem_cons.mpr ⟨exm_parts (c.fact 24 (f := .exm "BadText" "OrderError" true) rfl), (List.forall_mem_cons.mpr ⟨exm_parts (c.fact 25 (f := .exm "BadNumber" "OrderError" true) rfl), (List.forall_mem_cons.mpr ⟨exm_parts (c.fact 26 (f := .exm "NotFound" "OrderError" true) rfl), (fun _ h => nomatch h)⟩)⟩)⟩)⟩), isa_of M (by decide) ex (by decide), isa_of M (by decide) ex (by decide), isa_of M (by decide) ex (by decide), isa_of M (by decide) ex (by decide), isa_of M (by decide) ex (by decide), isaV_of M (by decide) ex (by decide), He.free_ok X G (c.fact 0 (f := .free "ValueError") rfl), He.free_ok X G (c.fact 1 (f := .free "bool") rfl), He.free_ok X G (c.fact 2 (f := .free "enumerate") rfl), He.free_ok X G (c.fact 3 (f := .free "int") rfl), He.free_ok X G (c.fact 4 (f := .free "isinstance") rfl), He.free_ok X G (c.fact 5 (f := .free "len") rfl), He.free_ok X G (c.fact 6 (f := .free "list") rfl), He.free_ok X G (c.fact 7 (f := .free "min") rfl), He.free_ok X G (c.fact 8 (f := .free "ord") rfl), He.free_ok X G (c.fact 9 (f := .free "range") rfl), He.free_ok X G (c.fact 10 (f := .free "str") rfl), He.free_ok X G (c.fact 11 (f := .free "tuple") rfl), He.free_ok X G (c.fact 12 (f := .free "zip") rfl), v_CASES, u_CASES, m_CASES, r_CASES, d_CASES, v_FIGURES, u_FIGURES, m_FIGURES, r_FIGURES, d_FIGURES, v_BARS, u_BARS, m_BARS, r_BARS, d_BARS, v_ENDS, u_ENDS, m_ENDS, r_ENDS, d_ENDS, v_MOST_RULES, u_MOST_RULES, m_MOST_RULES, r_MOST_RULES, d_MOST_RULES, v_CAPITALS, u_CAPITALS, m_CAPITALS, r_CAPITALS, d_CAPITALS, v_PAIRS, u_PAIRS, m_PAIRS, r_PAIRS, d_PAIRS, PySem.W.mg_of X G (Looks.name e)⟩, rfl⟩⟩
  obtain ⟨T, eT⟩ := T
  have e0 : f = T.f_law := Value.ref.inj (Option.some.inj (hfa.symm.trans T.m_law))
  subst e0
  exact ⟨T.fd_law, fun s v => binds_law T s v, fun base _ _ => ok_law T (base := base) ⟨Looks.tab e (by decide +kernel)⟩ K04.law_true⟩
end
end K04
end
-- K04z
section
set_option Elab.async false
set_option linter.all false
set_option maxRecDepth 100000
open PySem PySem.W PySem.Calls PyProof.Rows
set_option maxHeartbeats 0 in
theorem PySem.Challenge.cw_orderrules_k04_whole_telling_holds : PySem.Challenge.rw_orderrules_k04_whole_telling.Holds := by
  w_on; o_law
  refine Den.holds_w (r := OpenLaw.row PySem.Challenge.rw_orderrules_k04_whole_telling) (q := K04.Hd.q) (loose := K04.Hd.loose) (XP := XL K04.Hd.q []) (YP := K04.Hd.l.says K04.Hd.p) (d := HandSHeadRun.topDef (OpenLaw.row PySem.Challenge.rw_orderrules_k04_whole_telling).prog 53) (kwd := []) K04.Hd.head
    Den.Looks.keeps XL.keeps (by kernel_rfl) (by kernel_rfl) (by kernel_rfl) (by rfl) (by first | assumption | decide +kernel) (by decide +kernel) ⟨rfl, rfl, rfl, rfl, rfl, by decide +kernel⟩ ?hw ?hc
  case hw => w_witness2
  case hc =>
    refine L2.walk_ofE (l := PySem.Challenge.rw_orderrules_k04_whole_telling) (n := 63) (k := 7) (x := "_law_script") (CX := L2.CX0) rfl (by decide) (by kernel_rfl) ⟨rfl, by decide, by decide⟩ ?F (fun _ _ _ _ z => z)
    intro w mg fa h Y G hmg0
    obtain ⟨K, KX, c⟩ := Y
    have hmg : mg ("law" : PySem.Str) = some (.ref fa) := by
      have e : (HandSHeadRun.topDef (OpenLaw.row PySem.Challenge.rw_orderrules_k04_whole_telling).prog 53).name = ("law" : PySem.Str) := by kernel_rfl
      rw [← e]
      exact hmg0
    obtain ⟨fd, hb, hF⟩ := K04.facts (w := w) KX G hmg c
    exact ⟨K, fd, @Den.spLaw ⟨[], He.ga K⟩ K, KX, hb, fun H a ns hl _ hS => ⟨a, ns, rfl, hS, hl, (fun _ h => nomatch h), fun _ => rfl⟩, hF⟩

end

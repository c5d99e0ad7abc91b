import PyProof.Rows.All
import Wide.All
import OpenK.AllK
import Wide.FinOn
import KE.KStateDown
import HandS.Head0
import HandS.Head1
import HandS.Head2
import HandS.HeadEnd
import HandS.HeadHook1
import HandS.HeadHook2
import HandS.ForMost
import HandS.TupAny
import HandS.IsInst
import HandS.Strs
import HandS.Zip
import HandS.Flow
import HandS.Defaults
import HandS.SortInts
import HandS.SetFor
import KE.SortData
import KE.LtData
import KE.DataFind
import HandS.Set
import HandS.Codes
import HandS.NoneIn
import HandS.ExcInit
import HandS.TryOnly
import HandS.ExcOwn
import HandS.Dict
import KE.GoesEnum
import KE.GoesMore
import HandS.SetBool
import HandS.StrMore
import HandS.Text
import HandS.DictComp
import HandS.Finally
import HandS.More
import KE.KDictList
import HandS.Iter
import HandS.Walk
import PySem.Challenge.RW_sayloom_k06_whole_views_tell_the_row

set_option maxHeartbeats 200000
set_option Elab.async false
set_option linter.all false
set_option maxRecDepth 100000
/-! A layer of data over the hand layer: what a piece of text does with data (None, truths, ints, texts, lists, tuples), whatever the heap. -/
namespace DL
open PySem PySem.Spec PyProof.Rows L2
/-- this very object, whatever stands there -/
def hdD (a : Addr) : PyData := .dict [(.int (a : Nat), .none)]
mutual
/-- v reads as d, handles among it -/
inductive Dq (K : PySem.W.Frag) (H : Hp) : V → PyData → Prop
  | non : Dq K H .non .none
  | bl (b : Bool) : Dq K H (.bl b) (.bool b)
  | int (i : Int) : Dq K H (.int i) (.int i)
  | str (x : Str) : Dq K H (.str x) (.str x)
  | lst {a : Addr} {xs : List V} {ds : List PyData} : SqL K H a xs → DqAll K H xs ds → Dq K H (.ref a) (.list ds)
  | tup {a : Addr} {xs : List V} {ds : List PyData} : SqT K H a xs → DqAll K H xs ds → Dq K H (.ref a) (.tuple ds)
  | hd (a : Addr) : Dq K H (.ref a) (.dict [(.int (a : Nat), .none)])
inductive DqAll (K : PySem.W.Frag) (H : Hp) : List V → List PyData → Prop
  | nil : DqAll K H [] []
  | cons {v : V} {vs : List V} {d : PyData} {ds : List PyData} : Dq K H v d → DqAll K H vs ds → DqAll K H (v :: vs) (d :: ds)
end
mutual
/-- no handle is in it -/
def noH : PyData → Bool
  | .dict _ => false
  | .list xs => noHs xs
  | .tuple xs => noHs xs
  | _ => true
def noHs : List PyData → Bool
  | [] => true
  | x :: xs => noH x && noHs xs
end
mutual
theorem dq_dp {K : PySem.W.Frag} {H : Hp} : ∀ (d : PyData) (v : V), noH d = true → Dq K H v d → Dp K H v d
  | .none, _, _, h => by cases h; exact .non
  | .bool _, _, _, h => by cases h; exact .bl _
  | .int _, _, _, h => by cases h; exact .int _
  | .str _, _, _, h => by cases h; exact .str _
  | .list ds, _, n, h => by
    cases h with
    | lst hs ha => exact .lst hs (dqs_dps ds _ n ha)
  | .tuple ds, _, n, h => by
    cases h with
    | tup hs ha => exact .tup hs (dqs_dps ds _ n ha)
  | .dict _, _, n, _ => by cases n
theorem dqs_dps {K : PySem.W.Frag} {H : Hp} : ∀ (ds : List PyData) (vs : List V), noHs ds = true → DqAll K H vs ds → DpAll K H vs ds
  | [], _, _, h => by cases h; exact .nil
  | d :: ds, _, n, h => by
    cases h with
    | cons h1 h2 =>
      have n' : (noH d && noHs ds) = true := n
      rw [Bool.and_eq_true] at n'
      exact .cons (dq_dp d _ n'.1 h1) (dqs_dps ds _ n'.2 h2)
end

theorem seqT {K : PySem.W.Frag} {H H' : Hp} {a : Addr} {xs : List V} (e : Same H H') (h : SqT K H a xs) : SqT K H' a xs := by
  rcases h with (h | ⟨o, h⟩) | h
  · exact .inl (.inl (e _ _ h))
  · exact .inl (.inr ⟨o, e _ _ h⟩)
  · exact .inr h

mutual
theorem dp_mono {K : PySem.W.Frag} {H H' : Hp} (e : Same H H') : ∀ (d : PyData) (v : V), Dq K H v d → Dq K H' v d
  | .none, _, h => by cases h; exact .non
  | .bool _, _, h => by cases h; exact .bl _
  | .int _, _, h => by cases h; exact .int _
  | .str _, _, h => by cases h; exact .str _
  | .list ds, _, h => by
    cases h with
    | lst hs ha => exact .lst (e.seq hs) (dpAll_mono e ds _ ha)
  | .tuple ds, _, h => by
    cases h with
    | tup hs ha => exact .tup (seqT e hs) (dpAll_mono e ds _ ha)
  | .dict _, _, h => by cases h; exact .hd _
theorem dpAll_mono {K : PySem.W.Frag} {H H' : Hp} (e : Same H H') : ∀ (ds : List PyData) (vs : List V), DqAll K H vs ds → DqAll K H' vs ds
  | [], _, h => by cases h; exact .nil
  | d :: ds, _, h => by
    cases h with
    | cons h1 h2 => exact .cons (dp_mono e d _ h1) (dpAll_mono e ds _ h2)
end
theorem dpAll_len {K : PySem.W.Frag} {H : Hp} : ∀ {vs : List V} {ds : List PyData}, DqAll K H vs ds → vs.length = ds.length
  | _, [], h => by cases h; rfl
  | _, _ :: _, h => by
    cases h with
    | cons _ h2 => simp [dpAll_len h2]
theorem dpAll_get {K : PySem.W.Frag} {H : Hp} : ∀ {vs : List V} {ds : List PyData} {i : Nat} {d : PyData}, DqAll K H vs ds → ds[i]? = some d → ∃ v, vs[i]? = some v ∧ Dq K H v d
  | _, [], i, d, h, e => by simp at e
  | _, _ :: _, 0, d, h, e => by
    cases h with
    | cons h1 h2 => simp at e; subst e; exact ⟨_, rfl, h1⟩
  | _, _ :: _, i + 1, d, h, e => by
    cases h with
    | cons h1 h2 =>
      obtain ⟨v, e1, e2⟩ := dpAll_get (i := i) h2 (by simpa using e)
      exact ⟨v, by simpa using e1, e2⟩
theorem dpAll_get' {K : PySem.W.Frag} {H : Hp} : ∀ {vs : List V} {ds : List PyData} {i : Nat} {v : V}, DqAll K H vs ds → vs[i]? = some v → ∃ d, ds[i]? = some d ∧ Dq K H v d
  | _, [], i, v, h, e => by cases h; simp at e
  | _, _ :: _, 0, v, h, e => by
    cases h with
    | cons h1 h2 => simp at e; subst e; exact ⟨_, rfl, h1⟩
  | _, _ :: _, i + 1, v, h, e => by
    cases h with
    | cons h1 h2 =>
      obtain ⟨d, e1, e2⟩ := dpAll_get' (i := i) h2 (by simpa using e)
      exact ⟨d, by simpa using e1, e2⟩
theorem dpAll_app {K : PySem.W.Frag} {H : Hp} : ∀ {vs us : List V} {ds es : List PyData}, DqAll K H vs ds → DqAll K H us es → DqAll K H (vs ++ us) (ds ++ es)
  | _, us, [], es, h, q => by cases h; exact q
  | _, us, _ :: _, es, h, q => by
    cases h with
    | cons h1 h2 => exact .cons h1 (dpAll_app h2 q)
theorem dpAll_take {K : PySem.W.Frag} {H : Hp} : ∀ (n : Nat) {vs : List V} {ds : List PyData}, DqAll K H vs ds → DqAll K H (vs.take n) (ds.take n)
  | 0, _, _, h => .nil
  | n + 1, _, [], h => by cases h; exact .nil
  | n + 1, _, _ :: _, h => by
    cases h with
    | cons h1 h2 => exact .cons h1 (dpAll_take n h2)
theorem dpAll_drop {K : PySem.W.Frag} {H : Hp} : ∀ (n : Nat) {vs : List V} {ds : List PyData}, DqAll K H vs ds → DqAll K H (vs.drop n) (ds.drop n)
  | 0, _, _, h => h
  | n + 1, _, [], h => by cases h; exact .nil
  | n + 1, _, _ :: _, h => by
    cases h with
    | cons h1 h2 => exact dpAll_drop n h2
theorem dpAll_dropLast {K : PySem.W.Frag} {H : Hp} {vs : List V} {ds : List PyData} (h : DqAll K H vs ds) : DqAll K H vs.dropLast ds.dropLast := by
  rw [List.dropLast_eq_take, List.dropLast_eq_take, dpAll_len h]
  exact dpAll_take _ h
/-- data that no heap is needed for -/
def atom : PyData → Bool
  | .none => true | .bool _ => true | .int _ => true | .str _ => true
  | _ => false
def toV : PyData → V
  | .none => .non | .bool b => .bl b | .int i => .int i | .str s => .str s
  | _ => .non
theorem atom_v {K : PySem.W.Frag} {H : Hp} {v : V} {d : PyData} (h : Dq K H v d) (a : atom d = true) : v = toV d := by
  cases h <;> first | rfl | cases a
theorem atom_dp {K : PySem.W.Frag} {H H' : Hp} {v : V} {d : PyData} (h : Dq K H v d) (a : atom d = true) : Dq K H' v d := by
  cases h <;> first | exact .non | exact .bl _ | exact .int _ | exact .str _ | cases a
theorem atoms_v {K : PySem.W.Frag} {H : Hp} : ∀ {vs : List V} {ds : List PyData}, DqAll K H vs ds → ds.all atom = true → vs = ds.map toV
  | _, [], h, _ => by cases h; rfl
  | _, d :: ds, h, a => by
    cases h with
    | cons h1 h2 =>
      simp only [List.all_cons, Bool.and_eq_true] at a
      rw [atom_v h1 a.1, atoms_v h2 a.2]
      rfl

/-! ### cells, states -/
inductive C where
  | d (x : PyData)
  | own (xs : List PyData)
  | dct (kvs : List (L2.Key × PyData))
  | iset (ns : List Int)
  | pot
  | bor
structure St' where
  n : Nat
  s : List (Option C)
/-- what others hand us that we may change: the pot, three ints, the third one a count that is not great; or a dict of truths, whose keys are such, and that has such -/
abbrev PotK := (L2.Key → Prop) × (L2.Key → Prop)
inductive PotC where
  | num (i : Int)
  | dict (kvs : List (L2.Key × V))
def potO : PotC → Int → Int → HO
  | .num x, y, z => .lst [.int x, .int y, .int z]
  | .dict kvs, _, _ => .dK kvs
def PotM : Option PotK → PotC → Nat → Prop
  | none, .num _, _ => True
  | some P, .dict kvs, n => kvs.length ≤ n ∧ (∀ kv ∈ kvs, P.1 kv.1 ∧ kv.2 = .bl true) ∧ ∀ k, P.2 k → ∃ kv ∈ kvs, kv.1 = k
  | _, _, _ => False
def PotAt (m : Option PotK) (H : Hp) (a : Addr) (n : Nat) : Prop := ∃ (x : PotC) (y z : Int), H a = some (potO x y z) ∧ 0 ≤ z ∧ z ≤ (n : Int) ∧ PotM m x n
theorem pot_num {H : Hp} {a : Addr} {n : Nat} (h : PotAt none H a n) : ∃ x y z : Int, H a = some (.lst [.int x, .int y, .int z]) ∧ 0 ≤ z ∧ z ≤ (n : Int) := by
  obtain ⟨x, y, z, h1, h2, h3, h4⟩ := h
  cases x with
  | num x => exact ⟨x, y, z, h1, h2, h3⟩
  | dict kvs => cases h4
theorem num_pot {H : Hp} {a : Addr} {n : Nat} {x y z : Int} (h1 : H a = some (.lst [.int x, .int y, .int z])) (h2 : 0 ≤ z) (h3 : z ≤ (n : Int)) : PotAt none H a n := ⟨.num x, y, z, h1, h2, h3, trivial⟩
theorem pot_more {m : Option PotK} {x : PotC} {n n' : Nat} (h : PotM m x n) (hn : n ≤ n') : PotM m x n' := by
  cases m <;> cases x <;> first | exact h | exact ⟨Nat.le_trans h.1 hn, h.2⟩
structure B0 where
  F : Hp
  H : Hp
  p : Option Addr
  m : Option PotK
structure Bs extends B0 where
  w : World
  K : PySem.W.Frag
def isetO (w : World) (a : Addr) (ns : List Int) : HO := SetO w a (fun k => decide (k ∈ ns)) ns.length
def CellOk (B : Bs) (F H : Hp) : C → V → Prop
  | .d x, v => Dq B.K F v x
  | .own xs, v => ∃ a vs, v = .ref a ∧ B.H a = none ∧ F a = none ∧ H a = some (.lst vs) ∧ DqAll B.K F vs xs
  | .dct kvs, v => ∃ a vs, v = .ref a ∧ B.H a = none ∧ F a = none ∧ H a = some (.dK ((kvs.map (·.1)).zip vs)) ∧ DqAll B.K F vs (kvs.map (·.2))
  | .iset ns, v => ∃ a, v = .ref a ∧ B.H a = none ∧ F a = none ∧ H a = some (isetO B.w a ns)
  | .pot, v => ∃ a, v = .ref a ∧ B.p = some a ∧ B.m = none
  | .bor, v => ∃ a, v = .ref a ∧ B.p = some a ∧ B.m ≠ none
def own? : C → Bool
  | .own _ => true | .dct _ => true | .iset _ => true | _ => false
structure Rep (B : Bs) (δ : St') (σ : List (Option V)) (F H : Hp) : Prop where
  ex : Same F H
  f0 : Same B.F F
  fr : ∀ b, B.F b = none → B.H b ≠ none → F b = none
  kp : ∀ b o, B.H b = some o → B.p ≠ some b → H b = some o
  pot : ∀ a, B.p = some a → B.F a = none ∧ B.H a ≠ none ∧ PotAt B.m H a δ.n
  cell : ∀ (i : Nat) (c : C), δ.s[i]? = some (some c) → ∃ v, σ[i]? = some (some v) ∧ CellOk B F H c v
  len : σ.length = δ.s.length
  ap : ∀ (i j : Nat) (c c' : C), i ≠ j → δ.s[i]? = some (some c) → δ.s[j]? = some (some c') → own? c = true → own? c' = true → σ[i]? ≠ σ[j]?
theorem Rep.potF {B : Bs} {δ : St'} {σ : List (Option V)} {F H : Hp} (r : Rep B δ σ F H) {a : Addr} (h : B.p = some a) : F a = none := r.fr a (r.pot a h).1 (r.pot a h).2.1

/-- a new thing, told as data -/
theorem Rep.new {B : Bs} {δ : St'} {σ : List (Option V)} {F H : Hp} (r : Rep B δ σ F H) {p : Addr} (hp : H p = none) (o : HO) : Rep B δ σ (upd F p o) (upd H p o) := by
  have hF : F p = none := r.ex.free hp
  have ne : ∀ {b : Addr} {u : HO}, H b = some u → b ≠ p := fun h => ne_of_none h hp
  refine ⟨fun b u h => ?_, fun b u h => ?_, fun b h1 h2 => ?_, fun b u h1 h2 => ?_, fun a h => ?_, fun i c h => ?_, r.len, r.ap⟩
  · by_cases e : b = p
    · subst e; rw [upd_same] at h ⊢; exact h
    · rw [upd_ne e] at h ⊢; exact r.ex b u h
  · rw [upd_ne (ne_of_none (r.f0 b u h) hF)]; exact r.f0 b u h
  · have hb : b ≠ p := by
      rintro rfl
      by_cases e : B.p = some b
      · obtain ⟨_, _, _, _, _, h3, _⟩ := r.pot b e
        rw [hp] at h3; cases h3
      · cases q : B.H b with
        | none => exact h2 q
        | some u => rw [r.kp b u q e] at hp; cases hp
    rw [upd_ne hb]; exact r.fr b h1 h2
  · have := r.kp b u h1 h2
    rw [upd_ne (ne this)]; exact this
  · obtain ⟨h1, h2, x, y, z, h3, h4⟩ := r.pot a h
    exact ⟨h1, h2, x, y, z, by rw [upd_ne (ne h3)]; exact h3, h4⟩
  · obtain ⟨v, hv, hc⟩ := r.cell i c h
    refine ⟨v, hv, ?_⟩
    cases c with
    | d x => exact dp_mono (fun b u q => by rw [upd_ne (ne_of_none q hF)]; exact q) _ _ hc
    | own xs =>
      obtain ⟨a, vs, e, h1, h2, h3, h4⟩ := hc
      exact ⟨a, vs, e, h1, by rw [upd_ne (ne h3)]; exact h2, by rw [upd_ne (ne h3)]; exact h3, dpAll_mono (fun b u q => by rw [upd_ne (ne_of_none q hF)]; exact q) _ _ h4⟩
    | dct kvs =>
      obtain ⟨a, vs, e, h1, h2, h3, h4⟩ := hc
      exact ⟨a, vs, e, h1, by rw [upd_ne (ne h3)]; exact h2, by rw [upd_ne (ne h3)]; exact h3, dpAll_mono (fun b u q => by rw [upd_ne (ne_of_none q hF)]; exact q) _ _ h4⟩
    | iset ns =>
      obtain ⟨a, e, h1, h2, h3⟩ := hc
      exact ⟨a, e, h1, by rw [upd_ne (ne h3)]; exact h2, by rw [upd_ne (ne h3)]; exact h3⟩
    | pot => exact hc
    | bor => exact hc
theorem same_upd {H : Hp} {p : Addr} {o : HO} (h : H p = none) : Same H (upd H p o) := fun b x e => by
  rw [upd_ne (ne_of_none e h)]
  exact e

/-! ### what a reading does with data -/
abbrev PE1 := PyData → St' → Prop
def WE (B : Bs) (te : TE) (δ : St') (Φ : PE1) : Prop := ∀ σ F H, Rep B δ σ F H → ∀ Q : VK, (∀ v x δ' F' H', Same F F' → Rep B δ' σ F' H' → Dq B.K F' v x → Φ x δ' → Q v H') → te σ H Q
def WT (B : Bs) (tt : TT) (δ : St') (Φ : Bool → St' → Prop) : Prop := ∀ σ F H, Rep B δ σ F H → ∀ Q : Bool → Hp → Prop, (∀ b δ' F' H', Same F F' → Rep B δ' σ F' H' → Φ b δ' → Q b H') → tt σ H Q
def WA (B : Bs) (ta : TA) (δ : St') (Φ : List PyData → St' → Prop) : Prop := ∀ σ F H, Rep B δ σ F H → ∀ Q : List V → Hp → Prop, (∀ vs xs δ' F' H', Same F F' → Rep B δ' σ F' H' → DqAll B.K F' vs xs → Φ xs δ' → Q vs H') → ta σ H Q
/-- a new list, that nobody else has -/
def WL (B : Bs) (te : TE) (δ : St') (Φ : List PyData → St' → Prop) : Prop := ∀ σ F H, Rep B δ σ F H → ∀ Q : VK, (∀ a vs xs δ' F' H', Same F F' → Rep B δ' σ F' H' → B.H a = none → F' a = none → H' a = some (.lst vs) →
  (∀ (i : Nat) (c : C), δ'.s[i]? = some (some c) → own? c = true → σ[i]? ≠ some (some (.ref a))) → DqAll B.K F' vs xs → Φ xs δ' → Q (.ref a) H') → te σ H Q
def WS (B : Bs) (ts : TS) (δ : St') (N : St' → Prop) (R : PE1) : Prop := ∀ σ F H, Rep B δ σ F H → ∀ D : Ends, (∀ δ' σ' F' H', Same F F' → Rep B δ' σ' F' H' → N δ' → D.nx σ' H') → (∀ v x δ' σ' F' H', Same F F' → Rep B δ' σ' F' H' → Dq B.K F' v x → R x δ' → D.rt v H') → ts D σ H
/-- values, by two things, by one, by a list of things -/
def RD (B : Bs) (r : R2) (x y : PyData) (δ : St') (Φ : PE1) : Prop := ∀ σ F H, Rep B δ σ F H → ∀ v u, Dq B.K F v x → Dq B.K F u y → ∀ Q : VK, (∀ v x δ' F' H', Same F F' → Rep B δ' σ F' H' → Dq B.K F' v x → Φ x δ' → Q v H') → r v u H Q
def RU (B : Bs) (r : V → Hp → VK → Prop) (x : PyData) (δ : St') (Φ : PE1) : Prop := ∀ σ F H, Rep B δ σ F H → ∀ v, Dq B.K F v x → ∀ Q : VK, (∀ v x δ' F' H', Same F F' → Rep B δ' σ F' H' → Dq B.K F' v x → Φ x δ' → Q v H') → r v H Q
def RC (B : Bs) (r : List V → Hp → VK → Prop) (xs : List PyData) (δ : St') (Φ : PE1) : Prop := ∀ σ F H, Rep B δ σ F H → ∀ vs, DqAll B.K F vs xs → ∀ Q : VK, (∀ v x δ' F' H', Same F F' → Rep B δ' σ F' H' → Dq B.K F' v x → Φ x δ' → Q v H') → r vs H Q
section
variable {B : Bs} {te ta tb tx : TE} {tt tu : TT} {δ : St'} {Φ Ψ : PE1}
theorem WE.mono (h : WE B te δ Φ) (f : ∀ x δ', Φ x δ' → Ψ x δ') : WE B te δ Ψ := fun σ F H r Q q => h σ F H r Q fun v x δ' F' H' e r' d p => q v x δ' F' H' e r' d (f x δ' p)
theorem WT.mono {Φ Ψ : Bool → St' → Prop} (h : WT B tt δ Φ) (f : ∀ x δ', Φ x δ' → Ψ x δ') : WT B tt δ Ψ := fun σ F H r Q q => h σ F H r Q fun b δ' F' H' e r' p => q b δ' F' H' e r' (f b δ' p)
theorem we_imp {te'} (h : ∀ σ H Q, te σ H Q → te' σ H Q) (w : WE B te δ Φ) : WE B te' δ Φ := fun σ F H r Q q => h _ _ _ (w σ F H r Q q)
theorem we_var {i : Nat} {x : PyData} (h : δ.s[i]? = some (some (.d x))) (p : Φ x δ) : WE B (tVar i) δ Φ := fun σ F H r Q q => by
  obtain ⟨v, hv, hc⟩ := r.cell i _ h
  exact ⟨v, hv, q v x δ F H (Same.refl F) r hc p⟩
theorem we_c {v : V} {x : PyData} (h : ∀ F, Dq B.K F v x) (p : Φ x δ) : WE B (tC v) δ Φ := fun σ F H r Q q => q v x δ F H (Same.refl F) r (h F) p
theorem we_int {i : Int} (p : Φ (.int i) δ) : WE B (tC (.int i)) δ Φ := we_c (fun _ => .int i) p
theorem we_bl {i : Bool} (p : Φ (.bool i) δ) : WE B (tC (.bl i)) δ Φ := we_c (fun _ => .bl i) p
theorem we_str {i : Str} (p : Φ (.str i) δ) : WE B (tC (.str i)) δ Φ := we_c (fun _ => .str i) p
theorem we_non (p : Φ .none δ) : WE B (tC .non) δ Φ := we_c (fun _ => .non) p
theorem we_op {r : R2} (h : WE B ta δ fun x δ1 => WE B tb δ1 fun y δ2 => RD B r x y δ2 Φ) : WE B (tOp r ta tb) δ Φ := fun σ F H rp Q q =>
  h σ F H rp _ fun v x δ1 F1 H1 e1 r1 d1 p1 => p1 σ F1 H1 r1 _ fun u y δ2 F2 H2 e2 r2 d2 p2 => p2 σ F2 H2 r2 v u (dp_mono e2 _ _ d1) d2 Q fun v' x' δ' F' H' e' r' d' p' => q v' x' δ' F' H' ((e1.trans e2).trans e') r' d' p'
theorem we_un {r : V → Hp → VK → Prop} (h : WE B ta δ fun x δ1 => RU B r x δ1 Φ) : WE B (tUn r ta) δ Φ := fun σ F H rp Q q =>
  h σ F H rp _ fun v x δ1 F1 H1 e1 r1 d1 p1 => p1 σ F1 H1 r1 v d1 Q fun v' x' δ' F' H' e' r' d' p' => q v' x' δ' F' H' (e1.trans e') r' d' p'
theorem we_cb {r : List V → Hp → VK → Prop} {ta : TA} (h : WA B ta δ fun xs δ1 => RC B r xs δ1 Φ) : WE B (tCB r ta) δ Φ := fun σ F H rp Q q =>
  h σ F H rp _ fun v x δ1 F1 H1 e1 r1 d1 p1 => p1 σ F1 H1 r1 v d1 Q fun v' x' δ' F' H' e' r' d' p' => q v' x' δ' F' H' (e1.trans e') r' d' p'
theorem wa_nil {Φ : List PyData → St' → Prop} (p : Φ [] δ) : WA B tNil δ Φ := fun σ F H r Q q => q [] [] δ F H (Same.refl F) r .nil p
theorem wa_cons {tr : TA} {Φ : List PyData → St' → Prop} (h : WE B ta δ fun x δ1 => WA B tr δ1 fun xs δ2 => Φ (x :: xs) δ2) : WA B (tCons ta tr) δ Φ := fun σ F H r Q q =>
  h σ F H r _ fun v x δ1 F1 H1 e1 r1 d1 p1 => p1 σ F1 H1 r1 _ fun vs xs δ2 F2 H2 e2 r2 d2 p2 => q (v :: vs) (x :: xs) δ2 F2 H2 (e1.trans e2) r2 (.cons (dp_mono e2 _ _ d1) d2) p2
/-- a new tuple of told things -/
theorem we_tup {ta : TA} (h : WA B ta δ fun xs δ1 => xs.length ≤ 100000 ∧ Φ (.tuple xs) δ1) : WE B (tTup ta) δ Φ := fun σ F H r Q q =>
  h σ F H r _ fun vs xs δ1 F1 H1 e1 r1 d1 ⟨hz, p1⟩ => ⟨Nat.le_trans (by rw [dpAll_len d1]; exact hz) (by decide), fun p hp => by
    have hF : F1 p = none := r1.ex.free hp
    exact q _ _ δ1 _ _ (e1.trans (same_upd hF)) (r1.new hp (.tup vs)) (.tup (.inl (.inl upd_same)) (dpAll_mono (same_upd hF) _ _ d1)) p1⟩
/-- tests -/
theorem wt_test (h : WE B te δ fun x δ' => ∃ b, x = .bool b ∧ Φ' b δ') : WT B (tTest te) δ Φ' := fun σ F H r Q q => h σ F H r _ fun v x δ' F' H' e r' d ⟨b, hb, p⟩ => by
  subst hb
  cases d
  exact ⟨b, rfl, q b δ' F' H' e r' p⟩
theorem wt_B (h : WE B te δ fun x δ' => ∃ b, x = .bool b ∧ Φ' b δ') : WT B (tB te) δ Φ' := fun σ F H r Q q => h σ F H r _ fun v x δ' F' H' e r' d ⟨b, hb, p⟩ => by
  subst hb
  cases d
  exact ⟨b, rfl, q b δ' F' H' e r' p⟩
theorem wt_not (h : WT B tt δ fun b δ' => Φ' (!b) δ') : WT B (tNot tt) δ Φ' := fun σ F H r Q q => h σ F H r _ fun b δ' F' H' e r' p => q (!b) δ' F' H' e r' p
theorem wt_and (h : WT B tt δ fun b δ' => if b = true then WT B tu δ' Φ' else Φ' false δ') : WT B (tAnd tt tu) δ Φ' := fun σ F H r Q q => h σ F H r _ fun b δ' F' H' e r' p => by
  cases b with
  | true => exact iteT ((show WT B tu δ' Φ' from p) σ F' H' r' Q fun b δ2 F2 H2 e2 r2 p2 => q b δ2 F2 H2 (e.trans e2) r2 p2)
  | false => exact iteF (q false δ' F' H' e r' p)
theorem wt_or (h : WT B tt δ fun b δ' => if b = true then Φ' true δ' else WT B tu δ' Φ') : WT B (tOr tt tu) δ Φ' := fun σ F H r Q q => h σ F H r _ fun b δ' F' H' e r' p => by
  cases b with
  | true => exact iteT (q true δ' F' H' e r' p)
  | false => exact iteF ((show WT B tu δ' Φ' from p) σ F' H' r' Q fun b δ2 F2 H2 e2 r2 p2 => q b δ2 F2 H2 (e.trans e2) r2 p2)
theorem we_if (h : WT B tt δ fun b δ' => if b = true then WE B ta δ' Φ else WE B tb δ' Φ) : WE B (tIf tt ta tb) δ Φ := fun σ F H r Q q => h σ F H r _ fun b δ' F' H' e r' p => by
  cases b with
  | true => exact iteT ((show WE B ta δ' Φ from p) σ F' H' r' Q fun v x δ2 F2 H2 e2 r2 d2 p2 => q v x δ2 F2 H2 (e.trans e2) r2 d2 p2)
  | false => exact iteF ((show WE B tb δ' Φ from p) σ F' H' r' Q fun v x δ2 F2 H2 e2 r2 d2 p2 => q v x δ2 F2 H2 (e.trans e2) r2 d2 p2)
/-- a new list becomes data -/
theorem we_wl (h : WL B te δ fun xs δ' => Φ (.list xs) δ') : WE B te δ Φ := fun σ F H r Q q => h σ F H r Q fun a vs xs δ' F' H' e r' hB hF hH hap d p => by
  have e2 : Same F' (upd F' a (.lst vs)) := same_upd hF
  refine q _ _ δ' (upd F' a (.lst vs)) H' (e.trans e2) ⟨fun b u h => ?_, r'.f0.trans e2, fun b h1 h2 => ?_, r'.kp, r'.pot, fun i c h => ?_, r'.len, r'.ap⟩ (.lst (.inl (.inl upd_same)) (dpAll_mono e2 _ _ d)) p
  · by_cases hb : b = a
    · subst hb; rw [upd_same] at h; cases h; exact hH
    · rw [upd_ne hb] at h; exact r'.ex b u h
  · have hb : b ≠ a := fun z => h2 (z ▸ hB)
    rw [upd_ne hb]; exact r'.fr b h1 h2
  · obtain ⟨v, hv, hc⟩ := r'.cell i c h
    refine ⟨v, hv, ?_⟩
    cases c with
    | d x => exact dp_mono e2 _ _ hc
    | own ys =>
      obtain ⟨a', vs', e', h1, h2, h3, h4⟩ := hc
      subst e'
      have hne : a' ≠ a := fun z => hap i _ h rfl (z ▸ hv)
      exact ⟨a', vs', rfl, h1, by rw [upd_ne hne]; exact h2, h3, dpAll_mono e2 _ _ h4⟩
    | dct kvs =>
      obtain ⟨a', vs', e', h1, h2, h3, h4⟩ := hc
      subst e'
      have hne : a' ≠ a := fun z => hap i _ h rfl (z ▸ hv)
      exact ⟨a', vs', rfl, h1, by rw [upd_ne hne]; exact h2, h3, dpAll_mono e2 _ _ h4⟩
    | iset ns =>
      obtain ⟨a', e', h1, h2, h3⟩ := hc
      subst e'
      have hne : a' ≠ a := fun z => hap i _ h rfl (z ▸ hv)
      exact ⟨a', rfl, h1, by rw [upd_ne hne]; exact h2, h3⟩
    | pot => exact hc
    | bor => exact hc
end
end DL

set_option maxHeartbeats 200000
set_option Elab.async false
set_option linter.all false
set_option maxRecDepth 100000
namespace DL
open PySem PySem.Spec PyProof.Rows L2

/-! ### the text's own readings -/
section
variable (X : Cx)
def wE (e : Expr) : TE := fun σ H Q => ∀ pins s, Inv X pins σ H s → wpAny (model X.prog X.w) X.A (eval e X.env) (EP X pins σ Q) X.xe s
def wT (e : Expr) : TT := fun σ H Q => ∀ pins s, Inv X pins σ H s → wpAny (model X.prog X.w) X.A (isTrue e X.env (eval e X.env)) (TP X pins σ Q) X.xe s
def wW (e : Expr) : TT := fun σ H Q => ∀ whole pins s, Inv X pins σ H s → wpAny (model X.prog X.w) X.A (isTrue e X.env whole) (TP X pins σ Q) X.xe s
def wA (es : List Expr) : TA := fun σ H Q => ∀ pos pins s, Inv X pins σ H s → wpAny (model X.prog X.w) X.A (spliced (backTo pos (starEach es X.env))) (AP X pins σ Q) X.xe s
def wS (st : Stmt) : TS := fun D σ H => ∀ pins s, Inv X pins σ H s → wpAny (model X.prog X.w) X.A (exec st X.env) (SP X pins D) X.xe s
def wSs (st : List Stmt) : TS := fun D σ H => ∀ pins s, Inv X pins σ H s → wpAny (model X.prog X.w) X.A (execs st X.env) (SP X pins D) X.xe s
end
section
variable {X : Cx} {e : Expr} {es : List Expr} {st : Stmt} {sts : List Stmt}
theorem pe_w : PE X e (wE X e) := ⟨fun pins s _ _ _ I h => h pins s I⟩
theorem pt_w : PT X e (wT X e) := ⟨fun pins s _ _ _ I h => h pins s I⟩
theorem pw_w : PW X e (wW X e) := ⟨fun wh pins s _ _ _ I h => h wh pins s I⟩
theorem pa_w : PA X es (wA X es) := ⟨fun pos pins s _ _ _ I h => h pos pins s I⟩
theorem ps_w : PS X st (wS X st) := ⟨fun pins s _ _ _ I h => h pins s I⟩
theorem pss_w : PSs X sts (wSs X sts) := ⟨fun pins s _ _ _ I h => h pins s I⟩
end

/-! ### what the text does -/
abbrev bs (X : Cx) (B : B0) : Bs := ⟨B, X.w, X.K⟩
def DE (B : B0) (X : Cx) (e : Expr) (δ : St') (Φ : PE1) : Prop := WE (bs X B) (wE X e) δ Φ
def DT (B : B0) (X : Cx) (e : Expr) (δ : St') (Φ : Bool → St' → Prop) : Prop := WT (bs X B) (wT X e) δ Φ
def DW (B : B0) (X : Cx) (e : Expr) (δ : St') (Φ : Bool → St' → Prop) : Prop := WT (bs X B) (wW X e) δ Φ
def DA (B : B0) (X : Cx) (es : List Expr) (δ : St') (Φ : List PyData → St' → Prop) : Prop := WA (bs X B) (wA X es) δ Φ
def DLs (B : B0) (X : Cx) (e : Expr) (δ : St') (Φ : List PyData → St' → Prop) : Prop := WL (bs X B) (wE X e) δ Φ
def DS (B : B0) (X : Cx) (st : Stmt) (δ : St') (N : St' → Prop) (R : PE1) : Prop := WS (bs X B) (wS X st) δ N R
def DSs (B : B0) (X : Cx) (sts : List Stmt) (δ : St') (N : St' → Prop) (R : PE1) : Prop := WS (bs X B) (wSs X sts) δ N R
section
variable {B : B0} {X : Cx} {e : Expr} {es : List Expr} {st : Stmt} {sts : List Stmt} {δ : St'} {Φ Ψ : PE1} {te : TE} {tt : TT} {ta : TA} {ts : TS}
theorem DE.of (p : PE X e te) (h : WE (bs X B) te δ Φ) : DE B X e δ Φ := fun σ F H r Q q pins s I => p.run pins s σ H Q I (h σ F H r Q q)
theorem DT.of {Φ : Bool → St' → Prop} (p : PT X e tt) (h : WT (bs X B) tt δ Φ) : DT B X e δ Φ := fun σ F H r Q q pins s I => p.run pins s σ H Q I (h σ F H r Q q)
theorem DW.of {Φ : Bool → St' → Prop} (p : PW X e tt) (h : WT (bs X B) tt δ Φ) : DW B X e δ Φ := fun σ F H r Q q wh pins s I => p.run wh pins s σ H Q I (h σ F H r Q q)
theorem DA.of {Φ : List PyData → St' → Prop} (p : PA X es ta) (h : WA (bs X B) ta δ Φ) : DA B X es δ Φ := fun σ F H r Q q pos pins s I => p.run pos pins s σ H Q I (h σ F H r Q q)
theorem DLs.of {Φ : List PyData → St' → Prop} (p : PE X e te) (h : WL (bs X B) te δ Φ) : DLs B X e δ Φ := fun σ F H r Q q pins s I => p.run pins s σ H Q I (h σ F H r Q q)
theorem DS.of {N : St' → Prop} (p : PS X st ts) (h : WS (bs X B) ts δ N Φ) : DS B X st δ N Φ := fun σ F H r D n q pins s I => p.run pins s σ H D I (h σ F H r D n q)
theorem DSs.of {N : St' → Prop} (p : PSs X sts ts) (h : WS (bs X B) ts δ N Φ) : DSs B X sts δ N Φ := fun σ F H r D n q pins s I => p.run pins s σ H D I (h σ F H r D n q)
theorem DE.mono (h : DE B X e δ Φ) (f : ∀ x δ', Φ x δ' → Ψ x δ') : DE B X e δ Ψ := WE.mono h f
theorem DT.mono {Φ Ψ : Bool → St' → Prop} (h : DT B X e δ Φ) (f : ∀ x δ', Φ x δ' → Ψ x δ') : DT B X e δ Ψ := WT.mono h f
end

/-! ### expressions -/
section
variable {B : B0} {X : Cx} {a b c : Expr} {es : List Expr} {δ : St'} {Φ : PE1} {pos p2 p3 : Pos}
theorem de_int {i : Int} {k} (p : Φ (.int i) δ) : DE B X (.Constant (.int i) k pos) δ Φ := .of pe_int (we_int p)
theorem de_bl {i : Bool} {k} (p : Φ (.bool i) δ) : DE B X (.Constant (.bool i) k pos) δ Φ := .of pe_bl (we_bl p)
theorem de_str {i : Str} {k} (p : Φ (.str i) δ) : DE B X (.Constant (.str i) k pos) δ Φ := .of pe_str (we_str p)
theorem de_non {k} (p : Φ .none δ) : DE B X (.Constant .none k pos) δ Φ := .of pe_non (we_non p)
theorem de_nm (i : Nat) {x : Str} {d : PyData} (p : Φ d δ) (h : δ.s[i]? = some (some (.d d)) := by rfl) (hN : X.N[i]? = some x := by rfl)
    (hv : Vis X.env.scope x := by first | exact Or.inl rfl | exact Or.inr (Or.inl rfl) | exact Or.inr (Or.inr rfl)) (hd : (x == ("__debug__" : Str)) = false := by decide)
    (hcd : (x == ("__classdict__" : Str)) = false := by decide) : DE B X (.Name x pos) δ Φ := .of (pe_var hN hv hd hcd) (we_var h p)
/-- a constant of the module -/
theorem de_glob {x : Str} {v : V} {u : Value} {d : PyData} (hm : X.mg x = some u) (r : RelV v u) (hd' : ∀ F, Dq X.K F v d) (p : Φ d δ) (hg : Gl X x := by rfl) (hd : (x == ("__debug__" : Str)) = false := by decide) : DE B X (.Name x pos) δ Φ :=
  .of (pe_glob hg hm r hd) (we_c hd' p)
theorem de_bin {op : Operator} {r : R2} (ho : OpR X (binaryOp op) r) (h : DE B X a δ fun x δ1 => DE B X b δ1 fun y δ2 => RD (bs X B) r x y δ2 Φ) : DE B X (.BinOp a op b pos) δ Φ := .of (pe_op ho pe_w pe_w) (we_op h)
theorem de_un {op : UnaryOp} {r : V → Hp → VK → Prop} (ho : UnR X (unaryOp op) r) (h : DE B X a δ fun x δ1 => RU (bs X B) r x δ1 Φ) : DE B X (.UnaryOp op a pos) δ Φ := .of (pe_un ho pe_w) (we_un h)
theorem de_cmp {op : CmpOp} {r : R2} (ho : OpR X (compareOp op) r) (h : DE B X a δ fun x δ1 => DE B X b δ1 fun y δ2 => RD (bs X B) r x y δ2 Φ) (hm : behindInMarks op b = false := by first | exact nomark _ | with_unfolding_all rfl) : DE B X (.Compare a [op] [b] pos) δ Φ := .of (pe_cmpR ho pe_w pe_w hm) (we_op h)
theorem de_ix {r : R2} (ho : IxR X r) (h : DE B X a δ fun x δ1 => DE B X b δ1 fun y δ2 => RD (bs X B) r x y δ2 Φ) (hs : PlainIx b := by exact fun _ _ => rfl) : DE B X (.Subscript a b pos) δ Φ := .of (pe_ix ho pe_w pe_w hs) (we_op h)
theorem da_nil {Φ : List PyData → St' → Prop} (p : Φ [] δ) : DA B X [] δ Φ := .of pa_nil (wa_nil p)
theorem da_cons {Φ : List PyData → St' → Prop} (h : DE B X a δ fun x δ1 => DA B X es δ1 fun xs δ2 => Φ (x :: xs) δ2) (hs : starEach (a :: es) X.env = (false, eval a X.env) :: starEach es X.env := by rfl) : DA B X (a :: es) δ Φ := .of (pa_cons pe_w pa_w hs) (wa_cons h)
theorem de_tup {k} (h : DA B X es δ fun xs δ1 => xs.length ≤ 100000 ∧ Φ (.tuple xs) δ1) : DE B X (.Tuple es k pos) δ Φ := .of (pe_tup pa_w) (we_tup h)
/-- a new list of told things -/
theorem wl_lst {ta : TA} {B : Bs} {Φ : List PyData → St' → Prop} (h : WA B ta δ fun xs δ1 => xs.length ≤ 100000 ∧ Φ xs δ1) : WL B (tLst ta) δ Φ := fun σ F H r Q q =>
  h σ F H r _ fun vs xs δ1 F1 H1 e1 r1 d1 ⟨hz, p1⟩ => ⟨Nat.le_trans (by rw [dpAll_len d1]; exact hz) (by decide), fun p hp => by
    have hF : F1 p = none := r1.ex.free hp
    have hB : B.H p = none := by
      cases e : B.H p with
      | none => rfl
      | some o =>
        by_cases z : B.p = some p
        · obtain ⟨_, _, _, _, _, h3, _⟩ := r1.pot p z
          rw [hp] at h3; cases h3
        · rw [r1.kp p o e z] at hp; cases hp
    refine q p vs xs δ1 F1 (upd H1 p (.lst vs)) e1 ⟨fun b u h => ?_, r1.f0, r1.fr, fun b u h1 h2 => ?_, fun a h => ?_, fun i c h => ?_, r1.len, r1.ap⟩ hB hF upd_same (fun i c h ho => ?_) d1 p1
    · have := r1.ex b u h
      rw [upd_ne (ne_of_none this hp)]; exact this
    · have := r1.kp b u h1 h2
      rw [upd_ne (ne_of_none this hp)]; exact this
    · obtain ⟨h1, h2, x, y, z, h3, h4⟩ := r1.pot a h
      exact ⟨h1, h2, x, y, z, by rw [upd_ne (ne_of_none h3 hp)]; exact h3, h4⟩
    · obtain ⟨v, hv, hc⟩ := r1.cell i c h
      refine ⟨v, hv, ?_⟩
      cases c with
      | d x => exact hc
      | own xs =>
        obtain ⟨a, vs, e, h1, h2, h3, h4⟩ := hc
        exact ⟨a, vs, e, h1, h2, by rw [upd_ne (ne_of_none h3 hp)]; exact h3, h4⟩
      | dct kvs =>
        obtain ⟨a, vs, e, h1, h2, h3, h4⟩ := hc
        exact ⟨a, vs, e, h1, h2, by rw [upd_ne (ne_of_none h3 hp)]; exact h3, h4⟩
      | iset ns =>
        obtain ⟨a, e, h1, h2, h3⟩ := hc
        exact ⟨a, e, h1, h2, by rw [upd_ne (ne_of_none h3 hp)]; exact h3⟩
      | pot => exact hc
      | bor => exact hc
    · intro hs
      obtain ⟨v, hv, hc⟩ := r1.cell i c h
      rw [hv] at hs
      cases hs
      cases c with
      | d x => cases ho
      | pot => cases ho
      | bor => cases ho
      | own xs =>
        obtain ⟨a, vs, e, _, _, h3, _⟩ := hc
        cases e
        rw [hp] at h3; cases h3
      | dct kvs =>
        obtain ⟨a, vs, e, _, _, h3, _⟩ := hc
        cases e
        rw [hp] at h3; cases h3
      | iset ns =>
        obtain ⟨a, e, _, _, h3⟩ := hc
        cases e
        rw [hp] at h3; cases h3⟩
theorem dl_lst {Φ : List PyData → St' → Prop} (h : DA B X es δ fun xs δ1 => xs.length ≤ 100000 ∧ Φ xs δ1) : DLs B X (.List es pos) δ Φ := .of (pe_lst pa_w) (wl_lst h)
theorem de_dl (h : DLs B X a δ fun xs δ' => Φ (.list xs) δ') : DE B X a δ Φ := we_wl h
theorem de_if (h : DT B X c δ fun b' δ' => if b' = true then DE B X a δ' Φ else DE B X b δ' Φ) : DE B X (.IfExp c a b pos) δ Φ := .of (pe_ifExp pt_w pe_w pe_w) (we_if h)
/-- tests -/
theorem dt_cmp {op : CmpOp} {r : R2} {Φ : Bool → St' → Prop} (ho : OpR X (compareOp op) r) (h : DE B X a δ fun x δ1 => DE B X b δ1 fun y δ2 => RD (bs X B) r x y δ2 fun z δ3 => ∃ b', z = .bool b' ∧ Φ b' δ3) (hm : behindInMarks op b = false := by first | exact nomark _ | with_unfolding_all rfl) : DT B X (.Compare a [op] [b] pos) δ Φ :=
  .of (pt_cmpR ho pe_w pe_w hm) (wt_test (we_op h))
theorem dt_val {Φ : Bool → St' → Prop} (h : DE B X a δ fun x δ1 => ∃ b', x = .bool b' ∧ Φ b' δ1) (he : ∀ whole, isTrue a X.env whole = (do let v ← whole; standAt a.pos; holding [v] (truthy v)) := by intro _; rfl) : DT B X a δ Φ := .of (pt_val pe_w he) (wt_B h)
theorem dt_pw {Φ : Bool → St' → Prop} (h : DW B X a δ Φ) : DT B X a δ Φ := .of (PW.pt pw_w) h
theorem dw_and1 {Φ : Bool → St' → Prop} (h : DT B X a δ Φ) : DW B X (.BoolOp .And [a] pos) δ Φ := .of (pw_and1 pt_w) h
theorem dw_or1 {Φ : Bool → St' → Prop} (h : DT B X a δ Φ) : DW B X (.BoolOp .Or [a] pos) δ Φ := .of (pw_or1 pt_w) h
theorem dw_and {Φ : Bool → St' → Prop} {rest : List Expr} (h : DT B X a δ fun k δ' => if k = true then DW B X (.BoolOp .And (b :: rest) pos) δ' Φ else Φ false δ') : DW B X (.BoolOp .And (a :: b :: rest) pos) δ Φ := .of (pw_and pt_w pw_w) (wt_and h)
theorem dw_or {Φ : Bool → St' → Prop} {rest : List Expr} (h : DT B X a δ fun k δ' => if k = true then Φ true δ' else DW B X (.BoolOp .Or (b :: rest) pos) δ' Φ) : DW B X (.BoolOp .Or (a :: b :: rest) pos) δ Φ := .of (pw_or pt_w pw_w) (wt_or h)
end
end DL

set_option maxHeartbeats 200000
set_option Elab.async false
set_option linter.all false
set_option maxRecDepth 100000
namespace DL
open PySem PySem.Spec PyProof.Rows L2
section
variable {B : B0} {X : Cx} {a b c : Expr} {es rest : List Expr} {δ : St'} {Φ : PE1} {pos p2 p3 : Pos}
/-! ### and, or, not as values; chains -/
theorem we_andV {B : Bs} {ta tb : TE} (h : WE B ta δ fun x δ' => ∃ k, x = .bool k ∧ if k = true then WE B tb δ' Φ else Φ (.bool false) δ') : WE B (tAndV ta tb) δ Φ := fun σ F H r Q q => h σ F H r _ fun v x δ' F' H' e r' d ⟨k, hk, p⟩ => by
  subst hk
  cases d
  refine ⟨k, rfl, ?_⟩
  cases k with
  | true => exact iteT ((show WE B tb δ' Φ from p) σ F' H' r' Q fun v x δ2 F2 H2 e2 r2 d2 p2 => q v x δ2 F2 H2 (e.trans e2) r2 d2 p2)
  | false => exact iteF (q (.bl false) _ δ' F' H' e r' (.bl _) p)
theorem we_orV {B : Bs} {ta tb : TE} (h : WE B ta δ fun x δ' => ∃ k, x = .bool k ∧ if k = true then Φ (.bool true) δ' else WE B tb δ' Φ) : WE B (tOrV ta tb) δ Φ := fun σ F H r Q q => h σ F H r _ fun v x δ' F' H' e r' d ⟨k, hk, p⟩ => by
  subst hk
  cases d
  refine ⟨k, rfl, ?_⟩
  cases k with
  | true => exact iteT (q (.bl true) _ δ' F' H' e r' (.bl _) p)
  | false => exact iteF ((show WE B tb δ' Φ from p) σ F' H' r' Q fun v x δ2 F2 H2 e2 r2 d2 p2 => q v x δ2 F2 H2 (e.trans e2) r2 d2 p2)
theorem we_notV {B : Bs} {ta : TE} (h : WE B ta δ fun x δ' => ∃ k, x = .bool k ∧ Φ (.bool (!k)) δ') : WE B (tNotV ta) δ Φ := fun σ F H r Q q => h σ F H r _ fun v x δ' F' H' e r' d ⟨k, hk, p⟩ => by
  subst hk
  cases d
  exact ⟨k, rfl, q (.bl (!k)) _ δ' F' H' e r' (.bl _) p⟩
theorem de_one {op} (h : DE B X a δ Φ) : DE B X (.BoolOp op [a] pos) δ Φ := .of (pe_one pe_w) h
theorem de_and (h : DE B X a δ fun x δ' => ∃ k, x = .bool k ∧ if k = true then DE B X (.BoolOp .And (b :: rest) pos) δ' Φ else Φ (.bool false) δ') : DE B X (.BoolOp .And (a :: b :: rest) pos) δ Φ := .of (pe_and pe_w pe_w) (we_andV h)
theorem de_or (h : DE B X a δ fun x δ' => ∃ k, x = .bool k ∧ if k = true then Φ (.bool true) δ' else DE B X (.BoolOp .Or (b :: rest) pos) δ' Φ) : DE B X (.BoolOp .Or (a :: b :: rest) pos) δ Φ := .of (pe_or pe_w pe_w) (we_orV h)
theorem de_not (h : DE B X a δ fun x δ' => ∃ k, x = .bool k ∧ Φ (.bool (!k)) δ') : DE B X (.UnaryOp .Not a pos) δ Φ := .of (pe_not pe_w) (we_notV h)
theorem dt_not {Φ : Bool → St' → Prop} (h : DT B X a δ fun k δ' => Φ (!k) δ') : DT B X (.UnaryOp .Not a pos) δ Φ := .of (pt_not pt_w) (wt_not h)
theorem we_chain {B : Bs} {r r' : R2} {ta tb tc : TE} (h : WE B ta δ fun x δ1 => WE B tb δ1 fun y δ2 => RD B r x y δ2 fun z δ3 => ∃ k, z = .bool k ∧ if k = true then WE B tc δ3 fun u δ4 => RD B r' y u δ4 Φ else Φ (.bool false) δ3) : WE B (tChain r r' ta tb tc) δ Φ := fun σ F H rp Q q =>
  h σ F H rp _ fun v x δ1 F1 H1 e1 r1 d1 p1 => p1 σ F1 H1 r1 _ fun u y δ2 F2 H2 e2 r2 d2 p2 => p2 σ F2 H2 r2 v u (dp_mono e2 _ _ d1) d2 _ fun z z' δ3 F3 H3 e3 r3 d3 ⟨k, hk, p3⟩ => by
    subst hk
    cases d3
    refine ⟨k, rfl, ?_⟩
    cases k with
    | true => exact iteT ((show WE B tc δ3 _ from p3) σ F3 H3 r3 _ fun w' u' δ4 F4 H4 e4 r4 d4 p4 => p4 σ F4 H4 r4 u w' (dp_mono (e3.trans e4) _ _ d2) d4 Q fun v' x' δ' F' H' e' r' d' p' => q v' x' δ' F' H' ((((e1.trans e2).trans e3).trans e4).trans e') r' d' p')
    | false => exact iteF (q _ _ δ3 F3 H3 ((e1.trans e2).trans e3) r3 (.bl _) p3)
theorem de_chain {op op' : CmpOp} {r r' : R2} (ho : OpR X (compareOp op) r) (ho' : OpR X (compareOp op') r')
    (h : DE B X a δ fun x δ1 => DE B X b δ1 fun y δ2 => RD (bs X B) r x y δ2 fun z δ3 => ∃ k, z = .bool k ∧ if k = true then DE B X c δ3 fun u δ4 => RD (bs X B) r' y u δ4 Φ else Φ (.bool false) δ3)
    (hm : lastMarks [op, op'] [b, c] = false := by with_unfolding_all rfl) : DE B X (.Compare a [op, op'] [b, c] pos) δ Φ := .of (pe_chain ho ho' pe_w pe_w pe_w hm) (we_chain h)
theorem dt_chain {op op' : CmpOp} {r r' : R2} {Φ : Bool → St' → Prop} (ho : OpR X (compareOp op) r) (ho' : OpR X (compareOp op') r')
    (h : DE B X a δ fun x δ1 => DE B X b δ1 fun y δ2 => RD (bs X B) r x y δ2 fun z δ3 => ∃ k, z = .bool k ∧ if k = true then DE B X c δ3 fun u δ4 => RD (bs X B) r' y u δ4 fun z' δ5 => ∃ k', z' = .bool k' ∧ Φ k' δ5 else Φ false δ3)
    (hm : lastMarks [op, op'] [b, c] = false := by with_unfolding_all rfl) : DT B X (.Compare a [op, op'] [b, c] pos) δ Φ := .of (pt_chain ho ho' pe_w pe_w pe_w hm) (wt_test (we_chain (WE.mono h fun x δ1 h1 => WE.mono h1 fun y δ2 h2 σ F H r v u d1 d2 Q q => h2 σ F H r v u d1 d2 Q fun v x δ' F' H' e r' d ⟨k, hk, p⟩ => q v x δ' F' H' e r' d ⟨k, hk, by
      cases k with
      | true => exact iteT (show WE _ _ _ _ from p)
      | false => exact iteF ⟨false, rfl, p⟩⟩)))
end

/-! ### operators on data -/
section
variable {B : Bs} {δ : St'} {Φ : PE1}
/-- what needs no heap and tells an atom -/
theorem rd_pure {r : R2} {x y z : PyData} {w : V} (hz : ∀ F, Dq B.K F w z) (h : ∀ F H v u, Same F H → Dq B.K F v x → Dq B.K F u y → ∀ Q : VK, Q w H → r v u H Q) (p : Φ z δ) : RD B r x y δ Φ := fun σ F H rp v u d1 d2 Q q =>
  h F H v u rp.ex d1 d2 Q (q w z δ F H (Same.refl F) rp (hz F) p)
theorem rd_item {r : R2} {x y z : PyData} (h : ∀ F H v u, Same F H → Dq B.K F v x → Dq B.K F u y → ∃ w, Dq B.K F w z ∧ ∀ Q : VK, Q w H → r v u H Q) (p : Φ z δ) : RD B r x y δ Φ := fun σ F H rp v u d1 d2 Q q => by
  obtain ⟨w, hw, hq⟩ := h F H v u rp.ex d1 d2
  exact hq Q (q w z δ F H (Same.refl F) rp hw p)
theorem ru_pure {r : V → Hp → VK → Prop} {x z : PyData} {w : V} (hz : ∀ F, Dq B.K F w z) (h : ∀ F H v, Same F H → Dq B.K F v x → ∀ Q : VK, Q w H → r v H Q) (p : Φ z δ) : RU B r x δ Φ := fun σ F H rp v d1 Q q =>
  h F H v rp.ex d1 Q (q w z δ F H (Same.refl F) rp (hz F) p)
theorem rc_pure {r : List V → Hp → VK → Prop} {xs : List PyData} {z : PyData} {w : V} (hz : ∀ F, Dq B.K F w z) (h : ∀ F H vs, Same F H → DqAll B.K F vs xs → ∀ Q : VK, Q w H → r vs H Q) (p : Φ z δ) : RC B r xs δ Φ := fun σ F H rp vs d1 Q q =>
  h F H vs rp.ex d1 Q (q w z δ F H (Same.refl F) rp (hz F) p)
theorem rd_I0 {g : Int → Int → Int} {i j : Int} (p : Φ (.int (g i j)) δ) : RD B (rI0 fun i j => .int (g i j)) (.int i) (.int j) δ Φ :=
  rd_pure (w := .int (g i j)) (fun _ => .int _) (fun F H v u e d1 d2 Q q => by cases d1; cases d2; exact ⟨i, j, rfl, rfl, q⟩) p
theorem rd_B0 {g : Int → Int → Bool} {i j : Int} (p : Φ (.bool (g i j)) δ) : RD B (rI0 fun i j => .bl (g i j)) (.int i) (.int j) δ Φ :=
  rd_pure (w := .bl (g i j)) (fun _ => .bl _) (fun F H v u e d1 d2 Q q => by cases d1; cases d2; exact ⟨i, j, rfl, rfl, q⟩) p
theorem rd_I {C : Int → Int → Prop} {g : Int → Int → Int} {i j : Int} (hc : C i j) (p : Φ (.int (g i j)) δ) : RD B (rI C fun i j => .int (g i j)) (.int i) (.int j) δ Φ :=
  rd_pure (w := .int (g i j)) (fun _ => .int _) (fun F H v u e d1 d2 Q q => by cases d1; cases d2; exact ⟨i, j, rfl, rfl, hc, q⟩) p
theorem ru_neg {i : Int} (p : Φ (.int (-i)) δ) : RU B (rU fun i => .int (-i)) (.int i) δ Φ := ru_pure (w := .int (-i)) (fun _ => .int _) (fun F H v e d1 Q q => by cases d1; exact ⟨i, rfl, q⟩) p
/-- equality of data -/
theorem dp_V {K : PySem.W.Frag} {H : Hp} {v : V} {d : PyData} (h : Dq K H v d) : atom d = true → v = toV d := atom_v h
theorem rd_eqA {x y : PyData} (hx : atom x = true) (hy : atom y = true) (hs : scal (toV x) (toV y) = true) (p : Φ (.bool (decide (toV x = toV y))) δ) : RD B rEq x y δ Φ :=
  rd_pure (w := .bl (decide (toV x = toV y))) (fun _ => .bl _) (fun F H v u e d1 d2 Q q => by rw [atom_v d1 hx, atom_v d2 hy]; exact ⟨hs, q⟩) p
theorem rd_neA {x y : PyData} (hx : atom x = true) (hy : atom y = true) (hs : scal (toV x) (toV y) = true) (p : Φ (.bool (!decide (toV x = toV y))) δ) : RD B rNe x y δ Φ :=
  rd_pure (w := .bl (!decide (toV x = toV y))) (fun _ => .bl _) (fun F H v u e d1 d2 Q q => by rw [atom_v d1 hx, atom_v d2 hy]; exact ⟨hs, q⟩) p
theorem rd_eqS {x y : Str} (p : Φ (.bool (decide (x = y))) δ) : RD B rEq (.str x) (.str y) δ Φ := rd_eqA rfl rfl rfl (by
  have e : decide (toV (.str x) = toV (.str y)) = decide (x = y) := by
    by_cases h : x = y
    · subst h; simp
    · have : ¬ (toV (.str x) = toV (.str y)) := fun z => h (V.str.inj z)
      rw [decide_eq_false h, decide_eq_false this]
  rw [e]; exact p)
theorem rd_neS {x y : Str} (p : Φ (.bool (!decide (x = y))) δ) : RD B rNe (.str x) (.str y) δ Φ := rd_neA rfl rfl rfl (by
  have e : decide (toV (.str x) = toV (.str y)) = decide (x = y) := by
    by_cases h : x = y
    · subst h; simp
    · have : ¬ (toV (.str x) = toV (.str y)) := fun z => h (V.str.inj z)
      rw [decide_eq_false h, decide_eq_false this]
  rw [e]; exact p)
theorem rd_eqI {x y : Int} (p : Φ (.bool (decide (x = y))) δ) : RD B rEq (.int x) (.int y) δ Φ := rd_eqA rfl rfl rfl (by
  have e : decide (toV (.int x) = toV (.int y)) = decide (x = y) := by
    by_cases h : x = y
    · subst h; simp
    · have : ¬ (toV (.int x) = toV (.int y)) := fun z => h (V.int.inj z)
      rw [decide_eq_false h, decide_eq_false this]
  rw [e]; exact p)
theorem rd_neI {x y : Int} (p : Φ (.bool (!decide (x = y))) δ) : RD B rNe (.int x) (.int y) δ Φ := rd_neA rfl rfl rfl (by
  have e : decide (toV (.int x) = toV (.int y)) = decide (x = y) := by
    by_cases h : x = y
    · subst h; simp
    · have : ¬ (toV (.int x) = toV (.int y)) := fun z => h (V.int.inj z)
      rw [decide_eq_false h, decide_eq_false this]
  rw [e]; exact p)
mutual
theorem noH_lay : ∀ d : PyData, d.canLay0 = true → noH d = true
  | .none, _ => rfl
  | .bool _, _ => rfl
  | .int _, _ => rfl
  | .str _, _ => rfl
  | .list ds, h => noHs_lay ds h
  | .tuple ds, h => noHs_lay ds h
  | .dict _, h => by cases h
theorem noHs_lay : ∀ ds : List PyData, PyData.canLayAll0 ds = true → noHs ds = true
  | [], _ => rfl
  | d :: ds, h => by
    have h' : (d.canLay0 && PyData.canLayAll0 ds) = true := h
    rw [Bool.and_eq_true] at h'
    show (noH d && noHs ds) = true
    rw [noH_lay d h'.1, noHs_lay ds h'.2]
    rfl
end
theorem noH_shaped {d : PyData} (h : SeqAt.shaped d = true) : noH d = true := noH_lay d (SeqAt.canLay_of_shaped h)
theorem rd_eqD {x y : PyData} (hx : SeqAt.shaped x = true) (hy : SeqAt.shaped y = true) (p : Φ (.bool (PyData.eqv x y)) δ) : RD B (rEqD B.K) x y δ Φ :=
  rd_pure (w := .bl (PyData.eqv x y)) (fun _ => .bl _) (fun F H v u e d1 d2 Q q => ⟨x, y, dq_dp _ _ (noH_shaped hx) (dp_mono e _ _ d1), dq_dp _ _ (noH_shaped hy) (dp_mono e _ _ d2), hx, hy, q⟩) p
theorem rd_neD {x y : PyData} (hx : SeqAt.shaped x = true) (hy : SeqAt.shaped y = true) (p : Φ (.bool (!PyData.eqv x y)) δ) : RD B (rNeD B.K) x y δ Φ :=
  rd_pure (w := .bl (!PyData.eqv x y)) (fun _ => .bl _) (fun F H v u e d1 d2 Q q => ⟨x, y, dq_dp _ _ (noH_shaped hx) (dp_mono e _ _ d1), dq_dp _ _ (noH_shaped hy) (dp_mono e _ _ d2), hx, hy, q⟩) p
def isNone : PyData → Bool | .none => true | _ => false
theorem isN_iff {K : PySem.W.Frag} {H : Hp} {v : V} {d : PyData} (h : Dq K H v d) : decide (v = V.non) = isNone d := by
  cases h <;> first | rfl | exact decide_eq_false (fun z => by cases z)
theorem rd_isN {x : PyData} (p : Φ (.bool (isNone x)) δ) : RD B (fun x y H Q => y = .non ∧ Q (.bl (decide (x = .non))) H) x .none δ Φ :=
  rd_pure (w := .bl (isNone x)) (fun _ => .bl _) (fun F H v u e d1 d2 Q q => by cases d2; refine ⟨rfl, ?_⟩; rw [isN_iff d1]; exact q) p
theorem rd_notN {x : PyData} (p : Φ (.bool (!isNone x)) δ) : RD B (fun x y H Q => y = .non ∧ Q (.bl (!decide (x = .non))) H) x .none δ Φ :=
  rd_pure (w := .bl (!isNone x)) (fun _ => .bl _) (fun F H v u e d1 d2 Q q => by cases d2; refine ⟨rfl, ?_⟩; rw [isN_iff d1]; exact q) p
/-- items -/
theorem atI_map {K : PySem.W.Frag} {F : Hp} {vs : List V} {ds : List PyData} {i : Int} {d : PyData} (h : DqAll K F vs ds) (e : atI ds i = some d) : ∃ v, atI vs i = some v ∧ Dq K F v d := by
  unfold atI at e ⊢
  rw [dpAll_len h]
  cases hx : ixN ds.length i with
  | none => rw [hx] at e; cases e
  | some j =>
    rw [hx] at e
    exact dpAll_get h e
theorem rd_ixT {xs : List PyData} {i : Int} {z : PyData} (h : atI xs i = some z) (p : Φ z δ) : RD B (rIxT B.K) (.tuple xs) (.int i) δ Φ := rd_item (fun F H v u e d1 d2 => by
  cases d1 with
  | tup hs ha =>
    cases d2
    obtain ⟨w, hw, dw⟩ := atI_map ha h
    exact ⟨w, dw, fun Q q => ⟨_, _, i, w, rfl, rfl, seqT e hs, hw, q⟩⟩) p
theorem rd_ixL {xs : List PyData} {i : Int} {z : PyData} (h : atI xs i = some z) (p : Φ z δ) : RD B (rIxL B.K) (.list xs) (.int i) δ Φ := rd_item (fun F H v u e d1 d2 => by
  cases d1 with
  | lst hs ha =>
    cases d2
    obtain ⟨w, hw, dw⟩ := atI_map ha h
    exact ⟨w, dw, fun Q q => ⟨_, _, i, w, rfl, rfl, e.seq hs, hw, q⟩⟩) p
theorem rd_ixS {s : Str} {i : Int} {c : Nat} (hz : s.length ≤ 100000) (h : atI s.cps.toList i = some c) (p : Φ (.str ⟨#[c]⟩) δ) : RD B rIxS (.str s) (.int i) δ Φ :=
  rd_pure (w := .str ⟨#[c]⟩) (fun _ => .str _) (fun F H v u e d1 d2 Q q => by cases d1; cases d2; exact ⟨s, i, c, rfl, rfl, Nat.le_trans hz (by decide), h, q⟩) p
/-- in, not in: flat things -/
def flatD : PyData → Bool := atom
theorem eqD_dec (neg : Bool) {K : PySem.W.Frag} {F : Hp} {v : V} {x : PyData} {vs : List V} {ys : List PyData} (h : Dq K F v x) (ha : atom x = true) (hs : DqAll K F vs ys) (hb : ys.all atom = true) :
    (if neg then !inV v vs else inV v vs) = (if neg then !inV (toV x) (ys.map toV) else inV (toV x) (ys.map toV)) := by
  rw [atom_v h ha, atoms_v hs hb]
theorem flat_toV (x : PyData) : flatV (toV x) = true := by cases x <;> rfl
theorem rd_inT {neg : Bool} {x : PyData} {ys : List PyData} (ha : atom x = true) (hb : ys.all atom = true) (p : Φ (.bool (if neg then !inV (toV x) (ys.map toV) else inV (toV x) (ys.map toV))) δ) : RD B (rIn B.K neg) x (.tuple ys) δ Φ :=
  rd_pure (w := .bl (if neg then !inV (toV x) (ys.map toV) else inV (toV x) (ys.map toV))) (fun _ => .bl _) (fun F H v u e d1 d2 Q q => by
    cases d2 with
    | tup hs hal =>
      refine ⟨_, _, rfl, .inr (seqT e hs), ?_, ?_, ?_⟩
      · rw [atom_v d1 ha]; exact flat_toV x
      · rw [atoms_v hal hb]; simp [flat_toV]
      · rw [eqD_dec neg d1 ha hal hb]; exact q) p
theorem rd_inL {neg : Bool} {x : PyData} {ys : List PyData} (ha : atom x = true) (hb : ys.all atom = true) (p : Φ (.bool (if neg then !inV (toV x) (ys.map toV) else inV (toV x) (ys.map toV))) δ) : RD B (rIn B.K neg) x (.list ys) δ Φ :=
  rd_pure (w := .bl (if neg then !inV (toV x) (ys.map toV) else inV (toV x) (ys.map toV))) (fun _ => .bl _) (fun F H v u e d1 d2 Q q => by
    cases d2 with
    | lst hs hal =>
      refine ⟨_, _, rfl, .inl (e.seq hs), ?_, ?_, ?_⟩
      · rw [atom_v d1 ha]; exact flat_toV x
      · rw [atoms_v hal hb]; simp [flat_toV]
      · rw [eqD_dec neg d1 ha hal hb]; exact q) p
/-- texts -/
theorem rd_addS {x y : Str} (hz : x.length + y.length ≤ 100000) (p : Φ (.str (x ++ y)) δ) : RD B (fun x y H Q => ∃ i j, x = .str i ∧ y = .str j ∧ i.length + j.length ≤ sizeLine ∧ Q (.str (i ++ j)) H) (.str x) (.str y) δ Φ :=
  rd_pure (w := .str (x ++ y)) (fun _ => .str _) (fun F H v u e d1 d2 Q q => by cases d1; cases d2; exact ⟨x, y, rfl, rfl, Nat.le_trans hz (by decide), q⟩) p
theorem rd_leS {op : R2} {f : Str → Str → Bool} {x y : Str} (ho : op = fun x y H Q => ∃ i j, x = .str i ∧ y = .str j ∧ Q (.bl (f i j)) H) (p : Φ (.bool (f x y)) δ) : RD B op (.str x) (.str y) δ Φ := by
  subst ho
  exact rd_pure (w := .bl (f x y)) (fun _ => .bl _) (fun F H v u e d1 d2 Q q => by cases d1; cases d2; exact ⟨x, y, rfl, rfl, q⟩) p
end

/-! ### calls of built-ins on data -/
section
variable {B : Bs} {δ : St'} {Φ : PE1}
theorem rc_lenT {K} (hK : K = B.K) {xs : List PyData} (p : Φ (.int xs.length) δ) : RC B (fun xs H Q => ∃ x n, xs = [x] ∧ LenV K x H n ∧ Q (.int n) H) [.tuple xs] δ Φ := rc_pure (w := .int xs.length) (fun _ => .int _) (fun F H vs e d1 Q q => by
  subst hK
  cases d1 with
  | cons h1 h2 =>
    cases h2
    cases h1 with
    | tup hs ha =>
      refine ⟨_, xs.length, rfl, ?_, q⟩
      unfold LenV
      refine .inr ⟨_, seqT e hs, ?_⟩
      rw [dpAll_len ha]) p
theorem rc_lenL {K} (hK : K = B.K) {xs : List PyData} (p : Φ (.int xs.length) δ) : RC B (fun xs H Q => ∃ x n, xs = [x] ∧ LenV K x H n ∧ Q (.int n) H) [.list xs] δ Φ := rc_pure (w := .int xs.length) (fun _ => .int _) (fun F H vs e d1 Q q => by
  subst hK
  cases d1 with
  | cons h1 h2 =>
    cases h2
    cases h1 with
    | lst hs ha =>
      refine ⟨_, xs.length, rfl, ?_, q⟩
      unfold LenV
      refine .inl ⟨_, e.seq hs, ?_⟩
      rw [dpAll_len ha]) p
theorem rc_lenS {K} (hK : K = B.K) {x : Str} (hz : x.length ≤ 100000) (p : Φ (.int x.length) δ) : RC B (fun xs H Q => ∃ x n, xs = [x] ∧ LenV K x H n ∧ Q (.int n) H) [.str x] δ Φ := rc_pure (w := .int x.length) (fun _ => .int _) (fun F H vs e d1 Q q => by
  subst hK
  cases d1 with
  | cons h1 h2 =>
    cases h2
    cases h1
    refine ⟨_, x.length, rfl, ?_, q⟩
    unfold LenV
    exact ⟨Nat.le_trans hz (by decide), rfl⟩) p
theorem bools_v {K : PySem.W.Frag} {F : Hp} {bs : List Bool} {vs : List V} (h : DqAll K F vs (bs.map PyData.bool)) : vs = bs.map V.bl := by
  rw [atoms_v h (by simp [atom]), List.map_map]
  rfl
theorem rc_all {bs : List Bool} (p : Φ (.bool (bs.all id)) δ) : RC B (rAll B.K) [.list (bs.map PyData.bool)] δ Φ := rc_pure (w := .bl (bs.all id)) (fun _ => .bl _) (fun F H vs e d1 Q q => by
  cases d1 with
  | cons h1 h2 =>
    cases h2
    cases h1 with
    | lst hs ha =>
      refine ⟨_, bs, rfl, ?_, q⟩
      rw [bools_v ha] at hs
      exact e.seq hs) p
theorem rc_any {bs : List Bool} (p : Φ (.bool (bs.any id)) δ) : RC B (rAny B.K) [.list (bs.map PyData.bool)] δ Φ := rc_pure (w := .bl (bs.any id)) (fun _ => .bl _) (fun F H vs e d1 Q q => by
  cases d1 with
  | cons h1 h2 =>
    cases h2
    cases h1 with
    | lst hs ha =>
      refine ⟨_, bs, rfl, ?_, q⟩
      rw [bools_v ha] at hs
      exact e.seq hs) p
end
section
variable {B : B0} {X : Cx} {a b c : Expr} {es rest : List Expr} {δ : St'} {Φ : PE1} {pos p p2 p3 : Pos}
theorem de_callB {x : Str} {id : String} {r : List V → Hp → VK → Prop} (hc : CallR X (.builtin id) r) (hm : X.mg x = none) (hv : bootBuiltins x = some (.builtin id)) (h : DA B X (a :: es) δ fun xs δ' => RC (bs X B) r xs δ' Φ)
    (hg : Gl X x := by rfl) (hn : x ≠ "__name__" := by decide) (hdb : (x == ("__debug__" : Str)) = false := by decide)
    (he : starEach (a :: es) X.env = (false, eval a X.env) :: starEach es X.env := by rfl) (hpl : (backTo pos (starEach es X.env)).any (·.1) = false := by rfl) : DE B X (.Call (.Name x p) (a :: es) [] pos) δ Φ := .of (pe_callB hc hg hm hv pa_w hn hdb he hpl) (we_cb h)
theorem de_callTy {x : Str} {id : String} {r : List V → Hp → VK → Prop} (hc : CallR X (.type id) r) (hm : X.mg x = none) (hv : bootBuiltins x = some (.type id)) (h : DA B X (a :: es) δ fun xs δ' => RC (bs X B) r xs δ' Φ)
    (hg : Gl X x := by rfl) (hn : x ≠ "__name__" := by decide) (hdb : (x == ("__debug__" : Str)) = false := by decide)
    (he : starEach (a :: es) X.env = (false, eval a X.env) :: starEach es X.env := by rfl) (hpl : (backTo pos (starEach es X.env)).any (·.1) = false := by rfl) : DE B X (.Call (.Name x p) (a :: es) [] pos) δ Φ := .of (pe_callTy hc hg hm hv pa_w hn hdb he hpl) (we_cb h)
theorem dl_callTy {x : Str} {id : String} {r : List V → Hp → VK → Prop} {Φ : List PyData → St' → Prop} (hc : CallR X (.type id) r) (hm : X.mg x = none) (hv : bootBuiltins x = some (.type id)) (h : WL (bs X B) (tCB r (wA X (a :: es))) δ Φ)
    (hg : Gl X x := by rfl) (hn : x ≠ "__name__" := by decide) (hdb : (x == ("__debug__" : Str)) = false := by decide)
    (he : starEach (a :: es) X.env = (false, eval a X.env) :: starEach es X.env := by rfl) (hpl : (backTo pos (starEach es X.env)).any (·.1) = false := by rfl) : DLs B X (.Call (.Name x p) (a :: es) [] pos) δ Φ := .of (pe_callTy hc hg hm hv pa_w hn hdb he hpl) h
theorem dl_callB {x : Str} {id : String} {r : List V → Hp → VK → Prop} {Φ : List PyData → St' → Prop} (hc : CallR X (.builtin id) r) (hm : X.mg x = none) (hv : bootBuiltins x = some (.builtin id)) (h : WL (bs X B) (tCB r (wA X (a :: es))) δ Φ)
    (hg : Gl X x := by rfl) (hn : x ≠ "__name__" := by decide) (hdb : (x == ("__debug__" : Str)) = false := by decide)
    (he : starEach (a :: es) X.env = (false, eval a X.env) :: starEach es X.env := by rfl) (hpl : (backTo pos (starEach es X.env)).any (·.1) = false := by rfl) : DLs B X (.Call (.Name x p) (a :: es) [] pos) δ Φ := .of (pe_callB hc hg hm hv pa_w hn hdb he hpl) h
end
end DL

set_option maxHeartbeats 200000
set_option Elab.async false
set_option linter.all false
set_option maxRecDepth 100000
namespace DL
open PySem PySem.Spec PyProof.Rows L2

def St'.put (δ : St') (i : Nat) (c : C) : St' := ⟨δ.n, δ.s.set i (some c)⟩
theorem put_get {δ : St'} {i j : Nat} {c c' : C} (h : (δ.put i c).s[j]? = some (some c')) : (j = i ∧ c' = c ∧ i < δ.s.length) ∨ (j ≠ i ∧ δ.s[j]? = some (some c')) := by
  have h' : (δ.s.set i (some c))[j]? = some (some c') := h
  rw [List.getElem?_set] at h'
  by_cases e : i = j
  · subst e
    rw [if_pos rfl] at h'
    by_cases hl : i < δ.s.length
    · rw [if_pos hl] at h'
      injection h' with h'
      injection h' with h'
      exact .inl ⟨rfl, h'.symm, hl⟩
    · rw [if_neg hl] at h'; cases h'
  · rw [if_neg e] at h'
    exact .inr ⟨fun z => e z.symm, h'⟩
section
variable {B : Bs} {δ δ' : St'} {σ : List (Option V)} {F F' H H' : Hp}
theorem Rep.putD (r : Rep B δ σ F H) (i : Nat) {v : V} {x : PyData} (h : Dq B.K F v x) : Rep B (δ.put i (.d x)) (σ.set i (some v)) F H := by
  refine ⟨r.ex, r.f0, r.fr, r.kp, r.pot, fun j c e => ?_, by simp [St'.put, r.len], fun j k c c' hjk e1 e2 o1 o2 => ?_⟩
  · rcases put_get e with ⟨rfl, rfl, hl⟩ | ⟨hne, e⟩
    · exact ⟨v, by rw [List.getElem?_set, if_pos rfl, if_pos (by rw [r.len]; exact hl)], h⟩
    · obtain ⟨u, hu, hc⟩ := r.cell j c e
      exact ⟨u, by rw [List.getElem?_set_ne (fun z => hne z.symm)]; exact hu, hc⟩
  · rcases put_get e1 with ⟨rfl, rfl, _⟩ | ⟨n1, e1⟩
    · cases o1
    · rcases put_get e2 with ⟨rfl, rfl, _⟩ | ⟨n2, e2⟩
      · cases o2
      · rw [List.getElem?_set_ne (fun z => n1 z.symm), List.getElem?_set_ne (fun z => n2 z.symm)]
        exact r.ap j k c c' hjk e1 e2 o1 o2
/-- an own thing goes to a slot -/
theorem Rep.putO (r : Rep B δ σ F H) (i : Nat) {a : Addr} {c : C} (hap : ∀ (j : Nat) (c : C), δ.s[j]? = some (some c) → own? c = true → σ[j]? ≠ some (some (.ref a))) (hc : CellOk B F H c (.ref a)) : Rep B (δ.put i c) (σ.set i (some (.ref a))) F H := by
  refine ⟨r.ex, r.f0, r.fr, r.kp, r.pot, fun j c e => ?_, by simp [St'.put, r.len], fun j k c c' hjk e1 e2 o1 o2 => ?_⟩
  · rcases put_get e with ⟨rfl, rfl, hl⟩ | ⟨hne, e⟩
    · exact ⟨_, by rw [List.getElem?_set, if_pos rfl, if_pos (by rw [r.len]; exact hl)], hc⟩
    · obtain ⟨u, hu, hc⟩ := r.cell j c e
      exact ⟨u, by rw [List.getElem?_set_ne (fun z => hne z.symm)]; exact hu, hc⟩
  · rcases put_get e1 with ⟨rfl, rfl, l1⟩ | ⟨n1, e1⟩
    · rcases put_get e2 with ⟨rfl, rfl, _⟩ | ⟨n2, e2⟩
      · exact absurd rfl hjk
      · rw [List.getElem?_set, if_pos rfl, if_pos (by rw [r.len]; exact l1), List.getElem?_set_ne (fun z => n2 z.symm)]
        exact fun z => hap k c' e2 o2 z.symm
    · rcases put_get e2 with ⟨rfl, rfl, l2⟩ | ⟨n2, e2⟩
      · rw [List.getElem?_set, if_neg (fun z => n1 z.symm), List.getElem?_set, if_pos rfl, if_pos (by rw [r.len]; exact l2)]
        exact hap j c (by assumption) o1
      · rw [List.getElem?_set_ne (fun z => n1 z.symm), List.getElem?_set_ne (fun z => n2 z.symm)]
        exact r.ap j k c c' hjk e1 e2 o1 o2
/-- an own thing is changed where it stands -/
theorem Rep.write (r : Rep B δ σ F H) {i : Nat} {a : Addr} {c c2 : C} {o : HO} (hi : δ.s[i]? = some (some c)) (ho : own? c = true) (hσ : σ[i]? = some (some (.ref a))) (hB : B.H a = none) (hF : F a = none) (ho2 : own? c2 = true)
    (hc : CellOk B F (upd H a o) c2 (.ref a)) : Rep B (δ.put i c2) σ F (upd H a o) := by
  have nB : ∀ {b : Addr} {u : HO}, B.H b = some u → b ≠ a := fun h z => by rw [z, hB] at h; cases h
  refine ⟨fun b u h => ?_, r.f0, r.fr, fun b u h1 h2 => ?_, fun p h => ?_, fun j c' e => ?_, by simp [St'.put, r.len], fun j k c c' hjk e1 e2 o1 o2 => ?_⟩
  · have hb : b ≠ a := fun z => by rw [z, hF] at h; cases h
    rw [upd_ne hb]; exact r.ex b u h
  · rw [upd_ne (nB h1)]; exact r.kp b u h1 h2
  · obtain ⟨h1, h2, x, y, z, h3, h4⟩ := r.pot p h
    have hb : p ≠ a := fun q => h2 (q ▸ hB)
    exact ⟨h1, h2, x, y, z, by rw [upd_ne hb]; exact h3, h4⟩
  · rcases put_get e with ⟨rfl, rfl, hl⟩ | ⟨hne, e⟩
    · exact ⟨_, hσ, hc⟩
    · obtain ⟨u, hu, hc'⟩ := r.cell j c' e
      refine ⟨u, hu, ?_⟩
      have hna : own? c' = true → ∀ b, u = .ref b → b ≠ a := fun oc b hb q => r.ap j i c' c hne e hi oc ho (by rw [hu, hσ, hb, q])
      cases c' with
      | d x => exact hc'
      | own xs =>
        obtain ⟨b, vs, e1, h1, h2, h3, h4⟩ := hc'
        exact ⟨b, vs, e1, h1, h2, by rw [upd_ne (hna rfl b e1)]; exact h3, h4⟩
      | dct kvs =>
        obtain ⟨b, vs, e1, h1, h2, h3, h4⟩ := hc'
        exact ⟨b, vs, e1, h1, h2, by rw [upd_ne (hna rfl b e1)]; exact h3, h4⟩
      | iset ns =>
        obtain ⟨b, e1, h1, h2, h3⟩ := hc'
        exact ⟨b, e1, h1, h2, by rw [upd_ne (hna rfl b e1)]; exact h3⟩
      | pot => exact hc'
      | bor => exact hc'
  · have g1 : ∃ d, δ.s[j]? = some (some d) ∧ own? d = true := by
      rcases put_get e1 with ⟨rfl, rfl, _⟩ | ⟨_, e⟩
      · exact ⟨_, hi, ho⟩
      · exact ⟨_, e, o1⟩
    have g2 : ∃ d, δ.s[k]? = some (some d) ∧ own? d = true := by
      rcases put_get e2 with ⟨rfl, rfl, _⟩ | ⟨_, e⟩
      · exact ⟨_, hi, ho⟩
      · exact ⟨_, e, o2⟩
    obtain ⟨d1, q1, w1⟩ := g1
    obtain ⟨d2, q2, w2⟩ := g2
    exact r.ap j k d1 d2 hjk q1 q2 w1 w2
/-- an own list is told as data from here on -/
theorem Rep.freeze (r : Rep B δ σ F H) {i : Nat} {xs : List PyData} (hi : δ.s[i]? = some (some (.own xs))) : ∃ a vs, σ[i]? = some (some (.ref a)) ∧ F a = none ∧ B.H a = none ∧ H a = some (.lst vs) ∧ DqAll B.K F vs xs ∧
    Rep B (δ.put i (.d (.list xs))) σ (upd F a (.lst vs)) H := by
  obtain ⟨u, hu, a, vs, rfl, hB, hF, hH, hd⟩ := r.cell i _ hi
  have e2 : Same F (upd F a (.lst vs)) := same_upd hF
  refine ⟨a, vs, hu, hF, hB, hH, hd, fun b u h => ?_, r.f0.trans e2, fun b h1 h2 => ?_, r.kp, r.pot, fun j c h => ?_, by simp [St'.put, r.len], fun j k c c' hjk q1 q2 o1 o2 => ?_⟩
  · by_cases hb : b = a
    · subst hb; rw [upd_same] at h; cases h; exact hH
    · rw [upd_ne hb] at h; exact r.ex b u h
  · have hb : b ≠ a := fun z => h2 (z ▸ hB)
    rw [upd_ne hb]; exact r.fr b h1 h2
  · rcases put_get h with ⟨rfl, rfl, hl⟩ | ⟨hne, h⟩
    · exact ⟨_, hu, .lst (.inl (.inl upd_same)) (dpAll_mono e2 _ _ hd)⟩
    · obtain ⟨v, hv, hc⟩ := r.cell j c h
      refine ⟨v, hv, ?_⟩
      have hna : own? c = true → ∀ b, v = .ref b → b ≠ a := fun oc b hb q => r.ap j i c _ hne h hi oc rfl (by rw [hv, hu, hb, q])
      cases c with
      | d x => exact dp_mono e2 _ _ hc
      | own ys =>
        obtain ⟨a', vs', e', h1, h2, h3, h4⟩ := hc
        exact ⟨a', vs', e', h1, by rw [upd_ne (hna rfl a' e')]; exact h2, h3, dpAll_mono e2 _ _ h4⟩
      | dct kvs =>
        obtain ⟨a', vs', e', h1, h2, h3, h4⟩ := hc
        exact ⟨a', vs', e', h1, by rw [upd_ne (hna rfl a' e')]; exact h2, h3, dpAll_mono e2 _ _ h4⟩
      | iset ns =>
        obtain ⟨a', e', h1, h2, h3⟩ := hc
        exact ⟨a', e', h1, by rw [upd_ne (hna rfl a' e')]; exact h2, h3⟩
      | pot => exact hc
      | bor => exact hc
  · rcases put_get q1 with ⟨rfl, rfl, _⟩ | ⟨_, q1⟩
    · cases o1
    · rcases put_get q2 with ⟨rfl, rfl, _⟩ | ⟨_, q2⟩
      · cases o2
      · exact r.ap j k c c' hjk q1 q2 o1 o2
/-- no own list but at i -/
def onlyOwn (i : Nat) : List (Option C) → Nat → Bool
  | [], _ => true
  | some (.own _) :: r, j => j == i && onlyOwn i r (j + 1)
  | some (.dct _) :: r, j => false && onlyOwn i r (j + 1)
  | _ :: r, j => onlyOwn i r (j + 1)
theorem onlyOwn_get {i : Nat} : ∀ (l : List (Option C)) (j k : Nat) (ys : List PyData), onlyOwn i l j = true → l[k]? = some (some (.own ys)) → j + k = i
  | [], j, k, ys, _, h => by simp at h
  | c :: r, j, 0, ys, ho, h => by
    simp at h
    subst h
    simp [onlyOwn] at ho
    omega
  | c :: r, j, k + 1, ys, ho, h => by
    have h' : r[k]? = some (some (.own ys)) := by simpa using h
    have ho' : onlyOwn i r (j + 1) = true := by
      rcases c with _ | c
      · exact ho
      · cases c <;> first | exact ho | (simp [onlyOwn] at ho; done) | (simp [onlyOwn] at ho; exact ho.2)
    have := onlyOwn_get r (j + 1) k ys ho' h'
    omega
theorem onlyOwn_dct {i : Nat} : ∀ (l : List (Option C)) (j k : Nat) (kvs : List (L2.Key × PyData)), onlyOwn i l j = true → l[k]? = some (some (.dct kvs)) → False
  | [], j, k, kvs, _, h => by simp at h
  | c :: r, j, 0, kvs, ho, h => by
    simp at h
    subst h
    simp [onlyOwn] at ho
  | c :: r, j, k + 1, kvs, ho, h => by
    have h' : r[k]? = some (some (.dct kvs)) := by simpa using h
    have ho' : onlyOwn i r (j + 1) = true := by
      rcases c with _ | c
      · exact ho
      · cases c <;> first | exact ho | (simp [onlyOwn] at ho; done) | (simp [onlyOwn] at ho; exact ho.2)
    exact onlyOwn_dct r (j + 1) k kvs ho' h'
/-- the state ahead, the heap behind, where the cells are the same -/
theorem Rep.thaw (r : Rep B δ σ F H) {i : Nat} {xs : List PyData} (hi : δ.s[i]? = some (some (.own xs))) (ho : onlyOwn i δ.s 0 = true) {a : Addr} {vs : List V} (hσ : σ[i]? = some (some (.ref a))) (hd : DqAll B.K F vs xs) (hF : F a = none) (hB : B.H a = none) (ex : Same F H')
    (hl : H' a = some (.lst vs)) (r' : Rep B δ' σ F' H') (hs : δ'.s = (δ.put i (.d (.list xs))).s) : Rep B ⟨δ'.n, δ.s⟩ σ F H' := by
  refine ⟨ex, r.f0, r.fr, r'.kp, fun p h => ⟨(r.pot p h).1, (r.pot p h).2.1, (r'.pot p h).2.2⟩, fun j c h => ?_, r.len, r.ap⟩
  obtain ⟨v, hv, hc⟩ := r.cell j c h
  refine ⟨v, hv, ?_⟩
  by_cases e : j = i
  · subst e
    rw [hi] at h; cases h
    rw [hσ] at hv
    injection hv with hv
    injection hv with hv
    subst hv
    exact ⟨a, vs, rfl, hB, hF, hl, hd⟩
  · have h' : δ'.s[j]? = some (some c) := by
      rw [hs]
      show (δ.s.set i _)[j]? = _
      rw [List.getElem?_set_ne (fun z => e z.symm)]
      exact h
    obtain ⟨v', hv', hc'⟩ := r'.cell j c h'
    rw [hv] at hv'
    injection hv' with hv'
    injection hv' with hv'
    subst hv'
    cases c with
    | d x => exact hc
    | own ys =>
      have := onlyOwn_get δ.s 0 j ys ho h
      exact absurd (by omega) e
    | dct kvs => exact (onlyOwn_dct δ.s 0 j kvs ho h).elim
    | iset ns =>
      obtain ⟨b, q1, q2, q3, q4⟩ := hc
      obtain ⟨b', q1', q2', q3', q4'⟩ := hc'
      refine ⟨b, q1, q2, q3, ?_⟩
      rw [q1] at q1'; injection q1' with q1'; subst q1'; exact q4'
    | pot => exact hc
    | bor => exact hc
end

/-! ### statements -/
section
variable {B : Bs} {te : TE} {tt : TT} {t u : TS} {δ : St'} {Φ R : PE1} {N : St' → Prop}
theorem ws_set {i : Nat} (h : WE B te δ fun x δ' => N (δ'.put i (.d x))) : WS B (tAsg te (gName i)) δ N R := fun σ F H r D hn hr => h σ F H r _ fun v x δ' F' H' e r' d p => hn _ _ F' H' e (r'.putD i d) p
theorem ws_setO {i : Nat} (h : WL B te δ fun xs δ' => N (δ'.put i (.own xs))) : WS B (tAsg te (gName i)) δ N R := fun σ F H r D hn hr => h σ F H r _ fun a vs xs δ' F' H' e r' hB hF hH hap d p =>
  hn _ _ F' H' e (r'.putO i (c := .own xs) hap ⟨a, vs, rfl, hB, hF, hH, d⟩) p
theorem ws_ret (h : WE B te δ R) : WS B (tRet te) δ N R := fun σ F H r D hn hr => h σ F H r _ fun v x δ' F' H' e r' d p => hr v x δ' σ F' H' e r' d p
theorem ws_drop (h : WE B te δ fun _ δ' => N δ') : WS B (tDrop te) δ N R := fun σ F H r D hn hr => h σ F H r _ fun v x δ' F' H' e r' d p => hn δ' σ F' H' e r' p
theorem WS.cat (e : WS B t δ (fun δ' => WS B u δ' N R) R) : WS B (tSeq t u) δ N R := fun σ F H r D hn hr =>
  e σ F H r { D with nx := u D } (fun δ' σ' F' H' e1 r1 w => w σ' F' H' r1 D (fun δ2 σ2 F2 H2 e2 r2 n => hn δ2 σ2 F2 H2 (e1.trans e2) r2 n) fun v x δ2 σ2 F2 H2 e2 r2 d2 p2 => hr v x δ2 σ2 F2 H2 (e1.trans e2) r2 d2 p2) hr
theorem ws_next (p : N δ) : WS B tNext δ N R := fun σ F H r D hn hr => hn δ σ F H (Same.refl F) r p
theorem ws_if (h : WT B tt δ fun b δ' => if b = true then WS B t δ' N R else WS B u δ' N R) : WS B (tIfS tt t u) δ N R := fun σ F H r D hn hr => h σ F H r _ fun b δ' F' H' e r' p => by
  cases b with
  | true => exact iteT ((show WS B t δ' N R from p) σ F' H' r' D (fun δ2 σ2 F2 H2 e2 r2 n => hn δ2 σ2 F2 H2 (e.trans e2) r2 n) fun v x δ2 σ2 F2 H2 e2 r2 d2 p2 => hr v x δ2 σ2 F2 H2 (e.trans e2) r2 d2 p2)
  | false => exact iteF ((show WS B u δ' N R from p) σ F' H' r' D (fun δ2 σ2 F2 H2 e2 r2 n => hn δ2 σ2 F2 H2 (e.trans e2) r2 n) fun v x δ2 σ2 F2 H2 e2 r2 d2 p2 => hr v x δ2 σ2 F2 H2 (e.trans e2) r2 d2 p2)
theorem WS.mono {N' : St' → Prop} {R' : PE1} (h : WS B t δ N R) (f : ∀ δ', N δ' → N' δ') (g : ∀ x δ', R x δ' → R' x δ') : WS B t δ N' R' := fun σ F H r D hn hr =>
  h σ F H r D (fun δ' σ' F' H' e r' n => hn δ' σ' F' H' e r' (f δ' n)) fun v x δ' σ' F' H' e r' d p => hr v x δ' σ' F' H' e r' d (g x δ' p)
end
section
variable {B : B0} {X : Cx} {a b c e : Expr} {es : List Expr} {st : Stmt} {rest bd : List Stmt} {δ : St'} {N : St' → Prop} {Φ R : PE1} {pos p2 p3 : Pos}
theorem ds_nil (p : N δ) : DSs B X [] δ N R := .of pss_nil (ws_next p)
theorem ds_cons (h : DS B X st δ (fun δ' => DSs B X rest δ' N R) R) : DSs B X (st :: rest) δ N R := .of (pss_cons ps_w pss_w) (WS.cat h)
theorem ds_last (h : DS B X st δ N R) : DSs B X [st] δ N R := .of (pss_one ps_w) h
theorem ds_set (i : Nat) {x : Str} {pos' : Pos} (h : DE B X e δ fun d δ' => N (δ'.put i (.d d))) (hN : X.N.Nodup) (hi : X.N[i]? = some x := by rfl) (hx : Loc X.env.scope x := by first | exact .inl rfl | exact .inr rfl)
    (hs : swapsWith e (some (.Name x pos')) pos.line X.env = pure false := by rfl) (hf : X.fn x = true ∨ X.env.scope.names.lookup x = some .local := by first | exact .inl rfl | exact .inr rfl) : DS B X (.Assign [.Name x pos'] e pos) δ N R := .of (ps_set hN hi hx pe_w hs hf) (ws_set h)
theorem ds_setO (i : Nat) {x : Str} {pos' : Pos} (h : DLs B X e δ fun xs δ' => N (δ'.put i (.own xs))) (hN : X.N.Nodup) (hi : X.N[i]? = some x := by rfl) (hx : Loc X.env.scope x := by first | exact .inl rfl | exact .inr rfl)
    (hs : swapsWith e (some (.Name x pos')) pos.line X.env = pure false := by rfl) (hf : X.fn x = true ∨ X.env.scope.names.lookup x = some .local := by first | exact .inl rfl | exact .inr rfl) : DS B X (.Assign [.Name x pos'] e pos) δ N R := .of (ps_set hN hi hx pe_w hs hf) (ws_setO h)
theorem ds_ret (h : DE B X e δ R) : DS B X (.Return (some e) pos) δ N R := .of (ps_ret pe_w) (ws_ret h)
theorem ds_if (h : DT B X c δ fun k δ' => if k = true then DSs B X bd δ' N R else DSs B X rest δ' N R) : DS B X (.If c bd rest pos) δ N R := .of (ps_if pt_w pss_w pss_w) (ws_if h)
theorem ds_expr (h : DE B X e δ fun _ δ' => N δ') (hs : swapsWith e none pos.line X.env = pure false := by rfl) : DS B X (.Expr e pos) δ N R := .of (ps_expr pe_w hs) (ws_drop h)
theorem DSs.mono {N' : St' → Prop} {R' : PE1} (h : DSs B X rest δ N R) (f : ∀ δ', N δ' → N' δ') (g : ∀ x δ', R x δ' → R' x δ') : DSs B X rest δ N' R' := WS.mono h f g

/-! ### own lists -/
theorem de_peek (i : Nat) {xs : List PyData} (h : DE B X e (δ.put i (.d (.list xs))) fun x δ' => atom x = true ∧ δ'.s = (δ.put i (.d (.list xs))).s ∧ Φ x ⟨δ'.n, δ.s⟩) (hi : δ.s[i]? = some (some (.own xs)) := by rfl) (ho : onlyOwn i δ.s 0 = true := by rfl) : DE B X e δ Φ := fun σ F H r Q q => by
  obtain ⟨a, vs, hσ, hF, hB, hH, hd, r2⟩ := r.freeze hi
  refine h σ _ H r2 Q fun v x δ' F' H' e r' d ⟨ha, hs, p⟩ => ?_
  have e1 : Same F F' := (same_upd hF).trans e
  exact q v x ⟨δ'.n, δ.s⟩ F H' (Same.refl F) (r.thaw hi ho hσ hd hF hB (e1.trans r'.ex) (r'.ex _ _ (e _ _ upd_same)) r' hs) (atom_dp d ha) p
theorem dt_peek (i : Nat) {xs : List PyData} {Φ : Bool → St' → Prop} (h : DT B X e (δ.put i (.d (.list xs))) fun x δ' => δ'.s = (δ.put i (.d (.list xs))).s ∧ Φ x ⟨δ'.n, δ.s⟩) (hi : δ.s[i]? = some (some (.own xs)) := by rfl) (ho : onlyOwn i δ.s 0 = true := by rfl) : DT B X e δ Φ := fun σ F H r Q q => by
  obtain ⟨a, vs, hσ, hF, hB, hH, hd, r2⟩ := r.freeze hi
  refine h σ _ H r2 Q fun b δ' F' H' e r' ⟨hs, p⟩ => ?_
  have e1 : Same F F' := (same_upd hF).trans e
  exact q b ⟨δ'.n, δ.s⟩ F H' (Same.refl F) (r.thaw hi ho hσ hd hF hB (e1.trans r'.ex) (r'.ex _ _ (e _ _ upd_same)) r' hs) p
/-- from here on an own list is data -/
theorem de_freeze (i : Nat) {xs : List PyData} (h : DE B X e (δ.put i (.d (.list xs))) Φ) (hi : δ.s[i]? = some (some (.own xs)) := by rfl) : DE B X e δ Φ := fun σ F H r Q q => by
  obtain ⟨a, vs, hσ, hF, hB, hH, hd, r2⟩ := r.freeze hi
  exact h σ _ H r2 Q fun v x δ' F' H' e r' d p => q v x δ' F' H' ((same_upd hF).trans e) r' d p
theorem dss_freeze (i : Nat) {xs : List PyData} (h : DSs B X rest (δ.put i (.d (.list xs))) N R) (hi : δ.s[i]? = some (some (.own xs)) := by rfl) : DSs B X rest δ N R := fun σ F H r D hn hr => by
  obtain ⟨a, vs, hσ, hF, hB, hH, hd, r2⟩ := r.freeze hi
  exact h σ _ H r2 D (fun δ' σ' F' H' e r' n => hn δ' σ' F' H' ((same_upd hF).trans e) r' n) fun v x δ' σ' F' H' e r' d p => hr v x δ' σ' F' H' ((same_upd hF).trans e) r' d p
/-- xs.append(e) -/
theorem ds_append (i : Nat) {x : Str} {xs : List PyData} {apos npos : Pos} (h : DE B X e δ fun y δ' => ∃ xs, δ'.s[i]? = some (some (.own xs)) ∧ xs.length < 100000 ∧ N (δ'.put i (.own (xs ++ [y])))) (hi : δ.s[i]? = some (some (.own xs)) := by rfl)
    (hN : X.N[i]? = some x := by rfl) (hv : Vis X.env.scope x := by first | exact Or.inl rfl | exact Or.inr (Or.inl rfl) | exact Or.inr (Or.inr rfl)) (hd : (x == ("__debug__" : Str)) = false := by decide)
    (hcd : (x == ("__classdict__" : Str)) = false := by decide)
    (hbase : attributeBase (.Name x npos) "append" X.env (eval (.Name x npos) X.env) = eval (.Name x npos) X.env := by rfl)
    (hfew : ((backTo p2 (starEach [e] X.env)).all (fun x => !x.1) && (backToKw p2 (keywordEach [] X.env)).all (fun x => x.1.isSome)
      && decide ([e].length + ([] : List Keyword).length + (if ([] : List Keyword).isEmpty then 0 else 1) < 30)) = true := by rfl)
    (hline : (apos.endLine == p2.line) = true := by rfl) (hs : starEach [e] X.env = (false, eval e X.env) :: starEach [] X.env := by rfl) (hplain : (backTo p2 (starEach [] X.env)).any (·.1) = false := by rfl)
    (hsw : swapsWith (.Call (.Attribute (.Name x npos) "append" apos) [e] [] p2) none pos.line X.env = pure false := by rfl) :
    DS B X (.Expr (.Call (.Attribute (.Name x npos) "append" apos) [e] [] p2) pos) δ N R := .of (ps_expr (pe_bm PySem.F.plainAttrs_list PySem.F.slot_list_append PySem.F.type_list_append mt_append (pe_var hN hv hd hcd) (pa_cons pe_w pa_nil hs) hbase hfew hline hs hplain) hsw) fun σ F H r D hn hr => by
  obtain ⟨u, hu, a, vs, rfl, hB, hF, hH, hdd⟩ := r.cell i _ hi
  refine ⟨.ref a, hu, .inl ⟨rfl, vs, .inl (.inl hH)⟩, ?_⟩
  refine h σ F H r _ fun v y δ' F' H' e r' d ⟨ys, hi', hz, p⟩ => ?_
  obtain ⟨u', hu', a', vs', rfl, hB', hF', hH', hdd'⟩ := r'.cell i _ hi'
  rw [hu] at hu'
  injection hu' with hu'
  injection hu' with hu'
  injection hu' with hu'
  subst hu'
  refine ⟨a, vs', v, rfl, rfl, hH', Nat.lt_of_lt_of_le (by rw [dpAll_len hdd']; exact hz) (by decide), ?_⟩
  refine hn _ σ F' _ e (r'.write (c2 := .own (ys ++ [y])) hi' rfl hu hB' hF' rfl ⟨a, vs' ++ [v], rfl, hB', hF', upd_same, ?_⟩) p
  exact dpAll_app hdd' (.cons d .nil)
/-- y = xs.pop() -/
theorem ds_setPop (i j : Nat) {x y : Str} {xs : List PyData} {z : PyData} {apos npos pos' : Pos} (h : N ((δ.put i (.own xs)).put j (.d z))) (hNd : X.N.Nodup) (hi : δ.s[i]? = some (some (.own (xs ++ [z]))) := by rfl)
    (hN : X.N[i]? = some x := by rfl) (hv : Vis X.env.scope x := by first | exact Or.inl rfl | exact Or.inr (Or.inl rfl) | exact Or.inr (Or.inr rfl)) (hd : (x == ("__debug__" : Str)) = false := by decide)
    (hcd : (x == ("__classdict__" : Str)) = false := by decide)
    (hbase : attributeBase (.Name x npos) "pop" X.env (eval (.Name x npos) X.env) = eval (.Name x npos) X.env := by rfl) (hline : (apos.endLine == p2.line) = true := by rfl)
    (hj : X.N[j]? = some y := by rfl) (hx : Loc X.env.scope y := by first | exact .inl rfl | exact .inr rfl)
    (hs : swapsWith (.Call (.Attribute (.Name x npos) "pop" apos) [] [] p2) (some (.Name y pos')) pos.line X.env = pure false := by rfl) (hf : X.fn y = true ∨ X.env.scope.names.lookup y = some .local := by first | exact .inl rfl | exact .inr rfl) :
    DS B X (.Assign [.Name y pos'] (.Call (.Attribute (.Name x npos) "pop" apos) [] [] p2) pos) δ N R := .of (ps_set hNd hj hx (pe_bm0 PySem.F.plainAttrs_list PySem.F.slot_list_pop PySem.F.type_list_pop mt_pop (pe_var hN hv hd hcd) hbase hline) hs hf) fun σ F H r D hn hr => by
  obtain ⟨u, hu, a, vs, rfl, hB, hF, hH, hdd⟩ := r.cell i _ hi
  have hl := dpAll_len hdd
  rw [List.length_append] at hl
  obtain ⟨v, hv2, dv⟩ := dpAll_get (i := xs.length) (d := z) hdd (by simp)
  refine ⟨.ref a, hu, .inl ⟨rfl, vs, .inl (.inl hH)⟩, a, vs, v, rfl, rfl, hH, ?_, ?_⟩
  · rw [hl]; simpa using hv2
  · have hdl := dpAll_dropLast hdd
    rw [List.dropLast_concat] at hdl
    have r2 : Rep (bs X B) (δ.put i (.own xs)) σ F (upd H a (.lst vs.dropLast)) := r.write (c2 := .own xs) hi rfl hu hB hF rfl ⟨a, vs.dropLast, rfl, hB, hF, upd_same, hdl⟩
    exact hn _ _ F _ (Same.refl F) (r2.putD j dv) h
end
end DL

set_option maxHeartbeats 200000
set_option Elab.async false
set_option linter.all false
set_option maxRecDepth 100000
namespace DL
open PySem PySem.Spec PyProof.Rows L2

/-! ### what is walked -/
/-- J walks the things xs -/
structure Wk (w : World) (K : PySem.W.Frag) (J : It) (xs : List PyData) (F : Hp) : Prop where
  stop : ∀ (B : Bs) i δ σ F' H, B.w = w → B.K = K → Same F F' → Rep B δ σ F' H → xs.length ≤ i → J.stop i H
  go : ∀ (B : Bs) i δ σ F' H, B.w = w → B.K = K → Same F F' → Rep B δ σ F' H → i < xs.length → J.go i H
  yld : ∀ (B : Bs) i δ σ F' H v H' y, B.w = w → B.K = K → Same F F' → Rep B δ σ F' H → xs[i]? = some y → J.yld i H v H' →
    ∃ F2, Same F' F2 ∧ Rep B δ σ F2 H' ∧ Same H H' ∧ (∀ b, F' b = none → H b ≠ none → F2 b = none) ∧ Dq K F2 v y
structure WkB (B : Bs) (J : It) (xs : List PyData) (F : Hp) : Prop where
  stop : ∀ i δ σ F' H, Same F F' → Rep B δ σ F' H → xs.length ≤ i → J.stop i H
  go : ∀ i δ σ F' H, Same F F' → Rep B δ σ F' H → i < xs.length → J.go i H
  yld : ∀ i δ σ F' H v H' y, Same F F' → Rep B δ σ F' H → xs[i]? = some y → J.yld i H v H' →
    ∃ F2, Same F' F2 ∧ Rep B δ σ F2 H' ∧ Same H H' ∧ (∀ b, F' b = none → H b ≠ none → F2 b = none) ∧ Dq B.K F2 v y
theorem Wk.at {B : Bs} {J : It} {xs : List PyData} {F : Hp} (w : Wk B.w B.K J xs F) : WkB B J xs F :=
  ⟨fun i δ σ F' H e r h => w.stop B i δ σ F' H rfl rfl e r h, fun i δ σ F' H e r h => w.go B i δ σ F' H rfl rfl e r h, fun i δ σ F' H v H' y e r h hy => w.yld B i δ σ F' H v H' y rfl rfl e r h hy⟩
def WI (B : Bs) (wi : TI) (δ : St') (Ψ : List PyData → St' → Prop) : Prop := ∀ σ F H, Rep B δ σ F H → ∀ R : It → Hp → Prop, (∀ J xs δ' F' H', Same F F' → Rep B δ' σ F' H' → WkB B J xs F' → Ψ xs δ' → R J H') → wi σ H R
theorem seqL_len {K : PySem.W.Frag} {F : Hp} {vs : List V} {ds : List PyData} (h : DqAll K F vs ds) : vs.length = ds.length := dpAll_len h
theorem wk_list {w : World} {K : PySem.W.Frag} {a : Addr} {vs : List V} {xs : List PyData} {F : Hp} (hs : SqL K F a vs) (ha : DqAll K F vs xs) : Wk w K (Itl K a) xs F where
  stop := fun B i δ σ F' H _ _ e r h => ⟨vs, (e.trans r.ex).seq hs, by rw [dpAll_len ha]; exact h⟩
  go := fun B i δ σ F' H _ _ e r h => by
    obtain ⟨v, hv, _⟩ := dpAll_get ha (List.getElem?_eq_getElem h)
    exact ⟨vs, v, (e.trans r.ex).seq hs, hv⟩
  yld := fun B i δ σ F' H v H' y _ _ e r h hy => by
    obtain ⟨e1, e2⟩ := hy
    subst e1
    obtain ⟨v', hv, hd⟩ := dpAll_get ha h
    have q := e2 vs ((e.trans r.ex).seq hs)
    rw [hv] at q
    injection q with q
    subst q
    exact ⟨F', Same.refl _, r, Same.refl _, fun b z _ => z, dp_mono e _ _ hd⟩
theorem wk_tup {w : World} {K : PySem.W.Frag} {a : Addr} {vs : List V} {xs : List PyData} {F : Hp} (hs : SqT K F a vs) (ha : DqAll K F vs xs) : Wk w K (Itt K a) xs F where
  stop := fun B i δ σ F' H _ _ e r h => ⟨vs, seqT (e.trans r.ex) hs, by rw [dpAll_len ha]; exact h⟩
  go := fun B i δ σ F' H _ _ e r h => by
    obtain ⟨v, hv, _⟩ := dpAll_get ha (List.getElem?_eq_getElem h)
    exact ⟨vs, v, seqT (e.trans r.ex) hs, hv⟩
  yld := fun B i δ σ F' H v H' y _ _ e r h hy => by
    obtain ⟨e1, e2⟩ := hy
    subst e1
    obtain ⟨v', hv, hd⟩ := dpAll_get ha h
    have q := e2 vs (seqT (e.trans r.ex) hs)
    rw [hv] at q
    injection q with q
    subst q
    exact ⟨F', Same.refl _, r, Same.refl _, fun b z _ => z, dp_mono e _ _ hd⟩
/-- lo, lo + 1, .. -/
def rng (lo : Int) (n : Nat) : List PyData := (List.range n).map fun i => PyData.int (lo + (i : Nat))
theorem rng_len {lo : Int} {n : Nat} : (rng lo n).length = n := by simp [rng]
theorem rng_get {lo : Int} {n i : Nat} {y : PyData} (h : (rng lo n)[i]? = some y) : i < n ∧ y = .int (lo + (i : Nat)) := by
  have hl : i < n := by
    have := (List.getElem?_eq_some_iff.mp h).1
    rwa [rng_len] at this
  refine ⟨hl, ?_⟩
  simp [rng, hl] at h
  exact h.symm
theorem wk_rng {w : World} {K : PySem.W.Frag} {lo : Int} {n : Nat} {F : Hp} : Wk w K (Itr lo n) (rng lo n) F where
  stop := fun B i δ σ F' H _ _ e r h => by rw [rng_len] at h; exact h
  go := fun B i δ σ F' H _ _ e r h => by rw [rng_len] at h; exact h
  yld := fun B i δ σ F' H v H' y _ _ e r h hy => by
    obtain ⟨e1, e2⟩ := hy
    subst e1 e2
    obtain ⟨_, rfl⟩ := rng_get h
    exact ⟨F', Same.refl _, r, Same.refl _, fun b z _ => z, .int _⟩
/-- a new tuple at each turn -/
theorem Rep.newT {B : Bs} {δ : St'} {σ : List (Option V)} {F H : Hp} (r : Rep B δ σ F H) {T : Addr} (hT : H T = none) {vs : List V} {ds : List PyData} (hd : DqAll B.K F vs ds) : ∃ F2, Same F F2 ∧ Rep B δ σ F2 (upd H T (.tup vs)) ∧ Same H (upd H T (.tup vs)) ∧
    (∀ b, F b = none → H b ≠ none → F2 b = none) ∧ Dq B.K F2 (.ref T) (.tuple ds) := by
  have hF : F T = none := r.ex.free hT
  refine ⟨upd F T (.tup vs), same_upd hF, r.new hT _, same_upd hT, fun b h1 h2 => ?_, .tup (.inl (.inl upd_same)) (dpAll_mono (same_upd hF) _ _ hd)⟩
  have hb : b ≠ T := fun z => h2 (by rw [z]; exact hT)
  rw [upd_ne hb]
  exact h1
def enumD (xs : List PyData) : List PyData := xs.zipIdx.map fun p => PyData.tuple [.int (p.2 : Nat), p.1]
theorem enum_len {xs : List PyData} : (enumD xs).length = xs.length := by simp [enumD]
theorem enum_get {xs : List PyData} {i : Nat} {y : PyData} (h : (enumD xs)[i]? = some y) : ∃ x, xs[i]? = some x ∧ y = .tuple [.int (i : Nat), x] := by
  simp only [enumD, List.getElem?_map, List.getElem?_zipIdx, Option.map_eq_some_iff] at h
  obtain ⟨p, ⟨x, hx, rfl⟩, rfl⟩ := h
  exact ⟨x, hx, by simp⟩
theorem wk_enum {w : World} {K : PySem.W.Frag} {a : Addr} {vs : List V} {xs : List PyData} {F : Hp} (hs : SqL K F a vs) (ha : DqAll K F vs xs) : Wk w K (Ite K a) (enumD xs) F where
  stop := fun B i δ σ F' H _ _ e r h => ⟨vs, (e.trans r.ex).seq hs, by rw [dpAll_len ha]; rw [enum_len] at h; exact h⟩
  go := fun B i δ σ F' H _ _ e r h => by
    rw [enum_len] at h
    obtain ⟨v, hv, _⟩ := dpAll_get ha (List.getElem?_eq_getElem h)
    exact ⟨vs, v, (e.trans r.ex).seq hs, hv⟩
  yld := fun B i δ σ F' H v H' y hw hK e r h hy => by
    obtain ⟨T, x, rfl, hT, rfl, hx⟩ := hy
    obtain ⟨d, hd, rfl⟩ := enum_get h
    obtain ⟨v', hv, dv⟩ := dpAll_get ha hd
    have q := hx vs ((e.trans r.ex).seq hs)
    rw [hv] at q
    injection q with q
    subst q
    subst hK
    exact r.newT hT (.cons (.int _) (.cons (dp_mono e _ _ dv) .nil))
def zipD (xs ys : List PyData) : List PyData := (xs.zip ys).map fun p => PyData.tuple [p.1, p.2]
theorem zip_len {xs ys : List PyData} : (zipD xs ys).length = min xs.length ys.length := by simp [zipD]
theorem zip_get {xs ys : List PyData} {i : Nat} {z : PyData} (h : (zipD xs ys)[i]? = some z) : ∃ x y, xs[i]? = some x ∧ ys[i]? = some y ∧ z = .tuple [x, y] := by
  simp only [zipD, List.getElem?_map, Option.map_eq_some_iff] at h
  obtain ⟨p, hp, rfl⟩ := h
  have := List.getElem?_zip_eq_some.mp hp
  exact ⟨p.1, p.2, this.1, this.2, rfl⟩
section
variable {B : Bs} {te : TE} {ta : TA} {δ : St'} {Ψ : List PyData → St' → Prop}
theorem wi_list (h : WE B te δ fun x δ' => ∃ xs, x = .list xs ∧ Ψ xs δ') : WI B (iList B.K te) δ Ψ := fun σ F H r R q => h σ F H r _ fun v x δ' F' H' e r' d ⟨xs, hx, p⟩ => by
  subst hx
  cases d with
  | lst hs ha => exact ⟨_, rfl, ⟨_, r'.ex.seq hs⟩, q _ xs δ' F' H' e r' (Wk.at (wk_list hs ha)) p⟩
theorem wi_tup (h : WE B te δ fun x δ' => ∃ xs, x = .tuple xs ∧ Ψ xs δ') : WI B (iTup B.K te) δ Ψ := fun σ F H r R q => h σ F H r _ fun v x δ' F' H' e r' d ⟨xs, hx, p⟩ => by
  subst hx
  cases d with
  | tup hs ha => exact ⟨_, rfl, ⟨_, seqT r'.ex hs⟩, q _ xs δ' F' H' e r' (Wk.at (wk_tup hs ha)) p⟩
theorem wi_rng1 (h : WA B ta δ fun ds δ' => ∃ j : Int, ds = [.int j] ∧ -(2 ^ 62) ≤ j ∧ j < 2 ^ 62 ∧ Ψ (rng 0 j.toNat) δ') : WI B (iRng1 ta) δ Ψ := fun σ F H r R q => h σ F H r _ fun vs x δ' F' H' e r' d ⟨j, hx, h1, h2, p⟩ => by
  subst hx
  cases d with
  | cons d1 d2 =>
    cases d2
    cases d1
    exact ⟨j, rfl, h1, h2, q _ _ δ' F' H' e r' (Wk.at wk_rng) p⟩
theorem wi_rng2 (h : WA B ta δ fun ds δ' => ∃ i j : Int, ds = [.int i, .int j] ∧ (-(2 ^ 62) ≤ i ∧ i < 2 ^ 62 ∧ -(2 ^ 62) ≤ j ∧ j < 2 ^ 62) ∧ Ψ (rng i (j - i).toNat) δ') : WI B (iRng2 ta) δ Ψ := fun σ F H r R q => h σ F H r _ fun vs x δ' F' H' e r' d ⟨i, j, hx, h1, p⟩ => by
  subst hx
  cases d with
  | cons d1 d2 =>
    cases d2 with
    | cons d2 d3 =>
      cases d3
      cases d1
      cases d2
      exact ⟨i, j, rfl, h1, q _ _ δ' F' H' e r' (Wk.at wk_rng) p⟩
theorem wi_enum (h : WA B ta δ fun ds δ' => ∃ xs, ds = [.list xs] ∧ Ψ (enumD xs) δ') : WI B (iEnum B.K ta) δ Ψ := fun σ F H r R q => h σ F H r _ fun vs x δ' F' H' e r' d ⟨xs, hx, p⟩ => by
  subst hx
  cases d with
  | cons d1 d2 =>
    cases d2
    cases d1 with
    | lst hs ha => exact ⟨_, _, rfl, r'.ex.seq hs, q _ _ δ' F' H' e r' (Wk.at (wk_enum hs ha)) p⟩
end

/-! ### targets -/
def WG (B : Bs) (g : TG) (ix : List Nat) (y : PyData) (δ : St') (K : St' → Prop) : Prop := ∀ σ F H, Rep B δ σ F H → ∀ v, Dq B.K F v y → ∀ Q : List (Option V) → Hp → Prop,
  (∀ δ' σ', Rep B δ' σ' F H → (∀ j, j ∉ ix → σ'[j]? = σ[j]?) → σ'.length = σ.length → K δ' → Q σ' H) → g v σ H Q
def WGs (B : Bs) (g : TGs) (ix : List Nat) (ys : List PyData) (δ : St') (K : St' → Prop) : Prop := ∀ σ F H, Rep B δ σ F H → ∀ vs, DqAll B.K F vs ys → ∀ Q : List (Option V) → Hp → Prop,
  (∀ δ' σ', Rep B δ' σ' F H → (∀ j, j ∉ ix → σ'[j]? = σ[j]?) → σ'.length = σ.length → K δ' → Q σ' H) → g vs σ H Q
section
variable {B : Bs} {δ : St'} {K : St' → Prop} {y : PyData} {ys : List PyData} {ix : List Nat}
theorem wg_name {i : Nat} (p : K (δ.put i (.d y))) (hi : i ∈ ix := by decide) : WG B (gName i) ix y δ K := fun σ F H r v d Q q =>
  q _ _ (r.putD i d) (fun j hj => List.getElem?_set_ne (fun z : i = j => hj (by rw [← z]; exact hi))) (by simp) p
theorem wgs_nil (p : K δ) : WGs B gNil ix [] δ K := fun σ F H r vs d Q q => by
  cases d
  exact ⟨rfl, q δ σ r (fun _ _ => rfl) rfl p⟩
theorem wgs_cons {g : TG} {u : TGs} (h : WG B g ix y δ fun δ' => WGs B u ix ys δ' K) : WGs B (gCons g u) ix (y :: ys) δ K := fun σ F H r vs d Q q => by
  cases d with
  | cons d1 d2 =>
    exact ⟨_, _, rfl, h σ F H r _ d1 _ fun δ' σ' r' h1 h2 p => p σ' F H r' _ d2 Q fun δ2 σ2 r2 k1 k2 p2 => q δ2 σ2 r2 (fun j hj => (k1 j hj).trans (h1 j hj)) (k2.trans h2) p2⟩
theorem wg_tup {n : Nat} {u : TGs} (h : WGs B u ix ys δ K) (hn : ys.length = n := by rfl) : WG B (gTup B.K n u) ix (.tuple ys) δ K := fun σ F H r v d Q q => by
  cases d with
  | tup hs ha => exact ⟨_, _, rfl, seqT r.ex hs, by rw [dpAll_len ha]; exact hn, h σ F H r _ ha Q q⟩
end

/-! ### loops -/
section
variable {B : Bs} {wi : TI} {g : TG} {tb : TS} {tt : TT} {δ : St'} {N : St' → Prop} {R : PE1} {ix : List Nat}
theorem ws_for (h : WI B wi δ fun xs δ1 => ∃ I : Nat → St' → Prop, I 0 δ1 ∧ (∀ i y δ2, xs[i]? = some y → I i δ2 → WG B g ix y δ2 fun δ3 => WS B tb δ3 (I (i + 1)) R) ∧ ∀ δ2, I xs.length δ2 → N δ2) : WS B (tFor wi g tb) δ N R := fun σ F H r D hn hr =>
  h σ F H r _ fun J xs δ1 F1 H1 e1 r1 w ⟨I, h0, hs, hd⟩ => by
    refine ⟨fun i m σ' H' => i + m = xs.length ∧ ∃ δ2 F2, Same F1 F2 ∧ Rep B δ2 σ' F2 H' ∧ I i δ2, ⟨xs.length, by simp, δ1, F1, Same.refl _, r1, h0⟩, fun i m σ2 H2 hW => ?_⟩
    obtain ⟨em, δ2, F2, e2, r2, hi⟩ := hW
    by_cases hlt : i < xs.length
    · refine .inr ⟨w.go i δ2 σ2 F2 H2 e2 r2 hlt, fun σ' H' => ∃ δ3 F3, Same F1 F3 ∧ Rep B δ3 σ' F3 H' ∧ I (i + 1) δ3, fun σ' H' q => ⟨m - 1, by omega, by omega, q⟩, fun x H' hy => ?_⟩
      obtain ⟨F3, e3, r3, _, _, d3⟩ := w.yld i δ2 σ2 F2 H2 x H' xs[i] e2 r2 (List.getElem?_eq_getElem hlt) hy
      refine hs i xs[i] δ2 (List.getElem?_eq_getElem hlt) hi σ2 F3 H' r3 x d3 _ fun δ4 σ4 r4 _ _ p4 => ?_
      exact p4 σ4 F3 H' r4 _ (fun δ5 σ5 F5 H5 e5 r5 p5 => ⟨δ5, F5, (e2.trans e3).trans e5, r5, p5⟩) fun v z δ5 σ5 F5 H5 e5 r5 d5 p5 => hr v z δ5 σ5 F5 H5 (((e1.trans e2).trans e3).trans e5) r5 d5 p5
    · have : i = xs.length := by omega
      subst this
      exact .inl ⟨w.stop _ δ2 σ2 F2 H2 e2 r2 (Nat.le_refl _), hn δ2 σ2 F2 H2 (e1.trans e2) r2 (hd δ2 hi)⟩
theorem ws_while (I : Nat → St' → Prop) {m0 : Nat} (h0 : I m0 δ) (hs : ∀ m δ', I m δ' → WT B tt δ' fun b δ2 => if b = true then WS B tb δ2 (fun δ3 => ∃ m', m' < m ∧ I m' δ3) R else N δ2) : WS B (tWhile tt tb) δ N R := fun σ F H r D hn hr => by
  refine ⟨fun m σ' H' => ∃ δ2 F2, Same F F2 ∧ Rep B δ2 σ' F2 H' ∧ I m δ2, ⟨m0, δ, F, Same.refl _, r, h0⟩, fun m σ1 H1 hW => ?_⟩
  obtain ⟨δ1, F1, e1, r1, hi⟩ := hW
  refine hs m δ1 hi σ1 F1 H1 r1 _ fun b δ2 F2 H2 e2 r2 p => ?_
  cases b with
  | true =>
    refine iteT ⟨fun σ' H' => ∃ m', m' < m ∧ ∃ δ3 F3, Same F F3 ∧ Rep B δ3 σ' F3 H' ∧ I m' δ3, fun σ' H' q => q, ?_⟩
    exact (show WS B tb δ2 _ R from p) σ1 F2 H2 r2 _ (fun δ5 σ5 F5 H5 e5 r5 ⟨m', hm, p5⟩ => ⟨m', hm, δ5, F5, (e1.trans e2).trans e5, r5, p5⟩) fun v z δ5 σ5 F5 H5 e5 r5 d5 p5 => hr v z δ5 σ5 F5 H5 ((e1.trans e2).trans e5) r5 d5 p5
  | false => exact iteF (hn δ2 σ1 F2 H2 (e1.trans e2) r2 p)
end
section
variable {B : B0} {X : Cx} {a b c e tg iter : Expr} {es : List Expr} {st : Stmt} {rest body : List Stmt} {δ : St'} {N : St' → Prop} {Φ R : PE1} {pos p2 p3 : Pos} {wi : TI} {g : TG} {ix : List Nat}
theorem ds_for (ix : List Nat) (hi : PI X tg iter wi) (hg : PG X tg g) (h : WI (bs X B) wi δ fun xs δ1 => ∃ I : Nat → St' → Prop, I 0 δ1 ∧ (∀ i y δ2, xs[i]? = some y → I i δ2 → WG (bs X B) g ix y δ2 fun δ3 => DSs B X body δ3 (I (i + 1)) R) ∧ ∀ δ2, I xs.length δ2 → N δ2)
    (hc : X.calm = true := by rfl) (hp : PassesOwn (model X.prog X.w) X.A X.env X.xe := by exact PassesOwn.never) (hs : ∀ x, foldedSetIterable iter X.env x = pure x := by intro _; rfl) : DS B X (.For tg iter body [] pos) δ N R := .of (ps_for hp hc hi hg pss_w hs) (ws_for h)
theorem ds_while (I : Nat → St' → Prop) {m0 : Nat} (h0 : I m0 δ) (h : ∀ m δ', I m δ' → DT B X c δ' fun k δ2 => if k = true then DSs B X body δ2 (fun δ3 => ∃ m', m' < m ∧ I m' δ3) R else N δ2)
    (hp : PassesOwn (model X.prog X.w) X.A X.env X.xe := by exact PassesOwn.never) : DS B X (.While c body [] pos) δ N R := .of (ps_while hp pt_w pss_w) (ws_while I h0 h)
/-- a, b, .. = e -/
theorem ds_unpack (ix : List Nat) (hg : PG X tg g) (h : DE B X e δ fun d δ' => WG (bs X B) g ix d δ' N) (hs : swapsWithSole [tg] e pos.line X.env = pure false := by rfl) (hw : swappedStores [tg] e X.env = pure none := by rfl)
    (h1 : (assignEach [tg] X.env).map (·.2) = [assign tg X.env] := by rfl) : DS B X (.Assign [tg] e pos) δ N R := .of (ps_asg pe_w hg hs hw h1) fun σ F H r D hn hr =>
  h σ F H r _ fun v x δ' F' H' e r' d p => p σ F' H' r' v d _ fun δ2 σ2 r2 _ _ p2 => hn δ2 σ2 F' H' e r2 p2
/-- the truth of a thing -/
def truD : PyData → Option Bool
  | .none => some false
  | .bool b => some b
  | .int i => some (i != 0)
  | .list xs => some (!xs.isEmpty)
  | .tuple xs => some (!xs.isEmpty)
  | _ => none
theorem isEmpty_dp {K : PySem.W.Frag} {F : Hp} {vs : List V} {ds : List PyData} (h : DqAll K F vs ds) : vs.isEmpty = ds.isEmpty := by
  cases h <;> rfl
theorem dt_truth {Φ : Bool → St' → Prop} (h : DE B X a δ fun x δ' => ∃ k, truD x = some k ∧ Φ k δ') (he : ∀ whole, isTrue a X.env whole = (do let v ← whole; standAt a.pos; holding [v] (truthy v)) := by intro _; rfl) : DT B X a δ Φ := .of (pt_truth pe_w he) fun σ F H r Q q =>
  h σ F H r _ fun v x δ' F' H' e r' d ⟨k, hk, p⟩ => by
    refine ⟨k, ?_, q k δ' F' H' e r' p⟩
    cases d with
    | non => injection hk with hk; exact hk.symm
    | bl b => injection hk with hk; exact hk.symm
    | int i => injection hk with hk; exact hk.symm
    | str s => cases hk
    | lst hs ha => injection hk with hk; exact .inl ⟨_, r'.ex.seq hs, by rw [isEmpty_dp ha]; exact hk.symm⟩
    | tup hs ha => injection hk with hk; exact .inr (.inl ⟨_, seqT r'.ex hs, by rw [isEmpty_dp ha]; exact hk.symm⟩)
    | hd a => cases hk
end
end DL

set_option maxHeartbeats 200000
set_option Elab.async false
set_option linter.all false
set_option maxRecDepth 100000
namespace DL
open PySem PySem.Spec PyProof.Rows L2

/-! ### comprehensions -/
def strip : Option C → Option C
  | some (.own _) => none | some (.dct _) => none | some (.iset _) => none | c => c
def inn (vs : List Nat) : Nat → List (Option C) → List (Option C)
  | _, [] => []
  | j, c :: r => (if vs.contains j then none else strip c) :: inn vs (j + 1) r
theorem inn_get {vs : List Nat} : ∀ {s : List (Option C)} {j k : Nat}, (inn vs j s)[k]? = (s[k]?).map fun c => if vs.contains (j + k) then none else strip c
  | [], j, k => by simp [inn]
  | c :: r, j, 0 => by simp [inn]
  | c :: r, j, k + 1 => by
    have := inn_get (vs := vs) (s := r) (j := j + 1) (k := k)
    simp only [inn, List.getElem?_cons_succ, this]
    rw [show j + 1 + k = j + (k + 1) by omega]
theorem inn_len {vs : List Nat} : ∀ {s : List (Option C)} {j : Nat}, (inn vs j s).length = s.length
  | [], j => rfl
  | c :: r, j => by simp [inn, inn_len]
theorem wipe_out {σ : List (Option V)} {j : Nat} : ∀ {vs : List Nat}, j ∉ vs → (wipe σ vs)[j]? = σ[j]?
  | [], _ => rfl
  | v :: vs, h => by
    unfold wipe
    rw [List.getElem?_set_ne (fun z => h (by simp [z]))]
    exact wipe_out fun z => h (List.mem_cons_of_mem _ z)
theorem wipe_in {σ : List (Option V)} {j : Nat} : ∀ {vs : List Nat}, j ∈ vs → j < σ.length → (wipe σ vs)[j]? = some none
  | [], h, _ => by simp at h
  | v :: vs, h, hl => by
    unfold wipe
    by_cases e : v = j
    · subst e
      rw [List.getElem?_set, if_pos rfl, if_pos (by rw [wipe_length]; exact hl)]
    · rw [List.getElem?_set_ne e]
      rcases List.mem_cons.mp h with z | z
      · exact absurd z.symm e
      · exact wipe_in z hl
theorem wipe_same {σ σ' : List (Option V)} {vs : List Nat} (h : ∀ j, j ∉ vs → σ'[j]? = (wipe σ vs)[j]?) (hl : σ'.length = (wipe σ vs).length) : wipe σ' vs = wipe σ vs := by
  apply List.ext_getElem?
  intro j
  by_cases e : j ∈ vs
  · by_cases hj : j < σ.length
    · rw [wipe_in e (by rw [hl, wipe_length]; exact hj), wipe_in e hj]
    · rw [List.getElem?_eq_none (by rw [wipe_length, hl, wipe_length]; omega), List.getElem?_eq_none (by rw [wipe_length]; omega)]
  · rw [wipe_out e, h j e, wipe_out e]
/-- within a call, a block: all that stands is kept -/
theorem Rep.inner {B : Bs} {δ : St'} {σ : List (Option V)} {F H : Hp} (r : Rep B δ σ F H) (vs : List Nat) : Rep ⟨⟨F, H, B.p, B.m⟩, B.w, B.K⟩ ⟨δ.n, inn vs 0 δ.s⟩ (wipe σ vs) F H := by
  refine ⟨r.ex, Same.refl _, fun b h1 _ => h1, fun b o h _ => h, fun a h => ⟨r.potF h, ?_, (r.pot a h).2.2⟩, fun i c h => ?_, ?_, fun i j c c' hij h1 h2 o1 o2 => ?_⟩
  · obtain ⟨_, _, x, y, z, h3, _⟩ := r.pot a h
    show H a ≠ none
    rw [h3]; exact fun z => by cases z
  · have h' : (inn vs 0 δ.s)[i]? = some (some c) := h
    rw [inn_get] at h'
    rw [Option.map_eq_some_iff] at h'
    obtain ⟨c0, h0, h1⟩ := h'
    by_cases hv : vs.contains (0 + i)
    · rw [if_pos hv] at h1; cases h1
    · rw [if_neg hv] at h1
      have hni : i ∉ vs := fun z => hv (by rw [Nat.zero_add]; exact List.contains_iff_mem.mpr z)
      rcases c0 with _ | c0
      · cases h1
      · cases c0 with
        | own _ => cases h1
        | dct _ => cases h1
        | iset _ => cases h1
        | d x =>
          injection h1 with h1
          subst h1
          obtain ⟨v, hv, hc⟩ := r.cell i _ h0
          exact ⟨v, by rw [wipe_out hni]; exact hv, hc⟩
        | pot =>
          injection h1 with h1
          subst h1
          obtain ⟨v, hv, hc⟩ := r.cell i _ h0
          exact ⟨v, by rw [wipe_out hni]; exact hv, hc⟩
        | bor =>
          injection h1 with h1
          subst h1
          obtain ⟨v, hv, hc⟩ := r.cell i _ h0
          exact ⟨v, by rw [wipe_out hni]; exact hv, hc⟩
  · rw [wipe_length, inn_len]; exact r.len
  · have h' : (inn vs 0 δ.s)[i]? = some (some c) := h1
    rw [inn_get, Option.map_eq_some_iff] at h'
    obtain ⟨c0, _, e⟩ := h'
    by_cases hv : vs.contains (0 + i)
    · rw [if_pos hv] at e; cases e
    · rw [if_neg hv] at e
      rcases c0 with _ | c0
      · cases e
      · cases c0 <;> simp [strip] at e <;> (subst e; cases o1)
/-- .. and behind it -/
theorem Rep.outer {B : Bs} {δ δ' : St'} {σ σ' : List (Option V)} {F H F' H' : Hp} (r : Rep B δ σ F H) (r' : Rep ⟨⟨F, H, B.p, B.m⟩, B.w, B.K⟩ δ' σ' F' H') : Rep B ⟨δ'.n, δ.s⟩ σ F' H' := by
  have hp : ∀ {b : Addr} {o : HO}, B.H b = some o → H b ≠ none := fun {b o} h => by
    by_cases e : B.p = some b
    · obtain ⟨_, _, x, y, z, h3, _⟩ := r.pot b e
      rw [h3]; exact fun z => by cases z
    · rw [r.kp b o h e]; exact fun z => by cases z
  refine ⟨r'.ex, r.f0.trans r'.f0, fun b h1 h2 => ?_, fun b o h1 h2 => r'.kp b o (r.kp b o h1 h2) h2, fun a h => ⟨(r.pot a h).1, (r.pot a h).2.1, (r'.pot a h).2.2⟩, fun i c h => ?_, r.len, r.ap⟩
  · cases q : B.H b with
    | none => exact absurd q h2
    | some o => exact r'.fr b (r.fr b h1 h2) (hp q)
  · obtain ⟨v, hv, hc⟩ := r.cell i c h
    refine ⟨v, hv, ?_⟩
    have keep : ∀ {a : Addr} {o : HO}, B.H a = none → H a = some o → H' a = some o := fun {a o} h1 h2 => r'.kp a o h2 fun z => (r.pot a z).2.1 h1
    cases c with
    | d x => exact dp_mono r'.f0 _ _ hc
    | own xs =>
      obtain ⟨a, vs, e, h1, h2, h3, h4⟩ := hc
      exact ⟨a, vs, e, h1, r'.fr a h2 (by show H a ≠ none; rw [h3]; exact fun z => by cases z), keep h1 h3, dpAll_mono r'.f0 _ _ h4⟩
    | dct kvs =>
      obtain ⟨a, vs, e, h1, h2, h3, h4⟩ := hc
      exact ⟨a, vs, e, h1, r'.fr a h2 (by show H a ≠ none; rw [h3]; exact fun z => by cases z), keep h1 h3, dpAll_mono r'.f0 _ _ h4⟩
    | iset ns =>
      obtain ⟨a, e, h1, h2, h3⟩ := hc
      exact ⟨a, e, h1, r'.fr a h2 (by show H a ≠ none; rw [h3]; exact fun z => by cases z), keep h1 h3⟩
    | pot => exact hc
    | bor => exact hc
theorem Rep.fresh {B : Bs} {δ : St'} {σ : List (Option V)} {F H : Hp} (r : Rep B δ σ F H) {a : Addr} (h : H a = none) : B.H a = none ∧ F a = none ∧ B.p ≠ some a ∧ ∀ (i : Nat) (c : C), δ.s[i]? = some (some c) → own? c = true → σ[i]? ≠ some (some (.ref a)) := by
  have hB : B.p ≠ some a := fun z => by
    obtain ⟨_, _, _, _, _, h3, _⟩ := r.pot a z
    rw [h] at h3; cases h3
  refine ⟨?_, r.ex.free h, hB, fun i c hi ho hs => ?_⟩
  · cases e : B.H a with
    | none => rfl
    | some o => rw [r.kp a o e hB] at h; cases h
  · obtain ⟨v, hv, hc⟩ := r.cell i c hi
    rw [hv] at hs
    cases hs
    cases c with
    | d x => cases ho
    | pot => cases ho
    | bor => cases ho
    | own xs =>
      obtain ⟨b, vs, e, _, _, h3, _⟩ := hc
      cases e
      rw [h] at h3; cases h3
    | dct kvs =>
      obtain ⟨b, vs, e, _, _, h3, _⟩ := hc
      cases e
      rw [h] at h3; cases h3
    | iset ns =>
      obtain ⟨b, e, _, _, h3⟩ := hc
      cases e
      rw [h] at h3; cases h3
/-- an object that nobody tells of changes, or comes -/
theorem Rep.side {B : Bs} {δ : St'} {σ : List (Option V)} {F H : Hp} (r : Rep B δ σ F H) {a : Addr} {o : HO} (hF : F a = none) (hB : B.H a = none) (hap : ∀ (i : Nat) (c : C), δ.s[i]? = some (some c) → own? c = true → σ[i]? ≠ some (some (.ref a))) : Rep B δ σ F (upd H a o) := by
  refine ⟨fun b u h => ?_, r.f0, r.fr, fun b u h1 h2 => ?_, fun p h => ?_, fun i c h => ?_, r.len, r.ap⟩
  · have hb : b ≠ a := fun z => by rw [z, hF] at h; cases h
    rw [upd_ne hb]; exact r.ex b u h
  · have hb : b ≠ a := fun z => by rw [z, hB] at h1; cases h1
    rw [upd_ne hb]; exact r.kp b u h1 h2
  · obtain ⟨h1, h2, x, y, z, h3, h4⟩ := r.pot p h
    have hb : p ≠ a := fun q => h2 (by rw [q]; exact hB)
    exact ⟨h1, h2, x, y, z, by rw [upd_ne hb]; exact h3, h4⟩
  · obtain ⟨v, hv, hc⟩ := r.cell i c h
    refine ⟨v, hv, ?_⟩
    cases c with
    | d x => exact hc
    | own xs =>
      obtain ⟨b, vs, e, h1, h2, h3, h4⟩ := hc
      subst e
      have hb : b ≠ a := fun q => hap i _ h rfl (by rw [hv, q])
      exact ⟨b, vs, rfl, h1, h2, by rw [upd_ne hb]; exact h3, h4⟩
    | dct kvs =>
      obtain ⟨b, vs, e, h1, h2, h3, h4⟩ := hc
      subst e
      have hb : b ≠ a := fun q => hap i _ h rfl (by rw [hv, q])
      exact ⟨b, vs, rfl, h1, h2, by rw [upd_ne hb]; exact h3, h4⟩
    | iset ns =>
      obtain ⟨b, e, h1, h2, h3⟩ := hc
      subst e
      have hb : b ≠ a := fun q => hap i _ h rfl (by rw [hv, q])
      exact ⟨b, rfl, h1, h2, by rw [upd_ne hb]; exact h3⟩
    | pot => exact hc
    | bor => exact hc
/-- what a block's begin knows of the begin outside -/
def Sub (B B' : B0) : Prop := B'.p = B.p ∧ Same B.F B'.F ∧ (∀ b, B.F b = none → B.H b ≠ none → B'.F b = none) ∧ ∀ b o, B.H b = some o → B.p ≠ some b → B'.H b = some o
theorem wl_lc {B : Bs} {wi : TI} {g : TG} {tt : TT} {te : TE} {vs ix : List Nat} {δ : St'} {Φ : List PyData → St' → Prop} (hix : ∀ j ∈ ix, j ∈ vs)
    (h : WI B wi δ fun xs δ1 => xs.length ≤ 100000 ∧ ∃ I : Nat → List PyData → Nat → Prop, I 0 [] δ1.n ∧
      (∀ (B' : B0) i y acc n, Sub B.toB0 B' → xs[i]? = some y → acc.length ≤ i → I i acc n → WG ⟨B', B.w, B.K⟩ g ix y ⟨n, inn vs 0 δ1.s⟩ fun δ2 => WT ⟨B', B.w, B.K⟩ tt δ2 fun b δ3 =>
        if b = true then WE ⟨B', B.w, B.K⟩ te δ3 fun z δ4 => I (i + 1) (acc ++ [z]) δ4.n else I (i + 1) acc δ3.n) ∧
      ∀ acc n, acc.length ≤ xs.length → I xs.length acc n → Φ acc ⟨n, δ1.s⟩) : WL B (tLc wi g tt te vs) δ Φ := fun σ F H r Q q =>
  h σ F H r _ fun J xs δ1 F1 H1 e1 r1 w ⟨hz, I, h0, hs, hd⟩ D hD => by
    obtain ⟨hB, hF, hp, hap⟩ := r1.fresh hD
    refine ⟨fun i m H2 => i + m = xs.length ∧ ∃ acc n F2 us, Same F1 F2 ∧ Rep B ⟨n, δ1.s⟩ σ F2 H2 ∧ H2 D = some (.lst us) ∧ F2 D = none ∧ DqAll B.K F2 us acc ∧ acc.length ≤ i ∧ I i acc n,
      ⟨xs.length, by simp, [], δ1.n, F1, [], Same.refl _, r1.side hF hB hap, upd_same, hF, .nil, Nat.le_refl _, h0⟩, fun i m H2 hW => ?_⟩
    obtain ⟨em, acc, n, F2, us, e2, r2, hD2, hF2, hus, hl, hi⟩ := hW
    by_cases hlt : i < xs.length
    · refine .inr ⟨w.go i _ σ F2 H2 e2 r2 hlt, fun H' => ∃ acc n F3 us, Same F1 F3 ∧ Rep B ⟨n, δ1.s⟩ σ F3 H' ∧ H' D = some (.lst us) ∧ F3 D = none ∧ DqAll B.K F3 us acc ∧ acc.length ≤ i + 1 ∧ I (i + 1) acc n, fun H' p => ⟨m - 1, by omega, by omega, p⟩, fun x H' hy => ?_⟩
      obtain ⟨F3, e3, r3, s3, f3, d3⟩ := w.yld i _ σ F2 H2 x H' xs[i] e2 r2 (List.getElem?_eq_getElem hlt) hy
      have hD3 : H' D = some (.lst us) := s3 _ _ hD2
      have hF3 : F3 D = none := f3 D hF2 (by rw [hD2]; exact fun z => by cases z)
      have ri := r3.inner vs
      refine hs ⟨F3, H', B.p, B.m⟩ i xs[i] acc n ⟨rfl, r3.f0, r3.fr, r3.kp⟩ (List.getElem?_eq_getElem hlt) hl hi (wipe σ vs) F3 H' ri x d3 _ fun δ2 σ2 r4 k1 k2 p4 => ?_
      refine ⟨wipe_same (fun j hj => k1 j fun z => hj (hix j z)) k2, ?_⟩
      refine p4 σ2 F3 H' r4 _ fun b δ3 F5 H5 e5 r5 p5 => ?_
      have fin : ∀ {δ6 : St'} {F6 H6 : Hp}, Same F3 F6 → Rep ⟨⟨F3, H', B.p, B.m⟩, B.w, B.K⟩ δ6 σ2 F6 H6 → Rep B ⟨δ6.n, δ1.s⟩ σ F6 H6 ∧ H6 D = some (.lst us) ∧ F6 D = none := fun {δ6 F6 H6} e6 r6 =>
        ⟨r3.outer r6, r6.kp D _ hD3 hp, r6.fr D hF3 (by show H' D ≠ none; rw [hD3]; exact fun z => by cases z)⟩
      cases b with
      | true =>
        refine iteT ((show WE _ te δ3 _ from p5) σ2 F5 H5 r5 _ fun v z δ6 F6 H6 e6 r6 d6 p6 => ?_)
        obtain ⟨q1, q2, q3⟩ := fin (e5.trans e6) r6
        refine ⟨us, q2, Nat.lt_of_lt_of_le (Nat.lt_of_le_of_lt (by rw [dpAll_len hus]; exact hl) hlt) (Nat.le_trans hz (by decide)), acc ++ [z], δ6.n, F6, us ++ [v], ((e2.trans e3).trans e5).trans e6, q1.side q3 hB hap, upd_same, q3, dpAll_app (dpAll_mono ((e3.trans e5).trans e6) _ _ hus) (.cons d6 .nil), by simp; omega, p6⟩
      | false =>
        obtain ⟨q1, q2, q3⟩ := fin e5 r5
        exact iteF ⟨acc, δ3.n, F5, us, (e2.trans e3).trans e5, q1, q2, q3, dpAll_mono (e3.trans e5) _ _ hus, by omega, p5⟩
    · have : i = xs.length := by omega
      subst this
      exact .inl ⟨w.stop _ _ σ F2 H2 e2 r2 (Nat.le_refl _), q D us acc ⟨n, δ1.s⟩ F2 H2 (e1.trans e2) r2 hB hF2 hD2 hap hus (hd acc n hl hi)⟩
/-- within a comprehension's block -/
def bE (X : Cx) (scope : Scope) (e : Expr) : TE := fun σ H Q => ∀ s0 H0 C cl fp, wE (X.blk s0 H0 scope (compEnvC scope cl C X.env) fp) e σ H Q
def bT (X : Cx) (scope : Scope) (e : Expr) : TT := fun σ H Q => ∀ s0 H0 C cl fp, wT (X.blk s0 H0 scope (compEnvC scope cl C X.env) fp) e σ H Q
theorem bE_of {B : B0} {X : Cx} {scope : Scope} {e : Expr} {δ : St'} {Φ : PE1} (h : ∀ s0 H0 C cl fp, DE B (X.blk s0 H0 scope (compEnvC scope cl C X.env) fp) e δ Φ) : WE (bs X B) (bE X scope e) δ Φ := fun σ F H r Q q s0 H0 C cl fp => h s0 H0 C cl fp σ F H r Q q
theorem bT_of {B : B0} {X : Cx} {scope : Scope} {e : Expr} {δ : St'} {Φ : Bool → St' → Prop} (h : ∀ s0 H0 C cl fp, DT B (X.blk s0 H0 scope (compEnvC scope cl C X.env) fp) e δ Φ) : WT (bs X B) (bT X scope e) δ Φ := fun σ F H r Q q s0 H0 C cl fp => h s0 H0 C cl fp σ F H r Q q
theorem tYes_of {B : Bs} {δ : St'} {Φ : Bool → St' → Prop} (h : Φ true δ) : WT B tYes δ Φ := fun σ F H r Q q => q true δ F H (Same.refl F) r h
section
variable {B : B0} {X : Cx} {elt cnd tg iter : Expr} {scope : Scope} {own : List (Str × Nat)} {δ : St'} {Φ : List PyData → St' → Prop} {pos : Pos} {wi : TI} {g : TG}
/-- [elt for tg in iter] -/
theorem dl_lc (own : List (Str × Nat)) (hN : X.N.Nodup) (hi : PI X tg iter wi) (ok : BlkOk X.N X.env.scope scope own)
    (hg : ∀ (s : Shared) (H : Hp) (C : Addr) (cl : List (Str × Addr)) (fp : List Addr), PG (X.blk s H scope (compEnvC scope cl C X.env) fp) tg g)
    (h : WI (bs X B) wi δ fun xs δ1 => xs.length ≤ 100000 ∧ ∃ I : Nat → List PyData → Nat → Prop, I 0 [] δ1.n ∧
      (∀ (B' : B0) i y acc n, Sub B B' → xs[i]? = some y → acc.length ≤ i → I i acc n → WG (bs X B') g (own.map (·.2)) y ⟨n, inn (own.map (·.2)) 0 δ1.s⟩ fun δ2 =>
        ∀ s0 H0 C cl fp, DE B' (X.blk s0 H0 scope (compEnvC scope cl C X.env) fp) elt δ2 fun z δ4 => I (i + 1) (acc ++ [z]) δ4.n) ∧
      ∀ acc n, acc.length ≤ xs.length → I xs.length acc n → Φ acc ⟨n, δ1.s⟩) (hc : X.calm = true := by rfl) (hs : ∀ x, foldedSetIterable iter X.env x = pure x := by intro _; rfl) : DLs B X (.ListComp elt [⟨tg, iter, [], 0⟩] scope pos) δ Φ :=
  .of (pe_lc (te := bE X scope elt) hc hN hi ok hg (fun _ _ _ _ _ => pts_nil) (fun s H C cl fp => ⟨fun pins s' σ H' Q I h => h s H C cl fp pins s' I⟩) hs) (wl_lc (fun _ z => z) fun σ F H r R q => h σ F H r R fun J xs δ' F' H' e r' w ⟨hz, I, h0, h1, h2⟩ =>
    q J xs δ' F' H' e r' w ⟨hz, I, h0, fun B' i y acc n hp hy hl hi σ F H r v d Q qq => h1 B' i y acc n hp hy hl hi σ F H r v d Q fun δ2 σ2 r2 k1 k2 p => qq δ2 σ2 r2 k1 k2 (tYes_of (by
      rw [if_pos rfl]
      exact bE_of p)), h2⟩)
/-- [elt for tg in iter if cnd] -/
theorem dl_lcIf (own : List (Str × Nat)) (hN : X.N.Nodup) (hi : PI X tg iter wi) (ok : BlkOk X.N X.env.scope scope own)
    (hg : ∀ (s : Shared) (H : Hp) (C : Addr) (cl : List (Str × Addr)) (fp : List Addr), PG (X.blk s H scope (compEnvC scope cl C X.env) fp) tg g)
    (h : WI (bs X B) wi δ fun xs δ1 => xs.length ≤ 100000 ∧ ∃ I : Nat → List PyData → Nat → Prop, I 0 [] δ1.n ∧
      (∀ (B' : B0) i y acc n, Sub B B' → xs[i]? = some y → acc.length ≤ i → I i acc n → WG (bs X B') g (own.map (·.2)) y ⟨n, inn (own.map (·.2)) 0 δ1.s⟩ fun δ2 =>
        ∀ s0 H0 C cl fp, DT B' (X.blk s0 H0 scope (compEnvC scope cl C X.env) fp) cnd δ2 fun b δ3 => if b = true then ∀ s0 H0 C cl fp, DE B' (X.blk s0 H0 scope (compEnvC scope cl C X.env) fp) elt δ3 fun z δ4 => I (i + 1) (acc ++ [z]) δ4.n else I (i + 1) acc δ3.n) ∧
      ∀ acc n, acc.length ≤ xs.length → I xs.length acc n → Φ acc ⟨n, δ1.s⟩) (hc : X.calm = true := by rfl) (hs : ∀ x, foldedSetIterable iter X.env x = pure x := by intro _; rfl) : DLs B X (.ListComp elt [⟨tg, iter, [cnd], 0⟩] scope pos) δ Φ :=
  .of (pe_lc (te := bE X scope elt) hc hN hi ok hg (fun s H C cl fp => pts_one (t := bT X scope cnd) ⟨fun pins s' σ H' Q I h => h s H C cl fp pins s' I⟩) (fun s H C cl fp => ⟨fun pins s' σ H' Q I h => h s H C cl fp pins s' I⟩) hs) (wl_lc (fun _ z => z) fun σ F H r R q => h σ F H r R fun J xs δ' F' H' e r' w ⟨hz, I, h0, h1, h2⟩ =>
    q J xs δ' F' H' e r' w ⟨hz, I, h0, fun B' i y acc n hp hy hl hi σ F H r v d Q qq => h1 B' i y acc n hp hy hl hi σ F H r v d Q fun δ2 σ2 r2 k1 k2 p => qq δ2 σ2 r2 k1 k2 (WT.mono (bT_of p) fun b δ3 pb => by
      cases b with
      | true =>
        rw [if_pos rfl] at pb ⊢
        exact bE_of pb
      | false =>
        rw [if_neg Bool.false_ne_true] at pb ⊢
        exact pb), h2⟩)
end
end DL

set_option maxHeartbeats 200000
set_option Elab.async false
set_option linter.all false
set_option maxRecDepth 100000
namespace DL
open PySem PySem.Spec PyProof.Rows L2

/-! ### contracts: what a def does with data, whatever the heap -/
/-- a def without a pot: from these things to something of which Φ holds -/
abbrev SpD := List PyData → (PyData → Prop) → Prop
/-- a def that is handed the pot ahead -/
abbrev SpP := Nat → List PyData → (PyData → Nat → Prop) → Prop
def spD (K : PySem.W.Frag) (S : SpD) : Sp := fun vs H Q _ => ∃ F ds Φ, Same F H ∧ DqAll K F vs ds ∧ S ds Φ ∧
  ∀ v x F' H', Same F F' → Same F' H' → (∀ b, F b = none → H b ≠ none → F' b = none) → (∀ b o, H b = some o → H' b = some o) → Dq K F' v x → Φ x → Q v H'
def spP (K : PySem.W.Frag) (S : SpP) : Sp := fun vs H Q _ => ∃ F p vs' ds n Φ, vs = .ref p :: vs' ∧ Same F H ∧ F p = none ∧ PotAt none H p n ∧ DqAll K F vs' ds ∧ S n ds Φ ∧
  ∀ v x n' F' H', Same F F' → Same F' H' → (∀ b, F b = none → H b ≠ none → F' b = none) → (∀ b o, H b = some o → b ≠ p → H' b = some o) → PotAt none H' p n' → Dq K F' v x → Φ x n' → Q v H'
/-- the state at a def's begin -/
def ini (N : List Str) (cs : List C) (n : Nat) : St' := ⟨n, cs.map some ++ List.replicate (N.length - cs.length) none⟩
theorem start_get {N : List Str} {vs : List V} {cs : List C} {i : Nat} {c : C} (hl : vs.length = cs.length) (h : (ini N cs n).s[i]? = some (some c)) : ∃ v, (L2.start N vs)[i]? = some (some v) ∧ vs[i]? = some v ∧ cs[i]? = some c := by
  have h' : (cs.map some ++ List.replicate (N.length - cs.length) none)[i]? = some (some c) := h
  by_cases hi : i < cs.length
  · rw [List.getElem?_append_left (by simpa using hi), List.getElem?_map, Option.map_eq_some_iff] at h'
    obtain ⟨c', h1, h2⟩ := h'
    injection h2 with h2
    subst h2
    have hv : i < vs.length := by omega
    refine ⟨vs[i], ?_, List.getElem?_eq_getElem hv, h1⟩
    unfold L2.start
    rw [List.getElem?_append_left (by simpa using hv), List.getElem?_map, List.getElem?_eq_getElem hv]
    rfl
  · rw [List.getElem?_append_right (by simpa using hi), List.getElem?_replicate] at h'
    split at h' <;> cases h'
theorem start_len {N : List Str} {vs : List V} {cs : List C} {n : Nat} (hl : vs.length = cs.length) : (L2.start N vs).length = (ini N cs n).s.length := by
  simp [L2.start, ini, hl]
section
variable {K : PySem.W.Frag} {w : World}
theorem rep_iniD {N : List Str} {F H : Hp} {vs : List V} {ds : List PyData} (e : Same F H) (h : DqAll K F vs ds) : Rep ⟨⟨F, H, none, none⟩, w, K⟩ (ini N (ds.map C.d) 0) (L2.start N vs) F H := by
  have hl : vs.length = (ds.map C.d).length := by rw [dpAll_len h]; simp
  refine ⟨e, Same.refl _, fun b z _ => z, fun b o z _ => z, fun a z => (by cases z), fun i c hi => ?_, start_len hl, fun i j c c' hij h1 h2 o1 o2 => ?_⟩
  · obtain ⟨v, h1, h2, h3⟩ := start_get hl hi
    rw [List.getElem?_map, Option.map_eq_some_iff] at h3
    obtain ⟨d, h4, h5⟩ := h3
    subst h5
    obtain ⟨v', q1, q2⟩ := dpAll_get h h4
    rw [h2] at q1
    injection q1 with q1
    subst q1
    exact ⟨v, h1, q2⟩
  · obtain ⟨v, _, _, q⟩ := start_get hl h1
    rw [List.getElem?_map, Option.map_eq_some_iff] at q
    obtain ⟨d, _, e⟩ := q
    subst e
    cases o1
theorem rep_iniP {N : List Str} {F H : Hp} {p : Addr} {vs : List V} {ds : List PyData} {n : Nat} (e : Same F H) (hp : F p = none) (pot : PotAt none H p n) (h : DqAll K F vs ds) : Rep ⟨⟨F, H, some p, none⟩, w, K⟩ (ini N (.pot :: ds.map C.d) n) (L2.start N (.ref p :: vs)) F H := by
  have hl : (V.ref p :: vs).length = (C.pot :: ds.map C.d).length := by simp [dpAll_len h]
  have hc : ∀ {i : Nat} {c : C}, (C.pot :: ds.map C.d)[i]? = some c → (i = 0 ∧ c = .pot) ∨ ∃ j d, i = j + 1 ∧ ds[j]? = some d ∧ c = .d d := fun {i c} z => by
    cases i with
    | zero => simp at z; exact .inl ⟨rfl, z.symm⟩
    | succ j =>
      simp only [List.getElem?_cons_succ, List.getElem?_map, Option.map_eq_some_iff] at z
      obtain ⟨d, h1, h2⟩ := z
      exact .inr ⟨j, d, rfl, h1, h2.symm⟩
  refine ⟨e, Same.refl _, fun b z _ => z, fun b o z _ => z, fun a z => ?_, fun i c hi => ?_, start_len hl, fun i j c c' hij h1 h2 o1 o2 => ?_⟩
  · injection z with z
    subst z
    refine ⟨hp, ?_, pot⟩
    obtain ⟨x, y, z, h3, _⟩ := pot
    show H p ≠ none
    rw [h3]; exact fun q => by cases q
  · obtain ⟨v, h1, h2, h3⟩ := start_get hl hi
    rcases hc h3 with ⟨rfl, rfl⟩ | ⟨j, d, rfl, h4, rfl⟩
    · simp at h2
      subst h2
      exact ⟨_, h1, p, rfl, rfl, rfl⟩
    · obtain ⟨v', q1, q2⟩ := dpAll_get h h4
      rw [List.getElem?_cons_succ, q1] at h2
      injection h2 with h2
      subst h2
      exact ⟨_, h1, q2⟩
  · obtain ⟨v, _, _, q⟩ := start_get hl h1
    rcases hc q with ⟨_, rfl⟩ | ⟨_, _, _, _, rfl⟩ <;> cases o1
end
abbrev bodyX (P : Program) (w : World) (K : PySem.W.Frag) (mg : Str → Option Value) (base : Heap) (N : List Str) (qual : Str) (sc : Scope) (f : Addr) (cdv : Value) (A : Around) (outer : List Env) (s : Shared) (H : Hp) (E : XK) : Cx := (cxOf CX0 P w K mg base N qual sc f cdv A outer s H E).nox
section
variable {P : Program} {w : World} {K : PySem.W.Frag} {mg : Str → Option Value} {base : Heap} {x qual : Str} {st : Stmt} {f : Addr} {fd : FuncData} {N ps : List Str} {k : Nat}
theorem fnD {S : SpD} {dvs : List V} {kws : List (Str × V)} (F : FunD K x qual (defArgs st) (defBody st) (defScope st) dvs kws f fd) (sc : FnScope N ps (defScope st)) (len : ∀ ds Φ, S ds Φ → ds.length = ps.length)
    (body : ∀ (B : B0) (cdv : Value) (A : Around) (outer : List Env) (s : Shared) (H : Hp) (E : XK) (ds : List PyData) (Φ : PyData → Prop), Room k (A.deeper (envOfC qual (defScope st) s.heap.objs.size f cdv)) → B.p = none → S ds Φ →
      DSs B (bodyX P w K mg base N qual (defScope st) f cdv A outer s H E) (defBody st) (ini N (ds.map C.d) 0) (fun _ => Φ .none) fun x _ => Φ x) : FnOk P w K mg base CX0 (k + 1) f fd ps (spD K S) := by
  refine F.ok sc (fun vs H Q E h => ?_) (fun cdv A outer s H vs Q E hr h => ?_)
  · obtain ⟨F', ds, Φ, _, hd, hS, _⟩ := h
    rw [dpAll_len hd]; exact len ds Φ hS
  · obtain ⟨F', ds, Φ, e, hd, hS, q⟩ := h
    refine ⟨_, PSs.nox pss_w, ?_⟩
    refine body ⟨F', H, none, none⟩ cdv A outer s H E ds Φ hr rfl hS (L2.start N vs) F' H (rep_iniD e hd) _ (fun δ' σ' F2 H2 e2 r2 p => ?_) fun v x δ' σ' F2 H2 e2 r2 d2 p => ?_
    · exact q .non .none F2 H2 e2 r2.ex r2.fr (fun b o z => r2.kp b o z (fun y => by cases y)) .non p
    · exact q v x F2 H2 e2 r2.ex r2.fr (fun b o z => r2.kp b o z (fun y => by cases y)) d2 p
theorem fnP {S : SpP} {dvs : List V} {kws : List (Str × V)} (F : FunD K x qual (defArgs st) (defBody st) (defScope st) dvs kws f fd) (sc : FnScope N ps (defScope st)) (len : ∀ n ds Φ, S n ds Φ → ds.length + 1 = ps.length)
    (body : ∀ (B : B0) (cdv : Value) (A : Around) (outer : List Env) (s : Shared) (H : Hp) (E : XK) (n : Nat) (ds : List PyData) (Φ : PyData → Nat → Prop), Room k (A.deeper (envOfC qual (defScope st) s.heap.objs.size f cdv)) → B.p ≠ none → S n ds Φ →
      DSs B (bodyX P w K mg base N qual (defScope st) f cdv A outer s H E) (defBody st) (ini N (.pot :: ds.map C.d) n) (fun δ => Φ .none δ.n) fun x δ => Φ x δ.n) : FnOk P w K mg base CX0 (k + 1) f fd ps (spP K S) := by
  refine F.ok sc (fun vs H Q E h => ?_) (fun cdv A outer s H vs Q E hr h => ?_)
  · obtain ⟨F', p, vs', ds, n, Φ, rfl, _, _, _, hd, hS, _⟩ := h
    rw [List.length_cons, dpAll_len hd]; exact len n ds Φ hS
  · obtain ⟨F', p, vs', ds, n, Φ, rfl, e, hp, hpot, hd, hS, q⟩ := h
    refine ⟨_, PSs.nox pss_w, ?_⟩
    refine body ⟨F', H, some p, none⟩ cdv A outer s H E n ds Φ hr (fun z => by cases z) hS (L2.start N (.ref p :: vs')) F' H (rep_iniP e hp hpot hd) _ (fun δ' σ' F2 H2 e2 r2 z => ?_) fun v x δ' σ' F2 H2 e2 r2 d2 z => ?_
    · exact q .non .none δ'.n F2 H2 e2 r2.ex r2.fr (fun b o h1 h2 => r2.kp b o h1 fun y => h2 (by injection y with y; exact y.symm)) (r2.pot p rfl).2.2 .non z
    · exact q v x δ'.n F2 H2 e2 r2.ex r2.fr (fun b o h1 h2 => r2.kp b o h1 fun y => h2 (by injection y with y; exact y.symm)) (r2.pot p rfl).2.2 d2 z
end
/-- a def of the text, with what stands for the arguments that aren't written -/
abbrev Fd (K : PySem.W.Frag) (x : Str) (st : Stmt) (dvs : List V) (kws : List (Str × V)) (f : Addr) (fd : FuncData) : Prop := FunD K x x (defArgs st) (defBody st) (defScope st) dvs kws f fd
theorem Rep.potH {B : Bs} {δ : St'} {σ : List (Option V)} {F H : Hp} (r : Rep B δ σ F H) {a : Addr} (h : B.p = some a) : H a ≠ none := by
  obtain ⟨_, _, x, y, z, h3, _⟩ := r.pot a h
  rw [h3]
  exact fun q => by cases q
/-- behind a call -/
theorem Rep.called {B : Bs} {δ : St'} {σ : List (Option V)} {F H F' H' : Hp} (r : Rep B δ σ F H) (e1 : Same F F') (e2 : Same F' H') (fr : ∀ b, F b = none → H b ≠ none → F' b = none) (kp : ∀ b o, H b = some o → H' b = some o) : Rep B δ σ F' H' := by
  have ri : Rep ⟨⟨F, H, B.p, B.m⟩, B.w, B.K⟩ ⟨δ.n, []⟩ [] F' H' := ⟨e2, e1, fr, fun b o h _ => kp b o h, fun a h => ⟨r.potF h, (r.potH h), (by
    obtain ⟨_, _, x, y, z, h3, h4⟩ := r.pot a h
    exact ⟨x, y, z, kp _ _ h3, h4⟩)⟩, fun i c h => by simp at h, rfl, fun i j c c' _ h => by simp at h⟩
  exact r.outer (δ' := ⟨_, []⟩) ri
theorem Rep.calledP {B : Bs} {δ : St'} {σ : List (Option V)} {F H F' H' : Hp} {p : Addr} {n' : Nat} (r : Rep B δ σ F H) (hp : B.p = some p) (e1 : Same F F') (e2 : Same F' H') (fr : ∀ b, F b = none → H b ≠ none → F' b = none) (kp : ∀ b o, H b = some o → b ≠ p → H' b = some o) (pot : PotAt B.m H' p n') : Rep B ⟨n', δ.s⟩ σ F' H' := by
  have ri : Rep ⟨⟨F, H, B.p, B.m⟩, B.w, B.K⟩ ⟨n', []⟩ [] F' H' := ⟨e2, e1, fr, fun b o h q => kp b o h fun z => q (by rw [z]; exact hp), fun a h => ⟨r.potF h, (r.potH h), (by
    have : a = p := by
      have h' : B.p = some a := h
      rw [hp] at h'
      injection h' with h'
      exact h'.symm
    rw [this]
    exact pot)⟩, fun i c h => by simp at h, rfl, fun i j c c' _ h => by simp at h⟩
  exact r.outer (δ' := ⟨_, []⟩) ri
section
variable {B : B0} {X : Cx} {e : Expr} {es : List Expr} {kws : List Keyword} {δ : St'} {Φ : PE1} {p pos pp : Pos} {k : Nat} {f : Addr} {fd : FuncData} {ps ks : List Str} {x pn : Str} {dvs : List V} {dds : List Value} {dd : List PyData}
theorem we_callD {ta : TA} {S : SpD} (hd : ∀ F, DqAll X.K F dvs dd) (h : WA (bs X B) ta δ fun ds δ' => S (ds ++ dd) fun y => Φ y δ') : WE (bs X B) (tCall (spD X.K S) dvs E0 ta) δ Φ := fun σ F H r Q q =>
  h σ F H r _ fun vs ds δ' F' H' e1 r' d hS => ⟨F', ds ++ dd, _, r'.ex, dpAll_app d (hd F'), hS, fun v y F2 H2 q1 q2 q3 q4 q5 q6 => q v y δ' F2 H2 (e1.trans q1) (r'.called q1 q2 q3 q4) q5 q6⟩
theorem we_callP {ta : TA} {S : SpP} {i : Nat} (hi : δ.s[i]? = some (some .pot)) (hd : ∀ F, DqAll X.K F dvs dd) (h : WA (bs X B) ta δ fun ds δ' => S δ'.n (ds ++ dd) fun y n' => Φ y ⟨n', δ'.s⟩) : WE (bs X B) (tCall (spP X.K S) dvs E0 (tCons (tVar i) ta)) δ Φ := fun σ F H r Q q => by
  obtain ⟨v, hv, a, rfl, hp, hm⟩ := r.cell i _ hi
  refine ⟨.ref a, hv, h σ F H r _ fun vs ds δ' F' H' e1 r' d hS => ?_⟩
  exact ⟨F', a, vs ++ dvs, ds ++ dd, δ'.n, _, rfl, r'.ex, r'.potF hp, hm ▸ (r'.pot a hp).2.2, dpAll_app d (hd F'), hS, fun v y n' F2 H2 q1 q2 q3 q4 q5 q6 q7 => q v y ⟨n', δ'.s⟩ F2 H2 (e1.trans q1) (r'.calledP hp q1 q2 q3 q4 (hm ▸ q5)) q6 q7⟩
/-- f(e, ..) -/
theorem de_call {S : SpD} (G : FnOk X.prog X.w X.K X.mg X.base CX0 k f fd ps (spD X.K S)) (hr : Room k X.A) (hm : X.mg x = some (.ref f)) (hk : PySem.W.keepIn X.K (.ref f) = true) (hb : Binds X.K fd ps [])
    (h : DA B X (e :: es) δ fun ds δ' => S ds fun y => Φ y δ') (hg : Gl X x := by rfl) (hdb : (x == ("__debug__" : Str)) = false := by decide) (he : starEach (e :: es) X.env = (false, eval e X.env) :: starEach es X.env := by rfl) (hpl : (backTo pos (starEach es X.env)).any (·.1) = false := by rfl) :
    DE B X (.Call (.Name x p) (e :: es) [] pos) δ Φ := .of (pe_call G hr hg hm hk hb .nil pass0 pa_w hdb he hpl) (we_callD (dd := []) (fun _ => .nil) fun σ F H r Q q => h σ F H r Q fun vs ds δ' F' H' e1 r1 d p => q vs ds δ' F' H' e1 r1 d (by
    dsimp only
    rw [List.append_nil]; exact p))
/-- f(e, ..), the rest by defaults -/
theorem de_callDf {S : SpD} (G : FnOk X.prog X.w X.K X.mg X.base CX0 k f fd ps (spD X.K S)) (hr : Room k X.A) (hm : X.mg x = some (.ref f)) (hk : PySem.W.keepIn X.K (.ref f) = true) (hb : ∃ us, Vals dvs us ∧ Binds X.K fd ps us) (hd : ∀ F, DqAll X.K F dvs dd)
    (h : DA B X (e :: es) δ fun ds δ' => S (ds ++ dd) fun y => Φ y δ') (hg : Gl X x := by rfl) (hdb : (x == ("__debug__" : Str)) = false := by decide) (he : starEach (e :: es) X.env = (false, eval e X.env) :: starEach es X.env := by rfl) (hpl : (backTo pos (starEach es X.env)).any (·.1) = false := by rfl) :
    DE B X (.Call (.Name x p) (e :: es) [] pos) δ Φ := by
  obtain ⟨us, h1, h2⟩ := hb
  exact .of (pe_call G hr hg hm hk h2 h1 pass0 pa_w hdb he hpl) (we_callD hd h)
/-- f(pot, e, ..) -/
theorem de_callP {S : SpP} (i : Nat) (G : FnOk X.prog X.w X.K X.mg X.base CX0 k f fd ps (spP X.K S)) (hr : Room k X.A) (hm : X.mg x = some (.ref f)) (hk : PySem.W.keepIn X.K (.ref f) = true) (hb : Binds X.K fd ps [])
    (h : DA B X es δ fun ds δ' => S δ'.n ds fun y n' => Φ y ⟨n', δ'.s⟩) (hi : δ.s[i]? = some (some .pot) := by rfl) (hN : X.N[i]? = some pn := by rfl)
    (hv : Vis X.env.scope pn := by first | exact Or.inl rfl | exact Or.inr (Or.inl rfl) | exact Or.inr (Or.inr rfl)) (hd : (pn == ("__debug__" : Str)) = false := by decide)
    (hcd : (pn == ("__classdict__" : Str)) = false := by decide) (hg : Gl X x := by rfl) (hdb : (x == ("__debug__" : Str)) = false := by decide) (he : starEach (.Name pn pp :: es) X.env = (false, eval (.Name pn pp) X.env) :: starEach es X.env := by rfl) (hpl : (backTo pos (starEach es X.env)).any (·.1) = false := by rfl) :
    DE B X (.Call (.Name x p) (.Name pn pp :: es) [] pos) δ Φ := .of (pe_call G hr hg hm hk hb .nil pass0 (pa_cons (pe_var hN hv hd hcd) pa_w he) hdb he hpl) (we_callP hi (dd := []) (fun _ => .nil) fun σ F H r Q q => h σ F H r Q fun vs ds δ' F' H' e1 r1 d p => q vs ds δ' F' H' e1 r1 d (by
    dsimp only
    rw [List.append_nil]; exact p))
end
end DL

set_option maxHeartbeats 200000
set_option Elab.async false
set_option linter.all false
set_option maxRecDepth 100000
namespace DL
open PySem PySem.Spec PyProof.Rows L2

/-! ### a def of the text, with its contract -/
structure Fn (P : Program) (w : World) (K : PySem.W.Frag) (mg : Str → Option Value) (base : Heap) (x : Str) (k : Nat) (ps : List Str) (sp : Sp) : Prop where
  ex : ∃ f fd, mg x = some (.ref f) ∧ PySem.W.keepIn K (.ref f) = true ∧ Binds K fd ps [] ∧ FnOk P w K mg base CX0 k f fd ps sp
section
variable {P : Program} {w : World} {K : PySem.W.Frag} {mg : Str → Option Value} {base : Heap} {x : Str} {ps : List Str} {sp : Sp}
theorem Fn.mono {j k : Nat} (h : Fn P w K mg base x j ps sp) (hk : j ≤ k) : Fn P w K mg base x k ps sp := by
  obtain ⟨f, fd, h1, h2, h3, h4⟩ := h.ex
  exact ⟨f, fd, h1, h2, h3, h4.mono hk⟩
end
section
variable {B : B0} {X : Cx} {a b c e : Expr} {es : List Expr} {δ : St'} {Φ : PE1} {p pos pp p2 : Pos} {k k' : Nat} {ps : List Str} {x pn : Str}
theorem de_f {S : SpD} (G : Fn X.prog X.w X.K X.mg X.base x k ps (spD X.K S)) (hr : Room k' X.A) (h : DA B X (e :: es) δ fun ds δ' => S ds fun y => Φ y δ') (hk : k ≤ k' := by decide)
    (hg : Gl X x := by rfl) (hdb : (x == ("__debug__" : Str)) = false := by decide) (he : starEach (e :: es) X.env = (false, eval e X.env) :: starEach es X.env := by rfl) (hpl : (backTo pos (starEach es X.env)).any (·.1) = false := by rfl) :
    DE B X (.Call (.Name x p) (e :: es) [] pos) δ Φ := by
  obtain ⟨f, fd, h1, h2, h3, h4⟩ := G.ex
  exact de_call h4 (hr.mono hk) h1 h2 h3 h hg hdb he hpl
theorem de_fP {S : SpP} (i : Nat) (G : Fn X.prog X.w X.K X.mg X.base x k ps (spP X.K S)) (hr : Room k' X.A) (h : DA B X es δ fun ds δ' => S δ'.n ds fun y n' => Φ y ⟨n', δ'.s⟩) (hk : k ≤ k' := by decide) (hi : δ.s[i]? = some (some .pot) := by rfl) (hN : X.N[i]? = some pn := by rfl)
    (hv : Vis X.env.scope pn := by first | exact Or.inl rfl | exact Or.inr (Or.inl rfl) | exact Or.inr (Or.inr rfl)) (hd : (pn == ("__debug__" : Str)) = false := by decide)
    (hcd : (pn == ("__classdict__" : Str)) = false := by decide) (hg : Gl X x := by rfl) (hdb : (x == ("__debug__" : Str)) = false := by decide) (he : starEach (.Name pn pp :: es) X.env = (false, eval (.Name pn pp) X.env) :: starEach es X.env := by rfl) (hpl : (backTo pos (starEach es X.env)).any (·.1) = false := by rfl) :
    DE B X (.Call (.Name x p) (.Name pn pp :: es) [] pos) δ Φ := by
  obtain ⟨f, fd, h1, h2, h3, h4⟩ := G.ex
  exact de_callP i h4 (hr.mono hk) h1 h2 h3 h hi hN hv hd hcd hg hdb he hpl
end

/-- a def of the text that may be called with its defaults left out -/
structure FnDf (P : Program) (w : World) (K : PySem.W.Frag) (mg : Str → Option Value) (base : Heap) (x : Str) (k : Nat) (ps : List Str) (dvs : List V) (sp : Sp) : Prop where
  ex : ∃ f fd, mg x = some (.ref f) ∧ PySem.W.keepIn K (.ref f) = true ∧ (∃ us, Vals dvs us ∧ Binds K fd ps us) ∧ FnOk P w K mg base CX0 k f fd ps sp
section
variable {B : B0} {X : Cx} {a b c e : Expr} {es : List Expr} {δ : St'} {Φ : PE1} {p pos pp p2 : Pos} {k k' : Nat} {ps : List Str} {x pn : Str} {dvs : List V}
theorem de_fDf {S : SpD} (dd : List PyData) (G : FnDf X.prog X.w X.K X.mg X.base x k ps dvs (spD X.K S)) (hr : Room k' X.A) (hd : ∀ F, DqAll X.K F dvs dd) (h : DA B X (e :: es) δ fun ds δ' => S (ds ++ dd) fun y => Φ y δ') (hk : k ≤ k' := by decide)
    (hg : Gl X x := by rfl) (hdb : (x == ("__debug__" : Str)) = false := by decide) (he : starEach (e :: es) X.env = (false, eval e X.env) :: starEach es X.env := by rfl) (hpl : (backTo pos (starEach es X.env)).any (·.1) = false := by rfl) :
    DE B X (.Call (.Name x p) (e :: es) [] pos) δ Φ := by
  obtain ⟨f, fd, h1, h2, h3, h4⟩ := G.ex
  exact de_callDf h4 (hr.mono hk) h1 h2 h3 hd h hg hdb he hpl
end

/-! ### isinstance -/
def noD : PyData → Bool
  | .dict _ => false
  | _ => true
def tyN : PyData → String
  | .none => "NoneType" | .bool _ => "bool" | .int _ => "int" | .str _ => "str" | .list _ => "list" | .tuple _ => "tuple" | .dict _ => "dict"
theorem tyX_dp {K : PySem.W.Frag} {H : Hp} {v : V} {d : PyData} (nd : ∀ kv, d ≠ .dict kv) (h : Dq K H v d) : TyX K H v (.type (tyN d)) := by
  cases h with
  | non => exact .base .non
  | bl b => exact .base (.bl b)
  | int i => exact .base (.int i)
  | str s => exact .base (.str s)
  | lst hs ha =>
    rcases hs with (h | ⟨o, h⟩) | ⟨o, its, n, h, c, _⟩
    · exact .base (.lst h)
    · exact .base (.frz h)
    · exact .kList h c
  | tup hs ha =>
    rcases hs with (h | ⟨o, h⟩) | ⟨o, its, n, h, c, _⟩
    · exact .base (.tup h)
    · exact .fTuple h
    · exact .kTuple h c
  | hd a => exact absurd rfl (nd _)
/-- isinstance(x, T), T a built-in class -/
def isT (T : String) (d : PyData) : Bool := match T, d with
  | "tuple", .tuple _ => true
  | "list", .list _ => true
  | "str", .str _ => true
  | "int", .int _ => true
  | "int", .bool _ => true
  | "bool", .bool _ => true
  | _, _ => false
def isTs (T ty : String) : Bool := (T == ty) || (T == "int" && ty == "bool")
theorem kit_tab : ∀ T ∈ ["tuple", "str", "int", "bool"], ∀ ty ∈ ["NoneType", "bool", "int", "str", "list", "tuple"], kitB ty T = some (isTs T ty) := by decide +kernel
theorem isT_tab : ∀ T ∈ ["tuple", "str", "int", "bool"], isTs T "NoneType" = false ∧ isTs T "list" = false ∧ isTs T "bool" = isT T (.bool true) ∧ isTs T "int" = isT T (.int 0) ∧ isTs T "str" = isT T (.str Str.empty) ∧ isTs T "tuple" = isT T (.tuple []) := by decide +kernel
theorem isT_same {T : String} (hT : T = "tuple" ∨ T = "str" ∨ T = "int" ∨ T = "bool") {d : PyData} (hd : ∀ kv, d ≠ .dict kv) : isTs T (tyN d) = isT T d := by
  have hm : T ∈ ["tuple", "str", "int", "bool"] := by rcases hT with rfl | rfl | rfl | rfl <;> simp
  obtain ⟨h1, h2, h3, h4, h5, h6⟩ := isT_tab T hm
  rcases hT with rfl | rfl | rfl | rfl <;> cases d <;> first | exact h1 | exact h2 | exact h3 | exact h4 | exact h5 | exact h6 | exact absurd rfl (hd _)
theorem kit_isT {T : String} (hT : T = "tuple" ∨ T = "str" ∨ T = "int" ∨ T = "bool") {d : PyData} (hd : ∀ kv, d ≠ .dict kv) : kitB (tyN d) T = some (isT T d) := by
  have hm : T ∈ ["tuple", "str", "int", "bool"] := by rcases hT with rfl | rfl | rfl | rfl <;> simp
  rw [← isT_same hT hd]
  refine kit_tab T hm (tyN d) ?_
  cases d <;> first | (simp [tyN]; done) | exact absurd rfl (hd _)
theorem rc_isi {B : Bs} {δ : St'} {Φ : PE1} {T : String} {d : PyData} {xs : List V} (hT : T = "tuple" ∨ T = "str" ∨ T = "int" ∨ T = "bool") (nd : ∀ kv, d ≠ .dict kv) (p : Φ (.bool (isT T d)) δ) : RC B (fun vs H Q => rIsi B.K (vs ++ [.ty T]) H Q) [d] δ Φ := fun σ F H r vs hd Q q => by
  cases hd with
  | cons h1 h2 =>
    cases h2
    exact ⟨_, .ty T, .type (tyN d), .type T, isT T d, rfl, .ty T, tyX_dp nd (dp_mono r.ex _ _ h1), kit_ty (kit_isT hT nd), q _ _ δ F H (Same.refl F) r (.bl _) p⟩
theorem de_isi {B : B0} {X : Cx} {a : Expr} {δ : St'} {Φ : PE1} {p p2 pos : Pos} {T : String} {tn : Str} (hm : X.mg "isinstance" = none) (hmT : X.mg tn = none) (hT : T = "tuple" ∨ T = "str" ∨ T = "int" ∨ T = "bool") (hv : bootBuiltins tn = some (.type T))
    (h : DE B X a δ fun d δ' => noD d = true ∧ Φ (.bool (isT T d)) δ') (hg : Gl X "isinstance" := by rfl) (hgT : Gl X tn := by rfl) (hn : tn ≠ "__name__" := by decide) (hdb : (tn == ("__debug__" : Str)) = false := by decide)
    (he : starEach [a, .Name tn p2] X.env = (false, eval a X.env) :: starEach [.Name tn p2] X.env := by rfl) (he2 : starEach [.Name tn p2] X.env = (false, eval (.Name tn p2) X.env) :: starEach [] X.env := by rfl) (hpl : (backTo pos (starEach [.Name tn p2] X.env)).any (·.1) = false := by rfl) :
    DE B X (.Call (.Name "isinstance" p) [a, .Name tn p2] [] pos) δ Φ :=
  .of (pe_callB call_isi hg hm (by decide +kernel) (pa_cons pe_w (pa_cons (pe_bltn (v := .ty T) hgT hmT hv rfl hn hdb) pa_nil he2) he) (by decide) (by decide) he hpl) fun σ F H r Q q => h σ F H r _ fun v d δ' F' H' e r' dd ⟨hn', p⟩ => by
    have nd : ∀ kv, d ≠ .dict kv := fun kv z => by subst z; cases hn'
    exact ⟨v, .ty T, .type (tyN d), .type T, isT T d, rfl, .ty T, tyX_dp nd (dp_mono r'.ex _ _ dd), kit_ty (kit_isT hT nd), q _ _ δ' F' H' e r' (.bl _) p⟩
end DL

set_option maxHeartbeats 200000
set_option Elab.async false
set_option linter.all false
set_option maxRecDepth 100000
namespace DL
open PySem PySem.Spec PyProof.Rows L2

/-! ### texts walked -/
def signs (s : Str) : List PyData := s.cps.toList.map fun c => PyData.str ⟨#[c]⟩
theorem signs_len {s : Str} : (signs s).length = s.cps.size := by simp [signs]
theorem wk_str {w : World} {K : PySem.W.Frag} {s : Str} {F : Hp} : Wk w K (Its s) (signs s) F where
  stop := fun B i δ σ F' H _ _ e r h => by rw [signs_len] at h; exact h
  go := fun B i δ σ F' H _ _ e r h => by rw [signs_len] at h; exact h
  yld := fun B i δ σ F' H v H' y _ _ e r h hy => by
    obtain ⟨e1, c, hc, rfl⟩ := hy
    subst e1
    simp only [signs, List.getElem?_map, Option.map_eq_some_iff] at h
    obtain ⟨c', h1, rfl⟩ := h
    have : s.cps.toList[i]? = some c := by rw [Array.getElem?_toList]; exact hc
    rw [this] at h1
    injection h1 with h1
    subst h1
    exact ⟨F', Same.refl _, r, Same.refl _, fun b z _ => z, .str _⟩
theorem wi_str {B : Bs} {te : TE} {δ : St'} {Ψ : List PyData → St' → Prop} (h : WE B te δ fun x δ' => ∃ s, x = .str s ∧ Ψ (signs s) δ') : WI B (iStr te) δ Ψ := fun σ F H r R q => h σ F H r _ fun v x δ' F' H' e r' d ⟨s, hx, p⟩ => by
  subst hx
  cases d
  exact ⟨s, rfl, q _ _ δ' F' H' e r' (Wk.at wk_str) p⟩

/-! ### comprehensions that do the same with each thing -/
section
variable {B : B0} {X : Cx} {elt cnd tg iter : Expr} {scope : Scope} {δ : St'} {Φ : List PyData → St' → Prop} {pos : Pos} {wi : TI} {g : TG}
theorem take_snoc {α : Type} {l : List α} {i : Nat} {x : α} (h : l[i]? = some x) : l.take (i + 1) = l.take i ++ [x] := by
  rw [List.take_add_one, h]; rfl
theorem dl_map (own : List (Str × Nat)) (hN : X.N.Nodup) (hi : PI X tg iter wi) (ok : BlkOk X.N X.env.scope scope own)
    (hg : ∀ (s : Shared) (H : Hp) (C : Addr) (cl : List (Str × Addr)) (fp : List Addr), PG (X.blk s H scope (compEnvC scope cl C X.env) fp) tg g)
    (h : WI (bs X B) wi δ fun xs δ1 => xs.length ≤ 100000 ∧ ∃ f : PyData → PyData,
      (∀ (B' : B0) y, Sub B B' → y ∈ xs → WG (bs X B') g (own.map (·.2)) y ⟨δ1.n, inn (own.map (·.2)) 0 δ1.s⟩ fun δ2 =>
        ∀ s0 H0 C cl fp, DE B' (X.blk s0 H0 scope (compEnvC scope cl C X.env) fp) elt δ2 fun z δ4 => z = f y ∧ δ4.n = δ1.n) ∧ Φ (xs.map f) δ1) (hc : X.calm = true := by rfl) (hs : ∀ x, foldedSetIterable iter X.env x = pure x := by intro _; rfl) : DLs B X (.ListComp elt [⟨tg, iter, [], 0⟩] scope pos) δ Φ :=
  dl_lc own hN hi ok hg (fun σ F H r R q => h σ F H r R fun J xs δ1 F' H' e r' w ⟨hz, f, h1, h2⟩ => q J xs δ1 F' H' e r' w ⟨hz, fun i acc n => acc = (xs.take i).map f ∧ n = δ1.n, by simp, fun B' i y acc n hp hy _ ⟨ha, hn⟩ => by
    subst ha hn
    intro σ F H r v d Q qq
    refine h1 B' y hp (List.mem_of_getElem? hy) σ F H r v d Q fun δ2 σ2 r2 k1 k2 p => qq δ2 σ2 r2 k1 k2 fun s0 H0 C cl fp => DE.mono (p s0 H0 C cl fp) fun z δ4 ⟨e1, e2⟩ => ⟨?_, e2⟩
    rw [take_snoc hy, List.map_append, e1]; rfl, fun acc n _ ⟨ha, hn⟩ => by
    subst ha hn
    rw [List.take_length]; exact h2⟩) hc hs
theorem dl_filt (own : List (Str × Nat)) (hN : X.N.Nodup) (hi : PI X tg iter wi) (ok : BlkOk X.N X.env.scope scope own)
    (hg : ∀ (s : Shared) (H : Hp) (C : Addr) (cl : List (Str × Addr)) (fp : List Addr), PG (X.blk s H scope (compEnvC scope cl C X.env) fp) tg g)
    (h : WI (bs X B) wi δ fun xs δ1 => xs.length ≤ 100000 ∧ ∃ (keep : PyData → Bool) (f : PyData → PyData),
      (∀ (B' : B0) y, Sub B B' → y ∈ xs → WG (bs X B') g (own.map (·.2)) y ⟨δ1.n, inn (own.map (·.2)) 0 δ1.s⟩ fun δ2 =>
        ∀ s0 H0 C cl fp, DT B' (X.blk s0 H0 scope (compEnvC scope cl C X.env) fp) cnd δ2 fun b δ3 => b = keep y ∧ δ3.n = δ1.n ∧ (keep y = true → ∀ s0 H0 C cl fp, DE B' (X.blk s0 H0 scope (compEnvC scope cl C X.env) fp) elt δ3 fun z δ4 => z = f y ∧ δ4.n = δ1.n)) ∧ Φ ((xs.filter keep).map f) δ1) (hc : X.calm = true := by rfl) (hs : ∀ x, foldedSetIterable iter X.env x = pure x := by intro _; rfl) : DLs B X (.ListComp elt [⟨tg, iter, [cnd], 0⟩] scope pos) δ Φ :=
  dl_lcIf own hN hi ok hg (fun σ F H r R q => h σ F H r R fun J xs δ1 F' H' e r' w ⟨hz, keep, f, h1, h2⟩ => q J xs δ1 F' H' e r' w ⟨hz, fun i acc n => acc = ((xs.take i).filter keep).map f ∧ n = δ1.n, by simp, fun B' i y acc n hp hy _ ⟨ha, hn⟩ => by
    subst ha hn
    intro σ F H r v d Q qq
    refine h1 B' y hp (List.mem_of_getElem? hy) σ F H r v d Q fun δ2 σ2 r2 k1 k2 p => qq δ2 σ2 r2 k1 k2 fun s0 H0 C cl fp => DT.mono (p s0 H0 C cl fp) fun b δ3 ⟨e1, e2, e3⟩ => ?_
    subst e1
    cases hk : keep y with
    | true =>
      rw [if_pos rfl]
      intro s1 H1 C1 cl1 fp1
      refine DE.mono (e3 hk s1 H1 C1 cl1 fp1) fun z δ4 ⟨q1, q2⟩ => ⟨?_, q2⟩
      rw [take_snoc hy, List.filter_append, List.map_append, q1]
      simp [hk]
    | false =>
      rw [if_neg Bool.false_ne_true]
      refine ⟨?_, e2⟩
      rw [take_snoc hy, List.filter_append]
      simp [hk], fun acc n _ ⟨ha, hn⟩ => by
    subst ha hn
    rw [List.take_length]; exact h2⟩) hc hs
end
section
variable {B : Bs} {δ : St'} {Φ : PE1}
theorem map_bool {xs : List PyData} {f : PyData → Bool} : xs.map (fun y => PyData.bool (f y)) = (xs.map f).map PyData.bool := by simp
theorem rc_allF {xs : List PyData} {f : PyData → Bool} (p : Φ (.bool (xs.all f)) δ) : RC B (rAll B.K) [.list (xs.map fun y => PyData.bool (f y))] δ Φ := by
  rw [map_bool]
  refine rc_all ?_
  have : (xs.map f).all id = xs.all f := by simp
  rw [this]; exact p
theorem rc_anyF {xs : List PyData} {f : PyData → Bool} (p : Φ (.bool (xs.any f)) δ) : RC B (rAny B.K) [.list (xs.map fun y => PyData.bool (f y))] δ Φ := by
  rw [map_bool]
  refine rc_any ?_
  have : (xs.map f).any id = xs.any f := by simp
  rw [this]; exact p
end
end DL

set_option maxHeartbeats 200000

set_option maxHeartbeats 200000
set_option Elab.async false
set_option linter.all false
set_option maxRecDepth 100000
/-! set(..) of a list of ints, of a tuple of unlike texts. -/
namespace LX
open PySem PySem.Spec PyProof.Rows
section
variable {P : Program} {w : World} {A : Around} {E : Value → Shared → Prop} {s : Shared}
/-- what a set holds while it is filled from things, one by one -/
structure Fill (P : Program) (w : World) (A : Around) (n : Nat) (Pv : Nat → Value → Prop) (J : Nat → Heap → Addr → Prop) : Prop where
  zero : ∀ (h : Heap) (S : Addr), h.get? S = some { cls := .type "set", dict := none, data := .set #[] 0 (.fresh 0 0 (!w.params.followText "set-order")) } → J 0 h S
  keeps : ∀ i (h h' : Heap) (S : Addr), J i h S → (∀ o, h.get? S = some o → h'.get? S = some o) → J i h' S
  step : ∀ i v (S : Addr) (E : Value → Shared → Prop) (s : Shared) (Q : Bool → Shared → Prop), i < n → Pv i v → J i s.heap S → (∀ (h' : Heap) (tk : Nat) (u : Bool), s.toks ≤ tk → Heap.SameBut S s.heap h' → J (i + 1) h' S → Q u { s with heap := h', toks := tk }) → wpAny (model P w) A (setAdd S v) Q E s
theorem fill_loop {I : Addr} {fp wr : List Addr} {G : Array GenState → Array GenState → Prop} {n : Nat} {Pv : Nat → Value → Prop} {St : Nat → Shared → Prop} {R : Result → Shared → Prop} {J : Nat → Heap → Addr → Prop}
    (W : WalksS P w A.in1 I fp wr G n Pv St) (Z : Fill P w A.in1 n Pv J) (S : Addr) (nin : S ∉ fp) :
    ∀ (k i : Nat) (s : Shared), n - i = k → i ≤ n → St i s → J i s.heap S →
      (∀ s', Moved (S :: wr) G s s' → J n s'.heap S → R (.ok (.ret .none)) s') →
      codeAny (model P w) A (.builtin "set.update.loop" ⟨[.ref S, .ref I], []⟩) R s := by
  have nwr : S ∉ wr := fun z => nin (W.sub _ z)
  have more : ∀ b ∈ wr, b ∈ S :: wr := fun b z => List.mem_cons_of_mem _ z
  intro k
  induction k with
  | zero =>
    intro i t ek le st0 j0 fin
    obtain rfl : i = n := by omega
    refine codeAny_builtin F.entry_set_update_loop ?_
    rw [Around.under_plainId F.plain_set_update_loop _]
    show wpAny _ A.in1 (pyNext (.ref I) >>= _) _ _ t
    refine wpAny_bind (W.done t _ _ st0 fun t' mv => ?_)
    show wpAny _ A.in1 (ret Value.none) _ _ t'
    exact wpAny_pure (fin t' (mv.mono more) (Z.keeps _ _ _ _ j0 fun o z => mv.heap S o nwr z))
  | succ k ih =>
    intro i t ek le st0 j0 fin
    have lt : i < n := by omega
    refine codeAny_builtin F.entry_set_update_loop ?_
    rw [Around.under_plainId F.plain_set_update_loop _]
    show wpAny _ A.in1 (pyNext (.ref I) >>= _) _ _ t
    refine wpAny_bind (W.item i t _ _ lt st0 fun v t' pv st1 mv => ?_)
    show wpAny _ A.in1 (holding [v] (setAdd S v) >>= _) _ _ t'
    refine wpAny_bind (wpAny_holding ?_)
    refine Z.step i v S _ t' _ lt pv (Z.keeps _ _ _ _ j0 fun o z => mv.heap S o nwr z) fun h' tk u htk sb j1 => ?_
    refine wpAny_pure ⟨plainId_quiet F.plain_set_update_loop _, ih (i + 1) _ (by omega) lt (W.frame _ t' _ _ st1 htk fun b zb o z => ?_) j1 fun t'' mv2 j2 => ?_⟩
    · have nb : b ≠ S := fun q => nin (by rw [← q]; exact zb)
      exact (sb.2 b nb).trans z
    · refine fin t'' (Moved.trans W.gtrans ((mv.mono more).then_heap htk fun b o zb z => ?_) mv2) j2
      have nb : b ≠ S := fun q => zb (by rw [q]; exact List.mem_cons_self)
      exact (sb.2 b nb).trans z

end
end LX

set_option maxHeartbeats 200000
set_option Elab.async false
set_option linter.all false
set_option maxRecDepth 100000
/-! set(..) of a list of ints, of a tuple of unlike texts. -/
namespace LX
open PySem PySem.Spec PyProof.Rows
section
variable {P : Program} {w : World} {A : Around} {E : Value → Shared → Prop} {s : Shared}
set_option maxHeartbeats 3200000 in
/-- set(l) of a list -/
theorem call_fill_list {l : Addr} {items : Array Value} {J : Nat → Heap → Addr → Prop} {Q : Value → Shared → Prop} (calm : A.handled = none) (isl : s.heap.IsList l items)
    (Z : ∀ A', Fill P w A' items.size (fun i v => items[i]? = some v) J)
    (fin : ∀ (h' : Heap) (tk : Nat), J items.size h' s.heap.objs.size → (∀ b o, s.heap.get? b = some o → h'.get? b = some o) → Q (.ref s.heap.objs.size) { s with heap := h', toks := tk }) :
    wpAny (model P w) A (call (.type "set") [.ref l]) Q E s := by
  obtain ⟨c0, t0, m0⟩ := F.called_set.mro
  have k1 := F.called_set.made
  have k2 := F.called_set.sub
  refine wpAny_call (codeAny_of_tree ?_)
  show wpAny _ _ (callAny (.type "set") _) _ _ _
  refine wpAny_pure ⟨Code.quiet_builtin _ (by decide +kernel), codeAny_builtin F.entry_type_call ?_⟩
  rw [Around.under_plain (weight_type_call_type "set" [.ref l] []) rfl]
  have k3 := F.called_set.notType
  have k4 := F.called_set.canCreate
  have k5 := F.typeCall_set_1 (.ref l)
  repeat (any_goals (first | assumption | wp_step))
  refine codeAny_mono (L2.code_set_led1 (.ref l) (E := E) (Q₁ := fun o t => o = .ref s.heap.objs.size ∧ t = { s with heap := s.heap.push { cls := .type "set", dict := none, data := .set #[] 0 (.fresh 0 0 (!w.params.followText "set-order")) } }) ⟨rfl, rfl⟩) fun r t hr => ?_
  rcases r with e | fl
  · exact hr
  cases fl with
  | ret o =>
    obtain ⟨rfl, rfl⟩ := hr
    have g0 : (s.heap.push ({ cls := .type "set", dict := none, data := .set #[] 0 (.fresh 0 0 (!w.params.followText "set-order")) } : Obj)).get? s.heap.objs.size = some ({ cls := .type "set", dict := none, data := .set #[] 0 (.fresh 0 0 (!w.params.followText "set-order")) } : Obj) := Heap.get?_push_size _ rfl
    have ty0 : Shared.TypeIs { s with heap := s.heap.push ({ cls := .type "set", dict := none, data := .set #[] 0 (.fresh 0 0 (!w.params.followText "set-order")) } : Obj) } (.ref s.heap.objs.size) "set" := ⟨_, g0, rfl⟩
    have k6 := F.called_set.init.lookup
    have k7 := F.called_set.init.bind (.ref s.heap.objs.size)
    repeat (any_goals (first | assumption | wp_step))
    refine codeAny_mono (codeAny_call_builtin (R := wants (fun r t => r = .none ∧ ∃ h' tk, t = { s with heap := h', toks := tk } ∧ J items.size h' s.heap.objs.size ∧ (∀ b o, s.heap.get? b = some o → h'.get? b = some o)) E)
      F.called_set.init.plain F.entry_set_init (check_set_init_1 ty0 ?_)) fun r2 t2 hr2 => ?_
    · obtain ⟨ob, hob, hcl, nn, hda⟩ := isl
      obtain ⟨oc, od, oda, os⟩ := ob
      simp only at hcl hda
      subst hcl
      subst hda
      have g1 : (s.heap.push ({ cls := .type "set", dict := none, data := .set #[] 0 (.fresh 0 0 (!w.params.followText "set-order")) } : Obj)).get? l = some { cls := .type "list", dict := od, data := .seq items nn, slots := os } := Heap.get?_push_of_some _ hob
      have k8 := F.sub_list_set
      have k9 := F.sub_list_frozenset
      have ka : (Value.type "list" == Value.type "dict") = false := by decide
      have g2 : (s.heap.push ({ cls := .type "set", dict := none, data := .set #[] 0 (.fresh 0 0 (!w.params.followText "set-order")) } : Obj)).IsList l items := ⟨_, g1, rfl, nn, rfl⟩
      unfold Builtin.«set.__init__» noKeywords Builtin.Frozenset.updateFrom
      generalize hPI : pyIter = PI
      wp_walk
      subst hPI
      refine wpAny_pyIter_list g2 ?_
      refine wpAny_bind (wpAny_runValue ?_)
      have lts : l < s.heap.objs.size := Heap.lt_size hob
      have calm3 : A.in1.in1.in1.handled = none := by simp [calm]
      have ne1 : l ≠ (s.heap.push ({ cls := .type "set", dict := none, data := .set #[] 0 (.fresh 0 0 (!w.params.followText "set-order")) } : Obj)).objs.size := by
        rw [Heap.size_push]
        exact Nat.ne_of_lt (Nat.lt_succ_of_lt lts)
      have nin : s.heap.objs.size ∉ [(s.heap.push ({ cls := .type "set", dict := none, data := .set #[] 0 (.fresh 0 0 (!w.params.followText "set-order")) } : Obj)).objs.size, l] := by
        rw [Heap.size_push]
        simp only [List.mem_cons, List.not_mem_nil, or_false, not_or]
        exact ⟨Nat.ne_of_lt (Nat.lt_succ_self _), Nat.ne_of_gt lts⟩
      refine fill_loop ((Walks.list calm3 _ l ne1 items).toS) (Z _) s.heap.objs.size nin (items.size - 0) 0 _ (by omega) (Nat.zero_le _)
        ⟨⟨_, Heap.get?_push_size _ rfl, rfl, rfl⟩, (g2.push _)⟩ ?j0 ?fn
      case j0 =>
        refine (Z A).zero _ _ ?_
        exact Heap.get?_push_of_some _ g0
      case fn =>
        intro t mv j1
        obtain ⟨h', g', d', tk', os'⟩ := t
        obtain rfl : g' = s.gens := mv.gens
        obtain rfl : d' = s.drawn := mv.drawn
        obtain rfl : os' = s.os := mv.os
        show wpAny _ _ _ _ _ _
        refine wpAny_pure ?_
        show wpAny _ _ (ret Value.none) _ _ _
        refine wpAny_pure ⟨rfl, h', tk', rfl, j1, fun b o z => ?_⟩
        have lb : b < s.heap.objs.size := Heap.lt_size z
        refine mv.heap b o ?_ (Heap.get?_push_of_some _ (Heap.get?_push_of_some _ z))
        rw [Heap.size_push]
        simp only [List.mem_cons, List.not_mem_nil, or_false, not_or]
        exact ⟨Nat.ne_of_lt lb, Nat.ne_of_lt (Nat.lt_succ_of_lt lb)⟩
    · rcases r2 with e2 | fl2
      · exact hr2
      cases fl2 with
      | ret r =>
        obtain ⟨rfl, h', tk, rfl, j1, kp⟩ := hr2
        repeat (any_goals (first | assumption | wp_step))
        exact fin _ _ j1 kp
      | _ => exact hr2.elim
  | _ => exact hr.elim
end
end LX

set_option maxHeartbeats 200000
set_option Elab.async false
set_option linter.all false
set_option maxRecDepth 100000
/-! set(..) of a list of ints, of a tuple of unlike texts. -/
namespace LX
open PySem PySem.Spec PyProof.Rows
section
variable {P : Program} {w : World} {A : Around} {E : Value → Shared → Prop} {s : Shared}
set_option maxHeartbeats 3200000 in
/-- set(l) of a tuple -/
theorem call_fill_tuple {l : Addr} {items : Array Value} {J : Nat → Heap → Addr → Prop} {Q : Value → Shared → Prop} (calm : A.handled = none) (isl : s.heap.IsTuple l items)
    (Z : ∀ A', Fill P w A' items.size (fun i v => items[i]? = some v) J)
    (fin : ∀ (h' : Heap) (tk : Nat), J items.size h' s.heap.objs.size → (∀ b o, s.heap.get? b = some o → h'.get? b = some o) → Q (.ref s.heap.objs.size) { s with heap := h', toks := tk }) :
    wpAny (model P w) A (call (.type "set") [.ref l]) Q E s := by
  obtain ⟨c0, t0, m0⟩ := F.called_set.mro
  have k1 := F.called_set.made
  have k2 := F.called_set.sub
  refine wpAny_call (codeAny_of_tree ?_)
  show wpAny _ _ (callAny (.type "set") _) _ _ _
  refine wpAny_pure ⟨Code.quiet_builtin _ (by decide +kernel), codeAny_builtin F.entry_type_call ?_⟩
  rw [Around.under_plain (weight_type_call_type "set" [.ref l] []) rfl]
  have k3 := F.called_set.notType
  have k4 := F.called_set.canCreate
  have k5 := F.typeCall_set_1 (.ref l)
  repeat (any_goals (first | assumption | wp_step))
  refine codeAny_mono (L2.code_set_led1 (.ref l) (E := E) (Q₁ := fun o t => o = .ref s.heap.objs.size ∧ t = { s with heap := s.heap.push { cls := .type "set", dict := none, data := .set #[] 0 (.fresh 0 0 (!w.params.followText "set-order")) } }) ⟨rfl, rfl⟩) fun r t hr => ?_
  rcases r with e | fl
  · exact hr
  cases fl with
  | ret o =>
    obtain ⟨rfl, rfl⟩ := hr
    have g0 : (s.heap.push ({ cls := .type "set", dict := none, data := .set #[] 0 (.fresh 0 0 (!w.params.followText "set-order")) } : Obj)).get? s.heap.objs.size = some ({ cls := .type "set", dict := none, data := .set #[] 0 (.fresh 0 0 (!w.params.followText "set-order")) } : Obj) := Heap.get?_push_size _ rfl
    have ty0 : Shared.TypeIs { s with heap := s.heap.push ({ cls := .type "set", dict := none, data := .set #[] 0 (.fresh 0 0 (!w.params.followText "set-order")) } : Obj) } (.ref s.heap.objs.size) "set" := ⟨_, g0, rfl⟩
    have k6 := F.called_set.init.lookup
    have k7 := F.called_set.init.bind (.ref s.heap.objs.size)
    repeat (any_goals (first | assumption | wp_step))
    refine codeAny_mono (codeAny_call_builtin (R := wants (fun r t => r = .none ∧ ∃ h' tk, t = { s with heap := h', toks := tk } ∧ J items.size h' s.heap.objs.size ∧ (∀ b o, s.heap.get? b = some o → h'.get? b = some o)) E)
      F.called_set.init.plain F.entry_set_init (check_set_init_1 ty0 ?_)) fun r2 t2 hr2 => ?_
    · obtain ⟨ob, hob, hcl, nn, hda⟩ := isl
      obtain ⟨oc, od, oda, os⟩ := ob
      simp only at hcl hda
      subst hcl
      subst hda
      have g1 : (s.heap.push ({ cls := .type "set", dict := none, data := .set #[] 0 (.fresh 0 0 (!w.params.followText "set-order")) } : Obj)).get? l = some { cls := .type "tuple", dict := od, data := .seq items nn, slots := os } := Heap.get?_push_of_some _ hob
      have k8 := F.sub_tuple_set
      have k9 := F.sub_tuple_frozenset
      have ka : (Value.type "tuple" == Value.type "dict") = false := by decide
      have g2 : (s.heap.push ({ cls := .type "set", dict := none, data := .set #[] 0 (.fresh 0 0 (!w.params.followText "set-order")) } : Obj)).IsTuple l items := ⟨_, g1, rfl, nn, rfl⟩
      unfold Builtin.«set.__init__» noKeywords Builtin.Frozenset.updateFrom
      generalize hPI : pyIter = PI
      wp_walk
      subst hPI
      refine wpAny_pyIter_tuple g2 ?_
      refine wpAny_bind (wpAny_runValue ?_)
      have lts : l < s.heap.objs.size := Heap.lt_size hob
      have calm3 : A.in1.in1.in1.handled = none := by simp [calm]
      have ne1 : l ≠ (s.heap.push ({ cls := .type "set", dict := none, data := .set #[] 0 (.fresh 0 0 (!w.params.followText "set-order")) } : Obj)).objs.size := by
        rw [Heap.size_push]
        exact Nat.ne_of_lt (Nat.lt_succ_of_lt lts)
      have nin : s.heap.objs.size ∉ [(s.heap.push ({ cls := .type "set", dict := none, data := .set #[] 0 (.fresh 0 0 (!w.params.followText "set-order")) } : Obj)).objs.size, l] := by
        rw [Heap.size_push]
        simp only [List.mem_cons, List.not_mem_nil, or_false, not_or]
        exact ⟨Nat.ne_of_lt (Nat.lt_succ_self _), Nat.ne_of_gt lts⟩
      refine fill_loop ((Walks.tuple calm3 _ l ne1 items).toS) (Z _) s.heap.objs.size nin (items.size - 0) 0 _ (by omega) (Nat.zero_le _)
        ⟨⟨_, Heap.get?_push_size _ rfl, rfl, rfl⟩, (g2.push _)⟩ ?j0 ?fn
      case j0 =>
        refine (Z A).zero _ _ ?_
        exact Heap.get?_push_of_some _ g0
      case fn =>
        intro t mv j1
        obtain ⟨h', g', d', tk', os'⟩ := t
        obtain rfl : g' = s.gens := mv.gens
        obtain rfl : d' = s.drawn := mv.drawn
        obtain rfl : os' = s.os := mv.os
        show wpAny _ _ _ _ _ _
        refine wpAny_pure ?_
        show wpAny _ _ (ret Value.none) _ _ _
        refine wpAny_pure ⟨rfl, h', tk', rfl, j1, fun b o z => ?_⟩
        have lb : b < s.heap.objs.size := Heap.lt_size z
        refine mv.heap b o ?_ (Heap.get?_push_of_some _ (Heap.get?_push_of_some _ z))
        rw [Heap.size_push]
        simp only [List.mem_cons, List.not_mem_nil, or_false, not_or]
        exact ⟨Nat.ne_of_lt lb, Nat.ne_of_lt (Nat.lt_succ_of_lt lb)⟩
    · rcases r2 with e2 | fl2
      · exact hr2
      cases fl2 with
      | ret r =>
        obtain ⟨rfl, h', tk, rfl, j1, kp⟩ := hr2
        repeat (any_goals (first | assumption | wp_step))
        exact fin _ _ j1 kp
      | _ => exact hr2.elim
  | _ => exact hr.elim
end
end LX

set_option maxHeartbeats 200000
set_option Elab.async false
set_option linter.all false
set_option maxRecDepth 100000
namespace DL
open PySem PySem.Spec PyProof.Rows L2

/-! ### set(..) -/
theorem fill_ints {P : Program} {w : World} {ns : List Int} {items : Array Value} (hi : IntsAre items.toList ns) (hb : ns.length + 1 < scanBound) (A : Around) :
    LX.Fill P w A items.size (fun i v => items[i]? = some v) (fun i h S => ∃ c, c ≤ i ∧ SetR w h S (fun j => decide (j ∈ ns.take i)) c) where
  zero := fun h S e => ⟨0, Nat.le_refl _, setR_new_at e⟩
  keeps := fun i h h' S ⟨c, h1, h2⟩ k => ⟨c, h1, h2.at k⟩
  step := fun i v S E s Q hl hv ⟨c, hc, hS⟩ fin => by
    have hsz : items.size = ns.length := by
      have q := IntsAre.length hi
      rw [Array.length_toList] at q
      exact q
    have hi' : i < ns.length := by omega
    obtain ⟨t, e⟩ := PyProof.Rows.IntsAre.int_at hi i v (by rw [Array.getElem?_toList]; exact hv)
    have hz : ns[i]? = some ns[i] := List.getElem?_eq_getElem hi'
    have ev : v = .int ns[i] t := by
      rw [e, List.getD_eq_getElem?_getD, hz] <;> rfl
    subst ev
    unfold setAdd
    refine wpAny_holding ?_
    refine wpAny_bind ((intKind P w).pyHash (k := ns[i]) (intKind_is _ _ _ _) ?_)
    refine setR_add_hashed (s := { s with toks := s.toks + 1 }) hS (by omega) fun h' sb new => ?_
    refine fin h' _ _ (Nat.le_succ _) sb ⟨_, ?_, new.congr fun j => ?_⟩
    · split <;> omega
    · rw [take_snoc hz]
      simp only [List.mem_append, List.mem_singleton, Bool.decide_or]
theorem fill_strs {P : Program} {w : World} {ss : List Str} {items : Array Value} (hi : StrsAre items.toList ss) (nd : ss.Nodup) (hb : ss.length + 1 < scanBound) (A : Around) :
    LX.Fill P w A items.size (fun i v => items[i]? = some v) (fun i h S => h.SetOf (PySem.strKind P w) S (fun k => (ss.take i).any (· == k)) i) where
  zero := fun h S e => PyProof.Rows.SetOf_congr ((PyProof.Rows.setObjOf_fresh (knd := PySem.strKind P w) _).setOf e (by unfold scanBound; omega)) (fun _ => rfl) rfl
  keeps := fun i h h' S ⟨o, es, ep, t, ho, r⟩ k => ⟨o, es, ep, t, k o ho, r⟩
  step := fun i v S E s Q hl hv hS fin => by
    have hsz : items.size = ss.length := by
      rw [← Array.length_toList]
      exact StrsAre.len_eq hi
    have hi' : i < ss.length := by omega
    obtain ⟨t, e⟩ := SS.strs_at hi i v (by rw [Array.getElem?_toList]; exact hv)
    have hz : ss[i]? = some ss[i] := List.getElem?_eq_getElem hi'
    have ev : v = .str ss[i] t := by
      rw [e, List.getD_eq_getElem?_getD, hz] <;> rfl
    subst ev
    unfold setAdd
    refine wpAny_holding ?_
    refine wpAny_bind ((PySem.strKind P w).pyHash (k := ss[i]) (strKind_is _ _ _ _) ?_)
    refine wpAny_setAddHashed_of (knd := PySem.strKind P w) (s := { s with toks := s.toks + 1 }) (strKind_is _ _ _ _) rfl hS (by unfold scanBound at *; omega) fun h' sb new => ?_
    have no : (ss.take i).any (· == ss[i]) = false := by
      rw [Bool.eq_false_iff]
      intro h
      rw [List.any_eq_true] at h
      obtain ⟨y, h1, h2⟩ := h
      have h2 := eq_of_beq h2
      subst h2
      obtain ⟨j, hj, ej⟩ := List.getElem_of_mem h1
      rw [List.length_take] at hj
      rw [List.getElem_take] at ej
      have := (List.getElem_inj nd).mp ej
      omega
    refine fin h' _ _ (Nat.le_succ _) sb (PyProof.Rows.SetOf_congr new (fun k => ?_) ?_)
    · rw [List.take_add_one, hz]
      simp only [Option.toList, List.any_append, List.any_cons, List.any_nil, Bool.or_false]
      congr 1
      by_cases e : k = ss[i]
      · subst e; simp
      · have e' : ¬ ss[i] = k := fun z => e z.symm
        rw [decide_eq_false e]
        exact (beq_eq_false_iff_ne.mpr e').symm
    · rw [no]; rfl
section
variable {X : Cx}
/-- set(xs), a list of ints -/
def rSetLI (w : World) (K : PySem.W.Frag) : List V → Hp → VK → Prop := fun vs H Q => ∃ (a : Addr) (ns : List Int), vs = [V.ref a] ∧ SqL K H a (ns.map V.int) ∧ ns.length ≤ 1000 ∧
  ∀ (ls : List Int) (p : Addr), ls.Nodup → (∀ k, k ∈ ls ↔ k ∈ ns) → H p = none → Q (.ref p) (upd H p (isetO w p ls))
theorem cr_setLI (hc : X.calm = true) : CallR X (.type "set") (rSetLI X.w X.K) := by
  intro pins s σ H vs us Q I r h
  obtain ⟨a, ns, rfl, hS, hl, q⟩ := h
  obtain ⟨its, rv, ⟨o, n, ho, hcl, hd, hda⟩, hz⟩ := I.list hS
  obtain ⟨u, rfl, ru⟩ := vals1 r
  cases ru
  have hi : IntsAre its.toArray.toList ns := by simpa using intsAre_of rv
  refine LX.call_fill_list (I.ok.hd hc) ⟨o, ho, hcl, n, hda⟩ (fun A' => fill_ints hi (by unfold scanBound; omega) A') fun h' tk j1 kp => ?_
  obtain ⟨c, hc', hR⟩ := j1
  have R0 : SetR X.w h' s.heap.objs.size (fun j => decide (j ∈ ns)) c := hR.congr fun k => by
    have : its.toArray.size = ns.length := by
      have q := IntsAre.length hi
      rw [Array.length_toList] at q
      exact q
    rw [this, List.take_length]
  have hn : H s.heap.objs.size = none := I.hok.fresh (Nat.le_refl _)
  obtain ⟨ob, es, ep, t, e1, e2, e3, e4, e5, e6, e7, e8, e9, ea, eb⟩ := id R0
  have key : (fun k : Int => decide (k ∈ es.toList.map keyOf)) = fun j => decide (j ∈ ns) := by
    funext k
    have := e6 k
    by_cases hk : k ∈ ns
    · rw [decide_eq_true hk]; exact decide_eq_true (this.mp (decide_eq_true hk))
    · rw [decide_eq_false hk]; exact decide_eq_false fun z => hk (of_decide_eq_true (this.mpr z))
  have len : (es.toList.map keyOf).length = c := by simp [e9]
  have eo : isetO X.w s.heap.objs.size (es.toList.map keyOf) = SetO X.w s.heap.objs.size (fun j => decide (j ∈ ns)) c := by
    unfold isetO
    rw [key, len]
  have q' := q (es.toList.map keyOf) s.heap.objs.size e5 (fun k => by
    have := e6 k
    rw [decide_eq_true_eq] at this
    exact this.symm) hn
  rw [eo] at q'
  exact ⟨.ref _, _, I.laid (t' := tk) kp (Nat.le_refl _) (setO_new R0), rfl, q'⟩
end
section
variable {B : B0} {X : Cx} {a : Expr} {δ : St'} {Φ : PE1} {p p2 q pos : Pos}
/-- len(set(t)), t a tuple of unlike texts -/
theorem de_lenSet (hm : X.mg "len" = none) (hm2 : X.mg "set" = none) (h : DE B X a δ fun d δ' => ∃ ss : List Str, d = .tuple (ss.map PyData.str) ∧ ss.Nodup ∧ ss.length ≤ 1000 ∧ Φ (.int ss.length) δ')
    (hc : X.calm = true := by rfl) (hg : Gl X "len" := by rfl) (hg2 : Gl X "set" := by rfl) (na : starEach [a] X.env = (false, eval a X.env) :: starEach [] X.env := by rfl) : DE B X (.Call (.Name "len" p) [.Call (.Name "set" p2) [a] [] q] [] pos) δ Φ := fun σ F H r Q qq pins s I => by
  refine Call_ (ld_blt I hg hm boot_len ?_)
  refine PyProof.Rows.callWith_builtin1 (PyProof.Rows.args_cons ?_ rfl) rfl rfl
  refine Call_ (ld_blt I hg2 hm2 boot_set ?_)
  refine PyProof.Rows.callWith_type1 (PyProof.Rows.args_cons (thn ((pe_w (X := X) (e := a)).run pins s σ H (fun v H1 => ∃ d δ' F1, Same F F1 ∧ Rep (bs X B) δ' σ F1 H1 ∧ Dq X.K F1 v d ∧ ∃ ss : List Str, d = .tuple (ss.map PyData.str) ∧ ss.Nodup ∧ ss.length ≤ 1000 ∧ Φ (.int ss.length) δ') I (h σ F H r _ fun v x δ' F' H' e r' d p => ⟨x, δ', F', e, r', d, p⟩)) fun v s1 ⟨x, H1, I1, r1, q1⟩ => PyProof.Rows.args_nil ?_) na) na rfl
  obtain ⟨d, δ', F1, e1, rr, dd, ss, rfl, nd, hl, ph⟩ := q1
  cases dd with
  | @tup a0 us ds hs ha =>
    cases r1
    have hus : us = ss.map V.str := by
      rw [atoms_v ha (by simp [atom]), List.map_map]
      rfl
    subst hus
    obtain ⟨its, rv, ht, hz⟩ := I1.tuple (seqT rr.ex hs)
    have hi : StrsAre its.toArray.toList ss := by simpa using strsAre_of rv
    have hsz : its.toArray.size = ss.length := by rw [List.size_toArray, ← rv.length, List.length_map]
    refine LX.call_fill_tuple (I1.ok.hd hc) ht (fun A' => fill_strs hi nd (by unfold scanBound; omega) A') fun h' tk j1 kp => ?_
    refine PyProof.Rows.args_nil ?_
    rw [hsz] at j1
    obtain ⟨o, es, ep, t, ho, hex, hd, _, _, _, hf, hn⟩ := j1
    have I2 : Inv X pins σ H1 { s1 with heap := h', toks := tk } := I1.kept fun b o e => kp b o e
    refine call_len_set ho hex hd hf (by rw [hn] <;> omega) ⟨.int ss.length, H1, I2.tok _, ⟨_, by rw [hn]⟩, qq _ _ δ' F1 H1 e1 rr (.int _) ph⟩
end
end DL

set_option maxHeartbeats 200000
set_option Elab.async false
set_option linter.all false
set_option maxRecDepth 100000
set_option maxHeartbeats 1000000
namespace DL
open PySem PySem.Spec PyProof.Rows L2
open PySem.W (alike alikeAll dataLt dataLe AllAlike Sortable EachIs)

/-! ### xs + ys, whatever lists they are -/
open PySem.AutoSeq1 (wpAny_loadPart') in
theorem meets_cat (l : Addr) (items : Array Value) (n : Nat) (dd : Option Addr) (sl : Array (Option Value)) (b : Addr) (items2 : Array Value) (n2 : Nat) (dd2 : Option Addr) (sl2 : Array (Option Value)) (hz : items.size + items2.size ≤ sizeLine) :
    Meets (Builtin.«list.__add__» ⟨[.ref l, .ref b], []⟩) (fun _ R s => s.heap.get? l = some { cls := .type "list", dict := dd, data := .seq items n, slots := sl } ∧ s.heap.get? b = some { cls := .type "list", dict := dd2, data := .seq items2 n2, slots := sl2 } ∧
      R (.ok (.ret (Value.ref s.heap.objs.size))) { s with heap := s.heap.push { cls := Value.type "list", data := Data.seq (items ++ items2) } }) :=
  .of_wp fun prog w A R s h => by
    obtain ⟨hp, g, d, tk, os⟩ := s
    obtain ⟨h1, h2, h⟩ := h
    have f1 := AutoSeq1.idx_int
    have f2 := AutoSeq1.sub_tuple_tuple
    have f3 := AutoSeq1.sub_list_list
    have f4 := AutoSeq1.sub_tuple_list
    have f5 := AutoSeq1.sub_list_tuple
    wp_walk using wpAny_loadPart' h1, wpAny_loadPart' h2
    exact ⟨_, rfl, h⟩
section
variable {X : Cx}
def rCatL (K : PySem.W.Frag) : R2 := fun x y H Q => ∃ l b xs zs, x = .ref l ∧ y = .ref b ∧ SqL K H l xs ∧ SqL K H b zs ∧ xs.length + zs.length ≤ 100000 ∧ ∀ p, H p = none → Q (.ref p) (upd H p (.lst (xs ++ zs)))
theorem op_catL : OpR X (binaryOp .Add) (rCatL X.K) := by
  intro pins s σ H x y v u Q I rx ry h
  obtain ⟨l, b, xs, zs, rfl, rfl, h1, h2, hz, q⟩ := h
  cases rx
  cases ry
  obtain ⟨its, r1, ⟨⟨c1, d1, da1, sl1⟩, n1, o1, e1, e2, e3⟩, _⟩ := I.list h1
  obtain ⟨its2, r2, ⟨⟨c2, d2, da2, sl2⟩, n2, o2, k1, k2, k3⟩, _⟩ := I.list h2
  simp only at e1 e2 e3 k1 k2 k3
  subst e1 e3 k1 k3
  have l1 := r1.length
  have l2 := r2.length
  have hzz : its.toArray.size + its2.toArray.size ≤ sizeLine := Nat.le_trans (by rw [List.size_toArray, List.size_toArray]; omega) (by decide : 100000 ≤ sizeLine)
  refine concat_meets ⟨_, o1, rfl⟩ ⟨_, o2, rfl⟩ noFill_list_add seq_list_add F.slot_list_add F.entry_list_add (F.args_list_add_2 _ _) (meets_cat l its.toArray n1 d1 sl1 b its2.toArray n2 d2 sl2 hzz) ⟨o1, o2, ?_⟩
  have ea : its.toArray ++ its2.toArray = (its ++ its2).toArray := by simp
  rw [ea]
  exact ⟨.ref _, _, I.lnew (t' := s.toks) (r1.append r2) (Nat.le_trans (by rw [List.length_append]; omega) (by decide : 100000 ≤ sizeLine)), rfl, q _ I.fresh⟩
/-! ### a < b of data that are alike -/
theorem dp0_len {K : PySem.W.Frag} {H : Hp} : ∀ {vs : List V} {ds : List PyData}, DpAll K H vs ds → vs.length = ds.length
  | _, [], h => by cases h; rfl
  | _, _ :: _, h => by
    cases h with
    | cons _ h2 => simp [dp0_len h2]
def rLtD (K : PySem.W.Frag) : R2 := fun x y H Q => ∃ d e, Dp K H x d ∧ Dp K H y e ∧ alike d e = true ∧ d ≠ .none ∧ d.depth ≤ 60 ∧ Q (.bl (dataLt d e)) H
theorem op_ltD (hu : X.A.units + 64 < cLine) : OpR X (compareOp .Lt) (rLtD X.K) := by
  intro pins s σ H x y v u Q I rx ry h
  obtain ⟨d, e, h1, h2, ha, hn, hd, q⟩ := h
  obtain ⟨as, r1⟩ := Dp.reads I d x v h1 rx
  obtain ⟨bs, r2⟩ := Dp.reads I e y u h2 ry
  exact PySem.W.rcLt_alike d e X.A s v u as bs r1 r2 ha hn (by have : min d.depth e.depth ≤ d.depth := Nat.min_le_left _ _; omega) X.prog X.w X.xe _ ⟨.bl (dataLt d e), H, I, rfl, q⟩
/-! ### sorted(xs) -/
theorem each_zip {H : Hp} {pins : List (Addr × Obj)} {σ : List (Option V)} {s : Shared} (I : Inv X pins σ H s) : ∀ {us : List V} {ds : List PyData} {its : List Value}, Vals us its → DpAll X.K H us ds →
    EachIs (fun (v : Value) (b : V × PyData) => RelV b.1 v) its (us.zip ds) ∧ EachIs (fun v (b : V × PyData) => ∃ as, Reads s.heap v b.2 as) its (us.zip ds)
  | _, [], _, r, h => by
    cases h
    cases r
    exact ⟨.nil, .nil⟩
  | _, d :: ds, _, r, h => by
    cases h with
    | cons h1 h2 =>
      cases r with
      | cons r1 r2 =>
        obtain ⟨a1, a2⟩ := each_zip I r2 h2
        obtain ⟨as, q⟩ := Dp.reads I d _ _ h1 r1
        exact ⟨.cons r1 a1, .cons ⟨as, q⟩ a2⟩
theorem vals_each : ∀ {out : List Value} {ps : List (V × PyData)}, EachIs (fun (v : Value) (b : V × PyData) => RelV b.1 v) out ps → Vals (ps.map (·.1)) out
  | _, _, .nil => .nil
  | _, _, .cons r t => .cons r (vals_each t)
def rSortD (K : PySem.W.Frag) : List V → Hp → VK → Prop := fun vs H Q => ∃ a us ds, vs = [V.ref a] ∧ SqL K H a us ∧ DpAll K H us ds ∧ AllAlike ds ∧ Sortable ds ∧ ds.length ≤ 100000 ∧ (∀ d ∈ ds, d.depth ≤ 60) ∧
  ∀ p, H p = none → Q (.ref p) (upd H p (.lst (((us.zip ds).mergeSort (dataLe false (·.2))).map (·.1))))
theorem zip_snd {us : List V} {ds : List PyData} (h : us.length = ds.length) : (us.zip ds).map (·.2) = ds := by
  exact List.map_snd_zip (by omega)
theorem cr_sortD (hu : X.A.units + 70 < cLine) : CallR X (.builtin "sorted") (rSortD X.K) := by
  intro pins s σ H vs us' Q I r h
  obtain ⟨a, us, ds, rfl, hS, hd, hal, hso, hl, hdep, q⟩ := h
  obtain ⟨its, rv, ⟨o, n, ho, hcl, hdn, hda⟩, hz⟩ := I.list hS
  obtain ⟨u, rfl, ru⟩ := vals1 r
  cases ru
  have hlen := dp0_len hd
  have hsnd : (us.zip ds).map (fun b : V × PyData => b.2) = ds := zip_snd hlen
  obtain ⟨e1, e2⟩ := each_zip I rv hd
  have hbl : (us.zip ds).length = ds.length := by simp; omega
  refine PySem.W.sorted_data (s := s) (vs := its) (bs := us.zip ds) (R := fun v b => RelV b.1 v) (enc := fun b : V × PyData => b.2) ⟨o, ho, hcl, n, hda⟩ e1 e2 (by rw [hsnd]; exact hal) (by rw [hsnd]; exact hso)
    (Nat.le_trans (by rw [hbl]; exact hl) (by decide : 100000 ≤ sizeLine)) (fun b hb => ?_) fun out hol hout => ?_
  · have : b.2 ∈ ds := by rw [← hsnd]; exact List.mem_map_of_mem hb
    have := hdep _ this
    omega
  · obtain ⟨c, hc⟩ := sortedAll_at s.heap its out.toArray
    have hp : s.heap.objs.size ≤ s.heap.objs.size + 1 := Nat.le_succ _
    have hn : H (s.heap.objs.size + 1) = none := I.hok.fresh hp
    have hv := vals_each hout
    refine ⟨.ref _, _, I.laid (t' := s.toks) (o := .lst (((us.zip ds).mergeSort (dataLe false (·.2))).map (·.1))) (fun b u e => sortedAll_old e) hp ⟨?_, out, c, hv, hc⟩, rfl, q _ hn⟩
    rw [hv.length, hol, hbl]
    exact Nat.le_trans hl (by decide : 100000 ≤ sizeLine)
/-! ### xs.count(x) -/
def rCntD (K : PySem.W.Frag) : V → List V → Hp → VK → Prop := fun x xs H Q => ∃ a us ds y d, x = .ref a ∧ xs = [y] ∧ SqL K H a us ∧ DpAll K H us ds ∧ Dp K H y d ∧ PyData.plainAll ds = true ∧ d.plain = true ∧ d.depth ≤ 60 ∧ Q (.int (ds.countP fun z => PyData.eqv z d : Nat)) H
theorem mt_countD (hu : X.A.units + 64 < cLine) : MtR X "list.count" (rCntD X.K) := by
  intro pins s σ H x xs v us' Q I rx rxs h
  obtain ⟨a, us, ds, y, d, rfl, rfl, hS, hd, hy, hp, hp2, hdep, q⟩ := h
  cases rx
  obtain ⟨u, rfl, ru⟩ := rxs.one
  obtain ⟨its, rv, ⟨o, n, ho, hcl, hdn, hda⟩, hz⟩ := I.list hS
  obtain ⟨as, r1⟩ := Dp.readsAll I ds _ its hd rv
  obtain ⟨bs, r2⟩ := Dp.reads I d y u hy ru
  exact PySem.SeqAt.count_list_data ⟨o, ho, hcl, n, hda⟩ (by simpa using r1) r2 hp hp2 (by have : min (PyData.depthAll ds) d.depth ≤ d.depth := Nat.min_le_right _ _; omega) ⟨.int _, H, I.tok _, ⟨_, rfl⟩, q⟩
/-! ### a text n times -/
def repS (x : Str) (n : Nat) : Str := ⟨(List.replicate n x.cps).foldl (· ++ ·) #[]⟩
theorem fold_toList (a : Array Nat) : ∀ (n : Nat) (b : Array Nat), ((List.replicate n a).foldl (· ++ ·) b).toList = b.toList ++ (List.replicate n a.toList).flatten
  | 0, b => by simp
  | n + 1, b => by
    rw [List.replicate_succ, List.foldl_cons, fold_toList a n (b ++ a), List.replicate_succ, List.flatten_cons]
    simp
theorem repS_toList {x : Str} {n : Nat} : (repS x n).cps.toList = (List.replicate n x.cps.toList).flatten := by
  unfold repS
  rw [fold_toList]
  simp
theorem repS_len {x : Str} {n : Nat} : (repS x n).length = n * x.length := by
  show (repS x n).cps.size = n * x.cps.size
  rw [← Array.length_toList, repS_toList]
  simp
def rMulS : R2 := fun x y H Q => ∃ (z : Str) (n : Nat), x = .str z ∧ y = .int (n : Nat) ∧ 1 ≤ z.length ∧ z.length ≤ 100 ∧ n ≤ 100 ∧ Q (.str (if n = 0 then Str.empty else if n = 1 then z else repS z n)) H
theorem op_mulS : OpR X (binaryOp .Mult) rMulS := by
  intro pins s σ H x y v u Q I rx ry h
  obtain ⟨z, n, rfl, rfl, h1, h2, h3, q⟩ := h
  obtain ⟨t, rfl⟩ := rx
  obtain ⟨t', rfl⟩ := ry
  have hprod : z.length * n ≤ 10000 := Nat.le_trans (Nat.mul_le_mul h2 h3) (by decide)
  have hsz : sizeLine = 16777216 := sizeLine_eq
  have e1 : (decide ((n : Int) < -(2 ^ 63 : Int)) || decide ((n : Int) ≥ 2 ^ 63)) = false := by
    rw [decide_eq_false (by omega), decide_eq_false (by omega)]; rfl
  have e2 : Builtin.Str.tooLong (z.length * (n : Int).toNat) = false := by
    rw [Int.toNat_natCast]
    unfold Builtin.Str.tooLong
    rw [decide_eq_false (by omega)]
  refine PySem.P.mul_str e1 (fun h0 _ hgt => ?_) (fun _ _ => e2) ?_
  · have hn : 1 ≤ n := by omega
    have h5 : (100 : Int) ≤ ((2 : Int) ^ 63 - 1) / (n : Int) := Int.le_ediv_of_mul_le (by omega) (by omega)
    omega
  · by_cases h0 : n = 0
    · subst h0
      rw [if_pos rfl] at q
      rw [if_pos (by decide)]
      exact ⟨by decide, ⟨.str _, H, I.tok _, ⟨_, rfl⟩, q⟩⟩
    · rw [if_neg h0] at q
      rw [if_neg (by omega)]
      by_cases h7 : n = 1
      · subst h7
        rw [if_pos rfl] at q
        rw [if_pos (by rfl)]
        exact ⟨.str _, H, I, ⟨_, rfl⟩, q⟩
      · rw [if_neg h7] at q
        have : (((n : Int) == 1) || (z.length == 0)) = false := by
          rw [Bool.or_eq_false_iff]
          exact ⟨beq_eq_false_iff_ne.mpr (by omega), beq_eq_false_iff_ne.mpr (by omega)⟩
        rw [if_neg (by rw [this]; exact Bool.false_ne_true), Int.toNat_natCast]
        refine ⟨?_, ⟨.str _, H, I.tok _, ⟨_, rfl⟩, q⟩⟩
        have e3 : (repS z n).length = n * z.length := repS_len
        show (repS z n).length ≤ sizeLine
        rw [e3, Nat.mul_comm]
        omega
end
end DL

set_option maxHeartbeats 200000
set_option Elab.async false
set_option linter.all false
set_option maxRecDepth 100000
set_option maxHeartbeats 1000000
namespace DL
open PySem PySem.Spec PyProof.Rows L2
open PySem.W (alike alikeAll dataLt dataLe AllAlike Sortable EachIs)
section
variable {B : Bs} {δ : St'} {σ : List (Option V)} {F H : Hp} {Φ : PE1} {te ta tb : TE}
theorem Rep.newL (r : Rep B δ σ F H) {p : Addr} (hp : H p = none) (us : List V) : Rep B δ σ F (upd H p (.lst us)) ∧ B.H p = none ∧ F p = none ∧ ∀ (i : Nat) (c : C), δ.s[i]? = some (some c) → own? c = true → σ[i]? ≠ some (some (.ref p)) := by
  obtain ⟨h1, h2, _, h4⟩ := r.fresh hp
  exact ⟨r.side h2 h1 h4, h1, h2, h4⟩
abbrev PL := List PyData → St' → Prop
theorem wl_cat {Ψ : PL} (h : WE B ta δ fun x δ1 => ∃ xs, x = .list xs ∧ WE B tb δ1 fun y δ2 => ∃ ys, y = .list ys ∧ xs.length + ys.length ≤ 100000 ∧ Ψ (xs ++ ys) δ2) : WL B (tOp (rCatL B.K) ta tb) δ Ψ := fun σ F H r Q q =>
  h σ F H r _ fun v x δ1 F1 H1 e1 r1 d1 ⟨xs, hx, p1⟩ => p1 σ F1 H1 r1 _ fun u y δ2 F2 H2 e2 r2 d2 ⟨ys, hy, hz, p2⟩ => by
    subst hx hy
    cases d1 with
    | lst hs ha =>
      cases d2 with
      | lst hs2 ha2 =>
        refine ⟨_, _, _, _, rfl, rfl, (e2.trans r2.ex).seq hs, r2.ex.seq hs2, by rw [dpAll_len ha, dpAll_len ha2]; exact hz, fun p hp => ?_⟩
        obtain ⟨k1, k2, k3, k4⟩ := r2.newL hp (_ ++ _)
        exact q p _ _ δ2 F2 _ (e1.trans e2) k1 k2 k3 upd_same k4 (dpAll_app (dpAll_mono e2 _ _ ha) ha2) p2
theorem sort_snd {us : List V} {ds : List PyData} (h : us.length = ds.length) : ((us.zip ds).mergeSort (dataLe false (·.2))).map (·.2) = ds.mergeSort (dataLe false id) := by
  have := List.map_mergeSort (r := dataLe false (fun b : V × PyData => b.2)) (s := dataLe false id) (f := fun b : V × PyData => b.2) (l := us.zip ds) (fun a _ b _ => rfl)
  rw [this]
  congr 1
  exact zip_snd h
theorem dpAll_mem {K : PySem.W.Frag} {F : Hp} : ∀ {us : List V} {ds : List PyData}, DqAll K F us ds → ∀ p ∈ us.zip ds, Dq K F p.1 p.2
  | _, [], h, p, hp => by cases h; simp at hp
  | _, _ :: _, h, p, hp => by
    cases h with
    | cons h1 h2 =>
      simp only [List.zip_cons_cons, List.mem_cons] at hp
      rcases hp with rfl | hp
      · exact h1
      · exact dpAll_mem h2 p hp
theorem dpAll_of {K : PySem.W.Frag} {F : Hp} : ∀ {ps : List (V × PyData)}, (∀ p ∈ ps, Dq K F p.1 p.2) → DqAll K F (ps.map (·.1)) (ps.map (·.2))
  | [], _ => .nil
  | p :: ps, h => .cons (h p List.mem_cons_self) (dpAll_of fun q hq => h q (List.mem_cons_of_mem _ hq))
def sortD (ds : List PyData) : List PyData := ds.mergeSort (dataLe false id)
theorem wl_sorted {ta : TA} {Ψ : PL} (h : WA B ta δ fun xs δ1 => ∃ ds, xs = [.list ds] ∧ noHs ds = true ∧ AllAlike ds ∧ Sortable ds ∧ ds.length ≤ 100000 ∧ (∀ d ∈ ds, d.depth ≤ 60) ∧ Ψ (sortD ds) δ1) : WL B (tCB (rSortD B.K) ta) δ Ψ := fun σ F H r Q q =>
  h σ F H r _ fun vs xs δ1 F1 H1 e1 r1 d1 ⟨ds, hx, h0, h1, h2, h3, h4, p1⟩ => by
    subst hx
    cases d1 with
    | cons d1 d2 =>
      cases d2
      cases d1 with
      | lst hs ha =>
        rename_i us
        refine ⟨_, us, ds, rfl, r1.ex.seq hs, dqs_dps _ _ h0 (dpAll_mono r1.ex _ _ ha), h1, h2, h3, h4, fun p hp => ?_⟩
        obtain ⟨k1, k2, k3, k4⟩ := r1.newL hp (((us.zip ds).mergeSort (dataLe false (·.2))).map (·.1))
        have hd : DqAll B.K F1 (((us.zip ds).mergeSort (dataLe false (·.2))).map (·.1)) (sortD ds) := by
          unfold sortD
          rw [← sort_snd (dpAll_len ha)]
          exact dpAll_of fun p hp => dpAll_mem ha p ((List.mergeSort_perm _ _).mem_iff.mp hp)
        exact q p _ _ δ1 F1 _ e1 k1 k2 k3 upd_same k4 hd p1
/-- list(x) -/
theorem wl_list {ta : TA} {Ψ : PL} {K} (hK : K = B.K) (h : WA B ta δ fun xs δ1 => ∃ ds, (xs = [.list ds] ∨ xs = [.tuple ds]) ∧ Ψ ds δ1) : WL B (tCB (fun xs H Q => ∃ p ys, xs = [.ref p] ∧ (SqL K H p ys ∨ SqT K H p ys) ∧ ∀ l, H l = none → Q (.ref l) (upd H l (.lst ys))) ta) δ Ψ := fun σ F H r Q q =>
  h σ F H r _ fun vs xs δ1 F1 H1 e1 r1 d1 ⟨ds, hx, p1⟩ => by
    subst hK
    rcases hx with rfl | rfl
    · cases d1 with
      | cons d1 d2 =>
        cases d2
        cases d1 with
        | lst hs ha =>
          refine ⟨_, _, rfl, .inl (r1.ex.seq hs), fun p hp => ?_⟩
          obtain ⟨k1, k2, k3, k4⟩ := r1.newL hp _
          exact q p _ _ δ1 F1 _ e1 k1 k2 k3 upd_same k4 ha p1
    · cases d1 with
      | cons d1 d2 =>
        cases d2
        cases d1 with
        | tup hs ha =>
          refine ⟨_, _, rfl, .inr (seqT r1.ex hs), fun p hp => ?_⟩
          obtain ⟨k1, k2, k3, k4⟩ := r1.newL hp _
          exact q p _ _ δ1 F1 _ e1 k1 k2 k3 upd_same k4 ha p1
/-- tuple(xs) -/
theorem rc_tupleL {K} (hK : K = B.K) {ds : List PyData} (p : Φ (.tuple ds) δ) : RC B (fun xs H Q => ∃ p ys, xs = [.ref p] ∧ ((SqL K H p ys ∧ ∀ l, H l = none → Q (.ref l) (upd H l (.tup ys))) ∨ (SqT K H p ys ∧ Q (.ref p) H))) [.list ds] δ Φ := fun σ F H r vs d1 Q q => by
  subst hK
  cases d1 with
  | cons d1 d2 =>
    cases d2
    cases d1 with
    | lst hs ha =>
      refine ⟨_, _, rfl, .inl ⟨r.ex.seq hs, fun l hl => ?_⟩⟩
      obtain ⟨F2, k1, k2, _, _, k5⟩ := r.newT hl ha
      exact q _ _ δ F2 _ k1 k2 k5 p
/-- slices -/
theorem we_sl {r : V → Option Int → Option Int → Hp → VK → Prop} {lo hi : Option Int} {tl th : TO} (hl : ∀ σ H (Q : Option Int → Hp → Prop), Q lo H → tl σ H Q) (hh : ∀ σ H (Q : Option Int → Hp → Prop), Q hi H → th σ H Q)
    (h : WE B te δ fun x δ1 => RU B (fun v H Q => r v lo hi H Q) x δ1 Φ) : WE B (tSl r te tl th) δ Φ := fun σ F H rp Q q =>
  h σ F H rp _ fun v x δ1 F1 H1 e1 r1 d1 p1 => hl σ H1 _ (hh σ H1 _ (p1 σ F1 H1 r1 v d1 Q fun v' x' δ' F' H' e' r' d' p' => q v' x' δ' F' H' (e1.trans e') r' d' p'))
theorem ru_slS {lo hi : Option Int} {x : Str} (hz : x.length ≤ 100000) (p : Φ (.str (cutS x lo hi)) δ) : RU B (fun v H Q => rSlS v lo hi H Q) (.str x) δ Φ := ru_pure (w := .str (cutS x lo hi)) (fun _ => .str _) (fun F H v e d1 Q q => by cases d1; exact ⟨x, rfl, Nat.le_trans hz (by decide), q⟩) p
theorem cutV_dp {K : PySem.W.Frag} {us : List V} {ds : List PyData} {lo hi : Option Int} (h : DqAll K F us ds) : DqAll K F (cutV us lo hi) ((ds.drop (HT.sIx ds.length 0 lo)).take (HT.sIx ds.length ds.length hi - HT.sIx ds.length 0 lo)) := by
  unfold cutV
  rw [dpAll_len h]
  exact dpAll_take _ (dpAll_drop _ h)
def cutD (ds : List PyData) (lo hi : Option Int) : List PyData := (ds.drop (HT.sIx ds.length 0 lo)).take (HT.sIx ds.length ds.length hi - HT.sIx ds.length 0 lo)
theorem ru_slT {lo hi : Option Int} {ds : List PyData} (p : Φ (.tuple (cutD ds lo hi)) δ) : RU B (fun v H Q => rSlA B.K v lo hi H Q) (.tuple ds) δ Φ := fun σ F H r v d1 Q q => by
  cases d1 with
  | tup hs ha =>
    refine ⟨_, _, rfl, seqT r.ex hs, fun hw => ?_, fun hw l hl => ?_⟩
    · refine q _ _ δ F H (Same.refl F) r (.tup hs ?_) p
      have := cutV_dp (lo := lo) (hi := hi) ha
      have e : cutD ds lo hi = ds := by
        unfold cutD
        rw [← dpAll_len ha, hw.1, hw.2, List.drop_zero, Nat.sub_zero, dpAll_len ha, List.take_length]
      rw [e]
      exact ha
    · obtain ⟨F2, k1, k2, _, _, k5⟩ := r.newT hl (cutV_dp (lo := lo) (hi := hi) ha)
      exact q _ _ δ F2 _ k1 k2 k5 p
theorem wl_sl {lo hi : Option Int} {tl th : TO} {Ψ : PL} (hl : ∀ σ H (Q : Option Int → Hp → Prop), Q lo H → tl σ H Q) (hh : ∀ σ H (Q : Option Int → Hp → Prop), Q hi H → th σ H Q)
    (h : WE B te δ fun x δ1 => ∃ ds, x = .list ds ∧ Ψ (cutD ds lo hi) δ1) : WL B (tSl (rSlL B.K) te tl th) δ Ψ := fun σ F H rp Q q =>
  h σ F H rp _ fun v x δ1 F1 H1 e1 r1 d1 ⟨ds, hx, p1⟩ => hl σ H1 _ (hh σ H1 _ (by
    subst hx
    cases d1 with
    | lst hs ha =>
      refine ⟨_, _, rfl, r1.ex.seq hs, fun p hp => ?_⟩
      obtain ⟨k1, k2, k3, k4⟩ := r1.newL hp (cutV _ lo hi)
      exact q p _ _ δ1 F1 _ e1 k1 k2 k3 upd_same k4 (cutV_dp ha) p1))
/-- a new list is told as data -/
theorem Rep.frzL (r : Rep B δ σ F H) {a : Addr} {vs : List V} (hB : B.H a = none) (hF : F a = none) (hH : H a = some (.lst vs)) (hap : ∀ (i : Nat) (c : C), δ.s[i]? = some (some c) → own? c = true → σ[i]? ≠ some (some (.ref a))) : Rep B δ σ (upd F a (.lst vs)) H := by
  have e2 : Same F (upd F a (.lst vs)) := same_upd hF
  refine ⟨fun b u h => ?_, r.f0.trans e2, fun b h1 h2 => ?_, r.kp, r.pot, fun i c h => ?_, r.len, r.ap⟩
  · by_cases hb : b = a
    · subst hb; rw [upd_same] at h; cases h; exact hH
    · rw [upd_ne hb] at h; exact r.ex b u h
  · have hb : b ≠ a := fun z => h2 (z ▸ hB)
    rw [upd_ne hb]; exact r.fr b h1 h2
  · obtain ⟨v, hv, hc⟩ := r.cell i c h
    refine ⟨v, hv, ?_⟩
    cases c with
    | d x => exact dp_mono e2 _ _ hc
    | own ys =>
      obtain ⟨a', vs', e', h1, h2, h3, h4⟩ := hc
      subst e'
      have hne : a' ≠ a := fun z => hap i _ h rfl (z ▸ hv)
      exact ⟨a', vs', rfl, h1, by rw [upd_ne hne]; exact h2, h3, dpAll_mono e2 _ _ h4⟩
    | dct kvs =>
      obtain ⟨a', vs', e', h1, h2, h3, h4⟩ := hc
      subst e'
      have hne : a' ≠ a := fun z => hap i _ h rfl (z ▸ hv)
      exact ⟨a', vs', rfl, h1, by rw [upd_ne hne]; exact h2, h3, dpAll_mono e2 _ _ h4⟩
    | iset ns =>
      obtain ⟨a', e', h1, h2, h3⟩ := hc
      subst e'
      have hne : a' ≠ a := fun z => hap i _ h rfl (z ▸ hv)
      exact ⟨a', rfl, h1, by rw [upd_ne hne]; exact h2, h3⟩
    | pot => exact hc
    | bor => exact hc
theorem dpAll_rep {K : PySem.W.Frag} {us : List V} {ds : List PyData} (h : DqAll K F us ds) : ∀ n : Nat, DqAll K F (List.replicate n us).flatten (List.replicate n ds).flatten
  | 0 => .nil
  | n + 1 => by
    rw [List.replicate_succ, List.replicate_succ, List.flatten_cons, List.flatten_cons]
    exact dpAll_app h (dpAll_rep h n)
/-- a list n times -/
theorem wl_rep {Ψ : PL} (h : WL B ta δ fun xs δ1 => WE B tb δ1 fun y δ2 => ∃ n : Nat, y = .int (n : Nat) ∧ n ≤ 1000 ∧ xs.length ≤ 100 ∧ Ψ (List.replicate n xs).flatten δ2) : WL B (tOp rRep ta tb) δ Ψ := fun σ F H rp Q q =>
  h σ F H rp _ fun a vs xs δ1 F1 H1 e1 r1 hB hF hH hap hd p1 => by
    refine p1 σ _ H1 (r1.frzL hB hF hH hap) _ fun u y δ2 F2 H2 e2 r2 d2 ⟨n, hy, hn, hl, p2⟩ => ?_
    subst hy
    cases d2
    have hv := dpAll_len hd
    refine ⟨a, (n : Int), vs, rfl, rfl, r2.ex _ _ (e2 _ _ upd_same), by omega, by omega, ?_, fun p hp => ?_⟩
    · rw [Int.toNat_natCast, hv]
      exact Nat.le_trans (Nat.mul_le_mul hl hn) (by decide)
    · rw [Int.toNat_natCast]
      obtain ⟨k1, k2, k3, k4⟩ := r2.newL hp (List.replicate n vs).flatten
      exact q p _ _ δ2 F2 _ ((e1.trans (same_upd hF)).trans e2) k1 k2 k3 upd_same k4 (dpAll_rep (dpAll_mono ((same_upd hF).trans e2) _ _ hd) n) p2
/-- less, of data that are alike -/
theorem rd_ltD {x y : PyData} (hx : noH x = true) (hy : noH y = true) (ha : alike x y = true) (hn : x ≠ .none) (hd : x.depth ≤ 60) (p : Φ (.bool (dataLt x y)) δ) : RD B (rLtD B.K) x y δ Φ :=
  rd_pure (w := .bl (dataLt x y)) (fun _ => .bl _) (fun F H v u e d1 d2 Q q => ⟨x, y, dq_dp _ _ hx (dp_mono e _ _ d1), dq_dp _ _ hy (dp_mono e _ _ d2), ha, hn, hd, q⟩) p
theorem rd_mulS {z : Str} {n : Nat} (h1 : 1 ≤ z.length) (h2 : z.length ≤ 100) (h3 : n ≤ 100) (p : Φ (.str (if n = 0 then Str.empty else if n = 1 then z else repS z n)) δ) : RD B rMulS (.str z) (.int (n : Nat)) δ Φ :=
  rd_pure (w := .str (if n = 0 then Str.empty else if n = 1 then z else repS z n)) (fun _ => .str _) (fun F H v u e d1 d2 Q q => by cases d1; cases d2; exact ⟨z, n, rfl, rfl, h1, h2, h3, q⟩) p
end
end DL

set_option maxHeartbeats 200000
set_option Elab.async false
set_option linter.all false
set_option maxRecDepth 100000
set_option maxHeartbeats 1000000
namespace DL
open PySem PySem.Spec PyProof.Rows L2
open PySem.W (alike alikeAll dataLt dataLe AllAlike Sortable EachIs)
/-! ### a set of ints at a name -/
section
variable {B : B0} {X : Cx} {a b c e : Expr} {es : List Expr} {st : Stmt} {rest body : List Stmt} {δ : St'} {N : St' → Prop} {Φ R : PE1} {pos p p2 p3 : Pos}
theorem ints_v {K : PySem.W.Frag} {F : Hp} {us : List V} {ns : List Int} (h : DqAll K F us (ns.map PyData.int)) : us = ns.map V.int := by
  rw [atoms_v h (by simp [atom]), List.map_map]
  rfl
/-- x = set(xs) -/
theorem ds_setIset (i : Nat) {x : Str} {pos' p' : Pos} (hm : X.mg "set" = none) (h : DE B X a δ fun d δ' => ∃ ns : List Int, d = .list (ns.map PyData.int) ∧ ns.length ≤ 1000 ∧ ∀ ls : List Int, ls.Nodup → (∀ k, k ∈ ls ↔ k ∈ ns) → N (δ'.put i (.iset ls))) (hNd : X.N.Nodup) (hi : X.N[i]? = some x := by rfl) (hx : Loc X.env.scope x := by first | exact .inl rfl | exact .inr rfl)
    (hs : swapsWith (.Call (.Name "set" p) [a] [] p') (some (.Name x pos')) pos.line X.env = pure false := by rfl) (hf : X.fn x = true ∨ X.env.scope.names.lookup x = some .local := by first | exact .inl rfl | exact .inr rfl)
    (hc : X.calm = true := by rfl) (hg : Gl X "set" := by rfl) (he : starEach [a] X.env = (false, eval a X.env) :: starEach [] X.env := by rfl) (hpl : (backTo p' (starEach [] X.env)).any (·.1) = false := by rfl) :
    DS B X (.Assign [.Name x pos'] (.Call (.Name "set" p) [a] [] p') pos) δ N R := .of (ps_set hNd hi hx (pe_callTy (cr_setLI hc) hg hm boot_set (pa_cons pe_w pa_nil he) (by decide) (by decide) he hpl) hs hf) fun σ F H r D hn hr =>
  h σ F H r _ fun v d δ' F' H' e' r' dd ⟨ns, hd, hl, pn⟩ => by
    subst hd
    cases dd with
    | lst hsq ha =>
      have hus := ints_v ha
      subst hus
      refine ⟨_, ns, rfl, r'.ex.seq hsq, hl, fun ls q hnd hls hq => ?_⟩
      obtain ⟨k1, k2, _, k4⟩ := r'.fresh hq
      have r2 := r'.side (o := isetO X.w q ls) k2 k1 k4
      exact hn _ _ F' _ e' (r2.putO i (c := .iset ls) k4 ⟨q, rfl, k1, k2, upd_same⟩) (pn ls hnd hls)
/-- x.add(e) -/
theorem ds_add (i : Nat) {x : Str} {ls : List Int} {apos npos : Pos} (h : DE B X e δ fun y δ' => ∃ (k : Int) (ls : List Int), y = .int k ∧ δ'.s[i]? = some (some (.iset ls)) ∧ k ∉ ls ∧ ls.length ≤ 1000 ∧ N (δ'.put i (.iset (ls ++ [k])))) (hi : δ.s[i]? = some (some (.iset ls)) := by rfl)
    (hN : X.N[i]? = some x := by rfl) (hv : Vis X.env.scope x := by first | exact Or.inl rfl | exact Or.inr (Or.inl rfl) | exact Or.inr (Or.inr rfl)) (hd : (x == ("__debug__" : Str)) = false := by decide)
    (hcd : (x == ("__classdict__" : Str)) = false := by decide)
    (hbase : attributeBase (.Name x npos) "add" X.env (eval (.Name x npos) X.env) = eval (.Name x npos) X.env := by rfl)
    (hfew : ((backTo p2 (starEach [e] X.env)).all (fun x => !x.1) && (backToKw p2 (keywordEach [] X.env)).all (fun x => x.1.isSome)
      && decide ([e].length + ([] : List Keyword).length + (if ([] : List Keyword).isEmpty then 0 else 1) < 30)) = true := by rfl)
    (hline : (apos.endLine == p2.line) = true := by rfl) (hs : starEach [e] X.env = (false, eval e X.env) :: starEach [] X.env := by rfl) (hplain : (backTo p2 (starEach [] X.env)).any (·.1) = false := by rfl)
    (hsw : swapsWith (.Call (.Attribute (.Name x npos) "add" apos) [e] [] p2) none pos.line X.env = pure false := by rfl) :
    DS B X (.Expr (.Call (.Attribute (.Name x npos) "add" apos) [e] [] p2) pos) δ N R := .of (ps_expr (pe_sadd (pe_var hN hv hd hcd) (pa_cons pe_w pa_nil hs) hbase hfew hline hs hplain) hsw) fun σ F H r D hn hr => by
  obtain ⟨u, hu, a, rfl, hB, hF, hH⟩ := r.cell i _ hi
  refine ⟨.ref a, hu, ⟨a, _, _, rfl, hH⟩, ?_⟩
  refine h σ F H r _ fun v y δ' F' H' e' r' dd ⟨k, ls', hy, hi', hk, hz, pn⟩ => ?_
  subst hy
  cases dd
  obtain ⟨u', hu', a', rfl, hB', hF', hH'⟩ := r'.cell i _ hi'
  rw [hu] at hu'
  injection hu' with hu'
  injection hu' with hu'
  injection hu' with hu'
  subst hu'
  refine ⟨a, k, _, ls'.length, rfl, rfl, hH', by unfold scanBound; omega, ?_⟩
  have eo : SetO X.w a (fun j => decide (j ∈ ls') || decide (j = k)) (if decide (k ∈ ls') = true then ls'.length else ls'.length + 1) = isetO X.w a (ls' ++ [k]) := by
    unfold isetO
    have e1 : (fun j : Int => decide (j ∈ ls') || decide (j = k)) = fun j => decide (j ∈ ls' ++ [k]) := by
      funext j
      simp only [List.mem_append, List.mem_singleton, Bool.decide_or]
    rw [e1, if_neg (by rw [decide_eq_false hk]; exact Bool.false_ne_true), List.length_append]
    rfl
  show D.nx σ _
  rw [eo]
  exact hn _ σ F' _ e' (r'.write (c2 := .iset (ls' ++ [k])) hi' rfl hu hB' hF' rfl ⟨a, rfl, hB', hF', upd_same⟩) pn
/-- e not in x, e in x -/
theorem dt_notInS (i : Nat) {x : Str} {Φ : Bool → St' → Prop} (h : DE B X e δ fun y δ' => ∃ (k : Int) (ls : List Int), y = .int k ∧ δ'.s[i]? = some (some (.iset ls)) ∧ Φ (!decide (k ∈ ls)) δ')
    (hN : X.N[i]? = some x := by rfl) (hv : Vis X.env.scope x := by first | exact Or.inl rfl | exact Or.inr (Or.inl rfl) | exact Or.inr (Or.inr rfl)) (hd : (x == ("__debug__" : Str)) = false := by decide)
    (hcd : (x == ("__classdict__" : Str)) = false := by decide) (hm : behindInMarks .NotIn (.Name x p2) = false := by with_unfolding_all rfl) : DT B X (.Compare e [.NotIn] [.Name x p2] pos) δ Φ := .of (pt_cmpR or_snotin pe_w (pe_var hN hv hd hcd) hm) fun σ F H r Q q =>
  h σ F H r _ fun v y δ' F' H' e' r' dd ⟨k, ls, hy, hi, ph⟩ => by
    subst hy
    cases dd
    obtain ⟨u, hu, a, rfl, hB, hF, hH⟩ := r'.cell i _ hi
    exact ⟨.ref a, hu, k, a, _, _, rfl, rfl, hH, _, rfl, q _ δ' F' H' e' r' ph⟩
/-- sorted(x) -/
theorem dl_sortedIset (i : Nat) {x : Str} {ls : List Int} {Ψ : PL} {p' : Pos} (hms : X.mg "sorted" = none) (hl : ls.length < 64) (h : ∀ ns : List Int, ns.Pairwise (· < ·) → (∀ k, k ∈ ns ↔ k ∈ ls) → Ψ (ns.map PyData.int) δ) (hi : δ.s[i]? = some (some (.iset ls)) := by rfl)
    (hN : X.N[i]? = some x := by rfl) (hv : Vis X.env.scope x := by first | exact Or.inl rfl | exact Or.inr (Or.inl rfl) | exact Or.inr (Or.inr rfl)) (hd : (x == ("__debug__" : Str)) = false := by decide)
    (hcd : (x == ("__classdict__" : Str)) = false := by decide) (hc : X.calm = true := by rfl) (hg : Gl X "sorted" := by rfl) (he : starEach [.Name x p2] X.env = (false, eval (.Name x p2) X.env) :: starEach [] X.env := by rfl) (hpl : (backTo p' (starEach [] X.env)).any (·.1) = false := by rfl) :
    DLs B X (.Call (.Name "sorted" p) [.Name x p2] [] p') δ Ψ := .of (pe_callB (cr_sortedSet hc) hg hms boot_sorted (pa_cons (pe_var hN hv hd hcd) pa_nil he) (by decide) (by decide) he hpl) fun σ F H r Q q => by
  obtain ⟨u, hu, a, rfl, hB, hF, hH⟩ := r.cell i _ hi
  refine ⟨.ref a, hu, a, _, ls.length, rfl, hH, hl, fun ns l hns hmem hlen hl' => ?_⟩
  obtain ⟨k1, k2, k3, k4⟩ := r.newL hl' (ns.map V.int)
  have hd : DqAll X.K F (ns.map V.int) (ns.map PyData.int) := by
    clear hlen hmem hns k1
    induction ns with
    | nil => exact .nil
    | cons n ns ih => exact .cons (.int n) ih
  exact q l _ _ δ F _ (Same.refl F) k1 k2 k3 upd_same k4 hd (h ns hns fun k => (hmem k).trans decide_eq_true_iff)
end
end DL

set_option maxHeartbeats 200000
set_option Elab.async false
set_option linter.all false
set_option maxRecDepth 100000
set_option maxHeartbeats 1000000
namespace DL
open PySem PySem.Spec PyProof.Rows L2 RZ
theorem WG.mono {B : Bs} {g : TG} {ix : List Nat} {y : PyData} {δ : St'} {K K' : St' → Prop} (h : WG B g ix y δ K) (f : ∀ δ', K δ' → K' δ') : WG B g ix y δ K' := fun σ F H r v d Q q => h σ F H r v d Q fun δ' σ' r' h1 h2 p => q δ' σ' r' h1 h2 (f δ' p)
theorem wk_zipT {w : World} {K : PySem.W.Frag} {a b : Addr} {us vs : List V} {xs ys : List PyData} {F : Hp} (hs : SqT K F a us) (ha : DqAll K F us xs) (hs2 : SqT K F b vs) (ha2 : DqAll K F vs ys) : Wk w K (ItzT K a b) (zipD xs ys) F where
  stop := fun B i δ σ F' H _ _ e r h => ⟨us, vs, seqT (e.trans r.ex) hs, seqT (e.trans r.ex) hs2, by rw [dpAll_len ha, dpAll_len ha2]; rw [zip_len] at h; omega⟩
  go := fun B i δ σ F' H _ _ e r h => by
    rw [zip_len] at h
    obtain ⟨v, hv, _⟩ := dpAll_get ha (List.getElem?_eq_getElem (show i < xs.length by omega))
    obtain ⟨v2, hv2, _⟩ := dpAll_get ha2 (List.getElem?_eq_getElem (show i < ys.length by omega))
    exact ⟨us, vs, v, v2, seqT (e.trans r.ex) hs, seqT (e.trans r.ex) hs2, hv, hv2⟩
  yld := fun B i δ σ F' H v H' y hw hK e r h hy => by
    obtain ⟨T, x, z, rfl, hT, rfl, hx, hz⟩ := hy
    obtain ⟨d1, d2, q1, q2, rfl⟩ := zip_get h
    obtain ⟨v1, hv1, dv1⟩ := dpAll_get ha q1
    obtain ⟨v2, hv2, dv2⟩ := dpAll_get ha2 q2
    have e1 := hx us (seqT (e.trans r.ex) hs)
    have e2 := hz vs (seqT (e.trans r.ex) hs2)
    rw [hv1] at e1
    rw [hv2] at e2
    injection e1 with e1
    injection e2 with e2
    subst e1 e2 hK
    exact r.newT hT (.cons (dp_mono e _ _ dv1) (.cons (dp_mono e _ _ dv2) .nil))
theorem wk_zipL {w : World} {K : PySem.W.Frag} {a b : Addr} {us vs : List V} {xs ys : List PyData} {F : Hp} (hs : SqL K F a us) (ha : DqAll K F us xs) (hs2 : SqL K F b vs) (ha2 : DqAll K F vs ys) : Wk w K (Itz K a b) (zipD xs ys) F where
  stop := fun B i δ σ F' H _ _ e r h => ⟨us, vs, (e.trans r.ex).seq hs, (e.trans r.ex).seq hs2, by rw [dpAll_len ha, dpAll_len ha2]; rw [zip_len] at h; omega⟩
  go := fun B i δ σ F' H _ _ e r h => by
    rw [zip_len] at h
    obtain ⟨v, hv, _⟩ := dpAll_get ha (List.getElem?_eq_getElem (show i < xs.length by omega))
    obtain ⟨v2, hv2, _⟩ := dpAll_get ha2 (List.getElem?_eq_getElem (show i < ys.length by omega))
    exact ⟨us, vs, v, v2, (e.trans r.ex).seq hs, (e.trans r.ex).seq hs2, hv, hv2⟩
  yld := fun B i δ σ F' H v H' y hw hK e r h hy => by
    obtain ⟨T, x, z, rfl, hT, rfl, hx, hz⟩ := hy
    obtain ⟨d1, d2, q1, q2, rfl⟩ := zip_get h
    obtain ⟨v1, hv1, dv1⟩ := dpAll_get ha q1
    obtain ⟨v2, hv2, dv2⟩ := dpAll_get ha2 q2
    have e1 := hx us ((e.trans r.ex).seq hs)
    have e2 := hz vs ((e.trans r.ex).seq hs2)
    rw [hv1] at e1
    rw [hv2] at e2
    injection e1 with e1
    injection e2 with e2
    subst e1 e2 hK
    exact r.newT hT (.cons (dp_mono e _ _ dv1) (.cons (dp_mono e _ _ dv2) .nil))
section
variable {B : Bs} {ta : TA} {δ : St'} {Ψ : List PyData → St' → Prop}
theorem wi_zip (h : WA B ta δ fun ds δ' => ∃ xs ys, (ds = [.list xs, .list ys] ∨ ds = [.tuple xs, .tuple ys]) ∧ Ψ (zipD xs ys) δ') : WI B (iZipA B.K ta) δ Ψ := fun σ F H r R q => h σ F H r _ fun vs x δ' F' H' e r' d ⟨xs, ys, hx, p⟩ => by
  rcases hx with rfl | rfl
  · cases d with
    | cons d1 d2 =>
      cases d2 with
      | cons d2 d3 =>
        cases d3
        cases d1 with
        | lst hs ha =>
          cases d2 with
          | lst hs2 ha2 => exact ⟨_, _, _, _, rfl, .inl ⟨r'.ex.seq hs, r'.ex.seq hs2, q _ _ δ' F' H' e r' (Wk.at (wk_zipL hs ha hs2 ha2)) p⟩⟩
  · cases d with
    | cons d1 d2 =>
      cases d2 with
      | cons d2 d3 =>
        cases d3
        cases d1 with
        | tup hs ha =>
          cases d2 with
          | tup hs2 ha2 => exact ⟨_, _, _, _, rfl, .inr ⟨seqT r'.ex hs, seqT r'.ex hs2, q _ _ δ' F' H' e r' (Wk.at (wk_zipT hs ha hs2 ha2)) p⟩⟩
end
section
variable {B : B0} {X : Cx} {a : Expr} {δ : St'} {Φ : PE1} {pos p2 p3 p4 : Pos} {k1 k2 : Nat}
/-- a[i:], a[:j] with written ints -/
theorem de_from {r : V → Option Int → Option Int → Hp → VK → Prop} {i : Int} (hr : SlR X r) (h : DE B X a δ fun x δ1 => RU (bs X B) (fun v H Q => r v (some i) none H Q) x δ1 Φ) : DE B X (.Subscript a (.Slice (some (.Constant (.int i) k1 p3)) none none p2) pos) δ Φ :=
  .of (pe_slice hr pe_w (po_some pe_int) po_none) (we_sl (lo := some i) (hi := none) (fun _ _ _ q => ⟨i, rfl, q⟩) (fun _ _ _ q => q) h)
theorem de_upto {r : V → Option Int → Option Int → Hp → VK → Prop} {i : Int} (hr : SlR X r) (h : DE B X a δ fun x δ1 => RU (bs X B) (fun v H Q => r v none (some i) H Q) x δ1 Φ) : DE B X (.Subscript a (.Slice none (some (.Constant (.int i) k1 p3)) none p2) pos) δ Φ :=
  .of (pe_slice hr pe_w po_none (po_some pe_int)) (we_sl (lo := none) (hi := some i) (fun _ _ _ q => q) (fun _ _ _ q => ⟨i, rfl, q⟩) h)
theorem dl_from {i : Int} {Ψ : PL} (h : DE B X a δ fun x δ1 => ∃ ds, x = .list ds ∧ Ψ (cutD ds (some i) none) δ1) : DLs B X (.Subscript a (.Slice (some (.Constant (.int i) k1 p3)) none none p2) pos) δ Ψ :=
  .of (pe_slice sl_list pe_w (po_some pe_int) po_none) (wl_sl (lo := some i) (hi := none) (fun _ _ _ q => ⟨i, rfl, q⟩) (fun _ _ _ q => q) h)
end
/-- a, b and a, b, c as targets -/
theorem pg_two {X : Cx} {x y : Str} {px py pos : Pos} {k : Nat} (i j : Nat) (nd : X.N.Nodup) (hc : X.calm = true := by rfl) (hi : X.N[i]? = some x := by rfl) (hx : Loc X.env.scope x := by first | exact .inl rfl | exact .inr rfl)
    (hf : X.fn x = true ∨ X.env.scope.names.lookup x = some .local := by first | exact .inl rfl | exact .inr rfl) (hj : X.N[j]? = some y := by rfl) (hy : Loc X.env.scope y := by first | exact .inl rfl | exact .inr rfl)
    (hg : X.fn y = true ∨ X.env.scope.names.lookup y = some .local := by first | exact .inl rfl | exact .inr rfl) : PG X (.Tuple [.Name x px, .Name y py] k pos) (gTup X.K 2 (gCons (gName i) (gCons (gName j) gNil))) :=
  pg_tup hc (pgs_cons (pg_name nd hi hx hf) (pgs_cons (pg_name nd hj hy hg) pgs_nil))
theorem pg_three {X : Cx} {x y z : Str} {px py pz pos : Pos} {k : Nat} (i j l : Nat) (nd : X.N.Nodup) (hc : X.calm = true := by rfl) (hi : X.N[i]? = some x := by rfl) (hx : Loc X.env.scope x := by first | exact .inl rfl | exact .inr rfl)
    (hf : X.fn x = true ∨ X.env.scope.names.lookup x = some .local := by first | exact .inl rfl | exact .inr rfl) (hj : X.N[j]? = some y := by rfl) (hy : Loc X.env.scope y := by first | exact .inl rfl | exact .inr rfl)
    (hg : X.fn y = true ∨ X.env.scope.names.lookup y = some .local := by first | exact .inl rfl | exact .inr rfl) (hl : X.N[l]? = some z := by rfl) (hz : Loc X.env.scope z := by first | exact .inl rfl | exact .inr rfl)
    (hh : X.fn z = true ∨ X.env.scope.names.lookup z = some .local := by first | exact .inl rfl | exact .inr rfl) : PG X (.Tuple [.Name x px, .Name y py, .Name z pz] k pos) (gTup X.K 3 (gCons (gName i) (gCons (gName j) (gCons (gName l) gNil)))) :=
  pg_tup hc (pgs_cons (pg_name nd hi hx hf) (pgs_cons (pg_name nd hj hy hg) (pgs_cons (pg_name nd hl hz hh) pgs_nil)))
theorem cutD_from1 {ds : List PyData} : cutD ds (some 1) none = ds.drop 1 := by
  unfold cutD
  rw [show HT.sIx ds.length 0 (some 1) = min 1 ds.length from HT.sIx_nat ds.length 0 1, HT.sIx_none]
  cases ds with
  | nil => rfl
  | cons x r =>
    rw [show min 1 (x :: r).length = 1 by rw [List.length_cons]; omega]
    show List.take ((x :: r).length - 1) r = r
    rw [List.length_cons, Nat.add_sub_cancel, List.take_length]
theorem cutD_upto {ds : List PyData} {k : Nat} : cutD ds none (some (k : Int)) = ds.take k := by
  unfold cutD
  rw [HT.sIx_nat, HT.sIx_none, Nat.sub_zero, List.drop_zero]
  rcases Nat.le_total k ds.length with h | h
  · rw [Nat.min_eq_left h]
  · rw [Nat.min_eq_right h, List.take_length, List.take_of_length_le h]
end DL

set_option maxHeartbeats 200000
set_option Elab.async false
set_option linter.all false
set_option maxRecDepth 100000
set_option maxHeartbeats 1000000
namespace DL
open PySem PySem.Spec PyProof.Rows L2
section
variable {B : B0} {X : Cx} {a e : Expr} {δ : St'} {N : St' → Prop} {Φ R : PE1} {pos p p2 p3 : Pos}
/-- xs.extend(a new list) -/
theorem ds_extend (i : Nat) {x : Str} {xs : List PyData} {apos npos : Pos} (h : DLs B X e δ fun ys δ' => ∃ xs, δ'.s[i]? = some (some (.own xs)) ∧ xs.length + ys.length ≤ 100000 ∧ N (δ'.put i (.own (xs ++ ys)))) (hi : δ.s[i]? = some (some (.own xs)) := by rfl)
    (hN : X.N[i]? = some x := by rfl) (hv : Vis X.env.scope x := by first | exact Or.inl rfl | exact Or.inr (Or.inl rfl) | exact Or.inr (Or.inr rfl)) (hd : (x == ("__debug__" : Str)) = false := by decide)
    (hcd : (x == ("__classdict__" : Str)) = false := by decide)
    (hbase : attributeBase (.Name x npos) "extend" X.env (eval (.Name x npos) X.env) = eval (.Name x npos) X.env := by rfl)
    (hfew : ((backTo p2 (starEach [e] X.env)).all (fun x => !x.1) && (backToKw p2 (keywordEach [] X.env)).all (fun x => x.1.isSome)
      && decide ([e].length + ([] : List Keyword).length + (if ([] : List Keyword).isEmpty then 0 else 1) < 30)) = true := by rfl)
    (hline : (apos.endLine == p2.line) = true := by rfl) (hs : starEach [e] X.env = (false, eval e X.env) :: starEach [] X.env := by rfl) (hplain : (backTo p2 (starEach [] X.env)).any (·.1) = false := by rfl)
    (hsw : swapsWith (.Call (.Attribute (.Name x npos) "extend" apos) [e] [] p2) none pos.line X.env = pure false := by rfl) :
    DS B X (.Expr (.Call (.Attribute (.Name x npos) "extend" apos) [e] [] p2) pos) δ N R := .of (ps_expr (pe_bm PySem.F.plainAttrs_list PySem.F.slot_list_extend PySem.F.type_list_extend mt_extend (pe_var hN hv hd hcd) (pa_cons pe_w pa_nil hs) hbase hfew hline hs hplain) hsw) fun σ F H r D hn hr => by
  obtain ⟨u, hu, a, vs, rfl, hB, hF, hH, hdd⟩ := r.cell i _ hi
  refine ⟨.ref a, hu, .inl ⟨rfl, vs, .inl (.inl hH)⟩, ?_⟩
  refine h σ F H r _ fun b us ys δ' F' H' e r' hB2 hF2 hH2 hap d ⟨xs', hi', hz, p⟩ => ?_
  obtain ⟨u', hu', a', vs', rfl, hB', hF', hH', hdd'⟩ := r'.cell i _ hi'
  rw [hu] at hu'
  injection hu' with hu'
  injection hu' with hu'
  injection hu' with hu'
  subst hu'
  refine ⟨a, b, vs', us, rfl, rfl, hH', hH2, Nat.le_trans (by rw [dpAll_len hdd', dpAll_len d]; exact hz) (by decide : 100000 ≤ sizeLine), ?_⟩
  exact hn _ σ F' _ e (r'.write (c2 := .own (xs' ++ ys)) hi' rfl hu hB' hF' rfl ⟨a, vs' ++ us, rfl, hB', hF', upd_same, dpAll_app hdd' d⟩) p
mutual
theorem noH_plain : ∀ d : PyData, d.plain = true → noH d = true
  | .none, _ => rfl
  | .bool _, _ => rfl
  | .int _, _ => rfl
  | .str _, _ => rfl
  | .list ds, h => noHs_plain ds h
  | .tuple ds, h => noHs_plain ds h
  | .dict _, h => by cases h
theorem noHs_plain : ∀ ds : List PyData, PyData.plainAll ds = true → noHs ds = true
  | [], _ => rfl
  | d :: ds, h => by
    have h' : (d.plain && PyData.plainAll ds) = true := h
    rw [Bool.and_eq_true] at h'
    show (noH d && noHs ds) = true
    rw [noH_plain d h'.1, noHs_plain ds h'.2]
    rfl
end
/-- [..].count(e) -/
theorem de_countM {o : Expr} {apos : Pos} (hu : X.A.units + 64 < cLine) (h : DE B X o δ fun x δ1 => ∃ ds, x = .list ds ∧ DE B X e δ1 fun y δ2 => PyData.plainAll ds = true ∧ y.plain = true ∧ y.depth ≤ 60 ∧ Φ (.int (ds.countP fun z => PyData.eqv z y : Nat)) δ2)
    (hbase : attributeBase o "count" X.env (eval o X.env) = eval o X.env := by rfl)
    (hfew : ((backTo p2 (starEach [e] X.env)).all (fun x => !x.1) && (backToKw p2 (keywordEach [] X.env)).all (fun x => x.1.isSome)
      && decide ([e].length + ([] : List Keyword).length + (if ([] : List Keyword).isEmpty then 0 else 1) < 30)) = true := by rfl)
    (hline : (apos.endLine == p2.line) = true := by rfl) (hs : starEach [e] X.env = (false, eval e X.env) :: starEach [] X.env := by rfl) (hplain : (backTo p2 (starEach [] X.env)).any (·.1) = false := by rfl) :
    DE B X (.Call (.Attribute o "count" apos) [e] [] p2) δ Φ := .of (pe_bm PySem.F.plainAttrs_list PySem.F.slot_list_count PySem.F.type_list_count (mt_countD hu) pe_w (pa_cons pe_w pa_nil hs) hbase hfew hline hs hplain) fun σ F H r Q q =>
  h σ F H r _ fun v x δ1 F1 H1 e1 r1 d1 ⟨ds, hx, p1⟩ => by
    subst hx
    cases d1 with
    | lst hsq ha =>
      refine ⟨.inl ⟨rfl, _, r1.ex.seq hsq⟩, p1 σ F1 H1 r1 _ fun u y δ2 F2 H2 e2 r2 d2 ⟨h1, h2, h3, p2⟩ => ?_⟩
      exact ⟨_, _, ds, u, y, rfl, rfl, (e2.trans r2.ex).seq hsq, dqs_dps _ _ (noHs_plain _ h1) (dpAll_mono (e2.trans r2.ex) _ _ ha), dq_dp _ _ (noH_plain _ h2) (dp_mono r2.ex _ _ d2), h1, h2, h3, q _ _ δ2 F2 H2 (e1.trans e2) r2 (.int _) p2⟩
end
theorem rc_intB {B : Bs} {δ : St'} {Φ : PE1} {k : Bool} (p : Φ (.int (if k = true then 1 else 0)) δ) : RC B (fun xs H Q => (∃ i, xs = [.int i] ∧ Q (.int i) H) ∨ ∃ k, xs = [.bl k] ∧ Q (.int (if k = true then 1 else 0)) H) [.bool k] δ Φ := rc_pure (w := .int (if k = true then 1 else 0)) (fun _ => .int _) (fun F H vs e d1 Q q => by
  cases d1 with
  | cons h1 h2 =>
    cases h2
    cases h1
    exact .inr ⟨k, rfl, q⟩) p
theorem inV_strs {s : Str} {l : List Str} : inV (toV (.str s)) ((l.map PyData.str).map toV) = decide (s ∈ l) := by
  unfold inV
  induction l with
  | nil => simp
  | cons x r ih =>
    simp only [List.map_cons, List.any_cons, ih]
    by_cases e : x = s
    · subst e
      simp [toV, eqV]
    · have h1 : eqV (toV (.str x)) (toV (.str s)) = false := by
        show (x == s) = false
        exact beq_eq_false_iff_ne.mpr e
      rw [h1, Bool.false_or]
      have h2 : decide (s ∈ x :: r) = decide (s ∈ r) := by
        by_cases hr : s ∈ r
        · rw [decide_eq_true hr, decide_eq_true (List.mem_cons_of_mem _ hr)]
        · rw [decide_eq_false hr, decide_eq_false fun z => (List.mem_cons.mp z).elim (fun q => e q.symm) hr]
      rw [h2]
/-- in, not in, texts -/
theorem rd_inStr {B : Bs} {δ : St'} {Φ : PE1} {s : Str} {l : List Str} (p : Φ (.bool (decide (s ∈ l))) δ) : RD B (rIn B.K false) (.str s) (.tuple (l.map PyData.str)) δ Φ := rd_inT rfl (by simp [atom]) (by
  rw [inV_strs]; exact p)
theorem rd_niStr {B : Bs} {δ : St'} {Φ : PE1} {s : Str} {l : List Str} (p : Φ (.bool (!decide (s ∈ l))) δ) : RD B (rIn B.K true) (.str s) (.tuple (l.map PyData.str)) δ Φ := rd_inT rfl (by simp [atom]) (by
  rw [inV_strs]; exact p)
theorem rd_inStrL {B : Bs} {δ : St'} {Φ : PE1} {s : Str} {l : List Str} (p : Φ (.bool (decide (s ∈ l))) δ) : RD B (rIn B.K false) (.str s) (.list (l.map PyData.str)) δ Φ := rd_inL rfl (by simp [atom]) (by
  rw [inV_strs]; exact p)
theorem rd_niStrL {B : Bs} {δ : St'} {Φ : PE1} {s : Str} {l : List Str} (p : Φ (.bool (!decide (s ∈ l))) δ) : RD B (rIn B.K true) (.str s) (.list (l.map PyData.str)) δ Φ := rd_inL rfl (by simp [atom]) (by
  rw [inV_strs]; exact p)
end DL

set_option maxHeartbeats 200000
set_option Elab.async false
set_option linter.all false
set_option maxRecDepth 100000
namespace DL
open PySem PySem.Spec PyProof.Rows L2
/-! ### the pot by its places -/
section
variable {B : B0} {X : Cx} {a b c e : Expr} {es : List Expr} {rest : List Stmt} {δ : St'} {Φ : PE1} {N : St' → Prop} {R : PE1} {p pos pp p2 p3 : Pos} {x pn : Str}
theorem Rep.potSet {B : Bs} {δ : St'} {σ : List (Option V)} {F H : Hp} {a : Addr} {n' : Nat} (r : Rep B δ σ F H) (hp : B.p = some a) {o : HO} (h : PotAt B.m (upd H a o) a n') : Rep B ⟨n', δ.s⟩ σ F (upd H a o) :=
  r.calledP hp (Same.refl F) (fun b z e => by
    have : b ≠ a := fun q => by
      rw [q, r.potF hp] at e
      cases e
    rw [upd_ne this]
    exact r.ex b z e) (fun b h1 _ => h1) (fun b z h1 h2 => by rw [upd_ne h2]; exact h1) h
theorem Rep.bump {B : Bs} {δ : St'} {σ : List (Option V)} {F H : Hp} {n' : Nat} (r : Rep B δ σ F H) (h : δ.n ≤ n') : Rep B ⟨n', δ.s⟩ σ F H :=
  ⟨r.ex, r.f0, r.fr, r.kp, fun a ha => by
    obtain ⟨h1, h2, x, y, z, h3, h4, h5, h6⟩ := r.pot a ha
    exact ⟨h1, h2, x, y, z, h3, h4, by show z ≤ ((n' : Nat) : Int); omega, pot_more h6 h⟩, r.cell, r.len, r.ap⟩
theorem dss_bump (n' : Nat) (h : δ.n ≤ n') (q : DSs B X rest ⟨n', δ.s⟩ N R) : DSs B X rest δ N R := fun σ F H r D hn hr => q σ F H (r.bump h) D hn hr
theorem de_bump (n' : Nat) (h : δ.n ≤ n') (q : DE B X e ⟨n', δ.s⟩ Φ) : DE B X e δ Φ := fun σ F H r Q hq => q σ F H (r.bump h) Q hq
theorem de_pot0 (i : Nat) {k0} (h : ∀ v : Int, Φ (.int v) δ) (hi : δ.s[i]? = some (some .pot) := by rfl) (hN : X.N[i]? = some pn := by rfl)
    (hv : Vis X.env.scope pn := by first | exact Or.inl rfl | exact Or.inr (Or.inl rfl) | exact Or.inr (Or.inr rfl)) (hd : (pn == ("__debug__" : Str)) = false := by decide)
    (hcd : (pn == ("__classdict__" : Str)) = false := by decide) : DE B X (.Subscript (.Name pn pp) (.Constant (.int 0) k0 p2) pos) δ Φ :=
  .of (pe_ix ix_list (pe_var hN hv hd hcd) pe_int (fun _ _ => rfl)) fun σ F H r Q q => by
    obtain ⟨v, hv, a, rfl, hp, hm⟩ := r.cell i _ hi
    obtain ⟨x, y, z, h3, h4, h5⟩ := pot_num (hm ▸ (r.pot a hp).2.2)
    exact ⟨.ref a, hv, a, _, 0, .int x, rfl, rfl, .inl (.inl h3), rfl, q (.int x) (.int x) δ F H (Same.refl F) r (.int x) (h x)⟩
theorem de_pot1 (i : Nat) {k0} (h : ∀ v : Int, Φ (.int v) δ) (hi : δ.s[i]? = some (some .pot) := by rfl) (hN : X.N[i]? = some pn := by rfl)
    (hv : Vis X.env.scope pn := by first | exact Or.inl rfl | exact Or.inr (Or.inl rfl) | exact Or.inr (Or.inr rfl)) (hd : (pn == ("__debug__" : Str)) = false := by decide)
    (hcd : (pn == ("__classdict__" : Str)) = false := by decide) : DE B X (.Subscript (.Name pn pp) (.Constant (.int 1) k0 p2) pos) δ Φ :=
  .of (pe_ix ix_list (pe_var hN hv hd hcd) pe_int (fun _ _ => rfl)) fun σ F H r Q q => by
    obtain ⟨v, hv, a, rfl, hp, hm⟩ := r.cell i _ hi
    obtain ⟨x, y, z, h3, h4, h5⟩ := pot_num (hm ▸ (r.pot a hp).2.2)
    exact ⟨.ref a, hv, a, _, 1, .int y, rfl, rfl, .inl (.inl h3), rfl, q (.int y) (.int y) δ F H (Same.refl F) r (.int y) (h y)⟩
theorem de_pot2 (i : Nat) {k0} (h : ∀ v : Int, 0 ≤ v → v ≤ (δ.n : Int) → Φ (.int v) δ) (hi : δ.s[i]? = some (some .pot) := by rfl) (hN : X.N[i]? = some pn := by rfl)
    (hv : Vis X.env.scope pn := by first | exact Or.inl rfl | exact Or.inr (Or.inl rfl) | exact Or.inr (Or.inr rfl)) (hd : (pn == ("__debug__" : Str)) = false := by decide)
    (hcd : (pn == ("__classdict__" : Str)) = false := by decide) : DE B X (.Subscript (.Name pn pp) (.Constant (.int 2) k0 p2) pos) δ Φ :=
  .of (pe_ix ix_list (pe_var hN hv hd hcd) pe_int (fun _ _ => rfl)) fun σ F H r Q q => by
    obtain ⟨v, hv, a, rfl, hp, hm⟩ := r.cell i _ hi
    obtain ⟨x, y, z, h3, h4, h5⟩ := pot_num (hm ▸ (r.pot a hp).2.2)
    exact ⟨.ref a, hv, a, _, 2, .int z, rfl, rfl, .inl (.inl h3), rfl, q (.int z) (.int z) δ F H (Same.refl F) r (.int z) (h z h4 h5)⟩
/-- pot[0] = e -/
theorem ds_pot0 (i : Nat) {k0} (h : DE B X e δ fun d δ' => ∃ v : Int, d = .int v ∧ δ'.s[i]? = some (some .pot) ∧ N δ') (hN : X.N[i]? = some pn := by rfl)
    (hv : Vis X.env.scope pn := by first | exact Or.inl rfl | exact Or.inr (Or.inl rfl) | exact Or.inr (Or.inr rfl)) (hd : (pn == ("__debug__" : Str)) = false := by decide)
    (hcd : (pn == ("__classdict__" : Str)) = false := by decide) (hs : swapsWithSole [Expr.Subscript (.Name pn pp) (.Constant (.int 0) k0 p2) p3] e pos.line X.env = pure false := by rfl)
    (hw : swappedStores [Expr.Subscript (.Name pn pp) (.Constant (.int 0) k0 p2) p3] e X.env = pure none := by rfl) : DS B X (.Assign [.Subscript (.Name pn pp) (.Constant (.int 0) k0 p2) p3] e pos) δ N R :=
  .of (ps_asg pe_w (pg_sub (pe_var hN hv hd hcd) pe_int set_list) hs hw) fun σ F H r D hn hr => h σ F H r _ fun v x δ' F' H' e' r' d ⟨j, hx, hi, p⟩ => by
    subst hx
    cases d
    obtain ⟨u, hu, a, rfl, hp, hm⟩ := r'.cell i _ hi
    obtain ⟨x, y, z, h3, h4, h5⟩ := pot_num (hm ▸ (r'.pot a hp).2.2)
    exact ⟨.ref a, hu, a, _, 0, 0, rfl, rfl, h3, rfl, hn δ' σ F' _ e' (r'.potSet hp (n' := δ'.n) (hm ▸ num_pot (x := j) (y := y) (z := z) upd_same h4 h5)) p⟩
/-- pot[2] = e -/
theorem ds_pot2 (i : Nat) {k0} (h : DE B X e δ fun d δ' => ∃ (v : Int) (n' : Nat), d = .int v ∧ δ'.s[i]? = some (some .pot) ∧ 0 ≤ v ∧ v ≤ (n' : Int) ∧ N ⟨n', δ'.s⟩) (hN : X.N[i]? = some pn := by rfl)
    (hv : Vis X.env.scope pn := by first | exact Or.inl rfl | exact Or.inr (Or.inl rfl) | exact Or.inr (Or.inr rfl)) (hd : (pn == ("__debug__" : Str)) = false := by decide)
    (hcd : (pn == ("__classdict__" : Str)) = false := by decide) (hs : swapsWithSole [Expr.Subscript (.Name pn pp) (.Constant (.int 2) k0 p2) p3] e pos.line X.env = pure false := by rfl)
    (hw : swappedStores [Expr.Subscript (.Name pn pp) (.Constant (.int 2) k0 p2) p3] e X.env = pure none := by rfl) : DS B X (.Assign [.Subscript (.Name pn pp) (.Constant (.int 2) k0 p2) p3] e pos) δ N R :=
  .of (ps_asg pe_w (pg_sub (pe_var hN hv hd hcd) pe_int set_list) hs hw) fun σ F H r D hn hr => h σ F H r _ fun v x δ' F' H' e' r' d ⟨j, n', hx, hi, h6, h7, p⟩ => by
    subst hx
    cases d
    obtain ⟨u, hu, a, rfl, hp, hm⟩ := r'.cell i _ hi
    obtain ⟨x, y, z, h3, h4, h5⟩ := pot_num (hm ▸ (r'.pot a hp).2.2)
    exact ⟨.ref a, hu, a, _, 2, 2, rfl, rfl, h3, rfl, hn ⟨n', δ'.s⟩ σ F' _ e' (r'.potSet hp (n' := n') (hm ▸ num_pot (x := x) (y := y) (z := j) upd_same h6 h7)) p⟩
end
end DL

set_option maxHeartbeats 200000
set_option Elab.async false
set_option linter.all false
set_option maxRecDepth 100000
namespace DL
open PySem PySem.Spec PyProof.Rows L2
/-! ### defs that tell a list of their own -/
abbrev SpO := List PyData → (List PyData → Prop) → Prop
def spO (K : PySem.W.Frag) (S : SpO) : Sp := fun vs H Q _ => ∃ F ds Φ, Same F H ∧ DqAll K F vs ds ∧ S ds Φ ∧
  ∀ a us xs F' H', Same F F' → Same F' H' → (∀ b, F b = none → H b ≠ none → F' b = none) → (∀ b o, H b = some o → H' b = some o) → H a = none → F' a = none → H' a = some (.lst us) → DqAll K F' us xs → Φ xs → Q (.ref a) H'
/-- the same, that is handed the pot ahead -/
abbrev SpPO := Nat → List PyData → (List PyData → Nat → Prop) → Prop
def spPO (K : PySem.W.Frag) (S : SpPO) : Sp := fun vs H Q _ => ∃ F p vs' ds n Φ, vs = .ref p :: vs' ∧ Same F H ∧ F p = none ∧ PotAt none H p n ∧ DqAll K F vs' ds ∧ S n ds Φ ∧
  ∀ a us xs n' F' H', Same F F' → Same F' H' → (∀ b, F b = none → H b ≠ none → F' b = none) → (∀ b o, H b = some o → b ≠ p → H' b = some o) → PotAt none H' p n' → H a = none → F' a = none → H' a = some (.lst us) → DqAll K F' us xs → Φ xs n' → Q (.ref a) H'
/-- statements that end by telling a list of their own -/
def WO (B : Bs) (ts : TS) (δ : St') (R : List PyData → St' → Prop) : Prop := ∀ σ F H, Rep B δ σ F H → ∀ D : Ends, (∀ a us xs δ' σ' F' H', Same F F' → Rep B δ' σ' F' H' → B.H a = none → F' a = none → H' a = some (.lst us) → DqAll B.K F' us xs → R xs δ' → D.rt (.ref a) H') → ts D σ H
def DOs (B : B0) (X : Cx) (sts : List Stmt) (δ : St') (R : List PyData → St' → Prop) : Prop := WO (bs X B) (wSs X sts) δ R
section
variable {B : B0} {X : Cx} {a b c e : Expr} {es : List Expr} {st : Stmt} {rest : List Stmt} {δ : St'} {Φ : PE1} {R : List PyData → St' → Prop} {p pos pp p2 p3 : Pos} {x pn : Str}
theorem DOs.of {sts : List Stmt} {ts : TS} (q : PSs X sts ts) (h : WO (bs X B) ts δ R) : DOs B X sts δ R := fun σ F H r D z pins s I => q.run pins s σ H D I (h σ F H r D z)
theorem dos_cons (h : DS B X st δ (fun δ' => DOs B X rest δ' R) fun _ _ => False) : DOs B X (st :: rest) δ R := .of (pss_cons ps_w pss_w) fun σ F H r D z =>
  h σ F H r _ (fun δ' σ' F' H' e' r' q => q σ' F' H' r' D fun a us xs δ2 σ2 F2 H2 e2 => z a us xs δ2 σ2 F2 H2 (e'.trans e2)) fun v x δ' σ' F' H' e' r' d q => q.elim
theorem dos_ret (h : DLs B X e δ R) : DOs B X [.Return (some e) pos] δ R := .of (pss_one (ps_ret pe_w)) fun σ F H r D z =>
  h σ F H r _ fun a us xs δ' F' H' e' r' k1 k2 k3 k4 k5 k6 => z a us xs δ' σ F' H' e' r' k1 k2 k3 k5 k6
theorem dos_own (i : Nat) {xs : List PyData} (h : R xs δ) (hi : δ.s[i]? = some (some (.own xs)) := by rfl) (hN : X.N[i]? = some pn := by rfl)
    (hv : Vis X.env.scope pn := by first | exact Or.inl rfl | exact Or.inr (Or.inl rfl) | exact Or.inr (Or.inr rfl)) (hd : (pn == ("__debug__" : Str)) = false := by decide)
    (hcd : (pn == ("__classdict__" : Str)) = false := by decide) : DOs B X [.Return (some (.Name pn pp)) pos] δ R := .of (pss_one (ps_ret (pe_var hN hv hd hcd))) fun σ F H r D z => by
  obtain ⟨v, h1, a, us, rfl, h2, h3, h4, h5⟩ := r.cell i _ hi
  exact ⟨.ref a, h1, z a us xs δ σ F H (Same.refl F) r h2 h3 h4 h5 h⟩
theorem dos_bump (n' : Nat) (h : δ.n ≤ n') (q : DOs B X rest ⟨n', δ.s⟩ R) : DOs B X rest δ R := fun σ F H r D z => q σ F H (r.bump h) D z
theorem dos_if {bd : List Stmt} (h : DT B X c δ fun k δ' => if k = true then DOs B X bd δ' R else DOs B X rest δ' R) : DOs B X (.If c bd [] pos :: rest) δ R := .of (pss_cons (ps_if pt_w pss_w pss_nil) pss_w) fun σ F H r D z =>
  h σ F H r _ fun k δ' F' H' e' r' q => by
    cases k with
    | true => 
      rw [if_pos rfl] at q ⊢
      intro pins s I
      refine q σ F' H' r' ⟨wSs X rest D, D.rt, D.bk, D.ct⟩ (fun a us xs δ2 σ2 F2 H2 e2 => z a us xs δ2 σ2 F2 H2 (e'.trans e2)) pins s I
    | false =>
      rw [if_neg (by decide)] at q ⊢
      exact q σ F' H' r' D (fun a us xs δ2 σ2 F2 H2 e2 => z a us xs δ2 σ2 F2 H2 (e'.trans e2))
end
section
variable {P : Program} {w : World} {K : PySem.W.Frag} {mg : Str → Option Value} {base : Heap} {x qual : Str} {st : Stmt} {f : Addr} {fd : FuncData} {N ps : List Str} {k : Nat}
theorem fnO {S : SpO} {dvs : List V} {kws : List (Str × V)} (F : FunD K x qual (defArgs st) (defBody st) (defScope st) dvs kws f fd) (sc : FnScope N ps (defScope st)) (len : ∀ ds Φ, S ds Φ → ds.length = ps.length)
    (body : ∀ (B : B0) (cdv : Value) (A : Around) (outer : List Env) (s : Shared) (H : Hp) (E : XK) (ds : List PyData) (Φ : List PyData → Prop), Room k (A.deeper (envOfC qual (defScope st) s.heap.objs.size f cdv)) → B.p = none → S ds Φ →
      DOs B (bodyX P w K mg base N qual (defScope st) f cdv A outer s H E) (defBody st) (ini N (ds.map C.d) 0) fun x _ => Φ x) : FnOk P w K mg base CX0 (k + 1) f fd ps (spO K S) := by
  refine F.ok sc (fun vs H Q E h => ?_) (fun cdv A outer s H vs Q E hr h => ?_)
  · obtain ⟨F', ds, Φ, _, hd, hS, _⟩ := h
    rw [dpAll_len hd]; exact len ds Φ hS
  · obtain ⟨F', ds, Φ, e, hd, hS, q⟩ := h
    refine ⟨_, PSs.nox pss_w, ?_⟩
    refine body ⟨F', H, none, none⟩ cdv A outer s H E ds Φ hr rfl hS (L2.start N vs) F' H (rep_iniD e hd) _ fun a us xs δ' σ' F2 H2 e2 r2 k1 k2 k3 k5 k6 => ?_
    exact q a us xs F2 H2 e2 r2.ex r2.fr (fun b o z => r2.kp b o z (fun y => by cases y)) k1 k2 k3 k5 k6
theorem fnPO {S : SpPO} {dvs : List V} {kws : List (Str × V)} (F : FunD K x qual (defArgs st) (defBody st) (defScope st) dvs kws f fd) (sc : FnScope N ps (defScope st)) (len : ∀ n ds Φ, S n ds Φ → ds.length + 1 = ps.length)
    (body : ∀ (B : B0) (cdv : Value) (A : Around) (outer : List Env) (s : Shared) (H : Hp) (E : XK) (n : Nat) (ds : List PyData) (Φ : List PyData → Nat → Prop), Room k (A.deeper (envOfC qual (defScope st) s.heap.objs.size f cdv)) → B.p ≠ none → S n ds Φ →
      DOs B (bodyX P w K mg base N qual (defScope st) f cdv A outer s H E) (defBody st) (ini N (.pot :: ds.map C.d) n) fun x δ => Φ x δ.n) : FnOk P w K mg base CX0 (k + 1) f fd ps (spPO K S) := by
  refine F.ok sc (fun vs H Q E h => ?_) (fun cdv A outer s H vs Q E hr h => ?_)
  · obtain ⟨F', p, vs', ds, n, Φ, rfl, _, _, _, hd, hS, _⟩ := h
    rw [List.length_cons, dpAll_len hd]; exact len n ds Φ hS
  · obtain ⟨F', p, vs', ds, n, Φ, rfl, e, hp, hpot, hd, hS, q⟩ := h
    refine ⟨_, PSs.nox pss_w, ?_⟩
    refine body ⟨F', H, some p, none⟩ cdv A outer s H E n ds Φ hr (fun z => by cases z) hS (L2.start N (.ref p :: vs')) F' H (rep_iniP e hp hpot hd) _ fun a us xs δ' σ' F2 H2 e2 r2 k1 k2 k3 k5 k6 => ?_
    exact q a us xs δ'.n F2 H2 e2 r2.ex r2.fr (fun b o h1 h2 => r2.kp b o h1 fun y => h2 (by injection y with y; exact y.symm)) (r2.pot p rfl).2.2 k1 k2 k3 k5 k6
end
section
variable {B : B0} {X : Cx} {e : Expr} {es : List Expr} {δ : St'} {Φ : PE1} {Ψ : List PyData → St' → Prop} {p pos pp : Pos} {k k' : Nat} {ps : List Str} {x pn : Str}
/-- f(e, ..) where f tells a list of its own -/
theorem dl_f {S : SpO} (G : Fn X.prog X.w X.K X.mg X.base x k ps (spO X.K S)) (hr : Room k' X.A) (h : DA B X (e :: es) δ fun ds δ' => S ds fun y => Ψ y δ') (hk : k ≤ k' := by decide)
    (hg : Gl X x := by rfl) (hdb : (x == ("__debug__" : Str)) = false := by decide) (he : starEach (e :: es) X.env = (false, eval e X.env) :: starEach es X.env := by rfl) (hpl : (backTo pos (starEach es X.env)).any (·.1) = false := by rfl) :
    DLs B X (.Call (.Name x p) (e :: es) [] pos) δ Ψ := by
  obtain ⟨f, fd, h1, h2, h3, h4⟩ := G.ex
  refine .of (pe_call h4 (hr.mono hk) hg h1 h2 h3 .nil pass0 pa_w hdb he hpl) fun σ F H r Q q => h σ F H r _ fun vs ds δ' F' H' e1 r' d hS => ⟨F', ds, _, r'.ex, (by rw [List.append_nil]; exact d), hS, fun a us xs F2 H2 q1 q2 q3 q4 q5 q6 q7 q8 q9 => ?_⟩
  obtain ⟨j1, j2, j3, j4⟩ := r'.fresh q5
  exact q a us xs δ' F2 H2 (e1.trans q1) (r'.called q1 q2 q3 q4) j1 q6 q7 j4 q8 q9
/-- f(pot, e, ..) where f tells a list of its own -/
theorem dl_fP {S : SpPO} (i : Nat) (G : Fn X.prog X.w X.K X.mg X.base x k ps (spPO X.K S)) (hr : Room k' X.A) (h : DA B X es δ fun ds δ' => S δ'.n ds fun y n' => Ψ y ⟨n', δ'.s⟩) (hk : k ≤ k' := by decide) (hi : δ.s[i]? = some (some .pot) := by rfl) (hN : X.N[i]? = some pn := by rfl)
    (hv : Vis X.env.scope pn := by first | exact Or.inl rfl | exact Or.inr (Or.inl rfl) | exact Or.inr (Or.inr rfl)) (hd : (pn == ("__debug__" : Str)) = false := by decide)
    (hcd : (pn == ("__classdict__" : Str)) = false := by decide) (hg : Gl X x := by rfl) (hdb : (x == ("__debug__" : Str)) = false := by decide) (he : starEach (.Name pn pp :: es) X.env = (false, eval (.Name pn pp) X.env) :: starEach es X.env := by rfl) (hpl : (backTo pos (starEach es X.env)).any (·.1) = false := by rfl) :
    DLs B X (.Call (.Name x p) (.Name pn pp :: es) [] pos) δ Ψ := by
  obtain ⟨f, fd, h1, h2, h3, h4⟩ := G.ex
  refine .of (pe_call h4 (hr.mono hk) hg h1 h2 h3 .nil pass0 (pa_cons (pe_var hN hv hd hcd) pa_w he) hdb he hpl) fun σ F H r Q q => ?_
  obtain ⟨v, hv, a, rfl, hp, hm⟩ := r.cell i _ hi
  refine ⟨.ref a, hv, h σ F H r _ fun vs ds δ' F' H' e1 r' d hS => ⟨F', a, vs, ds, δ'.n, _, (by simp), r'.ex, r'.potF hp, hm ▸ (r'.pot a hp).2.2, d, hS, fun l us xs n' F2 H2 q1 q2 q3 q4 q5 q6 q7 q8 q9 q10 => ?_⟩⟩
  obtain ⟨j1, j2, j3, j4⟩ := r'.fresh q6
  exact q l us xs ⟨n', δ'.s⟩ F2 H2 (e1.trans q1) (r'.calledP hp q1 q2 q3 q4 (hm ▸ q5)) j1 q7 q8 j4 q9 q10
theorem upd_eq {H : Hp} {a : Addr} {o : HO} (h : H a = some o) : upd H a o = H := by
  funext b
  by_cases e : b = a
  · rw [e, upd_same, h]
  · rw [upd_ne e]
/-- behind a call that was handed a list of our own as its pot -/
theorem Rep.calledO {B : Bs} {δ : St'} {σ : List (Option V)} {F H F' H' : Hp} {i : Nat} {xs : List PyData} {a : Addr} {n' : Nat} (r : Rep B δ σ F H) (hi : δ.s[i]? = some (some (.own xs))) (hσ : σ[i]? = some (some (.ref a))) (e1 : Same F F') (e2 : Same F' H') (fr : ∀ b, F b = none → H b ≠ none → F' b = none)
    (kp : ∀ b o, H b = some o → b ≠ a → H' b = some o) (pot : PotAt none H' a n') : ∃ x y z : Int, 0 ≤ z ∧ z ≤ (n' : Int) ∧ Rep B (δ.put i (.own [.int x, .int y, .int z])) σ F' H' := by
  obtain ⟨v, h1, a', us, rfl, h2, h3, h4, h5⟩ := r.cell i _ hi
  rw [hσ] at h1
  have : a = a' := by injection h1 with h1; injection h1 with h1; injection h1
  subst this
  obtain ⟨x, y, z, h6, h7, h8⟩ := pot_num pot
  have hF' : F' a = none := fr a h3 (by rw [h4]; exact fun q => by cases q)
  have r1 : Rep B δ σ F' (upd H' a (.lst us)) := r.called e1 (fun b o q => by
    have : b ≠ a := fun z => by rw [z, hF'] at q; cases q
    rw [upd_ne this]; exact e2 b o q) fr (fun b o q => by
    by_cases e : b = a
    · subst e
      rw [h4] at q
      rw [upd_same]; exact q
    · rw [upd_ne e]; exact kp b o q e)
  have r2 := r1.write (c2 := .own [.int x, .int y, .int z]) (o := .lst [.int x, .int y, .int z]) hi rfl hσ h2 hF' rfl ⟨a, _, rfl, h2, hF', upd_same, .cons (.int _) (.cons (.int _) (.cons (.int _) .nil))⟩
  rw [upd_upd, upd_eq h6] at r2
  exact ⟨x, y, z, h7, h8, r2⟩
/-- f(pot, e, ..), the pot a list of our own -/
theorem de_fPo {S : SpP} (i : Nat) {u v w : Int} {n : Nat} (G : Fn X.prog X.w X.K X.mg X.base x k ps (spP X.K S)) (hr : Room k' X.A) (hw : 0 ≤ w) (hn : w ≤ (n : Int)) (h : DA B X es δ fun ds δ' => δ'.s[i]? = some (some (.own [.int u, .int v, .int w])) ∧ S n ds fun y n' => ∀ u' v' w' : Int, 0 ≤ w' → w' ≤ (n' : Int) → Φ y (δ'.put i (.own [.int u', .int v', .int w']))) (hk : k ≤ k' := by decide)
    (hi : δ.s[i]? = some (some (.own [.int u, .int v, .int w])) := by rfl) (hN : X.N[i]? = some pn := by rfl)
    (hv : Vis X.env.scope pn := by first | exact Or.inl rfl | exact Or.inr (Or.inl rfl) | exact Or.inr (Or.inr rfl)) (hd : (pn == ("__debug__" : Str)) = false := by decide)
    (hcd : (pn == ("__classdict__" : Str)) = false := by decide) (hg : Gl X x := by rfl) (hdb : (x == ("__debug__" : Str)) = false := by decide) (he : starEach (.Name pn pp :: es) X.env = (false, eval (.Name pn pp) X.env) :: starEach es X.env := by rfl) (hpl : (backTo pos (starEach es X.env)).any (·.1) = false := by rfl) :
    DE B X (.Call (.Name x p) (.Name pn pp :: es) [] pos) δ Φ := by
  obtain ⟨f, fd, h1, h2, h3, h4⟩ := G.ex
  refine .of (pe_call h4 (hr.mono hk) hg h1 h2 h3 .nil pass0 (pa_cons (pe_var hN hv hd hcd) pa_w he) hdb he hpl) fun σ F H r Q q => ?_
  obtain ⟨v0, hv0, a, us, rfl, hB, hF, hH, hD⟩ := r.cell i _ hi
  refine ⟨.ref a, hv0, h σ F H r _ fun vs ds δ' F' H' e1 r' d ⟨hi', hS⟩ => ?_⟩
  obtain ⟨v1, hv1, a1, us1, rfl, hB1, hF1, hH1, hD1⟩ := r'.cell i _ hi'
  rw [hv0] at hv1
  have : a = a1 := by injection hv1 with h1; injection h1 with h1; injection h1
  subst this
  have hus : us1 = [.int u, .int v, .int w] := by
    cases hD1 with
    | cons d1 d2 => cases d2 with
      | cons d2 d3 => cases d3 with
        | cons d3 d4 => cases d4; cases d1; cases d2; cases d3; rfl
  subst hus
  refine ⟨F', a, vs, ds, n, _, (by simp), r'.ex, hF1, num_pot hH1 hw hn, d, hS, fun y0 y n' F2 H2 q1 q2 q3 q4 q5 q6 q7 => ?_⟩
  obtain ⟨u', v', w', hw1, hw2, r2⟩ := r'.calledO hi' hv0 q1 q2 q3 q4 q5
  exact q y0 y _ F2 H2 (e1.trans q1) r2 q6 (q7 u' v' w' hw1 hw2)
end
end DL

set_option maxHeartbeats 200000
set_option Elab.async false
set_option linter.all false
set_option maxRecDepth 100000
namespace DL
open PySem PySem.Spec PyProof.Rows L2
section
variable {B : B0} {X : Cx} {a b c e ix : Expr} {es : List Expr} {st : Stmt} {rest : List Stmt} {δ : St'} {Φ : PE1} {N : St' → Prop} {R : PE1} {p pos pp p2 p3 : Pos} {x pn : Str}
theorem rc_int2 {B : Bs} {δ : St'} {Φ : PE1} {f : Int → Int → Int} {i j : Int} (p : Φ (.int (f i j)) δ) : RC B (fun xs H Q => ∃ i j, xs = [V.int i, .int j] ∧ Q (.int (f i j)) H) [.int i, .int j] δ Φ := rc_pure (w := .int (f i j)) (fun _ => .int _) (fun F H vs e d1 Q q => by
  cases d1 with
  | cons d1 d2 => cases d2 with
    | cons d2 d3 => cases d3; cases d1; cases d2; exact ⟨i, j, rfl, q⟩) p
theorem rc_int1 {B : Bs} {δ : St'} {Φ : PE1} {f : Int → Int} {i : Int} (p : Φ (.int (f i)) δ) : RC B (fun xs H Q => ∃ i, xs = [V.int i] ∧ Q (.int (f i)) H) [.int i] δ Φ := rc_pure (w := .int (f i)) (fun _ => .int _) (fun F H vs e d1 Q q => by
  cases d1 with
  | cons d1 d2 => cases d2; cases d1; exact ⟨i, rfl, q⟩) p
theorem dl_rep {Ψ : PL} (h : DLs B X a δ fun xs δ1 => DE B X b δ1 fun y δ2 => ∃ n : Nat, y = .int (n : Nat) ∧ n ≤ 1000 ∧ xs.length ≤ 100 ∧ Ψ (List.replicate n xs).flatten δ2) : DLs B X (.BinOp a .Mult b pos) δ Ψ := .of (pe_op op_rep pe_w pe_w) (wl_rep h)
/-- xs[i] = e, xs a list of our own -/
theorem ds_setIx (i : Nat) {xs : List PyData} (h : DE B X e δ fun x δ1 => DE B X ix δ1 fun y δ2 => ∃ (xs : List PyData) (k : Int) (j : Nat), y = .int k ∧ δ2.s[i]? = some (some (.own xs)) ∧ ixN xs.length k = some j ∧ N (δ2.put i (.own (xs.set j x)))) (hi : δ.s[i]? = some (some (.own xs)) := by rfl) (hN : X.N[i]? = some pn := by rfl)
    (hv : Vis X.env.scope pn := by first | exact Or.inl rfl | exact Or.inr (Or.inl rfl) | exact Or.inr (Or.inr rfl)) (hd : (pn == ("__debug__" : Str)) = false := by decide)
    (hcd : (pn == ("__classdict__" : Str)) = false := by decide) (hs : swapsWithSole [Expr.Subscript (.Name pn pp) ix p3] e pos.line X.env = pure false := by rfl)
    (hw : swappedStores [Expr.Subscript (.Name pn pp) ix p3] e X.env = pure none := by rfl) (ha : ∀ v, assign (.Subscript (.Name pn pp) ix p3) X.env v = (do
      let ov ← holding [v] (eval (.Name pn pp) X.env)
      let iv ← holding [v, ov] (eval ix X.env)
      standAt p3
      holding [v, ov, iv] (setItem ov iv v)
      release [v, ov, iv] []) := by intro _; rfl) : DS B X (.Assign [.Subscript (.Name pn pp) ix p3] e pos) δ N R :=
  .of (ps_asg pe_w (pg_sub (pe_var hN hv hd hcd) pe_w set_list ha) hs hw) fun σ F H r D hn hr => h σ F H r _ fun v x δ1 F1 H1 e1 r1 d p => by
    obtain ⟨u, hu, a, us, rfl, hB, hF, hH, hdd⟩ := r.cell i _ hi
    refine ⟨.ref a, hu, p σ F1 H1 r1 _ fun w y δ2 F2 H2 e2 r2 dw ⟨ys, k, j, hy, hi2, hj, q⟩ => ?_⟩
    subst hy
    cases dw
    obtain ⟨u', hu', a', us', rfl, hB', hF', hH', hdd'⟩ := r2.cell i _ hi2
    rw [hu] at hu'
    have : a = a' := by injection hu' with h1; injection h1 with h1; injection h1
    subst this
    refine ⟨a, us', k, j, rfl, rfl, hH', by rw [dpAll_len hdd']; exact hj, ?_⟩
    refine hn _ σ F2 _ (e1.trans e2) (r2.write (c2 := .own (ys.set j x)) hi2 rfl hu hB' hF' rfl ⟨a, us'.set j v, rfl, hB', hF', upd_same, ?_⟩) q
    have hd2 := dp_mono (H := F1) (H' := F2) e2 x v d
    have key : ∀ (us : List V) (ds : List PyData) (j : Nat), DqAll (bs X B).K F2 us ds → DqAll (bs X B).K F2 (us.set j v) (ds.set j x) := by
      intro us ds
      induction ds generalizing us with
      | nil => intro j hh; cases hh; exact .nil
      | cons d ds ih =>
        intro j hh
        cases hh with
        | cons h1 h2 =>
          cases j with
          | zero => exact .cons hd2 h2
          | succ j => exact .cons h1 (ih _ j h2)
    exact key _ _ _ hdd'
end
theorem ixN_nn {n : Nat} {k : Int} (h0 : 0 ≤ k) (h1 : k < n) : ixN n k = some k.toNat := by
  unfold ixN
  rw [if_pos h0, if_pos h1]
theorem atI_nn {α : Type} {xs : List α} {k : Int} (h0 : 0 ≤ k) : atI xs k = xs[k.toNat]? := by
  unfold atI ixN
  rw [if_pos h0]
  split
  · rfl
  · rw [List.getElem?_eq_none (by omega)]; rfl
end DL

set_option maxHeartbeats 200000
set_option Elab.async false
set_option linter.all false
set_option maxRecDepth 100000
namespace DL
open PySem PySem.Spec PyProof.Rows L2
section
variable {B : B0} {X : Cx} {a b c e o : Expr} {δ : St'} {Φ : PE1} {p pos pp p2 p3 : Pos}
theorem strs_v {K : PySem.W.Frag} {F : Hp} {us : List V} {ys : List Str} (h : DqAll K F us (ys.map PyData.str)) : us = ys.map V.str := by
  rw [atoms_v h (by simp [atom]), List.map_map]
  rfl
/-- x.join(a list of texts) -/
theorem de_join {apos : Pos} (h : DE B X o δ fun x δ1 => ∃ a, x = .str a ∧ DE B X e δ1 fun y δ2 => ∃ ys : List Str, y = .list (ys.map PyData.str) ∧ (ys.map (·.length)).sum + ys.length * a.length ≤ 16777216 ∧ Φ (.str (Txt.join a ys)) δ2)
    (hs : starEach [e] X.env = [(false, eval e X.env)] := by rfl) (hbase : attributeBase o "join" X.env (eval o X.env) = eval o X.env := by rfl) (hline : (apos.endLine == pos.line) = true := by rfl) :
    DE B X (.Call (.Attribute o "join" apos) [e] [] pos) δ Φ := .of (pe_join pe_w pe_w hs hbase hline) fun σ F H r Q q => h σ F H r _ fun v x δ1 F1 H1 e1 r1 d1 ⟨a, hx, p1⟩ => by
  subst hx
  cases d1
  refine ⟨⟨a, rfl⟩, p1 σ F1 H1 r1 _ fun u y δ2 F2 H2 e2 r2 d2 ⟨ys, hy, hz, p2⟩ => ?_⟩
  subst hy
  cases d2 with
  | lst hsq ha =>
    rw [strs_v ha] at hsq
    exact ⟨a, _, ys, rfl, rfl, .inl (r2.ex.seq hsq), hz, q _ _ δ2 F2 H2 (e1.trans e2) r2 (.str _) p2⟩
theorem dl_cat {Ψ : PL} (h : DE B X a δ fun x δ1 => ∃ xs, x = .list xs ∧ DE B X b δ1 fun y δ2 => ∃ ys, y = .list ys ∧ xs.length + ys.length ≤ 100000 ∧ Ψ (xs ++ ys) δ2) : DLs B X (.BinOp a .Add b pos) δ Ψ := .of (pe_op op_catL pe_w pe_w) (wl_cat h)
end
theorem joinL_nil : ∀ ps : List (List Nat), TL.joinL [] ps = ps.flatten
  | [] => rfl
  | [p] => by simp [TL.joinL]
  | p :: q :: r => by
    show p ++ ([] ++ TL.joinL [] (q :: r)) = _
    rw [joinL_nil (q :: r)]
    simp
end DL

set_option maxHeartbeats 200000
set_option Elab.async false
set_option linter.all false
set_option maxRecDepth 100000
namespace DL
open PySem PySem.Spec PyProof.Rows L2
/-! ### calls with keywords -/
section
variable {K : PySem.W.Frag} {x qual : Str} {params : Arguments} {body : List Stmt} {scope : Scope} {kws : List (Str × V)} {f : Addr} {fd : FuncData} {ps : List Str}
/-- keyword-only defaults, no others: f(e, .., k = v, ..); ms: those that lack -/
theorem kbinds0 (F : FunD K x qual params body scope [] kws f fd) (n : Nat) (ks : List Str) (ms : List (Str × V)) (g : {α : Type} → List α → List α → List α → List α) (hk : kws ≠ []) (hms : ∀ q ∈ ms, q ∈ kws)
    (hrel : ∀ {vs mz zs : List V} {us mv ws : List Value}, Vals vs us → Vals mz mv → Vals zs ws → Vals (g vs mz zs) (g us mv ws))
    (h : ∀ (D : Addr) (doc pm : Value) (an : Option Addr) (cdv ct : Value) (us mv ws : List Value), us.length = n → mv.length = ms.length → ws.length = ks.length →
      KwChain D ((ms.map (·.1)).zip mv) (bindArgs (PySem.W.fnOf x qual params body scope .none (.ref D) doc pm an cdv ct) ⟨us, ks.zip ws⟩) (ps.zip (g us mv ws))) :
    ∃ mv : List Value, KBn K fd ps n ks (fun us ws => g us mv ws) (fun vs zs => g vs (ms.map (·.2)) zs) := by
  obtain ⟨oc, od, dV, kV, doc, pm, an, cdv, ct, osl, rfl, lk, hcd, hD, hK⟩ := F.ex
  rcases hD with ⟨_, rfl⟩ | ⟨e, _⟩
  · rcases hK with e | ⟨D, rfl, hq⟩
    · exact absurd e hk
    · obtain ⟨mv, hl, rk, hks⟩ := kwd_vals (ms := ms) fun q hm => hq q (hms q hm)
      exact ⟨mv, ⟨fun s us ws X l1 l2 => BindsTo.of_looks fun M => KwChain.looks X hks (h D doc pm an cdv ct us mv ws l1 hl l2), fun r1 r2 => hrel r1 rk r2⟩⟩
  · exact absurd rfl e
end
/-- a def of the text that is called with keywords ks -/
structure FnKw (P : Program) (w : World) (K : PySem.W.Frag) (mg : Str → Option Value) (base : Heap) (x : Str) (k : Nat) (ps : List Str) (n : Nat) (ks : List Str) (gV : List V → List V → List V) (sp : Sp) : Prop where
  ex : ∃ f fd g, mg x = some (.ref f) ∧ PySem.W.keepIn K (.ref f) = true ∧ KBn K fd ps n ks g gV ∧ FnOk P w K mg base CX0 k f fd ps sp
section
variable {B : B0} {X : Cx} {e : Expr} {es : List Expr} {kws : List Keyword} {δ : St'} {Φ : PE1} {p pos : Pos} {k k' n : Nat} {ps ks : List Str} {x : Str} {gV : List V → List V → List V} {tk : TA}
theorem de_fKw {S : SpD} (gD : List PyData → List PyData → List PyData) (G : FnKw X.prog X.w X.K X.mg X.base x k ps n ks gV (spD X.K S)) (hr : Room k' X.A) (hkw : PK X kws tk)
    (hg2 : ∀ {F : Hp} {vs zs : List V} {ds es : List PyData}, DqAll X.K F vs ds → DqAll X.K F zs es → DqAll X.K F (gV vs zs) (gD ds es))
    (h : DA B X (e :: es) δ fun ds δ1 => WA (bs X B) tk δ1 fun zs δ2 => ds.length = n ∧ zs.length = ks.length ∧ S (gD ds zs) fun y => Φ y δ2) (hk : k ≤ k' := by decide)
    (hg : Gl X x := by rfl) (hall : (backToKw pos (keywordEach kws X.env)).all (·.1.isSome) = true := by rfl) (hks : (backToKw pos (keywordEach kws X.env)).filterMap (·.1) = ks := by rfl)
    (hdb : (x == ("__debug__" : Str)) = false := by decide) (he : starEach (e :: es) X.env = (false, eval e X.env) :: starEach es X.env := by rfl)
    (hpl : ((backTo pos (starEach (e :: es) X.env)).any (·.1) || (backToKw pos (keywordEach kws X.env)).any (·.1.isNone)) = false := by rfl) :
    DE B X (.Call (.Name x p) (e :: es) kws pos) δ Φ := by
  obtain ⟨f, fd, g, h1, h2, h3, h4⟩ := G.ex
  refine .of (pe_callN h4 (hr.mono hk) hg h1 h2 h3 pass0 pa_w hkw hall hks hdb he hpl) fun σ F H r Q q => h σ F H r _ fun vs ds δ1 F1 H1 e1 r1 d1 p1 => p1 σ F1 H1 r1 _ fun zs es' δ2 F2 H2 e2 r2 d2 ⟨l1, l2, hS⟩ => ?_
  refine ⟨(dpAll_len d1).trans l1, (dpAll_len d2).trans l2, F2, _, _, r2.ex, hg2 (dpAll_mono e2 _ _ d1) d2, hS, fun v y F3 H3 q1 q2 q3 q4 q5 q6 => ?_⟩
  exact q v y δ2 F3 H3 (e1.trans (e2.trans q1)) (r2.called q1 q2 q3 q4) q5 q6
end
end DL

set_option maxHeartbeats 200000
set_option Elab.async false
set_option linter.all false
set_option maxRecDepth 100000
namespace DL
open PySem PySem.Spec PyProof.Rows L2
/-! ### handles: lists that change, told of by a store -/
abbrev Gm := Addr → Option (List PyData)
/-- the begin B tells of these lists: they stand still -/
def StIn (B : Bs) (G : Gm) : Prop := ∀ a xs, G a = some xs → ∃ vs, B.H a = some (.lst vs) ∧ DqAll B.K B.F vs xs ∧ B.F a = none ∧ B.p ≠ some a
theorem StIn.sub {B B' : B0} {X : Cx} {X' : Cx} {G : Gm} (h : StIn (bs X B) G) (s : Sub B B') (e : X'.K = X.K) : StIn (bs X' B') G := fun a xs ha => by
  obtain ⟨vs, h1, h2, h3, h4⟩ := h a xs ha
  obtain ⟨s1, s2, s3, s4⟩ := s
  refine ⟨vs, s4 a _ h1 h4, ?_, s3 a h3 (fun z => by rw [show B.H a = _ from h1] at z; cases z), fun z => h4 (s1 ▸ z)⟩
  show DqAll X'.K B'.F vs xs
  rw [e]
  exact dpAll_mono s2 _ _ h2
section
variable {B : Bs} {δ : St'} {Φ : PE1} {G : Gm}
theorem StIn.get (hG : StIn B G) {σ : List (Option V)} {F H : Hp} (r : Rep B δ σ F H) {a : Addr} {xs : List PyData} (h : G a = some xs) : ∃ vs, H a = some (.lst vs) ∧ DqAll B.K F vs xs ∧ F a = none := by
  obtain ⟨vs, h1, h2, h3, h4⟩ := hG a xs h
  exact ⟨vs, r.kp a _ h1 h4, dpAll_mono r.f0 _ _ h2, r.fr a h3 (fun z => by rw [h1] at z; cases z)⟩
/-- h[i] -/
theorem rd_hIx (hG : StIn B G) {a : Addr} {xs : List PyData} {i : Int} {z : PyData} (hg : G a = some xs) (h : atI xs i = some z) (p : Φ z δ) : RD B (rIxL B.K) (hdD a) (.int i) δ Φ := fun σ F H r v u d1 d2 Q q => by
  cases d1
  cases d2
  obtain ⟨vs, h1, h2, h3⟩ := hG.get r hg
  obtain ⟨w, hw, hd⟩ := atI_map h2 h
  exact ⟨a, vs, i, w, rfl, rfl, .inl (.inl h1), hw, q w z δ F H (Same.refl F) r hd p⟩
/-- len(h) -/
theorem rc_hLen {K} (hK : K = B.K) (hG : StIn B G) {a : Addr} {xs : List PyData} (hg : G a = some xs) (p : Φ (.int xs.length) δ) : RC B (fun xs H Q => ∃ x n, xs = [x] ∧ LenV K x H n ∧ Q (.int n) H) [hdD a] δ Φ := fun σ F H r vs d Q q => by
  subst hK
  cases d with
  | cons d1 d2 =>
    cases d2
    cases d1
    obtain ⟨us, h1, h2, h3⟩ := hG.get r hg
    refine ⟨.ref a, xs.length, rfl, ?_, q _ _ δ F H (Same.refl F) r (.int _) p⟩
    unfold LenV
    refine .inl ⟨_, .inl (.inl h1), ?_⟩
    rw [dpAll_len h2]
/-- a, b, .. = h -/
theorem wg_h (hG : StIn B G) {n : Nat} {u : TGs} {ix : List Nat} {a : Addr} {ys : List PyData} {N : St' → Prop} (hg : G a = some ys) (h : WGs B u ix ys δ N) (hn : ys.length = n := by rfl) : WG B (gUnl B.K n u) ix (hdD a) δ N := fun σ F H r v d Q q => by
  cases d
  obtain ⟨us, h1, h2, h3⟩ := hG.get r hg
  exact ⟨a, us, rfl, .inl (.inl h1), (dpAll_len h2).trans hn, h σ F H r us h2 Q q⟩
/-- for .. in h -/
theorem wkB_h (hG : StIn B G) {a : Addr} {xs : List PyData} {F : Hp} (hg : G a = some xs) : WkB B (Itl B.K a) xs F where
  stop := fun i δ σ F' H e r h => by
    obtain ⟨us, h1, h2, h3⟩ := hG.get r hg
    exact ⟨us, .inl (.inl h1), by rw [dpAll_len h2]; exact h⟩
  go := fun i δ σ F' H e r h => by
    obtain ⟨us, h1, h2, h3⟩ := hG.get r hg
    obtain ⟨v, hv, _⟩ := dpAll_get h2 (List.getElem?_eq_getElem h)
    exact ⟨us, v, .inl (.inl h1), hv⟩
  yld := fun i δ σ F' H v H' y e r h hy => by
    obtain ⟨e1, e2⟩ := hy
    subst e1
    obtain ⟨us, h1, h2, h3⟩ := hG.get r hg
    obtain ⟨v', hv, hd⟩ := dpAll_get h2 h
    have q := e2 us (.inl (.inl h1))
    rw [hv] at q
    injection q with q
    subst q
    exact ⟨F', Same.refl _, r, Same.refl _, fun b z _ => z, hd⟩
theorem wi_h (hG : StIn B G) {te : TE} {Ψ : List PyData → St' → Prop} (h : WE B te δ fun x δ' => ∃ a xs, x = hdD a ∧ G a = some xs ∧ Ψ xs δ') : WI B (iList B.K te) δ Ψ := fun σ F H r R q => h σ F H r _ fun v x δ' F' H' e r' d ⟨a, xs, hx, hg, p⟩ => by
  subst hx
  cases d
  obtain ⟨us, h1, h2, h3⟩ := hG.get r' hg
  exact ⟨_, rfl, ⟨_, .inl (.inl h1)⟩, q _ xs δ' F' H' e r' (wkB_h hG hg) p⟩
end
end DL

set_option maxHeartbeats 200000
set_option Elab.async false
set_option linter.all false
set_option maxRecDepth 100000
namespace DL
open PySem PySem.Spec PyProof.Rows L2
/-- the store as it stands: lists of nobody but the handles -/
structure Sto1 (B : Bs) (δ : St') (σ : List (Option V)) (F H : Hp) (a : Addr) (xs : List PyData) : Prop where
  at' : ∃ vs, H a = some (.lst vs) ∧ DqAll B.K F vs xs
  fF : F a = none
  bH : B.H a = none
  np : B.p ≠ some a
  ap : ∀ (i : Nat) (c : C), δ.s[i]? = some (some c) → own? c = true → σ[i]? ≠ some (some (.ref a))
def Sto (B : Bs) (G : Gm) (δ : St') (σ : List (Option V)) (F H : Hp) : Prop := ∀ a xs, G a = some xs → Sto1 B δ σ F H a xs
def B0.on (B : B0) (G : Gm) (F H : Hp) : B0 := ⟨F, fun b => if (G b).isSome = true then H b else B.H b, B.p, B.m⟩
section
variable {B : B0} {X : Cx} {G : Gm} {δ δ' : St'} {σ σ' : List (Option V)} {F H F' H' : Hp}
theorem on_some {a : Addr} {xs : List PyData} (h : G a = some xs) : (B.on G F H).H a = H a := by
  show (if (G a).isSome = true then H a else B.H a) = _
  rw [h]; rfl
theorem on_none {a : Addr} (h : G a = none) : (B.on G F H).H a = B.H a := by
  show (if (G a).isSome = true then H a else B.H a) = _
  rw [h]; rfl
theorem Sto1.ne {B : Bs} {a : Addr} {xs : List PyData} (h : Sto1 B δ σ F H a xs) : H a ≠ none := by
  obtain ⟨vs, h1, _⟩ := h.at'
  rw [h1]
  exact fun z => by cases z
theorem Rep.up (r : Rep (bs X B) δ σ F H) (s : Sto (bs X B) G δ σ F H) : Rep (bs X (B.on G F H)) δ σ F H := by
  have hn : ∀ {i : Nat} {c : C} {a : Addr}, δ.s[i]? = some (some c) → own? c = true → σ[i]? = some (some (.ref a)) → B.H a = none → (B.on G F H).H a = none := fun {i c a} h1 h2 h3 h4 => by
    cases hg : G a with
    | none => rw [on_none hg]; exact h4
    | some xs => exact absurd h3 ((s a xs hg).ap i c h1 h2)
  refine ⟨r.ex, Same.refl F, fun b h _ => h, fun b o h hp => ?_, fun a ha => ⟨r.potF ha, ?_, (r.pot a ha).2.2⟩, fun i c h => ?_, r.len, r.ap⟩
  · have h' : (B.on G F H).H b = some o := h
    cases hg : G b with
    | none => rw [on_none hg] at h'; exact r.kp b o h' hp
    | some xs => rw [on_some hg] at h'; exact h'
  · show (B.on G F H).H a ≠ none
    cases hg : G a with
    | none => rw [on_none hg]; exact (r.pot a ha).2.1
    | some xs => exact absurd ha (s a xs hg).np
  · obtain ⟨v, hv, hc⟩ := r.cell i c h
    refine ⟨v, hv, ?_⟩
    cases c with
    | d x => exact hc
    | pot => exact hc
    | bor => exact hc
    | own xs =>
      obtain ⟨a, vs, e, h1, h2, h3, h4⟩ := hc
      subst e
      exact ⟨a, vs, rfl, hn h rfl hv h1, h2, h3, h4⟩
    | dct kvs =>
      obtain ⟨a, vs, e, h1, h2, h3, h4⟩ := hc
      subst e
      exact ⟨a, vs, rfl, hn h rfl hv h1, h2, h3, h4⟩
    | iset ns =>
      obtain ⟨a, e, h1, h2, h3⟩ := hc
      subst e
      exact ⟨a, rfl, hn h rfl hv h1, h2, h3⟩
theorem StIn.on (s : Sto (bs X B) G δ σ F H) : StIn (bs X (B.on G F H)) G := fun a xs h => by
  obtain ⟨⟨vs, h1, h2⟩, h3, h4, h5, _⟩ := s a xs h
  exact ⟨vs, (on_some h).trans h1, h2, h3, h5⟩
theorem Rep.down (r : Rep (bs X B) δ σ F H) (s : Sto (bs X B) G δ σ F H) (r' : Rep (bs X (B.on G F H)) δ' σ' F' H') : Rep (bs X B) δ' σ' F' H' ∧ Sto (bs X B) G δ' σ' F' H' := by
  have hn : ∀ {a : Addr}, (B.on G F H).H a = none → B.H a = none := fun {a} h => by
    cases hg : G a with
    | none => rw [on_none hg] at h; exact h
    | some xs => rw [on_some hg] at h; exact absurd h (s a xs hg).ne
  refine ⟨⟨r'.ex, r.f0.trans r'.f0, fun b h1 h2 => r'.fr b (r.fr b h1 h2) ?_, fun b o h hp => r'.kp b o ?_ hp, fun a ha => ⟨(r.pot a ha).1, (r.pot a ha).2.1, (r'.pot a ha).2.2⟩, fun i c h => ?_, r'.len, r'.ap⟩, fun a xs h => ⟨?_, ?_, (s a xs h).bH, (s a xs h).np, fun i c hi ho hs => ?_⟩⟩
  · show (B.on G F H).H b ≠ none
    cases hg : G b with
    | none => rw [on_none hg]; exact h2
    | some xs => rw [on_some hg]; exact (s b xs hg).ne
  · show (B.on G F H).H b = some o
    cases hg : G b with
    | none => rw [on_none hg]; exact h
    | some xs => rw [show B.H b = none from (s b xs hg).bH] at h; cases h
  · obtain ⟨v, hv, hc⟩ := r'.cell i c h
    refine ⟨v, hv, ?_⟩
    cases c with
    | d x => exact hc
    | pot => exact hc
    | bor => exact hc
    | own xs =>
      obtain ⟨a, vs, e, h1, h2, h3, h4⟩ := hc
      exact ⟨a, vs, e, hn h1, h2, h3, h4⟩
    | dct kvs =>
      obtain ⟨a, vs, e, h1, h2, h3, h4⟩ := hc
      exact ⟨a, vs, e, hn h1, h2, h3, h4⟩
    | iset ns =>
      obtain ⟨a, e, h1, h2, h3⟩ := hc
      exact ⟨a, e, hn h1, h2, h3⟩
  · obtain ⟨vs, h1, h2⟩ := (s a xs h).at'
    exact ⟨vs, r'.kp a _ ((on_some h).trans h1) (s a xs h).np, dpAll_mono r'.f0 _ _ h2⟩
  · exact r'.fr a (s a xs h).fF (by show (B.on G F H).H a ≠ none; rw [on_some h]; exact (s a xs h).ne)
  · obtain ⟨v, hv, hc⟩ := r'.cell i c hi
    rw [hs] at hv
    injection hv with hv
    injection hv with hv
    subst hv
    have key : (B.on G F H).H a = none := by
      cases c with
      | d x => cases ho
      | pot => cases ho
      | bor => cases ho
      | own xs =>
        obtain ⟨a', vs, e, h1, _⟩ := hc
        cases e
        exact h1
      | dct kvs =>
        obtain ⟨a', vs, e, h1, _⟩ := hc
        cases e
        exact h1
      | iset ns =>
        obtain ⟨a', e, h1, _⟩ := hc
        cases e
        exact h1
    rw [on_some h] at key
    exact (s a xs h).ne key
end
/-! ### statements with a store -/
def SSs (B : B0) (X : Cx) (ts : TS) (G : Gm) (δ : St') (N : St' → Gm → Prop) (R : PyData → St' → Gm → Prop) : Prop := ∀ σ F H, Rep (bs X B) δ σ F H → Sto (bs X B) G δ σ F H → ∀ D : Ends,
  (∀ δ' G' σ' F' H', Same F F' → Rep (bs X B) δ' σ' F' H' → Sto (bs X B) G' δ' σ' F' H' → N δ' G' → D.nx σ' H') →
  (∀ v x δ' G' σ' F' H', Same F F' → Rep (bs X B) δ' σ' F' H' → Sto (bs X B) G' δ' σ' F' H' → Dq X.K F' v x → R x δ' G' → D.rt v H') → ts D σ H
section
variable {B : B0} {X : Cx} {G : Gm} {δ : St'} {N : St' → Gm → Prop} {R : PyData → St' → Gm → Prop} {st : Stmt} {rest : List Stmt}
/-- a statement that leaves the store as it is -/
theorem sss_ds (h : ∀ B' : B0, B'.p = B.p → StIn (bs X B') G → DS B' X st δ (fun δ' => SSs B X (wSs X rest) G δ' N R) fun x δ' => R x δ' G) : SSs B X (wSs X (st :: rest)) G δ N R := fun σ F H r s D hn hr pins t I =>
  (pss_cons ps_w pss_w).run pins t σ H D I (h (B.on G F H) rfl (StIn.on s) σ F H (r.up s) _ (fun δ' σ' F' H' e' r' q => by
    obtain ⟨r2, s2⟩ := r.down s r'
    exact q σ' F' H' r2 s2 D (fun δ2 G2 σ2 F2 H2 e2 => hn δ2 G2 σ2 F2 H2 (e'.trans e2)) fun v x δ2 G2 σ2 F2 H2 e2 => hr v x δ2 G2 σ2 F2 H2 (e'.trans e2)) fun v x δ' σ' F' H' e' r' d q => by
    obtain ⟨r2, s2⟩ := r.down s r'
    exact hr v x δ' G σ' F' H' e' r2 s2 d q)
theorem sss_nil (p : N δ G) : SSs B X (wSs X []) G δ N R := fun σ F H r s D hn hr pins t I => pss_nil.run pins t σ H D I (hn δ G σ F H (Same.refl F) r s p)
end
end DL

set_option maxHeartbeats 200000
set_option Elab.async false
set_option linter.all false
set_option maxRecDepth 100000
namespace DL
open PySem PySem.Spec PyProof.Rows L2
/-- things that nobody tells of may change -/
theorem Rep.swap {B : Bs} {δ : St'} {σ : List (Option V)} {F H H' : Hp} (r : Rep B δ σ F H) (h : ∀ b, (F b = none ∧ B.H b = none ∧ ∀ (i : Nat) (c : C), δ.s[i]? = some (some c) → own? c = true → σ[i]? ≠ some (some (.ref b))) ∨ H' b = H b) : Rep B δ σ F H' := by
  refine ⟨fun b u e => ?_, r.f0, r.fr, fun b u h1 h2 => ?_, fun p hp => ?_, fun i c hi => ?_, r.len, r.ap⟩
  · rcases h b with ⟨k, _⟩ | k
    · rw [k] at e; cases e
    · rw [k]; exact r.ex b u e
  · rcases h b with ⟨_, k, _⟩ | k
    · rw [k] at h1; cases h1
    · rw [k]; exact r.kp b u h1 h2
  · obtain ⟨h1, h2, x, y, z, h3, h4⟩ := r.pot p hp
    rcases h p with ⟨_, k, _⟩ | k
    · exact absurd k h2
    · exact ⟨h1, h2, x, y, z, by rw [k]; exact h3, h4⟩
  · obtain ⟨v, hv, hc⟩ := r.cell i c hi
    refine ⟨v, hv, ?_⟩
    cases c with
    | d x => exact hc
    | own xs =>
      obtain ⟨b, vs, e, h1, h2, h3, h4⟩ := hc
      subst e
      rcases h b with ⟨_, _, k⟩ | k
      · exact absurd hv (k i _ hi rfl)
      · exact ⟨b, vs, rfl, h1, h2, by rw [k]; exact h3, h4⟩
    | dct kvs =>
      obtain ⟨b, vs, e, h1, h2, h3, h4⟩ := hc
      subst e
      rcases h b with ⟨_, _, k⟩ | k
      · exact absurd hv (k i _ hi rfl)
      · exact ⟨b, vs, rfl, h1, h2, by rw [k]; exact h3, h4⟩
    | iset ns =>
      obtain ⟨b, e, h1, h2, h3⟩ := hc
      subst e
      rcases h b with ⟨_, _, k⟩ | k
      · exact absurd hv (k i _ hi rfl)
      · exact ⟨b, rfl, h1, h2, by rw [k]; exact h3⟩
    | pot => exact hc
    | bor => exact hc
def gput (G : Gm) (a : Addr) (xs : List PyData) : Gm := fun b => if b = a then some xs else G b
theorem gput_same {G : Gm} {a : Addr} {xs : List PyData} : gput G a xs a = some xs := if_pos rfl
theorem gput_ne {G : Gm} {a b : Addr} {xs : List PyData} (h : b ≠ a) : gput G a xs b = G b := if_neg h
section
variable {B : B0} {X : Cx} {G : Gm} {δ : St'} {N : St' → Gm → Prop} {R : PyData → St' → Gm → Prop} {st : Stmt} {rest : List Stmt} {e c : Expr} {bd : List Stmt} {pos pp p2 : Pos} {x : Str}
/-- one statement, then the rest -/
theorem sss_cons (h : SSs B X (wS X st) G δ (fun δ' G' => SSs B X (wSs X rest) G' δ' N R) R) : SSs B X (wSs X (st :: rest)) G δ N R := fun σ F H r s D hn hr pins t I =>
  (pss_cons ps_w pss_w).run pins t σ H D I (h σ F H r s _ (fun δ' G' σ' F' H' e' r' s' q => q σ' F' H' r' s' D (fun δ2 G2 σ2 F2 H2 e2 => hn δ2 G2 σ2 F2 H2 (e'.trans e2)) fun v x δ2 G2 σ2 F2 H2 e2 => hr v x δ2 G2 σ2 F2 H2 (e'.trans e2)) fun v x δ' G' σ' F' H' e' r' s' d q => hr v x δ' G' σ' F' H' e' r' s' d q)
theorem sss_one (h : SSs B X (wS X st) G δ N R) : SSs B X (wSs X [st]) G δ N R := fun σ F H r s D hn hr pins t I => (pss_one ps_w).run pins t σ H D I (h σ F H r s D hn hr)
/-- a test, the store as it is -/
theorem sss_if (h : ∀ B' : B0, B'.p = B.p → StIn (bs X B') G → DT B' X c δ fun k δ' => if k = true then SSs B X (wSs X bd) G δ' N R else SSs B X (wSs X rest) G δ' N R) : SSs B X (wS X (.If c bd rest pos)) G δ N R := fun σ F H r s D hn hr pins t I =>
  (ps_if pt_w pss_w pss_w).run pins t σ H D I (h (B.on G F H) rfl (StIn.on s) σ F H (r.up s) _ fun k δ' F' H' e' r' q => by
    obtain ⟨r2, s2⟩ := r.down s r'
    cases k with
    | true => exact iteT ((show SSs B X (wSs X bd) G δ' N R from q) σ F' H' r2 s2 D (fun δ2 G2 σ2 F2 H2 e2 => hn δ2 G2 σ2 F2 H2 (e'.trans e2)) fun v x δ2 G2 σ2 F2 H2 e2 => hr v x δ2 G2 σ2 F2 H2 (e'.trans e2))
    | false => exact iteF ((show SSs B X (wSs X rest) G δ' N R from q) σ F' H' r2 s2 D (fun δ2 G2 σ2 F2 H2 e2 => hn δ2 G2 σ2 F2 H2 (e'.trans e2)) fun v x δ2 G2 σ2 F2 H2 e2 => hr v x δ2 G2 σ2 F2 H2 (e'.trans e2)))
/-- while, the store changes in the body -/
theorem sss_while (I : Nat → St' → Gm → Prop) {m0 : Nat} (h0 : I m0 δ G) (h : ∀ m δ' G', I m δ' G' → ∀ B' : B0, B'.p = B.p → StIn (bs X B') G' → DT B' X c δ' fun k δ2 => if k = true then SSs B X (wSs X bd) G' δ2 (fun δ3 G3 => ∃ m', m' < m ∧ I m' δ3 G3) R else N δ2 G')
    (hp : PassesOwn (model X.prog X.w) X.A X.env X.xe := by exact PassesOwn.never) : SSs B X (wS X (.While c bd [] pos)) G δ N R := fun σ F H r s D hn hr pins t Iv =>
  (ps_while hp pt_w pss_w).run pins t σ H D Iv (by
    refine ⟨fun m σ' H' => ∃ δ' G' F', Same F F' ∧ Rep (bs X B) δ' σ' F' H' ∧ Sto (bs X B) G' δ' σ' F' H' ∧ I m δ' G', ⟨m0, δ, G, F, Same.refl F, r, s, h0⟩, fun m σ1 H1 hW => ?_⟩
    obtain ⟨δ1, G1, F1, e1, r1, s1, hi⟩ := hW
    refine h m δ1 G1 hi (B.on G1 F1 H1) rfl (StIn.on s1) σ1 F1 H1 (r1.up s1) _ fun b δ2 F2 H2 e2 r2 p => ?_
    obtain ⟨r3, s3⟩ := r1.down s1 r2
    cases b with
    | true =>
      refine iteT ⟨fun σ' H' => ∃ m', m' < m ∧ ∃ δ3 G3 F3, Same F F3 ∧ Rep (bs X B) δ3 σ' F3 H' ∧ Sto (bs X B) G3 δ3 σ' F3 H' ∧ I m' δ3 G3, fun σ' H' q => q, ?_⟩
      exact (show SSs B X (wSs X bd) G1 δ2 _ R from p) σ1 F2 H2 r3 s3 _ (fun δ5 G5 σ5 F5 H5 e5 r5 s5 ⟨m', hm, p5⟩ => ⟨m', hm, δ5, G5, F5, (e1.trans e2).trans e5, r5, s5, p5⟩) fun v z δ5 G5 σ5 F5 H5 e5 r5 s5 d5 p5 => hr v z δ5 G5 σ5 F5 H5 ((e1.trans e2).trans e5) r5 s5 d5 p5
    | false => exact iteF (hn δ2 G1 σ1 F2 H2 (e1.trans e2) r3 s3 p))
/-- h.append(e) -/
theorem sss_append (i : Nat) {a : Addr} {apos npos : Pos} (h : ∀ B' : B0, B'.p = B.p → StIn (bs X B') G → DE B' X e δ fun y δ' => ∃ xs, G a = some xs ∧ xs.length < 100000 ∧ N δ' (gput G a (xs ++ [y]))) (hi : δ.s[i]? = some (some (.d (hdD a))) := by rfl) (hg : (G a).isSome = true)
    (hN : X.N[i]? = some x := by rfl) (hv : Vis X.env.scope x := by first | exact Or.inl rfl | exact Or.inr (Or.inl rfl) | exact Or.inr (Or.inr rfl)) (hd : (x == ("__debug__" : Str)) = false := by decide)
    (hcd : (x == ("__classdict__" : Str)) = false := by decide)
    (hbase : attributeBase (.Name x npos) "append" X.env (eval (.Name x npos) X.env) = eval (.Name x npos) X.env := by rfl)
    (hfew : ((backTo p2 (starEach [e] X.env)).all (fun x => !x.1) && (backToKw p2 (keywordEach [] X.env)).all (fun x => x.1.isSome)
      && decide ([e].length + ([] : List Keyword).length + (if ([] : List Keyword).isEmpty then 0 else 1) < 30)) = true := by rfl)
    (hline : (apos.endLine == p2.line) = true := by rfl) (hs : starEach [e] X.env = (false, eval e X.env) :: starEach [] X.env := by rfl) (hplain : (backTo p2 (starEach [] X.env)).any (·.1) = false := by rfl)
    (hsw : swapsWith (.Call (.Attribute (.Name x npos) "append" apos) [e] [] p2) none pos.line X.env = pure false := by rfl) :
    SSs B X (wS X (.Expr (.Call (.Attribute (.Name x npos) "append" apos) [e] [] p2) pos)) G δ N R := fun σ F H r s D hn hr pins t Iv =>
  (ps_expr (pe_bm PySem.F.plainAttrs_list PySem.F.slot_list_append PySem.F.type_list_append mt_append (pe_var hN hv hd hcd) (pa_cons pe_w pa_nil hs) hbase hfew hline hs hplain) hsw).run pins t σ H D Iv (by
    obtain ⟨u, hu, hc⟩ := r.cell i _ hi
    have hc' : Dq X.K F u (.dict [(.int (a : Nat), .none)]) := hc
    cases hc'
    obtain ⟨xs0, hxs0⟩ := Option.isSome_iff_exists.mp hg
    obtain ⟨vs, hH, _⟩ := (s a xs0 hxs0).at'
    refine ⟨.ref a, hu, .inl ⟨rfl, vs, .inl (.inl hH)⟩, ?_⟩
    refine h (B.on G F H) rfl (StIn.on s) σ F H (r.up s) _ fun v y δ' F' H' e' r' d ⟨xs, hxs, hz, p⟩ => ?_
    obtain ⟨r2, s2⟩ := r.down s r'
    obtain ⟨vs', hH', hdd'⟩ := (s2 a xs hxs).at'
    refine ⟨a, vs', v, rfl, rfl, hH', Nat.lt_of_lt_of_le (by rw [dpAll_len hdd']; exact hz) (by decide), ?_⟩
    refine hn δ' _ σ F' _ e' (r2.side (s2 a xs hxs).fF (s2 a xs hxs).bH (s2 a xs hxs).ap) (fun b ys hb => ?_) p
    by_cases hba : b = a
    · subst hba
      rw [gput_same] at hb
      injection hb with hb
      subst hb
      exact ⟨⟨_, upd_same, dpAll_app hdd' (.cons d .nil)⟩, (s2 b xs hxs).fF, (s2 b xs hxs).bH, (s2 b xs hxs).np, (s2 b xs hxs).ap⟩
    · rw [gput_ne hba] at hb
      obtain ⟨ws, q1, q2⟩ := (s2 b ys hb).at'
      exact ⟨⟨ws, by rw [upd_ne hba]; exact q1, q2⟩, (s2 b ys hb).fF, (s2 b ys hb).bH, (s2 b ys hb).np, (s2 b ys hb).ap⟩)
end
end DL

set_option maxHeartbeats 200000
set_option Elab.async false
set_option linter.all false
set_option maxRecDepth 100000
namespace DL
open PySem PySem.Spec PyProof.Rows L2
/-- what is gone over stands still, whatever the begin -/
def WIk (B : Bs) (wi : TI) (δ : St') (Ψ : List PyData → St' → Prop) : Prop := ∀ σ F H, Rep B δ σ F H → ∀ R : It → Hp → Prop, (∀ J xs δ' F' H', Same F F' → Rep B δ' σ F' H' → Wk B.w B.K J xs F' → Ψ xs δ' → R J H') → wi σ H R
section
variable {B : Bs} {te : TE} {ta : TA} {δ : St'} {Ψ : List PyData → St' → Prop}
theorem wik_list (h : WE B te δ fun x δ' => ∃ xs, x = .list xs ∧ Ψ xs δ') : WIk B (iList B.K te) δ Ψ := fun σ F H r R q => h σ F H r _ fun v x δ' F' H' e r' d ⟨xs, hx, p⟩ => by
  subst hx
  cases d with
  | lst hs ha => exact ⟨_, rfl, ⟨_, r'.ex.seq hs⟩, q _ xs δ' F' H' e r' (wk_list hs ha) p⟩
theorem wik_rng2 (h : WA B ta δ fun ds δ' => ∃ i j : Int, ds = [.int i, .int j] ∧ (-(2 ^ 62) ≤ i ∧ i < 2 ^ 62 ∧ -(2 ^ 62) ≤ j ∧ j < 2 ^ 62) ∧ Ψ (rng i (j - i).toNat) δ') : WIk B (iRng2 ta) δ Ψ := fun σ F H r R q => h σ F H r _ fun vs x δ' F' H' e r' d ⟨i, j, hx, h1, p⟩ => by
  subst hx
  cases d with
  | cons d1 d2 =>
    cases d2 with
    | cons d2 d3 =>
      cases d3
      cases d1
      cases d2
      exact ⟨i, j, rfl, h1, q _ _ δ' F' H' e r' wk_rng p⟩
end
section
variable {B : B0} {X : Cx} {G : Gm} {δ : St'} {N : St' → Gm → Prop} {R : PyData → St' → Gm → Prop} {tg iter : Expr} {body : List Stmt} {wi : TI} {g : TG} {pos : Pos}
theorem sss_for (ix : List Nat) (hi : PI X tg iter wi) (hg : PG X tg g) (h : ∀ B' : B0, B'.p = B.p → StIn (bs X B') G → WIk (bs X B') wi δ fun xs δ1 => ∃ I : Nat → St' → Gm → Prop, I 0 δ1 G ∧
      (∀ i y δ2 G2, xs[i]? = some y → I i δ2 G2 → ∀ B' : B0, B'.p = B.p → StIn (bs X B') G2 → WG (bs X B') g ix y δ2 fun δ3 => SSs B X (wSs X body) G2 δ3 (I (i + 1)) R) ∧ ∀ δ2 G2, I xs.length δ2 G2 → N δ2 G2)
    (hc : X.calm = true := by rfl) (hp : PassesOwn (model X.prog X.w) X.A X.env X.xe := by exact PassesOwn.never) (hs : ∀ x, foldedSetIterable iter X.env x = pure x := by intro _; rfl) : SSs B X (wS X (.For tg iter body [] pos)) G δ N R := fun σ F H r s D hn hr pins t Iv =>
  (ps_for hp hc hi hg pss_w hs).run pins t σ H D Iv (h (B.on G F H) rfl (StIn.on s) σ F H (r.up s) _ fun J xs δ1 F1 H1 e1 r1' w ⟨I, h0, hs', hd⟩ => by
    obtain ⟨r1, s1⟩ := r.down s r1'
    refine ⟨fun i m σ' H' => i + m = xs.length ∧ ∃ δ2 G2 F2, Same F1 F2 ∧ Rep (bs X B) δ2 σ' F2 H' ∧ Sto (bs X B) G2 δ2 σ' F2 H' ∧ I i δ2 G2, ⟨xs.length, by simp, δ1, G, F1, Same.refl _, r1, s1, h0⟩, fun i m σ2 H2 hW => ?_⟩
    obtain ⟨em, δ2, G2, F2, e2, r2, s2, hi'⟩ := hW
    by_cases hlt : i < xs.length
    · refine .inr ⟨w.go (bs X B) i δ2 σ2 F2 H2 rfl rfl e2 r2 hlt, fun σ' H' => ∃ δ3 G3 F3, Same F1 F3 ∧ Rep (bs X B) δ3 σ' F3 H' ∧ Sto (bs X B) G3 δ3 σ' F3 H' ∧ I (i + 1) δ3 G3, fun σ' H' q => ⟨m - 1, by omega, by omega, q⟩, fun x H' hy => ?_⟩
      obtain ⟨F3, e3, r3', _, _, d3⟩ := w.yld (bs X (B.on G2 F2 H2)) i δ2 σ2 F2 H2 x H' xs[i] rfl rfl e2 (r2.up s2) (List.getElem?_eq_getElem hlt) hy
      obtain ⟨r3, s3⟩ := r2.down s2 r3'
      refine hs' i xs[i] δ2 G2 (List.getElem?_eq_getElem hlt) hi' (B.on G2 F3 H') rfl (StIn.on s3) σ2 F3 H' (r3.up s3) x d3 _ fun δ4 σ4 r4' _ _ p4 => ?_
      obtain ⟨r4, s4⟩ := r3.down s3 r4'
      exact p4 σ4 F3 H' r4 s4 _ (fun δ5 G5 σ5 F5 H5 e5 r5 s5 p5 => ⟨δ5, G5, F5, (e2.trans e3).trans e5, r5, s5, p5⟩) fun v z δ5 G5 σ5 F5 H5 e5 r5 s5 d5 p5 => hr v z δ5 G5 σ5 F5 H5 (((e1.trans e2).trans e3).trans e5) r5 s5 d5 p5
    · have : i = xs.length := by omega
      subst this
      exact .inl ⟨w.stop (bs X B) _ δ2 σ2 F2 H2 rfl rfl e2 r2 (Nat.le_refl _), hn δ2 G2 σ2 F2 H2 (e1.trans e2) r2 s2 (hd δ2 G2 hi')⟩)
end
end DL

set_option maxHeartbeats 200000
set_option Elab.async false
set_option linter.all false
set_option maxRecDepth 100000
namespace DL
open PySem PySem.Spec PyProof.Rows L2
/-! ### contracts with a store -/
def StoH (K : PySem.W.Frag) (G : Gm) (p : Option Addr) (F H : Hp) : Prop := ∀ a xs, G a = some xs → (∃ vs, H a = some (.lst vs) ∧ DqAll K F vs xs) ∧ F a = none ∧ p ≠ some a
/-- a def that is handed the pot ahead, and changes the store -/
abbrev SpG := Nat → Gm → List PyData → (PyData → Nat → Gm → Prop) → Prop
def spG (K : PySem.W.Frag) (S : SpG) : Sp := fun vs H Q _ => ∃ F p vs' ds n G Φ, vs = .ref p :: vs' ∧ Same F H ∧ F p = none ∧ PotAt none H p n ∧ DqAll K F vs' ds ∧ StoH K G (some p) F H ∧ S n G ds Φ ∧
  ∀ v x n' G' F' H', Same F F' → Same F' H' → (∀ b, F b = none → H b ≠ none → F' b = none) → (∀ b o, H b = some o → b ≠ p → G b = none → H' b = some o) → PotAt none H' p n' → StoH K G' (some p) F' H' → (∀ b, G' b ≠ none → G b ≠ none ∨ H b = none) → Dq K F' v x → Φ x n' G' → Q v H'
/-- a def that reads the store -/
abbrev SpS := Gm → List PyData → (PyData → Prop) → Prop
def spS (K : PySem.W.Frag) (S : SpS) : Sp := fun vs H Q _ => ∃ F ds G Φ, Same F H ∧ DqAll K F vs ds ∧ StoH K G none F H ∧ S G ds Φ ∧
  ∀ v x F' H', Same F F' → Same F' H' → (∀ b, F b = none → H b ≠ none → F' b = none) → (∀ b o, H b = some o → H' b = some o) → Dq K F' v x → Φ x → Q v H'
def Ext (G G' : Gm) : Prop := ∀ b, G b ≠ none → G' b ≠ none
section
variable {B : B0} {X : Cx} {G G' : Gm} {δ δ' : St'} {σ σ' : List (Option V)} {F H F2 H2 : Hp} {p : Addr} {n' : Nat}
theorem Rep.calledG (r : Rep (bs X B) δ σ F H) (s : Sto (bs X B) G δ σ F H) (hp : B.p = some p) (e1 : Same F F2) (e2 : Same F2 H2) (fr : ∀ b, F b = none → H b ≠ none → F2 b = none) (kp : ∀ b o, H b = some o → b ≠ p → G b = none → H2 b = some o)
    (pot : PotAt B.m H2 p n') (sto : StoH X.K G' (some p) F2 H2) (new : ∀ b, G' b ≠ none → G b ≠ none ∨ H b = none) : Rep (bs X B) ⟨n', δ.s⟩ σ F2 H2 ∧ Sto (bs X B) G' ⟨n', δ.s⟩ σ F2 H2 := by
  have gp : G p = none := by
    cases h : G p with
    | none => rfl
    | some xs => exact absurd hp (s p xs h).np
  have r1 : Rep (bs X B) ⟨n', δ.s⟩ σ F2 (fun b => if (G b).isSome = true then H b else H2 b) := r.calledP hp e1 (fun b o h => by
    show (if (G b).isSome = true then H b else H2 b) = some o
    cases hg : G b with
    | none => exact e2 b o h
    | some xs => rw [fr b (s b xs hg).fF (s b xs hg).ne] at h; cases h) fr (fun b o h hb => by
    show (if (G b).isSome = true then H b else H2 b) = some o
    cases hg : G b with
    | none => exact kp b o h hb hg
    | some xs => exact h) (by
    obtain ⟨x, y, z, h1, h2⟩ := pot
    refine ⟨x, y, z, ?_, h2⟩
    show (if (G p).isSome = true then H p else H2 p) = _
    rw [gp]
    exact h1)
  refine ⟨r1.swap fun b => ?_, fun a xs h => ?_⟩
  · cases hg : G b with
    | none =>
      right
      rfl
    | some xs => exact .inl ⟨fr b (s b xs hg).fF (s b xs hg).ne, (s b xs hg).bH, (s b xs hg).ap⟩
  · obtain ⟨h1, h2, h3⟩ := sto a xs h
    have old : B.H a = none ∧ ∀ (i : Nat) (c : C), δ.s[i]? = some (some c) → own? c = true → σ[i]? ≠ some (some (.ref a)) := by
      rcases new a (by rw [h]; exact fun z => by cases z) with q | q
      · obtain ⟨ys, hy⟩ := Option.ne_none_iff_exists'.mp q
        exact ⟨(s a ys hy).bH, (s a ys hy).ap⟩
      · obtain ⟨j1, _, _, j4⟩ := r.fresh q
        exact ⟨j1, j4⟩
    exact ⟨h1, h2, old.1, fun z => h3 (by rw [← z]; exact hp.symm), old.2⟩
theorem StIn.out {B : Bs} (hG : StIn B G) (r : Rep B δ σ F H) : StoH B.K G none F H := fun a xs h => by
  obtain ⟨vs, h1, h2, h3⟩ := hG.get r h
  exact ⟨⟨vs, h1, h2⟩, h3, fun z => by cases z⟩
theorem Rep.mask {B : Bs} (r : Rep B δ σ F H) (hG : ∀ a, G a ≠ none → B.p ≠ some a) : Rep ⟨⟨B.F, fun b => if (G b).isSome = true then none else B.H b, B.p, B.m⟩, B.w, B.K⟩ δ σ F H := by
  have k : ∀ {b : Addr} {o : HO}, (if (G b).isSome = true then none else B.H b) = some o → B.H b = some o := fun {b o} h => by
    by_cases g : (G b).isSome = true
    · rw [if_pos g] at h; cases h
    · rw [if_neg g] at h; exact h
  refine ⟨r.ex, r.f0, fun b h1 h2 => r.fr b h1 fun z => h2 ?_, fun b o h hp => r.kp b o (k h) hp, fun a ha => ⟨(r.pot a ha).1, ?_, (r.pot a ha).2.2⟩, fun i c h => ?_, r.len, r.ap⟩
  · show (if (G b).isSome = true then none else B.H b) = none
    rw [z]; split <;> rfl
  · show (if (G a).isSome = true then none else B.H a) ≠ none
    cases hg : G a with
    | none => exact (r.pot a ha).2.1
    | some xs => exact absurd ha (hG a (by rw [hg]; exact fun z => by cases z))
  · obtain ⟨v, hv, hc⟩ := r.cell i c h
    refine ⟨v, hv, ?_⟩
    have no : ∀ {b : Addr}, B.H b = none → (if (G b).isSome = true then none else B.H b) = none := fun {b} z => by rw [z]; split <;> rfl
    cases c with
    | d x => exact hc
    | pot => exact hc
    | bor => exact hc
    | own xs =>
      obtain ⟨a, vs, e, h1, h2, h3, h4⟩ := hc
      exact ⟨a, vs, e, no h1, h2, h3, h4⟩
    | dct kvs =>
      obtain ⟨a, vs, e, h1, h2, h3, h4⟩ := hc
      exact ⟨a, vs, e, no h1, h2, h3, h4⟩
    | iset ns =>
      obtain ⟨a, e, h1, h2, h3⟩ := hc
      exact ⟨a, e, no h1, h2, h3⟩
end
theorem ini_own {N : List Str} {ds : List PyData} {n : Nat} {i : Nat} {c : C} (h : (ini N (.pot :: ds.map C.d) n).s[i]? = some (some c)) : own? c = false := by
  have hm := List.mem_of_getElem? h
  have hm' : some c ∈ (C.pot :: ds.map C.d).map some ++ List.replicate (N.length - (C.pot :: ds.map C.d).length) none := hm
  rcases List.mem_append.mp hm' with q | q
  · obtain ⟨c', h1, h2⟩ := List.mem_map.mp q
    injection h2 with h2
    subst h2
    rcases List.mem_cons.mp h1 with rfl | h1
    · rfl
    · obtain ⟨d, _, rfl⟩ := List.mem_map.mp h1
      rfl
  · have := (List.mem_replicate.mp q).2
    cases this
section
variable {P : Program} {w : World} {K : PySem.W.Frag} {mg : Str → Option Value} {base : Heap} {x qual : Str} {st : Stmt} {f : Addr} {fd : FuncData} {N ps : List Str} {k : Nat}
theorem fnG {S : SpG} {dvs : List V} {kws : List (Str × V)} (F : FunD K x qual (defArgs st) (defBody st) (defScope st) dvs kws f fd) (sc : FnScope N ps (defScope st)) (len : ∀ n G ds Φ, S n G ds Φ → ds.length + 1 = ps.length)
    (body : ∀ (B : B0) (cdv : Value) (A : Around) (outer : List Env) (s : Shared) (H : Hp) (E : XK) (n : Nat) (G : Gm) (ds : List PyData) (Φ : PyData → Nat → Gm → Prop), Room k (A.deeper (envOfC qual (defScope st) s.heap.objs.size f cdv)) → B.p ≠ none → S n G ds Φ →
      SSs B (bodyX P w K mg base N qual (defScope st) f cdv A outer s H E) (wSs (bodyX P w K mg base N qual (defScope st) f cdv A outer s H E) (defBody st)) G (ini N (.pot :: ds.map C.d) n) (fun δ G' => Ext G G' ∧ Φ .none δ.n G') fun x δ G' => Ext G G' ∧ Φ x δ.n G') : FnOk P w K mg base CX0 (k + 1) f fd ps (spG K S) := by
  refine F.ok sc (fun vs H Q E h => ?_) (fun cdv A outer s H vs Q E hr h => ?_)
  · obtain ⟨F', p, vs', ds, n, G, Φ, rfl, _, _, _, hd, _, hS, _⟩ := h
    rw [List.length_cons, dpAll_len hd]; exact len n G ds Φ hS
  · obtain ⟨F', p, vs', ds, n, G, Φ, rfl, e, hp, hpot, hd, hst, hS, q⟩ := h
    refine ⟨_, PSs.nox pss_w, ?_⟩
    have fin : ∀ {v : V} {x : PyData} {δ' : St'} {G' : Gm} {σ' : List (Option V)} {F2 H2 : Hp}, Same F' F2 → Rep (bs (bodyX P w K mg base N qual (defScope st) f cdv A outer s H E) ⟨F', fun b => if (G b).isSome = true then none else H b, some p, none⟩) δ' σ' F2 H2 →
        Sto (bs (bodyX P w K mg base N qual (defScope st) f cdv A outer s H E) ⟨F', fun b => if (G b).isSome = true then none else H b, some p, none⟩) G' δ' σ' F2 H2 → Dq K F2 v x → Ext G G' ∧ Φ x δ'.n G' → Q v H2 := fun {v x δ' G' σ' F2 H2} e2 r2 s2 d2 z => by
      have mk : ∀ {b : Addr}, G b = none → (if (G b).isSome = true then none else H b) = H b := fun {b} g => by rw [g]; rfl
      refine q v x δ'.n G' F2 H2 e2 r2.ex (fun b h1 h2 => ?_) (fun b o h1 h2 h3 => r2.kp b o ((mk h3).trans h1) fun y => h2 (by injection y with y; exact y.symm)) (r2.pot p rfl).2.2 (fun a xs h => ⟨(s2 a xs h).at', (s2 a xs h).fF, (s2 a xs h).np⟩) (fun b h => ?_) d2 z.2
      · cases g : G b with
        | none => exact r2.fr b h1 (by show (if (G b).isSome = true then none else H b) ≠ none; rw [mk g]; exact h2)
        | some xs =>
          obtain ⟨ys, hy⟩ := Option.ne_none_iff_exists'.mp (z.1 b (by rw [g]; exact fun z => by cases z))
          exact (s2 b ys hy).fF
      · obtain ⟨ys, hy⟩ := Option.ne_none_iff_exists'.mp h
        have hb : (if (G b).isSome = true then none else H b) = none := (s2 b ys hy).bH
        cases g : G b with
        | none => rw [mk g] at hb; exact .inr hb
        | some xs => exact .inl fun z => by cases z
    refine body ⟨F', fun b => if (G b).isSome = true then none else H b, some p, none⟩ cdv A outer s H E n G ds Φ hr (fun z => by cases z) hS (L2.start N (.ref p :: vs')) F' H ((rep_iniP e hp hpot hd).mask fun a ha => ?_) (fun a xs h => ?_) _ (fun δ' G' σ' F2 H2 e2 r2 s2 z => fin e2 r2 s2 .non z) fun v x δ' G' σ' F2 H2 e2 r2 s2 d2 z => fin e2 r2 s2 d2 z
    · obtain ⟨ys, hy⟩ := Option.ne_none_iff_exists'.mp ha
      exact (hst a ys hy).2.2
    · obtain ⟨h1, h2, h3⟩ := hst a xs h
      refine ⟨h1, h2, ?_, h3, fun i c hi ho => ?_⟩
      · show (if (G a).isSome = true then none else H a) = none
        rw [h]; rfl
      · rw [ini_own hi] at ho; cases ho
end
end DL

set_option maxHeartbeats 200000
set_option Elab.async false
set_option linter.all false
set_option maxRecDepth 100000
namespace DL
open PySem PySem.Spec PyProof.Rows L2
/-- an expression that may change the store -/
def SE (B : B0) (X : Cx) (te : TE) (G : Gm) (δ : St') (Φ : PyData → St' → Gm → Prop) : Prop := ∀ σ F H, Rep (bs X B) δ σ F H → Sto (bs X B) G δ σ F H → ∀ Q : VK,
  (∀ v x δ' G' F' H', Same F F' → Rep (bs X B) δ' σ F' H' → Sto (bs X B) G' δ' σ F' H' → Dq X.K F' v x → Φ x δ' G' → Q v H') → te σ H Q
section
variable {B : B0} {X : Cx} {G : Gm} {δ : St'} {N : St' → Gm → Prop} {R : PyData → St' → Gm → Prop} {Φ : PyData → St' → Gm → Prop} {st : Stmt} {rest : List Stmt} {e : Expr} {es : List Expr} {p pos pp p2 p3 : Pos} {x pn : Str} {k k' : Nat} {ps : List Str}
/-- f(pot, e, ..), f by a contract with a store -/
theorem se_call {S : SpG} (i : Nat) (GF : Fn X.prog X.w X.K X.mg X.base x k ps (spG X.K S)) (hr : Room k' X.A) (h : ∀ B' : B0, B'.p = B.p → StIn (bs X B') G → DA B' X es δ fun ds δ' => S δ'.n G ds fun y n' G' => Φ y ⟨n', δ'.s⟩ G') (hk : k ≤ k' := by decide) (hi : δ.s[i]? = some (some .pot) := by rfl) (hN : X.N[i]? = some pn := by rfl)
    (hv : Vis X.env.scope pn := by first | exact Or.inl rfl | exact Or.inr (Or.inl rfl) | exact Or.inr (Or.inr rfl)) (hd : (pn == ("__debug__" : Str)) = false := by decide)
    (hcd : (pn == ("__classdict__" : Str)) = false := by decide) (hg : Gl X x := by rfl) (hdb : (x == ("__debug__" : Str)) = false := by decide) (he : starEach (.Name pn pp :: es) X.env = (false, eval (.Name pn pp) X.env) :: starEach es X.env := by rfl) (hpl : (backTo pos (starEach es X.env)).any (·.1) = false := by rfl) :
    SE B X (wE X (.Call (.Name x p) (.Name pn pp :: es) [] pos)) G δ Φ := fun σ F H r s Q q pins t I => by
  obtain ⟨f, fd, h1, h2, h3, h4⟩ := GF.ex
  refine (pe_call h4 (hr.mono hk) hg h1 h2 h3 .nil pass0 (pa_cons (pe_var hN hv hd hcd) pa_w he) hdb he hpl).run pins t σ H Q I ?_
  obtain ⟨v, hv, a, rfl, hp, hm⟩ := r.cell i _ hi
  refine ⟨.ref a, hv, h (B.on G F H) rfl (StIn.on s) σ F H (r.up s) _ fun vs ds δ' F' H' e1 r1 d hS => ?_⟩
  obtain ⟨r2, s2⟩ := r.down s r1
  refine ⟨F', a, vs, ds, δ'.n, G, _, by simp, r2.ex, r2.potF hp, hm ▸ (r2.pot a hp).2.2, d, (fun a' xs h => ⟨(s2 a' xs h).at', (s2 a' xs h).fF, fun z => (s2 a' xs h).np (by rw [← z]; exact hp)⟩), hS, fun v y n' G' F2 H2 q1 q2 q3 q4 q5 q6 q7 q8 q9 => ?_⟩
  obtain ⟨r3, s3⟩ := r2.calledG s2 hp q1 q2 q3 q4 (hm ▸ q5) q6 q7
  exact q v y ⟨n', δ'.s⟩ G' F2 H2 (e1.trans q1) r3 s3 q8 q9
theorem sss_expr (h : SE B X (wE X e) G δ fun _ δ' G' => N δ' G') (hs : swapsWith e none pos.line X.env = pure false := by rfl) : SSs B X (wS X (.Expr e pos)) G δ N R := fun σ F H r s D hn hr pins t I =>
  (ps_expr pe_w hs).run pins t σ H D I (h σ F H r s _ fun v x δ' G' F' H' e' r' s' d q => hn δ' G' σ F' H' e' r' s' q)
/-- e tells a list of its own, and may change the store -/
def SL (B : B0) (X : Cx) (te : TE) (G : Gm) (δ : St') (Ψ : List PyData → St' → Gm → Prop) : Prop := ∀ σ F H, Rep (bs X B) δ σ F H → Sto (bs X B) G δ σ F H → ∀ Q : VK,
  (∀ a vs xs δ' G' F' H', Same F F' → Rep (bs X B) δ' σ F' H' → Sto (bs X B) G' δ' σ F' H' → B.H a = none → F' a = none → B.p ≠ some a → G' a = none → H' a = some (.lst vs) →
    (∀ (i : Nat) (c : C), δ'.s[i]? = some (some c) → own? c = true → σ[i]? ≠ some (some (.ref a))) → DqAll X.K F' vs xs → Ψ xs δ' G' → Q (.ref a) H') → te σ H Q
theorem Sto.side {B : Bs} {σ : List (Option V)} {F H : Hp} (s : Sto B G δ σ F H) {a : Addr} {o : HO} (h : H a = none) : Sto B G δ σ F (upd H a o) := fun b xs hb => by
  have hn : b ≠ a := fun z => (s b xs hb).ne (by rw [z]; exact h)
  obtain ⟨vs, h1, h2⟩ := (s b xs hb).at'
  exact ⟨⟨vs, by rw [upd_ne hn]; exact h1, h2⟩, (s b xs hb).fF, (s b xs hb).bH, (s b xs hb).np, (s b xs hb).ap⟩
theorem Sto.free {B : Bs} {σ : List (Option V)} {F H : Hp} (s : Sto B G δ σ F H) {a : Addr} (h : H a = none) : G a = none := by
  cases g : G a with
  | none => rfl
  | some xs => exact absurd h (s a xs g).ne
theorem Sto.putO {B : Bs} {σ : List (Option V)} {F H : Hp} (s : Sto B G δ σ F H) (i : Nat) {a : Addr} {c : C} (h : G a = none) : Sto B G (δ.put i c) (σ.set i (some (.ref a))) F H := fun b xs hb => by
  refine ⟨(s b xs hb).at', (s b xs hb).fF, (s b xs hb).bH, (s b xs hb).np, fun j c' hj ho hs => ?_⟩
  rcases put_get hj with ⟨rfl, rfl, hl⟩ | ⟨hne, hj'⟩
  · rw [List.getElem?_set] at hs
    rw [if_pos rfl] at hs
    split at hs
    · injection hs with hs
      injection hs with hs
      injection hs with hs
      rw [hs, hb] at h
      cases h
    · cases hs
  · rw [List.getElem?_set, if_neg (Ne.symm hne)] at hs
    exact (s b xs hb).ap j c' hj' ho hs
/-- [e] -/
theorem sl_one {Ψ : List PyData → St' → Gm → Prop} (h : SE B X (wE X e) G δ fun y δ' G' => Ψ [y] δ' G') (hst : starEach [e] X.env = (false, eval e X.env) :: starEach [] X.env := by rfl) : SL B X (wE X (.List [e] p3)) G δ Ψ := fun σ F H r s Q q pins t I =>
  (pe_lst (pa_cons pe_w pa_nil hst)).run pins t σ H Q I (h σ F H r s _ fun v y δ' G' F' H' e' r' s' d p => ⟨by show 1 ≤ sizeLine; decide, fun l hl => by
    obtain ⟨j1, j2, j3, j4⟩ := r'.fresh hl
    exact q l [v] [y] δ' G' F' _ e' (r'.side j2 j1 j4) (s'.side hl) j1 j2 j3 (s'.free hl) upd_same j4 (.cons d .nil) p⟩)
/-- x = a list of its own -/
theorem sss_setO (i : Nat) {pos' : Pos} (h : SL B X (wE X e) G δ fun xs δ' G' => N (δ'.put i (.own xs)) G') (hN : X.N.Nodup) (hi : X.N[i]? = some x := by rfl) (hx : Loc X.env.scope x := by first | exact .inl rfl | exact .inr rfl)
    (hs : swapsWith e (some (.Name x pos')) pos.line X.env = pure false := by rfl) (hf : X.fn x = true ∨ X.env.scope.names.lookup x = some .local := by first | exact .inl rfl | exact .inr rfl) : SSs B X (wS X (.Assign [.Name x pos'] e pos)) G δ N R := fun σ F H r s D hn hr pins t I =>
  (ps_set hN hi hx pe_w hs hf).run pins t σ H D I (h σ F H r s _ fun a vs xs δ' G' F' H' e' r' s' k1 k2 k3 k4 k5 k6 k7 q => hn (δ'.put i (.own xs)) G' _ F' H' e' (r'.putO i k6 ⟨a, vs, rfl, k1, k2, k5, k7⟩) (s'.putO i k4) q)
/-- x = e -/
theorem sss_set (i : Nat) {pos' : Pos} (h : SE B X (wE X e) G δ fun y δ' G' => N (δ'.put i (.d y)) G') (hN : X.N.Nodup) (hi : X.N[i]? = some x := by rfl) (hx : Loc X.env.scope x := by first | exact .inl rfl | exact .inr rfl)
    (hs : swapsWith e (some (.Name x pos')) pos.line X.env = pure false := by rfl) (hf : X.fn x = true ∨ X.env.scope.names.lookup x = some .local := by first | exact .inl rfl | exact .inr rfl) : SSs B X (wS X (.Assign [.Name x pos'] e pos)) G δ N R := fun σ F H r s D hn hr pins t I =>
  (ps_set hN hi hx pe_w hs hf).run pins t σ H D I (h σ F H r s _ fun v y δ' G' F' H' e' r' s' d q => hn (δ'.put i (.d y)) G' _ F' H' e' (r'.putD i d) (fun b xs hb => by
    refine ⟨(s' b xs hb).at', (s' b xs hb).fF, (s' b xs hb).bH, (s' b xs hb).np, fun j c' hj ho hs => ?_⟩
    rcases put_get hj with ⟨rfl, rfl, hl⟩ | ⟨hne, hj'⟩
    · cases ho
    · rw [List.getElem?_set, if_neg (Ne.symm hne)] at hs
      exact (s' b xs hb).ap j c' hj' ho hs) q)
/-- return e -/
theorem sss_ret (h : SE B X (wE X e) G δ R) : SSs B X (wS X (.Return (some e) pos)) G δ N R := fun σ F H r s D hn hr pins t I =>
  (ps_ret pe_w).run pins t σ H D I (h σ F H r s _ fun v y δ' G' F' H' e' r' s' d q => hr v y δ' G' σ F' H' e' r' s' d q)
/-- an expression that leaves the store as it is -/
theorem se_de (h : ∀ B' : B0, B'.p = B.p → StIn (bs X B') G → DE B' X e δ fun y δ' => Φ y δ' G) : SE B X (wE X e) G δ Φ := fun σ F H r s Q q =>
  h (B.on G F H) rfl (StIn.on s) σ F H (r.up s) _ fun v y δ' F' H' e' r' d p => by
    obtain ⟨r2, s2⟩ := r.down s r'
    exact q v y δ' G F' H' e' r2 s2 d p
/-- xs.append(e), xs a list of our own -/
theorem sss_appendOwn (i : Nat) {xs : List PyData} {apos npos : Pos} (h : SE B X (wE X e) G δ fun y δ' G' => ∃ xs, δ'.s[i]? = some (some (.own xs)) ∧ xs.length < 100000 ∧ N (δ'.put i (.own (xs ++ [y]))) G') (hi : δ.s[i]? = some (some (.own xs)) := by rfl)
    (hN : X.N[i]? = some x := by rfl) (hv : Vis X.env.scope x := by first | exact Or.inl rfl | exact Or.inr (Or.inl rfl) | exact Or.inr (Or.inr rfl)) (hd : (x == ("__debug__" : Str)) = false := by decide)
    (hcd : (x == ("__classdict__" : Str)) = false := by decide)
    (hbase : attributeBase (.Name x npos) "append" X.env (eval (.Name x npos) X.env) = eval (.Name x npos) X.env := by rfl)
    (hfew : ((backTo p2 (starEach [e] X.env)).all (fun x => !x.1) && (backToKw p2 (keywordEach [] X.env)).all (fun x => x.1.isSome)
      && decide ([e].length + ([] : List Keyword).length + (if ([] : List Keyword).isEmpty then 0 else 1) < 30)) = true := by rfl)
    (hline : (apos.endLine == p2.line) = true := by rfl) (hs : starEach [e] X.env = (false, eval e X.env) :: starEach [] X.env := by rfl) (hplain : (backTo p2 (starEach [] X.env)).any (·.1) = false := by rfl)
    (hsw : swapsWith (.Call (.Attribute (.Name x npos) "append" apos) [e] [] p2) none pos.line X.env = pure false := by rfl) :
    SSs B X (wS X (.Expr (.Call (.Attribute (.Name x npos) "append" apos) [e] [] p2) pos)) G δ N R := fun σ F H r s D hn hr pins t Iv =>
  (ps_expr (pe_bm PySem.F.plainAttrs_list PySem.F.slot_list_append PySem.F.type_list_append mt_append (pe_var hN hv hd hcd) (pa_cons pe_w pa_nil hs) hbase hfew hline hs hplain) hsw).run pins t σ H D Iv (by
    obtain ⟨u, hu, a, vs, rfl, hB, hF, hH, hdd⟩ := r.cell i _ hi
    refine ⟨.ref a, hu, .inl ⟨rfl, vs, .inl (.inl hH)⟩, ?_⟩
    refine h σ F H r s _ fun v y δ' G' F' H' e' r' s' d ⟨ys, hi', hz, p⟩ => ?_
    obtain ⟨u', hu', a', vs', rfl, hB', hF', hH', hdd'⟩ := r'.cell i _ hi'
    rw [hu] at hu'
    injection hu' with hu'
    injection hu' with hu'
    injection hu' with hu'
    subst hu'
    refine ⟨a, vs', v, rfl, rfl, hH', Nat.lt_of_lt_of_le (by rw [dpAll_len hdd']; exact hz) (by decide), ?_⟩
    refine hn _ G' σ F' _ e' (r'.write (c2 := .own (ys ++ [y])) hi' rfl hu hB' hF' rfl ⟨a, vs' ++ [v], rfl, hB', hF', upd_same, dpAll_app hdd' (.cons d .nil)⟩) (fun b zs hb => ?_) p
    have hne : b ≠ a := fun z => (s' b zs hb).ap i _ hi' rfl (by rw [z]; exact hu)
    obtain ⟨ws, q1, q2⟩ := (s' b zs hb).at'
    refine ⟨⟨ws, by rw [upd_ne hne]; exact q1, q2⟩, (s' b zs hb).fF, (s' b zs hb).bH, (s' b zs hb).np, fun j c' hj ho hs' => ?_⟩
    rcases put_get hj with ⟨rfl, rfl, hl⟩ | ⟨hne2, hj'⟩
    · exact (s' b zs hb).ap _ _ hi' rfl hs'
    · exact (s' b zs hb).ap j c' hj' ho hs')
/-- a list of our own is told from here on -/
theorem sss_freeze (i : Nat) {xs : List PyData} {sts : List Stmt} (h : SSs B X (wSs X sts) G (δ.put i (.d (.list xs))) N R) (hi : δ.s[i]? = some (some (.own xs)) := by rfl) : SSs B X (wSs X sts) G δ N R := fun σ F H r s D hn hr => by
  obtain ⟨a, vs, hσ, hF, hB, hH, hd, r2⟩ := r.freeze hi
  have s2 : Sto (bs X B) G (δ.put i (.d (.list xs))) σ (upd F a (.lst vs)) H := fun b zs hb => by
    have hne : b ≠ a := fun z => (s b zs hb).ap i _ hi rfl (by rw [z]; exact hσ)
    obtain ⟨ws, q1, q2⟩ := (s b zs hb).at'
    refine ⟨⟨ws, q1, dpAll_mono (same_upd hF) _ _ q2⟩, by rw [upd_ne hne]; exact (s b zs hb).fF, (s b zs hb).bH, (s b zs hb).np, fun j c' hj ho hs' => ?_⟩
    rcases put_get hj with ⟨rfl, rfl, _⟩ | ⟨_, hj'⟩
    · cases ho
    · exact (s b zs hb).ap j c' hj' ho hs'
  exact h σ _ H r2 s2 D (fun δ' G' σ' F' H' e r' s' n => hn δ' G' σ' F' H' ((same_upd hF).trans e) r' s' n) fun v x δ' G' σ' F' H' e r' s' d p => hr v x δ' G' σ' F' H' ((same_upd hF).trans e) r' s' d p
/-- [x, y, []], a new thing of the store, and its own list -/
theorem se_new {e1 e2 : Expr} (h : ∀ B' : B0, B'.p = B.p → StIn (bs X B') G → DE B' X e1 δ fun x1 δ1 => DE B' X e2 δ1 fun x2 δ2 => ∀ a b, G a = none → G b = none → a ≠ b → Φ (hdD a) δ2 (gput (gput G b []) a [x1, x2, hdD b]))
    (h1 : starEach [e1, e2, .List [] p2] X.env = (false, eval e1 X.env) :: starEach [e2, .List [] p2] X.env := by rfl) (h2 : starEach [e2, .List [] p2] X.env = (false, eval e2 X.env) :: starEach [.List [] p2] X.env := by rfl) (h3 : starEach [.List [] p2] X.env = (false, eval (.List [] p2) X.env) :: starEach [] X.env := by rfl) :
    SE B X (wE X (.List [e1, e2, .List [] p2] p)) G δ Φ := fun σ F H r s Q q pins t I =>
  (pe_lst (pa_cons pe_w (pa_cons pe_w (pa_cons (pe_lst pa_nil) pa_nil h3) h2) h1)).run pins t σ H Q I (h (B.on G F H) rfl (StIn.on s) σ F H (r.up s) _ fun v1 x1 δ1 F1 H1 c1 r1 d1 p1 => p1 σ F1 H1 r1 _ fun v2 x2 δ2 F2 H2 c2 r2 d2 p2 => by
    obtain ⟨r3, s3⟩ := r.down s r2
    refine ⟨by show 0 ≤ sizeLine; decide, fun b hb => ⟨by show 3 ≤ sizeLine; decide, fun a ha => ?_⟩⟩
    have hab : a ≠ b := fun z => by rw [z, upd_same] at ha; cases ha
    have ha2 : H2 a = none := by rw [upd_ne hab] at ha; exact ha
    obtain ⟨j1, j2, j3, j4⟩ := r3.fresh hb
    obtain ⟨k1, k2, k3, k4⟩ := r3.fresh ha2
    have s4 := (s3.side (o := .lst []) hb).side (o := .lst [v1, v2, .ref b]) ha
    refine q (.ref a) (hdD a) δ2 _ F2 _ (c1.trans c2) ((r3.side j2 j1 j4).side k2 k1 k4) (fun c zs hc => ?_) (.hd a) (p2 a b (s3.free ha2) (s3.free hb) hab)
    by_cases hca : c = a
    · subst hca
      rw [gput_same] at hc
      injection hc with hc
      subst hc
      exact ⟨⟨_, upd_same, .cons (dp_mono c2 _ _ d1) (.cons d2 (.cons (.hd b) .nil))⟩, k2, k1, k3, k4⟩
    · rw [gput_ne hca] at hc
      by_cases hcb : c = b
      · subst hcb
        rw [gput_same] at hc
        injection hc with hc
        subst hc
        exact ⟨⟨[], by rw [upd_ne hca, upd_same], .nil⟩, j2, j1, j3, j4⟩
      · rw [gput_ne hcb] at hc
        exact s4 c zs hc)
end
end DL

set_option maxHeartbeats 200000
set_option Elab.async false
set_option linter.all false
set_option maxRecDepth 100000
namespace DL
open PySem PySem.Spec PyProof.Rows L2
section
variable {P : Program} {w : World} {K : PySem.W.Frag} {mg : Str → Option Value} {base : Heap} {x qual : Str} {st : Stmt} {f : Addr} {fd : FuncData} {N ps : List Str} {k : Nat}
/-- a def that reads the store -/
theorem fnS {S : SpS} {dvs : List V} {kws : List (Str × V)} (F : FunD K x qual (defArgs st) (defBody st) (defScope st) dvs kws f fd) (sc : FnScope N ps (defScope st)) (len : ∀ G ds Φ, S G ds Φ → ds.length = ps.length)
    (body : ∀ (B : B0) (cdv : Value) (A : Around) (outer : List Env) (s : Shared) (H : Hp) (E : XK) (G : Gm) (ds : List PyData) (Φ : PyData → Prop), Room k (A.deeper (envOfC qual (defScope st) s.heap.objs.size f cdv)) → B.p = none → StIn (bs (bodyX P w K mg base N qual (defScope st) f cdv A outer s H E) B) G → S G ds Φ →
      DSs B (bodyX P w K mg base N qual (defScope st) f cdv A outer s H E) (defBody st) (ini N (ds.map C.d) 0) (fun _ => Φ .none) fun x _ => Φ x) : FnOk P w K mg base CX0 (k + 1) f fd ps (spS K S) := by
  refine F.ok sc (fun vs H Q E h => ?_) (fun cdv A outer s H vs Q E hr h => ?_)
  · obtain ⟨F', ds, G, Φ, _, hd, _, hS, _⟩ := h
    rw [dpAll_len hd]; exact len G ds Φ hS
  · obtain ⟨F', ds, G, Φ, e, hd, hst, hS, q⟩ := h
    refine ⟨_, PSs.nox pss_w, ?_⟩
    refine body ⟨F', H, none, none⟩ cdv A outer s H E G ds Φ hr rfl (fun a xs h => ?_) hS (L2.start N vs) F' H (rep_iniD e hd) _ (fun δ' σ' F2 H2 e2 r2 p => ?_) fun v x δ' σ' F2 H2 e2 r2 d2 p => ?_
    · obtain ⟨⟨us, h1, h2⟩, h3, h4⟩ := hst a xs h
      exact ⟨us, h1, h2, h3, h4⟩
    · exact q .non .none F2 H2 e2 r2.ex r2.fr (fun b o z => r2.kp b o z (fun y => by cases y)) .non p
    · exact q v x F2 H2 e2 r2.ex r2.fr (fun b o z => r2.kp b o z (fun y => by cases y)) d2 p
end
section
variable {B : B0} {X : Cx} {G : Gm} {e : Expr} {es : List Expr} {δ : St'} {Φ : PE1} {p pos : Pos} {k k' : Nat} {ps : List Str} {x : Str}
theorem de_fS {S : SpS} (hG : StIn (bs X B) G) (GF : Fn X.prog X.w X.K X.mg X.base x k ps (spS X.K S)) (hr : Room k' X.A) (h : DA B X (e :: es) δ fun ds δ' => S G ds fun y => Φ y δ') (hk : k ≤ k' := by decide)
    (hg : Gl X x := by rfl) (hdb : (x == ("__debug__" : Str)) = false := by decide) (he : starEach (e :: es) X.env = (false, eval e X.env) :: starEach es X.env := by rfl) (hpl : (backTo pos (starEach es X.env)).any (·.1) = false := by rfl) :
    DE B X (.Call (.Name x p) (e :: es) [] pos) δ Φ := by
  obtain ⟨f, fd, h1, h2, h3, h4⟩ := GF.ex
  exact .of (pe_call h4 (hr.mono hk) hg h1 h2 h3 .nil pass0 pa_w hdb he hpl) fun σ F H r Q q => h σ F H r _ fun vs ds δ' F' H' e1 r' d hS =>
    ⟨F', ds, G, _, r'.ex, by simpa using d, hG.out r', hS, fun v y F2 H2 q1 q2 q3 q4 q5 q6 => q v y δ' F2 H2 (e1.trans q1) (r'.called q1 q2 q3 q4) q5 q6⟩
end
end DL

set_option maxHeartbeats 200000
set_option Elab.async false
set_option linter.all false
set_option maxRecDepth 100000
namespace DL
open PySem PySem.Spec PyProof.Rows L2
/-! ### name = [.. for ..] -/
section
variable {B : B0} {X : Cx} {elt cnd tg iter : Expr} {scope : Scope} {δ : St'} {Φ : List PyData → St' → Prop} {pos spos py : Pos} {wi : TI} {g : TG} {N : St' → Prop} {R : PE1} {y0 : Str}
theorem wl_filt (own : List (Str × Nat)) (h : WI (bs X B) wi δ fun xs δ1 => xs.length ≤ 100000 ∧ ∃ (keep : PyData → Bool) (f : PyData → PyData),
      (∀ (B' : B0) y, Sub B B' → y ∈ xs → WG (bs X B') g (own.map (·.2)) y ⟨δ1.n, inn (own.map (·.2)) 0 δ1.s⟩ fun δ2 =>
        ∀ s0 H0 C cl fp, DT B' (X.blk s0 H0 scope (compEnvC scope cl C X.env) fp) cnd δ2 fun b δ3 => b = keep y ∧ δ3.n = δ1.n ∧ (keep y = true → ∀ s0 H0 C cl fp, DE B' (X.blk s0 H0 scope (compEnvC scope cl C X.env) fp) elt δ3 fun z δ4 => z = f y ∧ δ4.n = δ1.n)) ∧ Φ ((xs.filter keep).map f) δ1) :
    WL (bs X B) (tLc wi g (bT X scope cnd) (bE X scope elt) (own.map (·.2))) δ Φ :=
  wl_lc (fun _ z => z) fun σ F H r R q => h σ F H r R fun J xs δ1 F' H' e r' w ⟨hz, keep, f, h1, h2⟩ => q J xs δ1 F' H' e r' w ⟨hz, fun i acc n => acc = ((xs.take i).filter keep).map f ∧ n = δ1.n, by simp, fun B' i y acc n hp hy _ ⟨ha, hn⟩ => by
    subst ha hn
    intro σ F H r v d Q qq
    refine h1 B' y hp (List.mem_of_getElem? hy) σ F H r v d Q fun δ2 σ2 r2 k1 k2 p => qq δ2 σ2 r2 k1 k2 (WT.mono (bT_of p) fun b δ3 ⟨e1, e2, e3⟩ => ?_)
    subst e1
    cases hk : keep y with
    | true =>
      rw [if_pos rfl]
      refine WE.mono (bE_of (e3 hk)) fun z δ4 ⟨q1, q2⟩ => ⟨?_, q2⟩
      rw [take_snoc hy, List.filter_append, List.map_append, q1]
      simp [hk]
    | false =>
      rw [if_neg Bool.false_ne_true]
      refine ⟨?_, e2⟩
      rw [take_snoc hy, List.filter_append]
      simp [hk], fun acc n _ ⟨ha, hn⟩ => by
    subst ha hn
    rw [List.take_length]; exact h2⟩
/-- x = [.. for .. in .. if ..], told as data from here on -/
theorem ds_setFilt (i : Nat) (own : List (Str × Nat)) (hN : X.N.Nodup) (hi : PI X tg iter wi) (ok : BlkOk X.N X.env.scope scope own)
    (hg : ∀ (s : Shared) (H : Hp) (C : Addr) (cl : List (Str × Addr)) (fp : List Addr), PG (X.blk s H scope (compEnvC scope cl C X.env) fp) tg g)
    (h : WI (bs X B) wi δ fun xs δ1 => xs.length ≤ 100000 ∧ ∃ (keep : PyData → Bool) (f : PyData → PyData),
      (∀ (B' : B0) y, Sub B B' → y ∈ xs → WG (bs X B') g (own.map (·.2)) y ⟨δ1.n, inn (own.map (·.2)) 0 δ1.s⟩ fun δ2 =>
        ∀ s0 H0 C cl fp, DT B' (X.blk s0 H0 scope (compEnvC scope cl C X.env) fp) cnd δ2 fun b δ3 => b = keep y ∧ δ3.n = δ1.n ∧ (keep y = true → ∀ s0 H0 C cl fp, DE B' (X.blk s0 H0 scope (compEnvC scope cl C X.env) fp) elt δ3 fun z δ4 => z = f y ∧ δ4.n = δ1.n)) ∧ N (δ1.put i (.d (.list ((xs.filter keep).map f)))))
    (hy : X.N[i]? = some y0 := by rfl) (hyl : X.env.scope.names.lookup y0 = some .local := by rfl) (hsw : swapsWith (.ListComp elt [⟨tg, iter, [cnd], 0⟩] scope pos) (some (.Name y0 py)) spos.line X.env = pure true := by exact sw_true rfl rfl rfl rfl)
    (hc : X.calm = true := by rfl) (hs : ∀ x, foldedSetIterable iter X.env x = pure x := by intro _; rfl) : DS B X (.Assign [.Name y0 py] (.ListComp elt [⟨tg, iter, [cnd], 0⟩] scope pos) spos) δ N R :=
  .of (ps_setLc (te := bE X scope elt) hc hN hy hyl hsw hi ok hg (fun s H C cl fp => pts_one (t := bT X scope cnd) ⟨fun pins s' σ H' Q I h => h s H C cl fp pins s' I⟩) (fun s H C cl fp => ⟨fun pins s' σ H' Q I h => h s H C cl fp pins s' I⟩) hs)
    (ws_set (we_wl (wl_filt (Φ := fun xs δ' => N (δ'.put i (.d (.list xs)))) own h)))
theorem pgu_three {X : Cx} {x y z : Str} {px py pz pos : Pos} {k : Nat} (i j l : Nat) (nd : X.N.Nodup) (hc : X.calm = true := by rfl) (hi : X.N[i]? = some x := by rfl) (hx : Loc X.env.scope x := by first | exact .inl rfl | exact .inr rfl)
    (hf : X.fn x = true ∨ X.env.scope.names.lookup x = some .local := by first | exact .inl rfl | exact .inr rfl) (hj : X.N[j]? = some y := by rfl) (hy : Loc X.env.scope y := by first | exact .inl rfl | exact .inr rfl)
    (hg : X.fn y = true ∨ X.env.scope.names.lookup y = some .local := by first | exact .inl rfl | exact .inr rfl) (hl : X.N[l]? = some z := by rfl) (hz : Loc X.env.scope z := by first | exact .inl rfl | exact .inr rfl)
    (hh : X.fn z = true ∨ X.env.scope.names.lookup z = some .local := by first | exact .inl rfl | exact .inr rfl) : PG X (.Tuple [.Name x px, .Name y py, .Name z pz] k pos) (gUnl X.K 3 (gCons (gName i) (gCons (gName j) (gCons (gName l) gNil)))) :=
  pg_unl hc (pgs_cons (pg_name nd hi hx hf) (pgs_cons (pg_name nd hj hy hg) (pgs_cons (pg_name nd hl hz hh) pgs_nil)))
end
end DL

set_option maxHeartbeats 200000
set_option Elab.async false
set_option linter.all false
set_option maxRecDepth 100000
namespace DL
open PySem PySem.Spec PyProof.Rows L2
open PySem.W (alike alikeAll dataLt dataLe AllAlike Sortable EachIs)
/-! ### xs == [], xs != [], whatever is in xs -/
section
variable {X : Cx}
def rEqNil (K : PySem.W.Frag) : R2 := fun x y H Q => ∃ a b xs, x = .ref a ∧ y = .ref b ∧ SqL K H a xs ∧ SqL K H b [] ∧ Q (.bl xs.isEmpty) H
def rNeNil (K : PySem.W.Frag) : R2 := fun x y H Q => ∃ a b xs, x = .ref a ∧ y = .ref b ∧ SqL K H a xs ∧ SqL K H b [] ∧ Q (.bl (!xs.isEmpty)) H
theorem op_eqNil (hu : X.A.units + 64 < cLine) : OpR X (compareOp .Eq) (rEqNil X.K) := by
  intro pins s σ H x y v u Q I rx ry h
  obtain ⟨a, b, xs, rfl, rfl, h1, h2, q⟩ := h
  cases rx
  cases ry
  obtain ⟨its, r1, ⟨o, n, e1, e2, _, e3⟩, _⟩ := I.list h1
  obtain ⟨its2, r2, ⟨o2, n2, k1, k2, _, k3⟩, _⟩ := I.list h2
  have l1 := r1.length
  have l2 := r2.length
  have hl : s.heap.IsList a its.toArray := ⟨o, e1, e2, n, e3⟩
  have hl2 : s.heap.IsList b its2.toArray := ⟨o2, k1, k2, n2, k3⟩
  have z2 : its2.toArray.size = 0 := by rw [List.size_toArray, ← l2]; rfl
  cases xs with
  | nil =>
    have z1 : its.toArray.size = 0 := by rw [List.size_toArray, ← l1]; rfl
    refine PySem.SeqAt.eq_listAt (e := fun _ => true) hl hl2 (by rw [z1, z2]) (by omega) (fun j j1 => absurd j1 (by omega)) ?_
    rw [z1]
    exact ⟨.bl true, H, I, rfl, q⟩
  | cons x xs =>
    have z1 : its.toArray.size ≠ 0 := by
      rw [List.size_toArray, ← l1, List.length_cons]
      omega
    exact PySem.SeqAt.eq_list_lengthsAt hl hl2 (by rw [z2]; simpa using z1) (by omega) ⟨.bl false, H, I, rfl, q⟩
theorem op_neNil (hu : X.A.units + 64 < cLine) : OpR X (compareOp .NotEq) (rNeNil X.K) := by
  intro pins s σ H x y v u Q I rx ry h
  obtain ⟨a, b, xs, rfl, rfl, h1, h2, q⟩ := h
  cases rx
  cases ry
  obtain ⟨its, r1, ⟨o, n, e1, e2, _, e3⟩, _⟩ := I.list h1
  obtain ⟨its2, r2, ⟨o2, n2, k1, k2, _, k3⟩, _⟩ := I.list h2
  have l1 := r1.length
  have l2 := r2.length
  have hl : s.heap.IsList a its.toArray := ⟨o, e1, e2, n, e3⟩
  have hl2 : s.heap.IsList b its2.toArray := ⟨o2, k1, k2, n2, k3⟩
  have z2 : its2.toArray.size = 0 := by rw [List.size_toArray, ← l2]; rfl
  cases xs with
  | nil =>
    have z1 : its.toArray.size = 0 := by rw [List.size_toArray, ← l1]; rfl
    have := PySem.SeqAt.RcNeAt.lists (A := X.A) (e := fun _ => true) hl hl2 (by rw [z1, z2]) (by omega) (fun j j1 => absurd j1 (by omega))
    rw [z1] at this
    exact this X.prog X.w X.xe _ ⟨.bl false, H, I, rfl, q⟩
  | cons x xs =>
    have z1 : its.toArray.size ≠ 0 := by
      rw [List.size_toArray, ← l1, List.length_cons]
      omega
    exact PySem.SeqAt.RcNeAt.lists_lengths (A := X.A) hl hl2 (by rw [z2]; simpa using z1) (by omega) X.prog X.w X.xe _ ⟨.bl true, H, I, rfl, q⟩
end
section
variable {B : Bs} {δ : St'} {Φ : PE1}
theorem isEmpty_dq {K : PySem.W.Frag} {F : Hp} {us : List V} {xs : List PyData} (h : DqAll K F us xs) : us.isEmpty = xs.isEmpty := by
  cases h <;> rfl
theorem rd_eqNil {xs : List PyData} (p : Φ (.bool xs.isEmpty) δ) : RD B (rEqNil B.K) (.list xs) (.list []) δ Φ :=
  rd_pure (w := .bl xs.isEmpty) (fun _ => .bl _) (fun F H v u e d1 d2 Q q => by
    cases d1 with
    | lst hs ha =>
      cases d2 with
      | lst hs2 ha2 =>
        cases ha2
        refine ⟨_, _, _, rfl, rfl, e.seq hs, e.seq hs2, ?_⟩
        rw [isEmpty_dq ha]
        exact q) p
theorem rd_neNil {xs : List PyData} (p : Φ (.bool (!xs.isEmpty)) δ) : RD B (rNeNil B.K) (.list xs) (.list []) δ Φ :=
  rd_pure (w := .bl (!xs.isEmpty)) (fun _ => .bl _) (fun F H v u e d1 d2 Q q => by
    cases d1 with
    | lst hs ha =>
      cases d2 with
      | lst hs2 ha2 =>
        cases ha2
        refine ⟨_, _, _, rfl, rfl, e.seq hs, e.seq hs2, ?_⟩
        rw [isEmpty_dq ha]
        exact q) p
end
/-! ### a list of our own, read and not told -/
def flat1 : PyData → Bool
  | .list _ => false
  | .tuple _ => false
  | _ => true
theorem flat_dq {K : PySem.W.Frag} {H H' : Hp} {v : V} {d : PyData} (h : Dq K H v d) (a : flat1 d = true) : Dq K H' v d := by
  cases h <;> first | exact .non | exact .bl _ | exact .int _ | exact .str _ | exact .hd _ | cases a
theorem flats_dq {K : PySem.W.Frag} {H H' : Hp} : ∀ {vs : List V} {ds : List PyData}, DqAll K H vs ds → ds.all flat1 = true → DqAll K H' vs ds
  | _, [], h, _ => by cases h; exact .nil
  | _, d :: ds, h, a => by
    cases h with
    | cons h1 h2 =>
      simp only [List.all_cons, Bool.and_eq_true] at a
      exact .cons (flat_dq h1 a.1) (flats_dq h2 a.2)
theorem wl_peek {B : Bs} {te : TE} {δ : St'} {Φ : List PyData → St' → Prop} (i : Nat) {xs : List PyData} (h : WL B te (δ.put i (.d (.list xs))) fun ys δ' => ys.all flat1 = true ∧ δ'.s = (δ.put i (.d (.list xs))).s ∧ Φ ys ⟨δ'.n, δ.s⟩) (hi : δ.s[i]? = some (some (.own xs)))
    (ho : onlyOwn i δ.s 0 = true) : WL B te δ Φ := fun σ F H r Q q => by
  obtain ⟨a, vs, hσ, hF, hB, hH, hd, r2⟩ := r.freeze hi
  refine h σ _ H r2 Q fun a1 us ys δ' F' H' e r' hB1 hF1 hH1 hap d ⟨hfl, hs, p⟩ => ?_
  have e1 : Same F F' := (same_upd hF).trans e
  have ha : F' a = some (.lst vs) := e _ _ upd_same
  have hne : a1 ≠ a := fun z => by rw [z, ha] at hF1; cases hF1
  have hF0 : F a1 = none := by
    cases z : F a1 with
    | none => rfl
    | some o => rw [e1 _ _ z] at hF1; cases hF1
  refine q a1 us ys ⟨δ'.n, δ.s⟩ F H' (Same.refl F) (r.thaw hi ho hσ hd hF hB (e1.trans r'.ex) (r'.ex _ _ ha) r' hs) hB1 hF0 hH1 (fun j c hj hc hz => ?_) (flats_dq d hfl) p
  by_cases ej : j = i
  · subst ej
    rw [hσ] at hz
    injection hz with hz
    injection hz with hz
    injection hz with hz
    exact hne hz.symm
  · refine hap j c ?_ hc hz
    rw [hs]
    show (δ.s.set i _)[j]? = _
    rw [List.getElem?_set_ne (fun z => ej z.symm)]
    exact hj
section
variable {B : B0} {X : Cx} {elt cnd tg iter e : Expr} {scope : Scope} {δ : St'} {Φ : List PyData → St' → Prop} {pos spos py : Pos} {wi : TI} {g : TG} {N : St' → Prop} {R : PE1} {y0 : Str}
theorem dl_peek (i : Nat) {xs : List PyData} (h : DLs B X e (δ.put i (.d (.list xs))) fun ys δ' => ys.all flat1 = true ∧ δ'.s = (δ.put i (.d (.list xs))).s ∧ Φ ys ⟨δ'.n, δ.s⟩) (hi : δ.s[i]? = some (some (.own xs)) := by rfl) (ho : onlyOwn i δ.s 0 = true := by rfl) : DLs B X e δ Φ := wl_peek i h hi ho
/-! ### name = [.. for ..], turn by turn -/
theorem wl_lcIf (own : List (Str × Nat)) (h : WI (bs X B) wi δ fun xs δ1 => xs.length ≤ 100000 ∧ ∃ I : Nat → List PyData → Nat → Prop, I 0 [] δ1.n ∧
      (∀ (B' : B0) i y acc n, Sub B B' → xs[i]? = some y → acc.length ≤ i → I i acc n → WG (bs X B') g (own.map (·.2)) y ⟨n, inn (own.map (·.2)) 0 δ1.s⟩ fun δ2 =>
        ∀ s0 H0 C cl fp, DT B' (X.blk s0 H0 scope (compEnvC scope cl C X.env) fp) cnd δ2 fun b δ3 => if b = true then ∀ s0 H0 C cl fp, DE B' (X.blk s0 H0 scope (compEnvC scope cl C X.env) fp) elt δ3 fun z δ4 => I (i + 1) (acc ++ [z]) δ4.n else I (i + 1) acc δ3.n) ∧
      ∀ acc n, acc.length ≤ xs.length → I xs.length acc n → Φ acc ⟨n, δ1.s⟩) : WL (bs X B) (tLc wi g (bT X scope cnd) (bE X scope elt) (own.map (·.2))) δ Φ :=
  wl_lc (fun _ z => z) fun σ F H r R q => h σ F H r R fun J xs δ' F' H' e r' w ⟨hz, I, h0, h1, h2⟩ =>
    q J xs δ' F' H' e r' w ⟨hz, I, h0, fun B' i y acc n hp hy hl hi σ F H r v d Q qq => h1 B' i y acc n hp hy hl hi σ F H r v d Q fun δ2 σ2 r2 k1 k2 p => qq δ2 σ2 r2 k1 k2 (WT.mono (bT_of p) fun b δ3 pb => by
      cases b with
      | true =>
        rw [if_pos rfl] at pb ⊢
        exact bE_of pb
      | false =>
        rw [if_neg Bool.false_ne_true] at pb ⊢
        exact pb), h2⟩
theorem wl_lc0 (own : List (Str × Nat)) (h : WI (bs X B) wi δ fun xs δ1 => xs.length ≤ 100000 ∧ ∃ I : Nat → List PyData → Nat → Prop, I 0 [] δ1.n ∧
      (∀ (B' : B0) i y acc n, Sub B B' → xs[i]? = some y → acc.length ≤ i → I i acc n → WG (bs X B') g (own.map (·.2)) y ⟨n, inn (own.map (·.2)) 0 δ1.s⟩ fun δ2 =>
        ∀ s0 H0 C cl fp, DE B' (X.blk s0 H0 scope (compEnvC scope cl C X.env) fp) elt δ2 fun z δ4 => I (i + 1) (acc ++ [z]) δ4.n) ∧
      ∀ acc n, acc.length ≤ xs.length → I xs.length acc n → Φ acc ⟨n, δ1.s⟩) : WL (bs X B) (tLc wi g tYes (bE X scope elt) (own.map (·.2))) δ Φ :=
  wl_lc (fun _ z => z) fun σ F H r R q => h σ F H r R fun J xs δ' F' H' e r' w ⟨hz, I, h0, h1, h2⟩ =>
    q J xs δ' F' H' e r' w ⟨hz, I, h0, fun B' i y acc n hp hy hl hi σ F H r v d Q qq => h1 B' i y acc n hp hy hl hi σ F H r v d Q fun δ2 σ2 r2 k1 k2 p => qq δ2 σ2 r2 k1 k2 (tYes_of (by
      rw [if_pos rfl]
      exact bE_of p)), h2⟩
/-- x = [.. for .. in .. if ..], told as data; the WL of it at will -/
theorem ds_setLcW (i : Nat) (own : List (Str × Nat)) (hN : X.N.Nodup) (hi : PI X tg iter wi) (ok : BlkOk X.N X.env.scope scope own)
    (hg : ∀ (s : Shared) (H : Hp) (C : Addr) (cl : List (Str × Addr)) (fp : List Addr), PG (X.blk s H scope (compEnvC scope cl C X.env) fp) tg g)
    (h : WL (bs X B) (tLc wi g (bT X scope cnd) (bE X scope elt) (own.map (·.2))) δ fun xs δ' => N (δ'.put i (.d (.list xs))))
    (hy : X.N[i]? = some y0 := by rfl) (hyl : X.env.scope.names.lookup y0 = some .local := by rfl) (hsw : swapsWith (.ListComp elt [⟨tg, iter, [cnd], 0⟩] scope pos) (some (.Name y0 py)) spos.line X.env = pure true := by exact sw_true rfl rfl rfl rfl)
    (hc : X.calm = true := by rfl) (hs : ∀ x, foldedSetIterable iter X.env x = pure x := by intro _; rfl) : DS B X (.Assign [.Name y0 py] (.ListComp elt [⟨tg, iter, [cnd], 0⟩] scope pos) spos) δ N R :=
  .of (ps_setLc (te := bE X scope elt) hc hN hy hyl hsw hi ok hg (fun s H C cl fp => pts_one (t := bT X scope cnd) ⟨fun pins s' σ H' Q I h => h s H C cl fp pins s' I⟩) (fun s H C cl fp => ⟨fun pins s' σ H' Q I h => h s H C cl fp pins s' I⟩) hs)
    (ws_set (we_wl h))
theorem ds_setLc0 (i : Nat) (own : List (Str × Nat)) (hN : X.N.Nodup) (hi : PI X tg iter wi) (ok : BlkOk X.N X.env.scope scope own)
    (hg : ∀ (s : Shared) (H : Hp) (C : Addr) (cl : List (Str × Addr)) (fp : List Addr), PG (X.blk s H scope (compEnvC scope cl C X.env) fp) tg g)
    (h : WL (bs X B) (tLc wi g tYes (bE X scope elt) (own.map (·.2))) δ fun xs δ' => N (δ'.put i (.d (.list xs))))
    (hy : X.N[i]? = some y0 := by rfl) (hyl : X.env.scope.names.lookup y0 = some .local := by rfl) (hsw : swapsWith (.ListComp elt [⟨tg, iter, [], 0⟩] scope pos) (some (.Name y0 py)) spos.line X.env = pure true := by exact sw_true rfl rfl rfl rfl)
    (hc : X.calm = true := by rfl) (hs : ∀ x, foldedSetIterable iter X.env x = pure x := by intro _; rfl) : DS B X (.Assign [.Name y0 py] (.ListComp elt [⟨tg, iter, [], 0⟩] scope pos) spos) δ N R :=
  .of (ps_setLc (te := bE X scope elt) hc hN hy hyl hsw hi ok hg (fun _ _ _ _ _ => pts_nil) (fun s H C cl fp => ⟨fun pins s' σ H' Q I h => h s H C cl fp pins s' I⟩) hs)
    (ws_set (we_wl h))
end
/-! ### sorted(h) -/
theorem wl_sortedH {B : Bs} {δ : St'} {G : Gm} {ta : TA} {Ψ : List PyData → St' → Prop} (hG : StIn B G) (h : WA B ta δ fun xs δ1 => ∃ b ds, xs = [hdD b] ∧ G b = some ds ∧ noHs ds = true ∧ AllAlike ds ∧ Sortable ds ∧ ds.length ≤ 100000 ∧ (∀ d ∈ ds, d.depth ≤ 60) ∧ Ψ (sortD ds) δ1) : WL B (tCB (rSortD B.K) ta) δ Ψ := fun σ F H r Q q =>
  h σ F H r _ fun vs xs δ1 F1 H1 e1 r1 d1 ⟨b, ds, hx, hg, h0, h1, h2, h3, h4, p1⟩ => by
    subst hx
    cases d1 with
    | cons d1 d2 =>
      cases d2
      cases d1
      obtain ⟨us, k1, ha, _⟩ := hG.get r1 hg
      refine ⟨_, us, ds, rfl, .inl (.inl k1), dqs_dps _ _ h0 (dpAll_mono r1.ex _ _ ha), h1, h2, h3, h4, fun p hp => ?_⟩
      obtain ⟨k1, k2, k3, k4⟩ := r1.newL hp (((us.zip ds).mergeSort (dataLe false (·.2))).map (·.1))
      have hd : DqAll B.K F1 (((us.zip ds).mergeSort (dataLe false (·.2))).map (·.1)) (sortD ds) := by
        unfold sortD
        rw [← sort_snd (dpAll_len ha)]
        exact dpAll_of fun p hp => dpAll_mem ha p ((List.mergeSort_perm _ _).mem_iff.mp hp)
      exact q p _ _ δ1 F1 _ e1 k1 k2 k3 upd_same k4 hd p1
end DL

set_option maxHeartbeats 200000
set_option Elab.async false
set_option linter.all false
set_option maxRecDepth 100000
namespace DL
open PySem PySem.Spec PyProof.Rows L2
/-! ### defs that show things: called where nothing is being shown -/
/-- what a def promises where nothing is being shown -/
structure FnSh (P : Program) (w : World) (K : PySem.W.Frag) (mg : Str → Option Value) (base : Heap) (k : Nat) (f : Addr) (fd : FuncData) (ps : List Str) (sp : Sp) : Prop where
  ln : ∀ xs H Q E, sp xs H Q E → xs.length = ps.length
  go : ∀ (A : Around) (out : List Env) (s : Shared) (H : Hp) (ar : Args) (us : List Value) (xs : List V) (Q : VK) (E : XK), A.guards = some [] → Room k A → Env0 P w K mg base A out s H →
    BindsTo s fd ar (ps.zip us) → Vals xs us → sp xs H Q E → codeAny (model P w) A (.call (.ref f) ar) (CR CX0 out P w H s Q E) s
section
variable {P : Program} {w : World} {K : PySem.W.Frag} {mg : Str → Option Value} {base : Heap} {x qual : Str} {st : Stmt} {f : Addr} {fd : FuncData} {N ps : List Str} {k : Nat} {sp : Sp}
theorem FnSh.of {dvs : List V} {kws : List (Str × V)} (F : FunD K x qual (defArgs st) (defBody st) (defScope st) dvs kws f fd) (sc : FnScope N ps (defScope st)) (ln : ∀ xs H Q E, sp xs H Q E → xs.length = ps.length)
    (bd : ∀ (cdv : Value) (A : Around) (out : List Env) (s : Shared) (H : Hp) (xs : List V) (Q : VK) (E : XK), A.guards = some [] → Room k (A.deeper (envOfC qual (defScope st) s.heap.objs.size f cdv)) → sp xs H Q E →
      ∃ t, PSs (cxOf CX0 P w K mg base N qual (defScope st) f cdv A out s H E) (defBody st) t ∧ t { nx := fun _ G => Q .non G, rt := Q } (L2.start N xs) H) : FnSh P w K mg base (k + 1) f fd ps sp := by
  obtain ⟨o1, o2, d1, d2, c1, c2, an, cdv, ct, sl, rfl, hlk, hcode, -, -⟩ := F.ex
  constructor
  · exact ln
  intro A out s H ar us xs Q E hgd rm ev hbd hv hp
  have long := ln xs H Q E hp
  have inK : K.In s.heap := ev.mod.kin.keeps fun a o e => (ev.bs a o e).1
  have nol : s.heap.NoLimit := ev.mod.nolimit.keeps fun a o e => (ev.bs a o e).1
  have kinds : ∀ y, y ∈ ps.zip us → (defScope st).names.lookup y.1 = some .local ∨ ((defScope st).names.lookup y.1 = some .cell ∧ ((cellsFrom (s.heap.objs.size + 1) (defScope st).names []).lookup y.1).isSome = true) := by
    intro y hy
    cases sc.par y.1 (List.of_mem_zip hy).1 with
    | inl h => exact .inl h
    | inr h => exact .inr ⟨h, PySem.W.cellsFrom_some _ _ _ (.inl h)⟩
  apply codeAny_call_function rm.depth (inK _ _ hlk) rfl sc.co sc.gen rfl (PySem.W.codeRec_of inK hcode)
  apply hbd
  apply wpAny_newFunctionEnv_cells sc.kind kinds
  intro env0 rfl s1 made
  constructor
  · exact nol.keeps made.toInCall.keep
  apply codeAny_func
  obtain ⟨t, run, now⟩ := bd cdv A out s H xs Q E hgd (rm.deeper _) hp
  have inv := inv_start (CX := CX0) (E := E) sc rm.hd ev long hv made
  refine wpAny_mono (run.run [] s1 _ H _ inv now) ?_ fun _ _ z => z
  intro fl s2 hs
  cases fl with
  | brk => obtain ⟨_, _, _, z⟩ := hs; exact z.elim
  | cont => obtain ⟨_, _, _, z⟩ := hs; exact z.elim
  | next => obtain ⟨_, H2, J, z⟩ := hs; exact ⟨.non, H2, J.os, J.bare, J.base, J.hok, rfl, z⟩
  | ret u => obtain ⟨v, _, H2, J, rv, z⟩ := hs; exact ⟨v, H2, J.os, J.bare, J.base, J.hok, rv, z⟩
theorem FnSh.mono {j : Nat} (F : FnSh P w K mg base j f fd ps sp) (h : j ≤ k) : FnSh P w K mg base k f fd ps sp := ⟨F.ln, fun A out s H ar us xs Q E hg rm => F.go A out s H ar us xs Q E hg (rm.mono h)⟩
theorem FnOk.sh (F : FnOk P w K mg base CX0 k f fd ps sp) : FnSh P w K mg base k f fd ps sp := ⟨F.len, fun A out s H ar us xs Q E _ rm => F.run A out s H ar us xs Q E rm⟩
end
section
variable {X : Cx} {k : Nat} {f : Addr} {fd : FuncData} {ps : List Str} {sp : Sp} {dvs : List V} {ds : List Value} {x : Str} {p pos : Pos} {e : Expr} {es : List Expr} {t : TA}
/-- f(e, ..), f a def that shows things -/
theorem pe_callSh (F : FnSh X.prog X.w X.K X.mg X.base k f fd ps sp) (hgd : X.A.guards = some []) (rm : Room k X.A) (hg : Gl X x) (hm : X.mg x = some (.ref f)) (hk : PySem.W.keepIn X.K (.ref f) = true) (hb : Binds X.K fd ps ds) (hd : Vals dvs ds)
    (ha : PA X (e :: es) t) (hdb : (x == ("__debug__" : Str)) = false := by decide) (he : starEach (e :: es) X.env = (false, eval e X.env) :: starEach es X.env := by rfl) (hpl : (backTo pos (starEach es X.env)).any (·.1) = false := by rfl) :
    PE X (.Call (.Name x p) (e :: es) [] pos) (tCall sp dvs E0 t) := by
  constructor
  intro pins s σ H Q inv now
  apply wpAny_Call_Name_kw (ld_glob inv hg hm ?_ hdb)
  refine PySem.W.callWith_K (h₀ := X.base) inv.ok.mod.kin hk (thn (ha.run pos pins s σ H _ inv now) ?_) he hpl
  rintro us s1 ⟨xs, H1, inv1, rv, hsp⟩
  have rv2 := rv.append hd
  have long : (us ++ ds).length = ps.length := rv2.length.symm.trans (F.ln _ _ _ _ hsp)
  constructor
  · exact inv1.kIn
  apply wpAny_call
  refine codeAny_mono (F.go X.A X.stack s1 H1 ⟨us, []⟩ (us ++ ds) _ Q E0 hgd rm inv1.env0 (hb s1 us inv1.kIn long) rv2 hsp) ?_
  intro r s2 hr
  cases r with
  | error e => exact hr.elim
  | ok fl =>
    cases fl with
    | ret u => exact inv1.after hr
    | next => exact hr.elim
    | brk => exact hr.elim
    | cont => exact hr.elim
end
end DL

set_option maxHeartbeats 200000
set_option Elab.async false
set_option linter.all false
set_option maxRecDepth 100000
namespace DL
open PySem PySem.Spec PyProof.Rows L2
/-! ### the law's own call, where its def shows things -/
section
variable {P : Program} {w : World} {K : PySem.W.Frag} {mg mb : Str → Option Value} {k : Nat} {fa a : Addr} {fd : FuncData} {x : Str} {sp : Sp} {s : Shared} {vs : List Value} {ns : List Int}
abbrev EndOf (s : Shared) : Result → Shared → Prop := fun r s' => r = .ok (.ret (.bool true)) ∧ OldK s.heap s'.heap ∧ s'.os = s.os ∧ AllBare s'.gens
theorem callSh_at (inK : K.In s.heap) (nsG : s.heap.Ns mainGlobals mg) (nsB : s.heap.Ns builtinsNs mb) (bt : ∀ y : Str, y ≠ "__name__" → mb y = bootBuiltins y) (nol : s.heap.NoLimit) (gn : s.gens = #[])
    (at' : s.heap.get? a = some { cls := .type "list", data := .seq vs.toArray }) (rm : Room k callerA) (F : ∀ base : Heap, K.In base → base.Ns mainGlobals mg → FnSh P w K mg base k fa fd [x] sp)
    (bind : ∀ (s : Shared) (u : Value), BindsTo s fd ⟨[u], []⟩ [(x, u)]) {H : Hp} (only : Only H) (hsp : sp [.ref a] H (fun v _ => v = .bl true) fun _ _ _ => False) (hok : HOk P w H s.heap) (one : ∀ b, H b ≠ none → b = a ∧ K.lookup a = none) :
    codeAny (model P w) callerA (.call (.ref fa) ⟨[.ref a], []⟩) (EndOf s) s := by
  have free : ∀ {b : Addr}, b ≠ a → H b = none := by
    intro b hb
    cases z : H b with
    | none => rfl
    | some o => exact absurd (one b (by rw [z]; exact fun q => nomatch q)).1 hb
  have stays : ∀ {b : Addr} {o : Obj}, s.heap.get? b = some o → H b = none → (hidT s.heap H).get? b = some o := by
    intro b o h1 h2
    exact hidT_get h1 h2
  have dicts : ∀ {b : Addr} {m : Str → Option Value}, s.heap.Ns b m → (hidT s.heap H).Ns b m := by
    rintro b m ⟨o, es, ep, h1, h2, h3⟩
    refine ⟨o, es, ep, stays h1 (free ?_), h2, h3⟩
    rintro rfl
    rw [at'] at h1
    cases h1
    cases h2
  have inB : K.In (hidT s.heap H) := by
    intro b o h
    refine stays (inK b o h) ?_
    cases z : H b with
    | none => rfl
    | some u =>
      obtain ⟨rfl, h2⟩ := one b (by rw [z]; exact fun q => nomatch q)
      rw [h2] at h
      cases h
  have lim : (hidT s.heap H).NoLimit := by
    obtain ⟨m, h1, h2⟩ := nol
    exact ⟨m, dicts h1, h2⟩
  have ev : Env0 P w K mg (hidT s.heap H) callerA [] s H := by
    refine ⟨rfl, ⟨inB, dicts nsG, ⟨mb, dicts nsB, bt⟩, lim⟩, fun b o h => of_hidT h, Nat.le_of_eq (hidT_size _ _), trivial, ?_, hok, .of_eq gn⟩
    intro b hb
    cases hb
  refine codeAny_mono ((F _ inB (dicts nsG)).go callerA [] s H ⟨[.ref a], []⟩ [.ref a] [.ref a] _ _ rfl rm ev (bind s (.ref a)) (.cons rfl .nil) hsp) ?_
  intro r s2 h
  cases r with
  | error e => exact h.elim
  | ok fl =>
    cases fl with
    | brk => exact h.elim
    | cont => exact h.elim
    | next => exact h.elim
    | ret u =>
      obtain ⟨v, H2, h1, h2, un, hok2, rv, hv⟩ := h
      have hv : v = .bl true := hv
      subst hv
      have rv : u = Value.bool true := rv
      subst rv
      refine ⟨rfl, OldK.of_keep ?_, h1, h2⟩
      intro b o hb
      rcases only b with z | ⟨o', xs, z⟩
      · exact un.keep b o hb z (by intro q; cases q) (by intro q; cases q)
      · obtain ⟨q1, _⟩ := hok b _ z
        obtain ⟨q2, _⟩ := hok2 b _ (un.frzs b o' _ z)
        rw [hb] at q1
        cases q1
        exact q2
theorem callSh (inK : K.In s.heap) (nsG : s.heap.Ns mainGlobals mg) (nsB : s.heap.Ns builtinsNs mb) (bt : ∀ y : Str, y ≠ "__name__" → mb y = bootBuiltins y) (nol : s.heap.NoLimit) (gn : s.gens = #[])
    (at' : s.heap.get? a = some { cls := .type "list", data := .seq vs.toArray }) (hi : IntsAre vs ns) (hl : ns.length ≤ sizeLine) (rm : Room k callerA) (F : ∀ base : Heap, K.In base → base.Ns mainGlobals mg → FnSh P w K mg base k fa fd [x] sp)
    (bind : ∀ (s : Shared) (u : Value), BindsTo s fd ⟨[u], []⟩ [(x, u)]) (hsp : ∀ H : Hp, Only H → SqL K H a (ns.map V.int) → sp [.ref a] H (fun v _ => v = .bl true) fun _ _ _ => False) :
    codeAny (model P w) callerA (.call (.ref fa) ⟨[.ref a], []⟩) (EndOf s) s := by
  have rv := vals_ints hi
  have big : vs.length ≤ sizeLine := by rw [hi.length]; exact hl
  cases hk : K.lookup a with
  | some o =>
    have e := (inK a o hk).symm.trans at'
    injection e with e
    subst e
    have on : Only fun _ => none := fun _ => .inl rfl
    refine callSh_at inK nsG nsB bt nol gn at' rm F bind on (hsp _ on (.inr ⟨_, vs.toArray, _, hk, rfl, rfl, rfl, by rw [List.size_toArray]; exact big, by simpa using rv⟩)) ?_ fun b h => absurd rfl h
    intro b u h
    cases h
  | none =>
    let o : Obj := { cls := .type "list", data := .seq vs.toArray }
    let H : Hp := fun b => if b = a then some (.frz o (.lst (ns.map V.int))) else none
    have here : H a = some (.frz o (.lst (ns.map V.int))) := if_pos rfl
    have there : ∀ {b : Addr}, b ≠ a → H b = none := fun {b} h => if_neg h
    have on : Only H := by
      intro b
      by_cases h : b = a
      · subst h
        exact .inr ⟨_, _, here⟩
      · exact .inl (there h)
    refine callSh_at inK nsG nsB bt nol gn at' rm F bind on (hsp H on (.inl (.inr ⟨o, here⟩))) ?_ ?_
    · intro b u h
      by_cases hb : b = a
      · subst hb
        have h := here.symm.trans h
        injection h with h
        subst h
        exact ⟨at', by rw [List.length_map]; exact hl, vs, _, rv, at'⟩
      · rw [there hb] at h
        cases h
    · intro b h
      by_cases hb : b = a
      · exact ⟨hb, hk⟩
      · exact absurd (there hb) h
end
/-- the walk of a law whose def shows things -/
theorem walkSh {l : PySem.W.OpenLaw} {n k : Nat} {q : Program} {loose : List Str} {XP : (Str → Option Value) → Heap → Prop} {YP : World → Heap → Prop} {d : DefRec} {x : Str}
    (hn : l.most = some n) (hn2 : n ≤ sizeLine) (hdf : d.params.defaults = []) (rm : Room k callerA)
    (F : ∀ (w : World) (mg : Str → Option Value) (fa : Addr) (h : Heap), YP w h → h.Ns mainGlobals mg → mg d.name = some (.ref fa) →
      ∃ (K : PySem.W.Frag) (fd : FuncData) (sp : Sp), K.In h ∧ (∀ (s : Shared) (u : Value), BindsTo s fd ⟨[u], []⟩ [(x, u)]) ∧
        (∀ (H : Hp) (a : Addr) (ns : List Int), ns.length ≤ n → Only H → SqL K H a (ns.map V.int) → sp [.ref a] H (fun v _ => v = .bl true) fun _ _ _ => False) ∧
        ∀ base : Heap, K.In base → base.Ns mainGlobals mg → FnSh l.prog w K mg base k fa fd [x] sp) :
    PySem.W.WalkO q loose XP YP l.row.toRowW d [] (fun f vs => PySem.call f vs) := by
  apply Att.attach_call hn hdf
  intro w s₀ s₁ mg mb fa o pm cd doc a vs ns G Y ho hd hcd hmg hobj hints hlen hg
  obtain ⟨K, fd, sp, inK, hb, hsp, hF⟩ := F w mg fa _ Y G.T.g hmg
  exact callSh inK G.T.g G.T.b G.T.builtins G.T.nolimit hg hobj hints (Nat.le_trans hlen hn2) rm hF hb fun H hO hS => hsp H a ns hlen hO hS
end DL

set_option maxHeartbeats 200000
set_option Elab.async false
set_option linter.all false
set_option maxRecDepth 100000
namespace DL
open PySem PySem.Spec PyProof.Rows L2
section
variable {P : Program} {w : World} {K : PySem.W.Frag} {mg : Str → Option Value} {base : Heap} {x qual : Str} {st : Stmt} {f : Addr} {fd : FuncData} {N ps : List Str} {k : Nat}
theorem fnDSh {S : SpD} {dvs : List V} {kws : List (Str × V)} (F : FunD K x qual (defArgs st) (defBody st) (defScope st) dvs kws f fd) (sc : FnScope N ps (defScope st)) (len : ∀ ds Φ, S ds Φ → ds.length = ps.length)
    (body : ∀ (B : B0) (cdv : Value) (A : Around) (outer : List Env) (s : Shared) (H : Hp) (E : XK) (ds : List PyData) (Φ : PyData → Prop), A.guards = some [] → Room k (A.deeper (envOfC qual (defScope st) s.heap.objs.size f cdv)) → B.p = none → S ds Φ →
      DSs B (bodyX P w K mg base N qual (defScope st) f cdv A outer s H E) (defBody st) (ini N (ds.map C.d) 0) (fun _ => Φ .none) fun x _ => Φ x) : FnSh P w K mg base (k + 1) f fd ps (spD K S) := by
  refine FnSh.of F sc (fun vs H Q E h => ?_) (fun cdv A outer s H vs Q E hg hr h => ?_)
  · obtain ⟨F', ds, Φ, _, hd, hS, _⟩ := h
    rw [dpAll_len hd]; exact len ds Φ hS
  · obtain ⟨F', ds, Φ, e, hd, hS, q⟩ := h
    refine ⟨_, PSs.nox pss_w, ?_⟩
    refine body ⟨F', H, none, none⟩ cdv A outer s H E ds Φ hg hr rfl hS (L2.start N vs) F' H (rep_iniD e hd) _ (fun δ' σ' F2 H2 e2 r2 p => ?_) fun v x δ' σ' F2 H2 e2 r2 d2 p => ?_
    · exact q .non .none F2 H2 e2 r2.ex r2.fr (fun b o z => r2.kp b o z (fun y => by cases y)) .non p
    · exact q v x F2 H2 e2 r2.ex r2.fr (fun b o z => r2.kp b o z (fun y => by cases y)) d2 p
theorem fnPSh {S : SpP} {dvs : List V} {kws : List (Str × V)} (F : FunD K x qual (defArgs st) (defBody st) (defScope st) dvs kws f fd) (sc : FnScope N ps (defScope st)) (len : ∀ n ds Φ, S n ds Φ → ds.length + 1 = ps.length)
    (body : ∀ (B : B0) (cdv : Value) (A : Around) (outer : List Env) (s : Shared) (H : Hp) (E : XK) (n : Nat) (ds : List PyData) (Φ : PyData → Nat → Prop), A.guards = some [] → Room k (A.deeper (envOfC qual (defScope st) s.heap.objs.size f cdv)) → B.p ≠ none → S n ds Φ →
      DSs B (bodyX P w K mg base N qual (defScope st) f cdv A outer s H E) (defBody st) (ini N (.pot :: ds.map C.d) n) (fun δ => Φ .none δ.n) fun x δ => Φ x δ.n) : FnSh P w K mg base (k + 1) f fd ps (spP K S) := by
  refine FnSh.of F sc (fun vs H Q E h => ?_) (fun cdv A outer s H vs Q E hg hr h => ?_)
  · obtain ⟨F', p, vs', ds, n, Φ, rfl, _, _, _, hd, hS, _⟩ := h
    rw [List.length_cons, dpAll_len hd]; exact len n ds Φ hS
  · obtain ⟨F', p, vs', ds, n, Φ, rfl, e, hp, hpot, hd, hS, q⟩ := h
    refine ⟨_, PSs.nox pss_w, ?_⟩
    refine body ⟨F', H, some p, none⟩ cdv A outer s H E n ds Φ hg hr (fun z => by cases z) hS (L2.start N (.ref p :: vs')) F' H (rep_iniP e hp hpot hd) _ (fun δ' σ' F2 H2 e2 r2 z => ?_) fun v x δ' σ' F2 H2 e2 r2 d2 z => ?_
    · exact q .non .none δ'.n F2 H2 e2 r2.ex r2.fr (fun b o h1 h2 => r2.kp b o h1 fun y => h2 (by injection y with y; exact y.symm)) (r2.pot p rfl).2.2 .non z
    · exact q v x δ'.n F2 H2 e2 r2.ex r2.fr (fun b o h1 h2 => r2.kp b o h1 fun y => h2 (by injection y with y; exact y.symm)) (r2.pot p rfl).2.2 d2 z
end
/-- a def that shows things, by its name -/
structure FnH (P : Program) (w : World) (K : PySem.W.Frag) (mg : Str → Option Value) (base : Heap) (x : Str) (k : Nat) (ps : List Str) (sp : Sp) : Prop where
  ex : ∃ f fd, mg x = some (.ref f) ∧ PySem.W.keepIn K (.ref f) = true ∧ Binds K fd ps [] ∧ FnSh P w K mg base k f fd ps sp
theorem Fn.sh {P : Program} {w : World} {K : PySem.W.Frag} {mg : Str → Option Value} {base : Heap} {x : Str} {k : Nat} {ps : List Str} {sp : Sp} (h : Fn P w K mg base x k ps sp) : FnH P w K mg base x k ps sp := by
  obtain ⟨f, fd, h1, h2, h3, h4⟩ := h.ex
  exact ⟨f, fd, h1, h2, h3, FnOk.sh h4⟩
section
variable {B : B0} {X : Cx} {a b c e : Expr} {es : List Expr} {δ : St'} {Φ : PE1} {p pos pp p2 : Pos} {k k' : Nat} {ps : List Str} {x pn : Str}
/-- f(pot, e, ..), the pot a list of our own that the arguments may draw from -/
theorem de_fPoH {S : SpP} (i : Nat) {xs : List PyData} (G : FnH X.prog X.w X.K X.mg X.base x k ps (spP X.K S)) (hgd : X.A.guards = some []) (hr : Room k' X.A) (h : DA B X es δ fun ds δ' => ∃ (u v w : Int) (n : Nat), δ'.s[i]? = some (some (.own [.int u, .int v, .int w])) ∧ 0 ≤ w ∧ w ≤ (n : Int) ∧ S n ds fun y n' => ∀ u' v' w' : Int, 0 ≤ w' → w' ≤ (n' : Int) → Φ y (δ'.put i (.own [.int u', .int v', .int w']))) (hk : k ≤ k' := by decide)
    (hi : δ.s[i]? = some (some (.own xs)) := by rfl) (hN : X.N[i]? = some pn := by rfl)
    (hv : Vis X.env.scope pn := by first | exact Or.inl rfl | exact Or.inr (Or.inl rfl) | exact Or.inr (Or.inr rfl)) (hd : (pn == ("__debug__" : Str)) = false := by decide)
    (hcd : (pn == ("__classdict__" : Str)) = false := by decide) (hg : Gl X x := by rfl) (hdb : (x == ("__debug__" : Str)) = false := by decide) (he : starEach (.Name pn pp :: es) X.env = (false, eval (.Name pn pp) X.env) :: starEach es X.env := by rfl) (hpl : (backTo pos (starEach es X.env)).any (·.1) = false := by rfl) :
    DE B X (.Call (.Name x p) (.Name pn pp :: es) [] pos) δ Φ := by
  obtain ⟨f, fd, h1, h2, h3, h4⟩ := G.ex
  refine .of (pe_callSh h4 hgd (hr.mono hk) hg h1 h2 h3 .nil (pa_cons (pe_var hN hv hd hcd) pa_w he) hdb he hpl) fun σ F H r Q q => ?_
  obtain ⟨v0, hv0, a, us, rfl, hB, hF, hH, hD⟩ := r.cell i _ hi
  refine ⟨.ref a, hv0, h σ F H r _ fun vs ds δ' F' H' e1 r' d ⟨u, v, w, n, hi', hw, hn, hS⟩ => ?_⟩
  obtain ⟨v1, hv1, a1, us1, rfl, hB1, hF1, hH1, hD1⟩ := r'.cell i _ hi'
  rw [hv0] at hv1
  have : a = a1 := by injection hv1 with h1; injection h1 with h1; injection h1
  subst this
  have hus : us1 = [.int u, .int v, .int w] := by
    cases hD1 with
    | cons d1 d2 => cases d2 with
      | cons d2 d3 => cases d3 with
        | cons d3 d4 => cases d4; cases d1; cases d2; cases d3; rfl
  subst hus
  refine ⟨F', a, vs, ds, n, _, (by simp), r'.ex, hF1, num_pot hH1 hw hn, d, hS, fun y0 y n' F2 H2 q1 q2 q3 q4 q5 q6 q7 => ?_⟩
  obtain ⟨u', v', w', hw1, hw2, r2⟩ := r'.calledO hi' hv0 q1 q2 q3 q4 q5
  exact q y0 y _ F2 H2 (e1.trans q1) r2 q6 (q7 u' v' w' hw1 hw2)
/-! ### repr(e) -/
/-- it can be shown -/
structure Fit (d : PyData) : Prop where
  sh : d.showable = true
  nd : d.hasDict = false
  dp : d.depth ≤ 60
  sz : d.shown.length ≤ sizeLine
  nh : noH d = true
  rf : ∃ xs, d = .tuple xs ∨ d = .list xs
def rShow (K : PySem.W.Frag) : List V → Hp → VK → Prop := fun vs H Q => ∃ v d, vs = [v] ∧ Dp K H v d ∧ Fit d ∧ Q (.str d.shown) H
theorem cr_repr (hgd : X.A.guards = some []) (hu : X.A.units + 70 < cLine) : CallR X (.builtin "repr") (rShow X.K) := by
  intro pins s σ H vs us Q I r h
  obtain ⟨v, d, rfl, hd, ft, q⟩ := h
  obtain ⟨u, rfl, ru⟩ := vals1 r
  obtain ⟨as, rd⟩ := Dp.reads I d v u hd ru
  obtain ⟨xs, hx⟩ := ft.rf
  obtain ⟨a, rfl⟩ : ∃ a, u = Value.ref a := by
    rcases hx with rfl | rfl
    · cases hd with
      | tup _ _ => exact ⟨_, ru⟩
    · cases hd with
      | lst _ _ => exact ⟨_, ru⟩
  have hdp := ft.dp
  refine repr_of_reads' rd ft.sh (fun z => by rw [ft.nd] at z; cases z) hgd (by omega) (fun _ _ z => z) (fun h' u tk hk => ?_) ft.sz
  exact ⟨.str d.shown, H, I.kept hk, ⟨_, rfl⟩, q⟩
theorem rc_show {B : Bs} {δ : St'} {Φ : PE1} {d : PyData} (ft : Fit d) (p : Φ (.str d.shown) δ) : RC B (rShow B.K) [d] δ Φ := rc_pure (w := .str d.shown) (fun _ => .str _) (fun F H vs e hd Q q => by
  cases hd with
  | cons h1 h2 =>
    cases h2
    exact ⟨_, d, rfl, dq_dp _ _ ft.nh (dp_mono e _ _ h1), ft, q⟩) p
end
/-! ### what fits -/
theorem weightAll_le {m : Nat} : ∀ {xs : List PyData}, (∀ x ∈ xs, x.weight ≤ m) → PyData.weightAll xs ≤ (m + 1) * xs.length
  | [], _ => by simp [PyData.weightAll]
  | x :: xs, h => by
    have h1 := h x List.mem_cons_self
    have h2 := weightAll_le (xs := xs) fun y hy => h y (List.mem_cons_of_mem _ hy)
    rw [List.length_cons, Nat.mul_add, Nat.mul_one]
    simp only [PyData.weightAll]
    omega
theorem shortAll {B : Nat} : ∀ {xs : List PyData}, (∀ x ∈ xs, x.leavesShort B = true) → PyData.leavesShortAll B xs = true
  | [], _ => rfl
  | x :: xs, h => by
    simp only [PyData.leavesShortAll, Bool.and_eq_true]
    exact ⟨h x List.mem_cons_self, shortAll fun y hy => h y (List.mem_cons_of_mem _ hy)⟩
theorem showAll : ∀ {xs : List PyData}, (∀ x ∈ xs, x.showable = true) → PyData.showableAll xs = true
  | [], _ => rfl
  | x :: xs, h => by
    simp only [PyData.showableAll, Bool.and_eq_true]
    exact ⟨h x List.mem_cons_self, showAll fun y hy => h y (List.mem_cons_of_mem _ hy)⟩
theorem noDictAll : ∀ {xs : List PyData}, (∀ x ∈ xs, x.hasDict = false) → PyData.hasDictAll xs = false
  | [], _ => rfl
  | x :: xs, h => by
    simp only [PyData.hasDictAll, Bool.or_eq_false_iff]
    exact ⟨h x List.mem_cons_self, noDictAll fun y hy => h y (List.mem_cons_of_mem _ hy)⟩
theorem deepAll {m : Nat} : ∀ {xs : List PyData}, (∀ x ∈ xs, x.depth ≤ m) → PyData.depthAll xs ≤ m
  | [], _ => by simp [PyData.depthAll]
  | x :: xs, h => by
    simp only [PyData.depthAll]
    have := h x List.mem_cons_self
    have := deepAll (xs := xs) fun y hy => h y (List.mem_cons_of_mem _ hy)
    omega
theorem noHsAll : ∀ {xs : List PyData}, (∀ x ∈ xs, noH x = true) → noHs xs = true
  | [], _ => rfl
  | x :: xs, h => by
    show (noH x && noHs xs) = true
    rw [h x List.mem_cons_self, noHsAll fun y hy => h y (List.mem_cons_of_mem _ hy)]
    rfl
/-- small, to any bound -/
structure Sm (d : PyData) (wt dp : Nat) : Prop where
  sh : d.showable = true
  nd : d.hasDict = false
  dp : d.depth ≤ dp
  wt : d.weight ≤ wt
  ls : d.leavesShort 13 = true
  nh : noH d = true
theorem Sm.tup {xs : List PyData} {wt dp m : Nat} (h : ∀ x ∈ xs, Sm x wt dp) (hl : xs.length ≤ m) : Sm (.tuple xs) ((wt + 1) * m) (dp + 1) := by
  refine ⟨?_, ?_, ?_, ?_, ?_, ?_⟩
  · simp only [PyData.showable]; exact showAll fun x hx => (h x hx).sh
  · simp only [PyData.hasDict]; exact noDictAll fun x hx => (h x hx).nd
  · have := deepAll fun x hx => (h x hx).dp
    simp only [PyData.depth]
    omega
  · simp only [PyData.weight]
    exact Nat.le_trans (weightAll_le fun x hx => (h x hx).wt) (Nat.mul_le_mul_left _ hl)
  · simp only [PyData.leavesShort]; exact shortAll fun x hx => (h x hx).ls
  · show noHs xs = true
    exact noHsAll fun x hx => (h x hx).nh
theorem Sm.mono {d : PyData} {wt dp wt' dp' : Nat} (h : Sm d wt dp) (h1 : wt ≤ wt') (h2 : dp ≤ dp') : Sm d wt' dp' := ⟨h.sh, h.nd, Nat.le_trans h.dp h2, Nat.le_trans h.wt h1, h.ls, h.nh⟩
theorem Sm.fit {xs : List PyData} {wt dp : Nat} (h : Sm (.tuple xs) wt dp) (h1 : wt ≤ 1048576) (h2 : dp ≤ 60) : Fit (.tuple xs) :=
  ⟨h.sh, h.nd, Nat.le_trans h.dp h2, PyData.shown_fits (B := 13) (by decide) (by decide) h.ls (Nat.le_trans h.wt (by simpa using h1)), h.nh, xs, .inl rfl⟩
end DL

set_option maxHeartbeats 200000
set_option Elab.async false
set_option linter.all false
set_option maxRecDepth 100000
set_option maxHeartbeats 1000000
namespace DL
open PySem PySem.Spec PyProof.Rows L2
section
variable {B : Bs} {δ : St'} {ta tb : TE} {N : St' → Prop} {R : PE1}
/-- x, y = e, [..] -/
theorem ws_parO {i j : Nat} (h : WE B ta δ fun x δ1 => WL B tb δ1 fun ys δ2 => N ((δ2.put i (.d x)).put j (.own ys))) : WS B (tPar i j (tCons ta (tCons tb tNil))) δ N R := fun σ F H r D hn hr =>
  h σ F H r _ fun v x δ1 F1 H1 e1 r1 d1 p1 => p1 σ F1 H1 r1 _ fun a vs xs δ2 F2 H2 e2 r2 hB hF hH hap d p => by
    refine ⟨_, _, rfl, hn _ _ F2 H2 (e1.trans e2) ((r2.putD i (dp_mono e2 _ _ d1)).putO j (c := .own xs) (fun k c hk ho => ?_) ⟨a, vs, rfl, hB, hF, hH, d⟩) p⟩
    rcases put_get hk with ⟨rfl, rfl, _⟩ | ⟨hne, hk⟩
    · cases ho
    · rw [List.getElem?_set_ne (fun z => hne z.symm)]
      exact hap k c hk ho
end
section
variable {B : B0} {X : Cx} {a b : Expr} {δ : St'} {N : St' → Prop} {R : PE1} {px py pt pt2 pos : Pos} {kt k2 : Nat}
theorem ds_parO (i j : Nat) {x y : Str} (h : DE B X a δ fun x δ1 => DLs B X b δ1 fun ys δ2 => N ((δ2.put i (.d x)).put j (.own ys))) (hN : X.N.Nodup) (hc : X.calm = true := by rfl) (hi : X.N[i]? = some x := by rfl) (hj : X.N[j]? = some y := by rfl) (hij : i ≠ j := by decide)
    (hx : X.env.scope.names.lookup x = some .local := by rfl) (hy : X.env.scope.names.lookup y = some .local := by rfl) (hw : swappedStores [.Tuple [.Name x px, .Name y py] kt pt] (.Tuple [a, b] k2 pt2) X.env = pure (some [x, y]) := by rfl)
    (hs1 : starEach [a, b] X.env = (false, eval a X.env) :: starEach [b] X.env := by rfl) (hs2 : starEach [b] X.env = (false, eval b X.env) :: starEach [] X.env := by rfl)
    (hsw : swapsWithSole [.Tuple [.Name x px, .Name y py] kt pt] (.Tuple [a, b] k2 pt2) pos.line X.env = pure false := by rfl) :
    DS B X (.Assign [.Tuple [.Name x px, .Name y py] kt pt] (.Tuple [a, b] k2 pt2) pos) δ N R := .of (ps_par hc hN hi hj hij hx hy (pa_cons pe_w (pa_cons pe_w pa_nil hs2) hs1) hw hsw) (ws_parO h)
end
end DL

set_option maxHeartbeats 200000
set_option Elab.async false
set_option linter.all false
set_option maxRecDepth 100000
set_option maxHeartbeats 1000000
namespace DL
open PySem PySem.Spec PyProof.Rows L2
/-! ### an own exception whose __init__ keeps nothing -/
theorem end_bare {X : Cx} {pins : List (Addr × Obj)} {σ : L2.St} {H1 H2 : Hp} {Q : XK} {hp hp2 h2 : Heap} {g1 g2 : Array GenState} {d1 d2 : Drawn} {t1 t2 : Nat} {os1 os2 : OsState} {a C : Addr}
    (T : Raises X (.ref C)) (I1 : Inv X pins σ H1 ⟨hp, g1, d1, t1, os1⟩) (ha : hp.objs.size ≤ a) (k : ∀ b o, hp.get? b = some o → hp2.get? b = some o)
    (un : Un (frs X.stack) [] (upd H1 a (exo a C none)) H2 hp2 h2) (hok : HOk X.prog X.w H2 h2) (ho : os2 = os1) (hb : AllBare g2) (ea : H2 a = some (exo a C none)) (q : Q (.ref C) none (del H2 a)) :
    MkP X pins σ Q (.ref a) ⟨h2, g2, d2, t2, os2⟩ := by
  obtain ⟨t0, hoe⟩ := exo_at hok ea
  have hn := HOk.fresh I1.hok ha
  obtain ⟨G, r1, r2⟩ := restrict h2 fun b => decide (b ≠ a)
  have gk : ∀ b, b ≠ a → G.get? b = h2.get? b := fun b hb => r1 b (decide_eq_true hb)
  have ge : G.get? a = none := r2 a (by simp)
  have nha : ∀ {b : Addr} {o : Obj}, hp.get? b = some o → b ≠ a := fun z => Nat.ne_of_lt (Nat.lt_of_lt_of_le (Heap.lt_size z) ha)
  have up : ∀ {b : Addr}, b ≠ a → H1 b = none → upd H1 a (exo a C none) b = none := fun hb n => by rw [upd_ne hb]; exact n
  have some_ne : ∀ {b : Addr} {o : HO}, H1 b = some o → b ≠ a := fun z e => by rw [e, hn] at z; cases z
  have U : Un (frs X.stack) [] H1 (del H2 a) hp G := by
    refine ⟨fun b o z n hf hx => ?_, fun b o z n hf hx => ?_, fun b o z n hx => ?_, fun b o z hx => ?_, fun b xs z => ?_, fun b o v z => ?_, fun b ps z => ?_⟩
    · rw [gk b (nha z)]; exact un.keep b o (k b o z) (up (nha z) n) hf hx
    · rw [gk b (nha z)]; exact un.slot b o (k b o z) (up (nha z) n) hf hx
    · rw [del_ne (nha z)]; exact un.free b o (k b o z) (up (nha z) n) hx
    · rw [gk b (nha z)]; exact un.there b o (k b o z) hx
    · rw [del_ne (some_ne z)]; exact un.tups b xs (by rw [upd_ne (some_ne z)]; exact z)
    · rw [del_ne (some_ne z)]; exact un.frzs b o v (by rw [upd_ne (some_ne z)]; exact z)
    · rw [del_ne (some_ne z)]; exact un.tbls b ps (by rw [upd_ne (some_ne z)]; exact z)
  have hok3 : HOk X.prog X.w (del H2 a) G := fun b o z => by
    have hba : b ≠ a := fun e => by rw [e, del_same] at z; cases z
    rw [del_ne hba] at z
    have noa : ∀ {c : Addr}, H2 c = some (.own b) → c ≠ a := fun hc => at_ne ea hc exo_own
    refine ObjOk.stay (hok b o z) (fun c v hc y => ?_) (fun c hc => ?_) (fun c xs hc => ?_)
    · rw [gk c (by
        rcases hc with hc | hc
        · rw [hc]; exact hba
        · exact noa hc)]
      exact y
    · rw [del_ne (noa hc)]; exact hc
    · rw [del_ne (at_ne ea hc exo_tup)]; exact hc
  have J := Inv.call' (s' := ⟨G, g2, d2, t2, os2⟩) (ch := []) I1 ho U hok3 hb fun b z => by cases z
  refine ⟨a, _, _, ⟨G, g2, d2, t2, os2⟩, del H2 a, .ref C, none, rfl, J, fun b o z => ?_, ge, hoe, ⟨rfl, rfl⟩, rfl, rfl, del_same, rfl, hb, T, q⟩
  by_cases hba : b = a
  · have z' : G.get? b = some o := z
    rw [hba, ge] at z'; cases z'
  · rw [← gk b hba]; exact z

theorem pmk_bare {X : Cx} {e : Expr} {es : List Expr} {ta : TA} {p pos : Pos} {CX : CXT} {x : Str} {C fI : Addr} {k : Nat} {fd : FuncData} {ps : List Str} {sp : Sp}
    (T : OexC X.K C) (iC : PySem.W.findIn X.K (.ref C) "__init__" = some (some (.ref fI))) (tI : PySem.W.typeIn X.K (.ref fI) = some (.type "function")) (F1 : FnOk X.prog X.w X.K X.mg X.base CX k fI fd ps sp)
    (hr : Room (k + 1) X.A) (hb : Binds X.K fd ps []) (hx : Passes CX X fun _ _ _ => False) (hg : Gl X x) (hm : X.mg x = some (.ref C)) (ha : PA X (e :: es) ta)
    (hdb : (x == ("__debug__" : Str)) = false := by decide) (he : starEach (e :: es) X.env = (false, eval e X.env) :: starEach es X.env := by rfl) (hpl : (backTo pos (starEach es X.env)).any (·.1) = false := by rfl) :
    PMk X (.Call (.Name x p) (e :: es) [] pos) (fun σ H Q => ta σ H fun vs H1 => vs.length ≤ 1000 ∧ ∀ a, H1 a = none → sp (.ref a :: vs) (upd H1 a (exo a C none)) (fun v H2 => v = .non ∧ H2 a = some (exo a C none) ∧ Q (.ref C) none (del H2 a)) fun _ _ _ => False) := by
  intro pins s σ H Q I h
  obtain ⟨nm, q, N, bs, bm, sn, sub, ab, col, dd, k0, k1, k2, k3, k5, hC, hbm⟩ := T.cls
  refine wpAny_Call_Name_kw (ld_glob I hg hm (PySem.W.callWith_K I.ok.mod.kin T.kC (thn (ha.run pos pins s σ H _ I h) fun us s1 x => ?_) he hpl) hdb)
  obtain ⟨vs, H1, I1, r1, hz, q1⟩ := x
  refine ⟨I1.kIn, ?_⟩
  obtain ⟨hp, g, dr, tk, os⟩ := s1
  have hsz := Nat.le_succ hp.objs.size
  have hn := HOk.fresh I1.hok hsz
  have hq := q1 (hp.objs.size + 1) hn
  have kk : ∀ b o, hp.get? b = some o → ((hp.push (PySem.W.kdv_tup us)).push (HandSPX.excO C hp.objs.size)).get? b = some o := fun b o e => Heap.get?_push_of_some _ (Heap.get?_push_of_some _ e)
  have hget : ((hp.push (PySem.W.kdv_tup us)).push (HandSPX.excO C hp.objs.size)).get? (hp.objs.size + 1) = some (HandSPX.excO C hp.objs.size) := Heap.get?_push_at (by rw [Heap.size_push]) rfl
  have I2 := Inv.laid (t' := tk) I1 kk hsz (exo_ok hget)
  have r2 : Vals (V.ref (hp.objs.size + 1) :: vs) (Value.ref (hp.objs.size + 1) :: us) := Paired.cons rfl r1
  have hl : (Value.ref (hp.objs.size + 1) :: us).length = ps.length := by
    have := F1.len _ _ _ _ hq
    rw [← r2.length]; exact this
  have hus : us.length ≤ sizeLine := by
    have := r1.length
    rw [sizeLine_eq]; omega
  refine wpAny_call (HandSPX.call_own PySem.F.excBase_ValueError (fun Y => HandSPX.refsVE_contains Y bm hbm) (I1.kIn C _ hC) (PySem.W.looks_findIn I1.kIn iC) (fun self => PySem.W.bind_fn I1.kIn self tI) hus
    (codeAny_mono (F1.run (X.A.under (Code.builtin "type.__call__" ⟨.ref C :: us, []⟩)) X.stack ⟨(hp.push (PySem.W.kdv_tup us)).push (HandSPX.excO C hp.objs.size), g, dr, tk, os⟩ _ ⟨.ref (hp.objs.size + 1) :: us, []⟩ (.ref (hp.objs.size + 1) :: us) _ _ _ (hr.make C us []) (I2.env0.make C us []) (by simpa using hb _ _ I2.kIn (by simpa using hl)) r2 hq) fun r s' hq' => ?_))
  cases r with
  | error er => exact hx pins σ _ _ er s' I2 hq'
  | ok fl => cases fl with
    | ret u =>
      obtain ⟨v, H2, os2, bare2, un2, hok2, rv, ev, ea, q2⟩ := hq'
      subst ev
      obtain ⟨h2, g2, d2, t2, os'⟩ := s'
      exact ⟨rv, end_bare (raises_own T.exC T.tyC) I1 hsz kk un2 hok2 os2 bare2 ea q2⟩
    | _ => exact hq'.elim
end DL

set_option maxHeartbeats 200000
set_option Elab.async false
set_option linter.all false
set_option maxRecDepth 100000
set_option maxHeartbeats 1000000
namespace DL
open PySem PySem.Spec PyProof.Rows L2
/-! ### refusals: what is raised, by data -/
/-- with what arguments, what it tells, with which class it refuses -/
abbrev SpDX := List PyData → (PyData → Prop) → (Value → Prop) → Prop
def spDX (K : PySem.W.Frag) (S : SpDX) : Sp := fun vs H Q E => ∃ F ds Φ Ξ, Same F H ∧ DqAll K F vs ds ∧ S ds Φ Ξ ∧
  (∀ v y F' H', Same F F' → Same F' H' → (∀ b, F b = none → H b ≠ none → F' b = none) → (∀ b o, H b = some o → H' b = some o) → Dq K F' v y → Φ y → Q v H') ∧
  ∀ cls d F' H', Same F F' → Same F' H' → (∀ b, F b = none → H b ≠ none → F' b = none) → (∀ b o, H b = some o → H' b = some o) → Ξ cls → E cls d H'
/-- what may be raised here, and at which state -/
def TakesD (B : B0) (X : Cx) (Ξ : Value → St' → Prop) : Prop := ∃ W : WX, Takes X W ∧ ∀ cls d δ σ F H, Rep (bs X B) δ σ F H → Ξ cls δ → W cls d σ H
theorem TakesD.mono {B : B0} {X : Cx} {Ξ Ξ' : Value → St' → Prop} (h : TakesD B X Ξ) (f : ∀ c δ, Ξ' c δ → Ξ c δ) : TakesD B X Ξ' := by
  obtain ⟨W, h1, h2⟩ := h
  exact ⟨W, h1, fun cls d δ σ F H r x => h2 cls d δ σ F H r (f _ _ x)⟩
structure FnX (P : Program) (w : World) (K : PySem.W.Frag) (mg : Str → Option Value) (base : Heap) (x : Str) (k : Nat) (ps : List Str) (sp : Sp) : Prop where
  ex : ∃ f fd, mg x = some (.ref f) ∧ PySem.W.keepIn K (.ref f) = true ∧ Binds K fd ps [] ∧ FnOk P w K mg base (L2.CX P w) k f fd ps sp
abbrev bodyXX (P : Program) (w : World) (K : PySem.W.Frag) (mg : Str → Option Value) (base : Heap) (N : List Str) (qual : Str) (sc : Scope) (f : Addr) (cdv : Value) (A : Around) (outer : List Env) (s : Shared) (H : Hp) (E : XK) : Cx :=
  cxOf (L2.CX P w) P w K mg base N qual sc f cdv A outer s H E
section
variable {P : Program} {w : World} {K : PySem.W.Frag} {mg : Str → Option Value} {base : Heap} {x qual : Str} {st : Stmt} {f : Addr} {fd : FuncData} {N ps : List Str} {k : Nat}
theorem fnDX {S : SpDX} {dvs : List V} {kws : List (Str × V)} (F : FunD K x qual (defArgs st) (defBody st) (defScope st) dvs kws f fd) (sc : FnScope N ps (defScope st)) (len : ∀ ds Φ Ξ, S ds Φ Ξ → ds.length = ps.length)
    (body : ∀ (B : B0) (cdv : Value) (A : Around) (outer : List Env) (s : Shared) (H : Hp) (E : XK) (ds : List PyData) (Φ : PyData → Prop) (Ξ : Value → Prop), Room k (A.deeper (envOfC qual (defScope st) s.heap.objs.size f cdv)) → B.p = none → S ds Φ Ξ →
      TakesD B (bodyXX P w K mg base N qual (defScope st) f cdv A outer s H E) (fun cls _ => Ξ cls) →
      DSs B (bodyXX P w K mg base N qual (defScope st) f cdv A outer s H E) (defBody st) (ini N (ds.map C.d) 0) (fun _ => Φ .none) fun x _ => Φ x) : FnOk P w K mg base (L2.CX P w) (k + 1) f fd ps (spDX K S) := by
  refine F.ok sc (fun vs H Q E h => ?_) (fun cdv A outer s H vs Q E hr h => ?_)
  · obtain ⟨F', ds, Φ, Ξ, _, hd, hS, _⟩ := h
    rw [dpAll_len hd]; exact len ds Φ Ξ hS
  · obtain ⟨F', ds, Φ, Ξ, e, hd, hS, q, qx⟩ := h
    refine ⟨_, pss_w, ?_⟩
    have tk : TakesD ⟨F', H, none, none⟩ (bodyXX P w K mg base N qual (defScope st) f cdv A outer s H E) (fun cls _ => Ξ cls) := by
      refine ⟨fun cls d _ H => E cls d H, takes_of rfl rfl rfl rfl, fun cls d δ σ F2 H2 r2 z => ?_⟩
      exact qx cls d F2 H2 r2.f0 r2.ex r2.fr (fun b o z => r2.kp b o z (fun y => by cases y)) z
    refine body ⟨F', H, none, none⟩ cdv A outer s H E ds Φ Ξ hr rfl hS tk (L2.start N vs) F' H (rep_iniD e hd) _ (fun δ' σ' F2 H2 e2 r2 p => ?_) fun v x δ' σ' F2 H2 e2 r2 d2 p => ?_
    · exact q .non .none F2 H2 e2 r2.ex r2.fr (fun b o z => r2.kp b o z (fun y => by cases y)) .non p
    · exact q v x F2 H2 e2 r2.ex r2.fr (fun b o z => r2.kp b o z (fun y => by cases y)) d2 p
end
section
variable {B : B0} {X : Cx} {a b c e : Expr} {es : List Expr} {δ : St'} {Φ : PE1} {p pos pp p2 : Pos} {k k' : Nat} {ps : List Str} {x pn : Str}
/-- f(e, ..), of a def that may refuse -/
theorem de_fX {S : SpDX} {Ξ : Value → St' → Prop} (G : FnX X.prog X.w X.K X.mg X.base x k ps (spDX X.K S)) (tk : TakesD B X Ξ) (hr : Room k' X.A) (h : DA B X (e :: es) δ fun ds δ' => S ds (fun y => Φ y δ') fun cls => Ξ cls δ') (hk : k ≤ k' := by decide)
    (hg : Gl X x := by rfl) (hdb : (x == ("__debug__" : Str)) = false := by decide) (he : starEach (e :: es) X.env = (false, eval e X.env) :: starEach es X.env := by rfl) (hpl : (backTo pos (starEach es X.env)).any (·.1) = false := by rfl) :
    DE B X (.Call (.Name x p) (e :: es) [] pos) δ Φ := by
  obtain ⟨W, hT, hW⟩ := tk
  obtain ⟨f, fd, h1, h2, h3, h4⟩ := G.ex
  refine .of (pe_callS h4 (hr.mono hk) hg h1 h2 h3 (fun σ => passAt hT σ) pa_w hdb he hpl) fun σ F H r Q q => h σ F H r _ fun vs ds δ' F' H' e1 r' d hS => ?_
  exact ⟨F', ds, _, _, r'.ex, d, hS, fun v y F2 H2 q1 q2 q3 q4 q5 q6 => q v y δ' F2 H2 (e1.trans q1) (r'.called q1 q2 q3 q4) q5 q6, fun cls d F2 H2 q1 q2 q3 q4 q5 => hW cls d δ' σ F2 H2 (r'.called q1 q2 q3 q4) q5⟩
end
/-! ### raise NoX("..") -/
def spIni (K : PySem.W.Frag) : Sp := fun vs H Q _ => ∃ a C m, vs = [V.ref a, .str m] ∧ OexC K C ∧ H a = some (exo a C none) ∧ Q .non H
/-- a class whose __init__ only hands the text on -/
structure OwnX (P : Program) (w : World) (K : PySem.W.Frag) (mg : Str → Option Value) (base : Heap) (x : Str) (C : Addr) : Prop where
  T : OexC K C
  m : mg x = some (.ref C)
  ini : ∃ fI fd, PySem.W.findIn K (.ref C) "__init__" = some (some (.ref fI)) ∧ PySem.W.typeIn K (.ref fI) = some (.type "function") ∧ Binds K fd ["self", "text"] [] ∧ FnOk P w K mg base CX0 1 fI fd ["self", "text"] (spIni K)
section
variable {B : B0} {X : Cx} {δ : St'} {N : St' → Prop} {R : PE1} {p p2 pos pos' : Pos} {x : Str} {m : Str} {j : Nat} {C : Addr} {Ξ : Value → St' → Prop}
theorem ds_raise (O : OwnX X.prog X.w X.K X.mg X.base x C) (tk : TakesD B X Ξ) (hr : Room 2 X.A) (h : Ξ (.ref C) δ) (hc : X.calm = true := by rfl) (hg : Gl X x := by rfl) (hdb : (x == ("__debug__" : Str)) = false := by decide)
    (he : starEach [.Constant (.str m) j p2] X.env = (false, eval (.Constant (.str m) j p2) X.env) :: starEach [] X.env := by rfl) (hpl : (backTo pos (starEach [] X.env)).any (·.1) = false := by rfl) :
    DS B X (.Raise (some (.Call (.Name x p) [.Constant (.str m) j p2] [] pos)) none pos') δ N R := by
  obtain ⟨W, hT, hW⟩ := tk
  obtain ⟨fI, fd, i1, i2, i3, i4⟩ := O.ini
  refine .of (ps_raise hc hT (pmk_bare O.T i1 i2 i4 hr i3 pass0 hg O.m (pa_cons pe_str pa_nil he) hdb he hpl)) fun σ F H r D hn hr => ?_
  refine ⟨by simp, fun a ha => ⟨a, C, m, rfl, O.T, upd_same, rfl, upd_same, ?_⟩⟩
  have : del (upd H a (exo a C none)) a = H := by
    funext b
    by_cases hb : b = a
    · rw [hb, del_same, ha]
    · rw [del_ne hb, upd_ne hb]
  rw [this]
  exact hW _ none δ σ F H r h
end
end DL

set_option maxHeartbeats 200000
set_option Elab.async false
set_option linter.all false
set_option maxRecDepth 100000
set_option maxHeartbeats 1000000
namespace DL
open PySem PySem.Spec PyProof.Rows L2
/-! ### try: .. except NoX: .. -/
/-- the same, later on -/
structure Later (B B1 : B0) : Prop where
  F : Same B.F B1.F
  H : B1.H = B.H
  p : B1.p = B.p
  m : B1.m = B.m
  fr : ∀ b, B.F b = none → B.H b ≠ none → B1.F b = none
theorem Rep.toLater {w : World} {K : PySem.W.Frag} {B : B0} {δ : St'} {σ : List (Option V)} {F H : Hp} (r : Rep ⟨B, w, K⟩ δ σ F H) : Later B ⟨F, B.H, B.p, B.m⟩ ∧ Rep ⟨⟨F, B.H, B.p, B.m⟩, w, K⟩ δ σ F H := by
  refine ⟨⟨r.f0, rfl, rfl, rfl, r.fr⟩, r.ex, Same.refl F, fun b h _ => h, r.kp, fun a h => ⟨r.potF h, (r.pot a h).2⟩, fun i c h => ?_, r.len, r.ap⟩
  obtain ⟨v, hv, hc⟩ := r.cell i c h
  refine ⟨v, hv, ?_⟩
  cases c <;> exact hc
theorem Rep.ofLater {w : World} {K : PySem.W.Frag} {B B1 : B0} (u : Later B B1) {δ : St'} {σ : List (Option V)} {F H : Hp} (hp : ∀ a, B.p = some a → B.F a = none) (r : Rep ⟨B1, w, K⟩ δ σ F H) : Rep ⟨B, w, K⟩ δ σ F H := by
  refine ⟨r.ex, u.F.trans r.f0, fun b h1 h2 => r.fr b (u.fr b h1 h2) (by show B1.H b ≠ none; rw [u.H]; exact h2), fun b o h1 h2 => r.kp b o (by show B1.H b = some o; rw [u.H]; exact h1) (by show B1.p ≠ some b; rw [u.p]; exact h2), fun a h => ?_, fun i c h => ?_, r.len, r.ap⟩
  · have q := r.pot a (by show B1.p = some a; rw [u.p]; exact h)
    exact ⟨hp a h, by have := q.2.1; rw [u.H] at this; exact this, (show PotAt B.m H a δ.n from u.m ▸ q.2.2)⟩
  · obtain ⟨v, hv, hc⟩ := r.cell i c h
    refine ⟨v, hv, ?_⟩
    cases c with
    | d x => exact hc
    | own xs =>
      obtain ⟨a, us, h1, h2, h3⟩ := hc
      exact ⟨a, us, h1, by rw [u.H] at h2; exact h2, h3⟩
    | dct kvs =>
      obtain ⟨a, us, h1, h2, h3⟩ := hc
      exact ⟨a, us, h1, by rw [u.H] at h2; exact h2, h3⟩
    | iset ls =>
      obtain ⟨a, h1, h2, h3⟩ := hc
      exact ⟨a, h1, by rw [u.H] at h2; exact h2, h3⟩
    | pot =>
      obtain ⟨a, h1, h2, h3⟩ := hc
      exact ⟨a, h1, u.p.symm.trans h2, u.m.symm.trans h3⟩
    | bor =>
      obtain ⟨a, h1, h2, h3⟩ := hc
      exact ⟨a, h1, u.p.symm.trans h2, fun z => h3 (u.m.trans z)⟩
theorem TakesD.none {B : B0} {X : Cx} : TakesD B X fun _ _ => False :=
  ⟨fun _ _ _ _ => False, fun u s' h => by
    obtain ⟨_, _, _, _, _, _, _, _, _, _, _, _, _, _, _, _, f⟩ := h
    exact f.elim, fun _ _ _ _ _ _ _ z => z⟩
section
variable {B : B0} {X : Cx} {δ : St'} {N : St' → Prop} {R : PE1} {np pos pos' : Pos} {x : Str} {c : Value} {body suite : List Stmt} {b₀ : Stmt} {Ξ Ξo : Value → St' → Prop}
theorem ds_try (hnm : Names X x c) (tk : TakesD B X Ξo)
    (hb : ∀ (B1 : B0) (pn : List (Addr × Obj)) (xe : Value → Shared → Prop), Later B B1 → TakesD B1 (X.tr pn xe) Ξ → DSs B1 (X.tr pn xe) body δ N R)
    (hm : ∀ cls δ', Ξ cls δ' → (PySem.W.exmOne X.K cls c = some true ∧ ∀ a pn, DSs B (X.suite a pn) (b₀ :: suite) δ' N R) ∨ (PySem.W.exmOne X.K cls c = some false ∧ Ξo cls δ'))
    (hs : X.stack = X.env :: X.outer := by rfl) (hf : X.env.frame = some X.env.locals := by rfl) :
    DS B X (.Try body [.ExceptHandler (some (.Name x np)) none (b₀ :: suite) pos'] [] [] pos) δ N R := by
  obtain ⟨Wout, hT, hW⟩ := tk
  refine .of (ps_try_only (tb := fun W D σ H => ∀ pn xe, Takes (X.tr pn xe) W → PassesOwn (model X.prog X.w) X.A X.env xe → wSs (X.tr pn xe) body D σ H)
    (ts := fun a cls d D σ H => ∀ oe pn, Zc cls d oe → (∃ vs, oe.data = Data.fields vs) → wSs (X.suite a ((a, oe) :: pn)) (b₀ :: suite) D σ H) hs hf hnm hT
    (fun W pn xe t po => ⟨fun pins s σ H D I h => (pss_w (X := X.tr pn xe)).run pins s σ H D I (h pn xe t po)⟩)
    (fun a oe cls d pn z hv => ⟨fun pins s σ H D I h => (pss_w (X := X.suite a ((a, oe) :: pn))).run pins s σ H D I (h oe pn z hv)⟩)) fun σ F H r D hn hr => ?_
  intro pn xe t po
  obtain ⟨u, r1⟩ := r.toLater
  have hp : ∀ a, B.p = some a → B.F a = Option.none := fun a h => (r.pot a h).1
  refine hb _ pn xe u ⟨_, t, fun cls d δ' σ' F' H' r' z => ?_⟩ σ F H r1 D (fun δ' σ' F' H' e r' p => hn δ' σ' F' H' e (Rep.ofLater u hp r') p) fun v y δ' σ' F' H' e r' d p => hr v y δ' σ' F' H' e (Rep.ofLater u hp r') d p
  have r2 := Rep.ofLater u hp r'
  rcases hm cls δ' z with ⟨m1, hsu⟩ | ⟨m2, ho⟩
  · refine ⟨true, m1, fun _ a ha oe pn2 z2 hv => ?_, fun h => by cases h⟩
    exact hsu a ((a, oe) :: pn2) σ' F' H' r2 D (fun δ2 σ2 F2 H2 e r3 p => hn δ2 σ2 F2 H2 (r'.f0.trans e) r3 p) fun v y δ2 σ2 F2 H2 e r3 d3 p => hr v y δ2 σ2 F2 H2 (r'.f0.trans e) r3 d3 p
  · exact ⟨false, m2, fun h => (by cases h), fun _ => hW cls d δ' σ' F' H' r2 ho⟩
end
end DL

set_option maxHeartbeats 200000
set_option Elab.async false
set_option linter.all false
set_option maxRecDepth 100000
set_option maxHeartbeats 1000000
namespace DL
open PySem PySem.Spec PyProof.Rows L2
section
variable {B : Bs} {δ : St'} {Φ : PE1} {te th tl : TE}
theorem we_slTo {r : V → Option Int → Option Int → Hp → VK → Prop} (h : WE B te δ fun x δ1 => WE B th δ1 fun y δ2 => ∃ i : Int, y = .int i ∧ RU B (fun v H Q => r v none (some i) H Q) x δ2 Φ) : WE B (tSl r te tNoPart (tPart th)) δ Φ := fun σ F H rp Q q =>
  h σ F H rp _ fun v x δ1 F1 H1 e1 r1 d1 p1 => p1 σ F1 H1 r1 _ fun u y δ2 F2 H2 e2 r2 d2 ⟨i, hy, p2⟩ => by
    subst hy
    cases d2
    exact ⟨i, rfl, p2 σ F2 H2 r2 v (dp_mono e2 _ _ d1) Q fun v' x' δ' F' H' e' r' d' p' => q v' x' δ' F' H' ((e1.trans e2).trans e') r' d' p'⟩
theorem we_slFrom {r : V → Option Int → Option Int → Hp → VK → Prop} (h : WE B te δ fun x δ1 => WE B tl δ1 fun y δ2 => ∃ i : Int, y = .int i ∧ RU B (fun v H Q => r v (some i) none H Q) x δ2 Φ) : WE B (tSl r te (tPart tl) tNoPart) δ Φ := fun σ F H rp Q q =>
  h σ F H rp _ fun v x δ1 F1 H1 e1 r1 d1 p1 => p1 σ F1 H1 r1 _ fun u y δ2 F2 H2 e2 r2 d2 ⟨i, hy, p2⟩ => by
    subst hy
    cases d2
    exact ⟨i, rfl, p2 σ F2 H2 r2 v (dp_mono e2 _ _ d1) Q fun v' x' δ' F' H' e' r' d' p' => q v' x' δ' F' H' ((e1.trans e2).trans e') r' d' p'⟩
/-- (..) + (..) -/
theorem rd_catT {xs ys : List PyData} (hl : xs.length + ys.length ≤ 100000) (p : Φ (.tuple (xs ++ ys)) δ) : RD B (rCatA B.K) (.tuple xs) (.tuple ys) δ Φ := fun σ F H r v u d1 d2 Q q => by
  cases d1 with
  | tup hs ha =>
    cases d2 with
    | tup hs2 ha2 =>
      rename_i us _ _ us2
      have l1 := dpAll_len ha
      have l2 := dpAll_len ha2
      refine ⟨_, _, _, _, rfl, rfl, seqT r.ex hs, seqT r.ex hs2, Nat.le_trans (by omega) (by decide : 100000 ≤ sizeLine), fun e => ?_, fun e1 e2 => ?_, fun e1 e2 l hl => ?_⟩
      · subst e
        cases ha
        exact q _ _ δ F H (Same.refl F) r (.tup hs2 ha2) p
      · subst e2
        cases ha2
        rw [List.append_nil] at p
        exact q _ _ δ F H (Same.refl F) r (.tup hs ha) p
      · obtain ⟨F2, k1, k2, _, _, k5⟩ := r.newT hl (dpAll_app ha ha2)
        exact q _ _ δ F2 _ k1 k2 k5 p
end
section
variable {B : B0} {X : Cx} {a e : Expr} {δ : St'} {Φ : PE1} {pos p2 : Pos}
/-- a[:e], a[e:] -/
theorem de_slTo {r : V → Option Int → Option Int → Hp → VK → Prop} (hr : SlR X r) (h : DE B X a δ fun x δ1 => DE B X e δ1 fun y δ2 => ∃ i : Int, y = .int i ∧ RU (bs X B) (fun v H Q => r v none (some i) H Q) x δ2 Φ) : DE B X (.Subscript a (.Slice none (some e) none p2) pos) δ Φ :=
  .of (pe_slice hr pe_w po_none (po_some pe_w)) (we_slTo h)
theorem de_slFrom {r : V → Option Int → Option Int → Hp → VK → Prop} (hr : SlR X r) (h : DE B X a δ fun x δ1 => DE B X e δ1 fun y δ2 => ∃ i : Int, y = .int i ∧ RU (bs X B) (fun v H Q => r v (some i) none H Q) x δ2 Φ) : DE B X (.Subscript a (.Slice (some e) none none p2) pos) δ Φ :=
  .of (pe_slice hr pe_w (po_some pe_w) po_none) (we_slFrom h)
end
end DL

set_option maxHeartbeats 200000
set_option Elab.async false
set_option linter.all false
set_option maxRecDepth 100000
set_option maxHeartbeats 1000000
namespace DL
open PySem PySem.Spec PyProof.Rows L2
/-! ### dicts that nobody else has -/
def keyD : L2.Key → PyData
  | .inl i => .int i
  | .inr x => .str x
def getD' (kvs : List (L2.Key × PyData)) (k : L2.Key) : Option PyData := (kvs.find? fun kv => decide (kv.1 = k)).map (·.2)
def putD (kvs : List (L2.Key × PyData)) (k : L2.Key) (x : PyData) : List (L2.Key × PyData) := if (kvs.any fun kv => decide (kv.1 = k)) = true then kvs.map (fun kv => if kv.1 = k then (kv.1, x) else kv) else kvs ++ [(k, x)]
theorem keyD_v {K : PySem.W.Frag} {H : Hp} {v : V} {k : L2.Key} (h : Dq K H v (keyD k)) : v = kV k := by
  cases k <;> (cases h; rfl)
theorem get_v {K : PySem.W.Frag} {F : Hp} : ∀ {kvs : List (L2.Key × PyData)} {vs : List V} (_ : DqAll K F vs (kvs.map (·.2))) (k : L2.Key), (∀ x, getD' kvs k = some x → ∃ v, valV ((kvs.map (·.1)).zip vs) k = some v ∧ Dq K F v x) ∧ (getD' kvs k = none → valV ((kvs.map (·.1)).zip vs) k = none)
  | [], vs, h, k => by
    cases h
    exact ⟨fun x e => (by cases e), fun _ => rfl⟩
  | kv :: kvs, vs, h, k => by
    cases h with
    | cons h1 h2 =>
      rename_i v vs'
      have ih := get_v h2 k
      unfold getD' valV at *
      simp only [List.map_cons, List.zip_cons_cons, List.find?_cons]
      by_cases e : kv.1 = k
      · rw [decide_eq_true e]
        exact ⟨fun x hx => ⟨v, rfl, (by cases hx; exact h1)⟩, fun z => (by cases z)⟩
      · rw [decide_eq_false e]
        exact ih
theorem put_v {K : PySem.W.Frag} {F : Hp} {v : V} {x : PyData} {k : L2.Key} (hv : Dq K F v x) : ∀ {kvs : List (L2.Key × PyData)} {vs : List V}, DqAll K F vs (kvs.map (·.2)) → ∃ vs', putK ((kvs.map (·.1)).zip vs) k v = ((putD kvs k x).map (·.1)).zip vs' ∧ DqAll K F vs' ((putD kvs k x).map (·.2)) := fun {kvs vs} h => by
  have hany : (((kvs.map (·.1)).zip vs).any fun kv => decide (kv.1 = k)) = kvs.any fun kv => decide (kv.1 = k) := by
    induction kvs generalizing vs with
    | nil => simp
    | cons kv kvs ih =>
      cases h with
      | cons h1 h2 =>
        simp only [List.map_cons, List.zip_cons_cons, List.any_cons]
        rw [ih h2]
  unfold putK putD
  rw [hany]
  by_cases hc : (kvs.any fun kv => decide (kv.1 = k)) = true
  · rw [if_pos hc, if_pos hc]
    clear hany hc
    induction kvs generalizing vs with
    | nil => cases h; exact ⟨[], rfl, .nil⟩
    | cons kv kvs ih =>
      cases h with
      | cons h1 h2 =>
        rename_i u us
        obtain ⟨vs', e1, e2⟩ := ih h2
        simp only [List.map_cons, List.zip_cons_cons]
        by_cases e : kv.1 = k
        · refine ⟨v :: vs', ?_, ?_⟩
          · rw [if_pos e, if_pos e, e1]; rfl
          · rw [if_pos e]; exact .cons hv e2
        · refine ⟨u :: vs', ?_, ?_⟩
          · rw [if_neg e, if_neg e, e1]; rfl
          · rw [if_neg e]; exact .cons h1 e2
  · rw [if_neg hc, if_neg hc]
    refine ⟨vs ++ [v], ?_, ?_⟩
    · rw [List.map_append, List.zip_append (by rw [dpAll_len h]; simp)]
      rfl
    · rw [List.map_append]
      exact dpAll_app h (.cons hv .nil)
section
variable {B : B0} {X : Cx} {e i' : Expr} {δ : St'} {Φ : PE1} {pp pos p2 : Pos} {pn : Str} {kvs : List (L2.Key × PyData)}
/-- d[e] -/
theorem de_dget (i : Nat) (hu : X.A.units + 1 < cLine) (h : DE B X e δ fun y δ' => ∃ (kvs : List (L2.Key × PyData)) (k : L2.Key) (x : PyData), y = keyD k ∧ δ'.s[i]? = some (some (.dct kvs)) ∧ getD' kvs k = some x ∧ Φ x δ') (hi : δ.s[i]? = some (some (.dct kvs)) := by rfl) (hN : X.N[i]? = some pn := by rfl)
    (hv : Vis X.env.scope pn := by first | exact Or.inl rfl | exact Or.inr (Or.inl rfl) | exact Or.inr (Or.inr rfl)) (hd : (pn == ("__debug__" : Str)) = false := by decide) (hcd : (pn == ("__classdict__" : Str)) = false := by decide) (hs : NoSl e := by exact fun _ _ => rfl) :
    DE B X (.Subscript (.Name pn pp) e pos) δ Φ := .of (pe_dget hu (pe_var hN hv hd hcd) pe_w hs) fun σ F H r Q q => by
  obtain ⟨u, hu', a, us, rfl, hB, hF, hH, hdd⟩ := r.cell i _ hi
  refine ⟨.ref a, hu', h σ F H r _ fun w y δ' F' H' e1 r' dw ⟨kvs', k, x, hy, hi2, hg, p⟩ => ?_⟩
  subst hy
  obtain ⟨u2, hu2, a2, us2, rfl, hB2, hF2, hH2, hdd2⟩ := r'.cell i _ hi2
  rw [hu'] at hu2
  have : a = a2 := by injection hu2 with h1; injection h1 with h1; injection h1
  subst this
  obtain ⟨v, hv1, hv2⟩ := (get_v hdd2 k).1 x hg
  exact ⟨a, v, rfl, .inl ⟨_, k, .inl hH2, keyD_v dw, hv1.symm⟩, q v x δ' F' H' e1 r' hv2 p⟩
variable {N : St' → Prop} {R : PE1} {e2 : Expr}
/-- e not in d -/
theorem dt_dnotin (i : Nat) {Ψ : Bool → St' → Prop} (hu : X.A.units + 1 < cLine) (h : DE B X e δ fun y δ' => ∃ (kvs : List (L2.Key × PyData)) (k : L2.Key), y = keyD k ∧ δ'.s[i]? = some (some (.dct kvs)) ∧ Ψ (!(getD' kvs k).isSome) δ') (hi : δ.s[i]? = some (some (.dct kvs)) := by rfl) (hN : X.N[i]? = some pn := by rfl)
    (hv : Vis X.env.scope pn := by first | exact Or.inl rfl | exact Or.inr (Or.inl rfl) | exact Or.inr (Or.inr rfl)) (hd : (pn == ("__debug__" : Str)) = false := by decide) (hcd : (pn == ("__classdict__" : Str)) = false := by decide) (hm : behindInMarks CmpOp.NotIn (.Name pn pp) = false := by rfl) :
    DT B X (.Compare e [.NotIn] [.Name pn pp] pos) δ Ψ := .of (pt_cmp (pc_dnotin hu pe_w (pe_var hN hv hd hcd)) hm) fun σ F H r Q q => by
  obtain ⟨u, hu', a, us, rfl, hB, hF, hH, hdd⟩ := r.cell i _ hi
  refine h σ F H r _ fun w y δ' F' H' e1 r' dw ⟨kvs', k, hy, hi2, p⟩ => ?_
  subst hy
  obtain ⟨u2, hu2, a2, us2, rfl, hB2, hF2, hH2, hdd2⟩ := r'.cell i _ hi2
  rw [hu'] at hu2
  have : a = a2 := by injection hu2 with h1; injection h1 with h1; injection h1
  subst this
  have key : (valV ((kvs'.map (·.1)).zip us2) k).isSome = (getD' kvs' k).isSome := by
    obtain ⟨g1, g2⟩ := get_v hdd2 k
    cases eg : getD' kvs' k with
    | none => rw [g2 eg]; rfl
    | some x =>
      obtain ⟨v, hv1, _⟩ := g1 x eg
      rw [hv1]
      rfl
  refine ⟨.ref a, hu', a, _, rfl, .inl ⟨_, k, .inl hH2, keyD_v dw, rfl⟩, ?_⟩
  refine ⟨_, rfl, ?_⟩
  rw [key]
  exact q _ δ' F' H' e1 r' p
/-- d[e] = e2 -/
theorem ds_dput (i : Nat) (hu : X.A.units + 1 < cLine) (h : DE B X e2 δ fun x δ1 => DE B X e δ1 fun y δ2 => ∃ (kvs : List (L2.Key × PyData)) (k : L2.Key), y = keyD k ∧ δ2.s[i]? = some (some (.dct kvs)) ∧ kvs.length ≤ 1000 ∧ N (δ2.put i (.dct (putD kvs k x)))) (hi : δ.s[i]? = some (some (.dct kvs)) := by rfl) (hN : X.N[i]? = some pn := by rfl)
    (hv : Vis X.env.scope pn := by first | exact Or.inl rfl | exact Or.inr (Or.inl rfl) | exact Or.inr (Or.inr rfl)) (hd : (pn == ("__debug__" : Str)) = false := by decide) (hcd : (pn == ("__classdict__" : Str)) = false := by decide) (hs : swapsWith e2 (some (.Subscript (.Name pn pp) e p2)) pos.line X.env = pure false := by rfl) :
    DS B X (.Assign [.Subscript (.Name pn pp) e p2] e2 pos) δ N R := .of (ps_dput hu (pe_var hN hv hd hcd) pe_w pe_w hs) fun σ F H r D hn hr => h σ F H r _ fun v x δ1 F1 H1 e1 r1 d p => by
  obtain ⟨u, hu', a, us, rfl, hB, hF, hH, hdd⟩ := r.cell i _ hi
  refine ⟨.ref a, hu', p σ F1 H1 r1 _ fun w y δ2 F2 H2 e2' r2 dw ⟨kvs', k, hy, hi2, hl, q⟩ => ?_⟩
  subst hy
  obtain ⟨u2, hu2, a2, us2, rfl, hB2, hF2, hH2, hdd2⟩ := r2.cell i _ hi2
  rw [hu'] at hu2
  have : a = a2 := by injection hu2 with h1; injection h1 with h1; injection h1
  subst this
  obtain ⟨vs', g1, g2⟩ := put_v (k := k) (dp_mono e2' _ _ d) hdd2
  refine ⟨a, _, rfl, .inl ⟨_, k, hH2, keyD_v dw, ?_, rfl⟩, ?_⟩
  · rw [sizeLine_eq, List.length_zip, List.length_map]
    omega
  · rw [g1]
    exact hn _ σ F2 _ (e1.trans e2') (r2.write (c2 := .dct (putD kvs' k x)) hi2 rfl hu' hB2 hF2 rfl ⟨a, vs', rfl, hB2, hF2, upd_same, g2⟩) q
end
end DL

set_option maxHeartbeats 200000
set_option Elab.async false
set_option linter.all false
set_option maxRecDepth 100000
set_option maxHeartbeats 1000000
namespace DL
open PySem PySem.Spec PyProof.Rows L2
/-! ### d = {k: e} -/
theorem rd_out {F : Hp} {p a : Addr} {m : List (L2.Key × V)} (hp : F p = some (.dK m)) {u : HO} (hu : (∃ xs, u = .lst xs) ∨ ∃ xs, u = .tup xs) (h : Rd F a u) : Rd (del F p) a u := by
  have ne : a ≠ p := fun z => by
    subst z
    rcases h with h | ⟨o, h⟩
    · rw [hp] at h
      injection h with h
      rcases hu with ⟨xs, rfl⟩ | ⟨xs, rfl⟩ <;> cases h
    · rw [hp] at h
      injection h with h
      cases h
  rcases h with h | ⟨o, h⟩
  · exact .inl (by rw [del_ne ne]; exact h)
  · exact .inr ⟨o, by rw [del_ne ne]; exact h⟩
mutual
theorem dq_out {K : PySem.W.Frag} {F : Hp} {p : Addr} {m : List (L2.Key × V)} (hp : F p = some (.dK m)) : ∀ (d : PyData) (v : V), Dq K F v d → Dq K (del F p) v d
  | .none, _, h => by cases h; exact .non
  | .bool _, _, h => by cases h; exact .bl _
  | .int _, _, h => by cases h; exact .int _
  | .str _, _, h => by cases h; exact .str _
  | .list ds, _, h => by
    cases h with
    | lst hs ha =>
      refine .lst ?_ (dqs_out hp ds _ ha)
      rcases hs with hs | hs
      · exact .inl (rd_out hp (.inl ⟨_, rfl⟩) hs)
      · exact .inr hs
  | .tuple ds, _, h => by
    cases h with
    | tup hs ha =>
      refine .tup ?_ (dqs_out hp ds _ ha)
      rcases hs with hs | hs
      · exact .inl (rd_out hp (.inr ⟨_, rfl⟩) hs)
      · exact .inr hs
  | .dict _, _, h => by cases h; exact .hd _
theorem dqs_out {K : PySem.W.Frag} {F : Hp} {p : Addr} {m : List (L2.Key × V)} (hp : F p = some (.dK m)) : ∀ (ds : List PyData) (vs : List V), DqAll K F vs ds → DqAll K (del F p) vs ds
  | [], _, h => by cases h; exact .nil
  | d :: ds, _, h => by
    cases h with
    | cons h1 h2 => exact .cons (dq_out hp d _ h1) (dqs_out hp ds _ h2)
end
theorem Rep.out {B : Bs} {δ : St'} {σ : List (Option V)} {F H : Hp} {p : Addr} {m : List (L2.Key × V)} (r : Rep B δ σ F H) (hp : F p = some (.dK m)) (hB : B.F p = none) : Rep B δ σ (del F p) H := by
  have nn : ∀ {a : Addr}, F a = none → (del F p) a = none := fun {a} h => by
    by_cases e : a = p
    · rw [e, del_same]
    · rw [del_ne e]; exact h
  refine ⟨fun b u h => ?_, fun b u h => ?_, fun b h1 h2 => nn (r.fr b h1 h2), r.kp, r.pot, fun i c h => ?_, r.len, r.ap⟩
  · by_cases e : b = p
    · rw [e, del_same] at h; cases h
    · rw [del_ne e] at h; exact r.ex b u h
  · have e : b ≠ p := fun z => by rw [z, hB] at h; cases h
    rw [del_ne e]; exact r.f0 b u h
  · obtain ⟨v, hv, hc⟩ := r.cell i c h
    refine ⟨v, hv, ?_⟩
    cases c with
    | d x => exact dq_out hp _ _ hc
    | own xs =>
      obtain ⟨a, vs, e, h1, h2, h3, h4⟩ := hc
      exact ⟨a, vs, e, h1, nn h2, h3, dqs_out hp _ _ h4⟩
    | dct kvs =>
      obtain ⟨a, vs, e, h1, h2, h3, h4⟩ := hc
      exact ⟨a, vs, e, h1, nn h2, h3, dqs_out hp _ _ h4⟩
    | iset ns =>
      obtain ⟨a, e, h1, h2, h3⟩ := hc
      exact ⟨a, e, h1, nn h2, h3⟩
    | pot => exact hc
    | bor => exact hc
section
variable {B : B0} {X : Cx} {ek ev : Expr} {δ : St'} {N : St' → Prop} {R : PE1} {pos pos' p2 : Pos} {x : Str}
theorem ds_setDct1 (i : Nat) (h : DE B X ek δ fun y δ1 => DE B X ev δ1 fun z δ2 => ∃ k : L2.Key, y = keyD k ∧ N (δ2.put i (.dct [(k, z)]))) (hN : X.N.Nodup) (hi : X.N[i]? = some x := by rfl) (hx : Loc X.env.scope x := by first | exact .inl rfl | exact .inr rfl)
    (hs : swapsWith (.Dict [some ek] [ev] p2) (some (.Name x pos')) pos.line X.env = pure false := by rfl) (hf : X.fn x = true ∨ X.env.scope.names.lookup x = some .local := by first | exact .inl rfl | exact .inr rfl) : DS B X (.Assign [.Name x pos'] (.Dict [some ek] [ev] p2) pos) δ N R :=
  .of (ps_set hN hi hx (pe_disp (pps_cons pe_w pe_w pps_nil) rfl rfl (by simp) (by simp)) hs hf) fun σ F H r D hn hr => by
    intro p hp
    obtain ⟨hB, hF, _, _⟩ := r.fresh hp
    have hBF : B.F p = none := by
      cases e : B.F p with
      | none => rfl
      | some o => have := r.f0 p o e; rw [hF] at this; cases this
    have r1 := r.new hp (.dK [])
    refine h σ _ _ r1 _ fun v y δ1 F1 H1 e1 r1' d1 p1 => p1 σ F1 H1 r1' _ fun u z δ2 F2 H2 e2 r2 d2 ⟨k, hy, q⟩ => ?_
    subst hy
    have hF2 : F2 p = some (.dK []) := e2 _ _ (e1 _ _ upd_same)
    have r3 := r2.out hF2 hBF
    have hap : ∀ (j : Nat) (c : C), δ2.s[j]? = some (some c) → own? c = true → σ[j]? ≠ some (some (.ref p)) := fun j c hj ho hz => by
      obtain ⟨w, hw, hc⟩ := r2.cell j c hj
      rw [hz] at hw
      cases hw
      cases c with
      | d x => cases ho
      | pot => cases ho
      | bor => cases ho
      | own xs =>
        obtain ⟨a, vs, e, _, h2, _⟩ := hc
        cases e
        rw [hF2] at h2; cases h2
      | dct xs =>
        obtain ⟨a, vs, e, _, h2, _⟩ := hc
        cases e
        rw [hF2] at h2; cases h2
      | iset ns =>
        obtain ⟨a, e, _, h2, _⟩ := hc
        cases e
        rw [hF2] at h2; cases h2
    have r4 := r3.side (o := .dK [(k, u)]) del_same hB hap
    have hk := keyD_v d1
    subst hk
    refine ⟨r2.ex _ _ hF2, [(k, u)], rfl, by simp, ?_⟩
    refine hn _ _ (del F2 p) _ (fun b o hb => ?_) (r4.putO i (c := .dct [(k, z)]) hap ⟨p, [u], rfl, hB, del_same, upd_same, .cons (dq_out hF2 _ _ d2) .nil⟩) q
    have ne : b ≠ p := fun w => by rw [w, hF] at hb; cases hb
    rw [del_ne ne]
    exact e2 _ _ (e1 _ _ (by rw [upd_ne ne]; exact hb))
end
end DL

set_option maxHeartbeats 200000
set_option Elab.async false
set_option linter.all false
set_option maxRecDepth 100000
set_option maxHeartbeats 1000000
namespace DL
open PySem PySem.Spec PyProof.Rows L2
/-! ### a dict of truths that a def is handed at last, and may add to -/
abbrev SpB := Nat → List PyData → (PyData → Nat → Prop) → Prop
def spB (K : PySem.W.Frag) (P : PotK) (S : SpB) : Sp := fun vs H Q _ => ∃ F p vs' ds n Φ, vs = vs' ++ [.ref p] ∧ Same F H ∧ F p = none ∧ PotAt (some P) H p n ∧ DqAll K F vs' ds ∧ S n ds Φ ∧
  ∀ v x n' F' H', Same F F' → Same F' H' → (∀ b, F b = none → H b ≠ none → F' b = none) → (∀ b o, H b = some o → b ≠ p → H' b = some o) → PotAt (some P) H' p n' → Dq K F' v x → Φ x n' → Q v H'
theorem rep_iniB {w : World} {K : PySem.W.Frag} {P : PotK} {N : List Str} {F H : Hp} {p : Addr} {vs : List V} {ds : List PyData} {n : Nat} (e : Same F H) (hp : F p = none) (pot : PotAt (some P) H p n) (h : DqAll K F vs ds) :
    Rep ⟨⟨F, H, some p, some P⟩, w, K⟩ (ini N (ds.map C.d ++ [.bor]) n) (L2.start N (vs ++ [.ref p])) F H := by
  have hl : (vs ++ [V.ref p]).length = (ds.map C.d ++ [C.bor]).length := by simp [dpAll_len h]
  have hc : ∀ {i : Nat} {c : C}, (ds.map C.d ++ [C.bor])[i]? = some c → (i = ds.length ∧ c = .bor) ∨ ∃ d, ds[i]? = some d ∧ c = .d d := fun {i c} z => by
    rcases Nat.lt_trichotomy i ds.length with q | q | q
    · rw [List.getElem?_append_left (by simpa using q), List.getElem?_map, Option.map_eq_some_iff] at z
      obtain ⟨d, h1, h2⟩ := z
      exact .inr ⟨d, h1, h2.symm⟩
    · rw [List.getElem?_append_right (by simp; omega)] at z
      simp [q] at z
      exact .inl ⟨q, z.symm⟩
    · rw [List.getElem?_eq_none (by simp; omega)] at z
      cases z
  refine ⟨e, Same.refl _, fun b z _ => z, fun b o z _ => z, fun a z => ?_, fun i c hi => ?_, start_len hl, fun i j c c' hij h1 h2 o1 o2 => ?_⟩
  · injection z with z
    subst z
    refine ⟨hp, ?_, pot⟩
    obtain ⟨x, y, z, h3, _⟩ := pot
    show H p ≠ none
    rw [h3]; exact fun q => by cases q
  · obtain ⟨v, h1, h2, h3⟩ := start_get hl hi
    rcases hc h3 with ⟨rfl, rfl⟩ | ⟨d, h4, rfl⟩
    · rw [List.getElem?_append_right (by rw [dpAll_len h]; exact Nat.le_refl _), dpAll_len h, Nat.sub_self] at h2
      injection h2 with h2
      subst h2
      exact ⟨_, h1, p, rfl, rfl, fun z => by cases z⟩
    · obtain ⟨v', q1, q2⟩ := dpAll_get h h4
      have hi' : i < vs.length := (List.getElem?_eq_some_iff.mp q1).1
      rw [List.getElem?_append_left hi', q1] at h2
      injection h2 with h2
      subst h2
      exact ⟨_, h1, q2⟩
  · obtain ⟨v, _, _, q⟩ := start_get hl h1
    rcases hc q with ⟨_, rfl⟩ | ⟨_, _, rfl⟩ <;> cases o1
section
variable {P : Program} {w : World} {K : PySem.W.Frag} {mg : Str → Option Value} {base : Heap} {x qual : Str} {st : Stmt} {f : Addr} {fd : FuncData} {N ps : List Str} {k : Nat} {Pk : PotK}
theorem fnB {S : SpB} {dvs : List V} {kws : List (Str × V)} (F : FunD K x qual (defArgs st) (defBody st) (defScope st) dvs kws f fd) (sc : FnScope N ps (defScope st)) (len : ∀ n ds Φ, S n ds Φ → ds.length + 1 = ps.length)
    (body : ∀ (B : B0) (cdv : Value) (A : Around) (outer : List Env) (s : Shared) (H : Hp) (E : XK) (n : Nat) (ds : List PyData) (Φ : PyData → Nat → Prop), Room k (A.deeper (envOfC qual (defScope st) s.heap.objs.size f cdv)) → B.m = some Pk → S n ds Φ →
      DSs B (bodyX P w K mg base N qual (defScope st) f cdv A outer s H E) (defBody st) (ini N (ds.map C.d ++ [.bor]) n) (fun δ => Φ .none δ.n) fun x δ => Φ x δ.n) : FnOk P w K mg base CX0 (k + 1) f fd ps (spB K Pk S) := by
  refine F.ok sc (fun vs H Q E h => ?_) (fun cdv A outer s H vs Q E hr h => ?_)
  · obtain ⟨F', p, vs', ds, n, Φ, rfl, _, _, _, hd, hS, _⟩ := h
    rw [List.length_append, dpAll_len hd]; exact len n ds Φ hS
  · obtain ⟨F', p, vs', ds, n, Φ, rfl, e, hp, hpot, hd, hS, q⟩ := h
    refine ⟨_, PSs.nox pss_w, ?_⟩
    refine body ⟨F', H, some p, some Pk⟩ cdv A outer s H E n ds Φ hr rfl hS (L2.start N (vs' ++ [.ref p])) F' H (rep_iniB e hp hpot hd) _ (fun δ' σ' F2 H2 e2 r2 z => ?_) fun v x δ' σ' F2 H2 e2 r2 d2 z => ?_
    · exact q .non .none δ'.n F2 H2 e2 r2.ex r2.fr (fun b o h1 h2 => r2.kp b o h1 fun y => h2 (by injection y with y; exact y.symm)) (r2.pot p rfl).2.2 .non z
    · exact q v x δ'.n F2 H2 e2 r2.ex r2.fr (fun b o h1 h2 => r2.kp b o h1 fun y => h2 (by injection y with y; exact y.symm)) (r2.pot p rfl).2.2 d2 z
end
/-! ### arguments, a name at last whose thing is handed on -/
def WAL (B : Bs) (ta : TA) (j : Nat) (δ : St') (Φ : List PyData → St' → Prop) : Prop := ∀ σ F H, Rep B δ σ F H → ∀ Q : List V → Hp → Prop, (∀ vs u xs δ' F' H', Same F F' → Rep B δ' σ F' H' → DqAll B.K F' vs xs → σ[j]? = some (some u) → Φ xs δ' → Q (vs ++ [u]) H') → ta σ H Q
def DAL (B : B0) (X : Cx) (es : List Expr) (j : Nat) (δ : St') (Φ : List PyData → St' → Prop) : Prop := WAL (bs X B) (wA X es) j δ Φ
section
variable {B : B0} {X : Cx} {a : Expr} {es : List Expr} {δ : St'} {Φ : List PyData → St' → Prop} {pn : Str} {pp pos p : Pos} {j : Nat} {c : C}
theorem dal_last (p : Φ [] δ) (hi : δ.s[j]? = some (some c) := by rfl) (hN : X.N[j]? = some pn := by rfl)
    (hv : Vis X.env.scope pn := by first | exact Or.inl rfl | exact Or.inr (Or.inl rfl) | exact Or.inr (Or.inr rfl)) (hd : (pn == ("__debug__" : Str)) = false := by decide) (hcd : (pn == ("__classdict__" : Str)) = false := by decide)
    (hs : starEach [.Name pn pp] X.env = (false, eval (.Name pn pp) X.env) :: starEach [] X.env := by rfl) : DAL B X [.Name pn pp] j δ Φ := fun σ F H r Q q pos pins s I => by
  obtain ⟨v, hv', _⟩ := r.cell j c hi
  exact (pa_cons (pe_var hN hv hd hcd) pa_nil hs).run pos pins s σ H Q I ⟨v, hv', q [] v [] δ F H (Same.refl F) r .nil hv' p⟩
theorem dal_cons (h : DE B X a δ fun x δ1 => DAL B X es j δ1 fun xs δ2 => Φ (x :: xs) δ2) (hs : starEach (a :: es) X.env = (false, eval a X.env) :: starEach es X.env := by rfl) : DAL B X (a :: es) j δ Φ := fun σ F H r Q q pos pins s I =>
  (pa_cons pe_w pa_w hs).run pos pins s σ H Q I (h σ F H r _ fun v x δ1 F1 H1 e1 r1 d1 p1 => p1 σ F1 H1 r1 _ fun vs u xs δ2 F2 H2 e2 r2 d2 hu p2 => q (v :: vs) u (x :: xs) δ2 F2 H2 (e1.trans e2) r2 (.cons (dp_mono e2 _ _ d1) d2) hu p2)
variable {k k' : Nat} {ps : List Str} {x : Str} {Pk : PotK} {Ψ : PE1} {e : Expr}
/-- f(e, .., known), known handed to us -/
theorem de_fB {S : SpB} (j : Nat) (hm : B.m = some Pk) (G : Fn X.prog X.w X.K X.mg X.base x k ps (spB X.K Pk S)) (hr : Room k' X.A) (h : DAL B X (e :: es) j δ fun ds δ' => δ'.s[j]? = some (some .bor) ∧ S δ'.n ds fun y n' => Ψ y ⟨n', δ'.s⟩) (hk : k ≤ k' := by decide)
    (hg : Gl X x := by rfl) (hdb : (x == ("__debug__" : Str)) = false := by decide) (he : starEach (e :: es) X.env = (false, eval e X.env) :: starEach es X.env := by rfl) (hpl : (backTo pos (starEach es X.env)).any (·.1) = false := by rfl) :
    DE B X (.Call (.Name x p) (e :: es) [] pos) δ Ψ := by
  obtain ⟨f, fd, h1, h2, h3, h4⟩ := G.ex
  refine .of (pe_call h4 (hr.mono hk) hg h1 h2 h3 .nil pass0 pa_w hdb he hpl) fun σ F H r Q q => h σ F H r _ fun vs u ds δ' F' H' e1 r' d hu ⟨hj, hS⟩ => ?_
  obtain ⟨u', hu', a, rfl, hp, _⟩ := r'.cell j _ hj
  rw [hu] at hu'
  have : u = .ref a := by injection hu' with z; injection z
  subst this
  refine ⟨F', a, vs, ds, δ'.n, _, by simp, r'.ex, r'.potF hp, hm ▸ (r'.pot a hp).2.2, d, hS, fun v y n' F2 H2 q1 q2 q3 q4 q5 q6 q7 => ?_⟩
  exact q v y ⟨n', δ'.s⟩ F2 H2 (e1.trans q1) (r'.calledP hp q1 q2 q3 q4 (hm.symm ▸ q5)) q6 q7
abbrev trueKv (Pk : PotK) (kvs : List (L2.Key × PyData)) : Prop := (∀ kv ∈ kvs, Pk.1 kv.1 ∧ kv.2 = .bool true) ∧ ∀ k, Pk.2 k → ∃ kv ∈ kvs, kv.1 = k
theorem zip_keys {K : PySem.W.Frag} {F : Hp} {k : L2.Key} : ∀ {kvs : List (L2.Key × PyData)} {us : List V}, DqAll K F us (kvs.map (·.2)) → (∃ kv ∈ kvs, kv.1 = k) → ∃ kv ∈ (kvs.map (·.1)).zip us, kv.1 = k
  | [], _, _, h => by obtain ⟨_, h, _⟩ := h; cases h
  | kv :: kvs, us, h, hk => by
    cases h with
    | cons h1 h2 =>
      obtain ⟨kv', hm, e⟩ := hk
      rcases List.mem_cons.mp hm with rfl | hm
      · exact ⟨_, by simp only [List.map_cons, List.zip_cons_cons]; exact List.mem_cons_self, e⟩
      · obtain ⟨q, q1, q2⟩ := zip_keys h2 ⟨kv', hm, e⟩
        exact ⟨q, by simp only [List.map_cons, List.zip_cons_cons]; exact List.mem_cons_of_mem _ q1, q2⟩
theorem trues_v {K : PySem.W.Frag} {F : Hp} : ∀ {kvs : List (L2.Key × PyData)} {us : List V}, (∀ kv ∈ kvs, Pk.1 kv.1 ∧ kv.2 = .bool true) → DqAll K F us (kvs.map (·.2)) → ∀ kv ∈ (kvs.map (·.1)).zip us, Pk.1 kv.1 ∧ kv.2 = .bl true
  | [], us, _, h => by cases h; simp
  | kv :: kvs, us, hp, h => by
    cases h with
    | cons h1 h2 =>
      intro q hq
      simp only [List.map_cons, List.zip_cons_cons, List.mem_cons] at hq
      have hh := hp kv (by simp)
      rcases hq with rfl | hq
      · have h1' : Dq K F _ kv.2 := h1
        rw [hh.2] at h1'
        cases h1'
        exact ⟨hh.1, rfl⟩
      · exact trues_v (fun z hz => hp z (by simp [hz])) h2 q hq
/-- f(e, .., known), known a dict of our own -/
theorem de_fBo {S : SpB} (j : Nat) {kvs : List (L2.Key × PyData)} (G : Fn X.prog X.w X.K X.mg X.base x k ps (spB X.K Pk S)) (hr : Room k' X.A) (hkv : trueKv Pk kvs)
    (h : DAL B X (e :: es) j δ fun ds δ' => δ'.s[j]? = some (some (.dct kvs)) ∧ S kvs.length ds fun y n' => ∀ kvs', trueKv Pk kvs' → kvs'.length ≤ n' → Ψ y (δ'.put j (.dct kvs'))) (hk : k ≤ k' := by decide) (hi : δ.s[j]? = some (some (.dct kvs)) := by rfl)
    (hg : Gl X x := by rfl) (hdb : (x == ("__debug__" : Str)) = false := by decide) (he : starEach (e :: es) X.env = (false, eval e X.env) :: starEach es X.env := by rfl) (hpl : (backTo pos (starEach es X.env)).any (·.1) = false := by rfl) :
    DE B X (.Call (.Name x p) (e :: es) [] pos) δ Ψ := by
  obtain ⟨f, fd, h1, h2, h3, h4⟩ := G.ex
  refine .of (pe_call h4 (hr.mono hk) hg h1 h2 h3 .nil pass0 pa_w hdb he hpl) fun σ F H r Q q => h σ F H r _ fun vs u ds δ' F' H' e1 r' d hu ⟨hj, hS⟩ => ?_
  obtain ⟨u', hu', a, us, rfl, hB, hF, hH, hd⟩ := r'.cell j _ hj
  have : u = .ref a := by
    rw [hu] at hu'
    injection hu' with z
    injection z
  subst this
  have hlen : ((kvs.map (·.1)).zip us).length ≤ kvs.length := by rw [List.length_zip, List.length_map]; omega
  have pot0 : PotAt (some Pk) H' a kvs.length := ⟨PotC.dict ((List.map (fun kv : L2.Key × PyData => kv.1) kvs).zip us), 0, 0, hH, by omega, by omega, hlen, trues_v hkv.1 hd, fun k hk => zip_keys hd (hkv.2 k hk)⟩
  refine ⟨F', a, vs, ds, kvs.length, _, by simp, r'.ex, hF, pot0, d, hS, fun v y n' F2 H2 q1 q2 q3 q4 q5 q6 q7 => ?_⟩
  obtain ⟨x', _, _, g1, _, _, g4⟩ := q5
  cases x' with
  | num _ => cases g4
  | dict kv2 =>
    obtain ⟨g4, g5, g6⟩ := g4
    have g1 : H2 a = some (.dK kv2) := g1
    have hF2 : F2 a = none := q3 a hF (by rw [hH]; exact fun z => by cases z)
    -- the old one in its place, then the new one written
    have rr : Rep (bs X B) δ' σ F2 (upd H2 a (.dK ((kvs.map (·.1)).zip us))) := r'.called q1 (fun b o z => by
      have : b ≠ a := fun y => by rw [y, hF2] at z; cases z
      rw [upd_ne this]; exact q2 b o z) q3 fun b o z => by
      by_cases eb : b = a
      · rw [eb, upd_same, ← hH, ← eb]; exact z
      · rw [upd_ne eb]; exact q4 b o z eb
    have hd2 : DqAll X.K F2 (kv2.map (·.2)) ((kv2.map fun kv => (kv.1, PyData.bool true)).map (·.2)) := by
      have all : ∀ l : List (L2.Key × V), (∀ kv ∈ l, kv.2 = .bl true) → DqAll X.K F2 (l.map (·.2)) ((l.map fun kv => (kv.1, PyData.bool true)).map (·.2)) := fun l => by
        induction l with
        | nil => exact fun _ => .nil
        | cons kv l ih =>
          intro hl
          refine .cons ?_ (ih fun z hz => hl z (by simp [hz]))
          show Dq X.K F2 kv.2 (.bool true)
          rw [hl kv (by simp)]
          exact .bl true
      exact all kv2 fun kv hkv => (g5 kv hkv).2
    have e2 : (kv2.map fun kv => (kv.1, PyData.bool true)).map (·.1) = kv2.map (·.1) := by rw [List.map_map]; rfl
    have hz : (((kv2.map fun kv => (kv.1, PyData.bool true)).map (·.1)).zip (kv2.map (·.2))) = kv2 := by rw [e2, List.zip_map', List.map_id']
    have r3 := rr.write (c2 := .dct (kv2.map fun kv => (kv.1, PyData.bool true))) (o := .dK kv2) hj rfl hu hB hF2 rfl ⟨a, kv2.map (·.2), rfl, hB, hF2, by rw [upd_same, hz], hd2⟩
    rw [upd_upd, upd_eq g1] at r3
    refine q v y _ F2 H2 (e1.trans q1) r3 q6 (q7 _ ⟨fun kv hkv => ?_, fun k hk => ?_⟩ (by rw [List.length_map]; exact g4))
    · obtain ⟨kv0, h0, rfl⟩ := List.mem_map.mp hkv
      exact ⟨(g5 kv0 h0).1, rfl⟩
    · obtain ⟨kv0, h0, e0⟩ := g6 k hk
      exact ⟨_, List.mem_map.mpr ⟨kv0, h0, rfl⟩, e0⟩
/-! ### within: e not in known, known[e] = True -/
variable {N : St' → Prop} {R : PE1} {e2 : Expr} {p2 : Pos}
theorem dt_bnotin (i : Nat) {Θ : Bool → St' → Prop} (hm : B.m = some Pk) (hu : X.A.units + 1 < cLine) (h : DE B X e δ fun y δ' => ∃ k : L2.Key, y = keyD k ∧ δ'.s[i]? = some (some .bor) ∧ (¬ Pk.2 k → Θ true δ') ∧ (Pk.1 k → Θ false δ')) (hi : δ.s[i]? = some (some .bor) := by rfl) (hN : X.N[i]? = some pn := by rfl)
    (hv : Vis X.env.scope pn := by first | exact Or.inl rfl | exact Or.inr (Or.inl rfl) | exact Or.inr (Or.inr rfl)) (hd : (pn == ("__debug__" : Str)) = false := by decide) (hcd : (pn == ("__classdict__" : Str)) = false := by decide) (hmk : behindInMarks CmpOp.NotIn (.Name pn pp) = false := by rfl) :
    DT B X (.Compare e [.NotIn] [.Name pn pp] pos) δ Θ := .of (pt_cmp (pc_dnotin hu pe_w (pe_var hN hv hd hcd)) hmk) fun σ F H r Q q => by
  obtain ⟨u, hu', a, rfl, hp, _⟩ := r.cell i _ hi
  refine h σ F H r _ fun w y δ' F' H' e1 r' dw ⟨k, hy, hi2, t1, t2⟩ => ?_
  subst hy
  obtain ⟨x', _, _, g1, _, _, g4⟩ := (r'.pot a hp).2.2
  have hm' : (bs X B).m = some Pk := hm
  rw [hm'] at g4
  cases x' with
  | num _ => cases g4
  | dict kv2 =>
    refine ⟨.ref a, hu', a, _, rfl, .inl ⟨_, k, .inl g1, keyD_v dw, rfl⟩, ?_⟩
    refine ⟨_, rfl, ?_⟩
    cases eg : valV kv2 k with
    | none =>
      refine q _ δ' F' H' e1 r' (t1 fun z => ?_)
      obtain ⟨kv, h1, h2⟩ := g4.2.2 k z
      unfold valV at eg
      rw [Option.map_eq_none_iff, List.find?_eq_none] at eg
      exact eg kv h1 (decide_eq_true h2)
    | some v =>
      refine q _ δ' F' H' e1 r' (t2 ?_)
      unfold valV at eg
      rw [Option.map_eq_some_iff] at eg
      obtain ⟨kv, h1, _⟩ := eg
      have hk : kv.1 = k := by
        have z := List.find?_some h1
        simpa using z
      rw [← hk]
      exact (g4.2.1 kv (List.mem_of_find?_eq_some h1)).1
theorem ds_bput (i : Nat) (hm : B.m = some Pk) (hu : X.A.units + 1 < cLine) (h : DE B X e2 δ fun x δ1 => x = .bool true ∧ DE B X e δ1 fun y δ2 => ∃ k : L2.Key, y = keyD k ∧ δ2.s[i]? = some (some .bor) ∧ Pk.1 k ∧ δ2.n ≤ 1000 ∧ N ⟨δ2.n + 1, δ2.s⟩) (hi : δ.s[i]? = some (some .bor) := by rfl) (hN : X.N[i]? = some pn := by rfl)
    (hv : Vis X.env.scope pn := by first | exact Or.inl rfl | exact Or.inr (Or.inl rfl) | exact Or.inr (Or.inr rfl)) (hd : (pn == ("__debug__" : Str)) = false := by decide) (hcd : (pn == ("__classdict__" : Str)) = false := by decide) (hs : swapsWith e2 (some (.Subscript (.Name pn pp) e p2)) pos.line X.env = pure false := by rfl) :
    DS B X (.Assign [.Subscript (.Name pn pp) e p2] e2 pos) δ N R := .of (ps_dput hu (pe_var hN hv hd hcd) pe_w pe_w hs) fun σ F H r D hn hr => h σ F H r _ fun v x δ1 F1 H1 e1 r1 d ⟨hx, pr⟩ => by
  subst hx
  cases d
  obtain ⟨u, hu', a, rfl, hp, _⟩ := r.cell i _ hi
  refine ⟨.ref a, hu', pr σ F1 H1 r1 _ fun w y δ2 F2 H2 e2' r2 dw ⟨k, hy, hi2, hk, hl, q⟩ => ?_⟩
  subst hy
  have hm' : (bs X B).m = some Pk := hm
  obtain ⟨x', _, _, g1, _, _, g4⟩ := (r2.pot a hp).2.2
  rw [hm'] at g4
  cases x' with
  | num _ => cases g4
  | dict kv2 =>
    obtain ⟨g4, g5, g6⟩ := g4
    refine ⟨a, _, rfl, .inl ⟨_, k, g1, keyD_v dw, by rw [sizeLine_eq]; omega, rfl⟩, ?_⟩
    refine hn ⟨δ2.n + 1, δ2.s⟩ σ F2 _ (e1.trans e2') (r2.potSet hp (n' := δ2.n + 1) (hm'.symm ▸ ⟨.dict (putK kv2 k (.bl true)), 0, 0, upd_same, by omega, by omega, ?_, ?_, fun k' hk' => ?_⟩)) q
    · unfold putK
      split
      · rw [List.length_map]; omega
      · rw [List.length_append]; simp; omega
    · intro kv hkv
      unfold putK at hkv
      split at hkv
      · obtain ⟨kv0, h0, rfl⟩ := List.mem_map.mp hkv
        have := g5 kv0 h0
        split
        · exact ⟨this.1, rfl⟩
        · exact this
      · rcases List.mem_append.mp hkv with z | z
        · exact g5 kv z
        · rw [List.mem_singleton.mp z]
          exact ⟨hk, rfl⟩
    · obtain ⟨kv0, h0, e0⟩ := g6 k' hk'
      unfold putK
      split
      · refine ⟨if kv0.1 = k then (kv0.1, .bl true) else kv0, List.mem_map.mpr ⟨kv0, h0, rfl⟩, ?_⟩
        split <;> exact e0
      · exact ⟨kv0, List.mem_append_left _ h0, e0⟩
end
end DL

set_option maxHeartbeats 200000
set_option Elab.async false
set_option linter.all false
set_option maxRecDepth 100000
set_option maxHeartbeats 1000000
namespace DL
open PySem PySem.Spec PyProof.Rows L2
/-! ### enumerate(a tuple) -/
/-- one argument, of whatever begins -/
theorem enum_made {v : Value} {ob : Obj} {Hh : Heap → Prop} (B : Begins v ob Hh) : Meets (Builtin.«enumerate.__new__» ⟨[.type "enumerate", v], []⟩)
    (fun _ R s => Hh s.heap ∧ R (.ok (.ret (.ref (s.heap.push ob).objs.size))) { s with heap := (s.heap.push ob).push { cls := .type "enumerate", data := .fields #[.none, .bool false, .ref s.heap.objs.size, rawInt 0, .none, .none] } }) :=
  .of_wp fun prog w A R s hh => by
    obtain ⟨hp, gl, dr, tk, os⟩ := s
    obtain ⟨hb, hr⟩ := hh
    have iter1 : ∀ {A' : Around} {E : Value → Shared → Prop} {Q : Value → Shared → Prop}, Q (.ref hp.objs.size) ⟨hp.push ob, gl, dr, tk, os⟩ → wpAny (model prog w) A' (pyIter v) Q E ⟨hp, gl, dr, tk, os⟩ :=
      fun qq => B.iter prog w _ _ ⟨hp, gl, dr, tk, os⟩ _ hb qq
    have hsub := sub_enumerate
    wp_walk using iter1
    refine wpAny_stack_any fun st => wpAny_pure ?_
    split
    · rename_i cc _ _ _ _ _
      cases (cc == Value.type "enumerate")
      all_goals (wp_walk using iter1; exact ⟨_, rfl, hr⟩)
    · (wp_walk using iter1; exact ⟨_, rfl, hr⟩)
theorem call_enum_tup {prog : Program} {w : World} {A : Around} {E : Value → Shared → Prop} {s : Shared} {t : Addr} {items : Array Value} {Q : Value → Shared → Prop} (ht : s.heap.IsTuple t items)
    (h : ∀ h', IsEnum h' (s.heap.objs.size + 1) s.heap.objs.size 0 .none → h'.IsTupleIter s.heap.objs.size t 0 → (∀ b o, s.heap.get? b = some o → h'.get? b = some o) → Q (.ref (s.heap.objs.size + 1)) { s with heap := h' }) :
    wpAny (model prog w) A (call (.type "enumerate") [.ref t]) Q E s := by
  have B := begins_tuple t items
  refine callType_new F.called_enumerate (by decide) (F.typeCall_enumerate_1 _) (F.newCall_enumerate_1 _) (fun obj => F.args_object_init_2 obj _) F.entry_enumerate_new (enum_made B) ⟨ht, ?_⟩
  generalize ho : ({ cls := .type "tuple_iterator", data := .fields #[.ref t, .int 0 0] } : Obj) = o at B ⊢
  have sz : (s.heap.push o).objs.size = s.heap.objs.size + 1 := Heap.size_push ..
  rw [sz]
  have isE : IsEnum ((s.heap.push o).push { cls := .type "enumerate", data := .fields #[.none, .bool false, .ref s.heap.objs.size, rawInt 0, .none, .none] }) (s.heap.objs.size + 1) s.heap.objs.size 0 .none := by
    have z := Heap.get?_push_size (s.heap.push o) (o := { cls := .type "enumerate", data := .fields #[.none, .bool false, .ref s.heap.objs.size, rawInt 0, .none, .none] }) rfl
    rw [sz] at z
    exact z
  refine ⟨⟨_, isE, rfl⟩, h _ isE ?_ fun b u x => Heap.get?_push_of_some _ (Heap.get?_push_of_some _ x)⟩
  exact ⟨_, Heap.get?_push_of_some _ (Heap.get?_push_size _ B.free), by rw [← ho], by rw [← ho]; rfl⟩
/-- the tuple at a, each item in a new pair behind its number -/
def IteT (K : PySem.W.Frag) (a : Addr) : It where
  go i H := ∃ (xs : List V) (x : V), SqT K H a xs ∧ xs[i]? = some x
  yld i H v H' := ∃ T x, v = .ref T ∧ H T = none ∧ H' = upd H T (.tup [.int (i : Nat), x]) ∧ ∀ xs, SqT K H a xs → xs[i]? = some x
  stop i H := ∃ xs : List V, SqT K H a xs ∧ xs.length ≤ i
theorem turn_enumT {P : Program} {w : World} {K : PySem.W.Frag} {elts : List Expr} {kk : Nat} {tpos : Pos} (a e it : Addr) (hne : e ≠ it) (hai : a ≠ it) (hea : e ≠ a) :
    Turn P w K (.Tuple elts kk tpos) (IteT K a) [e, it] e (fun i h => (∃ old, IsEnum h e it ((0 : Int) + ((i : Nat) : Int)) old) ∧ h.IsTupleIter it a i) where
  mem := List.mem_cons_self
  obj := fun i h st b hb => by
    obtain ⟨⟨old, he⟩, o, ho, hc, hd⟩ := st
    rcases List.mem_cons.mp hb with z | z
    · rw [z]
      exact ⟨_, he, fun v q => nomatch q⟩
    · rw [List.mem_singleton.mp z]
      exact ⟨o, ho, fun v q => by rw [hd] at q; cases q⟩
  keep := fun i h h' st k => let ⟨⟨old, he⟩, hi⟩ := st; ⟨⟨old, k e List.mem_cons_self _ he⟩, hi.at fun o q => k it (by simp) o q⟩
  item := by
    intro X hP hw hK hc i pins s σ H E I hf st hg
    subst hP hw hK
    obtain ⟨xs, x, hq, hx⟩ := hg
    obtain ⟨its, rv, p, hz⟩ := I.tuple hq
    obtain ⟨u, hu, ru⟩ := rv.get hx
    have D := Draws.tuple (prog := X.prog) (w := X.w) (A := X.A.in1) (I.ok.hd hc) it a hai its.toArray
    have Wk := WalksT.enumFrom 0 D e hne (by simp [hne, hea]) (by simp)
    have hil : i < its.toArray.size := by
      have := (List.getElem?_eq_some_iff.mp hu).1
      simpa using this
    have hel : e < s.heap.objs.size := Heap.lt_size st.1.choose_spec
    have hitl : it < s.heap.objs.size := by
      obtain ⟨o, ho, _⟩ := st.2
      exact Heap.lt_size ho
    refine Wk.item i s _ E hil ⟨st.1, st.2, p⟩ fun T vals h' tk hP hT isT mid hk => ⟨_, rfl, ?_⟩
    obtain ⟨t, x', hx', ev⟩ := hP
    have hxu : x' = u := by
      have z : its.toArray[i]? = some u := by simpa using hu
      rw [z] at hx'
      injection hx' with q
      exact q.symm
    have hTa := Wk.apart _ _ _ mid
    refine Wk.go elts kk tpos i T _ _ E mid fun h2 st2 hk2 => ?_
    have new : ObjOk X.prog X.w (upd H T (.tup [.int (i : Nat), x])) h2 T (.tup [.int (i : Nat), x]) := by
      refine ⟨by show 2 ≤ sizeLine; decide, [.int ((0 : Int) + (i : Int)) t, u], .cons ⟨t, by rw [Int.zero_add]⟩ (.cons ru .nil), ?_⟩
      obtain ⟨o, ho, q⟩ := isT
      rw [ev, hxu] at q
      exact ⟨o, hk2 T o hTa ho, q⟩
    have hT' : s.heap.objs.size ≤ T := hT
    refine ⟨.ref T, _, I.turnedNew (ch := [e, it]) (fun b o hb q => hk2 b o hb (hk b o hb q)) hf hT' new, rfl, ⟨T, x, rfl, I.hok.fresh hT', rfl, fun ys hy => ?_⟩, ⟨st2.1, st2.2.1⟩, fun b hb => ?_⟩
    · rw [I.tuple_inj hy hq]
      exact hx
    · have hb' : b < s.heap.objs.size := by
        rcases List.mem_cons.mp hb with z | z
        · exact z ▸ hel
        · exact (List.mem_singleton.mp z) ▸ hitl
      rw [upd_ne (Nat.ne_of_lt (Nat.lt_of_lt_of_le hb' hT'))]
      exact (hf b hb).1
  done := by
    intro X hP hw hK hc i pins s σ H E I hf st hg
    subst hP hw hK
    obtain ⟨xs, hq, hx⟩ := hg
    obtain ⟨its, rv, p, hz⟩ := I.tuple hq
    obtain ⟨⟨old, he⟩, hi⟩ := st
    have out : its.toArray[i]? = none := by
      have := rv.length
      simp
      omega
    have D : Draws X.prog X.w X.A.in1 it [it, a] i (fun _ _ => True) (fun j h => j = i ∧ h.IsTupleIter it a i ∧ h.IsTuple a its.toArray) :=
      { live := fun _ _ st => ⟨_, st.2.1.choose_spec.1⟩
        frame := fun _ _ _ st hk => ⟨st.1, st.2.1.at fun o e => hk it (by simp) o e, st.2.2.at fun o e => hk a (by simp) o e⟩
        item := fun j s Q E hj st _ => absurd st.1 (Nat.ne_of_lt hj)
        done := fun s Q E st hE => wpAny_nextOf_tuple_end (show X.A.in1.handled = none from I.ok.hd hc) st.2.1 st.2.2 out hE }
    obtain ⟨f0, f1, f2, f3, f4, f5⟩ := hf it (List.mem_cons_of_mem _ List.mem_cons_self)
    refine wpAny_pyNext_enum_endD D he ⟨rfl, hi, p⟩ fun h' ext => ⟨rfl, ?_⟩
    exact I.turned (t' := s.toks) (fun b o hb q => ext b o hb q) f0 f1 f3 f4 f5
  self := fun A i s Q E ⟨⟨_, he⟩, _⟩ h => wpAny_pyIter_enum he h
def iEnumT (K : PySem.W.Frag) (ta : TA) : TI := fun σ H R => ta σ H fun vs H1 => ∃ a xs, vs = [.ref a] ∧ SqT K H1 a xs ∧ R (IteT K a) H1
theorem pi_enumT {X : Cx} {e : Expr} {ta : TA} {p pos tpos : Pos} {elts : List Expr} {kk : Nat} (hm : X.mg "enumerate" = none) (ha : PA X [e] ta) (hg : Gl X "enumerate" := by rfl) (hs : starEach [e] X.env = [(false, eval e X.env)] := by rfl) :
    PI X (.Tuple elts kk tpos) (.Call (.Name "enumerate" p) [e] [] pos) (iEnumT X.K ta) := .mk fun pins s σ H R I h => by
  refine Call_ (ld_blt I hg hm boot_enumerate (PyProof.Rows.callWith_type1 (thn (ha.run pos pins s σ H _ I h) fun us s1 z => ?_) hs rfl))
  obtain ⟨vs, H1, I1, r1, a, xs, rfl, hq, q⟩ := z
  obtain ⟨u, rfl, ru⟩ : ∃ u, us = [u] ∧ RelV (.ref a) u := by
    cases r1 with
    | cons r rr => cases rr; exact ⟨_, rfl, r⟩
  cases ru
  obtain ⟨its, rv, p', hz⟩ := I1.tuple hq
  have hal : a < s1.heap.objs.size := by
    obtain ⟨o, ho, _⟩ := p'
    exact Heap.lt_size ho
  refine call_enum_tup p' fun h' he hit hk => wpAny_pyIter_enum he ?_
  have T := turn_enumT (P := X.prog) (w := X.w) (K := X.K) (elts := elts) (kk := kk) (tpos := tpos) a (s1.heap.objs.size + 1) s1.heap.objs.size (Nat.succ_ne_self _) (Nat.ne_of_lt hal) (Nat.ne_of_gt (Nat.lt_succ_of_lt hal))
  refine ⟨s1.heap.objs.size + 1, _, _, _, H1, rfl, I1.kept (t' := s1.toks) hk, T, ⟨⟨.none, he⟩, hit⟩, fun b hb => ?_, q⟩
  have hle : s1.heap.objs.size ≤ b := by
    rcases List.mem_cons.mp hb with z | z
    · rw [z]; exact Nat.le_succ _
    · rw [List.mem_singleton.mp z]; exact Nat.le_refl _
  exact I1.fpOk hle (I1.hok.fresh hle)
theorem wk_enumT {w : World} {K : PySem.W.Frag} {a : Addr} {vs : List V} {xs : List PyData} {F : Hp} (hs : SqT K F a vs) (ha : DqAll K F vs xs) : Wk w K (IteT K a) (enumD xs) F where
  stop := fun B i δ σ F' H _ _ e r h => ⟨vs, seqT (e.trans r.ex) hs, by rw [dpAll_len ha, ← enum_len]; exact h⟩
  go := fun B i δ σ F' H _ _ e r h => by
    rw [enum_len] at h
    obtain ⟨v, hv, _⟩ := dpAll_get ha (List.getElem?_eq_getElem h)
    exact ⟨vs, v, seqT (e.trans r.ex) hs, hv⟩
  yld := fun B i δ σ F' H v H' y hw hK e r h hy => by
    obtain ⟨T, x, rfl, hT, rfl, hx⟩ := hy
    obtain ⟨d, hd, rfl⟩ := enum_get h
    obtain ⟨v, hv, dv⟩ := dpAll_get ha hd
    have e1 := hx vs (seqT (e.trans r.ex) hs)
    rw [hv] at e1
    injection e1 with e1
    subst e1 hK
    exact r.newT hT (.cons (.int _) (.cons (dp_mono e _ _ dv) .nil))
theorem wi_enumT {B : Bs} {ta : TA} {δ : St'} {Ψ : List PyData → St' → Prop} (h : WA B ta δ fun ds δ' => ∃ xs, ds = [.tuple xs] ∧ Ψ (enumD xs) δ') : WI B (iEnumT B.K ta) δ Ψ := fun σ F H r R q => h σ F H r _ fun vs x δ' F' H' e r' d ⟨xs, hx, p⟩ => by
  subst hx
  cases d with
  | cons d1 d2 =>
    cases d2
    cases d1 with
    | tup hs ha => exact ⟨_, _, rfl, seqT r'.ex hs, q _ _ δ' F' H' e r' (Wk.at (wk_enumT hs ha)) p⟩
end DL

set_option maxHeartbeats 200000
set_option Elab.async false
set_option linter.all false
set_option maxRecDepth 100000
set_option maxHeartbeats 2000000
namespace DL
open PySem PySem.Spec PyProof.Rows L2
/-! ### one clause of a comprehension's block, whatever it does with what it stores -/
def Keeps (a b : List (Option V)) : Prop := a.length = b.length ∧ ∀ (j : Nat) v, a[j]? = some (some v) → b[j]? = some (some v)
theorem Keeps.refl (a : List (Option V)) : Keeps a a := ⟨rfl, fun _ _ h => h⟩
theorem Keeps.trans {a b c : List (Option V)} (h : Keeps a b) (k : Keeps b c) : Keeps a c := ⟨h.1.trans k.1, fun j v e => k.2 j v (h.2 j v e)⟩
def clauseDo (p : Pos) (tg : Expr) (ifs : List Expr) (it : Value) (env : Env) (act : Sem Fin) (loop : Code) : Sem Fin := do
  standAt p
  match ← pyNext it with
  | none => pure (.done .next)
  | some v =>
    letOwnedTupleGo tg it v
    assign tg env v
    let mut ok := true
    for c in ifs do
      if ok then ok ← isTrue c env (eval c env)
    if ok then act else again loop
theorem offF {α : Type} {t : Sem α} {Q Q' : α → Shared → Prop} {M : Model} {A : Around} {E E' : Value → Shared → Prop} {s : Shared} (hE : E = fun _ _ => False) (h : wpAny M A t Q E s) (hQ : ∀ a s, Q a s → Q' a s) : wpAny M A t Q' E' s :=
  wpAny_mono h hQ fun _ _ z => by rw [hE] at z; exact z.elim
section
variable {Y : Cx} {node tg : Expr} {ifs : List Expr} {k : Nat} {it : Addr} {acc : Value} {p : Pos} {act : Sem Fin} {J : It} {fp : List Addr} {tn : Nat → Heap → Prop} {g : TG} {tt : TT} {pins : List (Addr × Obj)} {σ0 : List (Option V)} {R : Result → Shared → Prop}
/-- Wl by turn and measure; Act what the clause's deed asks where the tests hold, with what it is to reach -/
theorem clause_runs (hxe : Y.xe = fun _ _ => False) (hc : Y.calm = true) (hturn : compTurn node k (.ref it) acc Y.env = clauseDo p tg ifs (.ref it) Y.env act (.compLoop node k (.ref it) acc Y.env))
    (hq : (Code.compLoop node k (.ref it) acc Y.env).quiet = true)
    (hden : (model Y.prog Y.w).den (.compLoop node k (.ref it) acc Y.env) = (compTurn node k (.ref it) acc Y.env).onRaise fun x => do noteFrame x Y.env; theTreesLotGoes x) (hund : Y.A.under (.compLoop node k (.ref it) acc Y.env) = Y.A)
    (T : Turn Y.prog Y.w Y.K tg J fp it tn) (stat : ∀ {σ H s}, Inv Y pins σ H s → (∀ b ∈ fp, H b = none) → ∀ b ∈ fp, FpOk Y pins H b) (pg : PG Y tg g) (pt : PTs Y ifs tt)
    (Wl : Nat → Nat → Hp → Prop) (Stop : Hp → Prop) (Act : List (Option V) → Hp → (Hp → Prop) → Prop)
    (turn : ∀ i m H, Wl i m H → (J.stop i H ∧ Stop H) ∨ (J.go i H ∧ ∃ Nx : Hp → Prop, (∀ H', Nx H' → ∃ m', m' < m ∧ Wl (i + 1) m' H') ∧ ∀ x H', J.yld i H x H' → g x σ0 H' fun σ2 H2 => Keeps σ0 σ2 ∧ tt σ2 H2 fun b H3 => if b = true then Act σ2 H3 Nx else Nx H3))
    (hact : ∀ {pn : List (Addr × Obj)} {σ2 : List (Option V)} {H : Hp} {s : Shared} {Nx : Hp → Prop} {Q' : Shared → Prop}, Inv Y (pins ++ pn) σ2 H s → Keeps σ0 σ2 → Act σ2 H Nx → (∀ {σ' H' s'}, Inv Y (pins ++ pn) σ' H' s' → Keeps σ0 σ' → Nx H' → Q' s') → wpAny (model Y.prog Y.w) Y.A act (fun fin s' => fin = .again (.compLoop node k (.ref it) acc Y.env) ∧ Q' s') (fun _ _ => False) s)
    (stop : ∀ {s H}, Inv Y pins σ0 H s → Stop H → R (.ok .next) s)
    {s : Shared} {H : Hp} {m : Nat} (I : Inv Y pins σ0 H s) (st : tn 0 s.heap) (n0 : ∀ b ∈ fp, H b = none) (w0 : Wl 0 m H) :
    codeAny (model Y.prog Y.w) Y.A (.compLoop node k (.ref it) acc Y.env) R s := by
  refine codeAny_loop hq (fun n s' => ∃ i H', Inv Y pins σ0 H' s' ∧ tn i s'.heap ∧ (∀ b ∈ fp, H' b = none) ∧ Wl i n H') ?_ m ⟨0, H, I, st, n0, w0⟩
  rintro n s5 ⟨i, H5, I5, st5, n5, w5⟩
  rw [hund, hden]
  refine wpAny_noted ?_
  rw [hturn]
  unfold clauseDo
  refine wpAny_bind (wpAny_standAt (wpAny_bind ?_))
  rcases turn i n H5 w5 with ⟨e1, e2⟩ | ⟨go, Nx, hNx, step⟩
  · refine thnF (T.done Y rfl rfl rfl hc i pins s5 σ0 H5 (fun _ _ => False) I5 (stat I5 n5) st5 e1) ?_
    rintro r s6 ⟨rfl, I6⟩
    exact wpAny_pure (stop I6 e2)
  · refine thnF (T.item Y rfl rfl rfl hc i pins s5 σ0 H5 (fun _ _ => False) I5 (stat I5 n5) st5 go) ?_
    rintro r s6 ⟨u, rfl, h6⟩
    refine wpAny_bind (thnF h6 ?_)
    rintro _ s7 ⟨x, H7, I7, r7, y7, st7, n7⟩
    have I7' := I7.pinned (stat I7 n7) (T.obj _ _ st7)
    refine wpAny_bind (offF hxe (pg.run _ s7 _ H7 x u _ I7' r7 (step x H7 y7)) ?_)
    rintro _ s8 ⟨σ8, H8, I8, k8, q8⟩
    refine wpAny_bind (offF hxe (pt.run _ s8 σ8 H8 _ I8 q8) ?_)
    rintro b s9 ⟨H9, I9, q9⟩
    have fin : ∀ {σ' : List (Option V)} {H' : Hp} {s' : Shared}, Inv Y (pins ++ pinsAt fp s7.heap) σ' H' s' → Keeps σ0 σ' → Nx H' → ∃ m, m < n ∧ ∃ i H', Inv Y pins σ0 H' s' ∧ tn i s'.heap ∧ (∀ b ∈ fp, H' b = none) ∧ Wl i m H' := fun {σ' H' s'} I' kk nx => by
      obtain ⟨m', hm, w'⟩ := hNx H' nx
      have held : ∀ b ∈ fp, ∀ o, s7.heap.get? b = some o → s'.heap.get? b = some o ∧ H' b = none := fun b hb o e => by
        have z := I'.pin (b, o) (List.mem_append_right _ (List.mem_append_right _ (mem_pinsAt hb e)))
        exact ⟨z.1, z.2.1⟩
      refine ⟨m', hm, i + 1, H', I'.unpinned.weak kk.1 kk.2, T.keep _ _ _ st7 fun b hb o e => (held b hb o e).1, fun b hb => ?_, w'⟩
      obtain ⟨o, e, _⟩ := T.obj _ _ st7 b hb
      exact (held b hb o e).2
    cases b with
    | false =>
      rw [if_neg Bool.false_ne_true] at q9
      exact wpAny_pure ⟨rfl, fin I9 k8 q9⟩
    | true =>
      rw [if_pos rfl] at q9
      refine thnF (hact (Q' := fun s' => ∃ m, m < n ∧ ∃ i H', Inv Y pins σ0 H' s' ∧ tn i s'.heap ∧ (∀ b ∈ fp, H' b = none) ∧ Wl i m H') I9 k8 q9 fun I' kk nx => fin I' kk nx) ?_
      rintro _ s10 ⟨rfl, h10⟩
      exact ⟨rfl, h10⟩
end
end DL

set_option maxHeartbeats 200000
set_option Elab.async false
set_option linter.all false
set_option maxRecDepth 100000
set_option maxHeartbeats 4000000
namespace DL
open PySem PySem.Spec PyProof.Rows L2
/-! ### {elt for tg in iter if .. for tg1 in iter1 if ..}, of ints, put at a name -/
abbrev scE (elt tg iter tg1 iter1 : Expr) (ifs ifs1 : List Expr) (scope : Scope) (pos : Pos) : Expr := .SetComp elt [⟨tg, iter, ifs, 0⟩, ⟨tg1, iter1, ifs1, 0⟩] scope pos
section
variable {prog : Program} {w : World} {A : Around} {R : Result → Shared → Prop} {s : Shared} {elt tg iter tg1 iter1 : Expr} {ifs ifs1 : List Expr} {scope : Scope} {pos : Pos} {it acc : Value} {env : Env}
theorem sc2_start1 (h0 : codeAny (model prog w) A (.compLoop (scE elt tg iter tg1 iter1 ifs ifs1 scope pos) 1 it acc env) R s)
    (h : wpAny (model prog w) A (pyIter it) (fun j t => codeAny (model prog w) A (.compLoop (scE elt tg iter tg1 iter1 ifs ifs1 scope pos) 1 j acc env) R t) (notedBy (model prog w) A env fun x t => R (.error x) t) s) :
    codeAny (model prog w) A (.compStart (scE elt tg iter tg1 iter1 ifs ifs1 scope pos) 1 it acc env) R s := by
  refine codeAny_of_tree (show wpAny _ _ ((compStart (scE elt tg iter tg1 iter1 ifs ifs1 scope pos) 1 it acc env).onRaise (fun x => do noteFrame x env; standAt theWindowsPlace)) _ _ s from ?_)
  refine wpAny_notedAt (?_ : wpAny _ _ (ask >>= _) _ _ s)
  refine wpAny_bind (wpAny_askSetting (wpAny_ite (?_ : ite _ _ _)))
  split
  · first | exact wpAny_bind (wpAny_pure (wpAny_pure ⟨rfl, h0⟩)) | exact wpAny_pure ⟨rfl, h0⟩
  · have h' := wpAny_mono h (fun j t q => wpAny_pure (M := model prog w) (A := A) (E := fun e t => notedBy (model prog w) A env (fun x t => R (.error x) t) e t) (a := Fin.again (.compLoop (scE elt tg iter tg1 iter1 ifs ifs1 scope pos) 1 j acc env)) (Q := fun fin t => match fin with | .done f => R (.ok f) t | .again c => c.quiet = true ∧ codeAny (model prog w) A c R t) (s := t) ⟨rfl, q⟩) fun _ _ e => e
    first
      | exact wpAny_bind (wpAny_rule (wpAny_bind (wpAny_standAt (wpAny_bind h'))))
      | (refine wpAny_bind (wpAny_rule (?_ : wpAny _ _ (standAt iter1.pos >>= _) _ _ s)); exact wpAny_bind (wpAny_standAt (wpAny_bind h')))
end
def scIn (w : World) (D : Addr) (wi1 : TI) (g1 : TG) (tt1 : TT) (te : TE) (vs1 : List Nat) (σ2 : List (Option V)) (H3 : Hp) (Nx : Hp → Prop) : Prop := wi1 σ2 H3 fun J1 H4 => ∃ W1 : Nat → Nat → Hp → Prop, (∃ m, W1 0 m H4) ∧ ∀ j k H, W1 j k H →
  (J1.stop j H ∧ Nx H) ∨ (J1.go j H ∧ ∃ Nx1 : Hp → Prop, (∀ H', Nx1 H' → ∃ k', k' < k ∧ W1 (j + 1) k' H') ∧ ∀ x H', J1.yld j H x H' → g1 x (wipe σ2 vs1) H' fun σ3 H5 => Keeps (wipe σ2 vs1) σ3 ∧ tt1 σ3 H5 fun b H6 =>
    if b = true then te σ3 H6 fun y H7 => ∃ (c : Int) (S : Int → Bool) (n : Nat), y = .int c ∧ H7 D = some (SetO w D S n) ∧ n + 1 < scanBound ∧ Nx1 (upd H7 D (SetO w D (fun j => S j || decide (j = c)) (if S c = true then n else n + 1))) else Nx1 H6)
def tSc2 (w : World) (wi : TI) (g : TG) (tt : TT) (wi1 : TI) (g1 : TG) (tt1 : TT) (te : TE) (vs vs1 : List Nat) : TE := fun σ H Q => wi σ H fun J H1 => ∀ D, H1 D = none → ∃ W : Nat → Nat → Hp → Prop, (∃ m, W 0 m (upd H1 D (SetO w D (fun _ => false) 0))) ∧ ∀ i m H, W i m H →
  (J.stop i H ∧ Q (.ref D) H) ∨ (J.go i H ∧ ∃ Nx : Hp → Prop, (∀ H', Nx H' → ∃ m', m' < m ∧ W (i + 1) m' H') ∧ ∀ x H', J.yld i H x H' → g x (wipe σ vs) H' fun σ2 H2 => Keeps (wipe σ vs) σ2 ∧ tt σ2 H2 fun b H3 => if b = true then scIn w D wi1 g1 tt1 te vs1 σ2 H3 Nx else Nx H3)
theorem keeps_wipe (σ : List (Option V)) (vs : List Nat) : Keeps (wipe σ vs) σ := ⟨wipe_length _ _, fun _ _ e => (wipe_some e).1⟩
theorem keeps_sub {a b : List (Option V)} {vs vs1 : List Nat} (h : Keeps (wipe a vs) b) (hv : ∀ i ∈ vs1, i ∈ vs) : Keeps (wipe a vs) (wipe b vs1) := ⟨h.1.trans (wipe_length _ _).symm, fun j v e => by
  rw [DL.wipe_out fun z => (wipe_some e).2 (hv j z)]
  exact h.2 j v e⟩
section
variable {X : Cx}
/-- the block's names in its own context -/
abbrev inBlk (X : Cx) (scope : Scope) (f : Cx → Prop) : Prop := ∀ (s : Shared) (H : Hp) (C : Addr) (cl : List (Str × Addr)) (fp : List Addr), f (X.blk s H scope (compEnvC scope cl C X.env) fp)
theorem sc2_core {pins : List (Addr × Obj)} {s : Shared} {σ : List (Option V)} {H : Hp} {Q : VK} {elt tg iter tg1 iter1 : Expr} {ifs ifs1 : List Expr} {scope : Scope} {own : List (Str × Nat)} {vs1 : List Nat} {pos pos' : Pos} {wi wi1 : TI} {g g1 : TG} {tt tt1 : TT} {te : TE} {use : Option (Value → Sem Unit)} {Qf : Value → Shared → Prop}
    (hc : X.calm = true) (hN : X.N.Nodup) (I : Inv X pins σ H s) (hi : PI X tg iter wi) (ok : BlkOk X.N X.env.scope scope own) (hv : ∀ i ∈ vs1, i ∈ own.map (·.2))
    (hg : inBlk X scope fun Z => PG Z tg g) (ht : inBlk X scope fun Z => PTs Z ifs tt) (hi1 : inBlk X scope fun Z => PI Z tg1 iter1 wi1) (hg1 : inBlk X scope fun Z => PG Z tg1 g1) (ht1 : inBlk X scope fun Z => PTs Z ifs1 tt1) (he : inBlk X scope fun Z => PE Z elt te)
    (hs : ∀ x, foldedSetIterable iter X.env x = pure x) (hs1 : ∀ env x, foldedSetIterable iter1 env x = pure x) (h : tSc2 X.w wi g tt wi1 g1 tt1 te (own.map (·.2)) vs1 σ H Q)
    (hRR : ∀ D C s' m H', Inv X pins σ H' s' → Q (.ref D) H' → s'.heap.Ns C m → FpOk X pins H' C → compPost (model X.prog X.w) X.A X.xe use Qf (.ref D) C (.ok .next) s') :
    wpAny (model X.prog X.w) X.A (comprehension (scE elt tg iter tg1 iter1 ifs ifs1 scope pos) scope X.env pos' (newSet (.type "set")) false (eval iter X.env) use) Qf X.xe s := by
  have hfree : ∀ y ∈ scope.names, y.2 = .free → ∃ c, X.env.cells.lookup y.1 = some c := fun y hy e => (ok.free y hy e).elim (fun z => I.ok.has _ (.inl z)) fun z => I.ok.has _ (.inr z)
  refine wpAny_comprehension_free (use := use) rfl hs (closure_ok hfree) ok.kind (fun y hy e => (ok.uniq y hy).trans (by rw [e])) (thn (hi.run pins s σ H _ I h) fun xv s1 hx => thn hx fun itv s2 h2 => ?_)
  obtain ⟨it, fp, tn, J, H2, rfl, I2, T, st2, f2, q⟩ := h2
  refine PpSet.newSet_ok (newEnv_comp ?_)
  generalize hD : s2.heap.objs.size = D
  have hDn : H2 D = none := I2.hok.fresh (Nat.le_of_eq hD)
  obtain ⟨Wl, ⟨m0, w0⟩, turn⟩ := q D hDn
  generalize hob : ({ cls := .type "set", dict := none, data := .set #[] 0 (.fresh 0 0 (!X.w.params.followText "set-order")) } : Obj) = ob
  have fresh : SetR X.w (s2.heap.push ob) D (fun _ => false) 0 := by rw [← hD, ← hob]; exact setR_fresh X.w
  generalize hs3 : ({ s2 with heap := s2.heap.push ob } : Shared) = s3
  have k3 : ∀ b o, s2.heap.get? b = some o → s3.heap.get? b = some o := fun b o e => by rw [← hs3]; exact Heap.get?_push_of_some _ e
  have I3 : Inv X pins σ (upd H2 D (SetO X.w D (fun _ => false) 0)) s3 := by
    rw [← hs3]
    exact I2.laid (t' := s2.toks) (fun b o e => Heap.get?_push_of_some _ e) (Nat.le_of_eq hD) (setO_new fresh)
  have lt2 : ∀ b ∈ fp, b < s2.heap.objs.size := fun b hb => (T.obj _ _ st2 b hb).elim fun o e => Heap.lt_size e.1
  have sz3 : s3.heap.objs.size = s2.heap.objs.size + 1 := by rw [← hs3]; exact Heap.size_push ..
  have f3 : ∀ b ∈ fp, FpOk X pins (upd H2 D (SetO X.w D (fun _ => false) 0)) b ∧ b < s3.heap.objs.size := fun b hb => by
    have hlt := lt2 b hb
    have hbD : b ≠ D := fun z => by rw [z, ← hD] at hlt; exact absurd hlt (Nat.lt_irrefl _)
    exact ⟨⟨by rw [upd_ne hbD]; exact (f2 b hb).1, (f2 b hb).2⟩, by rw [sz3]; exact Nat.lt_succ_of_lt hlt⟩
  have st3 : tn 0 s3.heap := T.keep _ _ _ st2 fun b _ o e => k3 b o e
  have I4 := block_start I3 ok hN f3
  generalize hH3 : upd H2 D (SetO X.w D (fun _ => false) 0) = H3 at I3 I4 w0 f3
  generalize hcl : cellsFrom (s3.heap.objs.size + 1) scope.names (cloFrom X.env.cells scope.names []) = cl at I4
  have pg := hg s3 H3 s3.heap.objs.size cl fp
  have pt := ht s3 H3 s3.heap.objs.size cl fp
  have pe := he s3 H3 s3.heap.objs.size cl fp
  have pi1 := hi1 s3 H3 s3.heap.objs.size cl fp
  have pg1 := hg1 s3 H3 s3.heap.objs.size cl fp
  have pt1 := ht1 s3 H3 s3.heap.objs.size cl fp
  show codeAny _ _ (.compStart (scE elt tg iter tg1 iter1 ifs ifs1 scope pos) 0 (.ref it) (.ref D) (compEnvC scope cl s3.heap.objs.size X.env)) (compPost (model X.prog X.w) X.A X.xe use Qf (.ref D) s3.heap.objs.size) { s3 with heap := pushCells (s3.heap.push { cls := .type "dict", data := .dict #[] }) scope.names }
  generalize hce : compEnvC scope cl s3.heap.objs.size X.env = ce at I4 pg pt pe pi1 pg1 pt1 ⊢
  have cL : ce.locals = s3.heap.objs.size := by subst hce; rfl
  generalize hs4 : ({ s3 with heap := pushCells (s3.heap.push { cls := .type "dict", data := .dict #[] }) scope.names } : Shared) = s4 at I4 ⊢
  have st4 : tn 0 s4.heap := T.keep _ _ _ st3 fun b _ o e => by rw [← hs4]; exact pushCells_keeps _ _ _ _ (Heap.get?_push_of_some _ e)
  generalize hY : X.blk s3 H3 scope ce fp = Y at I4 pg pt pe pi1 pg1 pt1
  have hYp : Y.prog = X.prog := by rw [← hY]
  have hYw : Y.w = X.w := by rw [← hY]
  have hYK : Y.K = X.K := by rw [← hY]
  have hYA : Y.A = X.A := by rw [← hY]
  have hYe : Y.env = ce := by rw [← hY]
  have hYx : Y.ex = fp := by rw [← hY]
  have hxe : Y.xe = fun _ _ => False := by rw [← hY]
  have hpn : Y.pn = [] := by rw [← hY]
  have hYc : Y.calm = true := by rw [← hY]; exact hc
  have stat : ∀ {σ' : List (Option V)} {H' : Hp} {s' : Shared}, Inv Y [] σ' H' s' → (∀ b ∈ fp, H' b = none) → ∀ b ∈ fp, FpOk Y [] H' b := fun {σ' H' s'} I' hn b hb => by
    have hx : b ∈ Y.ex := by rw [hYx]; exact hb
    exact ⟨hn b hb, (I'.ok.exf b hx).1, I'.ok.exfs b hx, .inl hx, fun x c e => (I'.ok.exf b hx).2 x c e, fun p hp => by rw [hpn] at hp; cases hp⟩
  have loop : codeAny (model X.prog X.w) X.A (.compLoop (scE elt tg iter tg1 iter1 ifs ifs1 scope pos) 0 (.ref it) (.ref D) ce) (compPost (model X.prog X.w) X.A X.xe use Qf (.ref D) s3.heap.objs.size) s4 := by
    rw [← hYp, ← hYw, ← hYA, ← hYe]
    refine clause_runs (p := iter.pos) (tg := tg) (ifs := ifs) (act := do
        let x ← eval iter1 Y.env
        standAt iter1.pos
        let x ← foldedSetIterable iter1 Y.env x
        let _ ← runOwn (.compStart (scE elt tg iter tg1 iter1 ifs ifs1 scope pos) 1 (← holding [x] (pyIter x)) (.ref D) Y.env) Y.env
        again (.compLoop (scE elt tg iter tg1 iter1 ifs ifs1 scope pos) 0 (.ref it) (.ref D) Y.env))
      hxe hYc rfl rfl rfl rfl (hYp ▸ hYw ▸ hYK ▸ T) stat pg pt Wl (fun H => Q (.ref D) H) (fun σ2 H3 Nx => scIn X.w D wi1 g1 tt1 te vs1 σ2 H3 Nx) turn ?_ ?_ I4 st4 (fun b hb => (f3 b hb).1.1) w0
    · intro pn σ2 H5 s5 Nx Q' I5 kk hA nxt
      refine wpAny_bind (offF hxe (pi1.run _ s5 σ2 H5 _ I5 hA) fun xv s10 hx => ?_)
      refine wpAny_bind (wpAny_standAt (wpAny_bind (wpAny_of_eq (hs1 _ xv) (wpAny_bind (wpAny_holding (offF hxe hx fun itv s11 h11 => ?_))))))
      obtain ⟨it1, fp1, tn1, J1, H11, rfl, I11, T1, st11, f11, W1, ⟨m1, w1⟩, turn1⟩ := h11
      refine wpAny_bind (wpAny_runOwn ?_)
      rw [Around.mark_none]
      refine codeAny_mono (R := fun r s' => match r with | .ok _ => Q' s' | .error _ => False) ?_ fun r s' hr => ?_
      · have loop1 : codeAny (model Y.prog Y.w) Y.A (.compLoop (scE elt tg iter tg1 iter1 ifs ifs1 scope pos) 1 (.ref it1) (.ref D) Y.env) (fun r s' => match r with | .ok _ => Q' s' | .error _ => False) s11 := by
          refine clause_runs (p := iter1.pos) (tg := tg1) (ifs := ifs1) (act := do
              (do let v ← eval elt Y.env; standAt elt.pos; let _ ← call (.builtin "set.add") [.ref D, v])
              again (.compLoop (scE elt tg iter tg1 iter1 ifs ifs1 scope pos) 1 (.ref it1) (.ref D) Y.env))
            hxe hYc rfl rfl rfl rfl T1 (fun _ hn b hb => ⟨hn b hb, (f11 b hb).2⟩) pg1 pt1 W1 Nx
            (fun σ3 H6 Nx1 => te σ3 H6 fun y H7 => ∃ (c : Int) (S : Int → Bool) (n : Nat), y = .int c ∧ H7 D = some (SetO X.w D S n) ∧ n + 1 < scanBound ∧ Nx1 (upd H7 D (SetO X.w D (fun j => S j || decide (j = c)) (if S c = true then n else n + 1))))
            turn1 ?_ (fun I' nx => nxt I' (keeps_sub kk hv) nx) (I11.weak (wipe_length _ _) fun j v e => (wipe_some e).1) st11 (fun b hb => (f11 b hb).1) w1
          intro pn1 σ3 H7 s7 Nx1 Q1 I7 kk1 hA1 nxt1
          refine wpAny_bind (wpAny_bind (offF hxe (pe.run _ s7 σ3 H7 _ I7 hA1) fun z s8 h8 => ?_))
          obtain ⟨yv, H8, I8, r8, c, S, n, rfl, hD8, hz, nx⟩ := h8
          obtain ⟨tk, rfl⟩ : ∃ tk, z = Value.int c tk := r8
          refine wpAny_bind (wpAny_standAt (wpAny_bind ?_))
          rw [← hYw] at hD8 nx
          refine setR_add (setO_get I8 hD8) hz fun h' sb new => wpAny_pure (wpAny_pure ⟨rfl, ?_⟩)
          have there : ∃ u, h'.get? D = some u := new.elim fun o q => by
            obtain ⟨_, _, _, ho, _⟩ := q
            exact ⟨o, ho⟩
          exact nxt1 (I8.write (e := D) (t' := s8.toks + 1) (by rw [hD8]; trivial) (.inl rfl) (fun b u hb hu => (sb.2 b hb).trans hu) there (setO_new new)) kk1 nx
        exact sc2_start1 loop1 (T1.self Y.A 0 _ _ _ st11 loop1)
      · cases r with
        | ok f => exact wpAny_pure ⟨rfl, hr⟩
        | error e => exact hr.elim
    · intro s6 H6 I6 qq
      subst hY
      have I7 : Inv X pins σ H6 s6 := I3.call' (ch := fp) I6.os I6.base I6.hok I6.bare fun b hb => by
        obtain ⟨q0, q1, q2, q3, q4, q5⟩ := (f3 b hb).1
        exact ⟨q3, q1, q4, q5⟩
      have nC : H6 s3.heap.objs.size = none := by rw [← cL]; exact I6.free
      obtain ⟨m, hn, _⟩ := I6.loc
      exact hRR D _ s6 m H6 I7 qq (by rw [← cL]; exact hn) (I3.fpOk (Nat.le_refl _) nC)
  exact PpSet.codeAny_compStart_set loop (T.self X.A 0 _ _ _ st4 loop)
end
end DL

set_option maxHeartbeats 200000
set_option Elab.async false
set_option linter.all false
set_option maxRecDepth 100000
set_option maxHeartbeats 4000000
namespace DL
open PySem PySem.Spec PyProof.Rows L2
theorem wik_tup {B : Bs} {te : TE} {δ : St'} {Ψ : List PyData → St' → Prop} (h : WE B te δ fun x δ' => ∃ xs, x = .tuple xs ∧ Ψ xs δ') : WIk B (iTup B.K te) δ Ψ := fun σ F H r R q => h σ F H r _ fun v x δ' F' H' e r' d ⟨xs, hx, p⟩ => by
  subst hx
  cases d with
  | tup hs ha => exact ⟨_, rfl, ⟨_, seqT r'.ex hs⟩, q _ xs δ' F' H' e r' (wk_tup hs ha) p⟩
/-- what a block knew, at a later time, without what it wipes -/
theorem Rep.anew {B B1 : Bs} {δ δ1 : St'} {σ σ2 : List (Option V)} {F F6 H H6 : Hp} (r : Rep B δ σ F H) (r1 : Rep B1 δ1 σ2 F6 H6) (hp : B1.p = B.p) (hm : B1.m = B.m) (hK : B1.K = B.K) (e : Same F6 F) (vs : List Nat) : Rep ⟨⟨F, H, B.p, B.m⟩, B.w, B.K⟩ ⟨δ.n, inn vs 0 δ1.s⟩ (wipe σ2 vs) F H := by
  refine ⟨r.ex, Same.refl _, fun b h1 _ => h1, fun b o h _ => h, fun a h => ⟨r.potF h, r.potH h, (r.pot a h).2.2⟩, fun i c h => ?_, by rw [wipe_length, inn_len]; exact r1.len, fun i j c c' hij h1 h2 o1 o2 => ?_⟩
  · have h' : (inn vs 0 δ1.s)[i]? = some (some c) := h
    rw [inn_get, Option.map_eq_some_iff] at h'
    obtain ⟨c0, h0, h1⟩ := h'
    by_cases hv : vs.contains (0 + i)
    · rw [if_pos hv] at h1; cases h1
    · rw [if_neg hv] at h1
      have hni : i ∉ vs := fun z => hv (by rw [Nat.zero_add]; exact List.contains_iff_mem.mpr z)
      rcases c0 with _ | c0
      · cases h1
      · obtain ⟨v, hv, hc⟩ := r1.cell i _ h0
        cases c0 with
        | own _ => cases h1
        | dct _ => cases h1
        | iset _ => cases h1
        | d x =>
          injection h1 with h1
          subst h1
          exact ⟨v, (DL.wipe_out hni).trans hv, dp_mono e _ _ (hK ▸ hc)⟩
        | pot =>
          injection h1 with h1
          subst h1
          obtain ⟨a, rfl, ha, hm'⟩ := hc
          exact ⟨_, (DL.wipe_out hni).trans hv, a, rfl, hp ▸ ha, hm ▸ hm'⟩
        | bor =>
          injection h1 with h1
          subst h1
          obtain ⟨a, rfl, ha, hm'⟩ := hc
          exact ⟨_, (DL.wipe_out hni).trans hv, a, rfl, hp ▸ ha, hm ▸ hm'⟩
  · have h' : (inn vs 0 δ1.s)[i]? = some (some c) := h1
    rw [inn_get, Option.map_eq_some_iff] at h'
    obtain ⟨c0, _, e⟩ := h'
    by_cases hv : vs.contains (0 + i)
    · rw [if_pos hv] at e; cases e
    · rw [if_neg hv] at e
      rcases c0 with _ | c0
      · cases e
      · cases c0 <;> simp [strip] at e <;> (subst e; cases o1)
theorem ex_snoc {α : Type} {l : List α} {a : α} {P : α → Prop} : (∃ y, y ∈ l ++ [a] ∧ P y) ↔ (∃ y, y ∈ l ∧ P y) ∨ P a := by
  constructor
  · rintro ⟨y, hy, p⟩
    rcases List.mem_append.mp hy with z | z
    · exact .inl ⟨y, z, p⟩
    · exact .inr (List.mem_singleton.mp z ▸ p)
  · rintro (⟨y, hy, p⟩ | p)
    · exact ⟨y, List.mem_append_left _ hy, p⟩
    · exact ⟨a, by simp, p⟩
theorem mem_snocM {l : List PyData} {a : PyData} {f : PyData → Option Int} {c : Int} : c ∈ (l ++ [a]).filterMap f ↔ c ∈ l.filterMap f ∨ f a = some c := by
  rw [List.filterMap_append, List.mem_append]
  cases h : f a with
  | none => simp [h]
  | some d => simp [h, eq_comm]
def addI (ls : List Int) (c : Int) : List Int := if c ∈ ls then ls else ls ++ [c]
theorem mem_addI {ls : List Int} {c k : Int} : k ∈ addI ls c ↔ k ∈ ls ∨ k = c := by
  unfold addI
  split
  · exact ⟨.inl, fun h => h.elim id fun e => e ▸ ‹_›⟩
  · simp
theorem nodup_addI {ls : List Int} {c : Int} (h : ls.Nodup) : (addI ls c).Nodup := by
  unfold addI
  split
  · exact h
  · rename_i hc
    exact List.nodup_append.mpr ⟨h, List.pairwise_singleton _ c, fun a ha b hb e => hc (by rw [List.mem_singleton.mp hb] at e; exact e ▸ ha)⟩
theorem len_addI {ls : List Int} {c : Int} : (addI ls c).length ≤ ls.length + 1 := by
  unfold addI
  split
  · omega
  · simp
theorem iset_add {w : World} {a : Addr} {ls : List Int} {c : Int} : SetO w a (fun j => decide (j ∈ ls) || decide (j = c)) (if decide (c ∈ ls) = true then ls.length else ls.length + 1) = isetO w a (addI ls c) := by
  have e1 : (fun j : Int => decide (j ∈ ls) || decide (j = c)) = fun j => decide (j ∈ addI ls c) := by
    funext j
    rw [decide_eq_decide.mpr mem_addI, Bool.decide_or]
  have e2 : (if decide (c ∈ ls) = true then ls.length else ls.length + 1) = (addI ls c).length := by
    unfold addI
    by_cases h : c ∈ ls
    · rw [if_pos (decide_eq_true h), if_pos h]
    · rw [if_neg (by rw [decide_eq_false h]; exact Bool.false_ne_true), if_neg h, List.length_append]
      rfl
  unfold isetO
  rw [e1, e2]
theorem iset_nil {w : World} {a : Addr} : SetO w a (fun _ => false) 0 = isetO w a [] := by
  unfold isetO
  congr 1
/-- x = {.. for .. for ..}: f tells which ints come of an item -/
theorem ws_sc2 {B : Bs} {wi wi1 : TI} {g g1 : TG} {tt tt1 : TT} {te : TE} {vs vs1 : List Nat} {δ : St'} {N : St' → Prop} {R : PE1} {i : Nat}
    (h : WI B wi δ fun xs δ1 => xs.length ≤ 64 ∧ ∃ f : PyData → List Int,
      (∀ (B' : B0) y, Sub B.toB0 B' → y ∈ xs → WG ⟨B', B.w, B.K⟩ g vs y ⟨δ1.n, inn vs 0 δ1.s⟩ fun δ2 => WT ⟨B', B.w, B.K⟩ tt δ2 fun b δ3 =>
        if b = true then WIk ⟨B', B.w, B.K⟩ wi1 δ3 fun ys δ4 => δ4.n = δ1.n ∧ ys.length ≤ 32 ∧ ∃ f1 : PyData → Option Int, f y = ys.filterMap f1 ∧ ∀ (B2 : B0) z, Sub B.toB0 B2 → z ∈ ys → WG ⟨B2, B.w, B.K⟩ g1 vs1 z ⟨δ1.n, inn vs1 0 δ4.s⟩ fun δ5 =>
          WT ⟨B2, B.w, B.K⟩ tt1 δ5 fun b1 δ6 => if b1 = true then WE ⟨B2, B.w, B.K⟩ te δ6 fun x δ7 => δ7.n = δ1.n ∧ ∃ c, x = .int c ∧ f1 z = some c else δ6.n = δ1.n ∧ f1 z = none
        else δ3.n = δ1.n ∧ f y = []) ∧
      ∀ ls : List Int, ls.Nodup → (∀ c, c ∈ ls ↔ ∃ y ∈ xs, c ∈ f y) → N (δ1.put i (.iset ls))) : WS B (tAsg (tSc2 B.w wi g tt wi1 g1 tt1 te vs vs1) (gName i)) δ N R := fun σ F H r D hn hr =>
  h σ F H r _ fun J xs δ1 F1 H1 e1 r1 w ⟨hz, f, hs, hd⟩ Dd hD => by
    obtain ⟨hB, hF, hp, hap⟩ := r1.fresh hD
    refine ⟨fun k m H2 => k + m = xs.length ∧ ∃ F2 ls, Same F1 F2 ∧ Rep B δ1 σ F2 H2 ∧ H2 Dd = some (isetO B.w Dd ls) ∧ F2 Dd = none ∧ ls.Nodup ∧ (∀ c, c ∈ ls ↔ ∃ y ∈ xs.take k, c ∈ f y) ∧ ls.length ≤ 32 * k,
      ⟨xs.length, by simp, F1, [], Same.refl _, r1.side hF hB hap, by rw [upd_same, iset_nil], hF, .nil, by simp, by simp⟩, fun k m H2 hW => ?_⟩
    obtain ⟨em, F2, ls, e2, r2, hD2, hF2, nd, mem, hl⟩ := hW
    by_cases hlt : k < xs.length
    · have hxk := List.getElem?_eq_getElem hlt
      have htk : xs.take (k + 1) = xs.take k ++ [xs[k]] := by rw [List.take_succ, hxk]; rfl
      refine .inr ⟨w.go k _ σ F2 H2 e2 r2 hlt, fun H' => ∃ F3 ls, Same F1 F3 ∧ Rep B δ1 σ F3 H' ∧ H' Dd = some (isetO B.w Dd ls) ∧ F3 Dd = none ∧ ls.Nodup ∧ (∀ c, c ∈ ls ↔ ∃ y ∈ xs.take (k + 1), c ∈ f y) ∧ ls.length ≤ 32 * (k + 1), fun H' p => ⟨m - 1, by omega, by omega, p⟩, fun x H' hy => ?_⟩
      obtain ⟨F3, e3, r3, s3, f3, d3⟩ := w.yld k _ σ F2 H2 x H' xs[k] e2 r2 hxk hy
      have hD3 : H' Dd = some (isetO B.w Dd ls) := s3 _ _ hD2
      have hF3 : F3 Dd = none := f3 Dd hF2 (by rw [hD2]; exact fun z => by cases z)
      refine hs ⟨F3, H', B.p, B.m⟩ xs[k] ⟨rfl, r3.f0, r3.fr, r3.kp⟩ (List.getElem_mem hlt) (wipe σ vs) F3 H' (r3.inner vs) x d3 _ fun δ2 σ2 r4 k1 k2 p4 => ?_
      have hk2 : Keeps (wipe σ vs) σ2 := ⟨k2.symm, fun j v e => by
        rw [k1 j fun z => (wipe_some e).2 z]
        exact e⟩
      refine ⟨hk2, p4 σ2 F3 H' r4 _ fun b δ3 F5 H5 e5 r5 p5 => ?_⟩
      -- from the block's begin at this turn to what is known outside
      have back : ∀ {δ6 : St'} {σ6 : List (Option V)} {F6 H6 : Hp}, δ6.n = δ1.n → Rep ⟨⟨F3, H', B.p, B.m⟩, B.w, B.K⟩ δ6 σ6 F6 H6 → Rep B δ1 σ F6 H6 ∧ H6 Dd = some (isetO B.w Dd ls) ∧ F6 Dd = none := fun {δ6 σ6 F6 H6} en r6 => by
        have q := r3.outer r6
        rw [en] at q
        exact ⟨q, r6.kp Dd _ hD3 hp, r6.fr Dd hF3 (by show H' Dd ≠ none; rw [hD3]; exact fun z => by cases z)⟩
      cases b with
      | false =>
        rw [if_neg Bool.false_ne_true] at p5
        obtain ⟨q1, q2, q3⟩ := back p5.1 r5
        refine iteF ⟨F5, ls, (e2.trans e3).trans e5, q1, q2, q3, nd, fun c => ?_, by omega⟩
        rw [mem, htk, ex_snoc, p5.2]
        exact ⟨.inl, fun q => q.elim id fun z => by cases z⟩
      | true =>
        rw [if_pos rfl] at p5
        refine iteT (p5 σ2 F5 H5 r5 _ fun J1 ys δ4 F6 H6 e6 r6 w1 ⟨en, hys, f1, ef, p6⟩ => ?_)
        obtain ⟨q1, q2, q3⟩ := back en r6
        have e16 : Same F1 F6 := ((e2.trans e3).trans e5).trans e6
        refine ⟨fun j m1 H7 => j + m1 = ys.length ∧ ∃ F7 ls1, Same F6 F7 ∧ Rep B δ1 σ F7 H7 ∧ H7 Dd = some (isetO B.w Dd ls1) ∧ F7 Dd = none ∧ ls1.Nodup ∧ (∀ c, c ∈ ls1 ↔ (∃ y ∈ xs.take k, c ∈ f y) ∨ c ∈ (ys.take j).filterMap f1) ∧ ls1.length ≤ 32 * k + j,
          ⟨ys.length, by simp, F6, ls, Same.refl _, q1, q2, q3, nd, by simpa using mem, by omega⟩, fun j m1 H7 hW1 => ?_⟩
        obtain ⟨em1, F7, ls1, e7, r7, hD7, hF7, nd1, mem1, hl1⟩ := hW1
        by_cases hlt1 : j < ys.length
        · have hyj := List.getElem?_eq_getElem hlt1
          have htj : ys.take (j + 1) = ys.take j ++ [ys[j]] := by rw [List.take_succ, hyj]; rfl
          refine .inr ⟨w1.go B j δ1 σ F7 H7 rfl rfl e7 r7 hlt1, fun H' => ∃ F8 ls1, Same F6 F8 ∧ Rep B δ1 σ F8 H' ∧ H' Dd = some (isetO B.w Dd ls1) ∧ F8 Dd = none ∧ ls1.Nodup ∧ (∀ c, c ∈ ls1 ↔ (∃ y ∈ xs.take k, c ∈ f y) ∨ c ∈ (ys.take (j + 1)).filterMap f1) ∧ ls1.length ≤ 32 * k + (j + 1), fun H' p => ⟨m1 - 1, by omega, by omega, p⟩, fun x1 H8 hy1 => ?_⟩
          obtain ⟨F8, e8, r8, s8, f8, d8⟩ := w1.yld B j δ1 σ F7 H7 x1 H8 ys[j] rfl rfl e7 r7 hyj hy1
          have hD8 : H8 Dd = some (isetO B.w Dd ls1) := s8 _ _ hD7
          have hF8 : F8 Dd = none := f8 Dd hF7 (by rw [hD7]; exact fun z => by cases z)
          have ra := r8.anew r6 (by rfl) (by rfl) (by rfl) (e7.trans e8) vs1
          refine p6 ⟨F8, H8, B.p, B.m⟩ ys[j] ⟨rfl, r8.f0, r8.fr, r8.kp⟩ (List.getElem_mem hlt1) (wipe σ2 vs1) F8 H8 ra x1 d8 _ fun δ5 σ5 r9 j1 j2 p9 => ?_
          refine ⟨⟨j2.symm, fun l v e => by rw [j1 l fun z => (wipe_some e).2 z]; exact e⟩, p9 σ5 F8 H8 r9 _ fun b1 δ6 F10 H10 e10 r10 p10 => ?_⟩
          have back1 : ∀ {δ' : St'} {σ' : List (Option V)} {F' H' : Hp}, δ'.n = δ1.n → Rep ⟨⟨F8, H8, B.p, B.m⟩, B.w, B.K⟩ δ' σ' F' H' → Rep B δ1 σ F' H' ∧ H' Dd = some (isetO B.w Dd ls1) ∧ F' Dd = none := fun {δ' σ' F' H'} en r' => by
            have q := r8.outer r'
            rw [en] at q
            exact ⟨q, r'.kp Dd _ hD8 hp, r'.fr Dd hF8 (by show H8 Dd ≠ none; rw [hD8]; exact fun z => by cases z)⟩
          cases b1 with
          | false =>
            rw [if_neg Bool.false_ne_true] at p10
            obtain ⟨k1', k2', k3'⟩ := back1 p10.1 r10
            refine iteF ⟨F10, ls1, (e7.trans e8).trans e10, k1', k2', k3', nd1, fun c => ?_, by omega⟩
            rw [mem1, htj, mem_snocM, p10.2]
            exact ⟨fun q => q.elim .inl fun z => .inr (.inl z), fun q => q.elim .inl fun z => z.elim .inr fun y => by cases y⟩
          | true =>
            rw [if_pos rfl] at p10
            refine iteT (p10 σ5 F10 H10 r10 _ fun v x δ7 F11 H11 e11 r11 d11 p11 => ?_)
            obtain ⟨en7, c, rfl, hc⟩ := p11
            obtain ⟨k1', k2', k3'⟩ := back1 en7 r11
            cases d11
            refine ⟨c, _, ls1.length, rfl, k2', by unfold scanBound; omega, F11, addI ls1 c, ((e7.trans e8).trans e10).trans e11, ?_, ?_, k3', nodup_addI nd1, fun d => ?_, Nat.le_trans len_addI (by omega)⟩
            · exact k1'.side k3' hB hap
            · rw [upd_same, iset_add]
            · rw [mem_addI, mem1, htj, mem_snocM, hc, or_assoc]
              exact or_congr Iff.rfl (or_congr Iff.rfl ⟨fun q => by rw [q], fun q => by injection q with q; exact q.symm⟩)
        · have : j = ys.length := by omega
          subst this
          refine .inl ⟨w1.stop B _ δ1 σ F7 H7 rfl rfl e7 r7 (Nat.le_refl _), F7, ls1, e16.trans e7, r7, hD7, hF7, nd1, fun c => ?_, by omega⟩
          rw [mem1, htk, List.take_length, ← ef, ex_snoc]
    · have : k = xs.length := by omega
      subst this
      refine .inl ⟨w.stop _ _ σ F2 H2 e2 r2 (Nat.le_refl _), ?_⟩
      rw [List.take_length] at mem
      exact hn _ _ F2 H2 (e1.trans e2) (r2.putO i (c := .iset ls) hap ⟨Dd, rfl, hB, hF2, hD2⟩) (hd ls nd mem)
end DL

set_option maxHeartbeats 200000
set_option Elab.async false
set_option linter.all false
set_option maxRecDepth 100000
set_option maxHeartbeats 4000000
namespace DL
open PySem PySem.Spec PyProof.Rows L2
section
variable {X : Cx} {elt tg iter tg1 iter1 : Expr} {ifs ifs1 : List Expr} {scope : Scope} {own : List (Str × Nat)} {vs1 : List Nat} {pos spos py : Pos} {wi wi1 : TI} {g g1 : TG} {tt tt1 : TT} {te : TE} {i : Nat} {y : Str}
theorem sw_set {gs : List Comprehension} {l : Nat} {env : Env} (hk : env.scope.kind = .function) (hy : env.scope.names.lookup y = some .local) (hl : (py.line == pos.line) = true) (ha : (scope.names.any fun (n, k) => n == y && (k == .local || k == .cell)) = false) :
    swapsWith (.SetComp elt gs scope pos) (some (.Name y py)) l env = pure true := by
  have k1 : env.kindOf y = some .local := hy
  have k2 : env.blockKind = .function := by unfold Env.blockKind; rw [hk] <;> rfl
  unfold swapsWith
  simp only [k1, k2, ha, hl, Expr.pos] <;> rfl
theorem ps_setSc2 (hc : X.calm = true) (hN : X.N.Nodup) (hy : X.N[i]? = some y) (hyl : X.env.scope.names.lookup y = some .local) (hsw : swapsWith (scE elt tg iter tg1 iter1 ifs ifs1 scope pos) (some (.Name y py)) spos.line X.env = pure true)
    (hi : PI X tg iter wi) (ok : BlkOk X.N X.env.scope scope own) (hv : ∀ i ∈ vs1, i ∈ own.map (·.2))
    (hg : inBlk X scope fun Z => PG Z tg g) (ht : inBlk X scope fun Z => PTs Z ifs tt) (hi1 : inBlk X scope fun Z => PI Z tg1 iter1 wi1) (hg1 : inBlk X scope fun Z => PG Z tg1 g1) (ht1 : inBlk X scope fun Z => PTs Z ifs1 tt1) (he : inBlk X scope fun Z => PE Z elt te)
    (hs : ∀ x, foldedSetIterable iter X.env x = pure x := by intro _; rfl) (hs1 : ∀ env x, foldedSetIterable iter1 env x = pure x := by intro _ _; rfl) :
    PS X (.Assign [.Name y py] (scE elt tg iter tg1 iter1 ifs ifs1 scope pos) spos) (tAsg (tSc2 X.w wi g tt wi1 g1 tt1 te (own.map (·.2)) vs1) (gName i)) := .mk fun pins s σ H D I h => by
  rw [exec_Assign_Name_used _ _ _ _ hsw]
  refine wpAny_bind (wpAny_standAt (wpAny_bind (?_ : wpAny _ X.A (do let _ ← comprehension (scE elt tg iter tg1 iter1 ifs ifs1 scope pos) scope X.env (firstIterPos [⟨tg, iter, ifs, 0⟩, ⟨tg1, iter1, ifs1, 0⟩] pos) (newSet (.type "set")) false (eval iter X.env) (some (assign (.Name y py) X.env))) _ _ s)))
  have h2 : tSc2 X.w wi g tt wi1 g1 tt1 te (own.map (·.2)) vs1 σ H (fun x H1 => gName i x σ H1 D.nx) := h
  refine wpAny_bind (thn (sc2_core (Qf := fun _ s' => SP X pins D .next s') hc hN I hi ok hv hg ht hi1 hg1 ht1 he hs hs1 h2 fun L C s' m H' I' q hn f => ?_) fun _ s' hq => wpAny_pure (wpAny_pure hq))
  refine (wpAny_assign_Name (store_ok2 (v := V.ref L) I' hN hy (.inl hyl) rfl (fun s2 I2 ⟨a, sb, ha⟩ => ?_) (.inr hyl)) : wpAny _ _ (assign (.Name y py) X.env (.ref L)) _ _ _)
  obtain ⟨q0, q1, q2, q3, q4, q5⟩ := f
  have apart : C ≠ a := fun z => ha.elim (fun e => q1 (z.trans e)) fun e => q4 y a e z.symm
  exact ⟨m, hn.sameBut sb apart, fun h3 sb3 => ⟨_, H', I2.turned (t' := s2.toks) (fun b o hb e => (sb3.2 b hb).trans e) q0 q1 q3 q4 q5, q⟩⟩
end
section
variable {B : B0} {X : Cx} {elt cnd cnd1 tg iter tg1 e1 : Expr} {scope : Scope} {δ : St'} {N : St' → Prop} {R : PE1} {pos spos py : Pos} {wi : TI} {g g1 : TG} {y0 : Str}
/-- x = {elt for tg in iter if cnd for tg1 in e1 if cnd1}, e1 a tuple -/
theorem ds_setSc2 (i : Nat) (own : List (Str × Nat)) (vs1 : List Nat) (hN : X.N.Nodup) (hi : PI X tg iter wi) (ok : BlkOk X.N X.env.scope scope own) (hg : inBlk X scope fun Z => PG Z tg g) (hg1 : inBlk X scope fun Z => PG Z tg1 g1)
    (h : WI (bs X B) wi δ fun xs δ1 => xs.length ≤ 64 ∧ ∃ f : PyData → List Int,
      (∀ (B' : B0) y, Sub B B' → y ∈ xs → WG (bs X B') g (own.map (·.2)) y ⟨δ1.n, inn (own.map (·.2)) 0 δ1.s⟩ fun δ2 => ∀ s0 H0 C cl fp, DT B' (X.blk s0 H0 scope (compEnvC scope cl C X.env) fp) cnd δ2 fun b δ3 =>
        if b = true then ∀ s0 H0 C cl fp, DE B' (X.blk s0 H0 scope (compEnvC scope cl C X.env) fp) e1 δ3 fun x δ4 => ∃ ys, x = .tuple ys ∧ δ4.n = δ1.n ∧ ys.length ≤ 32 ∧ ∃ f1 : PyData → Option Int, f y = ys.filterMap f1 ∧ ∀ (B2 : B0) z, Sub B B2 → z ∈ ys →
          WG (bs X B2) g1 vs1 z ⟨δ1.n, inn vs1 0 δ4.s⟩ fun δ5 => ∀ s0 H0 C cl fp, DT B2 (X.blk s0 H0 scope (compEnvC scope cl C X.env) fp) cnd1 δ5 fun b1 δ6 =>
            if b1 = true then ∀ s0 H0 C cl fp, DE B2 (X.blk s0 H0 scope (compEnvC scope cl C X.env) fp) elt δ6 fun x δ7 => δ7.n = δ1.n ∧ ∃ c, x = .int c ∧ f1 z = some c else δ6.n = δ1.n ∧ f1 z = none
        else δ3.n = δ1.n ∧ f y = []) ∧
      ∀ ls : List Int, ls.Nodup → (∀ c, c ∈ ls ↔ ∃ y ∈ xs, c ∈ f y) → N (δ1.put i (.iset ls)))
    (hv : ∀ i ∈ vs1, i ∈ own.map (·.2) := by decide) (hy : X.N[i]? = some y0 := by rfl) (hyl : X.env.scope.names.lookup y0 = some .local := by rfl) (hsw : swapsWith (scE elt tg iter tg1 e1 [cnd] [cnd1] scope pos) (some (.Name y0 py)) spos.line X.env = pure true := by exact sw_set rfl rfl rfl rfl)
    (hc : X.calm = true := by rfl) (hs : ∀ x, foldedSetIterable iter X.env x = pure x := by intro _; rfl) (hs1 : ∀ env x, foldedSetIterable e1 env x = pure x := by intro _ _; rfl) :
    DS B X (.Assign [.Name y0 py] (scE elt tg iter tg1 e1 [cnd] [cnd1] scope pos) spos) δ N R :=
  .of (ps_setSc2 (tt := bT X scope cnd) (wi1 := iTup X.K (bE X scope e1)) (tt1 := bT X scope cnd1) (te := bE X scope elt) hc hN hy hyl hsw hi ok hv hg
    (fun s H C cl fp => pts_one ⟨fun pins s' σ H' Q I h => h s H C cl fp pins s' I⟩) (fun s H C cl fp => pi_tup ⟨fun pins s' σ H' Q I h => h s H C cl fp pins s' I⟩) hg1
    (fun s H C cl fp => pts_one ⟨fun pins s' σ H' Q I h => h s H C cl fp pins s' I⟩) (fun s H C cl fp => ⟨fun pins s' σ H' Q I h => h s H C cl fp pins s' I⟩) hs hs1)
    (ws_sc2 (B := bs X B) fun σ F H r R q => h σ F H r R fun J xs δ1 F' H' e r' w ⟨hz, f, h1, h2⟩ => q J xs δ1 F' H' e r' w ⟨hz, f, fun B' y hp hy σ F H r v d Q qq => h1 B' y hp hy σ F H r v d Q fun δ2 σ2 r2 k1 k2 p => qq δ2 σ2 r2 k1 k2 (WT.mono (bT_of p) fun b δ3 pb => by
      cases b with
      | false =>
        rw [if_neg Bool.false_ne_true] at pb ⊢
        exact pb
      | true =>
        rw [if_pos rfl] at pb ⊢
        refine wik_tup ((bE_of pb).mono fun x δ4 ⟨ys, hx, hn, hl, f1, ef, h3⟩ => ⟨ys, hx, hn, hl, f1, ef, fun B2 z hp2 hz2 => ?_⟩)
        intro σ F H r v d Q qq
        refine h3 B2 z hp2 hz2 σ F H r v d Q fun δ5 σ5 r5 j1 j2 p5 => qq δ5 σ5 r5 j1 j2 (WT.mono (bT_of p5) fun b1 δ6 pb1 => ?_)
        cases b1 with
        | false =>
          rw [if_neg Bool.false_ne_true] at pb1 ⊢
          exact pb1
        | true =>
          rw [if_pos rfl] at pb1 ⊢
          exact bE_of pb1), h2⟩)
end
end DL

set_option maxHeartbeats 200000
set_option Elab.async false
set_option linter.all false
set_option maxRecDepth 100000
set_option maxHeartbeats 4000000
namespace K3
open PySem PySem.Spec PyProof.Rows L2 DL
def topS (i : Nat) : Stmt := PySem.Challenge.pw_sayloom_k06_whole_views_tell_the_row.main.body.getD i (.Pass ⟨0, 0, 0, 0⟩)
abbrev s_is_name : Stmt := topS 12
abbrev n_is_name : List Str := ["thing"]
theorem sc_is_name : FnScope n_is_name ["thing"] (defScope s_is_name) := ⟨rfl, rfl, rfl, by decide +kernel, rfl, by decide +kernel, by decide +kernel⟩
abbrev s_is_tuple_of : Stmt := topS 13
abbrev n_is_tuple_of : List Str := ["thing", "least", "most"]
theorem sc_is_tuple_of : FnScope n_is_tuple_of ["thing", "least", "most"] (defScope s_is_tuple_of) := ⟨rfl, rfl, rfl, by decide +kernel, rfl, by decide +kernel, by decide +kernel⟩
abbrev s_is_rising : Stmt := topS 14
abbrev n_is_rising : List Str := ["things", "at"]
theorem sc_is_rising : FnScope n_is_rising ["things"] (defScope s_is_rising) := ⟨rfl, rfl, rfl, by decide +kernel, rfl, by decide +kernel, by decide +kernel⟩
abbrev s_is_new_name : Stmt := topS 15
abbrev n_is_new_name : List Str := ["thing", "known"]
theorem sc_is_new_name : FnScope n_is_new_name ["thing", "known"] (defScope s_is_new_name) := ⟨rfl, rfl, rfl, by decide +kernel, rfl, by decide +kernel, by decide +kernel⟩
abbrev s_is_board : Stmt := topS 16
abbrev n_is_board : List Str := ["thing", "hands", "weak", "places"]
theorem sc_is_board : FnScope n_is_board ["thing"] (defScope s_is_board) := ⟨rfl, rfl, rfl, by decide +kernel, rfl, by decide +kernel, by decide +kernel⟩
abbrev s__are_hands : Stmt := topS 17
abbrev n__are_hands : List Str := ["thing", "name"]
theorem sc__are_hands : FnScope n__are_hands ["thing"] (defScope s__are_hands) := ⟨rfl, rfl, rfl, by decide +kernel, rfl, by decide +kernel, by decide +kernel⟩
abbrev s_are_weak : Stmt := topS 18
abbrev n_are_weak : List Str := ["thing", "hands", "name"]
theorem sc_are_weak : FnScope n_are_weak ["thing", "hands"] (defScope s_are_weak) := ⟨rfl, rfl, rfl, by decide +kernel, rfl, by decide +kernel, by decide +kernel⟩
abbrev s__are_places : Stmt := topS 19
abbrev n__are_places : List Str := ["thing", "hands", "weak", "known", "place", "hand"]
theorem sc__are_places : FnScope n__are_places ["thing", "hands", "weak"] (defScope s__are_places) := ⟨rfl, rfl, rfl, by decide +kernel, rfl, by decide +kernel, by decide +kernel⟩
abbrev s__are_come_to : Stmt := topS 20
abbrev n__are_come_to : List Str := ["places", "ahead", "at", "place", "_", "then"]
theorem sc__are_come_to : FnScope n__are_come_to ["places"] (defScope s__are_come_to) := ⟨rfl, rfl, rfl, by decide +kernel, rfl, by decide +kernel, by decide +kernel⟩
abbrev s__is_saying : Stmt := topS 21
abbrev n__is_saying : List Str := ["thing", "hands", "weak", "many", "known", "sayer", "branches", "last", "faults", "branch", "hearer", "word", "then", "told"]
theorem sc__is_saying : FnScope n__is_saying ["thing", "hands", "weak", "many", "known"] (defScope s__is_saying) := ⟨rfl, rfl, rfl, by decide +kernel, rfl, by decide +kernel, by decide +kernel⟩
abbrev s__stays_fallen : Stmt := topS 22
abbrev n__stays_fallen : List Str := ["places", "hand", "falls", "place", "at"]
theorem sc__stays_fallen : FnScope n__stays_fallen ["places", "hand"] (defScope s__stays_fallen) := ⟨rfl, rfl, rfl, by decide +kernel, rfl, by decide +kernel, by decide +kernel⟩
abbrev s_falls_of : Stmt := topS 23
abbrev n_falls_of : List Str := ["place", "_", "word", "then"]
theorem sc_falls_of : FnScope n_falls_of ["place"] (defScope s_falls_of) := ⟨rfl, rfl, rfl, by decide +kernel, rfl, by decide +kernel, by decide +kernel⟩
abbrev s_takes_part : Stmt := topS 24
abbrev n_takes_part : List Str := ["place", "hand", "sayer", "branches", "branch"]
theorem sc_takes_part : FnScope n_takes_part ["place", "hand"] (defScope s_takes_part) := ⟨rfl, rfl, rfl, by decide +kernel, rfl, by decide +kernel, by decide +kernel⟩
abbrev s_places_from : Stmt := topS 25
abbrev n_places_from : List Str := ["places", "starts", "without", "faults", "seen", "left", "place", "hearer", "word", "then"]
theorem sc_places_from : FnScope n_places_from ["places", "starts", "without", "faults"] (defScope s_places_from) := ⟨rfl, rfl, rfl, by decide +kernel, rfl, by decide +kernel, by decide +kernel⟩
abbrev s_check_board : Stmt := topS 26
abbrev n_check_board : List Str := ["board"]
theorem sc_check_board : FnScope n_check_board ["board"] (defScope s_check_board) := ⟨rfl, rfl, rfl, by decide +kernel, rfl, by decide +kernel, by decide +kernel⟩
abbrev s_check_hand : Stmt := topS 27
abbrev n_check_hand : List Str := ["board", "hand"]
theorem sc_check_hand : FnScope n_check_hand ["board", "hand"] (defScope s_check_hand) := ⟨rfl, rfl, rfl, by decide +kernel, rfl, by decide +kernel, by decide +kernel⟩
abbrev s_is_row : Stmt := topS 29
abbrev n_is_row : List Str := ["board", "thing"]
theorem sc_is_row : FnScope n_is_row ["board", "thing"] (defScope s_is_row) := ⟨rfl, rfl, rfl, by decide +kernel, rfl, by decide +kernel, by decide +kernel⟩
abbrev s_place_after : Stmt := topS 30
abbrev n_place_after : List Str := ["places", "thing", "at", "saying"]
theorem sc_place_after : FnScope n_place_after ["places", "thing"] (defScope s_place_after) := ⟨rfl, rfl, rfl, by decide +kernel, rfl, by decide +kernel, by decide +kernel⟩
abbrev s_place_by : Stmt := topS 31
abbrev n_place_by : List Str := ["place", "saying", "sayer", "branches", "hearer", "word", "then"]
theorem sc_place_by : FnScope n_place_by ["place", "saying"] (defScope s_place_by) := ⟨rfl, rfl, rfl, by decide +kernel, rfl, by decide +kernel, by decide +kernel⟩
abbrev s_check_row : Stmt := topS 32
abbrev n_check_row : List Str := ["board", "row", "at"]
theorem sc_check_row : FnScope n_check_row ["board", "row"] (defScope s_check_row) := ⟨rfl, rfl, rfl, by decide +kernel, rfl, by decide +kernel, by decide +kernel⟩
abbrev s_place_behind : Stmt := topS 33
abbrev n_place_behind : List Str := ["board", "row"]
theorem sc_place_behind : FnScope n_place_behind ["board", "row"] (defScope s_place_behind) := ⟨rfl, rfl, rfl, by decide +kernel, rfl, by decide +kernel, by decide +kernel⟩
abbrev s_view_of : Stmt := topS 34
abbrev n_view_of : List Str := ["board", "row", "hand"]
theorem sc_view_of : FnScope n_view_of ["board", "row", "hand"] (defScope s_view_of) := ⟨rfl, rfl, rfl, by decide +kernel, rfl, by decide +kernel, by decide +kernel⟩
abbrev s_views_of : Stmt := topS 35
abbrev n_views_of : List Str := ["board", "row", "hand"]
theorem sc_views_of : FnScope n_views_of ["board", "row"] (defScope s_views_of) := ⟨rfl, rfl, rfl, by decide +kernel, rfl, by decide +kernel, by decide +kernel⟩
abbrev s_view_at : Stmt := topS 36
abbrev n_view_at : List Str := ["row", "hand", "events", "sayer", "hearer", "word"]
theorem sc_view_at : FnScope n_view_at ["row", "hand"] (defScope s_view_at) := ⟨rfl, rfl, rfl, by decide +kernel, rfl, by decide +kernel, by decide +kernel⟩
abbrev s__law_pot : Stmt := topS 38
abbrev n__law_pot : List Str := ["cell", "at"]
theorem sc__law_pot : FnScope n__law_pot ["cell", "at"] (defScope s__law_pot) := ⟨rfl, rfl, rfl, by decide +kernel, rfl, by decide +kernel, by decide +kernel⟩
abbrev s__law_take : Stmt := topS 39
abbrev n__law_take : List Str := ["pot", "many", "digit", "primes", "prime", "near", "stir"]
theorem sc__law_take : FnScope n__law_take ["pot", "many"] (defScope s__law_take) := ⟨rfl, rfl, rfl, by decide +kernel, rfl, by decide +kernel, by decide +kernel⟩
abbrev s__law_folded : Stmt := topS 40
abbrev n__law_folded : List Str := ["script", "most", "cells", "k"]
theorem sc__law_folded : FnScope n__law_folded ["script", "most"] (defScope s__law_folded) := ⟨rfl, rfl, rfl, by decide +kernel, rfl, by decide +kernel, by decide +kernel⟩
abbrev s__law_names : Stmt := topS 41
abbrev n__law_names : List Str := ["pot", "many", "letters", "found", "k", "word", "turn", "some", "letter", "name"]
theorem sc__law_names : FnScope n__law_names ["pot", "many"] (defScope s__law_names) := ⟨rfl, rfl, rfl, by decide +kernel, rfl, by decide +kernel, by decide +kernel⟩
abbrev s__law_word : Stmt := topS 42
abbrev n__law_word : List Str := ["pot", "stock", "used", "word", "some", "k", "name"]
theorem sc__law_word : FnScope n__law_word ["pot", "stock", "used"] (defScope s__law_word) := ⟨rfl, rfl, rfl, by decide +kernel, rfl, by decide +kernel, by decide +kernel⟩
abbrev s__law_new_place : Stmt := topS 43
abbrev n__law_new_place : List Str := ["pot", "hands", "gone", "living", "hand"]
theorem sc__law_new_place : FnScope n__law_new_place ["pot", "hands", "gone"] (defScope s__law_new_place) := ⟨rfl, rfl, rfl, by decide +kernel, rfl, by decide +kernel, by decide +kernel⟩
abbrev s__law_put_branch : Stmt := topS 44
abbrev n__law_put_branch : List Str := ["pot", "hands", "stock", "place", "then", "gone", "sayer", "branches", "some", "hand", "hearer", "word", "branch"]
theorem sc__law_put_branch : FnScope n__law_put_branch ["pot", "hands", "stock", "place", "then"] (defScope s__law_put_branch) := ⟨rfl, rfl, rfl, by decide +kernel, rfl, by decide +kernel, by decide +kernel⟩
abbrev s__law_put_fault : Stmt := topS 45
abbrev n__law_put_fault : List Str := ["pot", "hands", "place", "then", "gone", "sayer", "branches", "some", "hand"]
theorem sc__law_put_fault : FnScope n__law_put_fault ["pot", "hands", "place", "then"] (defScope s__law_put_fault) := ⟨rfl, rfl, rfl, by decide +kernel, rfl, by decide +kernel, by decide +kernel⟩
abbrev s__law_lacks : Stmt := topS 46
abbrev n__law_lacks : List Str := ["place", "weak", "branch"]
theorem sc__law_lacks : FnScope n__law_lacks ["place", "weak"] (defScope s__law_lacks) := ⟨rfl, rfl, rfl, by decide +kernel, rfl, by decide +kernel, by decide +kernel⟩
abbrev s__law_grown : Stmt := topS 47
abbrev n__law_grown : List Str := ["pot", "hands", "weak", "stock", "many", "places", "k", "some", "place"]
theorem sc__law_grown : FnScope n__law_grown ["pot", "hands", "weak", "stock", "many"] (defScope s__law_grown) := ⟨rfl, rfl, rfl, by decide +kernel, rfl, by decide +kernel, by decide +kernel⟩
abbrev s__law_closed : Stmt := topS 48
abbrev n__law_closed : List Str := ["places", "gone", "k", "place", "hand"]
theorem sc__law_closed : FnScope n__law_closed ["places", "gone"] (defScope s__law_closed) := ⟨rfl, rfl, rfl, by decide +kernel, rfl, by decide +kernel, by decide +kernel⟩
abbrev s__law_board : Stmt := topS 49
abbrev n__law_board : List Str := ["pot", "most", "hands", "weak", "hand", "stock", "places", "end", "place", "one", "some", "most_here", "told", "needs", "branch"]
theorem sc__law_board : FnScope n__law_board ["pot", "most"] (defScope s__law_board) := ⟨rfl, rfl, rfl, by decide +kernel, rfl, by decide +kernel, by decide +kernel⟩
abbrev s__law_row : Stmt := topS 50
abbrev n__law_row : List Str := ["pot", "places", "most", "here", "found", "turn", "sayer", "branches", "hearer", "word", "then"]
theorem sc__law_row : FnScope n__law_row ["pot", "places", "most"] (defScope s__law_row) := ⟨rfl, rfl, rfl, by decide +kernel, rfl, by decide +kernel, by decide +kernel⟩
abbrev s__law_place_by : Stmt := topS 51
abbrev n__law_place_by : List Str := ["places", "row", "here", "step", "thens", "branch"]
theorem sc__law_place_by : FnScope n__law_place_by ["places", "row"] (defScope s__law_place_by) := ⟨rfl, rfl, rfl, by decide +kernel, rfl, by decide +kernel, by decide +kernel⟩
abbrev s__law_other : Stmt := topS 52
abbrev n__law_other : List Str := ["pot", "places", "row", "most", "found", "here", "turn", "sayer", "branches", "hearer", "word", "then"]
theorem sc__law_other : FnScope n__law_other ["pot", "places", "row", "most"] (defScope s__law_other) := ⟨rfl, rfl, rfl, by decide +kernel, rfl, by decide +kernel, by decide +kernel⟩
abbrev s__law_back : Stmt := topS 53
abbrev n__law_back : List Str := ["places", "views", "left", "hand", "here", "found", "turn", "sayer", "branches", "step", "hearer", "word", "then", "said"]
theorem sc__law_back : FnScope n__law_back ["places", "views"] (defScope s__law_back) := ⟨rfl, rfl, rfl, by decide +kernel, rfl, by decide +kernel, by decide +kernel⟩
abbrev s__law_row_right : Stmt := topS 54
abbrev n__law_row_right : List Str := ["board", "row", "views", "hand", "mine", "step"]
theorem sc__law_row_right : FnScope n__law_row_right ["board", "row"] (defScope s__law_row_right) := ⟨rfl, rfl, rfl, by decide +kernel, rfl, by decide +kernel, by decide +kernel⟩
abbrev s_law : Stmt := topS 55
abbrev n_law : List Str := ["script", "at", "cell", "pot", "board", "most", "row", "short", "other", "alike", "hand"]
theorem sc_law : FnScope n_law ["script"] (defScope s_law) := ⟨rfl, rfl, rfl, by decide +kernel, rfl, by decide +kernel, by decide +kernel⟩
/-- what the top has written: built-ins as they are, constants -/
structure Tx (mg : Str → Option Value) : Prop where
  isi : mg "isinstance" = none
  len : mg "len" = none
  all : mg "all" = none
  any : mg "any" = none
  tup : mg "tuple" = none
  str : mg "str" = none
  int : mg "int" = none
  bool : mg "bool" = none
  zip : mg "zip" = none
  sorted : mg "sorted" = none
  set : mg "set" = none
  list : mg "list" = none
  range : mg "range" = none
  enum : mg "enumerate" = none
  min : mg "min" = none
  max : mg "max" = none
  abs : mg "abs" = none
  repr : mg "repr" = none
  fault : ∃ t, mg "FAULT" = some (.str "!" t)
  mostP : ∃ t, mg "MOST_PLACES" = some (.int 40 t)
  mostL : ∃ t, mg "MOST_LETTERS" = some (.int 8 t)
  fewH : ∃ t, mg "FEWEST_HANDS" = some (.int 2 t)
  mostH : ∃ t, mg "MOST_HANDS" = some (.int 6 t)
  mostB : ∃ t, mg "MOST_BRANCHES" = some (.int 8 t)
end K3

set_option maxHeartbeats 200000
set_option Elab.async false
set_option linter.all false
set_option maxRecDepth 100000
set_option maxHeartbeats 4000000
namespace K3
open PySem PySem.Spec PyProof.Rows L2 DL
variable {P : Program} {w : World} {K : PySem.W.Frag} {mg : Str → Option Value} {base : Heap} {f : Addr} {fd : FuncData} {k : Nat}
/-! ### boards as data -/
abbrev Br := Str × Str × Nat
abbrev Pl := Option (Str × List Br)
def brD (b : Br) : PyData := .tuple [.str b.1, .str b.2.1, .int (b.2.2 : Nat)]
def plD : Pl → PyData
  | none => .none
  | some (s, bs) => .tuple [.str s, .tuple (bs.map brD)]
def plsD (ps : List Pl) : PyData := .tuple (ps.map plD)
def nmD (l : List Str) : PyData := .tuple (l.map PyData.str)
def woD : Option Str → PyData
  | none => .none
  | some s => .str s
def flt : Str := "!"
def keepB (wo : Option Str) (fl : Bool) (b : Br) : Bool := !decide (some b.1 = wo) && (fl || !decide (b.2.1 = flt))
def brs (pl : Pl) (wo : Option Str) (fl : Bool) : List Br := match pl with
  | none => []
  | some (s, bs) => if some s = wo then [] else bs.filter (keepB wo fl)
def keepD (wo : Option Str) (fl : Bool) : PyData → Bool
  | .tuple (.str h :: .str w :: _) => !decide (some h = wo) && (fl || !decide (w = flt))
  | _ => false
theorem keepD_br {wo : Option Str} {fl : Bool} {b : Br} : keepD wo fl (brD b) = keepB wo fl b := rfl
/-- x == wo, a text and a text or None -/
theorem rd_eqWo {B : Bs} {δ : St'} {Φ : PE1} {s : Str} {wo : Option Str} (p : Φ (.bool (decide (some s = wo))) δ) : RD B rEq (.str s) (woD wo) δ Φ := by
  cases wo with
  | none =>
    refine rd_eqA rfl rfl rfl ?_
    have : decide (toV (.str s) = toV (woD none)) = decide (some s = none) := by
      rw [decide_eq_false (fun z => by cases z), decide_eq_false (fun z => by cases z)]
    rw [this]; exact p
  | some t =>
    refine rd_eqS ?_
    have : decide (s = t) = decide (some s = some t) := by simp
    rw [this]; exact p
theorem rd_neWo {B : Bs} {δ : St'} {Φ : PE1} {s : Str} {wo : Option Str} (p : Φ (.bool (!decide (some s = wo))) δ) : RD B rNe (.str s) (woD wo) δ Φ := by
  cases wo with
  | none =>
    refine rd_neA rfl rfl rfl ?_
    have : decide (toV (.str s) = toV (woD none)) = decide (some s = none) := by
      rw [decide_eq_false (fun z => by cases z), decide_eq_false (fun z => by cases z)]
    rw [this]; exact p
  | some t =>
    refine rd_neS ?_
    have : decide (s = t) = decide (some s = some t) := by simp
    rw [this]; exact p
end K3

set_option maxHeartbeats 200000
set_option Elab.async false
set_option linter.all false
set_option maxRecDepth 100000
set_option maxHeartbeats 1000000
namespace DL
open PySem PySem.Spec PyProof.Rows L2
/-! ### x is True, x is not False, of ints and truths -/
def rIsBl (neg : Bool) : R2 := fun x y H Q => ∃ b : Bool, y = .bl b ∧ ((∃ i, x = .int i ∧ Q (.bl neg) H) ∨ ∃ a : Bool, x = .bl a ∧ Q (.bl (decide (a = b) != neg)) H)
theorem op_isBl1 {X : Cx} : OpR X (compareOp .Is) (rIsBl false) := fun pins s σ H x y v u Q I rx ry h => by
  obtain ⟨b, rfl, h⟩ := h
  obtain rfl : u = Value.bool b := ry
  rcases h with ⟨i, rfl, q⟩ | ⟨a, rfl, q⟩
  · obtain ⟨t, rfl⟩ : ∃ t, v = Value.int i t := rx
    exact wpAny_is_other rfl (fun z => by cases z) ⟨.bl false, H, I, rfl, q⟩
  · obtain rfl : v = Value.bool a := rx
    by_cases e : a = b
    · subst e
      exact wpAny_is_self rfl ⟨.bl true, H, I, rfl, by simpa using q⟩
    · exact wpAny_is_other rfl (fun z => e (Value.bool.inj z)) ⟨.bl false, H, I, rfl, by simpa [e] using q⟩
theorem op_isntBl1 {X : Cx} : OpR X (compareOp .IsNot) (rIsBl true) := fun pins s σ H x y v u Q I rx ry h => by
  obtain ⟨b, rfl, h⟩ := h
  obtain rfl : u = Value.bool b := ry
  rcases h with ⟨i, rfl, q⟩ | ⟨a, rfl, q⟩
  · obtain ⟨t, rfl⟩ : ∃ t, v = Value.int i t := rx
    exact wpAny_isNot_other rfl (fun z => by cases z) ⟨.bl true, H, I, rfl, q⟩
  · obtain rfl : v = Value.bool a := rx
    by_cases e : a = b
    · subst e
      exact wpAny_isNot_self rfl ⟨.bl false, H, I, rfl, by simpa using q⟩
    · exact wpAny_isNot_other rfl (fun z => e (Value.bool.inj z)) ⟨.bl true, H, I, rfl, by simpa [e] using q⟩
section
variable {B : Bs} {δ : St'} {Φ : PE1}
theorem rd_isBi {neg : Bool} {i : Int} {b : Bool} (p : Φ (.bool neg) δ) : RD B (rIsBl neg) (.int i) (.bool b) δ Φ := rd_pure (w := .bl neg) (fun _ => .bl _) (fun F H v u e d1 d2 Q q => by cases d1; cases d2; exact ⟨b, rfl, .inl ⟨i, rfl, q⟩⟩) p
theorem rd_isBb {neg a b : Bool} (p : Φ (.bool (decide (a = b) != neg)) δ) : RD B (rIsBl neg) (.bool a) (.bool b) δ Φ := rd_pure (w := .bl (decide (a = b) != neg)) (fun _ => .bl _) (fun F H v u e d1 d2 Q q => by cases d1; cases d2; exact ⟨b, rfl, .inr ⟨a, rfl, q⟩⟩) p
end
/-! ### methods of texts without arguments -/
section
variable {B : B0} {X : Cx} {o : Expr} {δ : St'} {Φ : PE1} {name : Str} {apos cpos : Pos} {id : String} {g : Str → V} {gd : Str → PyData}
theorem de_strM (slot : PySem.Slot "str" name id) (hty : typeOf (.builtin id) = pure (.type "method_descriptor")) (hm : MtR X id fun x xs H Q => ∃ a, x = .str a ∧ xs = [] ∧ True ∧ Q (g a) H) (hg : ∀ K F a, Dq K F (g a) (gd a)) (h : DE B X o δ fun x δ' => ∃ a, x = .str a ∧ Φ (gd a) δ')
    (hbase : attributeBase o name X.env (eval o X.env) = eval o X.env := by rfl) (hline : (apos.endLine == cpos.line) = true := by rfl) : DE B X (.Call (.Attribute o name apos) [] [] cpos) δ Φ :=
  .of (pe_bm0 PySem.F.plainAttrs_str slot hty hm pe_w hbase hline) fun σ F H r Q q => h σ F H r _ fun v x δ' F' H' e r' d ⟨a, hx, p⟩ => by
    subst hx
    cases d
    exact ⟨by simp [tyV], a, rfl, rfl, trivial, q _ _ δ' F' H' e r' (hg _ _ a) p⟩
theorem de_isascii (h : DE B X o δ fun x δ' => ∃ a, x = .str a ∧ Φ (.bool (Txt.isascii a)) δ') (hbase : attributeBase o "isascii" X.env (eval o X.env) = eval o X.env := by rfl) (hline : (apos.endLine == cpos.line) = true := by rfl) : DE B X (.Call (.Attribute o "isascii" apos) [] [] cpos) δ Φ :=
  de_strM (g := fun a => .bl (Txt.isascii a)) (gd := fun a => .bool (Txt.isascii a)) PySem.F.slot_str_isascii PySem.F.type_str_isascii mt_isascii (fun _ _ _ => .bl _) h hbase hline
theorem de_isalpha (h : DE B X o δ fun x δ' => ∃ a, x = .str a ∧ Φ (.bool (Txt.isalpha a)) δ') (hbase : attributeBase o "isalpha" X.env (eval o X.env) = eval o X.env := by rfl) (hline : (apos.endLine == cpos.line) = true := by rfl) : DE B X (.Call (.Attribute o "isalpha" apos) [] [] cpos) δ Φ :=
  de_strM (g := fun a => .bl (Txt.isalpha a)) (gd := fun a => .bool (Txt.isalpha a)) PySem.F.slot_str_isalpha PySem.F.type_str_isalpha mt_isalpha (fun _ _ _ => .bl _) h hbase hline
theorem de_islower (h : DE B X o δ fun x δ' => ∃ a, x = .str a ∧ Φ (.bool (Txt.islower a)) δ') (hbase : attributeBase o "islower" X.env (eval o X.env) = eval o X.env := by rfl) (hline : (apos.endLine == cpos.line) = true := by rfl) : DE B X (.Call (.Attribute o "islower" apos) [] [] cpos) δ Φ :=
  de_strM (g := fun a => .bl (Txt.islower a)) (gd := fun a => .bool (Txt.islower a)) PySem.F.slot_str_islower PySem.F.type_str_islower mt_islower (fun _ _ _ => .bl _) h hbase hline
end
theorem ascii_tab : ∀ c, c < 128 → Unicode.isAlpha c = (decide (65 ≤ c) && decide (c ≤ 90) || decide (97 ≤ c) && decide (c ≤ 122)) ∧ Unicode.isLower c = (decide (97 ≤ c) && decide (c ≤ 122)) ∧ Unicode.isUpper c = (decide (65 ≤ c) && decide (c ≤ 90)) ∧ Unicode.isTitle c = false := by decide +kernel
/-- what the three together let by -/
theorem small_letters (x : Str) : (Txt.isascii x && (Txt.isalpha x && Txt.islower x)) = (decide (1 ≤ x.length) && x.cps.toList.all fun c => decide (97 ≤ c) && decide (c ≤ 122)) := by
  have hl : x.length = x.cps.toList.length := by simp [Str.length]
  have e1 : Txt.isascii x = x.cps.toList.all fun c => decide (c < 128) := by unfold Txt.isascii; rw [← Array.all_toList]
  have e2 : Txt.isalpha x = (decide (x.length > 0) && x.cps.toList.all Unicode.isAlpha) := by unfold Txt.isalpha; rw [← Array.all_toList]
  have e3 : Txt.islower x = (x.cps.toList.any Unicode.isLower && !x.cps.toList.any fun c => Unicode.isUpper c || Unicode.isTitle c) := by unfold Txt.islower; rw [← Array.any_toList, ← Array.any_toList]
  rw [e1, e2, e3, hl]
  generalize x.cps.toList = l
  rw [Bool.eq_iff_iff]
  simp only [Bool.and_eq_true, List.all_eq_true, List.any_eq_true, decide_eq_true_eq, Bool.not_eq_true', List.any_eq_false, Bool.or_eq_true, not_or]
  constructor
  · rintro ⟨ha, ⟨hp, hal⟩, _, hu⟩
    refine ⟨by omega, fun c hc => ?_⟩
    obtain ⟨t1, t2, t3, t4⟩ := ascii_tab c (ha c hc)
    have q1 := hal c hc
    have q2 := (hu c hc).1
    rw [t1] at q1
    rw [t3] at q2
    simp only [Bool.or_eq_true, Bool.and_eq_true, decide_eq_true_eq] at q1 q2
    omega
  · rintro ⟨hp, hs⟩
    refine ⟨fun c hc => by have := hs c hc; omega, ⟨by omega, fun c hc => ?_⟩, ?_, fun c hc => ?_⟩
    · have := hs c hc
      rw [(ascii_tab c (by omega)).1]
      simp only [Bool.or_eq_true, Bool.and_eq_true, decide_eq_true_eq]
      omega
    · cases l with
      | nil => simp at hp
      | cons c l =>
        have := hs c (by simp)
        refine ⟨c, by simp, ?_⟩
        rw [(ascii_tab c (by omega)).2.1]
        simp only [Bool.and_eq_true, decide_eq_true_eq]
        omega
    · have := hs c hc
      obtain ⟨t1, t2, t3, t4⟩ := ascii_tab c (by omega)
      rw [t3, t4]
      simp only [Bool.and_eq_true, decide_eq_true_eq, Bool.false_eq_true, not_false_eq_true, and_true]
      omega
end DL

set_option maxHeartbeats 200000
set_option Elab.async false
set_option linter.all false
set_option maxRecDepth 100000
set_option maxHeartbeats 1000000
namespace DL
open PySem PySem.Spec PyProof.Rows L2
/-! ### the body of a loop, where continue is as good as its end -/
def WSL (B : Bs) (ts : TS) (δ : St') (N : St' → Prop) (R : PE1) : Prop := ∀ σ F H, Rep B δ σ F H → ∀ D : Ends, (∀ δ' σ' F' H', Same F F' → Rep B δ' σ' F' H' → N δ' → D.nx σ' H') → (∀ δ' σ' F' H', Same F F' → Rep B δ' σ' F' H' → N δ' → D.ct σ' H') →
  (∀ v x δ' σ' F' H', Same F F' → Rep B δ' σ' F' H' → Dq B.K F' v x → R x δ' → D.rt v H') → ts D σ H
def DSL (B : B0) (X : Cx) (sts : List Stmt) (δ : St') (N : St' → Prop) (R : PE1) : Prop := WSL (bs X B) (wSs X sts) δ N R
section
variable {B : B0} {X : Cx} {c e : Expr} {st : Stmt} {rest body : List Stmt} {δ : St'} {N : St' → Prop} {Φ R : PE1} {pos p2 p3 : Pos}
theorem dsl_of (h : DSs B X body δ N R) : DSL B X body δ N R := fun σ F H r D hn _ hr => h σ F H r D hn hr
theorem dsl_cons (h : DS B X st δ (fun δ' => DSL B X rest δ' N R) R) : DSL B X (st :: rest) δ N R := fun σ F H r D hn hc hr pins s I =>
  (pss_cons ps_w pss_w).run pins s σ H D I (h σ F H r { D with nx := wSs X rest D } (fun δ' σ' F' H' e1 r1 w => w σ' F' H' r1 D (fun δ2 σ2 F2 H2 e2 r2 n => hn δ2 σ2 F2 H2 (e1.trans e2) r2 n) (fun δ2 σ2 F2 H2 e2 r2 n => hc δ2 σ2 F2 H2 (e1.trans e2) r2 n) fun v x δ2 σ2 F2 H2 e2 r2 d2 p2 => hr v x δ2 σ2 F2 H2 (e1.trans e2) r2 d2 p2) hr)
/-- if c: continue -/
theorem dsl_ifc (h : DT B X c δ fun b δ' => if b = true then N δ' else DSL B X rest δ' N R) : DSL B X (.If c [.Continue p2] [] pos :: rest) δ N R := fun σ F H r D hn hc hr pins s I =>
  (pss_cons (ps_if pt_w (pss_one ps_continue) pss_nil) (pss_w (sts := rest))).run pins s σ H D I (h σ F H r _ fun b δ' F' H' e1 r1 p => by
    cases b with
    | true => exact iteT (hc δ' σ F' H' e1 r1 p)
    | false =>
      refine iteF ?_
      exact (show DSL B X rest δ' N R from p) σ F' H' r1 D (fun δ2 σ2 F2 H2 e2 r2 n => hn δ2 σ2 F2 H2 (e1.trans e2) r2 n) (fun δ2 σ2 F2 H2 e2 r2 n => hc δ2 σ2 F2 H2 (e1.trans e2) r2 n) fun v x δ2 σ2 F2 H2 e2 r2 d2 p2 => hr v x δ2 σ2 F2 H2 (e1.trans e2) r2 d2 p2)
theorem ds_whileL (I : Nat → St' → Prop) {m0 : Nat} (h0 : I m0 δ) (h : ∀ m δ', I m δ' → DT B X c δ' fun k δ2 => if k = true then DSL B X body δ2 (fun δ3 => ∃ m', m' < m ∧ I m' δ3) R else N δ2)
    (hp : PassesOwn (model X.prog X.w) X.A X.env X.xe := by exact PassesOwn.never) : DS B X (.While c body [] pos) δ N R := .of (ps_while hp pt_w pss_w) fun σ F H r D hn hr => by
  refine ⟨fun m σ' H' => ∃ δ2 F2, Same F F2 ∧ Rep (bs X B) δ2 σ' F2 H' ∧ I m δ2, ⟨m0, δ, F, Same.refl _, r, h0⟩, fun m σ1 H1 ⟨δ1, F1, e1, r1, hi⟩ => ?_⟩
  refine h m δ1 hi σ1 F1 H1 r1 _ fun b δ2 F2 H2 e2 r2 p => ?_
  cases b with
  | false => exact iteF (hn δ2 σ1 F2 H2 (e1.trans e2) r2 p)
  | true =>
    refine iteT ⟨fun σ' H' => ∃ m', m' < m ∧ ∃ δ3 F3, Same F F3 ∧ Rep (bs X B) δ3 σ' F3 H' ∧ I m' δ3, fun σ' H' q => q, ?_⟩
    have go : ∀ δ5 σ5 F5 H5, Same F2 F5 → Rep (bs X B) δ5 σ5 F5 H5 → (∃ m', m' < m ∧ I m' δ5) → ∃ m', m' < m ∧ ∃ δ3 F3, Same F F3 ∧ Rep (bs X B) δ3 σ5 F3 H5 ∧ I m' δ3 := fun δ5 σ5 F5 H5 e5 r5 ⟨m', hm, p5⟩ => ⟨m', hm, δ5, F5, (e1.trans e2).trans e5, r5, p5⟩
    exact (show DSL B X body δ2 _ R from p) σ1 F2 H2 r2 _ go go fun v z δ5 σ5 F5 H5 e5 r5 d5 p5 => hr v z δ5 σ5 F5 H5 ((e1.trans e2).trans e5) r5 d5 p5
theorem ds_forL {tg iter : Expr} {wi : TI} {g : TG} (ix : List Nat) (hi : PI X tg iter wi) (hg : PG X tg g) (h : WI (bs X B) wi δ fun xs δ1 => ∃ I : Nat → St' → Prop, I 0 δ1 ∧ (∀ i y δ2, xs[i]? = some y → I i δ2 → WG (bs X B) g ix y δ2 fun δ3 => DSL B X body δ3 (I (i + 1)) R) ∧ ∀ δ2, I xs.length δ2 → N δ2)
    (hc : X.calm = true := by rfl) (hp : PassesOwn (model X.prog X.w) X.A X.env X.xe := by exact PassesOwn.never) (hs : ∀ x, foldedSetIterable iter X.env x = pure x := by intro _; rfl) : DS B X (.For tg iter body [] pos) δ N R := .of (ps_for hp hc hi hg pss_w hs) fun σ F H r D hn hr =>
  h σ F H r _ fun J xs δ1 F1 H1 e1 r1 w ⟨I, h0, hs, hd⟩ => by
    refine ⟨fun i m σ' H' => i + m = xs.length ∧ ∃ δ2 F2, Same F1 F2 ∧ Rep (bs X B) δ2 σ' F2 H' ∧ I i δ2, ⟨xs.length, by simp, δ1, F1, Same.refl _, r1, h0⟩, fun i m σ2 H2 ⟨em, δ2, F2, e2, r2, hi⟩ => ?_⟩
    by_cases hlt : i < xs.length
    · refine .inr ⟨w.go i δ2 σ2 F2 H2 e2 r2 hlt, fun σ' H' => ∃ δ3 F3, Same F1 F3 ∧ Rep (bs X B) δ3 σ' F3 H' ∧ I (i + 1) δ3, fun σ' H' q => ⟨m - 1, by omega, by omega, q⟩, fun x H' hy => ?_⟩
      obtain ⟨F3, e3, r3, _, _, d3⟩ := w.yld i δ2 σ2 F2 H2 x H' xs[i] e2 r2 (List.getElem?_eq_getElem hlt) hy
      refine hs i xs[i] δ2 (List.getElem?_eq_getElem hlt) hi σ2 F3 H' r3 x d3 _ fun δ4 σ4 r4 _ _ p4 => ?_
      exact p4 σ4 F3 H' r4 _ (fun δ5 σ5 F5 H5 e5 r5 p5 => ⟨δ5, F5, (e2.trans e3).trans e5, r5, p5⟩) (fun δ5 σ5 F5 H5 e5 r5 p5 => ⟨δ5, F5, (e2.trans e3).trans e5, r5, p5⟩) fun v z δ5 σ5 F5 H5 e5 r5 d5 p5 => hr v z δ5 σ5 F5 H5 (((e1.trans e2).trans e3).trans e5) r5 d5 p5
    · have : i = xs.length := by omega
      subst this
      exact .inl ⟨w.stop _ δ2 σ2 F2 H2 e2 r2 (Nat.le_refl _), hn δ2 σ2 F2 H2 (e1.trans e2) r2 (hd δ2 hi)⟩
/-- xs.pop() within an expression -/
theorem de_pop (i : Nat) {x : Str} {xs : List PyData} {z : PyData} {apos npos : Pos} (h : Φ z (δ.put i (.own xs))) (hi : δ.s[i]? = some (some (.own (xs ++ [z]))) := by rfl)
    (hN : X.N[i]? = some x := by rfl) (hv : Vis X.env.scope x := by first | exact Or.inl rfl | exact Or.inr (Or.inl rfl) | exact Or.inr (Or.inr rfl)) (hd : (x == ("__debug__" : Str)) = false := by decide)
    (hcd : (x == ("__classdict__" : Str)) = false := by decide) (hbase : attributeBase (.Name x npos) "pop" X.env (eval (.Name x npos) X.env) = eval (.Name x npos) X.env := by rfl) (hline : (apos.endLine == p2.line) = true := by rfl) :
    DE B X (.Call (.Attribute (.Name x npos) "pop" apos) [] [] p2) δ Φ := .of (pe_bm0 PySem.F.plainAttrs_list PySem.F.slot_list_pop PySem.F.type_list_pop mt_pop (pe_var hN hv hd hcd) hbase hline) fun σ F H r Q q => by
  obtain ⟨u, hu, a, vs, rfl, hB, hF, hH, hdd⟩ := r.cell i _ hi
  have hl := dpAll_len hdd
  rw [List.length_append] at hl
  obtain ⟨v, hv2, dv⟩ := dpAll_get (i := xs.length) (d := z) hdd (by simp)
  refine ⟨.ref a, hu, .inl ⟨rfl, vs, .inl (.inl hH)⟩, a, vs, v, rfl, rfl, hH, ?_, ?_⟩
  · rw [hl]; simpa using hv2
  · have hdl := dpAll_dropLast hdd
    rw [List.dropLast_concat] at hdl
    exact q v z _ F _ (Same.refl F) (r.write (c2 := .own xs) hi rfl hu hB hF rfl ⟨a, vs.dropLast, rfl, hB, hF, upd_same, hdl⟩) dv h
end
end DL

set_option maxHeartbeats 200000
set_option Elab.async false
set_option linter.all false
set_option maxRecDepth 100000
set_option maxHeartbeats 4000000
namespace K3
open PySem PySem.Spec PyProof.Rows L2 DL
variable {P : Program} {w : World} {K : PySem.W.Frag} {mg : Str → Option Value} {base : Heap} {f : Addr} {fd : FuncData} {k : Nat}
/-! ### what is come to -/
def natD (n : Nat) : PyData := .int (n : Nat)
def Stp (ps : List Pl) (wo : Option Str) (fl : Bool) (j k : Nat) : Prop := ∃ pl, ps[j]? = some pl ∧ ∃ b ∈ brs pl wo fl, b.2.2 = k
inductive Rc (ps : List Pl) (wo : Option Str) (fl : Bool) (st : List Nat) : Nat → Prop
  | base {k : Nat} (h : k ∈ st) : Rc ps wo fl st k
  | step {j k : Nat} (h : Rc ps wo fl st j) (s : Stp ps wo fl j k) : Rc ps wo fl st k
/-- seen, left; the places but those left and x are closed -/
structure Wlk (ps : List Pl) (wo : Option Str) (fl : Bool) (st sn lf : List Nat) (x : Nat → Prop) : Prop where
  nd : sn.Nodup
  lt : ∀ k ∈ sn, k < ps.length
  rc : ∀ k ∈ sn, Rc ps wo fl st k
  st : ∀ k ∈ st, k ∈ sn
  le : ∀ k ∈ lf, k ∈ sn
  cl : ∀ j ∈ sn, j ∉ lf → ¬ x j → ∀ k, Stp ps wo fl j k → k ∈ sn
theorem nd_len : ∀ (n : Nat) (l : List Nat), l.Nodup → (∀ k ∈ l, k < n) → l.length ≤ n
  | 0, l, _, h => by
    cases l with
    | nil => simp
    | cons a r => exact absurd (h a (by simp)) (by omega)
  | n + 1, l, nd, h => by
    have h2 : ∀ k ∈ l.erase n, k < n := fun k hk => by
      have h3 := (List.Nodup.mem_erase_iff nd).mp hk
      have := h k h3.2
      omega
    have h4 := nd_len n (l.erase n) (nd.erase n) h2
    have : l.length ≤ (l.erase n).length + 1 := by
      rw [List.length_erase]
      split <;> omega
    omega
theorem Wlk.fin {ps : List Pl} {wo : Option Str} {fl : Bool} {st sn : List Nat} {x : Nat → Prop} (h : Wlk ps wo fl st sn [] x) (hx : ∀ j, ¬ x j) (k : Nat) : k ∈ sn ↔ Rc ps wo fl st k := by
  refine ⟨h.rc k, fun r => ?_⟩
  induction r with
  | base hk => exact h.st _ hk
  | step _ s ih => exact h.cl _ ih (by simp) (hx _) _ s
def envP (ps : List Pl) (st : List Nat) (wo : Option Str) (fl : Bool) (sn lf : List Nat) (c6 c7 c8 c9 : Option PyData) : St' :=
  ⟨0, [some (.d (plsD ps)), some (.d (.list (st.map natD))), some (.d (woD wo)), some (.d (.bool fl)), some (.iset (sn.map fun k => ((k : Nat) : Int))), some (.own (lf.map natD)), c6.map C.d, c7.map C.d, c8.map C.d, c9.map C.d]⟩
theorem onlyOwn_md {i j : Nat} {c : Option PyData} {r : List (Option C)} : onlyOwn i (c.map C.d :: r) j = onlyOwn i r (j + 1) := by cases c <;> rfl
theorem envP_own {ps : List Pl} {st : List Nat} {wo : Option Str} {fl : Bool} {sn lf : List Nat} {c6 c7 c8 c9 : Option PyData} : onlyOwn 5 (envP ps st wo fl sn lf c6 c7 c8 c9).s 0 = true := by
  show onlyOwn 5 [some (C.own (lf.map natD)), c6.map C.d, c7.map C.d, c8.map C.d, c9.map C.d] 5 = true
  show (5 == 5 && onlyOwn 5 [c6.map C.d, c7.map C.d, c8.map C.d, c9.map C.d] 6) = true
  rw [onlyOwn_md, onlyOwn_md, onlyOwn_md, onlyOwn_md]
  rfl
structure BrOk (ps : List Pl) : Prop where
  len : ∀ pl ∈ ps, ∀ s bs, pl = some (s, bs) → bs.length ≤ 100
  tgt : ∀ pl ∈ ps, ∀ s bs, pl = some (s, bs) → ∀ b ∈ bs, b.2.2 < ps.length
theorem BrOk.stp {ps : List Pl} (h : BrOk ps) {wo : Option Str} {fl : Bool} {j k : Nat} (s : Stp ps wo fl j k) : k < ps.length := by
  obtain ⟨pl, h1, b, hb, rfl⟩ := s
  have hm : pl ∈ ps := List.mem_of_getElem? h1
  cases pl with
  | none => simp [brs] at hb
  | some q =>
    obtain ⟨s, bs⟩ := q
    have : b ∈ bs := by
      unfold brs at hb
      dsimp only at hb
      split at hb
      · simp at hb
      · exact (List.mem_filter.mp hb).1
    exact h.tgt _ hm s bs rfl b this
def S_places_from : SpD := fun ds Φ => ∃ (ps : List Pl) (st : List Nat) (wo : Option Str) (fl : Bool), ds = [plsD ps, .list (st.map natD), woD wo, .bool fl] ∧ (∀ k ∈ st, k < ps.length) ∧ st.length ≤ 1000 ∧ BrOk ps ∧ ps.length < 64 ∧
  ∀ l : List Nat, l.Pairwise (· < ·) → (∀ k, k ∈ l ↔ Rc ps wo fl st k) → Φ (.list (l.map natD))
theorem nat_ints (ns : List Int) (h : ∀ k ∈ ns, 0 ≤ k) : ns.map PyData.int = (ns.map Int.toNat).map natD := by
  rw [List.map_map]
  refine List.map_congr_left fun k hk => ?_
  show PyData.int k = PyData.int (((k.toNat : Nat) : Int))
  rw [Int.toNat_of_nonneg (h k hk)]
theorem cast_mem {l : List Nat} {k : Nat} : ((k : Nat) : Int) ∈ l.map (fun k => ((k : Nat) : Int)) ↔ k ∈ l := by
  rw [List.mem_map]
  exact ⟨fun ⟨a, h1, h2⟩ => by have : a = k := Int.ofNat_inj.mp h2; exact this ▸ h1, fun h => ⟨k, h, rfl⟩⟩
theorem places_get {ps : List Pl} {j : Nat} (h : j < ps.length) : atI (ps.map plD) ((j : Nat) : Int) = some (plD ps[j]) := by
  refine atI_nat ?_
  rw [List.getElem?_map, List.getElem?_eq_getElem h]
  rfl
/-- the two statements that add a place -/
def bodyOf (st : Stmt) : List Stmt := match defBody st with
  | [_, _, .While _ [_, _, .For _ _ [.If _ b _ _] _ _] _ _, _] => b
  | _ => []
theorem ok_places_from (T : Tx mg) (F : Fd K "places_from" s_places_from [.non, .bl true] [] f fd) :
    FnOk P w K mg base CX0 2 f fd ["places", "starts", "without", "faults"] (spD K S_places_from) := by
  refine fnD F sc_places_from (fun ds Φ h => by obtain ⟨_, _, _, _, rfl, _⟩ := h; rfl) (fun B cdv A outer s H E ds Φ hr hp hS => ?_)
  obtain ⟨ps, st, wo, fl, rfl, hst, hsl, hok, h64, hΦ⟩ := hS
  refine ds_cons (ds_setIset 4 T.set (de_nm 1 ⟨st.map fun k => ((k : Nat) : Int), ?_, ?_, fun ls hnd hls => ?_⟩) sc_places_from.nd)
  · show PyData.list (st.map natD) = PyData.list ((st.map _).map PyData.int)
    rw [List.map_map]
    rfl
  · rw [List.length_map]; exact hsl
  refine ds_cons (ds_setO 5 (dl_callTy call_list_of T.list boot_list (wl_list rfl (da_cons (de_nm 1 (da_nil ⟨st.map natD, .inl rfl, ?_⟩))))) sc_places_from.nd)
  -- the set, told by numbers
  have hpos : ∀ k ∈ ls, 0 ≤ k := fun k hk => by
    obtain ⟨a, _, rfl⟩ := List.mem_map.mp ((hls k).mp hk)
    exact Int.natCast_nonneg a
  obtain ⟨sn, hsn⟩ : ∃ sn : List Nat, ls = sn.map fun k => ((k : Nat) : Int) := ⟨ls.map Int.toNat, by
    rw [List.map_map]
    conv => lhs; rw [← List.map_id ls]
    exact List.map_congr_left fun k hk => (Int.toNat_of_nonneg (hpos k hk)).symm⟩
  subst hsn
  have hmem : ∀ k : Nat, k ∈ sn ↔ k ∈ st := fun k => by
    have := hls k
    rw [cast_mem, cast_mem] at this
    exact this
  have nd0 : sn.Nodup := (List.pairwise_map.mp hnd).imp fun h e => h (by rw [e])
  refine ds_cons (ds_whileL (fun m δ => ∃ sn lf c6 c7 c8 c9, δ = envP ps st wo fl sn lf c6 c7 c8 c9 ∧ Wlk ps wo fl st sn lf (fun _ => False) ∧ m = 2 * (ps.length - sn.length) + lf.length ∧ m ≤ 2000) (m0 := 2 * (ps.length - sn.length) + st.length) ⟨sn, st, none, none, none, none, rfl, ⟨nd0, fun k hk => hst k ((hmem k).mp hk), fun k hk => .base ((hmem k).mp hk), fun k hk => (hmem k).mpr hk, fun k hk => (hmem k).mpr hk, fun j hj hn => absurd ((hmem j).mp hj) hn⟩, rfl, by omega⟩ fun m δ hI => ?_)
  obtain ⟨sn, lf, c6, c7, c8, c9, rfl, hW, rfl, hm0⟩ := hI
  refine dt_peek 5 (dt_truth (de_nm 5 ⟨_, rfl, rfl, ?_⟩)) rfl envP_own
  have hlen := nd_len _ _ hW.nd hW.lt
  rcases List.eq_nil_or_concat lf with rfl | ⟨lf', j, e⟩
  · -- nothing is left
    refine iteF (ds_last (ds_ret (de_dl (dl_sortedIset 4 (ls := sn.map fun k => ((k : Nat) : Int)) T.sorted (by rw [List.length_map]; omega) fun ns h1 h2 => ?_))))
    have hp2 : ∀ k ∈ ns, 0 ≤ k := fun k hk => by
      obtain ⟨a, _, rfl⟩ := List.mem_map.mp ((h2 k).mp hk)
      exact Int.natCast_nonneg a
    rw [nat_ints ns hp2]
    refine hΦ _ (List.pairwise_map.mpr (h1.imp_of_mem fun ha hb h => ?_)) fun k => ?_
    · have := hp2 _ ha
      have := hp2 _ hb
      omega
    · refine Iff.trans ?_ (hW.fin (fun _ h => h) k)
      rw [← cast_mem (l := sn), ← h2, List.mem_map]
      exact ⟨fun ⟨a, q1, q2⟩ => by rw [← q2, Int.toNat_of_nonneg (hp2 a q1)]; exact q1, fun h => ⟨_, h, Int.toNat_natCast k⟩⟩
  · rw [List.concat_eq_append] at e
    subst e
    have hj : j ∈ sn := hW.le j (by simp)
    have hjl := hW.lt j hj
    have emp : (!((lf' ++ [j]).map natD).isEmpty) = true := by simp
    rw [emp]
    have hown : (envP ps st wo fl sn (lf' ++ [j]) c6 c7 c8 c9).s[5]? = some (some (.own (lf'.map natD ++ [natD j]))) := by
      show some (some (C.own ((lf' ++ [j]).map natD))) = _
      rw [List.map_append]
      rfl
    have nd := sc_places_from.nd
    rw [List.length_append, List.length_singleton] at hm0
    refine iteT (dsl_cons (ds_set 6 (de_ix ix_tup (de_nm 0 (de_pop 5 (xs := lf'.map natD) (z := natD j) (rd_ixT (places_get hjl) ?_) hown))) nd))
    have hpj := List.getElem?_eq_getElem hjl
    have hW0 : (∀ k, ¬ Stp ps wo fl j k) → Wlk ps wo fl st sn lf' (fun _ => False) := fun h => ⟨hW.nd, hW.lt, hW.rc, hW.st, fun k hk => hW.le k (by simp [hk]), fun a ha hn _ k hs => by
      by_cases e : a = j
      · exact absurd (e ▸ hs) (h k)
      · exact hW.cl a ha (by simp [hn, e]) (fun h => h) k hs⟩
    have fin0 : ∀ {c6 c7 c8 c9 : Option PyData}, (∀ k, ¬ Stp ps wo fl j k) → ∃ m', m' < 2 * (ps.length - sn.length) + (lf' ++ [j]).length ∧ ∃ sn' lf c6' c7' c8' c9', envP ps st wo fl sn lf' c6 c7 c8 c9 = envP ps st wo fl sn' lf c6' c7' c8' c9' ∧ Wlk ps wo fl st sn' lf (fun _ => False) ∧ m' = 2 * (ps.length - sn'.length) + lf.length ∧ m' ≤ 2000 := fun {c6 c7 c8 c9} h =>
      ⟨2 * (ps.length - sn.length) + lf'.length, by rw [List.length_append, List.length_singleton]; omega, sn, lf', c6, c7, c8, c9, rfl, hW0 h, rfl, by omega⟩
    show DSL B _ _ (envP ps st wo fl sn lf' (some (plD ps[j])) c7 c8 c9) _ _
    generalize hpl : ps[j] = pl at hpj
    refine dsl_ifc (dt_pw (dw_or (dt_cmp op_isN (de_nm 6 (de_non (rd_isN ⟨_, rfl, ?_⟩))))))
    cases pl with
    | none =>
      refine iteT (iteT (fin0 fun k hs => ?_))
      obtain ⟨pl, h1, b, hb, _⟩ := hs
      rw [hpj] at h1
      cases h1
      simp [brs] at hb
    | some q =>
    obtain ⟨sy, bs⟩ := q
    refine iteF (dw_or1 (dt_cmp op_eq (de_ix ix_tup (de_nm 6 (de_int (rd_ixT rfl (de_nm 2 (rd_eqWo ⟨_, rfl, ?_⟩))))))))
    by_cases hs : some sy = wo
    · rw [decide_eq_true hs]
      refine iteT (fin0 fun k hst => ?_)
      obtain ⟨pl, h1, b, hb, _⟩ := hst
      rw [hpj] at h1
      cases h1
      simp [brs, hs] at hb
    rw [decide_eq_false hs]
    have hbrs : ∀ b, b ∈ brs (some (sy, bs)) wo fl ↔ b ∈ bs ∧ keepB wo fl b = true := fun b => by
      unfold brs
      dsimp only
      rw [if_neg hs, List.mem_filter]
    obtain ⟨tf, htf⟩ := T.fault
    refine iteF (dsl_of (ds_last (ds_for [7, 8, 9] (pi_tup pe_w) (pg_three 7 8 9 nd) (wi_tup (de_ix ix_tup (de_nm 6 (de_int (rd_ixT rfl ⟨bs.map brD, rfl, ?_⟩))))))))
    refine ⟨fun i δ => ∃ sn' lf c7 c8 c9, δ = envP ps st wo fl sn' lf (some (plD (some (sy, bs)))) c7 c8 c9 ∧ Wlk ps wo fl st sn' lf (· = j) ∧ j ∈ sn' ∧ (∀ i' b, i' < i → bs[i']? = some b → keepB wo fl b = true → b.2.2 ∈ sn') ∧ 2 * (ps.length - sn'.length) + lf.length ≤ 2 * (ps.length - sn.length) + lf'.length,
      ⟨sn, lf', c7, c8, c9, rfl, ⟨hW.nd, hW.lt, hW.rc, hW.st, fun k hk => hW.le k (by simp [hk]), fun a ha hn hx => hW.cl a ha (by simp [hn, hx]) (fun h => h)⟩, hj, fun i' b h => absurd h (by omega), Nat.le_refl _⟩, fun i y δ hy hI => ?_, fun δ hI => ?_⟩
    · obtain ⟨sn', lf, c7, c8, c9, rfl, hW', hj', hdone, hm⟩ := hI
      rw [List.getElem?_map, Option.map_eq_some_iff] at hy
      obtain ⟨b, hb, rfl⟩ := hy
      have hbm := List.mem_of_getElem? hb
      refine wg_tup (wgs_cons (wg_name (wgs_cons (wg_name (wgs_cons (wg_name (wgs_nil ?_)))))))
      have more : ∀ {sn2 : List Nat}, (∀ k ∈ sn', k ∈ sn2) → (keepB wo fl b = true → b.2.2 ∈ sn2) → ∀ i' b', i' < i + 1 → bs[i']? = some b' → keepB wo fl b' = true → b'.2.2 ∈ sn2 := fun h1 h2 i' b' hi' hb' hk => by
        rcases Nat.lt_or_ge i' i with h | h
        · exact h1 _ (hdone i' b' h hb' hk)
        · obtain rfl : i' = i := by omega
          rw [hb] at hb'
          injection hb' with hb'
          subst hb'
          exact h2 hk
      have skip : (keepB wo fl b = true → b.2.2 ∈ sn') → ∃ sn'_1 lf_1 c7 c8 c9, envP ps st wo fl sn' lf (some (plD (some (sy, bs)))) (some (.str b.1)) (some (.str b.2.1)) (some (natD b.2.2)) = envP ps st wo fl sn'_1 lf_1 (some (plD (some (sy, bs)))) c7 c8 c9 ∧ Wlk ps wo fl st sn'_1 lf_1 (· = j) ∧ j ∈ sn'_1 ∧ (∀ i' b, i' < i + 1 → bs[i']? = some b → keepB wo fl b = true → b.2.2 ∈ sn'_1) ∧ 2 * (ps.length - sn'_1.length) + lf_1.length ≤ 2 * (ps.length - sn.length) + lf'.length := fun h =>
        ⟨sn', lf, _, _, _, rfl, hW', hj', more (fun _ h => h) h, hm⟩
      refine ds_last (ds_if (dt_pw (dw_and (dt_notInS 4 (de_nm 9 ⟨((b.2.2 : Nat) : Int), _, rfl, rfl, ?_⟩)))))
      by_cases hin : b.2.2 ∈ sn'
      · rw [decide_eq_true (cast_mem.mpr hin)]
        exact iteF (iteF (ds_nil (skip fun _ => hin)))
      rw [decide_eq_false (fun h => hin (cast_mem.mp h))]
      refine iteT (dw_and (dt_cmp op_ne (de_nm 7 (de_nm 2 (rd_neWo ⟨_, rfl, ?_⟩)))))
      have hkb : keepB wo fl b = (!decide (some b.1 = wo) && (fl || !decide (b.2.1 = flt))) := rfl
      by_cases h1 : some b.1 = wo
      · rw [decide_eq_true h1] at hkb ⊢
        exact iteF (iteF (ds_nil (skip fun z => by rw [hkb] at z; cases z)))
      rw [decide_eq_false h1] at hkb ⊢
      have add : keepB wo fl b = true → DSs B (bodyX P w K mg base n_places_from "places_from" (defScope s_places_from) f cdv A outer s H E) (bodyOf s_places_from) (envP ps st wo fl sn' lf (some (plD (some (sy, bs)))) (some (.str b.1)) (some (.str b.2.1)) (some (natD b.2.2))) (fun δ => ∃ sn' lf c7 c8 c9, δ = envP ps st wo fl sn' lf (some (plD (some (sy, bs)))) c7 c8 c9 ∧ Wlk ps wo fl st sn' lf (· = j) ∧ j ∈ sn' ∧ (∀ i' b, i' < i + 1 → bs[i']? = some b → keepB wo fl b = true → b.2.2 ∈ sn') ∧ 2 * (ps.length - sn'.length) + lf.length ≤ 2 * (ps.length - sn.length) + lf'.length) (fun x _ => Φ x) := fun hkp => by
        have hstp : Stp ps wo fl j b.2.2 := ⟨_, hpj, b, (hbrs b).mpr ⟨hbm, hkp⟩, rfl⟩
        have hbl := hok.stp hstp
        have hnd : (sn' ++ [b.2.2]).Nodup := List.nodup_append.mpr ⟨hW'.nd, by simp, fun a ha c hc => by
          simp at hc
          subst hc
          exact fun e => hin (e ▸ ha)⟩
        have hlt : ∀ k ∈ sn' ++ [b.2.2], k < ps.length := fun k hk => by
          rcases List.mem_append.mp hk with h | h
          · exact hW'.lt k h
          · simp at h; subst h; exact hbl
        have hl2 := nd_len _ _ hnd hlt
        rw [List.length_append, List.length_singleton] at hl2
        have hW2 : Wlk ps wo fl st (sn' ++ [b.2.2]) (lf ++ [b.2.2]) (· = j) := ⟨hnd, hlt, fun k hk => by
          rcases List.mem_append.mp hk with h | h
          · exact hW'.rc k h
          · simp at h; subst h; exact .step (hW'.rc j hj') hstp, fun k hk => List.mem_append_left _ (hW'.st k hk), fun k hk => by
          rcases List.mem_append.mp hk with h | h
          · exact List.mem_append_left _ (hW'.le k h)
          · exact List.mem_append_right _ h, fun a ha hn hx k hs => by
          rcases List.mem_append.mp ha with h | h
          · exact List.mem_append_left _ (hW'.cl a h (fun z => hn (List.mem_append_left _ z)) hx k hs)
          · exact absurd (List.mem_append_right _ h) hn⟩
        refine ds_cons (ds_add 4 (ls := sn'.map fun k => ((k : Nat) : Int)) (de_nm 9 ⟨((b.2.2 : Nat) : Int), _, rfl, rfl, fun h => hin (cast_mem.mp h), by rw [List.length_map]; omega, ?_⟩))
        refine ds_last (ds_append 5 (xs := lf.map natD) (de_nm 9 ⟨_, rfl, ?_, ?_⟩))
        · rw [List.length_map]; omega
        · refine ⟨sn' ++ [b.2.2], lf ++ [b.2.2], some (.str b.1), some (.str b.2.1), some (natD b.2.2), ?_, hW2, List.mem_append_left _ hj', more (fun _ h => List.mem_append_left _ h) (fun _ => by simp), ?_⟩
          · unfold envP
            rw [List.map_append, List.map_append]
            rfl
          · rw [List.length_append, List.length_append, List.length_singleton]
            omega
      refine iteT (dw_and1 (dt_pw (dw_or (dt_val (de_nm 3 ⟨fl, rfl, ?_⟩)))))
      cases fl with
      | true => exact iteT (iteT (add (by rw [hkb]; rfl)))
      | false =>
        refine iteF (dw_or1 (dt_cmp op_ne (de_nm 8 (de_glob (v := .str flt) htf ⟨_, rfl⟩ (fun _ => .str _) (rd_neS ⟨_, rfl, ?_⟩)))))
        by_cases h2 : b.2.1 = flt
        · rw [decide_eq_true h2] at hkb ⊢
          exact iteF (ds_nil (skip fun z => by rw [hkb] at z; cases z))
        · rw [decide_eq_false h2] at hkb ⊢
          exact iteT (add (by rw [hkb]; rfl))
    · obtain ⟨sn', lf, c7, c8, c9, rfl, hW', hj', hdone, hm⟩ := hI
      refine ⟨2 * (ps.length - sn'.length) + lf.length, ?_, sn', lf, _, _, _, _, rfl, ⟨hW'.nd, hW'.lt, hW'.rc, hW'.st, hW'.le, fun a ha hn _ k hs' => ?_⟩, rfl, by omega⟩
      · rw [List.length_append, List.length_singleton]
        omega
      · by_cases e : a = j
        · subst e
          obtain ⟨pl, h1, b, hb, rfl⟩ := hs'
          rw [hpj] at h1
          injection h1 with h1
          subst h1
          obtain ⟨hb1, hb2⟩ := (hbrs b).mp hb
          obtain ⟨i', hi', e'⟩ := List.getElem_of_mem hb1
          exact hdone i' b (by rw [List.length_map]; exact hi') (by rw [List.getElem?_eq_getElem hi', e']) hb2
        · exact hW'.cl a ha hn e k hs'
end K3

set_option maxHeartbeats 200000
set_option Elab.async false
set_option linter.all false
set_option maxRecDepth 100000
set_option maxHeartbeats 4000000
namespace K3
open PySem PySem.Spec PyProof.Rows L2 DL
open PySem.W (alike alikeAll dataLt dataLe AllAlike Sortable EachIs)
variable {P : Program} {w : World} {K : PySem.W.Frag} {mg : Str → Option Value} {base : Heap} {f : Addr} {fd : FuncData} {k : Nat}
structure IsNm (s : Str) : Prop where
  l1 : 1 ≤ s.length
  l2 : s.length ≤ 8
  cs : ∀ c ∈ s.cps.toList, 97 ≤ c ∧ c ≤ 122
def isNmB (s : Str) : Bool := decide (1 ≤ s.length) && decide (s.length ≤ 8) && s.cps.toList.all fun c => decide (97 ≤ c) && decide (c ≤ 122)
theorem isNmB_iff {s : Str} : isNmB s = true ↔ IsNm s := by
  unfold isNmB
  simp only [Bool.and_eq_true, decide_eq_true_eq, List.all_eq_true]
  exact ⟨fun ⟨⟨a, b⟩, c⟩ => ⟨a, b, c⟩, fun h => ⟨⟨h.l1, h.l2⟩, h.cs⟩⟩
def S_is_name : SpD := fun ds Φ => ∃ s, ds = [.str s] ∧ s.length ≤ 1000 ∧ Φ (.bool (isNmB s))
theorem boot_all : bootBuiltins "all" = some (.builtin "all") := by decide +kernel
theorem boot_any : bootBuiltins "any" = some (.builtin "any") := by decide +kernel
theorem ok_is_name (T : Tx mg) (F : Fd K "is_name" s_is_name [] [] f fd) : FnOk P w K mg base CX0 1 f fd ["thing"] (spD K S_is_name) := by
  refine fnD F sc_is_name (fun ds Φ h => by obtain ⟨s, rfl, _⟩ := h; rfl) (fun B cdv A outer s H E ds Φ hr hp hS => ?_)
  obtain ⟨x, rfl, hx, hΦ⟩ := hS
  have hz : x.length ≤ 100000 := by omega
  obtain ⟨t, ht⟩ := T.mostL
  refine ds_cons (ds_if (dt_pw (dw_or (dt_not (dt_val (de_isi T.isi T.str (.inr (.inl rfl)) boot_str (de_nm 0 ⟨rfl, _, rfl, ?_⟩)))))))
  refine iteF (dw_or1 (dt_cmp op_gt (de_callB call_len T.len boot_len (da_cons (de_nm 0 (da_nil (rc_lenS rfl hz (de_glob (v := .int 8) ht ⟨_, rfl⟩ (fun _ => .int _) (rd_B0 ⟨_, rfl, ?_⟩)))))))))
  have e2 : decide ((8 : Int) < (x.length : Nat)) = !decide (x.length ≤ 8) := by
    rw [← decide_not]
    exact decide_eq_decide.mpr (by omega)
  rw [e2]
  have sm := small_letters x
  by_cases h2 : x.length ≤ 8
  · have eq : isNmB x = (Txt.isascii x && (Txt.isalpha x && Txt.islower x)) := by
      unfold isNmB
      rw [sm, decide_eq_true h2, Bool.and_true]
    rw [eq] at hΦ
    rw [decide_eq_true h2]
    refine iteF (ds_nil (ds_last (ds_ret (de_and (de_isascii (de_nm 0 ⟨x, rfl, _, rfl, ?_⟩))))))
    cases h3 : Txt.isascii x with
    | false =>
      rw [h3] at hΦ
      exact iteF hΦ
    | true =>
      rw [h3] at hΦ
      refine iteT (de_and (de_isalpha (de_nm 0 ⟨x, rfl, _, rfl, ?_⟩)))
      cases h4 : Txt.isalpha x with
      | false =>
        rw [h4] at hΦ
        exact iteF hΦ
      | true =>
        rw [h4] at hΦ
        exact iteT (de_one (de_islower (de_nm 0 ⟨x, rfl, hΦ⟩)))
  · rw [decide_eq_false h2]
    refine iteT (ds_last (ds_ret (de_bl ?_)))
    have : isNmB x = false := by unfold isNmB; rw [decide_eq_false h2]; simp
    rw [this] at hΦ
    exact hΦ
/-- rising, place by place -/
def S_is_rising : SpD := fun ds Φ => ∃ d xs, ds = [d] ∧ (d = .tuple xs ∨ d = .list xs) ∧ xs.length ≤ 1000 ∧ (∀ i x y, xs[i]? = some x → xs[i + 1]? = some y → alike x y = true ∧ x ≠ .none ∧ x.depth ≤ 60 ∧ noH x = true ∧ noH y = true ∧ dataLt x y = true) ∧ Φ (.bool true)
theorem ok_is_rising (T : Tx mg) (F : Fd K "is_rising" s_is_rising [] [] f fd) : FnOk P w K mg base CX0 1 f fd ["things"] (spD K S_is_rising) := by
  refine fnD F sc_is_rising (fun ds Φ h => by obtain ⟨d, xs, rfl, _⟩ := h; rfl) (fun B cdv A outer s H E ds Φ hr hp hS => ?_)
  obtain ⟨d, xs, rfl, hd, hl, hrise, hΦ⟩ := hS
  have nd := sc_is_rising.nd
  rcases hd with rfl | rfl
  · refine ds_cons (ds_for [1] (pi_range2 rfl T.range pa_w) (pg_name (i := 1) nd rfl (.inl rfl)) (wi_rng2 (da_cons (de_int (da_cons (de_callB call_len T.len boot_len (da_cons (de_nm 0 (da_nil (rc_lenT rfl (da_nil ⟨1, _, rfl, ?_, ?_⟩)))))))))))
    · refine ⟨by decide, by decide, ?_, ?_⟩ <;> omega
    refine ⟨fun i δ => ∃ c : Option PyData, δ = ⟨0, [some (.d _), c.map C.d]⟩, ⟨none, rfl⟩, fun i y δ hy hI => ?_, fun δ hI => ?_⟩
    · obtain ⟨c, rfl⟩ := hI
      obtain ⟨hi, rfl⟩ := rng_get hy
      have hi' : i + 1 < xs.length := by omega
      obtain ⟨q1, q2, q3, q5, q6, q4⟩ := hrise i xs[i] xs[i + 1] (List.getElem?_eq_getElem (by omega)) (List.getElem?_eq_getElem hi')
      have h0 : atI xs ((1 : Int) + (i : Nat) - 1) = some xs[i] := by
        rw [show ((1 : Int) + (i : Nat) - 1) = ((i : Nat) : Int) by omega]
        exact atI_nat (List.getElem?_eq_getElem (by omega))
      have h1 : atI xs ((1 : Int) + (i : Nat)) = some xs[i + 1] := by
        rw [show ((1 : Int) + (i : Nat)) = ((i + 1 : Nat) : Int) by omega]
        exact atI_nat (List.getElem?_eq_getElem hi')
      refine wg_name ?_
      refine ds_last (ds_if (dt_not (dt_cmp (op_ltD hr.units) (de_ix ix_tup (de_nm 0 (de_bin op_sub (de_nm 1 (de_int (rd_I0 (rd_ixT h0 (de_ix ix_tup (de_nm 0 (de_nm 1 (rd_ixT h1 (rd_ltD q5 q6 q1 q2 q3 ⟨_, rfl, ?_⟩)))))))))))))))
      rw [q4]
      exact iteF (ds_nil ⟨some _, rfl⟩)
    · obtain ⟨c, rfl⟩ := hI
      exact ds_last (ds_ret (de_bl hΦ))
  · refine ds_cons (ds_for [1] (pi_range2 rfl T.range pa_w) (pg_name (i := 1) nd rfl (.inl rfl)) (wi_rng2 (da_cons (de_int (da_cons (de_callB call_len T.len boot_len (da_cons (de_nm 0 (da_nil (rc_lenL rfl (da_nil ⟨1, _, rfl, ?_, ?_⟩)))))))))))
    · refine ⟨by decide, by decide, ?_, ?_⟩ <;> omega
    refine ⟨fun i δ => ∃ c : Option PyData, δ = ⟨0, [some (.d _), c.map C.d]⟩, ⟨none, rfl⟩, fun i y δ hy hI => ?_, fun δ hI => ?_⟩
    · obtain ⟨c, rfl⟩ := hI
      obtain ⟨hi, rfl⟩ := rng_get hy
      have hi' : i + 1 < xs.length := by omega
      obtain ⟨q1, q2, q3, q5, q6, q4⟩ := hrise i xs[i] xs[i + 1] (List.getElem?_eq_getElem (by omega)) (List.getElem?_eq_getElem hi')
      have h0 : atI xs ((1 : Int) + (i : Nat) - 1) = some xs[i] := by
        rw [show ((1 : Int) + (i : Nat) - 1) = ((i : Nat) : Int) by omega]
        exact atI_nat (List.getElem?_eq_getElem (by omega))
      have h1 : atI xs ((1 : Int) + (i : Nat)) = some xs[i + 1] := by
        rw [show ((1 : Int) + (i : Nat)) = ((i + 1 : Nat) : Int) by omega]
        exact atI_nat (List.getElem?_eq_getElem hi')
      refine wg_name ?_
      refine ds_last (ds_if (dt_not (dt_cmp (op_ltD hr.units) (de_ix ix_list (de_nm 0 (de_bin op_sub (de_nm 1 (de_int (rd_I0 (rd_ixL h0 (de_ix ix_list (de_nm 0 (de_nm 1 (rd_ixL h1 (rd_ltD q5 q6 q1 q2 q3 ⟨_, rfl, ?_⟩)))))))))))))))
      rw [q4]
      exact iteF (ds_nil ⟨some _, rfl⟩)
    · obtain ⟨c, rfl⟩ := hI
      exact ds_last (ds_ret (de_bl hΦ))
end K3

set_option maxHeartbeats 200000
set_option Elab.async false
set_option linter.all false
set_option maxRecDepth 100000
set_option maxHeartbeats 4000000
namespace K3
open PySem PySem.Spec PyProof.Rows L2 DL
open PySem.W (alike alikeAll dataLt dataLe AllAlike Sortable EachIs)
variable {P : Program} {w : World} {K : PySem.W.Frag} {mg : Str → Option Value} {base : Heap} {f : Addr} {fd : FuncData} {k : Nat}
/-! ### a hand takes part -/
def takes (pl : Pl) (h : Str) : Bool := match pl with
  | none => false
  | some (s, bs) => decide (s = h) || bs.any fun b => decide (b.1 = h)
def hearD (h : Str) : PyData → Bool
  | .tuple (.str x :: _) => decide (x = h)
  | _ => false
def S_takes_part : SpD := fun ds Φ => ∃ pl h, ds = [plD pl, .str h] ∧ (∀ s bs, pl = some (s, bs) → bs.length ≤ 100) ∧ Φ (.bool (takes pl h))
theorem ok_takes_part (T : Tx mg) (F : Fd K "takes_part" s_takes_part [] [] f fd) : FnOk P w K mg base CX0 1 f fd ["place", "hand"] (spD K S_takes_part) := by
  refine fnD F sc_takes_part (fun ds Φ h => by obtain ⟨_, _, rfl, _⟩ := h; rfl) (fun B cdv A outer s H E ds Φ hr hp hS => ?_)
  obtain ⟨pl, h, rfl, hlen, hΦ⟩ := hS
  have nd := sc_takes_part.nd
  refine ds_cons (ds_if (dt_cmp op_isN (de_nm 0 (de_non (rd_isN ⟨_, rfl, ?_⟩)))))
  cases pl with
  | none => exact iteT (ds_last (ds_ret (de_bl hΦ)))
  | some q =>
    obtain ⟨sy, bl⟩ := q
    have hl := hlen sy bl rfl
    refine iteF (ds_nil (ds_cons (ds_unpack [2, 3] (pg_two 2 3 nd) (de_nm 0 (wg_tup (wgs_cons (wg_name (wgs_cons (wg_name (wgs_nil ?_))))))))))
    refine ds_last (ds_ret (de_or (de_cmp op_eq (de_nm 2 (de_nm 1 (rd_eqS ⟨_, rfl, ?_⟩))))))
    by_cases e : sy = h
    · rw [decide_eq_true e]
      have : takes (some (sy, bl)) h = true := by simp [takes, e]
      rw [this] at hΦ
      exact iteT hΦ
    · rw [decide_eq_false e]
      refine iteF (de_one (de_callB (cr_any rfl) T.any boot_any (da_cons (de_dl (dl_map [("branch", 4)] nd (pi_tup pe_w) (blkOk_by (N := n_takes_part) (sc := defScope s_takes_part) (by decide +kernel)) (fun _ _ _ _ _ => pg_name (i := 4) nd rfl (Or.inl rfl))
        (wi_tup (de_nm 3 ⟨bl.map brD, rfl, ?_, fun y => .bool (hearD h y), fun B' y hp' hy => wg_name ?_, da_nil (rc_anyF ?_)⟩)))))))
      · rw [List.length_map]; omega
      · obtain ⟨b, hb, rfl⟩ := List.mem_map.mp hy
        intro s0 H0 C cl fp
        exact de_cmp op_eq (de_ix ix_tup (de_nm 4 (de_int (rd_ixT rfl (de_nm 1 (rd_eqS ⟨rfl, rfl⟩))))))
      · have : (bl.map brD).any (hearD h) = takes (some (sy, bl)) h := by
          show _ = (decide (sy = h) || bl.any fun b => decide (b.1 = h))
          rw [decide_eq_false e, Bool.false_or, List.any_map]
          rfl
        rw [this]
        exact hΦ
/-! ### who has fallen takes part no more -/
def fallsOf (ps : List Pl) (h : Str) : List Nat := ps.flatMap fun pl => match pl with
  | none => []
  | some (s, bs) => if s = h then (bs.filter fun b => decide (b.2.1 = flt)).map fun b => b.2.2 else []
def Fallen (ps : List Pl) (h : Str) : Prop := ∀ k, Rc ps none true (fallsOf ps h) k → ∀ pl, ps[k]? = some pl → takes pl h = false
def S_stays_fallen : SpD := fun ds Φ => ∃ ps h, ds = [plsD ps, .str h] ∧ BrOk ps ∧ ps.length < 64 ∧ (∀ pl ∈ ps, ∀ s bs, pl = some (s, bs) → bs.length ≤ 8) ∧ Fallen ps h ∧ Φ (.bool true)
end K3

set_option maxHeartbeats 200000
set_option Elab.async false
set_option linter.all false
set_option maxRecDepth 100000
set_option maxHeartbeats 4000000
namespace K3
open PySem PySem.Spec PyProof.Rows L2 DL
open PySem.W (alike alikeAll dataLt dataLe AllAlike Sortable EachIs)
variable {P : Program} {w : World} {K : PySem.W.Frag} {mg : Str → Option Value} {base : Heap} {f : Addr} {fd : FuncData} {k : Nat}
def fall1 (h : Str) : Pl → List Nat
  | none => []
  | some (s, bs) => if s = h then (bs.filter fun b => decide (b.2.1 = flt)).map fun b => b.2.2 else []
theorem fallsOf_eq {ps : List Pl} {h : Str} : fallsOf ps h = ps.flatMap (fall1 h) := rfl
theorem falls_take {ps : List Pl} {h : Str} {i : Nat} {pl : Pl} (e : ps[i]? = some pl) : fallsOf (ps.take (i + 1)) h = fallsOf (ps.take i) h ++ fall1 h pl := by
  rw [fallsOf_eq, fallsOf_eq, take_snoc e, List.flatMap_append]
  simp
theorem fall1_len {h : Str} {pl : Pl} (hl : ∀ s bs, pl = some (s, bs) → bs.length ≤ 8) : (fall1 h pl).length ≤ 8 := by
  cases pl with
  | none => simp [fall1]
  | some q =>
    obtain ⟨s, bs⟩ := q
    have := hl s bs rfl
    unfold fall1
    dsimp only
    split
    · rw [List.length_map]
      exact Nat.le_trans (List.length_filter_le _ _) this
    · simp
theorem falls_len {ps : List Pl} {h : Str} (hl : ∀ pl ∈ ps, ∀ s bs, pl = some (s, bs) → bs.length ≤ 8) : (fallsOf ps h).length ≤ 8 * ps.length := by
  rw [fallsOf_eq]
  induction ps with
  | nil => simp
  | cons p ps ih =>
    rw [List.flatMap_cons, List.length_append, List.length_cons]
    have h1 := fall1_len (h := h) (hl p List.mem_cons_self)
    have h2 := ih fun pl hp => hl pl (List.mem_cons_of_mem _ hp)
    omega
theorem falls_lt {ps : List Pl} {h : Str} (ok : BrOk ps) : ∀ k ∈ fallsOf ps h, k < ps.length := fun k hk => by
  rw [fallsOf_eq, List.mem_flatMap] at hk
  obtain ⟨pl, hp, hk⟩ := hk
  cases pl with
  | none => simp [fall1] at hk
  | some q =>
    obtain ⟨s, bs⟩ := q
    unfold fall1 at hk
    dsimp only at hk
    split at hk
    · obtain ⟨b, hb, rfl⟩ := List.mem_map.mp hk
      exact ok.tgt _ hp s bs rfl b (List.mem_filter.mp hb).1
    · simp at hk
def envS (ps : List Pl) (h : Str) (fs : List Nat) (c3 : Option PyData) : St' := ⟨0, [some (.d (plsD ps)), some (.d (.str h)), some (.own (fs.map natD)), c3.map C.d, none]⟩
def thenD : PyData → PyData
  | .tuple [_, _, t] => t
  | _ => .none
def isFltD : PyData → Bool
  | .tuple (_ :: .str w :: _) => decide (w = flt)
  | _ => false
abbrev SpPF (K : PySem.W.Frag) : Sp := spD K S_places_from
theorem rc_lt {ps : List Pl} {wo : Option Str} {fl : Bool} {st : List Nat} (ok : BrOk ps) (hs : ∀ k ∈ st, k < ps.length) {k : Nat} (h : Rc ps wo fl st k) : k < ps.length := by
  cases h with
  | base h => exact hs _ h
  | step _ s => exact ok.stp s
def flts : Pl → List Nat
  | none => []
  | some (_, bs) => (bs.filter fun b => decide (b.2.1 = flt)).map fun b => b.2.2
def S_falls_of : SpO := fun ds Φ => ∃ pl, ds = [plD pl] ∧ (∀ s bs, pl = some (s, bs) → bs.length ≤ 8) ∧ Φ ((flts pl).map natD)
theorem ok_falls_of (T : Tx mg) (F : Fd K "falls_of" s_falls_of [] [] f fd) : FnOk P w K mg base CX0 1 f fd ["place"] (spO K S_falls_of) := by
  refine fnO F sc_falls_of (fun ds Φ h => by obtain ⟨_, rfl, _⟩ := h; rfl) (fun B cdv A outer s H E ds Φ hr hp hS => ?_)
  obtain ⟨pl, rfl, hlen, hΦ⟩ := hS
  have nd := sc_falls_of.nd
  refine dos_if (dt_cmp op_isN (de_nm 0 (de_non (rd_isN ⟨_, rfl, ?_⟩))))
  cases pl with
  | none => exact iteT (dos_ret (dl_lst (da_nil ⟨by decide, hΦ⟩)))
  | some q =>
    obtain ⟨sy, bl⟩ := q
    have hbl := hlen sy bl rfl
    refine iteF (dos_ret (dl_filt (g := gTup K 3 (gCons (gName 1) (gCons (gName 2) (gCons (gName 3) gNil)))) [("_", 1), ("word", 2), ("then", 3)] nd (pi_tup pe_w) (blkOk_by (N := n_falls_of) (sc := defScope s_falls_of) (by decide +kernel)) (fun _ _ _ _ _ => pg_three 1 2 3 nd)
      (wi_tup (de_ix ix_tup (de_nm 0 (de_int (rd_ixT rfl ⟨_, rfl, ?_, isFltD, thenD, fun B' y hp' hy => ?_, ?_⟩)))))))
    · rw [List.length_map]; omega
    · obtain ⟨b, hb, rfl⟩ := List.mem_map.mp hy
      refine wg_tup (wgs_cons (wg_name (wgs_cons (wg_name (wgs_cons (wg_name (wgs_nil ?_)))))))
      intro s0 H0 C cl fp
      obtain ⟨t, ht⟩ := T.fault
      refine dt_cmp op_eq (de_nm 2 (de_glob (v := .str flt) ht ⟨_, rfl⟩ (fun _ => .str _) (rd_eqS ⟨_, rfl, rfl, rfl, fun _ s1 H1 C1 cl1 fp1 => ?_⟩)))
      exact de_nm 3 ⟨rfl, rfl⟩
    · have e1 : ((bl.map brD).filter isFltD).map thenD = (flts (some (sy, bl))).map natD := by
        rw [List.filter_map, List.map_map]
        show _ = ((bl.filter fun b => decide (b.2.1 = flt)).map fun b => b.2.2).map natD
        rw [List.map_map]
        rfl
      rw [e1]
      exact hΦ
theorem ok__stays_fallen (T : Tx mg) (GP : FnDf P w K mg base "places_from" 2 ["places", "starts", "without", "faults"] [.non, .bl true] (spD K S_places_from)) (GT : Fn P w K mg base "takes_part" 1 ["place", "hand"] (spD K S_takes_part)) (GO : Fn P w K mg base "falls_of" 1 ["place"] (spO K S_falls_of))
    (F : Fd K "_stays_fallen" s__stays_fallen [] [] f fd) : FnOk P w K mg base CX0 3 f fd ["places", "hand"] (spD K S_stays_fallen) := by
  refine fnD F sc__stays_fallen (fun ds Φ h => by obtain ⟨_, _, rfl, _⟩ := h; rfl) (fun B cdv A outer s H E ds Φ hr hp hS => ?_)
  obtain ⟨ps, h, rfl, hok, h64, hl8, hfal, hΦ⟩ := hS
  have nd := sc__stays_fallen.nd
  have hfl := falls_len (h := h) hl8
  refine ds_cons (ds_setO 2 (dl_lst (da_nil ⟨by decide, ?_⟩)) nd)
  refine ds_cons (ds_for [3] (pi_tup pe_w) (pg_name (i := 3) nd rfl (.inl rfl)) (wi_tup (de_nm 0 ⟨ps.map plD, rfl, ?_⟩)))
  refine ⟨fun i δ => ∃ c3, δ = envS ps h (fallsOf (ps.take i) h) c3, ⟨none, rfl⟩, fun i y δ hy hI => ?_, fun δ hI => ?_⟩
  · obtain ⟨c3, rfl⟩ := hI
    rw [List.getElem?_map, Option.map_eq_some_iff] at hy
    obtain ⟨pl, hpl, rfl⟩ := hy
    have hmem := List.mem_of_getElem? hpl
    have hstep := falls_take (h := h) hpl
    refine wg_name ?_
    refine ds_last (ds_if (dt_pw (dw_and (dt_cmp op_notN (de_nm 3 (de_non (rd_notN ⟨_, rfl, ?_⟩)))))))
    cases pl with
    | none =>
      refine iteF (ds_nil ⟨some .none, ?_⟩)
      rw [hstep]
      simp only [fall1, List.append_nil]
      rfl
    | some q =>
      obtain ⟨sy, bl⟩ := q
      have hbl := hl8 _ hmem sy bl rfl
      refine iteT (dw_and1 (dt_cmp op_eq (de_ix ix_tup (de_nm 3 (de_int (rd_ixT rfl (de_nm 1 (rd_eqS ⟨_, rfl, ?_⟩))))))))
      by_cases e : sy = h
      · rw [decide_eq_true e]
        have e1 : flts (some (sy, bl)) = fall1 h (some (sy, bl)) := (if_pos e).symm
        refine iteT (ds_last (ds_extend 2 (dl_f (k' := 2) GO hr (da_cons (de_nm 3 (da_nil ⟨some (sy, bl), rfl, fun s bs z => hl8 _ hmem s bs z, _, rfl, ?_, some (plD (some (sy, bl))), ?_⟩))))))
        · rw [List.length_map, List.length_map, e1]
          have h1 : (fallsOf (ps.take i) h).length ≤ 8 * (ps.take i).length := falls_len fun pl hp => hl8 pl (List.mem_of_mem_take hp)
          have h2 : (ps.take i).length ≤ ps.length := by rw [List.length_take]; omega
          have h3 := fall1_len (h := h) (hl8 _ hmem)
          omega
        · rw [e1, hstep]
          unfold envS
          rw [List.map_append]
          rfl
      · rw [decide_eq_false e]
        refine iteF (ds_nil ⟨some (plD (some (sy, bl))), ?_⟩)
        have e1 : fall1 h (some (sy, bl)) = [] := if_neg e
        rw [hstep, e1, List.append_nil]
        rfl
  · obtain ⟨c3, rfl⟩ := hI
    rw [List.length_map, List.take_length]
    refine dss_freeze 2 (xs := (fallsOf ps h).map natD) (ds_last (ds_ret (de_not (de_callB (cr_any rfl) T.any boot_any (da_cons (de_dl (dl_map [("at", 4)] nd (pi_list pe_w) (blkOk_by (N := n__stays_fallen) (sc := defScope s__stays_fallen) (by decide +kernel)) (fun _ _ _ _ _ => pg_name (i := 4) nd rfl (Or.inl rfl))
      (wi_list (de_fDf (k' := 2) [.none, .bool true] GP hr (fun _ => .cons .non (.cons (.bl true) .nil)) (da_cons (de_nm 0 (da_cons (de_nm 2 (da_nil ⟨ps, fallsOf ps h, none, true, rfl, falls_lt hok, ?_, hok, h64, fun l hs hm => ⟨_, rfl, ?_, fun _ => .bool false, fun B' y hp' hy => wg_name ?_, da_nil (rc_anyF (f := fun _ => false) ?_)⟩⟩))))))))))))))
    · omega
    · have := nd_len ps.length l (hs.imp fun h e => by omega) fun k hk => rc_lt hok (falls_lt hok) ((hm k).mp hk)
      rw [List.length_map]; omega
    · obtain ⟨j, hj, rfl⟩ := List.mem_map.mp hy
      have hr' := (hm j).mp hj
      have hjl := rc_lt hok (falls_lt hok) hr'
      intro s0 H0 C cl fp
      refine de_f (k' := 2) GT hr (da_cons (de_ix ix_tup (de_nm 0 (de_nm 4 (rd_ixT (places_get hjl) (da_cons (de_nm 1 (da_nil ⟨ps[j], h, rfl, fun s bs e => hok.len _ (List.getElem_mem hjl) s bs e, ?_, rfl⟩))))))))
      rw [hfal j hr' ps[j] (List.getElem?_eq_getElem hjl)]
    · have : (l.map natD).any (fun _ => false) = false := by simp
      rw [this]
      exact ⟨false, rfl, hΦ⟩
end K3

set_option maxHeartbeats 200000
set_option Elab.async false
set_option linter.all false
set_option maxRecDepth 100000
set_option maxHeartbeats 4000000
namespace K3
open PySem PySem.Spec PyProof.Rows L2 DL
variable {P : Program} {w : World} {K : PySem.W.Frag} {mg : Str → Option Value} {base : Heap} {f : Addr} {fd : FuncData} {k : Nat}

/-- is_tuple_of(thing, least, most) -/
def isTupM (d : PyData) (a b : Int) : Bool := match d with
  | .tuple xs => decide (a ≤ (xs.length : Int)) && decide ((xs.length : Int) ≤ b)
  | _ => false
def S_is_tuple_of : SpD := fun ds Φ => ∃ d a b, ds = [d, .int a, .int b] ∧ noD d = true ∧ Φ (.bool (isTupM d a b))
theorem ok_is_tuple_of (T : Tx mg) (F : Fd K "is_tuple_of" s_is_tuple_of [] [] f fd) : FnOk P w K mg base CX0 1 f fd ["thing", "least", "most"] (spD K S_is_tuple_of) := by
  refine fnD F sc_is_tuple_of (fun ds Φ h => by obtain ⟨d, a, b, rfl, _⟩ := h; rfl) (fun B cdv A outer s H E ds Φ hr hp hS => ?_)
  obtain ⟨d, a, b, rfl, hno, hΦ⟩ := hS
  refine ds_last (ds_ret (de_and (de_isi T.isi T.tup (.inl rfl) boot_tuple (de_nm 0 ⟨hno, _, rfl, ?_⟩))))
  cases d with
  | tuple xs =>
    refine iteT (de_one (de_chain op_le op_le (de_nm 1 (de_callB call_len T.len boot_len (da_cons (de_nm 0 (da_nil (rc_lenT rfl (rd_B0 ⟨_, rfl, ?_⟩)))))))))
    have e : isTupM (.tuple xs) a b = (decide (a ≤ (xs.length : Int)) && decide ((xs.length : Int) ≤ b)) := rfl
    rw [e] at hΦ
    refine ite2 (fun h => de_nm 2 (rd_B0 ?_)) (fun h => ?_)
    · rw [h] at hΦ
      exact hΦ
    · have h' : decide (a ≤ (xs.length : Int)) = false := by simpa using h
      rw [h'] at hΦ
      exact hΦ
  | _ => exact iteF hΦ
end K3

set_option maxHeartbeats 200000
set_option Elab.async false
set_option linter.all false
set_option maxRecDepth 100000
set_option maxHeartbeats 4000000
namespace K3
open PySem PySem.Spec PyProof.Rows L2 DL
open PySem.W (alike alikeAll dataLt dataLe AllAlike Sortable EachIs)
variable {P : Program} {w : World} {K : PySem.W.Frag} {mg : Str → Option Value} {base : Heap} {f : Addr} {fd : FuncData} {k : Nat}
theorem isTup_nm {l : List Str} {a b : Int} (h1 : a ≤ (l.length : Int)) (h2 : (l.length : Int) ≤ b) : isTupM (nmD l) a b = true := by
  show (decide (a ≤ ((l.map PyData.str).length : Int)) && decide (((l.map PyData.str).length : Int) ≤ b)) = true
  rw [List.length_map, decide_eq_true h1, decide_eq_true h2]
  rfl
theorem isTup_tup {l : List PyData} {a b : Int} (h1 : a ≤ (l.length : Int)) (h2 : (l.length : Int) ≤ b) : isTupM (.tuple l) a b = true := by
  show (decide (a ≤ (l.length : Int)) && decide ((l.length : Int) ≤ b)) = true
  rw [decide_eq_true h1, decide_eq_true h2]
  rfl
abbrev SpT (K : PySem.W.Frag) : Sp := spD K S_is_tuple_of
/-! ### hands -/
def S_are_hands : SpD := fun ds Φ => ∃ hs : List Str, ds = [nmD hs] ∧ 2 ≤ hs.length ∧ hs.length ≤ 6 ∧ (∀ h ∈ hs, IsNm h) ∧ hs.Nodup ∧ Φ (.bool true)
theorem ok__are_hands (T : Tx mg) (GT : Fn P w K mg base "is_tuple_of" 1 ["thing", "least", "most"] (spD K S_is_tuple_of)) (GN : Fn P w K mg base "is_name" 1 ["thing"] (spD K S_is_name)) (F : Fd K "_are_hands" s__are_hands [] [] f fd) : FnOk P w K mg base CX0 2 f fd ["thing"] (spD K S_are_hands) := by
  refine fnD F sc__are_hands (fun ds Φ h => by obtain ⟨_, rfl, _⟩ := h; rfl) (fun B cdv A outer s H E ds Φ hr hp hS => ?_)
  obtain ⟨hs, rfl, h2, h6, hn, hd, hΦ⟩ := hS
  have nd := sc__are_hands.nd
  obtain ⟨t1, ht1⟩ := T.fewH
  obtain ⟨t2, ht2⟩ := T.mostH
  refine ds_cons (ds_if (dt_not (dt_val (de_f (k' := 1) GT hr (da_cons (de_nm 0 (da_cons (de_glob (v := .int 2) ht1 ⟨_, rfl⟩ (fun _ => .int _) (da_cons (de_glob (v := .int 6) ht2 ⟨_, rfl⟩ (fun _ => .int _) (da_nil ⟨nmD hs, 2, 6, rfl, rfl, _, rfl, ?_⟩)))))))))))
  rw [isTup_nm (by omega) (by omega)]
  refine iteF (ds_nil (ds_last (ds_ret (de_and (de_callB (cr_all rfl) T.all boot_all (da_cons (de_dl (dl_map [("name", 1)] nd (pi_tup pe_w) (blkOk_by (N := n__are_hands) (sc := defScope s__are_hands) (by decide +kernel)) (fun _ _ _ _ _ => pg_name (i := 1) nd rfl (Or.inl rfl))
    (wi_tup (de_nm 0 ⟨hs.map PyData.str, rfl, ?_, fun _ => .bool true, fun B' y hp' hy => wg_name ?_, da_nil (rc_allF (f := fun _ => true) ⟨_, rfl, ?_⟩)⟩))))))))))
  · rw [List.length_map]; omega
  · obtain ⟨h, hh, rfl⟩ := List.mem_map.mp hy
    intro s0 H0 C cl fp
    have := (hn h hh).l2
    refine de_f (k' := 1) GN hr (da_cons (de_nm 1 (da_nil ⟨h, rfl, by omega, ?_, rfl⟩)))
    rw [isNmB_iff.mpr (hn h hh)]
  · rw [show (hs.map PyData.str).all (fun _ => true) = true by simp]
    refine iteT (de_one ?_)
    refine de_cmp op_eq (de_lenSet T.len T.set (de_nm 0 ⟨hs, rfl, hd, by omega, de_callB call_len T.len boot_len (da_cons (de_nm 0 (da_nil (rc_lenT rfl (rd_eqI ?_)))))⟩))
    rw [List.length_map, decide_eq_true rfl]
    exact hΦ
/-! ### weak hands -/
structure WkOk (hands weak : List Str) : Prop where
  len : weak.length ≤ hands.length
  sub : ∀ h ∈ weak, h ∈ hands
  ris : ∀ i x y, (weak.map PyData.str)[i]? = some x → (weak.map PyData.str)[i + 1]? = some y → dataLt x y = true
def S_are_weak : SpD := fun ds Φ => ∃ ws hs : List Str, ds = [nmD ws, nmD hs] ∧ hs.length ≤ 6 ∧ WkOk hs ws ∧ Φ (.bool true)
theorem ok_are_weak (T : Tx mg) (GT : Fn P w K mg base "is_tuple_of" 1 ["thing", "least", "most"] (spD K S_is_tuple_of)) (GR : Fn P w K mg base "is_rising" 1 ["things"] (spD K S_is_rising)) (F : Fd K "are_weak" s_are_weak [] [] f fd) : FnOk P w K mg base CX0 2 f fd ["thing", "hands"] (spD K S_are_weak) := by
  refine fnD F sc_are_weak (fun ds Φ h => by obtain ⟨_, _, rfl, _⟩ := h; rfl) (fun B cdv A outer s H E ds Φ hr hp hS => ?_)
  obtain ⟨ws, hs, rfl, h6, hw, hΦ⟩ := hS
  have nd := sc_are_weak.nd
  have hl := hw.len
  refine ds_cons (ds_if (dt_not (dt_val (de_f (k' := 1) GT hr (da_cons (de_nm 0 (da_cons (de_int (da_cons (de_callB call_len T.len boot_len (da_cons (de_nm 1 (da_nil (rc_lenT rfl (da_nil ⟨nmD ws, 0, _, rfl, rfl, _, rfl, ?_⟩)))))))))))))))
  rw [List.length_map, isTup_nm (by omega) (by omega)]
  refine iteF (ds_nil (ds_last (ds_ret (de_and (de_callB (cr_all rfl) T.all boot_all (da_cons (de_dl (dl_map [("name", 2)] nd (pi_tup pe_w) (blkOk_by (N := n_are_weak) (sc := defScope s_are_weak) (by decide +kernel)) (fun _ _ _ _ _ => pg_name (i := 2) nd rfl (Or.inl rfl))
    (wi_tup (de_nm 0 ⟨ws.map PyData.str, rfl, ?_, fun _ => .bool true, fun B' y hp' hy => wg_name ?_, da_nil (rc_allF (f := fun _ => true) ⟨_, rfl, ?_⟩)⟩))))))))))
  · rw [List.length_map]; omega
  · obtain ⟨h, hh, rfl⟩ := List.mem_map.mp hy
    intro s0 H0 C cl fp
    refine de_cmp op_in_seq (de_nm 2 (de_nm 1 (rd_inStr ⟨?_, rfl⟩)))
    rw [decide_eq_true (hw.sub h hh)]
  · rw [show (ws.map PyData.str).all (fun _ => true) = true by simp]
    refine iteT (de_one ?_)
    refine de_f (k' := 1) GR hr (da_cons (de_nm 0 (da_nil ⟨nmD ws, ws.map PyData.str, rfl, .inl rfl, ?_, fun i x y hx hy => ?_, hΦ⟩)))
    · rw [List.length_map]; omega
    · have q := hw.ris i x y hx hy
      rw [List.getElem?_map, Option.map_eq_some_iff] at hx hy
      obtain ⟨a, _, rfl⟩ := hx
      obtain ⟨b, _, rfl⟩ := hy
      exact ⟨rfl, (fun z => by cases z), Nat.zero_le _, rfl, rfl, q⟩
/-! ### a branch -/
structure BOk (hands : List Str) (many : Nat) (s : Str) (b : Br) : Prop where
  hr : b.1 ∈ hands
  ne : b.1 ≠ s
  wd : IsNm b.2.1 ∨ b.2.1 = flt
  tg : b.2.2 < many
end K3

set_option maxHeartbeats 200000
set_option Elab.async false
set_option linter.all false
set_option maxRecDepth 100000
set_option maxHeartbeats 1000000
namespace DL
open PySem PySem.Spec PyProof.Rows L2
/-! ### x += e, of ints -/
theorem ds_augI {B : B0} {X : Cx} {e : Expr} {δ : St'} {N : St' → Prop} {R : PE1} {pos pos' : Pos} (i : Nat) {x : Str} {a : Int} (h : DE B X e δ fun d δ' => ∃ b : Int, d = .int b ∧ δ'.s[i]? = some (some (.d (.int a))) ∧ N (δ'.put i (.d (.int (a + b))))) (hN : X.N.Nodup) (hi : δ.s[i]? = some (some (.d (.int a))) := by rfl) (hx : X.N[i]? = some x := by rfl)
    (hl : Loc X.env.scope x := by first | exact .inl rfl | exact .inr rfl) (hf : X.fn x = true ∨ X.env.scope.names.lookup x = some .local := by first | exact .inl rfl | exact .inr rfl) : DS B X (.AugAssign (.Name x pos') .Add e pos) δ N R :=
  .of (ps_aug hN hx hl pe_w ip_add hf) fun σ F H r D hn hr => by
    obtain ⟨v, hv, hc⟩ := r.cell i _ hi
    cases hc
    refine ⟨_, hv, h σ F H r _ fun u d δ' F' H' e' r' dd ⟨b, hd, hi', p⟩ => ?_⟩
    subst hd
    cases dd
    exact ⟨_, _, rfl, rfl, hn _ _ F' H' e' (r'.putD i (.int _)) p⟩
end DL

set_option maxHeartbeats 200000
set_option Elab.async false
set_option linter.all false
set_option maxRecDepth 100000
set_option maxHeartbeats 4000000
namespace K3
open PySem PySem.Spec PyProof.Rows L2 DL
open PySem.W (alike alikeAll dataLt dataLe AllAlike Sortable EachIs)
variable {P : Program} {w : World} {K : PySem.W.Frag} {mg : Str → Option Value} {base : Heap} {f : Addr} {fd : FuncData} {k : Nat}
def pr2 (b : Br) : PyData := .tuple [.str b.1, .str b.2.1]
def cut2 : PyData → PyData
  | .tuple xs => .tuple (xs.take 2)
  | _ => .none
def wordD : PyData → PyData
  | .tuple (_ :: x :: _) => x
  | _ => .none
structure POk (hands weak : List Str) (many : Nat) (s : Str) (bl : List Br) : Prop where
  sy : s ∈ hands
  l1 : 1 ≤ bl.length
  l8 : bl.length ≤ 8
  br : ∀ b ∈ bl, BOk hands many s b
  ris : ∀ i x y, (bl.map pr2)[i]? = some x → (bl.map pr2)[i + 1]? = some y → dataLt x y = true
  fa : (bl.countP fun b => decide (b.2.1 = flt)) = if s ∈ weak then 1 else 0
  fl : (bl.countP fun b => decide (b.2.1 = flt)) < bl.length
theorem plain_strs : ∀ l : List Str, PyData.plainAll (l.map PyData.str) = true
  | [] => rfl
  | s :: l => by
    rw [List.map_cons]
    simp [PyData.plainAll, PyData.plain, plain_strs l]
theorem count_flt {bl : List Br} : ((bl.map brD).map wordD).countP (fun z => PyData.eqv z (.str flt)) = bl.countP fun b => decide (b.2.1 = flt) := by
  rw [List.map_map, List.countP_map]
  congr 1
/-- what stands behind the look at the word -/
def restOf (st : Stmt) : List Stmt := match defBody st with
  | [_, _, _, _, _, .For _ _ (_ :: _ :: _ :: _ :: r) _ _, _] => r
  | _ => []
/-- the words that were looked at -/
def wdK : PotK := (fun k => ∃ x : Str, k = .inr x ∧ (IsNm x ∨ x = flt), fun k => k = .inr flt)
def S_is_new_name : SpB := fun n ds Φ => ∃ x : Str, ds = [.str x] ∧ IsNm x ∧ n ≤ 900 ∧ Φ (.bool true) (n + 1)
theorem ok_is_new_name (T : Tx mg) (GN : Fn P w K mg base "is_name" 1 ["thing"] (spD K S_is_name)) (F : Fd K "is_new_name" s_is_new_name [] [] f fd) : FnOk P w K mg base CX0 2 f fd ["thing", "known"] (spB K wdK S_is_new_name) := by
  refine fnB F sc_is_new_name (fun n ds Φ h => by obtain ⟨x, rfl, _⟩ := h; rfl) (fun B cdv A outer s H E n ds Φ hr hm hS => ?_)
  obtain ⟨x, rfl, hx, hn, hΦ⟩ := hS
  have := hx.l2
  refine ds_cons (ds_if (dt_not (dt_val (de_f (k' := 1) GN hr (da_cons (de_nm 0 (da_nil ⟨x, rfl, by omega, _, rfl, ?_⟩)))))))
  rw [isNmB_iff.mpr hx]
  have hu := hr.units
  refine iteF (ds_nil (ds_cons (ds_bput 1 hm (Nat.lt_of_le_of_lt (Nat.add_le_add_left (show 1 ≤ 64 by decide) _) hu) (de_bl ⟨rfl, de_nm 0 ⟨.inr x, rfl, rfl, ⟨x, rfl, .inl hx⟩, (by show n ≤ 1000; omega), ?_⟩⟩))))
  exact ds_last (ds_ret (de_bl hΦ))
def lastD (bl : List Br) : Nat → PyData
  | 0 => .tuple []
  | i + 1 => match bl[i]? with
    | some b => pr2 b
    | none => .tuple []
def cntF (bl : List Br) (i : Nat) : Nat := (bl.take i).countP fun b => decide (b.2.1 = flt)
theorem cntF_next {bl : List Br} {i : Nat} {b : Br} (h : bl[i]? = some b) : cntF bl (i + 1) = cntF bl i + if b.2.1 = flt then 1 else 0 := by
  unfold cntF
  rw [take_snoc h, List.countP_append, List.countP_singleton]
  by_cases e : b.2.1 = flt
  · rw [decide_eq_true e, if_pos e]; rfl
  · rw [decide_eq_false e, if_neg e]; rfl
def envYs (sy : Str) (bl : List Br) (hs ws : List Str) (many n i : Nat) (c9 c10 c11 c12 c13 : Option PyData) : St' :=
  ⟨n, [some (.d (plD (some (sy, bl)))), some (.d (nmD hs)), some (.d (nmD ws)), some (.d (natD many)), some .bor, some (.d (.str sy)), some (.d (.tuple (bl.map brD))), some (.d (lastD bl i)), some (.d (natD (cntF bl i))), c9.map C.d, c10.map C.d, c11.map C.d, c12.map C.d, c13.map C.d]⟩
def S_is_saying : SpB := fun n ds Φ => ∃ (s : Str) (bl : List Br) (hs ws : List Str) (many : Nat), ds = [plD (some (s, bl)), nmD hs, nmD ws, natD many] ∧ POk hs ws many s bl ∧ n ≤ 800 ∧ ∀ n', n' ≤ n + 8 → Φ (.bool true) n'
theorem ok__is_saying (T : Tx mg) (GN : Fn P w K mg base "is_new_name" 2 ["thing", "known"] (spB K wdK S_is_new_name)) (F : Fd K "_is_saying" s__is_saying [] [] f fd) : FnOk P w K mg base CX0 4 f fd ["thing", "hands", "weak", "many", "known"] (spB K wdK S_is_saying) := by
  refine fnB F sc__is_saying (fun n ds Φ h => by obtain ⟨_, _, _, _, _, rfl, _⟩ := h; rfl) (fun B cdv A outer s H E n ds Φ hr hm hS => ?_)
  obtain ⟨sy, bl, hs, ws, many, rfl, hb, hn, hΦ⟩ := hS
  have nd := sc__is_saying.nd
  have l1 := hb.l1
  have l8 := hb.l8
  have hu := hr.units
  obtain ⟨t, ht⟩ := T.mostB
  obtain ⟨tf, htf⟩ := T.fault
  refine ds_cons (ds_if (dt_pw (dw_or (dt_not (dt_val (de_isi T.isi T.tup (.inl rfl) boot_tuple (de_nm 0 ⟨rfl, _, rfl, ?_⟩)))))))
  refine iteF (dw_or1 (dt_cmp op_ne (de_callB call_len T.len boot_len (da_cons (de_nm 0 (da_nil (rc_lenT rfl (de_int (rd_neI ⟨_, rfl, ?_⟩)))))))))
  refine iteF (ds_nil (ds_cons (ds_unpack [5, 6] (pg_two 5 6 nd) (de_nm 0 (wg_tup (wgs_cons (wg_name (wgs_cons (wg_name (wgs_nil ?_))))))))))
  refine ds_cons (ds_if (dt_pw (dw_or (dt_cmp op_notIn_seq (de_nm 5 (de_nm 1 (rd_niStr ⟨_, rfl, ?_⟩)))))))
  rw [decide_eq_true hb.sy]
  refine iteF (dw_or (dt_not (dt_val (de_isi T.isi T.tup (.inl rfl) boot_tuple (de_nm 6 ⟨rfl, _, rfl, ?_⟩)))))
  refine iteF (dw_or1 (dt_not (dt_chain op_le op_le (de_int (de_callB call_len T.len boot_len (da_cons (de_nm 6 (da_nil (rc_lenT rfl (rd_B0 ⟨_, rfl, ?_⟩))))))))))
  rw [List.length_map, decide_eq_true (show (1 : Int) ≤ (bl.length : Nat) by omega)]
  refine iteT (de_glob (v := .int 8) ht ⟨_, rfl⟩ (fun _ => .int _) (rd_B0 ⟨_, rfl, ?_⟩))
  rw [decide_eq_true (show ((bl.length : Nat) : Int) ≤ 8 by omega)]
  refine iteF (ds_nil (ds_cons (ds_set 7 (de_tup (da_nil ⟨by decide, ?_⟩)) nd)))
  refine ds_cons (ds_set 8 (de_int ?_) nd)
  refine ds_cons (ds_for [9] (pi_tup pe_w) (pg_name (i := 9) nd rfl (.inl rfl)) (wi_tup (de_nm 6 ⟨bl.map brD, rfl, ?_⟩)))
  refine ⟨fun i δ => ∃ m c9 c10 c11 c12 c13, m ≤ n + i ∧ δ = envYs sy bl hs ws many m i c9 c10 c11 c12 c13, ⟨n, none, none, none, none, none, by omega, rfl⟩, fun i y δ hy hI => ?_, fun δ hI => ?_⟩
  · obtain ⟨m, c9, c10, c11, c12, c13, hmn, rfl⟩ := hI
    rw [List.getElem?_map, Option.map_eq_some_iff] at hy
    obtain ⟨b, hbi, rfl⟩ := hy
    have hbm := List.mem_of_getElem? hbi
    have hib : i < bl.length := (List.getElem?_eq_some_iff.mp hbi).1
    have hob := hb.br b hbm
    have hcn := cntF_next hbi
    refine wg_name ?_
    refine ds_cons (ds_if (dt_pw (dw_or (dt_not (dt_val (de_isi T.isi T.tup (.inl rfl) boot_tuple (de_nm 9 ⟨rfl, _, rfl, ?_⟩)))))))
    refine iteF (dw_or1 (dt_cmp op_ne (de_callB call_len T.len boot_len (da_cons (de_nm 9 (da_nil (rc_lenT rfl (de_int (rd_neI ⟨_, rfl, ?_⟩)))))))))
    refine iteF (ds_nil (ds_cons (ds_unpack [10, 11, 12] (pg_three 10 11 12 nd) (de_nm 9 (wg_tup (wgs_cons (wg_name (wgs_cons (wg_name (wgs_cons (wg_name (wgs_nil ?_))))))))))))
    refine ds_cons (ds_if (dt_pw (dw_or (dt_cmp op_notIn_seq (de_nm 10 (de_nm 1 (rd_niStr ⟨_, rfl, ?_⟩)))))))
    rw [decide_eq_true hob.hr]
    refine iteF (dw_or (dt_cmp op_eq (de_nm 10 (de_nm 5 (rd_eqS ⟨_, rfl, ?_⟩)))))
    rw [decide_eq_false hob.ne]
    refine iteF (dw_or1 (dt_not (dt_val (de_isi T.isi T.str (.inr (.inl rfl)) boot_str (de_nm 11 ⟨rfl, _, rfl, ?_⟩)))))
    -- behind the word, whether it was known or not
    have rest : ∀ m', m' ≤ m + 1 → DSs B (bodyX P w K mg base n__is_saying "_is_saying" (defScope s__is_saying) f cdv A outer s H E) (restOf s__is_saying) (envYs sy bl hs ws many m' i (some (brD b)) (some (.str b.1)) (some (.str b.2.1)) (some (natD b.2.2)) c13)
        (fun δ => ∃ m c9 c10 c11 c12 c13, m ≤ n + (i + 1) ∧ δ = envYs sy bl hs ws many m (i + 1) c9 c10 c11 c12 c13) (fun x δ => Φ x δ.n) := fun m' hm' => by
      refine ds_cons (ds_if (dt_pw (dw_or (dt_not (dt_val (de_isi T.isi T.int (.inr (.inr (.inl rfl))) boot_int (de_nm 12 ⟨rfl, _, rfl, ?_⟩)))))))
      refine iteF (dw_or (dt_cmp op_isBl1 (de_nm 12 (de_bl (rd_isBi ⟨_, rfl, ?_⟩)))))
      refine iteF (dw_or (dt_cmp op_isBl1 (de_nm 12 (de_bl (rd_isBi ⟨_, rfl, ?_⟩)))))
      refine iteF (dw_or1 (dt_not (dt_chain op_le op_lt (de_int (de_nm 12 (rd_B0 ⟨_, rfl, ?_⟩))))))
      rw [decide_eq_true (show (0 : Int) ≤ (b.2.2 : Nat) by omega)]
      refine iteT (de_nm 3 (rd_B0 ⟨_, rfl, ?_⟩))
      have hlt := hob.tg
      rw [decide_eq_true (show ((b.2.2 : Nat) : Int) < (many : Nat) by omega)]
      refine iteF (ds_nil (ds_cons (ds_set 13 (de_tup (da_cons (de_nm 10 (da_cons (de_nm 11 (da_nil ⟨by simp, ?_⟩)))))) nd)))
      have hlast : dataLt (lastD bl i) (pr2 b) = true ∧ alike (lastD bl i) (pr2 b) = true ∧ lastD bl i ≠ .none ∧ (lastD bl i).depth ≤ 60 ∧ noH (lastD bl i) = true := by
        cases i with
        | zero => exact ⟨rfl, rfl, (fun z => by cases z), by show PyData.depth (.tuple []) ≤ 60; decide, rfl⟩
        | succ i =>
          have h0 : bl[i]? = some bl[i] := List.getElem?_eq_getElem (by omega)
          have e : lastD bl (i + 1) = pr2 bl[i] := by show (match bl[i]? with | some b => pr2 b | none => .tuple []) = _; rw [h0]
          rw [e]
          refine ⟨hb.ris i _ _ (by rw [List.getElem?_map, h0]; rfl) (by rw [List.getElem?_map, hbi]; rfl), rfl, (fun z => by cases z), by show (pr2 bl[i]).depth ≤ 60; simp [pr2, PyData.depth, PyData.depthAll], rfl⟩
      obtain ⟨q4, q1, q2, q3, q5⟩ := hlast
      refine ds_cons (ds_if (dt_not (dt_cmp (op_ltD hr.units) (de_nm 7 (de_nm 13 (rd_ltD q5 rfl q1 q2 q3 ⟨_, rfl, ?_⟩))))))
      rw [q4]
      refine iteF (ds_nil (ds_cons (ds_set 7 (de_nm 13 ?_) nd)))
      have e7 : lastD bl (i + 1) = pr2 b := by show (match bl[i]? with | some b => pr2 b | none => .tuple []) = _; rw [hbi]
      refine ds_last (ds_if (dt_cmp op_eq (de_nm 11 (de_glob (v := .str flt) htf ⟨_, rfl⟩ (fun _ => .str _) (rd_eqS ⟨_, rfl, ?_⟩)))))
      by_cases hf : b.2.1 = flt
      · rw [decide_eq_true hf]
        rw [if_pos hf] at hcn
        refine iteT (ds_last (ds_augI 8 (a := ((cntF bl i : Nat) : Int)) (de_int ⟨1, rfl, rfl, ⟨m', some (brD b), some (.str b.1), some (.str b.2.1), some (natD b.2.2), some (pr2 b), by omega, ?_⟩⟩) nd))
        unfold envYs
        rw [e7, hcn]
        rfl
      · rw [decide_eq_false hf]
        rw [if_neg hf, Nat.add_zero] at hcn
        refine iteF (ds_nil ⟨m', some (brD b), some (.str b.1), some (.str b.2.1), some (natD b.2.2), some (pr2 b), by omega, ?_⟩)
        unfold envYs
        rw [e7, hcn]
        rfl
    refine iteF (ds_nil (ds_cons (ds_if (dt_pw (dw_and (dt_bnotin 4 hm (Nat.lt_of_le_of_lt (Nat.add_le_add_left (show 1 ≤ 64 by decide) _) hu) (de_nm 11 ⟨.inr b.2.1, rfl, rfl, fun hnk => ?_, fun _ => iteF ?_⟩)))))))
    · have hnm : IsNm b.2.1 := hob.wd.resolve_right fun z => hnk (by show (Sum.inr b.2.1 : L2.Key) = .inr flt; rw [z])
      refine iteT (dw_and1 (dt_not (dt_val (de_fB (k' := 3) 4 hm GN hr (dal_cons (de_nm 11 (dal_last (c := .bor) ⟨rfl, b.2.1, rfl, hnm, by show m ≤ 900; omega, _, rfl, ?_⟩)))))))
      exact iteF (ds_nil (rest (m + 1) (Nat.le_refl _)))
    · exact ds_nil (rest m (by omega))
  · obtain ⟨m, c9, c10, c11, c12, c13, hmn, rfl⟩ := hI
    rw [List.length_map] at hmn
    have hfa : cntF bl bl.length = if sy ∈ ws then 1 else 0 := by
      unfold cntF
      rw [List.take_length]
      exact hb.fa
    have hfl := hb.fl
    rw [hb.fa] at hfl
    have fin : Φ (.bool true) m := hΦ m (by omega)
    refine ds_last (ds_ret (de_and (de_cmp op_eq (de_nm 8 (de_callTy call_int1 T.int boot_int (da_cons (de_cmp op_in_seq (de_nm 5 (de_nm 2 (rd_inStr (da_nil (rc_intB (rd_eqI ⟨_, rfl, ?_⟩)))))))))))))
    show ite (decide (((cntF bl (bl.map brD).length : Nat) : Int) = _) = true) _ _
    rw [List.length_map, hfa]
    by_cases hw : sy ∈ ws
    · rw [if_pos hw] at hfl hfa
      rw [if_pos hw, decide_eq_true hw]
      refine iteT (de_one (de_cmp op_lt (de_nm 8 (de_callB call_len T.len boot_len (da_cons (de_nm 6 (da_nil (rc_lenT rfl (rd_B0 ?_)))))))))
      rw [List.length_map, hfa, decide_eq_true (by omega)]
      exact fin
    · rw [if_neg hw] at hfl hfa
      rw [if_neg hw, decide_eq_false hw]
      refine iteT (de_one (de_cmp op_lt (de_nm 8 (de_callB call_len T.len boot_len (da_cons (de_nm 6 (da_nil (rc_lenT rfl (rd_B0 ?_)))))))))
      rw [List.length_map, hfa, decide_eq_true (by omega)]
      exact fin
end K3

set_option maxHeartbeats 200000
set_option Elab.async false
set_option linter.all false
set_option maxRecDepth 100000
set_option maxHeartbeats 1000000
namespace DL
open PySem PySem.Spec PyProof.Rows L2
/-! ### len of a set of ints at a name -/
theorem cr_lenI {X : Cx} : CallR X (.builtin "len") (fun xs H Q => ∃ (a : Addr) (S : Int → Bool) (n : Nat), xs = [.ref a] ∧ H a = some (SetO X.w a S n) ∧ Q (.int (n : Nat)) H) := fun pins s σ H xs us Q I r h => by
  obtain ⟨a, S, n, rfl, ha, q⟩ := h
  cases r with
  | cons r1 r2 =>
    cases r2
    cases r1
    obtain ⟨o, es, ep, t, ho, hex, hd, g, nd, hm, hb, hf, hn, hr, hl⟩ := setO_get I ha
    have hn' : es.size = n := hn
    have hb' : es.size < 4096 := hb
    refine call_len_set ho hex hd hf (by omega) ⟨.int (n : Nat), H, I.tok _, ⟨_, by rw [hn']⟩, q⟩
theorem de_lenI {B : B0} {X : Cx} {δ : St'} {Φ : PE1} {p p2 pos : Pos} (i : Nat) {x : Str} {ls : List Int} (hm : X.mg "len" = none) (h : Φ (.int (ls.length : Nat)) δ) (hi : δ.s[i]? = some (some (.iset ls)) := by rfl) (hN : X.N[i]? = some x := by rfl)
    (hv : Vis X.env.scope x := by first | exact Or.inl rfl | exact Or.inr (Or.inl rfl) | exact Or.inr (Or.inr rfl)) (hd : (x == ("__debug__" : Str)) = false := by decide) (hcd : (x == ("__classdict__" : Str)) = false := by decide)
    (hg : Gl X "len" := by rfl) (he : starEach [.Name x p2] X.env = (false, eval (.Name x p2) X.env) :: starEach [] X.env := by rfl) (hpl : (backTo pos (starEach [] X.env)).any (·.1) = false := by rfl) :
    DE B X (.Call (.Name "len" p) [.Name x p2] [] pos) δ Φ := .of (pe_callB cr_lenI hg hm boot_len (pa_cons (pe_var hN hv hd hcd) pa_nil he) (by decide) (by decide) he hpl) fun σ F H r Q q => by
  obtain ⟨u, hu, a, rfl, hB, hF, hH⟩ := r.cell i _ hi
  exact ⟨.ref a, hu, a, _, _, rfl, hH, q _ _ δ F H (Same.refl F) r (.int _) h⟩
end DL

set_option maxHeartbeats 200000
set_option Elab.async false
set_option linter.all false
set_option maxRecDepth 100000
set_option maxHeartbeats 4000000
namespace K3
open PySem PySem.Spec PyProof.Rows L2 DL
open PySem.W (alike alikeAll dataLt dataLe AllAlike Sortable EachIs)
variable {P : Program} {w : World} {K : PySem.W.Frag} {mg : Str → Option Value} {base : Heap} {f : Addr} {fd : FuncData} {k : Nat}
structure BdOk (hs ws : List Str) (ps : List Pl) : Prop where
  h2 : 2 ≤ hs.length
  h6 : hs.length ≤ 6
  hn : ∀ h ∈ hs, IsNm h
  hd : hs.Nodup
  wk : WkOk hs ws
  p1 : 1 ≤ ps.length
  p40 : ps.length ≤ 40
  pl : ∀ pl ∈ ps, ∀ s bs, pl = some (s, bs) → POk hs ws ps.length s bs
  fal : ∀ h ∈ ws, Fallen ps h
  rc : ∀ k, k < ps.length → Rc ps none true [0] k
theorem BdOk.brok {hs ws : List Str} {ps : List Pl} (h : BdOk hs ws ps) : BrOk ps where
  len := fun pl hp s bs e => Nat.le_trans (h.pl pl hp s bs e).l8 (by decide)
  tgt := fun pl hp s bs e b hb => ((h.pl pl hp s bs e).br b hb).tg
def bdD (hs ws : List Str) (ps : List Pl) : PyData := .tuple [nmD hs, nmD ws, plsD ps]
theorem all_len {n : Nat} {l : List Nat} (hs : l.Pairwise (· < ·)) (hm : ∀ k, k ∈ l ↔ k < n) : l.length = n := by
  have nd : l.Nodup := hs.imp fun h e => by omega
  have : l.Perm (List.range n) := (List.perm_ext_iff_of_nodup nd List.nodup_range).mpr fun k => by rw [hm, List.mem_range]
  rw [this.length_eq, List.length_range]
/-! ### all places are come to -/
def f1D (at' : Int) : PyData → Option Int
  | .tuple [_, _, .int t] => if at' < t then some t else none
  | _ => none
def fD : PyData → List Int
  | .tuple [.int at', .tuple [_, .tuple bs]] => bs.filterMap (f1D at')
  | _ => []
def S_are_come_to : SpD := fun ds Φ => ∃ ps, ds = [plsD ps] ∧ BrOk ps ∧ 1 ≤ ps.length ∧ ps.length ≤ 40 ∧ (∀ pl ∈ ps, ∀ s bs, pl = some (s, bs) → bs.length ≤ 8) ∧ (∀ k, k < ps.length → Rc ps none true [0] k) ∧ Φ (.bool true)
theorem ok__are_come_to (T : Tx mg) (GP : FnDf P w K mg base "places_from" 2 ["places", "starts", "without", "faults"] [.non, .bl true] (spD K S_places_from)) (F : Fd K "_are_come_to" s__are_come_to [] [] f fd) : FnOk P w K mg base CX0 3 f fd ["places"] (spD K S_are_come_to) := by
  refine fnD F sc__are_come_to (fun ds Φ h => by obtain ⟨_, rfl, _⟩ := h; rfl) (fun B cdv A outer s H E ds Φ hr hp hS => ?_)
  obtain ⟨ps, rfl, hok, h1, h40, h8, hrc, hΦ⟩ := hS
  have nd := sc__are_come_to.nd
  refine ds_cons (ds_setSc2 (g := gTup K 2 (gCons (gName 2) (gCons (gName 3) gNil))) (g1 := gTup K 3 (gCons (gName 4) (gCons (gName 4) (gCons (gName 5) gNil)))) 1 [("at", 2), ("place", 3), ("_", 4), ("then", 5)] [4, 5] nd (pi_enumT T.enum pa_w) (blkOk_by (N := n__are_come_to) (sc := defScope s__are_come_to) (by decide +kernel)) (fun _ _ _ _ _ => pg_two 2 3 nd) (fun _ _ _ _ _ => pg_three 4 4 5 nd)
    (wi_enumT (da_cons (de_nm 0 (da_nil ⟨ps.map plD, rfl, ?_, fD, fun B' y hp' hy => ?_, fun ls hnd hls => ?_⟩)))))
  · rw [enum_len, List.length_map]; omega
  · obtain ⟨i, hi, e⟩ := List.getElem_of_mem hy
    have h0 : (enumD (ps.map plD))[i]? = some y := by rw [List.getElem?_eq_getElem hi, e]
    obtain ⟨x, hx, rfl⟩ := enum_get h0
    rw [List.getElem?_map, Option.map_eq_some_iff] at hx
    obtain ⟨pl, hpl, rfl⟩ := hx
    have hpm := List.mem_of_getElem? hpl
    refine wg_tup (wgs_cons (wg_name (wgs_cons (wg_name (wgs_nil ?_)))))
    intro s0 H0 C cl fp
    refine dt_cmp op_notN (de_nm 3 (de_non (rd_notN ⟨_, rfl, ?_⟩)))
    cases pl with
    | none => exact iteF ⟨rfl, rfl⟩
    | some q =>
      obtain ⟨sy, bs⟩ := q
      have hb8 := h8 _ hpm sy bs rfl
      refine iteT fun s0 H0 C cl fp => ?_
      refine de_ix ix_tup (de_nm 3 (de_int (rd_ixT rfl ⟨bs.map brD, rfl, rfl, ?_, f1D (i : Nat), rfl, fun B2 z hp2 hz => ?_⟩)))
      · rw [List.length_map]; omega
      · obtain ⟨b, hb, rfl⟩ := List.mem_map.mp hz
        refine wg_tup (wgs_cons (wg_name (wgs_cons (wg_name (wgs_cons (wg_name (wgs_nil ?_)))))))
        intro s0 H0 C cl fp
        refine dt_cmp op_gt (de_nm 5 (de_nm 2 (rd_B0 ⟨_, rfl, ?_⟩)))
        have ef : f1D (i : Nat) (brD b) = if ((i : Nat) : Int) < (b.2.2 : Nat) then some ((b.2.2 : Nat) : Int) else none := rfl
        by_cases hlt : ((i : Nat) : Int) < (b.2.2 : Nat)
        · rw [decide_eq_true hlt]
          rw [if_pos hlt] at ef
          exact iteT fun s0 H0 C cl fp => de_nm 5 ⟨rfl, _, rfl, ef⟩
        · rw [decide_eq_false hlt]
          rw [if_neg hlt] at ef
          exact iteF ⟨rfl, ef⟩
  · refine ds_last (ds_ret (de_or (de_cmp op_eq (de_lenI 1 T.len (de_bin op_sub (de_callB call_len T.len boot_len (da_cons (de_nm 0 (da_nil (rc_lenT rfl (de_int (rd_I0 (rd_eqI ⟨_, rfl, ?_⟩)))))))))))))
    refine ite2 (fun _ => hΦ) fun _ => de_one ?_
    refine de_cmp op_eq (de_callB call_len T.len boot_len (da_cons (de_fDf (k' := 2) [.none, .bool true] GP hr (fun _ => .cons .non (.cons (.bl true) .nil)) (da_cons (de_nm 0 (da_cons (de_dl (dl_lst (da_cons (de_int (da_nil ⟨by decide, da_nil ⟨ps, [0], none, true, rfl, ?_, by decide, hok, by omega, fun l hs' hm => da_nil (rc_lenL rfl ?_)⟩⟩)))))))))))
    · intro k hk
      simp at hk
      omega
    · have e1 : l.length = ps.length := all_len hs' fun k => ⟨fun hk => rc_lt hok (by intro k hk; simp at hk; omega) ((hm k).mp hk), fun hk => (hm k).mpr (hrc k hk)⟩
      rw [List.length_map, e1]
      refine de_callB call_len T.len boot_len (da_cons (de_nm 0 (da_nil (rc_lenT rfl (rd_eqI ?_)))))
      rw [List.length_map, decide_eq_true rfl]
      exact hΦ
def S_are_places : SpD := fun ds Φ => ∃ hs ws ps, ds = [plsD ps, nmD hs, nmD ws] ∧ BdOk hs ws ps ∧ Φ (.bool true)
def envA (hs ws : List Str) (ps : List Pl) (kvs : List (L2.Key × PyData)) (c4 : Option PyData) : St' := ⟨0, [some (.d (plsD ps)), some (.d (nmD hs)), some (.d (nmD ws)), some (.dct kvs), c4.map C.d, none]⟩
theorem ok__are_places (T : Tx mg) (GT : Fn P w K mg base "is_tuple_of" 1 ["thing", "least", "most"] (spD K S_is_tuple_of)) (GS : Fn P w K mg base "_is_saying" 4 ["thing", "hands", "weak", "many", "known"] (spB K wdK S_is_saying))
    (GC : Fn P w K mg base "_are_come_to" 3 ["places"] (spD K S_are_come_to)) (GF : Fn P w K mg base "_stays_fallen" 3 ["places", "hand"] (spD K S_stays_fallen))
    (F : Fd K "_are_places" s__are_places [] [] f fd) : FnOk P w K mg base CX0 5 f fd ["thing", "hands", "weak"] (spD K S_are_places) := by
  refine fnD F sc__are_places (fun ds Φ h => by obtain ⟨_, _, _, rfl, _⟩ := h; rfl) (fun B cdv A outer s H E ds Φ hr hp hS => ?_)
  obtain ⟨hs, ws, ps, rfl, hb, hΦ⟩ := hS
  have nd := sc__are_places.nd
  have h1 := hb.p1
  have h40 := hb.p40
  have h6 := hb.h6
  have hwl := hb.wk.len
  obtain ⟨t, ht⟩ := T.mostP
  obtain ⟨tf, htf⟩ := T.fault
  refine ds_cons (ds_if (dt_not (dt_val (de_f (k' := 4) GT hr (da_cons (de_nm 0 (da_cons (de_int (da_cons (de_glob (v := .int 40) ht ⟨_, rfl⟩ (fun _ => .int _) (da_nil ⟨plsD ps, 1, 40, rfl, rfl, _, rfl, ?_⟩)))))))))))
  have e0 : isTupM (plsD ps) 1 40 = true := isTup_tup (by rw [List.length_map]; omega) (by rw [List.length_map]; omega)
  rw [e0]
  refine iteF (ds_nil (ds_cons (ds_setDct1 3 (de_glob (v := .str flt) htf ⟨_, rfl⟩ (fun _ => .str _) (de_bl ⟨.inr flt, rfl, ?_⟩)) nd)))
  refine ds_cons (ds_for [4] (pi_tup pe_w) (pg_name (i := 4) nd rfl (.inl rfl)) (wi_tup (de_nm 0 ⟨ps.map plD, rfl, ?_⟩)))
  refine ⟨fun i δ => ∃ kvs c, trueKv wdK kvs ∧ kvs.length ≤ 1 + 8 * i ∧ δ = envA hs ws ps kvs c, ⟨[(.inr flt, .bool true)], none, ⟨fun kv hk => ?_, fun k hk => ⟨_, List.mem_singleton.mpr rfl, hk.symm⟩⟩, by simp, rfl⟩, fun i y δ hy hI => ?_, fun δ hI => ?_⟩
  · rw [List.mem_singleton.mp hk]
    exact ⟨⟨flt, rfl, .inr rfl⟩, rfl⟩
  · obtain ⟨kvs, c, hkv, hkl, rfl⟩ := hI
    rw [List.getElem?_map, Option.map_eq_some_iff] at hy
    obtain ⟨pl, hpl, rfl⟩ := hy
    have hmem := List.mem_of_getElem? hpl
    have hil : i < ps.length := (List.getElem?_eq_some_iff.mp hpl).1
    refine wg_name ?_
    refine ds_last (ds_if (dt_pw (dw_and (dt_cmp op_notN (de_nm 4 (de_non (rd_notN ⟨_, rfl, ?_⟩)))))))
    cases pl with
    | none => exact iteF (ds_nil ⟨kvs, some .none, hkv, by omega, rfl⟩)
    | some q =>
      obtain ⟨sy, bl⟩ := q
      refine iteT (dw_and1 (dt_not (dt_val (de_fBo (k' := 4) 3 GS hr hkv (dal_cons (de_nm 4 (dal_cons (de_nm 1 (dal_cons (de_nm 2 (dal_cons (de_callB call_len T.len boot_len (da_cons (de_nm 0 (da_nil (rc_lenT rfl (dal_last (c := .dct kvs) ⟨rfl, sy, bl, hs, ws, ps.length, ?_, hb.pl _ hmem sy bl rfl, by omega, fun n' hn' kvs' hk1 hk2 => ⟨_, rfl, ?_⟩⟩)))))))))))))))))
      · rw [List.length_map]; rfl
      · exact iteF (ds_nil ⟨kvs', some (plD (some (sy, bl))), hk1, by omega, rfl⟩)
  · obtain ⟨kvs, c, hkv, hkl, rfl⟩ := hI
    refine ds_last (ds_ret (de_and (de_f (k' := 4) GC hr (da_cons (de_nm 0 (da_nil ⟨ps, rfl, hb.brok, h1, h40, fun pl hp s bs e => (hb.pl pl hp s bs e).l8, hb.rc, _, rfl, ?_⟩))))))
    refine iteT (de_one (de_callB (cr_all rfl) T.all boot_all (da_cons (de_dl (dl_map [("hand", 5)] nd (pi_tup pe_w) (blkOk_by (N := n__are_places) (sc := defScope s__are_places) (by decide +kernel)) (fun _ _ _ _ _ => pg_name (i := 5) nd rfl (Or.inl rfl))
        (wi_tup (de_nm 2 ⟨ws.map PyData.str, rfl, ?_, fun _ => .bool true, fun B' y hp' hy => wg_name ?_, da_nil (rc_allF (f := fun _ => true) ?_)⟩)))))))
    · rw [List.length_map]; omega
    · obtain ⟨h, hh, rfl⟩ := List.mem_map.mp hy
      intro s0 H0 C cl fp
      refine de_f (k' := 4) GF hr (da_cons (de_nm 0 (da_cons (de_nm 5 (da_nil ⟨ps, h, rfl, hb.brok, by omega, fun pl hp s bs e => (hb.pl pl hp s bs e).l8, hb.fal h hh, rfl, rfl⟩)))))
    · rw [show (ws.map PyData.str).all (fun _ => true) = true by simp]
      exact hΦ
/-! ### boards -/
def S_is_board : SpD := fun ds Φ => ∃ hs ws ps, ds = [bdD hs ws ps] ∧ BdOk hs ws ps ∧ Φ (.bool true)
theorem ok_is_board (T : Tx mg) (GH : Fn P w K mg base "_are_hands" 2 ["thing"] (spD K S_are_hands)) (GW : Fn P w K mg base "are_weak" 2 ["thing", "hands"] (spD K S_are_weak))
    (GP : Fn P w K mg base "_are_places" 5 ["thing", "hands", "weak"] (spD K S_are_places))
    (F : Fd K "is_board" s_is_board [] [] f fd) : FnOk P w K mg base CX0 6 f fd ["thing"] (spD K S_is_board) := by
  refine fnD F sc_is_board (fun ds Φ h => by obtain ⟨_, _, _, rfl, _⟩ := h; rfl) (fun B cdv A outer s H E ds Φ hr hp hS => ?_)
  obtain ⟨hs, ws, ps, rfl, hb, hΦ⟩ := hS
  have nd := sc_is_board.nd
  refine ds_cons (ds_if (dt_pw (dw_or (dt_not (dt_val (de_isi T.isi T.tup (.inl rfl) boot_tuple (de_nm 0 ⟨rfl, _, rfl, ?_⟩)))))))
  refine iteF (dw_or1 (dt_cmp op_ne (de_callB call_len T.len boot_len (da_cons (de_nm 0 (da_nil (rc_lenT rfl (de_int (rd_neI ⟨_, rfl, ?_⟩)))))))))
  refine iteF (ds_nil (ds_cons (ds_unpack [1, 2, 3] (pg_three 1 2 3 nd) (de_nm 0 (wg_tup (wgs_cons (wg_name (wgs_cons (wg_name (wgs_cons (wg_name (wgs_nil ?_))))))))))))
  refine ds_last (ds_ret (de_and (de_f (k' := 5) GH hr (da_cons (de_nm 1 (da_nil ⟨hs, rfl, hb.h2, hb.h6, hb.hn, hb.hd, ?_⟩))))))
  refine ⟨true, rfl, iteT (de_and (de_f (k' := 5) GW hr (da_cons (de_nm 2 (da_cons (de_nm 1 (da_nil ⟨ws, hs, rfl, hb.h6, hb.wk, ?_⟩)))))))⟩
  exact ⟨true, rfl, iteT (de_one (de_f (k' := 5) GP hr (da_cons (de_nm 3 (da_cons (de_nm 1 (da_cons (de_nm 2 (da_nil ⟨hs, ws, ps, rfl, hb, hΦ⟩)))))))))⟩
end K3

set_option maxHeartbeats 200000
set_option Elab.async false
set_option linter.all false
set_option maxRecDepth 100000
set_option maxHeartbeats 4000000
namespace K3
open PySem PySem.Spec PyProof.Rows L2 DL
variable {P : Program} {w : World} {K : PySem.W.Frag} {mg : Str → Option Value} {base : Heap} {f : Addr} {fd : FuncData} {k : Nat}
/-! ### what a hand sees of a row -/
abbrev St3 := Str × Str × Str
def s3D (t : St3) : PyData := .tuple [.str t.1, .str t.2.1, .str t.2.2]
def seen (h : Str) (t : St3) : Option St3 := if t.2.1 = h then some ("hear", t.1, t.2.2) else if t.1 = h then (if t.2.2 = flt then none else some ("say", t.2.1, t.2.2)) else none
def viewL (h : Str) (ts : List St3) : List St3 := ts.filterMap (seen h)
theorem viewL_take {h : Str} {ts : List St3} {i : Nat} {t : St3} (e : ts[i]? = some t) : viewL h (ts.take (i + 1)) = viewL h (ts.take i) ++ (seen h t).toList := by
  unfold viewL
  rw [take_snoc e, List.filterMap_append]
  congr 1
theorem viewL_len {h : Str} {ts : List St3} : (viewL h ts).length ≤ ts.length := List.length_filterMap_le _ _
def S_view_at : SpD := fun ds Φ => ∃ (ts : List St3) (h : Str), ds = [.tuple (ts.map s3D), .str h] ∧ ts.length ≤ 1000 ∧ Φ (.tuple ((viewL h ts).map s3D))
def envK (ts : List St3) (h : Str) (vs : List St3) (c3 c4 c5 : Option C) : St' := ⟨0, [some (.d (.tuple (ts.map s3D))), some (.d (.str h)), some (.own (vs.map s3D)), c3, c4, c5]⟩
theorem ok_view_at (T : Tx mg) (F : Fd K "view_at" s_view_at [] [] f fd) : FnOk P w K mg base CX0 1 f fd ["row", "hand"] (spD K S_view_at) := by
  refine fnD F sc_view_at (fun ds Φ h => by obtain ⟨_, _, rfl, _⟩ := h; rfl) (fun B cdv A outer s H E ds Φ hr hp hS => ?_)
  obtain ⟨ts, h, rfl, hl, hΦ⟩ := hS
  have nd := sc_view_at.nd
  obtain ⟨t, ht⟩ := T.fault
  refine ds_cons (ds_setO 2 (dl_lst (da_nil ⟨by decide, ?_⟩)) nd)
  refine ds_cons (ds_for [3, 4, 5] (pi_tup pe_w) (pg_three 3 4 5 nd) (wi_tup (de_nm 0 ⟨ts.map s3D, rfl, ?_⟩)))
  refine ⟨fun (i : Nat) δ => ∃ c3 c4 c5, δ = envK ts h (viewL h (ts.take i)) c3 c4 c5, ⟨none, none, none, rfl⟩, fun i y δ hy hI => ?_, fun δ hI => ?_⟩
  · obtain ⟨c3, c4, c5, rfl⟩ := hI
    rw [List.getElem?_map, Option.map_eq_some_iff] at hy
    obtain ⟨q, hq, rfl⟩ := hy
    have hst := viewL_take (h := h) hq
    have hle : (viewL h (ts.take i)).length ≤ ts.length := Nat.le_trans viewL_len (by rw [List.length_take]; omega)
    refine wg_tup (wgs_cons (wg_name (wgs_cons (wg_name (wgs_cons (wg_name (wgs_nil ?_)))))))
    refine ds_last (ds_if (dt_cmp op_eq (de_nm 4 (de_nm 1 (rd_eqS ⟨_, rfl, ?_⟩)))))
    by_cases e1 : q.2.1 = h
    · rw [decide_eq_true e1]
      refine iteT (ds_last (ds_append 2 (xs := (viewL h (ts.take i)).map s3D) (de_tup (da_cons (de_str (da_cons (de_nm 3 (da_cons (de_nm 5 (da_nil ⟨by simp, _, rfl, ?_, ?_⟩))))))))))
      · rw [List.length_map]; omega
      · refine ⟨some (.d (.str q.1)), some (.d (.str q.2.1)), some (.d (.str q.2.2)), ?_⟩
        have : seen h q = some (("hear" : Str), q.1, q.2.2) := if_pos e1
        rw [hst, this]
        show _ = envK ts h (viewL h (ts.take i) ++ [(("hear" : Str), q.1, q.2.2)]) _ _ _
        unfold envK
        rw [List.map_append]
        rfl
    · rw [decide_eq_false e1]
      refine iteF (ds_last (ds_if (dt_pw (dw_and (dt_cmp op_eq (de_nm 3 (de_nm 1 (rd_eqS ⟨_, rfl, ?_⟩))))))))
      by_cases e2 : q.1 = h
      · rw [decide_eq_true e2]
        refine iteT (dw_and1 (dt_cmp op_ne (de_nm 5 (de_glob (v := .str flt) ht ⟨_, rfl⟩ (fun _ => .str _) (rd_neS ⟨_, rfl, ?_⟩)))))
        by_cases e3 : q.2.2 = flt
        · rw [decide_eq_true e3]
          refine iteF (ds_nil ⟨some (.d (.str q.1)), some (.d (.str q.2.1)), some (.d (.str q.2.2)), ?_⟩)
          have : seen h q = none := by unfold seen; rw [if_neg e1, if_pos e2, if_pos e3]
          rw [hst, this]
          simp only [Option.toList_none, List.append_nil]
          rfl
        · rw [decide_eq_false e3]
          refine iteT (ds_last (ds_append 2 (xs := (viewL h (ts.take i)).map s3D) (de_tup (da_cons (de_str (da_cons (de_nm 4 (da_cons (de_nm 5 (da_nil ⟨by simp, _, rfl, ?_, ?_⟩))))))))))
          · rw [List.length_map]; omega
          · refine ⟨some (.d (.str q.1)), some (.d (.str q.2.1)), some (.d (.str q.2.2)), ?_⟩
            have : seen h q = some (("say" : Str), q.2.1, q.2.2) := by unfold seen; rw [if_neg e1, if_pos e2, if_neg e3]
            rw [hst, this]
            show _ = envK ts h (viewL h (ts.take i) ++ [(("say" : Str), q.2.1, q.2.2)]) _ _ _
            unfold envK
            rw [List.map_append]
            rfl
      · rw [decide_eq_false e2]
        refine iteF (ds_nil ⟨some (.d (.str q.1)), some (.d (.str q.2.1)), some (.d (.str q.2.2)), ?_⟩)
        have : seen h q = none := by unfold seen; rw [if_neg e1, if_neg e2]
        rw [hst, this]
        simp only [Option.toList_none, List.append_nil]
        rfl
  · obtain ⟨c3, c4, c5, rfl⟩ := hI
    rw [List.length_map, List.take_length]
    refine dss_freeze 2 (xs := (viewL h ts).map s3D) (ds_last (ds_ret (de_callTy call_tuple_of T.tup boot_tuple (da_cons (de_nm 2 (da_nil (rc_tupleL rfl hΦ)))))))
end K3

set_option maxHeartbeats 200000
set_option Elab.async false
set_option linter.all false
set_option maxRecDepth 100000
set_option maxHeartbeats 4000000
namespace K3
open PySem PySem.Spec PyProof.Rows L2 DL
variable {P : Program} {w : World} {K : PySem.W.Frag} {mg : Str → Option Value} {base : Heap} {f : Addr} {fd : FuncData} {k : Nat}
/-! ### the refusals, where there is nothing to refuse; reach -/
def S_check_board : SpD := fun ds Φ => ∃ hs ws ps, ds = [bdD hs ws ps] ∧ BdOk hs ws ps ∧ Φ .none
theorem ok_check_board (T : Tx mg) (G : Fn P w K mg base "is_board" 6 ["thing"] (spD K S_is_board)) (F : Fd K "check_board" s_check_board [] [] f fd) : FnOk P w K mg base CX0 7 f fd ["board"] (spD K S_check_board) := by
  refine fnD F sc_check_board (fun ds Φ h => by obtain ⟨_, _, _, rfl, _⟩ := h; rfl) (fun B cdv A outer s H E ds Φ hr hp hS => ?_)
  obtain ⟨hs, ws, ps, rfl, hb, hΦ⟩ := hS
  refine ds_last (ds_if (dt_not (dt_val (de_f (k' := 6) G hr (da_cons (de_nm 0 (da_nil ⟨hs, ws, ps, rfl, hb, _, rfl, ?_⟩)))))))
  exact iteF (ds_nil hΦ)
def S_check_hand : SpD := fun ds Φ => ∃ hs ws ps h, ds = [bdD hs ws ps, .str h] ∧ h ∈ hs ∧ Φ .none
theorem ok_check_hand (T : Tx mg) (F : Fd K "check_hand" s_check_hand [] [] f fd) : FnOk P w K mg base CX0 1 f fd ["board", "hand"] (spD K S_check_hand) := by
  refine fnD F sc_check_hand (fun ds Φ h => by obtain ⟨_, _, _, _, rfl, _⟩ := h; rfl) (fun B cdv A outer s H E ds Φ hr hp hS => ?_)
  obtain ⟨hs, ws, ps, h, rfl, hh, hΦ⟩ := hS
  refine ds_last (ds_if (dt_cmp op_notIn_seq (de_nm 1 (de_ix ix_tup (de_nm 0 (de_int (rd_ixT rfl (rd_niStr ⟨_, rfl, ?_⟩))))))))
  rw [decide_eq_true hh]
  exact iteF (ds_nil hΦ)
end K3

set_option maxHeartbeats 200000
set_option Elab.async false
set_option linter.all false
set_option maxRecDepth 100000
set_option maxHeartbeats 4000000
namespace K3
open PySem PySem.Spec PyProof.Rows L2 DL
variable {P : Program} {w : World} {K : PySem.W.Frag} {mg : Str → Option Value} {base : Heap} {f : Addr} {fd : FuncData} {k : Nat}
/-! ### draws -/
def S_law_take : SpP := fun n ds Φ => ∃ many : Int, ds = [.int many] ∧ 0 < many ∧ many < 1073741824 ∧ n < 1099511627776 ∧ ∀ d : Int, 0 ≤ d → d < many → Φ (.int d) (n + 1)
def primesD : List PyData := [.int 2147483647, .int 2147483629, .int 2147483587, .int 2147483579, .int 2147483563, .int 2147483549, .int 2147483543]
theorem primes_at (v : Int) : ∃ p : Int, atI primesD (v % 7) = some (.int p) ∧ 0 < p ∧ p < 2147483648 := by
  have h : v % 7 = 0 ∨ v % 7 = 1 ∨ v % 7 = 2 ∨ v % 7 = 3 ∨ v % 7 = 4 ∨ v % 7 = 5 ∨ v % 7 = 6 := by omega
  rcases h with h | h | h | h | h | h | h <;> rw [h] <;> exact ⟨_, rfl, by decide, by decide⟩
theorem mod_in {a b : Int} (h : 0 < b) : 0 ≤ a % b ∧ a % b < b := ⟨Int.emod_nonneg _ (by omega), Int.emod_lt_of_pos _ h⟩
theorem ok__law_take (F : Fd K "_law_take" s__law_take [] [] f fd) : FnOk P w K mg base CX0 1 f fd ["pot", "many"] (spP K S_law_take) := by
  refine fnP F sc__law_take (fun n ds Φ h => by obtain ⟨_, rfl, _⟩ := h; rfl) (fun B cdv A outer s H E n ds Φ hr hp hS => ?_)
  obtain ⟨many, rfl, hm, hm2, hn, hΦ⟩ := hS
  have nd := sc__law_take.nd
  refine ds_cons (ds_if (dt_cmp op_ge (de_pot0 0 fun v => de_nm 1 (rd_B0 ⟨_, rfl, ?_⟩))))
  by_cases hv : v ≥ many
  · rw [decide_eq_true hv]
    refine iteT (ds_cons (ds_set 2 (de_bin op_mod (de_pot0 0 fun v1 => de_nm 1 (rd_I hm ?_))) nd))
    refine ds_cons (ds_pot0 0 (de_bin op_fdiv (de_pot0 0 fun v2 => de_nm 1 (rd_I ⟨hm, hm2⟩ ⟨_, rfl, rfl, ?_⟩))))
    refine dss_bump (n + 1) (Nat.le_succ n) (ds_last (ds_ret (de_nm 2 ?_)))
    exact hΦ _ (mod_in hm).1 (mod_in hm).2
  · rw [decide_eq_false hv]
    refine iteF (ds_nil (ds_cons (ds_pot2 0 (de_bin op_add (de_pot2 0 fun z hz0 hz1 => de_int (rd_I0 ⟨_, n + 1, rfl, rfl, ?_, ?_, ?_⟩))))))
    · omega
    · have : z ≤ (n : Int) := hz1
      push_cast
      omega
    · refine ds_cons (ds_set 3 ?_ nd)
      refine de_dl (dl_lst (da_cons (de_int (da_cons (de_int (da_cons (de_int (da_cons (de_int (da_cons (de_int (da_cons (de_int (da_cons (de_int (da_nil ⟨by decide, ?_⟩))))))))))))))))
      refine ds_cons (ds_set 4 ?_ nd)
      refine de_ix ix_list (de_nm 3 (de_bin op_mod (de_pot2 0 fun z1 hz2 hz3 => de_int (rd_I (by decide) ?_))))
      obtain ⟨p, hp1, hp2, hp3⟩ := primes_at z1
      refine rd_ixL hp1 ?_
      refine ds_cons (ds_set 5 ?_ nd)
      refine de_bin op_mod (de_bin op_pow (de_bin op_add (de_bin op_add (de_bin op_mod (de_pot1 0 fun v1 => de_nm 4 (rd_I hp2 (de_bin op_mul (de_int (de_pot2 0 fun z2 hz4 hz5 => rd_I ?_ (rd_I0 (de_int (rd_I0 (de_int (rd_I ?_ (de_nm 4 (rd_I hp2 ?_))))))))))))))))
      · exact .inl ⟨by decide, by decide⟩
      · have h1 := mod_in (a := v1) hp2
        have h5 : z2 ≤ ((n + 1 : Nat) : Int) := hz5
        refine ⟨by decide, by decide, ?_⟩
        omega
      generalize hne : ((v1 % p + 86477 * z2 + 13) ^ Int.toNat 3) % p = near
      have hnr : 0 ≤ near ∧ near < p := hne ▸ mod_in hp2
      refine ds_cons (ds_set 6 ?_ nd)
      refine de_bin op_add (de_bin op_add (de_bin op_add (de_bin op_mul (de_nm 5 (de_nm 5 (rd_I ?_ (de_bin op_mul (de_bin op_mul (de_int (de_pot2 0 fun z3 hz6 hz7 => rd_I ?_ (de_nm 5 (rd_I ?_ (rd_I0 (de_bin op_mod (de_pot1 0 fun v2 => de_int (rd_I (by decide) (rd_I0 (de_int (rd_I0 ?_)))))))))))))))))))
      · exact .inl ⟨by omega, by omega⟩
      · exact .inl ⟨by decide, by decide⟩
      · exact .inr ⟨by omega, by omega⟩
      refine ds_cons (ds_set 6 ?_ nd)
      refine de_bin op_mod (de_nm 6 (de_ix ix_list (de_nm 3 (de_bin op_mod (de_bin op_add (de_pot2 0 fun z4 hz8 hz9 => de_int (rd_I0 (de_int (rd_I (by decide) ?_)))))))))
      obtain ⟨p2, hq1, hq2, hq3⟩ := primes_at (z4 + 2)
      refine rd_ixL hq1 (rd_I hq2 ?_)
      generalize hst : (near * near + 37 * z3 * near + v2 % 1000003 + 5) % p2 = stir
      have hsr : 0 ≤ stir ∧ stir < p2 := hst ▸ mod_in hq2
      refine ds_last (ds_ret ?_)
      refine de_bin op_mod (de_bin op_fdiv (de_bin op_mod (de_bin op_pow (de_nm 6 (de_int (rd_I ⟨by decide, by decide, ?_⟩ (de_ix ix_list (de_nm 3 (de_bin op_mod (de_bin op_add (de_pot2 0 fun z5 hz8 hz9 => de_int (rd_I0 (de_int (rd_I (by decide) ?_))))))))))))))
      · omega
      obtain ⟨p3, hr1, hr2, hr3⟩ := primes_at (z5 + 4)
      refine rd_ixL hr1 (rd_I hr2 (de_int (rd_I ⟨by decide, by decide⟩ (de_nm 1 (rd_I hm ?_)))))
      exact hΦ _ (mod_in hm).1 (mod_in hm).2
end K3

set_option maxHeartbeats 200000
set_option Elab.async false
set_option linter.all false
set_option maxRecDepth 100000
set_option maxHeartbeats 4000000
namespace K3
open PySem PySem.Spec PyProof.Rows L2 DL
variable {P : Program} {w : World} {K : PySem.W.Frag} {mg : Str → Option Value} {base : Heap} {f : Addr} {fd : FuncData} {k : Nat}
theorem boot_max : bootBuiltins "max" = some (.builtin "max") := by decide +kernel
theorem boot_min : bootBuiltins "min" = some (.builtin "min") := by decide +kernel
theorem boot_abs : bootBuiltins "abs" = some (.builtin "abs") := by decide +kernel
theorem emod_self_le {a m : Int} (h : 0 ≤ a) (hm : 0 < m) : a % m ≤ a := by
  have e := Int.emod_add_mul_ediv a m
  have h2 : 0 ≤ m * (a / m) := Int.mul_nonneg (by omega) (Int.ediv_nonneg h (by omega))
  omega
/-! ### the pot, the cells -/
def S_law_pot : SpO := fun ds Φ => ∃ c at' : Int, ds = [.int c, .int at'] ∧ ∀ x y : Int, Φ [.int x, .int y, .int 0]
theorem ok__law_pot (T : Tx mg) (F : Fd K "_law_pot" s__law_pot [] [] f fd) : FnOk P w K mg base CX0 1 f fd ["cell", "at"] (spO K S_law_pot) := by
  refine fnO F sc__law_pot (fun ds Φ h => by obtain ⟨_, _, rfl, _⟩ := h; rfl) (fun B cdv A outer s H E ds Φ hr hp hS => ?_)
  obtain ⟨c, a, rfl, hΦ⟩ := hS
  refine dos_ret (dl_lst (da_cons (de_callB (call_max2 rfl) T.max boot_max (da_cons (de_int (da_cons (de_bin op_sub (de_callB call_abs T.abs boot_abs (da_cons (de_nm 0 (da_nil (rc_int1 (de_bin op_pow (de_int (de_int (rd_I ⟨by decide, by decide, by decide⟩ (rd_I0 (da_nil (rc_int2 (da_cons ?_))))))))))))))))))))
  refine de_bin op_add (de_bin op_add (de_bin op_mod (de_callB call_abs T.abs boot_abs (da_cons (de_nm 0 (da_nil (rc_int1 (de_int (rd_I (by decide) (de_bin op_mul (de_int (de_nm 1 (rd_I (.inl ⟨by decide, by decide⟩) (rd_I0 (de_callTy call_int1 T.int boot_int (da_cons (de_cmp op_lt (de_nm 0 (de_int (rd_B0 (da_nil (rc_intB (rd_I0 (da_cons (de_int (da_nil ⟨by simp, hΦ _ _⟩))))))))))))))))))))))))))
def S_law_folded : SpO := fun ds Φ => ∃ (sc : List Int) (m : Int), ds = [.list (sc.map PyData.int), .int m] ∧ 0 < m ∧ m ≤ 1000 ∧ sc.length < 4611686018427387904 ∧ ∀ ns : List Int, ns.length = min sc.length m.toNat → Φ (ns.map PyData.int)
theorem ok__law_folded (T : Tx mg) (F : Fd K "_law_folded" s__law_folded [] [] f fd) : FnOk P w K mg base CX0 1 f fd ["script", "most"] (spO K S_law_folded) := by
  refine fnO F sc__law_folded (fun ds Φ h => by obtain ⟨_, _, rfl, _⟩ := h; rfl) (fun B cdv A outer s H E ds Φ hr hp hS => ?_)
  obtain ⟨sc, m, rfl, hm, hm2, hl, hΦ⟩ := hS
  have nd := sc__law_folded.nd
  refine dos_cons (ds_setO 2 ?_ nd)
  refine dl_rep (dl_lst (da_cons (de_int (da_nil ⟨by simp, de_callB (call_min2 rfl) T.min boot_min (da_cons (de_callB call_len T.len boot_len (da_cons (de_nm 0 (da_nil (rc_lenL rfl (da_cons (de_nm 1 (da_nil (rc_int2 ⟨min sc.length m.toNat, ?_, ?_, by simp, ?_⟩))))))))))⟩))))
  · rw [List.length_map]
    congr 1
    split <;> omega
  · omega
  refine dos_cons (ds_for [3] (pi_range1 rfl T.range pa_w) (pg_name (i := 3) nd rfl (.inl rfl)) (wi_rng1 (da_cons (de_callB call_len T.len boot_len (da_cons (de_nm 0 (da_nil (rc_lenL rfl (da_nil ⟨_, rfl, ?_, ?_, ?_⟩)))))))))
  · have := Int.natCast_nonneg (sc.map PyData.int).length
    omega
  · rw [List.length_map]; omega
  rw [List.length_map, Int.toNat_natCast]
  refine ⟨fun i δ => ∃ (ns : List Int) (c : Option PyData), ns.length = min sc.length m.toNat ∧ δ = ⟨0, [some (.d (.list (sc.map PyData.int))), some (.d (.int m)), some (.own (ns.map PyData.int)), c.map C.d]⟩, ⟨List.replicate (min sc.length m.toNat) 0, none, by simp, ?_⟩, fun i y δ hy hI => ?_, fun δ hI => ?_⟩
  · have : (List.replicate (min sc.length m.toNat) [PyData.int 0]).flatten = (List.replicate (min sc.length m.toNat) (0 : Int)).map PyData.int := by
      rw [List.map_replicate]
      induction min sc.length m.toNat with
      | zero => rfl
      | succ n ih => rw [List.replicate_succ, List.flatten_cons, ih]; rfl
    rw [this]
    rfl
  · obtain ⟨ns, c, hn, rfl⟩ := hI
    obtain ⟨hi, rfl⟩ := rng_get hy
    refine wg_name ?_
    have hk := mod_in (a := ((0 : Int) + (i : Nat))) hm
    have hk2 : (0 + (i : Nat) : Int) % m < (ns.length : Nat) := by
      have h1 : (0 + (i : Nat) : Int) % m ≤ 0 + (i : Nat) := emod_self_le (by omega) hm
      omega
    refine ds_last (ds_setIx 2 (xs := ns.map PyData.int) ?_)
    have hg : ∃ z : Int, atI (ns.map PyData.int) ((0 + (i : Nat) : Int) % m) = some (.int z) := by
      rw [atI_nn hk.1, List.getElem?_map]
      have : ((0 + (i : Nat) : Int) % m).toNat < ns.length := by omega
      rw [List.getElem?_eq_getElem this]
      exact ⟨_, rfl⟩
    obtain ⟨z, hz⟩ := hg
    have hg2 : ∃ z : Int, atI (sc.map PyData.int) (0 + (i : Nat) : Int) = some (.int z) := by
      rw [atI_nn (by omega), List.getElem?_map]
      have : ((0 + (i : Nat) : Int)).toNat < sc.length := by omega
      rw [List.getElem?_eq_getElem this]
      exact ⟨_, rfl⟩
    obtain ⟨z2, hz2⟩ := hg2
    have hown : onlyOwn 2 (St'.s ((⟨0, [some (.d (.list (sc.map PyData.int))), some (.d (.int m)), some (.own (ns.map PyData.int)), c.map C.d]⟩ : St').put 3 (.d (.int (0 + (i : Nat)))))) 0 = true := rfl
    refine de_peek 2 (xs := ns.map PyData.int) (de_bin op_add (de_bin op_mul (de_bin op_mod (de_ix ix_list (de_nm 2 (de_bin op_mod (de_nm 3 (de_nm 1 (rd_I hm (rd_ixL hz (de_bin op_pow (de_int (de_int (rd_I ⟨by decide, by decide, by decide⟩ (rd_I (by decide) (de_int (rd_I (.inr ⟨by decide, by decide⟩) (de_ix ix_list (de_nm 0 (de_nm 3 (rd_ixL hz2 (rd_I0 ⟨rfl, rfl, ?_⟩))))))))))))))))))))))
    refine de_bin op_mod (de_nm 3 (de_nm 1 (rd_I hm ⟨ns.map PyData.int, _, ((0 + (i : Nat) : Int) % m).toNat, rfl, rfl, ?_, ?_⟩)))
    · rw [List.length_map]
      exact ixN_nn hk.1 hk2
    · rw [← List.map_set]
      exact ⟨ns.set _ _, some (.int (0 + (i : Nat))), by rw [List.length_set]; exact hn, rfl⟩
  · obtain ⟨ns, c, hn, rfl⟩ := hI
    exact dos_own 2 (hΦ ns hn)
end K3

set_option maxHeartbeats 200000
set_option Elab.async false
set_option linter.all false
set_option maxRecDepth 100000
set_option maxHeartbeats 4000000
namespace K3
open PySem PySem.Spec PyProof.Rows L2 DL
variable {P : Program} {w : World} {K : PySem.W.Frag} {mg : Str → Option Value} {base : Heap} {f : Addr} {fd : FuncData} {k : Nat}
/-! ### words -/
theorem nm_S {cs : List Nat} (h1 : 1 ≤ cs.length) (h2 : cs.length ≤ 8) (hc : ∀ c ∈ cs, 97 ≤ c ∧ c ≤ 122) : IsNm (SX.S cs) where
  l1 := by rw [SX.S_len]; exact h1
  l2 := by rw [SX.S_len]; exact h2
  cs := by rw [show (SX.S cs).cps.toList = cs by simp [SX.S]]; exact hc
theorem cutS_upto {z : Str} {k : Nat} : cutS z none (some (k : Int)) = SX.S (z.cps.toList.take k) := by
  unfold cutS
  rw [HT.sIx_nat, HT.sIx_none, Nat.sub_zero, List.drop_zero]
  have e : z.length = z.cps.toList.length := (Array.length_toList (xs := z.cps)).symm
  rcases Nat.le_total k z.cps.toList.length with h | h
  · rw [Nat.min_eq_left (by omega)]
  · rw [Nat.min_eq_right (by omega), e, List.take_length, List.take_of_length_le h]
theorem one_S (c : Nat) : (⟨#[c]⟩ : Str) = SX.S [c] := rfl
theorem cut_cat {s : Str} {c : Nat} {k : Nat} : cutS s none (some (k : Int)) ++ (⟨#[c]⟩ : Str) = SX.S (s.cps.toList.take k ++ [c]) := by
  rw [cutS_upto, one_S, SX.S_cat]
theorem nm_cut {s : Str} {c : Nat} (h : IsNm s) (hc : 97 ≤ c ∧ c ≤ 122) : IsNm (cutS s none (some 7) ++ (⟨#[c]⟩ : Str)) := by
  rw [show ((7 : Int)) = ((7 : Nat) : Int) from rfl, cut_cat]
  refine nm_S (by simp) (by simp; omega) fun x hx => ?_
  rcases List.mem_append.mp hx with hx | hx
  · exact h.cs x (List.mem_of_mem_take hx)
  · simp at hx
    subst hx
    exact hc
theorem nm_cut8 {s : Str} {c : Nat} (h : IsNm s) (hc : 97 ≤ c ∧ c ≤ 122) : IsNm (cutS (s ++ (⟨#[c]⟩ : Str)) none (some 8)) := by
  have e : s ++ (⟨#[c]⟩ : Str) = SX.S (s.cps.toList ++ [c]) := by
    conv => lhs; rw [← SX.S_tl s]
    rw [one_S, SX.S_cat]
  rw [e, show ((8 : Int)) = ((8 : Nat) : Int) from rfl, cutS_upto]
  rw [show (SX.S (s.cps.toList ++ [c])).cps.toList = s.cps.toList ++ [c] by simp [SX.S]]
  refine nm_S ?_ (by rw [List.length_take]; omega) fun x hx => ?_
  · rw [List.length_take]; simp; omega
  · rcases List.mem_append.mp (List.mem_of_mem_take hx) with hx | hx
    · exact h.cs x hx
    · simp at hx
      subst hx
      exact hc
def abc : Str := "abcdefghijklmnopqrstuvwxyz"
def lets : List Nat := abc.cps.toList
theorem abc_at {d : Int} (h0 : 0 ≤ d) (h1 : d < 26) : ∃ c, atI abc.cps.toList d = some c ∧ 97 ≤ c ∧ c ≤ 122 := by
  have h : d = ((d.toNat : Nat) : Int) := by omega
  have hl : abc.cps.toList.length = 26 := by decide +kernel
  rw [atI_nn h0, List.getElem?_eq_getElem (by omega)]
  refine ⟨_, rfl, ?_⟩
  have : ∀ c ∈ abc.cps.toList, 97 ≤ c ∧ c ≤ 122 := by decide +kernel
  exact this _ (List.getElem_mem _)
theorem lets_in : ∀ c ∈ lets, 97 ≤ c ∧ c ≤ 122 := by decide +kernel
def zee (c : Nat) : Str := (Str.ofString "z") ++ repS (⟨#[c]⟩ : Str) 7
theorem zee_nm : ∀ c ∈ lets, isNmB (zee c) = true := by decide +kernel
theorem zee_nd : (lets.map zee).Nodup := by decide +kernel
theorem lets_len : lets.length = 26 := by decide +kernel
theorem pig {α : Type} [DecidableEq α] : ∀ (xs l : List α), xs.Nodup → (∀ x ∈ xs, x ∈ l) → xs.length ≤ l.length
  | [], l, _, _ => Nat.zero_le _
  | x :: xs, l, nd, h => by
    have h1 := List.nodup_cons.mp nd
    have h2 := pig xs (l.erase x) h1.2 fun y hy => (List.mem_erase_of_ne (fun (e : y = x) => h1.1 (e ▸ hy))).mpr (h y (List.mem_cons_of_mem _ hy))
    have hx : x ∈ l := h x List.mem_cons_self
    have h3 := List.length_erase_of_mem hx
    have h4 : 0 < l.length := List.length_pos_of_mem hx
    rw [List.length_cons]
    omega
/-- the names that may be taken -/
def someN (wd : Str) : List Str := [wd] ++ lets.map (fun c => cutS wd none (some 7) ++ (⟨#[c]⟩ : Str)) ++ lets.map zee
theorem someN_nm {wd : Str} (h : IsNm wd) : ∀ x ∈ someN wd, IsNm x := fun x hx => by
  rcases List.mem_append.mp hx with hx | hx
  · rcases List.mem_append.mp hx with hx | hx
    · simp at hx
      subst hx
      exact h
    · obtain ⟨c, hc, rfl⟩ := List.mem_map.mp hx
      exact nm_cut h (lets_in c hc)
  · obtain ⟨c, hc, rfl⟩ := List.mem_map.mp hx
    exact isNmB_iff.mp (zee_nm c hc)
theorem someN_new {wd : Str} {l : List Str} (h : l.length < 26) : ∃ x r, (someN wd).filter (fun x => !decide (x ∈ l)) = x :: r := by
  cases e : (someN wd).filter (fun x => !decide (x ∈ l)) with
  | cons x r => exact ⟨x, r, rfl⟩
  | nil =>
    rw [List.filter_eq_nil_iff] at e
    have := pig (lets.map zee) l zee_nd fun x hx => by
      have := e x (List.mem_append_right _ hx)
      simpa using this
    rw [List.length_map, lets_len] at this
    omega
def S_law_names : SpPO := fun n ds Φ => ∃ many : Nat, ds = [.int (many : Nat)] ∧ many ≤ 6 ∧ n + 100 < 1099511627776 ∧ ∀ l : List Str, l.length = many → l.Nodup → (∀ x ∈ l, IsNm x) → Φ (l.map PyData.str) (n + 11 * many)
def envN (n : Nat) (many : Nat) (l : List Str) (c4 c5 c7 : Option PyData) : St' := ⟨n, [some .pot, some (.d (.int (many : Nat))), some (.d (.str abc)), some (.own (l.map PyData.str)), c4.map C.d, c5.map C.d, none, c7.map C.d, none, none]⟩
theorem envN_own {n : Nat} {many : Nat} {l : List Str} {c4 c5 c7 : Option PyData} : onlyOwn 3 (envN n many l c4 c5 c7).s 0 = true := by
  show (3 == 3 && onlyOwn 3 [c4.map C.d, c5.map C.d, none, c7.map C.d, none, none] 4) = true
  rw [onlyOwn_md, onlyOwn_md]
  show (true && onlyOwn 3 [c7.map C.d, none, none] 7) = true
  rw [onlyOwn_md]
  rfl
theorem shaped_strs {l : List Str} (h : ∀ x ∈ l, IsNm x) : SeqAt.shaped (.list (l.map PyData.str)) = true := by
  unfold SeqAt.shaped
  rw [Bool.and_eq_true]
  constructor
  · show PyData.canLayAll0 (l.map PyData.str) = true
    induction l with
    | nil => rfl
    | cons x l ih =>
      show (PyData.strOk x && PyData.canLayAll0 (l.map PyData.str)) = true
      rw [ih fun y hy => h y (List.mem_cons_of_mem _ hy), Bool.and_true]
      show x.cps.all (· < 0x110000) = true
      rw [← Array.all_toList, List.all_eq_true]
      intro c hc
      have := (h x List.mem_cons_self).cs c hc
      exact decide_eq_true (by omega)
  · rw [decide_eq_true_eq]
    have : PyData.depthAll (l.map PyData.str) = 0 := by
      clear h
      induction l with
      | nil => rfl
      | cons x l ih =>
        show max 0 (PyData.depthAll (l.map PyData.str)) = 0
        rw [ih]; rfl
    show PyData.depthAll (l.map PyData.str) + 1 ≤ 64
    omega
def preD (wd : Str) : PyData → PyData
  | .str s => .str (cutS wd none (some 7) ++ s)
  | _ => .none
def zeeD : PyData → PyData
  | .str s => .str (Str.ofString "z" ++ repS s 7)
  | _ => .none
def notD (l : List Str) : PyData → Bool
  | .str s => !decide (s ∈ l)
  | _ => false
theorem signs_abc : DL.signs abc = lets.map fun c => PyData.str ⟨#[c]⟩ := rfl
theorem filter_not (l : List Str) : ∀ xs : List Str, (xs.map PyData.str).filter (notD l) = (xs.filter fun x => !decide (x ∈ l)).map PyData.str := fun xs => by
  rw [List.filter_map]
  rfl
end K3

set_option maxHeartbeats 200000
set_option Elab.async false
set_option linter.all false
set_option maxRecDepth 100000
set_option maxHeartbeats 4000000
namespace K3
open PySem PySem.Spec PyProof.Rows L2 DL
variable {P : Program} {w : World} {K : PySem.W.Frag} {mg : Str → Option Value} {base : Heap} {f : Addr} {fd : FuncData} {k : Nat}
/-! ### rows: steps as data -/
def stepD (s h w : Str) : PyData := .tuple [.str s, .str h, .str w]
def asStep : PyData → Option (Str × Str × Str)
  | .tuple [.str a, .str b, .str c] => some (a, b, c)
  | _ => none
theorem eqv_str {s : Str} {d : PyData} : PyData.eqv (.str s) d = true ↔ d = .str s := by
  cases d <;> simp [PyData.eqv]
  exact eq_comm
theorem eqvAll_cons {x : PyData} {xs ys : List PyData} : PyData.eqvAll (x :: xs) ys = true ↔ ∃ y zs, ys = y :: zs ∧ PyData.eqv x y = true ∧ PyData.eqvAll xs zs = true := by
  cases ys with
  | nil => simp [PyData.eqvAll]
  | cons y ys =>
    simp only [PyData.eqvAll, Bool.and_eq_true]
    exact ⟨fun ⟨a, b⟩ => ⟨_, _, rfl, a, b⟩, fun ⟨_, _, e, a, b⟩ => by cases e; exact ⟨a, b⟩⟩
theorem eqvAll_nil {ys : List PyData} : PyData.eqvAll [] ys = true ↔ ys = [] := by
  cases ys <;> simp [PyData.eqvAll]
theorem eqv_tuple {xs : List PyData} {d : PyData} : PyData.eqv (.tuple xs) d = true ↔ ∃ ys, d = .tuple ys ∧ PyData.eqvAll xs ys = true := by
  cases d <;> simp [PyData.eqv]
theorem eqv_step {s h w : Str} {d : PyData} : PyData.eqv (stepD s h w) d = decide (asStep d = some (s, h, w)) := by
  rw [Bool.eq_iff_iff, decide_eq_true_iff]
  unfold stepD
  rw [eqv_tuple]
  constructor
  · rintro ⟨ys, rfl, e⟩
    obtain ⟨y1, z1, rfl, e1, e⟩ := eqvAll_cons.mp e
    obtain ⟨y2, z2, rfl, e2, e⟩ := eqvAll_cons.mp e
    obtain ⟨y3, z3, rfl, e3, e⟩ := eqvAll_cons.mp e
    cases eqvAll_nil.mp e
    cases eqv_str.mp e1
    cases eqv_str.mp e2
    cases eqv_str.mp e3
    rfl
  · intro e
    unfold asStep at e
    split at e
    · injection e with e
      injection e with e1 e
      injection e with e2 e3
      subst e1 e2 e3
      exact ⟨_, rfl, eqvAll_cons.mpr ⟨_, _, rfl, eqv_str.mpr rfl, eqvAll_cons.mpr ⟨_, _, rfl, eqv_str.mpr rfl, eqvAll_cons.mpr ⟨_, _, rfl, eqv_str.mpr rfl, eqvAll_nil.mpr rfl⟩⟩⟩⟩
    · cases e
abbrev okS (s : Str) : Prop := PyData.strOk s = true
theorem IsNm.okS {s : Str} (h : IsNm s) : okS s := by
  show s.cps.all (· < 0x110000) = true
  rw [← Array.all_toList, List.all_eq_true]
  intro c hc
  have := h.cs c hc
  exact decide_eq_true (by omega)
theorem okS_flt : okS flt := by decide +kernel
theorem shaped_step {s h w : Str} (h1 : okS s) (h2 : okS h) (h3 : okS w) : SeqAt.shaped (stepD s h w) = true := by
  unfold stepD
  simp [SeqAt.shaped, PyData.canLay0, PyData.canLayAll0, PyData.depth, PyData.depthAll, h1, h2, h3]
/-- the place that comes by a step, by the branches told -/
def byBr (s : Str) (bs : List Br) (d : PyData) : Option Nat := (bs.find? fun b => decide (asStep d = some (s, b.1, b.2.1))).map fun b => b.2.2
def byPl (pl : Pl) (d : PyData) : Option Nat := match pl with
  | none => none
  | some (s, bs) => byBr s bs d
def optD : Option Nat → PyData
  | none => .none
  | some n => natD n
theorem len3 {a b c : PyData} : [a, b, c].length ≤ 100000 := by simp
def S_place_by : SpD := fun ds Φ => ∃ pl d, ds = [plD pl, d] ∧ (∀ s bs, pl = some (s, bs) → bs.length ≤ 100 ∧ okS s ∧ ∀ b ∈ bs, okS b.1 ∧ okS b.2.1) ∧ SeqAt.shaped d = true ∧ Φ (optD (byPl pl d))
def envY (pl : Pl) (s : Str) (bs : List Br) (d : PyData) (c4 c5 c6 : Option C) : St' := ⟨0, [some (.d (plD pl)), some (.d d), some (.d (.str s)), some (.d (.tuple (bs.map brD))), c4, c5, c6]⟩
theorem find_pre {bs : List Br} {p : Br → Bool} {i : Nat} {b : Br} (h : ∀ j, j < i → ∀ c, bs[j]? = some c → p c = false) (hb : bs[i]? = some b) (hp : p b = true) : bs.find? p = some b := by
  induction bs generalizing i with
  | nil => simp at hb
  | cons c bs ih =>
    cases i with
    | zero =>
      simp at hb
      subst hb
      simp [List.find?, hp]
    | succ i =>
      have h0 := h 0 (by omega) c (by simp)
      rw [List.find?_cons, h0]
      exact ih (i := i) (fun j hj c hc => h (j + 1) (Nat.succ_lt_succ hj) c (by simpa using hc)) (by simpa using hb)
theorem ok_place_by (T : Tx mg) (F : Fd K "place_by" s_place_by [] [] f fd) : FnOk P w K mg base CX0 1 f fd ["place", "saying"] (spD K S_place_by) := by
  refine fnD F sc_place_by (fun ds Φ h => by obtain ⟨_, _, rfl, _⟩ := h; rfl) (fun B cdv A outer s H E ds Φ hr hp hS => ?_)
  obtain ⟨pl, d, rfl, hl, hsh, hΦ⟩ := hS
  have nd := sc_place_by.nd
  refine ds_cons (ds_if (dt_cmp op_isN (de_nm 0 (de_non (rd_isN ⟨_, rfl, ?_⟩)))))
  cases pl with
  | none => exact iteT (ds_last (ds_ret (de_non hΦ)))
  | some q =>
    obtain ⟨sy, bs⟩ := q
    obtain ⟨hbs, hs1, hs2⟩ := hl sy bs rfl
    refine iteF (ds_nil (ds_cons (ds_unpack [2, 3] (pg_two 2 3 nd) (de_nm 0 (wg_tup (wgs_cons (wg_name (wgs_cons (wg_name (wgs_nil ?_))))))))))
    refine ds_cons (ds_for [4, 5, 6] (pi_tup pe_w) (pg_three 4 5 6 nd) (wi_tup (de_nm 3 ⟨bs.map brD, rfl, ?_⟩)))
    refine ⟨fun (i : Nat) δ => (∃ c4 c5 c6, δ = envY (some (sy, bs)) sy bs d c4 c5 c6) ∧ ∀ j, j < i → ∀ b, bs[j]? = some b → decide (asStep d = some (sy, b.1, b.2.1)) = false, ⟨⟨none, none, none, rfl⟩, fun j hj => absurd hj (by omega)⟩, fun i y δ hy hI => ?_, fun δ hI => ?_⟩
    · obtain ⟨⟨c4, c5, c6, rfl⟩, hb4⟩ := hI
      rw [List.getElem?_map, Option.map_eq_some_iff] at hy
      obtain ⟨b, hb, rfl⟩ := hy
      refine wg_tup (wgs_cons (wg_name (wgs_cons (wg_name (wgs_cons (wg_name (wgs_nil ?_)))))))
      refine ds_last (ds_if (dt_cmp (op_eqD hr.units) (de_tup (da_cons (de_nm 2 (da_cons (de_nm 4 (da_cons (de_nm 5 (da_nil ⟨len3, de_nm 1 (rd_eqD (shaped_step hs1 (hs2 b (List.mem_of_getElem? hb)).1 (hs2 b (List.mem_of_getElem? hb)).2) hsh ⟨_, rfl, ?_⟩)⟩))))))))))
      have ev := eqv_step (s := sy) (h := b.1) (w := b.2.1) (d := d)
      unfold stepD at ev
      rw [ev]
      by_cases e : asStep d = some (sy, b.1, b.2.1)
      · rw [decide_eq_true e]
        refine iteT (ds_last (ds_ret (de_nm 6 ?_)))
        have : byPl (some (sy, bs)) d = some b.2.2 := by
          show byBr sy bs d = _
          unfold byBr
          rw [find_pre hb4 hb (decide_eq_true e)]
          rfl
        rw [this] at hΦ
        exact hΦ
      · rw [decide_eq_false e]
        refine iteF (ds_nil ⟨⟨_, _, _, rfl⟩, fun j hj c hc => ?_⟩)
        rcases Nat.lt_succ_iff_lt_or_eq.mp hj with h1 | rfl
        · exact hb4 j h1 c hc
        · rw [hb] at hc
          cases hc
          exact decide_eq_false e
    · obtain ⟨⟨c4, c5, c6, rfl⟩, hb4⟩ := hI
      refine ds_last (ds_ret (de_non ?_))
      have : byPl (some (sy, bs)) d = none := by
        show byBr sy bs d = _
        unfold byBr
        rw [List.find?_eq_none.mpr]
        · rfl
        · intro b hb
          obtain ⟨j, hj⟩ := List.getElem?_of_mem hb
          have hj' : j < bs.length := (List.getElem?_eq_some_iff.mp hj).1
          rw [hb4 j (by rw [List.length_map]; exact hj') b hj]
          exact Bool.false_ne_true
      rw [this] at hΦ
      exact hΦ
end K3

set_option maxHeartbeats 200000
set_option Elab.async false
set_option linter.all false
set_option maxRecDepth 100000
set_option maxHeartbeats 4000000
namespace K3
open PySem PySem.Spec PyProof.Rows L2 DL
variable {P : Program} {w : World} {K : PySem.W.Frag} {mg : Str → Option Value} {base : Heap} {f : Addr} {fd : FuncData} {k : Nat}
/-! ### a row of steps, whatever they are -/
/-- the place behind steps, from a place on -/
def walkTo (ps : List Pl) : Nat → List PyData → Option Nat
  | at', [] => some at'
  | at', d :: ds => match byPl ((ps[at']?).getD none) d with
    | none => none
    | some n => walkTo ps n ds
def goTo (ps : List Pl) : PyData → Option Nat
  | .tuple ds => walkTo ps 0 ds
  | _ => none
theorem walkTo_snoc {ps : List Pl} {d : PyData} : ∀ {ds : List PyData} {at' : Nat}, walkTo ps at' (ds ++ [d]) = match walkTo ps at' ds with
    | none => none
    | some n => byPl ((ps[n]?).getD none) d
  | [], at' => by
    show (match byPl ((ps[at']?).getD none) d with | none => none | some n => some n) = _
    show _ = byPl ((ps[at']?).getD none) d
    cases byPl ((ps[at']?).getD none) d <;> rfl
  | e :: ds, at' => by
    show (match byPl ((ps[at']?).getD none) e with | none => none | some n => walkTo ps n (ds ++ [d])) = _
    show _ = match (match byPl ((ps[at']?).getD none) e with | none => none | some n => walkTo ps n ds) with | none => none | some n => byPl ((ps[n]?).getD none) d
    cases byPl ((ps[at']?).getD none) e with
    | none => rfl
    | some n => exact walkTo_snoc
theorem walkTo_none {ps : List Pl} : ∀ {ds es : List PyData} {at' : Nat}, walkTo ps at' ds = none → walkTo ps at' (ds ++ es) = none
  | [], es, at', h => by cases h
  | d :: ds, es, at', h => by
    show (match byPl ((ps[at']?).getD none) d with | none => none | some n => walkTo ps n (ds ++ es)) = none
    have h' : (match byPl ((ps[at']?).getD none) d with | none => none | some n => walkTo ps n ds) = none := h
    cases e : byPl ((ps[at']?).getD none) d with
    | none => rfl
    | some n =>
      rw [e] at h'
      exact walkTo_none h'
/-- boards, as far as rows want them -/
structure RwOk (ps : List Pl) : Prop where
  one : 1 ≤ ps.length
  pl : ∀ pl ∈ ps, ∀ s bs, pl = some (s, bs) → bs.length ≤ 100 ∧ okS s ∧ ∀ b ∈ bs, okS b.1 ∧ okS b.2.1
  tgt : ∀ pl ∈ ps, ∀ s bs, pl = some (s, bs) → ∀ b ∈ bs, b.2.2 < ps.length
theorem BdOk.rw {hs ws : List Str} {ps : List Pl} (h : BdOk hs ws ps) : RwOk ps where
  one := h.p1
  pl := fun pl hp s bs e => by
    have q := h.pl pl hp s bs e
    refine ⟨Nat.le_trans q.l8 (by decide), (h.hn s q.sy).okS, fun b hb => ?_⟩
    have qb := q.br b hb
    refine ⟨(h.hn _ qb.hr).okS, ?_⟩
    rcases qb.wd with w | w
    · exact w.okS
    · rw [w]; exact okS_flt
  tgt := fun pl hp s bs e b hb => ((h.pl pl hp s bs e).br b hb).tg
theorem byPl_lt {ps : List Pl} (ok : RwOk ps) {at' n : Nat} {d : PyData} (h : byPl ((ps[at']?).getD none) d = some n) : n < ps.length := by
  cases e : ps[at']? with
  | none => rw [e] at h; cases h
  | some pl =>
    rw [e] at h
    cases pl with
    | none => cases h
    | some q =>
      obtain ⟨s, bs⟩ := q
      have h' : (bs.find? fun b => decide (asStep d = some (s, b.1, b.2.1))).map (fun b => b.2.2) = some n := h
      obtain ⟨b, hb, rfl⟩ := Option.map_eq_some_iff.mp h'
      exact ok.tgt _ (List.mem_of_getElem? e) s bs rfl b (List.mem_of_find?_eq_some hb)
def S_place_after : SpD := fun ds Φ => ∃ ps d, ds = [plsD ps, d] ∧ RwOk ps ∧ noD d = true ∧ (∀ xs, d = .tuple xs → ∀ x ∈ xs, SeqAt.shaped x = true) ∧ Φ (optD (goTo ps d))
def envZ (ps : List Pl) (ds : List PyData) (at' : Option Nat) (c3 : Option C) : St' := ⟨0, [some (.d (plsD ps)), some (.d (.tuple ds)), some (.d (optD at')), c3]⟩
theorem ok_place_after (T : Tx mg) (G : Fn P w K mg base "place_by" 1 ["place", "saying"] (spD K S_place_by)) (F : Fd K "place_after" s_place_after [] [] f fd) : FnOk P w K mg base CX0 2 f fd ["places", "thing"] (spD K S_place_after) := by
  refine fnD F sc_place_after (fun ds Φ h => by obtain ⟨_, _, rfl, _⟩ := h; rfl) (fun B cdv A outer s H E ds Φ hr hp hS => ?_)
  obtain ⟨ps, d, rfl, hok, hno, hsh, hΦ⟩ := hS
  have nd := sc_place_after.nd
  have h1 := hok.one
  refine ds_cons (ds_if (dt_not (dt_val (de_isi T.isi T.tup (.inl rfl) boot_tuple (de_nm 1 ⟨hno, _, rfl, ?_⟩)))))
  cases d with
  | tuple xs =>
    have hsh' := hsh xs rfl
    refine iteF (ds_nil (ds_cons (ds_set 2 (de_int ?_) nd)))
    refine ds_cons (ds_for [3] (pi_tup pe_w) (pg_name (i := 3) nd rfl (.inl rfl)) (wi_tup (de_nm 1 ⟨xs, rfl, ?_⟩)))
    refine ⟨fun (i : Nat) δ => ∃ a c3, δ = envZ ps xs (some a) c3 ∧ walkTo ps 0 (xs.take i) = some a ∧ a < ps.length, ⟨0, none, rfl, rfl, by omega⟩, fun i y δ hy hI => ?_, fun δ hI => ?_⟩
    · obtain ⟨a, c3, rfl, hw, ha⟩ := hI
      refine wg_name ?_
      have hstep : walkTo ps 0 (xs.take (i + 1)) = byPl ((ps[a]?).getD none) y := by
        rw [take_snoc hy, walkTo_snoc, hw]
      have hgl : ((ps[a]?).getD none) = ps[a] := by rw [List.getElem?_eq_getElem ha]; rfl
      refine ds_cons (ds_set 2 ?_ nd)
      refine de_f (k' := 1) G hr (da_cons (de_ix ix_tup (de_nm 0 (de_nm 2 (rd_ixT (places_get ha) (da_cons (de_nm 3 (da_nil ⟨ps[a], y, rfl, hok.pl _ (List.getElem_mem ha), hsh' y (List.mem_of_getElem? hy), ?_⟩))))))))
      refine ds_last (ds_if (dt_cmp op_isN (de_nm 2 (de_non (rd_isN ⟨_, rfl, ?_⟩)))))
      cases e : byPl ps[a] y with
      | none =>
        refine iteT (ds_last (ds_ret (de_non ?_)))
        have : goTo ps (.tuple xs) = none := by
          show walkTo ps 0 xs = none
          rw [← List.take_append_drop (i + 1) xs]
          refine walkTo_none ?_
          rw [hstep, hgl, e]
        rw [this] at hΦ
        exact hΦ
      | some n =>
        refine iteF (ds_nil ⟨n, _, rfl, ?_, ?_⟩)
        · rw [hstep, hgl, e]
        · exact byPl_lt hok (at' := a) (d := y) (by rw [hgl, e])
    · obtain ⟨a, c3, rfl, hw, ha⟩ := hI
      refine ds_last (ds_ret (de_nm 2 ?_))
      have : goTo ps (.tuple xs) = some a := by
        show walkTo ps 0 xs = some a
        rw [List.take_length] at hw
        exact hw
      rw [this] at hΦ
      exact hΦ
  | _ => exact iteT (ds_last (ds_ret (de_non hΦ)))
end K3

set_option maxHeartbeats 200000
set_option Elab.async false
set_option linter.all false
set_option maxRecDepth 100000
set_option maxHeartbeats 4000000
namespace K3
open PySem PySem.Spec PyProof.Rows L2 DL
variable {P : Program} {w : World} {K : PySem.W.Frag} {mg : Str → Option Value} {base : Heap} {f : Addr} {fd : FuncData} {k : Nat}
/-! ### is_row, and the others where there is a row -/
/-- what may be asked: no handle itself, its items of a shape that can be compared -/
structure Askd (d : PyData) : Prop where
  no : noD d = true
  sh : ∀ xs, d = .tuple xs → ∀ x ∈ xs, SeqAt.shaped x = true
def S_is_row : SpD := fun ds Φ => ∃ hs ws ps d, ds = [bdD hs ws ps, d] ∧ BdOk hs ws ps ∧ Askd d ∧ Φ (.bool (goTo ps d).isSome)
theorem ok_is_row (T : Tx mg) (GC : Fn P w K mg base "check_board" 7 ["board"] (spD K S_check_board)) (GA : Fn P w K mg base "place_after" 2 ["places", "thing"] (spD K S_place_after)) (F : Fd K "is_row" s_is_row [] [] f fd) : FnOk P w K mg base CX0 8 f fd ["board", "thing"] (spD K S_is_row) := by
  refine fnD F sc_is_row (fun ds Φ h => by obtain ⟨_, _, _, _, rfl, _⟩ := h; rfl) (fun B cdv A outer s H E ds Φ hr hp hS => ?_)
  obtain ⟨hs, ws, ps, d, rfl, hb, ha, hΦ⟩ := hS
  refine ds_cons (ds_expr (de_f (k' := 7) GC hr (da_cons (de_nm 0 (da_nil ⟨hs, ws, ps, rfl, hb, ?_⟩)))))
  refine ds_last (ds_ret (de_cmp op_notN (de_f (k' := 7) GA hr (da_cons (de_ix ix_tup (de_nm 0 (de_int (rd_ixT rfl (da_cons (de_nm 1 (da_nil ⟨ps, d, rfl, hb.rw, ha.no, ha.sh, de_non (rd_notN ?_)⟩)))))))))))
  cases e : goTo ps d with
  | none => rw [e] at hΦ; exact hΦ
  | some n => rw [e] at hΦ; exact hΦ
def S_check_row : SpD := fun ds Φ => ∃ hs ws ps d n, ds = [bdD hs ws ps, d] ∧ BdOk hs ws ps ∧ Askd d ∧ goTo ps d = some n ∧ Φ (natD n)
theorem ok_check_row (T : Tx mg) (GC : Fn P w K mg base "check_board" 7 ["board"] (spD K S_check_board)) (GA : Fn P w K mg base "place_after" 2 ["places", "thing"] (spD K S_place_after)) (F : Fd K "check_row" s_check_row [] [] f fd) : FnOk P w K mg base CX0 8 f fd ["board", "row"] (spD K S_check_row) := by
  refine fnD F sc_check_row (fun ds Φ h => by obtain ⟨_, _, _, _, _, rfl, _⟩ := h; rfl) (fun B cdv A outer s H E ds Φ hr hp hS => ?_)
  obtain ⟨hs, ws, ps, d, n, rfl, hb, ha, hn, hΦ⟩ := hS
  have nd := sc_check_row.nd
  refine ds_cons (ds_expr (de_f (k' := 7) GC hr (da_cons (de_nm 0 (da_nil ⟨hs, ws, ps, rfl, hb, ?_⟩)))))
  refine ds_cons (ds_set 2 ?_ nd)
  refine de_f (k' := 7) GA hr (da_cons (de_ix ix_tup (de_nm 0 (de_int (rd_ixT rfl (da_cons (de_nm 1 (da_nil ⟨ps, d, rfl, hb.rw, ha.no, ha.sh, ?_⟩))))))))
  rw [hn]
  refine ds_cons (ds_if (dt_cmp op_isN (de_nm 2 (de_non (rd_isN ⟨_, rfl, ?_⟩)))))
  exact iteF (ds_nil (ds_last (ds_ret (de_nm 2 hΦ))))
theorem ok_place_behind (T : Tx mg) (G : Fn P w K mg base "check_row" 8 ["board", "row"] (spD K S_check_row)) (F : Fd K "place_behind" s_place_behind [] [] f fd) : FnOk P w K mg base CX0 9 f fd ["board", "row"] (spD K S_check_row) := by
  refine fnD F sc_place_behind (fun ds Φ h => by obtain ⟨_, _, _, _, _, rfl, _⟩ := h; rfl) (fun B cdv A outer s H E ds Φ hr hp hS => ?_)
  obtain ⟨hs, ws, ps, d, n, rfl, hb, ha, hn, hΦ⟩ := hS
  refine ds_last (ds_ret (de_f (k' := 8) G hr (da_cons (de_nm 0 (da_cons (de_nm 1 (da_nil ⟨hs, ws, ps, d, n, rfl, hb, ha, hn, hΦ⟩)))))))
end K3

set_option maxHeartbeats 200000
set_option Elab.async false
set_option linter.all false
set_option maxRecDepth 100000
set_option maxHeartbeats 4000000
namespace K3
open PySem PySem.Spec PyProof.Rows L2 DL
variable {P : Program} {w : World} {K : PySem.W.Frag} {mg : Str → Option Value} {base : Heap} {f : Addr} {fd : FuncData} {k : Nat}
theorem flat_one : ∀ ys : List Str, (∀ y ∈ ys, ∃ c, y = (⟨#[c]⟩ : Str) ∧ 97 ≤ c ∧ c ≤ 122) → ∃ cs : List Nat, cs.length = ys.length ∧ (∀ c ∈ cs, 97 ≤ c ∧ c ≤ 122) ∧ ys = (cs.map fun c => [c]).map SX.S
  | [], _ => ⟨[], rfl, by simp, rfl⟩
  | y :: ys, h => by
    obtain ⟨c, rfl, hc⟩ := h y List.mem_cons_self
    obtain ⟨cs, h1, h2, h3⟩ := flat_one ys fun z hz => h z (List.mem_cons_of_mem _ hz)
    refine ⟨c :: cs, by simp [h1], fun d hd => ?_, by rw [h3]; rfl⟩
    rcases List.mem_cons.mp hd with rfl | hd
    · exact hc
    · exact h2 d hd
theorem flat_sing : ∀ cs : List Nat, (cs.map fun c => [c]).flatten = cs
  | [] => rfl
  | c :: cs => by rw [List.map_cons, List.flatten_cons, flat_sing cs]; rfl
theorem join_nm {ys : List Str} (h : ∀ y ∈ ys, ∃ c, y = (⟨#[c]⟩ : Str) ∧ 97 ≤ c ∧ c ≤ 122) (h1 : 1 ≤ ys.length) (h2 : ys.length ≤ 8) : IsNm (Txt.join (Str.ofString "") ys) := by
  obtain ⟨cs, e1, e2, rfl⟩ := flat_one ys h
  rw [show Str.ofString "" = SX.S [] from rfl, SX.join_S, joinL_nil, flat_sing]
  exact nm_S (by omega) (by omega) e2
theorem ones_len {ys : List Str} (h : ∀ y ∈ ys, ∃ c, y = (⟨#[c]⟩ : Str) ∧ 97 ≤ c ∧ c ≤ 122) : (ys.map (·.length)).sum = ys.length := by
  induction ys with
  | nil => rfl
  | cons y ys ih =>
    obtain ⟨c, rfl, _⟩ := h y List.mem_cons_self
    rw [List.map_cons, List.sum_cons, ih fun z hz => h z (List.mem_cons_of_mem _ hz), List.length_cons]
    show 1 + _ = _
    omega
theorem at_last {xs : List Str} (h : xs ≠ []) : ∃ z ∈ xs, atI (xs.map PyData.str) (-1) = some (.str z) := by
  have h1 : 0 < xs.length := List.length_pos_iff.mpr h
  refine ⟨xs[xs.length - 1], List.getElem_mem _, ?_⟩
  unfold atI ixN
  rw [if_neg (by decide), List.length_map, if_pos (by omega)]
  show (xs.map PyData.str)[(-1 + (xs.length : Int)).toNat]? = _
  rw [show (-1 + (xs.length : Int)).toNat = xs.length - 1 by omega, List.getElem?_map, List.getElem?_eq_getElem (by omega)]
  rfl
/-- the statements of a for -/
def forB : Stmt → List Stmt
  | .For _ _ b _ _ => b
  | _ => []
theorem ok__law_names (T : Tx mg) (GT : Fn P w K mg base "_law_take" 1 ["pot", "many"] (spP K S_law_take)) (F : Fd K "_law_names" s__law_names [] [] f fd) : FnOk P w K mg base CX0 2 f fd ["pot", "many"] (spPO K S_law_names) := by
  refine fnPO F sc__law_names (fun n ds Φ h => by obtain ⟨_, rfl, _⟩ := h; rfl) (fun B cdv A outer s H E n ds Φ hr hp hS => ?_)
  obtain ⟨many, rfl, hm, hn, hΦ⟩ := hS
  have nd := sc__law_names.nd
  refine dos_cons (ds_set 2 (de_str ?_) nd)
  refine dos_cons (ds_setO 3 (dl_lst (da_nil ⟨by decide, ?_⟩)) nd)
  refine dos_cons (ds_for [4] (pi_range1 rfl T.range pa_w) (pg_name (i := 4) nd rfl (.inl rfl)) (wi_rng1 (da_cons (de_nm 1 (da_nil ⟨_, rfl, ?_, ?_, ?_⟩)))))
  · omega
  · omega
  rw [Int.toNat_natCast]
  refine ⟨fun i δ => ∃ (l : List Str) (c4 c5 c7 : Option PyData), δ = envN (n + 11 * i) many l c4 c5 c7 ∧ l.length = i ∧ l.Nodup ∧ ∀ x ∈ l, IsNm x, ⟨[], none, none, none, rfl, rfl, List.nodup_nil, by simp⟩, fun i y δ hy hI => ?_, fun δ hI => ?_⟩
  · obtain ⟨l, c4, c5, c7, rfl, hl, hld, hln⟩ := hI
    obtain ⟨hi, rfl⟩ := rng_get hy
    refine wg_name ?_
    have rest : ∀ (n' : Nat) (wd : Str) (c4 : Option PyData), IsNm wd → n' ≤ n + 11 * (i + 1) → DSs B (bodyX P w K mg base n__law_names "_law_names" (defScope s__law_names) f cdv A outer s H E) ((forB ((defBody s__law_names).getD 2 (.Pass ⟨0, 0, 0, 0⟩))).drop 2) (envN n' many l c4 (some (.str wd)) c7) (fun δ => ∃ (l : List Str) (c4 c5 c7 : Option PyData), δ = envN (n + 11 * (i + 1)) many l c4 c5 c7 ∧ l.length = i + 1 ∧ l.Nodup ∧ ∀ x ∈ l, IsNm x) (fun _ _ => False) := fun n' wd c4 hwd hn' => by
      refine dss_bump (n + 11 * (i + 1)) hn' ?_
      refine ds_cons (ds_set 7 ?_ nd)
      refine de_dl (dl_cat (de_dl (dl_cat (de_dl (dl_lst (da_cons (de_nm 5 (da_nil ⟨by simp, _, rfl, ?_⟩))))))))
      refine de_dl (dl_map [("letter", 8)] nd (pi_str pe_w) (blkOk_by (N := n__law_names) (sc := defScope s__law_names) (by decide +kernel)) (fun _ _ _ _ _ => pg_name (i := 8) nd rfl (Or.inl rfl)) (wi_str (de_nm 2 ⟨abc, rfl, by decide +kernel, preD wd, fun B' y hp' hy => wg_name ?_, _, rfl, by simp [signs_abc, lets_len], _, rfl, ?_⟩)))
      · rw [signs_abc] at hy
        obtain ⟨c, hc, rfl⟩ := List.mem_map.mp hy
        intro s0 H0 C cl fp
        have h8 := hwd.l2
        refine de_bin op_add_str (de_upto sl_str (de_nm 5 (ru_slS ?_ (de_nm 8 (rd_addS ?_ ⟨rfl, rfl⟩)))))
        · omega
        · have := cutS_length wd none (some 7)
          show _ + 1 ≤ 100000
          omega
      refine de_dl (dl_map [("letter", 8)] nd (pi_str pe_w) (blkOk_by (N := n__law_names) (sc := defScope s__law_names) (by decide +kernel)) (fun _ _ _ _ _ => pg_name (i := 8) nd rfl (Or.inl rfl)) (wi_str (de_nm 2 ⟨abc, rfl, by decide +kernel, zeeD, fun B' y hp' hy => wg_name ?_, _, rfl, by simp [signs_abc, lets_len], ?_⟩)))
      · rw [signs_abc] at hy
        obtain ⟨c, hc, rfl⟩ := List.mem_map.mp hy
        intro s0 H0 C cl fp
        refine de_bin op_add_str (de_str (de_bin op_mulS (de_nm 8 (de_int (rd_mulS (n := 7) (by show 1 ≤ 1; decide) (by show 1 ≤ 100; decide) (by decide) (rd_addS ?_ ⟨rfl, rfl⟩))))))
        rw [if_neg (by decide), if_neg (by decide), repS_len]
        show 1 + 7 * 1 ≤ 100000
        decide
      have eS : ([PyData.str wd] ++ (DL.signs abc).map (preD wd)) ++ (DL.signs abc).map zeeD = (someN wd).map PyData.str := by
        unfold someN
        rw [signs_abc, List.map_append, List.map_append, List.map_map, List.map_map, List.map_map, List.map_map]
        rfl
      rw [eS]
      obtain ⟨x, r, hx⟩ := someN_new (wd := wd) (l := l) (by omega)
      refine ds_last (ds_append 3 (de_peek 3 (xs := l.map PyData.str) (ho := envN_own (n := n + 11 * (i + 1)) (many := many) (l := l) (c4 := c4) (c5 := some (.str wd)) (c7 := some (.list ((someN wd).map PyData.str)))) (de_ix ix_list (de_dl (dl_filt [("name", 9)] nd (pi_list pe_w) (blkOk_by (N := n__law_names) (sc := defScope s__law_names) (by decide +kernel)) (fun _ _ _ _ _ => pg_name (i := 9) nd rfl (Or.inl rfl))
        (wi_list (de_nm 7 ⟨_, rfl, ?_, notD l, id, fun B' y hp' hy => wg_name ?_, ?_⟩)))))))
      · rw [List.length_map]
        unfold someN
        simp [lets_len]
      · obtain ⟨z, hz, rfl⟩ := List.mem_map.mp hy
        intro s0 H0 C cl fp
        refine dt_cmp op_notIn_seq (de_nm 9 (de_nm 3 (rd_niStrL ⟨_, rfl, rfl, rfl, fun _ s1 H1 C1 cl1 fp1 => ?_⟩)))
        exact de_nm 9 ⟨rfl, rfl⟩
      · rw [List.map_id, filter_not, hx]
        refine de_int (rd_ixL (z := .str x) (by rw [atI_nn (by decide)]; rfl) ⟨rfl, rfl, l.map PyData.str, rfl, by rw [List.length_map]; omega, ?_⟩)
        have hm : x ∈ (someN wd).filter (fun x => !decide (x ∈ l)) := by rw [hx]; exact List.mem_cons_self
        have hxl : x ∉ l := by simpa using (List.mem_filter.mp hm).2
        have hxn := someN_nm hwd x (List.mem_filter.mp hm).1
        refine ⟨l ++ [x], c4, some (.str wd), some (.list ((someN wd).map PyData.str)), ?_, by simp [hl], ?_, fun z hz => ?_⟩
        · unfold envN
          rw [List.map_append]
          rfl
        · rw [List.nodup_append]
          exact ⟨hld, by simp, fun a ha b hb => by simp at hb; subst hb; exact fun e => hxl (e ▸ ha)⟩
        · rcases List.mem_append.mp hz with hz | hz
          · exact hln z hz
          · simp at hz
            subst hz
            exact hxn
    refine ds_cons (ds_set 5 ?_ nd)
    refine de_join (de_str ⟨_, rfl, de_dl (dl_lc [("turn", 6)] nd (pi_range1 rfl T.range pa_w) (blkOk_by (N := n__law_names) (sc := defScope s__law_names) (by decide +kernel)) (fun _ _ _ _ _ => pg_name (i := 6) nd rfl (Or.inl rfl)) (wi_rng1 (da_cons (de_bin op_add (de_int (de_fP (k' := 1) 0 GT hr (da_cons (de_int (da_nil ⟨8, rfl, by decide, by decide, ?_, fun d h0 h1 => rd_I0 (da_nil ⟨_, rfl, ?_, ?_, ?_⟩)⟩)))))))))⟩)
    · show n + 11 * i < _
      omega
    · omega
    · omega
    have hd : ((1 + d).toNat : Int) = 1 + d := by omega
    refine ⟨by rw [rng_len]; omega, fun j acc n2 => ∃ ys : List Str, acc = ys.map PyData.str ∧ ys.length = j ∧ (∀ y ∈ ys, ∃ c, y = (⟨#[c]⟩ : Str) ∧ 97 ≤ c ∧ c ≤ 122) ∧ n2 = n + 11 * i + 1 + j, ⟨[], rfl, rfl, by simp, rfl⟩, fun B' j y acc n2 hp' hy hac hI => wg_name ?_, fun acc n2 hac hI => ?_⟩
    · obtain ⟨ys, rfl, hys, hyc, rfl⟩ := hI
      have hj := (rng_get hy).1
      intro s0 H0 C cl fp
      refine de_ix ix_str (de_nm 2 (de_fP (k' := 1) 0 GT hr (da_cons (de_int (da_nil ⟨26, rfl, by decide, by decide, ?_, fun d2 g0 g1 => ?_⟩)))))
      · show n + 11 * i + 1 + j < _
        omega
      obtain ⟨c, hc1, hc2, hc3⟩ := abc_at g0 g1
      refine rd_ixS (by decide +kernel) hc1 ⟨ys ++ [⟨#[c]⟩], by simp, by simp [hys], fun y hy => ?_, ?_⟩
      · rcases List.mem_append.mp hy with hy | hy
        · exact hyc y hy
        · simp at hy
          exact ⟨c, hy, hc2, hc3⟩
      · show n + 11 * i + 1 + j + 1 = _
        omega
    · obtain ⟨ys, rfl, hys, hyc, rfl⟩ := hI
      rw [rng_len] at hys hac ⊢
      have hnm : IsNm (Txt.join (Str.ofString "") ys) := join_nm hyc (by omega) (by omega)
      refine ⟨ys, rfl, ?_, ?_⟩
      · rw [ones_len hyc]
        show ys.length + ys.length * 0 ≤ _
        omega
      generalize Txt.join (Str.ofString "") ys = wd at hnm
      refine ds_cons (ds_if (dt_pw (dw_and (dt_peek 3 (xs := l.map PyData.str) (ho := envN_own (n := n) (many := many) (l := l) (c4 := some (.int (0 + (i : Nat)))) (c5 := some (.str wd)) (c7 := c7)) (dt_cmp (op_neD hr.units) (de_nm 3 (de_dl (dl_lst (da_nil ⟨by decide, rd_neD (shaped_strs hln) (by decide) ⟨_, rfl, rfl, ?_⟩⟩)))))))))
      cases l with
      | nil => exact iteF (ds_nil (rest _ wd (some (.int (0 + (i : Nat)))) hnm (by show n + 11 * i + 1 + _ ≤ _; omega)))
      | cons x l =>
        refine iteT (dw_and1 (dt_cmp op_eq (de_fP (k' := 1) 0 GT hr (da_cons (de_int (da_nil ⟨3, rfl, by decide, by decide, ?_, fun d2 g0 g1 => de_int (rd_eqI ⟨_, rfl, ?_⟩)⟩))))))
        · show n + 11 * i + 1 + _ < _
          omega
        by_cases hz : d2 = 0
        · rw [decide_eq_true hz]
          obtain ⟨z, hz1, hz2⟩ := at_last (xs := x :: l) (by simp)
          have hzn := hln z hz1
          have hz8 := hzn.l2
          refine iteT (ds_last (ds_set 5 ?_ nd))
          refine de_upto sl_str (de_peek 3 (xs := (x :: l).map PyData.str) (ho := envN_own (n := n) (many := many) (l := x :: l) (c4 := some (.int (0 + (i : Nat)))) (c5 := some (.str wd)) (c7 := c7)) (de_bin op_add_str (de_ix ix_list (de_nm 3 (de_un un_neg (de_int (ru_neg (rd_ixL hz2 (de_ix ix_str (de_nm 2 (de_fP (k' := 1) 0 GT hr (da_cons (de_int (da_nil ⟨26, rfl, by decide, by decide, ?_, fun d3 g2 g3 => ?_⟩))))))))))))))
          · show n + 11 * i + 1 + _ + 1 < _
            omega
          obtain ⟨c, hc1, hc2, hc3⟩ := abc_at g2 g3
          refine rd_ixS (by decide +kernel) hc1 (rd_addS ?_ ⟨rfl, rfl, ru_slS ?_ ?_⟩)
          · show z.length + 1 ≤ _
            omega
          · show (z.cps ++ #[c]).size ≤ 100000
            rw [Array.size_append]
            show z.length + 1 ≤ _
            omega
          · exact rest _ _ (some (.int (0 + (i : Nat)))) (nm_cut8 hzn ⟨hc2, hc3⟩) (by show n + 11 * i + 1 + _ + 1 + 1 ≤ _; omega)
        · rw [decide_eq_false hz]
          exact iteF (ds_nil (rest _ wd (some (.int (0 + (i : Nat)))) hnm (by show n + 11 * i + 1 + _ + 1 ≤ _; omega)))
  · obtain ⟨l, c4, c5, c7, rfl, hl, hld, hln⟩ := hI
    rw [rng_len] at hl ⊢
    refine dos_own 3 (hΦ l hl hld hln)
end K3

set_option maxHeartbeats 200000
set_option Elab.async false
set_option linter.all false
set_option maxRecDepth 100000
set_option maxHeartbeats 4000000
namespace K3
open PySem PySem.Spec PyProof.Rows L2 DL
variable {P : Program} {w : World} {K : PySem.W.Frag} {mg : Str → Option Value} {base : Heap} {f : Addr} {fd : FuncData} {k : Nat}
def yx (k : Nat) : Str := (if k = 0 then Str.empty else if k = 1 then Str.ofString "y" else repS (Str.ofString "y") k) ++ Str.ofString "x"
theorem yx_nm : ∀ k ∈ List.range 8, isNmB (yx k) = true := by decide +kernel
theorem yx_nd : ((List.range 8).map yx).Nodup := by decide +kernel
theorem yx_len : ∀ k ∈ List.range 8, (if k = 0 then Str.empty else if k = 1 then Str.ofString "y" else repS (Str.ofString "y") k).length + (Str.ofString "x").length ≤ 100000 := by decide +kernel
def yxD : PyData → PyData
  | .int i => .str (yx i.toNat)
  | _ => .none
def someW (wd : Str) (st : List Str) : List Str := [wd] ++ st ++ (List.range 8).map yx
theorem someW_nm {wd : Str} {st : List Str} (h : IsNm wd) (hs : ∀ x ∈ st, IsNm x) : ∀ x ∈ someW wd st, IsNm x := fun x hx => by
  rcases List.mem_append.mp hx with hx | hx
  · rcases List.mem_append.mp hx with hx | hx
    · simp at hx
      subst hx
      exact h
    · exact hs x hx
  · obtain ⟨c, hc, rfl⟩ := List.mem_map.mp hx
    exact isNmB_iff.mp (yx_nm c hc)
theorem someW_new {wd : Str} {st l : List Str} (h : l.length < 8) : ∃ x r, (someW wd st).filter (fun x => !decide (x ∈ l)) = x :: r := by
  cases e : (someW wd st).filter (fun x => !decide (x ∈ l)) with
  | cons x r => exact ⟨x, r, rfl⟩
  | nil =>
    rw [List.filter_eq_nil_iff] at e
    have := pig ((List.range 8).map yx) l yx_nd fun x hx => by
      have := e x (List.mem_append_right _ hx)
      simpa using this
    rw [List.length_map, List.length_range] at this
    omega
def S_law_word : SpP := fun n ds Φ => ∃ st us : List Str, ds = [.list (st.map PyData.str), .list (us.map PyData.str)] ∧ 1 ≤ st.length ∧ st.length ≤ 6 ∧ (∀ x ∈ st, IsNm x) ∧ us.length < 8 ∧ n + 200 < 1099511627776 ∧ ∀ x, IsNm x → x ∉ us → Φ (.str x) (n + 13)
def envW (n : Nat) (st us : List Str) (wd : Str) : St' := ⟨n, [some .pot, some (.d (.list (st.map PyData.str))), some (.d (.list (us.map PyData.str))), some (.d (.str wd)), none, none, none]⟩
theorem ok__law_word (T : Tx mg) (GT : Fn P w K mg base "_law_take" 1 ["pot", "many"] (spP K S_law_take)) (GN : Fn P w K mg base "_law_names" 2 ["pot", "many"] (spPO K S_law_names)) (F : Fd K "_law_word" s__law_word [] [] f fd) : FnOk P w K mg base CX0 3 f fd ["pot", "stock", "used"] (spP K S_law_word) := by
  refine fnP F sc__law_word (fun n ds Φ h => by obtain ⟨_, _, rfl, _⟩ := h; rfl) (fun B cdv A outer s H E n ds Φ hr hp hS => ?_)
  obtain ⟨st, us, rfl, h1, h6, hst, hus, hn, hΦ⟩ := hS
  have nd := sc__law_word.nd
  have rest : ∀ (n' : Nat) (wd : Str), IsNm wd → n' ≤ n + 13 → DSs B (bodyX P w K mg base n__law_word "_law_word" (defScope s__law_word) f cdv A outer s H E) ((defBody s__law_word).drop 2) (envW n' st us wd) (fun δ => Φ .none δ.n) (fun x δ => Φ x δ.n) := fun n' wd hwd hn' => by
    refine dss_bump (n + 13) hn' ?_
    refine ds_cons (ds_set 4 ?_ nd)
    refine de_dl (dl_cat (de_dl (dl_cat (de_dl (dl_lst (da_cons (de_nm 3 (da_nil ⟨by simp, _, rfl, de_nm 1 ⟨_, rfl, ?_, _, rfl, ?_⟩⟩))))))))
    · simp; omega
    refine de_dl (dl_map [("k", 5)] nd (pi_range1 rfl T.range pa_w) (blkOk_by (N := n__law_word) (sc := defScope s__law_word) (by decide +kernel)) (fun _ _ _ _ _ => pg_name (i := 5) nd rfl (Or.inl rfl)) (wi_rng1 (da_cons (de_int (da_nil ⟨_, rfl, by decide, by decide, by decide, yxD, fun B' y hp' hy => wg_name ?_, _, rfl, ?_, ?_⟩)))))
    · obtain ⟨i, hi, e⟩ := List.mem_map.mp hy
      have e' : y = .int ((i : Nat)) := by rw [← e, Int.zero_add]
      subst e'
      intro s0 H0 C cl fp
      refine de_bin op_add_str (de_bin op_mulS (de_str (de_nm 5 (rd_mulS (n := i) (by decide) (by decide) ?_ (de_str (rd_addS (yx_len i hi) ⟨?_, rfl⟩))))))
      · have := List.mem_range.mp hi
        have h8 : (8 : Int).toNat = 8 := rfl
        omega
      · show _ = PyData.str (yx (((i : Nat) : Int)).toNat)
        rw [Int.toNat_natCast]
        rfl
    · simp [rng_len]; omega
    have eS : ([PyData.str wd] ++ st.map PyData.str) ++ (rng 0 (8 : Int).toNat).map yxD = (someW wd st).map PyData.str := by
      unfold someW
      rw [List.map_append, List.map_append, List.map_map]
      show _ ++ ((List.range 8).map fun i => PyData.int (0 + (i : Nat))).map yxD = _
      rw [List.map_map]
      congr 1
    rw [eS]
    obtain ⟨x, r, hx⟩ := someW_new (wd := wd) (st := st) (l := us) hus
    refine ds_last (ds_ret (de_ix ix_list (de_dl (dl_filt [("name", 6)] nd (pi_list pe_w) (blkOk_by (N := n__law_word) (sc := defScope s__law_word) (by decide +kernel)) (fun _ _ _ _ _ => pg_name (i := 6) nd rfl (Or.inl rfl))
      (wi_list (de_nm 4 ⟨_, rfl, ?_, notD us, id, fun B' y hp' hy => wg_name ?_, ?_⟩))))))
    · rw [List.length_map]
      unfold someW
      simp
      omega
    · obtain ⟨z, hz, rfl⟩ := List.mem_map.mp hy
      intro s0 H0 C cl fp
      refine dt_cmp op_notIn_seq (de_nm 6 (de_nm 2 (rd_niStrL ⟨_, rfl, rfl, rfl, fun _ s1 H1 C1 cl1 fp1 => ?_⟩)))
      exact de_nm 6 ⟨rfl, rfl⟩
    · rw [List.map_id, filter_not, hx]
      have hm : x ∈ (someW wd st).filter (fun x => !decide (x ∈ us)) := by rw [hx]; exact List.mem_cons_self
      refine de_int (rd_ixL (z := .str x) (by rw [atI_nn (by decide)]; rfl) (hΦ x (someW_nm hwd hst x (List.mem_filter.mp hm).1) (by simpa using (List.mem_filter.mp hm).2)))
  refine ds_cons (ds_set 3 ?_ nd)
  refine de_ix ix_list (de_nm 1 (de_fP (k' := 2) 0 GT hr (da_cons (de_callB call_len T.len boot_len (da_cons (de_nm 1 (da_nil (rc_lenL rfl (da_nil ⟨_, rfl, ?_, ?_, ?_, fun d g0 g1 => ?_⟩)))))))))
  · rw [List.length_map]; omega
  · rw [List.length_map]; omega
  · show n < _
    omega
  rw [List.length_map] at g1
  have hlt : d.toNat < st.length := by omega
  refine rd_ixL (z := .str st[d.toNat]) (by rw [atI_nn g0, List.getElem?_map, List.getElem?_eq_getElem hlt]; rfl) ?_
  refine ds_cons (ds_if (dt_cmp op_eq (de_fP (k' := 2) 0 GT hr (da_cons (de_int (da_nil ⟨4, rfl, by decide, by decide, ?_, fun d2 g2 g3 => de_int (rd_eqI ⟨_, rfl, ?_⟩)⟩))))))
  · show n + 1 < _
    omega
  by_cases hz : d2 = 0
  · rw [decide_eq_true hz]
    refine iteT (ds_last (ds_set 3 ?_ nd))
    refine de_ix ix_list (de_dl (dl_fP (k' := 2) 0 GN hr (da_cons (de_int (da_nil ⟨1, rfl, by decide, ?_, fun l hl hld hln => de_int ?_⟩)))))
    · show n + 1 + 1 + 100 < _
      omega
    cases l with
    | nil => cases hl
    | cons x l =>
      refine rd_ixL (z := .str x) (by rw [atI_nn (by decide)]; rfl) ?_
      exact rest _ x (hln x List.mem_cons_self) (by show n + 1 + 1 + 11 * 1 ≤ _; omega)
  · rw [decide_eq_false hz]
    exact iteF (ds_nil (rest _ _ (hst _ (List.getElem_mem hlt)) (by show n + 1 + 1 ≤ _; omega)))
end K3

set_option maxHeartbeats 200000
set_option Elab.async false
set_option linter.all false
set_option maxRecDepth 100000
set_option maxHeartbeats 4000000
namespace K3
open PySem PySem.Spec PyProof.Rows L2 DL
open PySem.W (alike alikeAll dataLt dataLe AllAlike Sortable EachIs)
variable {P : Program} {w : World} {K : PySem.W.Frag} {mg : Str → Option Value} {base : Heap} {f : Addr} {fd : FuncData} {k : Nat}
/-! ### the walk of the law -/
theorem room70 {k : Nat} {A : Around} (r : Room k A) : A.units + 70 < cLine := by
  have := r.un
  omega
theorem noHs_nat : ∀ l : List Nat, noHs (l.map natD) = true
  | [] => rfl
  | _ :: l => noHs_nat l
theorem sortD_nat (l : List Nat) : sortD (l.map natD) = (l.mergeSort fun a b => decide (a ≤ b)).map natD := by
  unfold sortD
  refine (List.map_mergeSort fun a _ b _ => ?_).symm
  have h := congrFun (congrFun (PySem.W.dataLe_int (fun b : Nat => (b : Int))) a) b
  show decide (a ≤ b) = dataLe false (fun b : Nat => PyData.int (b : Int)) a b
  rw [h]
  simp
theorem sort_lt {l : List Nat} (nd : l.Nodup) : (l.mergeSort fun a b => decide (a ≤ b)).Pairwise (· < ·) := by
  have h1 := List.pairwise_mergeSort (le := fun a b : Nat => decide (a ≤ b)) (fun a b c h1 h2 => by simp at h1 h2 ⊢; omega) (fun a b => by simp; omega) l
  have h2 : (l.mergeSort fun a b => decide (a ≤ b)).Nodup := (List.mergeSort_perm l _).nodup_iff.mpr nd
  refine List.Pairwise.imp₂ (fun a b h3 h4 => ?_) h1 h2
  have : a ≤ b := by simpa using h3
  omega
theorem rd_niWo {B : Bs} {δ : St'} {Φ : PE1} {wo : Option Str} {a b : Str} (p : Φ (.bool (!decide (some a = wo) && !decide (some b = wo))) δ) : RD B (rIn B.K true) (woD wo) (.tuple [.str a, .str b]) δ Φ := rd_inT (by cases wo <;> rfl) rfl (by
  have e : (if true = true then !inV (toV (woD wo)) ([PyData.str a, .str b].map toV) else inV (toV (woD wo)) ([PyData.str a, .str b].map toV)) = (!decide (some a = wo) && !decide (some b = wo)) := by
    rw [if_pos rfl]
    cases wo with
    | none => rfl
    | some s =>
      show (!((a == s) || ((b == s) || false))) = _
      simp [Bool.beq_eq_decide_eq]
  rw [e]
  exact p)
theorem inV_nats {k : Nat} {l : List Nat} : inV (toV (natD k)) ((l.map natD).map toV) = decide (k ∈ l) := by
  induction l with
  | nil => rfl
  | cons x l ih =>
    show (((x : Int) == (k : Int)) || inV (toV (natD k)) ((l.map natD).map toV)) = _
    rw [ih]
    by_cases h : k = x
    · subst h; simp
    · have : ¬ ((x : Int) = (k : Int)) := by omega
      simp [h, this]
theorem rd_niNat {B : Bs} {δ : St'} {Φ : PE1} {k : Nat} {l : List Nat} (p : Φ (.bool (!decide (k ∈ l))) δ) : RD B (rIn B.K true) (natD k) (.list (l.map natD)) δ Φ := rd_inL rfl (by simp [atom, natD]) (by
  rw [if_pos rfl, inV_nats]
  exact p)
def S_law_reach : SpD := fun ds Φ => ∃ ps st wo fl, ds = [plsD ps, natD st, woD wo, .bool fl] ∧ st < ps.length ∧ BrOk ps ∧ ps.length < 64 ∧ ∀ l : List Nat, l.Pairwise (· < ·) → (∀ k, k ∈ l ↔ Rc ps wo fl [st] k) → Φ (.list (l.map natD))
def envR (ps : List Pl) (st : Nat) (wo : Option Str) (fl : Bool) (fo : List Nat) (at' : Nat) (c6 c7 c8 c9 : Option PyData) : St' :=
  ⟨0, [some (.d (plsD ps)), some (.d (natD st)), some (.d (woD wo)), some (.d (.bool fl)), some (.own (fo.map natD)), some (.d (natD at')), c6.map C.d, c7.map C.d, c8.map C.d, c9.map C.d]⟩
theorem envR_own {ps : List Pl} {st : Nat} {wo : Option Str} {fl : Bool} {fo : List Nat} {at' : Nat} {c6 c7 c8 c9 : Option PyData} : onlyOwn 4 (envR ps st wo fl fo at' c6 c7 c8 c9).s 0 = true := by
  show onlyOwn 4 [some (C.own (fo.map natD)), some (.d (natD at')), c6.map C.d, c7.map C.d, c8.map C.d, c9.map C.d] 4 = true
  show (4 == 4 && onlyOwn 4 [c6.map C.d, c7.map C.d, c8.map C.d, c9.map C.d] 6) = true
  rw [onlyOwn_md, onlyOwn_md, onlyOwn_md, onlyOwn_md]
  rfl
/-- the branches by which the walk goes on -/
theorem brs_mem {s : Str} {bs : List Br} {wo : Option Str} {fl : Bool} {b : Br} : b ∈ brs (some (s, bs)) wo fl ↔ b ∈ bs ∧ ((!decide (some s = wo) && !decide (some b.1 = wo)) && (fl || !decide (b.2.1 = flt))) = true := by
  unfold brs
  dsimp only
  by_cases h : some s = wo
  · rw [if_pos h, decide_eq_true h]
    simp
  · rw [if_neg h, decide_eq_false h, List.mem_filter]
    unfold keepB
    simp
def whB : Stmt → List Stmt
  | .While _ b _ _ => b
  | _ => []
end K3

set_option maxHeartbeats 200000
set_option Elab.async false
set_option linter.all false
set_option maxRecDepth 100000
set_option maxHeartbeats 4000000
namespace K3
open PySem PySem.Spec PyProof.Rows L2 DL
def ifB : Stmt → List Stmt
  | .If _ b _ _ => b
  | _ => []
end K3

set_option maxHeartbeats 200000
set_option Elab.async false
set_option linter.all false
set_option maxRecDepth 100000
set_option maxHeartbeats 4000000
namespace K3
open PySem PySem.Spec PyProof.Rows L2 DL
variable {P : Program} {w : World} {K : PySem.W.Frag} {mg : Str → Option Value} {base : Heap} {f : Addr} {fd : FuncData} {k : Nat}
/-! ### places that grow -/
/-- the store has a place at a, its branches at b -/
structure PlAt (G : Gm) (a b : Addr) (gone : List Str) (sy : Option Str) (bl : List Br) : Prop where
  pl : G a = some [.list (gone.map PyData.str), woD sy, hdD b]
  br : G b = some (bl.map brD)
def S_law_lacks : SpS := fun G ds Φ => ∃ (a b : Addr) (gone : List Str) (sy : Str) (bl : List Br) (ws : List Str), ds = [hdD a, .list (ws.map PyData.str)] ∧ PlAt G a b gone (some sy) bl ∧ bl.length ≤ 1000 ∧ Φ (.bool (decide (sy ∈ ws) && !bl.any fun x => decide (x.2.1 = flt)))
theorem inV_words {bl : List Br} : inV (toV (.str flt)) (((bl.map brD).map wordD).map toV) = bl.any fun x => decide (x.2.1 = flt) := by
  induction bl with
  | nil => rfl
  | cons b l ih =>
    show ((b.2.1 == flt) || inV (toV (.str flt)) (((l.map brD).map wordD).map toV)) = _
    rw [ih, List.any_cons]
    simp [Bool.beq_eq_decide_eq]
theorem ok__law_lacks (F : Fd K "_law_lacks" s__law_lacks [] [] f fd) : FnOk P w K mg base CX0 1 f fd ["place", "weak"] (spS K S_law_lacks) := by
  refine fnS F sc__law_lacks (fun G ds Φ h => by obtain ⟨_, _, _, _, _, _, rfl, _⟩ := h; rfl) (fun B cdv A outer s H E G ds Φ hr hp hG hS => ?_)
  obtain ⟨a, b, gone, sy, bl, ws, rfl, hpl, hbl, hΦ⟩ := hS
  have nd := sc__law_lacks.nd
  refine ds_last (ds_ret (de_and (de_cmp op_in_seq (de_ix ix_list (de_nm 0 (de_int (rd_hIx hG hpl.pl (z := .str sy) rfl (de_nm 1 (rd_inStrL ⟨_, rfl, ?_⟩)))))))))
  by_cases hw : sy ∈ ws
  · rw [decide_eq_true hw] at hΦ ⊢
    refine iteT (de_one (de_cmp op_notIn_seq (de_str (de_dl (dl_map [("branch", 2)] nd (pi_list pe_w) (blkOk_by (N := n__law_lacks) (sc := defScope s__law_lacks) (by decide +kernel)) (fun _ _ _ _ _ => pg_name (i := 2) nd rfl (Or.inl rfl))
      (wi_h hG (de_ix ix_list (de_nm 0 (de_int (rd_hIx hG hpl.pl (z := hdD b) rfl ⟨b, _, rfl, hpl.br, ?_, wordD, fun B' y hp' hy => wg_name ?_, rd_inL rfl ?_ ?_⟩))))))))))
    · rw [List.length_map]; omega
    · obtain ⟨x, hx, rfl⟩ := List.mem_map.mp hy
      intro s0 H0 C cl fp
      exact de_ix ix_tup (de_nm 2 (de_int (rd_ixT rfl ⟨rfl, rfl⟩)))
    · rw [List.map_map, List.all_eq_true]
      intro y hy
      obtain ⟨x, hx, rfl⟩ := List.mem_map.mp hy
      rfl
    · rw [if_pos rfl]
      have e := inV_words (bl := bl)
      exact (show Φ (PyData.bool (!inV (toV (.str flt)) (((bl.map brD).map wordD).map toV))) by rw [e]; exact hΦ)
  · rw [decide_eq_false hw] at hΦ ⊢
    exact iteF hΦ
end K3

set_option maxHeartbeats 200000
set_option Elab.async false
set_option linter.all false
set_option maxRecDepth 100000
set_option maxHeartbeats 4000000
namespace K3
open PySem PySem.Spec PyProof.Rows L2 DL
variable {P : Program} {w : World} {K : PySem.W.Frag} {mg : Str → Option Value} {base : Heap} {f : Addr} {fd : FuncData} {k : Nat}
theorem ext_new {G : Gm} {a b : Addr} {xs ys : List PyData} : Ext G (gput (gput G b xs) a ys) := fun c h => by
  unfold gput
  split
  · exact fun z => by cases z
  · split
    · exact fun z => by cases z
    · exact h
def liv (hs gone : List Str) : List Str := hs.filter fun h => !decide (h ∈ gone)
/-- what a new place may be -/
def NewP (hs gone g' : List Str) (sy : Option Str) : Prop := (sy = none ∧ g' = hs) ∨ (g' = gone ∧ 2 ≤ (liv hs gone).length ∧ ∃ s, sy = some s ∧ s ∈ liv hs gone)
def S_law_new_place : SpG := fun n G ds Φ => ∃ hs gone : List Str, ds = [.list (hs.map PyData.str), .list (gone.map PyData.str)] ∧ hs.length ≤ 6 ∧ n + 10 < 1099511627776 ∧
  ∀ n' a b g' sy, n' ≤ n + 2 → NewP hs gone g' sy → G a = none → G b = none → a ≠ b → Φ (hdD a) n' (gput (gput G b []) a [.list (g'.map PyData.str), woD sy, hdD b])
theorem ok__law_new_place (T : Tx mg) (GT : Fn P w K mg base "_law_take" 1 ["pot", "many"] (spP K S_law_take)) (F : Fd K "_law_new_place" s__law_new_place [] [] f fd) : FnOk P w K mg base CX0 2 f fd ["pot", "hands", "gone"] (spG K S_law_new_place) := by
  refine fnG F sc__law_new_place (fun n G ds Φ h => by obtain ⟨_, _, rfl, _⟩ := h; rfl) (fun B cdv A outer s H E n G ds Φ hr hp hS => ?_)
  obtain ⟨hs, gone, rfl, h6, hn, hΦ⟩ := hS
  have nd := sc__law_new_place.nd
  have hll : (liv hs gone).length ≤ hs.length := List.length_filter_le _ _
  refine sss_ds fun B' hp' hG => ?_
  refine (ds_setFilt 3 [("hand", 4)] nd (pi_list pe_w) (blkOk_by (N := n__law_new_place) (sc := defScope s__law_new_place) (by decide +kernel)) (fun _ _ _ _ _ => pg_name (i := 4) nd rfl (Or.inl rfl))
    (wi_list (de_nm 1 ⟨_, rfl, ?_, notD gone, id, fun B' y hp' hy => wg_name ?_, ?_⟩)))
  · rw [List.length_map]; omega
  · obtain ⟨z, hz, rfl⟩ := List.mem_map.mp hy
    intro s0 H0 C cl fp
    refine dt_cmp op_notIn_seq (de_nm 4 (de_nm 2 (rd_niStrL ⟨_, rfl, rfl, rfl, fun _ s1 H1 C1 cl1 fp1 => ?_⟩)))
    exact de_nm 4 ⟨rfl, rfl⟩
  rw [List.map_id, filter_not]
  show SSs B _ _ G ⟨n, [some .pot, some (.d (.list (hs.map PyData.str))), some (.d (.list (gone.map PyData.str))), some (.d (.list ((liv hs gone).map PyData.str))), none]⟩ _ _
  have first : ∀ n', n' ≤ n + 2 → SSs B (bodyX P w K mg base n__law_new_place "_law_new_place" (defScope s__law_new_place) f cdv A outer s H E) (wSs (bodyX P w K mg base n__law_new_place "_law_new_place" (defScope s__law_new_place) f cdv A outer s H E) (ifB ((defBody s__law_new_place).getD 1 (.Pass ⟨0, 0, 0, 0⟩)))) G
      ⟨n', [some .pot, some (.d (.list (hs.map PyData.str))), some (.d (.list (gone.map PyData.str))), some (.d (.list ((liv hs gone).map PyData.str))), none]⟩ (fun δ' G' => SSs B (bodyX P w K mg base n__law_new_place "_law_new_place" (defScope s__law_new_place) f cdv A outer s H E) (wSs (bodyX P w K mg base n__law_new_place "_law_new_place" (defScope s__law_new_place) f cdv A outer s H E) ((defBody s__law_new_place).drop 2)) G' δ' (fun δ G' => Ext G G' ∧ Φ .none δ.n G') fun x δ G' => Ext G G' ∧ Φ x δ.n G') (fun x δ G' => Ext G G' ∧ Φ x δ.n G') := fun n' hn' => by
    refine sss_one (sss_ret (se_new fun B' hp' hG => ?_))
    refine de_dl (dl_callTy call_list_of T.list boot_list (wl_list rfl (da_cons (de_nm 1 (da_nil ⟨_, .inl rfl, de_non fun a b ha hb hab => ⟨ext_new, ?_⟩⟩)))))
    exact hΦ n' a b hs none hn' (.inl ⟨rfl, rfl⟩) ha hb hab
  refine sss_cons (sss_if fun B' hp' hG => ?_)
  refine dt_pw (dw_or (dt_cmp op_lt (de_callB call_len T.len boot_len (da_cons (de_nm 3 (da_nil (rc_lenL rfl (de_int (rd_B0 ⟨_, rfl, ?_⟩)))))))))
  rw [List.length_map]
  by_cases hl : (liv hs gone).length < 2
  · rw [decide_eq_true (by omega)]
    exact iteT (first n (by omega))
  · rw [decide_eq_false (by omega)]
    refine iteF (dw_or1 (dt_cmp op_eq (de_fP (k' := 1) 0 GT hr (da_cons (de_int (da_nil ⟨6, rfl, by decide, by decide, ?_, fun d g0 g1 => de_int (rd_eqI ⟨_, rfl, ?_⟩)⟩))))))
    · show n < _
      omega
    by_cases hz : d = 0
    · rw [decide_eq_true hz]
      exact iteT (first (n + 1) (by omega))
    · rw [decide_eq_false hz]
      refine iteF (sss_nil (sss_one (sss_ret (se_new fun B' hp' hG => de_nm 2 ?_))))
      refine de_ix ix_list (de_nm 3 (de_fP (k' := 1) 0 GT hr (da_cons (de_callB call_len T.len boot_len (da_cons (de_nm 3 (da_nil (rc_lenL rfl (da_nil ⟨_, rfl, ?_, ?_, ?_, fun d2 g2 g3 => ?_⟩)))))))))
      · rw [List.length_map]; omega
      · rw [List.length_map]; omega
      · show n + 1 < _
        omega
      rw [List.length_map] at g3
      have hlt : d2.toNat < (liv hs gone).length := by omega
      refine rd_ixL (z := .str (liv hs gone)[d2.toNat]) (by rw [atI_nn g2, List.getElem?_map, List.getElem?_eq_getElem hlt]; rfl) fun a b ha hb hab => ⟨ext_new, ?_⟩
      exact hΦ (n + 2) a b gone (some (liv hs gone)[d2.toNat]) (Nat.le_refl _) (.inr ⟨rfl, by omega, _, rfl, List.getElem_mem hlt⟩) ha hb hab
end K3

set_option maxHeartbeats 200000
set_option Elab.async false
set_option linter.all false
set_option maxRecDepth 100000
set_option maxHeartbeats 4000000
namespace K3
open PySem PySem.Spec PyProof.Rows L2 DL
variable {P : Program} {w : World} {K : PySem.W.Frag} {mg : Str → Option Value} {base : Heap} {f : Addr} {fd : FuncData} {k : Nat}
/-- who may hear -/
def oth (hs gone : List Str) (sy : Str) : List Str := hs.filter fun h => !decide (h ∈ gone) && !decide (h = sy)
def othD (gone : List Str) (sy : Str) : PyData → Bool
  | .str s => !decide (s ∈ gone) && !decide (s = sy)
  | _ => false
theorem filter_oth (hs gone : List Str) (sy : Str) : (hs.map PyData.str).filter (othD gone sy) = (oth hs gone sy).map PyData.str := by
  rw [List.filter_map]
  rfl
def toD (h : Str) : PyData → Bool
  | .tuple (.str x :: _) => decide (x = h)
  | _ => false
theorem filter_to (bl : List Br) (h : Str) : ((bl.map brD).filter (toD h)).map wordD = ((bl.filter fun x => decide (x.1 = h)).map fun x => x.2.1).map PyData.str := by
  rw [List.filter_map, List.map_map, List.map_map]
  rfl
theorem ext_put {G : Gm} {b : Addr} {xs : List PyData} : Ext G (gput G b xs) := fun c h => by
  unfold gput
  split
  · exact fun z => by cases z
  · exact h
def S_law_put_branch : SpG := fun n G ds Φ => ∃ (hs st gone : List Str) (bl : List Br) (a b : Addr) (sy : Str) (th : Nat), ds = [.list (hs.map PyData.str), .list (st.map PyData.str), hdD a, natD th] ∧ PlAt G a b gone (some sy) bl ∧
  hs.length ≤ 6 ∧ 1 ≤ st.length ∧ st.length ≤ 6 ∧ (∀ x ∈ st, IsNm x) ∧ bl.length < 8 ∧ oth hs gone sy ≠ [] ∧ n + 300 < 1099511627776 ∧
  ∀ h wd, h ∈ oth hs gone sy → IsNm wd → (∀ x ∈ bl, x.1 = h → x.2.1 ≠ wd) → Φ .none (n + 14) (gput G b ((bl ++ [(h, wd, th)]).map brD))
theorem ok__law_put_branch (T : Tx mg) (GT : Fn P w K mg base "_law_take" 1 ["pot", "many"] (spP K S_law_take)) (GW : Fn P w K mg base "_law_word" 3 ["pot", "stock", "used"] (spP K S_law_word)) (F : Fd K "_law_put_branch" s__law_put_branch [] [] f fd) :
    FnOk P w K mg base CX0 4 f fd ["pot", "hands", "stock", "place", "then"] (spG K S_law_put_branch) := by
  refine fnG F sc__law_put_branch (fun n G ds Φ h => by obtain ⟨_, _, _, _, _, _, _, _, rfl, _⟩ := h; rfl) (fun B cdv A outer s H E n G ds Φ hr hp hS => ?_)
  obtain ⟨hs, st, gone, bl, a, b, sy, th, rfl, hpl, h6, hs1, hs6, hst, hbl, hne, hn, hΦ⟩ := hS
  have nd := sc__law_put_branch.nd
  have hol : (oth hs gone sy).length ≤ hs.length := List.length_filter_le _ _
  have hop : 0 < (oth hs gone sy).length := List.length_pos_iff.mpr hne
  refine sss_ds fun B' hp' hG => ?_
  refine ds_unpack [5, 6, 7] (pgu_three 5 6 7 nd) (de_nm 3 (wg_h hG hpl.pl (wgs_cons (wg_name (wgs_cons (wg_name (wgs_cons (wg_name (wgs_nil ?_)))))))))
  refine sss_ds fun B' hp' hG => ?_
  refine ds_setFilt 8 [("hand", 9)] nd (pi_list pe_w) (blkOk_by (N := n__law_put_branch) (sc := defScope s__law_put_branch) (by decide +kernel)) (fun _ _ _ _ _ => pg_name (i := 9) nd rfl (Or.inl rfl))
    (wi_list (de_nm 1 ⟨_, rfl, ?_, othD gone sy, id, fun B' y hp' hy => wg_name ?_, ?_⟩))
  · rw [List.length_map]; omega
  · obtain ⟨z, hz, rfl⟩ := List.mem_map.mp hy
    intro s0 H0 C cl fp
    refine dt_pw (dw_and (dt_cmp op_notIn_seq (de_nm 9 (de_nm 5 (rd_niStrL ⟨_, rfl, ?_⟩)))))
    cases h1 : decide (z ∈ gone) with
    | true => exact iteF ⟨by show false = (!decide (z ∈ gone) && _); rw [h1]; rfl, rfl, fun q => by rw [show othD gone sy (.str z) = (!decide (z ∈ gone) && !decide (z = sy)) from rfl, h1] at q; cases q⟩
    | false =>
      refine iteT (dw_and1 (dt_cmp op_ne (de_nm 9 (de_nm 6 (rd_neS ⟨_, rfl, ?_, rfl, fun _ s1 H1 C1 cl1 fp1 => de_nm 9 ⟨rfl, rfl⟩⟩)))))
      show _ = (!decide (z ∈ gone) && !decide (z = sy))
      rw [h1]
      rfl
  rw [List.map_id, filter_oth]
  refine sss_ds fun B' hp' hG => ds_set 10 ?_ nd
  refine de_ix ix_list (de_nm 8 (de_fP (k' := 3) 0 GT hr (da_cons (de_callB call_len T.len boot_len (da_cons (de_nm 8 (da_nil (rc_lenL rfl (da_nil ⟨_, rfl, ?_, ?_, ?_, fun d g0 g1 => ?_⟩)))))))))
  · rw [List.length_map]; omega
  · rw [List.length_map]; omega
  · show n < _
    omega
  rw [List.length_map] at g1
  have hlt : d.toNat < (oth hs gone sy).length := by omega
  have hm := List.getElem_mem hlt
  generalize hh : (oth hs gone sy)[d.toNat] = h at hm
  refine rd_ixL (z := .str h) (by rw [atI_nn g0, List.getElem?_map, List.getElem?_eq_getElem hlt, hh]; rfl) ?_
  refine sss_ds fun B' hp' hG => ds_set 11 ?_ nd
  refine de_fP (k' := 3) 0 GW hr (da_cons (de_nm 2 (da_cons (de_dl (dl_filt [("branch", 12)] nd (pi_list pe_w) (blkOk_by (N := n__law_put_branch) (sc := defScope s__law_put_branch) (by decide +kernel)) (fun _ _ _ _ _ => pg_name (i := 12) nd rfl (Or.inl rfl))
    (wi_h hG (de_nm 7 ⟨b, _, rfl, hpl.br, ?_, toD h, wordD, fun B' y hp' hy => wg_name ?_, da_nil ⟨st, (bl.filter fun x => decide (x.1 = h)).map fun x => x.2.1, ?_, hs1, hs6, hst, ?_, ?_, fun wd hw1 hw2 => ?_⟩⟩)))))))
  · rw [List.length_map]; omega
  · obtain ⟨x, hx, rfl⟩ := List.mem_map.mp hy
    intro s0 H0 C cl fp
    refine dt_cmp op_eq (de_ix ix_tup (de_nm 12 (de_int (rd_ixT rfl (de_nm 10 (rd_eqS ⟨_, rfl, rfl, rfl, fun _ s1 H1 C1 cl1 fp1 => ?_⟩))))))
    exact de_ix ix_tup (de_nm 12 (de_int (rd_ixT rfl ⟨rfl, rfl⟩)))
  · rw [filter_to]
  · rw [List.length_map]
    exact Nat.lt_of_le_of_lt (List.length_filter_le _ _) hbl
  · show n + 1 + 200 < _
    omega
  refine sss_one (sss_append 7 (a := b) (fun B' hp' hG => ?_) rfl (by rw [hpl.br]; rfl))
  refine de_tup (da_cons (de_nm 10 (da_cons (de_nm 11 (da_cons (de_nm 4 (da_nil ⟨by simp, bl.map brD, hpl.br, ?_, ext_put, ?_⟩)))))))
  · rw [List.length_map]; omega
  · have := hΦ h wd hm hw1 fun x hx e1 e2 => hw2 (by
      rw [List.mem_map]
      exact ⟨x, List.mem_filter.mpr ⟨hx, decide_eq_true e1⟩, e2⟩)
    rw [List.map_append] at this
    exact this
end K3

set_option maxHeartbeats 200000
set_option Elab.async false
set_option linter.all false
set_option maxRecDepth 100000
set_option maxHeartbeats 4000000
namespace K3
open PySem PySem.Spec PyProof.Rows L2 DL
variable {P : Program} {w : World} {K : PySem.W.Frag} {mg : Str → Option Value} {base : Heap} {f : Addr} {fd : FuncData} {k : Nat}
def S_law_put_fault : SpG := fun n G ds Φ => ∃ (hs gone : List Str) (bl : List Br) (a b : Addr) (sy : Str) (th : Nat), ds = [.list (hs.map PyData.str), hdD a, natD th] ∧ PlAt G a b gone (some sy) bl ∧
  hs.length ≤ 6 ∧ bl.length < 100 ∧ oth hs gone sy ≠ [] ∧ n + 300 < 1099511627776 ∧
  ∀ h, h ∈ oth hs gone sy → Φ .none (n + 1) (gput G b ((bl ++ [(h, flt, th)]).map brD))
theorem ok__law_put_fault (T : Tx mg) (GT : Fn P w K mg base "_law_take" 1 ["pot", "many"] (spP K S_law_take)) (F : Fd K "_law_put_fault" s__law_put_fault [] [] f fd) :
    FnOk P w K mg base CX0 2 f fd ["pot", "hands", "place", "then"] (spG K S_law_put_fault) := by
  refine fnG F sc__law_put_fault (fun n G ds Φ h => by obtain ⟨_, _, _, _, _, _, _, rfl, _⟩ := h; rfl) (fun B cdv A outer s H E n G ds Φ hr hp hS => ?_)
  obtain ⟨hs, gone, bl, a, b, sy, th, rfl, hpl, h6, hbl, hne, hn, hΦ⟩ := hS
  have nd := sc__law_put_fault.nd
  have hol : (oth hs gone sy).length ≤ hs.length := List.length_filter_le _ _
  have hop : 0 < (oth hs gone sy).length := List.length_pos_iff.mpr hne
  refine sss_ds fun B' hp' hG => ?_
  refine ds_unpack [4, 5, 6] (pgu_three 4 5 6 nd) (de_nm 2 (wg_h hG hpl.pl (wgs_cons (wg_name (wgs_cons (wg_name (wgs_cons (wg_name (wgs_nil ?_)))))))))
  refine sss_ds fun B' hp' hG => ?_
  refine ds_setFilt 7 [("hand", 8)] nd (pi_list pe_w) (blkOk_by (N := n__law_put_fault) (sc := defScope s__law_put_fault) (by decide +kernel)) (fun _ _ _ _ _ => pg_name (i := 8) nd rfl (Or.inl rfl))
    (wi_list (de_nm 1 ⟨_, rfl, ?_, othD gone sy, id, fun B' y hp' hy => wg_name ?_, ?_⟩))
  · rw [List.length_map]; omega
  · obtain ⟨z, hz, rfl⟩ := List.mem_map.mp hy
    intro s0 H0 C cl fp
    refine dt_pw (dw_and (dt_cmp op_notIn_seq (de_nm 8 (de_nm 4 (rd_niStrL ⟨_, rfl, ?_⟩)))))
    cases h1 : decide (z ∈ gone) with
    | true => exact iteF ⟨by show false = (!decide (z ∈ gone) && _); rw [h1]; rfl, rfl, fun q => by rw [show othD gone sy (.str z) = (!decide (z ∈ gone) && !decide (z = sy)) from rfl, h1] at q; cases q⟩
    | false =>
      refine iteT (dw_and1 (dt_cmp op_ne (de_nm 8 (de_nm 5 (rd_neS ⟨_, rfl, ?_, rfl, fun _ s1 H1 C1 cl1 fp1 => de_nm 8 ⟨rfl, rfl⟩⟩)))))
      show _ = (!decide (z ∈ gone) && !decide (z = sy))
      rw [h1]
      rfl
  rw [List.map_id, filter_oth]
  refine sss_one (sss_append 6 (a := b) (fun B' hp' hG => ?_) rfl (by rw [hpl.br]; rfl))
  refine de_tup (da_cons (de_ix ix_list (de_nm 7 (de_fP (k' := 1) 0 GT hr (da_cons (de_callB call_len T.len boot_len (da_cons (de_nm 7 (da_nil (rc_lenL rfl (da_nil ⟨_, rfl, ?_, ?_, ?_, fun d g0 g1 => ?_⟩)))))))))))
  · rw [List.length_map]; omega
  · rw [List.length_map]; omega
  · show n < _
    omega
  rw [List.length_map] at g1
  have hlt : d.toNat < (oth hs gone sy).length := by omega
  have hm := List.getElem_mem hlt
  generalize hh : (oth hs gone sy)[d.toNat] = h at hm
  refine rd_ixL (z := .str h) (by rw [atI_nn g0, List.getElem?_map, List.getElem?_eq_getElem hlt, hh]; rfl) ?_
  refine da_cons (de_str (da_cons (de_nm 3 (da_nil ⟨by simp, bl.map brD, hpl.br, ?_, ext_put, ?_⟩))))
  · rw [List.length_map]; omega
  · have := hΦ h hm
    rw [List.map_append] at this
    exact this
end K3

set_option maxHeartbeats 200000
set_option Elab.async false
set_option linter.all false
set_option maxRecDepth 100000
set_option maxHeartbeats 4000000
namespace K3
open PySem PySem.Spec PyProof.Rows
open PySem.W (alike alikeAll dataLt dataLe AllAlike Sortable EachIs)
/-! ### places that grow, as they are -/
structure GP where
  g : List Str
  s : Option Str
  bl : List Br
structure Gr (hs ws : List Str) (gs : List GP) : Prop where
  pl : ∀ p ∈ gs, (p.s = none ∧ p.g = hs ∧ p.bl = []) ∨ ∃ sy, p.s = some sy ∧ sy ∈ liv hs p.g ∧ 2 ≤ (liv hs p.g).length
  br : ∀ p ∈ gs, ∀ sy, p.s = some sy → ∀ b ∈ p.bl, b.1 ∈ oth hs p.g sy ∧ (IsNm b.2.1 ∨ (b.2.1 = flt ∧ sy ∈ ws))
  un : ∀ p ∈ gs, p.bl.Pairwise fun x y => ¬ (x.1 = y.1 ∧ x.2.1 = y.2.1)
  fa : ∀ p ∈ gs, (p.bl.countP fun b => decide (b.2.1 = flt)) ≤ 1
  tg : ∀ p ∈ gs, ∀ b ∈ p.bl, b.2.2 ≤ gs.length
  to : ∀ p ∈ gs, ∀ b ∈ p.bl, ∀ q, gs[b.2.2]? = some q → (∀ h ∈ p.g, h ∈ q.g) ∧ (b.2.1 = flt → ∀ sy, p.s = some sy → sy ∈ q.g)
  rch : ∀ k, 0 < k → k < gs.length → ∃ i, i < k ∧ ∃ p, gs[i]? = some p ∧ ∃ b ∈ p.bl, b.2.2 = k
theorem mem_oth {hs g : List Str} {sy h : Str} : h ∈ oth hs g sy ↔ h ∈ hs ∧ h ∉ g ∧ h ≠ sy := by
  unfold oth
  rw [List.mem_filter]
  simp
theorem mem_liv {hs g : List Str} {h : Str} : h ∈ liv hs g ↔ h ∈ hs ∧ h ∉ g := by
  unfold liv
  rw [List.mem_filter]
  simp
theorem oth_ne {hs g : List Str} {sy : Str} (nd : hs.Nodup) (h2 : 2 ≤ (liv hs g).length) : oth hs g sy ≠ [] := fun e => by
  have hn : (liv hs g).Nodup := nd.filter _
  have key : ∀ l : List Str, l.Nodup → 2 ≤ l.length → ∃ x ∈ l, x ≠ sy := fun l hl h => by
    cases l with
    | nil => simp at h
    | cons a l =>
      cases l with
      | nil => simp at h
      | cons b l =>
        by_cases ha : a = sy
        · refine ⟨b, by simp, fun hb => ?_⟩
          have := (List.nodup_cons.mp hl).1
          exact this (by rw [ha, ← hb]; simp)
        · exact ⟨a, by simp, ha⟩
  obtain ⟨x, hx, hne⟩ := key _ hn h2
  have : x ∈ oth hs g sy := mem_oth.mpr ⟨(mem_liv.mp hx).1, (mem_liv.mp hx).2, hne⟩
  rw [e] at this
  cases this
theorem Gr.first {hs ws : List Str} {g' : List Str} {sy : Option Str} (h : NewP hs [] g' sy) : Gr hs ws [⟨g', sy, []⟩] := by
  refine ⟨fun p hp => ?_, fun p hp sy' _ b hb => ?_, fun p hp => ?_, fun p hp => ?_, fun p hp b hb => ?_, fun p hp b hb => ?_, fun k h1 h2 => ?_⟩
  all_goals try (simp at hp; subst hp)
  · rcases h with ⟨h1, h2⟩ | ⟨h1, h2, s, h3, h4⟩
    · exact .inl ⟨h1, h2, rfl⟩
    · subst h1
      exact .inr ⟨s, h3, h4, h2⟩
  · cases hb
  · exact .nil
  · exact Nat.zero_le _
  · cases hb
  · cases hb
  · simp at h2; omega
/-- one branch more -/
def GP.put (p : GP) (b : Br) : GP := ⟨p.g, p.s, p.bl ++ [b]⟩
structure BrNew (hs ws : List Str) (p : GP) (b : Br) : Prop where
  hr : ∀ sy, p.s = some sy → b.1 ∈ oth hs p.g sy
  wd : ∀ sy, p.s = some sy → IsNm b.2.1 ∨ (b.2.1 = flt ∧ sy ∈ ws)
  un : ∀ x ∈ p.bl, x.1 = b.1 → x.2.1 ≠ b.2.1
  fa : b.2.1 = flt → ∀ x ∈ p.bl, x.2.1 ≠ flt
theorem set_mem {α : Type} {l : List α} {i : Nat} {x y : α} (h : y ∈ l.set i x) : y = x ∨ y ∈ l := by
  rcases List.mem_or_eq_of_mem_set h with h | h
  · exact .inr h
  · exact .inl h
theorem un_put {bl : List Br} {b : Br} (h : bl.Pairwise fun x y => ¬ (x.1 = y.1 ∧ x.2.1 = y.2.1)) (hb : ∀ x ∈ bl, x.1 = b.1 → x.2.1 ≠ b.2.1) : (bl ++ [b]).Pairwise fun x y => ¬ (x.1 = y.1 ∧ x.2.1 = y.2.1) :=
  List.pairwise_append.mpr ⟨h, by simp, fun x hx y hy => by
    simp at hy
    subst hy
    exact fun z => hb x hx z.1 z.2⟩
theorem fa_put {bl : List Br} {b : Br} (h : (bl.countP fun b => decide (b.2.1 = flt)) ≤ 1) (hb : b.2.1 = flt → ∀ x ∈ bl, x.2.1 ≠ flt) : ((bl ++ [b]).countP fun b => decide (b.2.1 = flt)) ≤ 1 := by
  rw [List.countP_append]
  by_cases e : b.2.1 = flt
  · have : (bl.countP fun b => decide (b.2.1 = flt)) = 0 := List.countP_eq_zero.mpr fun x hx => by simpa using hb e x hx
    rw [this]
    simp [e]
  · have : ([b].countP fun b => decide (b.2.1 = flt)) = 0 := List.countP_eq_zero.mpr fun x hx => by
      simp at hx
      subst hx
      simpa using e
    omega
/-- a branch to a place that comes now -/
theorem Gr.grow {hs ws : List Str} {gs : List GP} {i : Nat} {p : GP} {b : Br} {q : GP} (h : Gr hs ws gs) (hp : gs[i]? = some p) (hps : p.s ≠ none) (hb : BrNew hs ws p b) (hk : b.2.2 = gs.length) (hcl : ∀ p ∈ gs, ∀ b ∈ p.bl, b.2.2 < gs.length)
    (hq : (q.s = none ∧ q.g = hs) ∨ ((∀ h ∈ p.g, h ∈ q.g) ∧ (b.2.1 = flt → ∀ sy, p.s = some sy → sy ∈ q.g) ∧ 2 ≤ (liv hs q.g).length ∧ ∃ sy, q.s = some sy ∧ sy ∈ liv hs q.g)) (hqb : q.bl = []) (hph : ∀ h ∈ p.g, h ∈ hs) : Gr hs ws (gs.set i (p.put b) ++ [q]) ∧ ∀ x ∈ gs.set i (p.put b) ++ [q], ∀ c ∈ x.bl, c.2.2 < (gs.set i (p.put b) ++ [q]).length := by
  have hm := List.mem_of_getElem? hp
  have hi : i < gs.length := (List.getElem?_eq_some_iff.mp hp).1
  have hl : (gs.set i (p.put b) ++ [q]).length = gs.length + 1 := by simp
  have cs : ∀ {x : GP}, x ∈ gs.set i (p.put b) ++ [q] → x ∈ gs ∨ x = p.put b ∨ x = q := fun {x} hx => by
    rcases List.mem_append.mp hx with hx | hx
    · rcases set_mem hx with h | h
      · exact .inr (.inl h)
      · exact .inl h
    · simp at hx
      exact .inr (.inr hx)
  have at' : ∀ {k : Nat} {x : GP}, (gs.set i (p.put b) ++ [q])[k]? = some x → (∃ y, gs[k]? = some y ∧ x.g = y.g ∧ k < gs.length) ∨ (k = gs.length ∧ x = q) := fun {k x} hx => by
    rw [List.getElem?_append] at hx
    split at hx
    · rename_i hk
      rw [List.length_set] at hk
      left
      by_cases e : i = k
      · subst e
        rw [List.getElem?_set_self hk] at hx
        injection hx with hx
        exact ⟨p, hp, by rw [← hx]; rfl, hk⟩
      · rw [List.getElem?_set_ne e] at hx
        exact ⟨x, hx, rfl, hk⟩
    · rename_i hk
      rw [List.length_set] at hk hx
      right
      by_cases e : k = gs.length
      · subst e
        simp at hx
        exact ⟨rfl, hx.symm⟩
      · rw [List.getElem?_eq_none (by simp; omega)] at hx
        cases hx
  have tgt : ∀ x ∈ gs.set i (p.put b) ++ [q], ∀ c ∈ x.bl, c.2.2 < gs.length + 1 := fun x hx c hc => by
    rcases cs hx with hx | rfl | rfl
    · have := hcl x hx c hc; omega
    · rcases List.mem_append.mp hc with hc | hc
      · have := hcl p hm c hc; omega
      · simp at hc; subst hc; omega
    · rw [hqb] at hc; cases hc
  refine ⟨⟨fun x hx => ?_, fun x hx sy hs' c hc => ?_, fun x hx => ?_, fun x hx => ?_, fun x hx c hc => ?_, fun x hx c hc y hy => ?_, fun k h1 h2 => ?_⟩, fun x hx c hc => by rw [hl]; exact tgt x hx c hc⟩
  · rcases cs hx with hx | rfl | rfl
    · exact h.pl x hx
    · rcases h.pl p hm with ⟨e, _⟩ | e
      · exact absurd e hps
      · exact .inr e
    · rcases hq with ⟨e1, e2⟩ | ⟨_, _, e1, e2, e3, e4⟩
      · exact .inl ⟨e1, e2, hqb⟩
      · exact .inr ⟨e2, e3, e4, e1⟩
  · rcases cs hx with hx | rfl | rfl
    · exact h.br x hx sy hs' c hc
    · rcases List.mem_append.mp hc with hc | hc
      · exact h.br p hm sy hs' c hc
      · simp at hc
        subst hc
        exact ⟨hb.hr sy hs', hb.wd sy hs'⟩
    · rw [hqb] at hc; cases hc
  · rcases cs hx with hx | rfl | rfl
    · exact h.un x hx
    · exact un_put (h.un p hm) hb.un
    · rw [hqb]; exact .nil
  · rcases cs hx with hx | rfl | rfl
    · exact h.fa x hx
    · exact fa_put (h.fa p hm) hb.fa
    · rw [hqb]; exact Nat.zero_le _
  · have := tgt x hx c hc
    rw [hl]; omega
  · have old : ∀ x ∈ gs, ∀ c ∈ x.bl, (∀ h ∈ x.g, h ∈ y.g) ∧ (c.2.1 = flt → ∀ sy, x.s = some sy → sy ∈ y.g) ∨ c.2.2 ≠ c.2.2 ∨ (gs.set i (p.put b) ++ [q])[c.2.2]? ≠ some y := fun x hx c hc => by
      by_cases e : (gs.set i (p.put b) ++ [q])[c.2.2]? = some y
      · rcases at' e with ⟨z, hz, e2, _⟩ | ⟨e2, _⟩
        · rw [e2]
          exact .inl (h.to x hx c hc z hz)
        · have := hcl x hx c hc
          omega
      · exact .inr (.inr e)
    rcases cs hx with hx | rfl | rfl
    · rcases old x hx c hc with h | h | h
      · exact h
      · exact absurd rfl h
      · exact absurd hy h
    · rcases List.mem_append.mp hc with hc | hc
      · rcases old p hm c hc with h | h | h
        · exact h
        · exact absurd rfl h
        · exact absurd hy h
      · simp at hc
        subst hc
        rcases at' hy with ⟨z, _, _, hlt⟩ | ⟨_, rfl⟩
        · omega
        · rcases hq with ⟨_, e2⟩ | ⟨e1, e2, _⟩
          · refine ⟨fun h hh => by rw [e2]; exact hph h hh, fun _ sy hsy => ?_⟩
            rw [e2]
            rcases h.pl p hm with ⟨e, _⟩ | ⟨sy', e3, e4, _⟩
            · exact absurd e hps
            · have : p.s = some sy := hsy
              rw [e3] at this
              injection this with this
              subst this
              exact (mem_liv.mp e4).1
          · exact ⟨e1, fun f sy hsy => e2 f sy hsy⟩
    · rw [hqb] at hc; cases hc
  · rw [hl] at h2
    have keep : ∀ {j : Nat} {x : GP} {c : Br}, gs[j]? = some x → c ∈ x.bl → ∃ x', (gs.set i (p.put b) ++ [q])[j]? = some x' ∧ c ∈ x'.bl := fun {j x c} hx hc => by
      have hj : j < gs.length := (List.getElem?_eq_some_iff.mp hx).1
      rw [List.getElem?_append_left (by simpa using hj)]
      by_cases e : i = j
      · subst e
        rw [List.getElem?_set_self hj]
        rw [hp] at hx
        injection hx with hx
        subst hx
        exact ⟨_, rfl, List.mem_append_left _ hc⟩
      · rw [List.getElem?_set_ne e]
        exact ⟨x, hx, hc⟩
    by_cases e : k < gs.length
    · obtain ⟨j, hj, x, hx, c, hc, hck⟩ := h.rch k h1 e
      obtain ⟨x', q1, q2⟩ := keep hx hc
      exact ⟨j, hj, x', q1, c, q2, hck⟩
    · have e : k = gs.length := by omega
      subst e
      refine ⟨i, hi, p.put b, ?_, b, by simp [GP.put], hk⟩
      rw [List.getElem?_append_left (by simpa using hi), List.getElem?_set_self hi]
/-- a branch to a place that is there, or to the end -/
theorem Gr.more {hs ws : List Str} {gs : List GP} {i : Nat} {p : GP} {b : Br} (h : Gr hs ws gs) (hp : gs[i]? = some p) (hps : p.s ≠ none) (hb : BrNew hs ws p b) (hk : b.2.2 ≤ gs.length) (hto : ∀ q, gs[b.2.2]? = some q → (∀ h ∈ p.g, h ∈ q.g) ∧ (b.2.1 = flt → ∀ sy, p.s = some sy → sy ∈ q.g)) : Gr hs ws (gs.set i (p.put b)) := by
  have hm := List.mem_of_getElem? hp
  have hi : i < gs.length := (List.getElem?_eq_some_iff.mp hp).1
  have at' : ∀ {k : Nat} {x : GP}, (gs.set i (p.put b))[k]? = some x → ∃ y, gs[k]? = some y ∧ x.g = y.g := fun {k x} hx => by
    by_cases e : i = k
    · subst e
      rw [List.getElem?_set_self hi] at hx
      injection hx with hx
      exact ⟨p, hp, by rw [← hx]; rfl⟩
    · rw [List.getElem?_set_ne e] at hx
      exact ⟨x, hx, rfl⟩
  refine ⟨fun x hx => ?_, fun x hx sy hs' c hc => ?_, fun x hx => ?_, fun x hx => ?_, fun x hx c hc => ?_, fun x hx c hc y hy => ?_, fun k h1 h2 => ?_⟩
  · rcases set_mem hx with rfl | hx
    · rcases h.pl p hm with ⟨e, _⟩ | e
      · exact absurd e hps
      · exact .inr e
    · exact h.pl x hx
  · rcases set_mem hx with rfl | hx
    · rcases List.mem_append.mp hc with hc | hc
      · exact h.br p hm sy hs' c hc
      · simp at hc
        subst hc
        exact ⟨hb.hr sy hs', hb.wd sy hs'⟩
    · exact h.br x hx sy hs' c hc
  · rcases set_mem hx with rfl | hx
    · exact un_put (h.un p hm) hb.un
    · exact h.un x hx
  · rcases set_mem hx with rfl | hx
    · exact fa_put (h.fa p hm) hb.fa
    · exact h.fa x hx
  · rw [List.length_set]
    rcases set_mem hx with rfl | hx
    · rcases List.mem_append.mp hc with hc | hc
      · exact h.tg p hm c hc
      · simp at hc
        subst hc
        exact hk
    · exact h.tg x hx c hc
  · obtain ⟨z, hz, e⟩ := at' hy
    rw [e]
    rcases set_mem hx with rfl | hx
    · rcases List.mem_append.mp hc with hc | hc
      · exact h.to p hm c hc z hz
      · simp at hc
        subst hc
        exact hto z hz
    · exact h.to x hx c hc z hz
  · rw [List.length_set] at h2
    obtain ⟨j, hj, x, hx, c, hc, hck⟩ := h.rch k h1 h2
    by_cases e : i = j
    · subst e
      rw [hp] at hx
      injection hx with hx
      subst hx
      exact ⟨i, hj, p.put b, by rw [List.getElem?_set_self hi], c, List.mem_append_left _ hc, hck⟩
    · exact ⟨j, hj, x, by rw [List.getElem?_set_ne e]; exact hx, c, hc, hck⟩
end K3

set_option maxHeartbeats 200000
set_option Elab.async false
set_option linter.all false
set_option maxRecDepth 100000
set_option maxHeartbeats 4000000
namespace K3
open PySem PySem.Spec PyProof.Rows
open PySem.W (alike alikeAll dataLt dataLe AllAlike Sortable EachIs)
/-! ### boards as the law writes them -/
theorem rise_of {bl : List Br} (hs : bl.Pairwise fun x y => dataLt (brD y) (brD x) = false) (hu : bl.Pairwise fun x y => ¬ (x.1 = y.1 ∧ x.2.1 = y.2.1)) : ∀ i x y, (bl.map pr2)[i]? = some x → (bl.map pr2)[i + 1]? = some y → dataLt x y = true := fun i x y hx hy => by
  rw [List.getElem?_map, Option.map_eq_some_iff] at hx hy
  obtain ⟨a, ha, rfl⟩ := hx
  obtain ⟨b, hb, rfl⟩ := hy
  obtain ⟨ia, ea⟩ := List.getElem?_eq_some_iff.mp ha
  obtain ⟨ib, eb⟩ := List.getElem?_eq_some_iff.mp hb
  have h1 := List.pairwise_iff_getElem.mp hs i (i + 1) ia ib (by omega)
  have h2 := List.pairwise_iff_getElem.mp hu i (i + 1) ia ib (by omega)
  rw [ea, eb] at h1 h2
  have tb : ∀ z : Br, PySem.W.keyToks (brD z) = [.inl 1, .inr z.1.cps.toList, .inl 1, .inr z.2.1.cps.toList, .inl 1, .inl (z.2.2 : Nat), .inl 0] := fun z => by
    simp [brD, PySem.W.keyToks, PySem.W.keyToksAll]
  have tp : ∀ z : Br, PySem.W.keyToks (pr2 z) = [.inl 1, .inr z.1.cps.toList, .inl 1, .inr z.2.1.cps.toList, .inl 0] := fun z => by
    simp [pr2, PySem.W.keyToks, PySem.W.keyToksAll]
  unfold dataLt at h1 ⊢
  rw [tb, tb] at h1
  rw [tp, tp]
  rw [lex_self (O := itemOrd)] at h1 ⊢
  by_cases e1 : a.1 = b.1
  · rw [e1] at h1 ⊢
    rw [lex_self (O := itemOrd), lex_self (O := itemOrd)] at h1 ⊢
    have e2 : a.2.1 ≠ b.2.1 := fun z => h2 ⟨e1, z⟩
    have n2 : (Sum.inr a.2.1.cps.toList : Int ⊕ List Nat) ≠ Sum.inr b.2.1.cps.toList := fun z => e2 (PySem.W.str_of_cps (Sum.inr.inj z))
    rw [lex_diff (O := itemOrd) (Ne.symm n2)] at h1
    rw [lex_diff (O := itemOrd) n2]
    cases q : itemOrd.blt (Sum.inr a.2.1.cps.toList) (Sum.inr b.2.1.cps.toList) with
    | true => rfl
    | false => exact absurd (itemOrd.total _ _ q h1) n2
  · have n1 : (Sum.inr a.1.cps.toList : Int ⊕ List Nat) ≠ Sum.inr b.1.cps.toList := fun z => e1 (PySem.W.str_of_cps (Sum.inr.inj z))
    rw [lex_diff (O := itemOrd) (Ne.symm n1)] at h1
    rw [lex_diff (O := itemOrd) n1]
    cases q : itemOrd.blt (Sum.inr a.1.cps.toList) (Sum.inr b.1.cps.toList) with
    | true => rfl
    | false => exact absurd (itemOrd.total _ _ q h1) n1
def leB (a b : Br) : Bool := !dataLt (brD b) (brD a)
def srt (bl : List Br) : List Br := bl.mergeSort leB
theorem leB_trans (a b c : Br) (h1 : leB a b = true) (h2 : leB b c = true) : leB a c = true := by
  unfold leB at *
  simp only [Bool.not_eq_true'] at *
  unfold dataLt at *
  cases q : lexLt itemOrd (PySem.W.keyToks (brD c)) (PySem.W.keyToks (brD a)) with
  | false => rfl
  | true =>
    rcases lex_negTrans (O := itemOrd) _ (PySem.W.keyToks (brD b)) _ q with h | h
    · rw [h] at h2; cases h2
    · rw [h] at h1; cases h1
theorem leB_total (a b : Br) : (leB a b || leB b a) = true := by
  unfold leB dataLt
  cases q : lexLt itemOrd (PySem.W.keyToks (brD b)) (PySem.W.keyToks (brD a)) with
  | false => rfl
  | true =>
    cases q2 : lexLt itemOrd (PySem.W.keyToks (brD a)) (PySem.W.keyToks (brD b)) with
    | false => rfl
    | true =>
      have := lex_trans (O := itemOrd) _ _ _ q q2
      rw [lex_irrefl (O := itemOrd)] at this
      cases this
theorem srt_perm (bl : List Br) : (srt bl).Perm bl := List.mergeSort_perm _ _
theorem srt_mem {bl : List Br} {b : Br} : b ∈ srt bl ↔ b ∈ bl := (srt_perm bl).mem_iff
theorem srt_sorted (bl : List Br) : (srt bl).Pairwise fun x y => dataLt (brD y) (brD x) = false := by
  have h := List.pairwise_mergeSort (le := leB) leB_trans leB_total bl
  refine h.imp fun {a b} q => ?_
  unfold leB at q
  simpa using q
theorem srt_un {bl : List Br} (h : bl.Pairwise fun x y => ¬ (x.1 = y.1 ∧ x.2.1 = y.2.1)) : (srt bl).Pairwise fun x y => ¬ (x.1 = y.1 ∧ x.2.1 = y.2.1) :=
  ((srt_perm bl).pairwise_iff fun {x y} q z => q ⟨z.1.symm, z.2.symm⟩).mpr h
/-- a place, as it is told -/
def tellP (p : GP) : Pl := p.s.map fun s => (s, srt p.bl)
/-- whether one is needed to the end -/
def needs (gs : List GP) : Bool := gs.any fun p => p.bl.any fun b => decide (b.2.2 = gs.length)
def tellB (gs : List GP) : List Pl := gs.map tellP ++ (if needs gs = true then [none] else [])
/-- a place that is finished -/
structure PFin (ws : List Str) (p : GP) : Prop where
  wd : p.s ≠ none → ∃ b ∈ p.bl, b.2.1 ≠ flt
  l8 : p.bl.length ≤ 8
  fa : ∀ sy, p.s = some sy → sy ∈ ws → ∃ b ∈ p.bl, b.2.1 = flt
theorem tell_get {gs : List GP} {k : Nat} {pl : Pl} (h : (tellB gs)[k]? = some pl) : (∃ p, gs[k]? = some p ∧ pl = tellP p) ∨ (k = gs.length ∧ pl = none ∧ needs gs = true) := by
  unfold tellB at h
  rw [List.getElem?_append] at h
  split at h
  · rw [List.getElem?_map, Option.map_eq_some_iff] at h
    obtain ⟨p, h1, h2⟩ := h
    exact .inl ⟨p, h1, h2.symm⟩
  · rename_i hk
    rw [List.length_map] at hk h
    by_cases e : needs gs = true
    · rw [if_pos e] at h
      by_cases e2 : k = gs.length
      · subst e2
        simp at h
        exact .inr ⟨rfl, h.symm, e⟩
      · rw [List.getElem?_eq_none (by simp; omega)] at h
        cases h
    · rw [if_neg e] at h
      simp at h
theorem tell_len {gs : List GP} : (tellB gs).length = gs.length + (if needs gs = true then 1 else 0) := by
  unfold tellB
  rw [List.length_append, List.length_map]
  split <;> rfl
theorem tell_pl {gs : List GP} {k : Nat} {p : GP} (h : gs[k]? = some p) : (tellB gs)[k]? = some (tellP p) := by
  have hk := (List.getElem?_eq_some_iff.mp h).1
  unfold tellB
  rw [List.getElem?_append_left (by rw [List.length_map]; exact hk), List.getElem?_map, h]
  rfl
theorem keep_all (b : Br) : keepB none true b = true := rfl
theorem brs_all {s : Str} {bs : List Br} : brs (some (s, bs)) none true = bs := by
  unfold brs
  dsimp only
  rw [if_neg (fun z => by cases z)]
  exact List.filter_eq_self.mpr fun b _ => rfl
theorem Gr.board {hs ws : List Str} {gs : List GP} (h : Gr hs ws gs) (h2 : 2 ≤ hs.length) (h6 : hs.length ≤ 6) (hn : ∀ x ∈ hs, IsNm x) (hd : hs.Nodup) (hw : WkOk hs ws) (h1 : 1 ≤ gs.length) (h39 : gs.length ≤ 39) (hf : ∀ p ∈ gs, PFin ws p) : BdOk hs ws (tellB gs) := by
  have hlen := tell_len (gs := gs)
  have tg : ∀ p ∈ gs, ∀ b ∈ p.bl, b.2.2 < (tellB gs).length := fun p hp b hb => by
    have := h.tg p hp b hb
    rw [hlen]
    by_cases e : b.2.2 = gs.length
    · have : needs gs = true := List.any_eq_true.mpr ⟨p, hp, List.any_eq_true.mpr ⟨b, hb, decide_eq_true e⟩⟩
      rw [if_pos this]
      omega
    · omega
  have pof : ∀ pl ∈ tellB gs, ∀ s bs, pl = some (s, bs) → ∃ p ∈ gs, p.s = some s ∧ bs = srt p.bl := fun pl hp s bs e => by
    obtain ⟨k, hk⟩ := List.getElem?_of_mem hp
    rcases tell_get hk with ⟨p, h1, h2⟩ | ⟨_, h2, _⟩
    · subst e
      unfold tellP at h2
      have h2 := h2.symm
      rw [Option.map_eq_some_iff] at h2
      obtain ⟨s', h3, h4⟩ := h2
      injection h4 with h4 h5
      subst h4
      exact ⟨p, List.mem_of_getElem? h1, h3, h5.symm⟩
    · subst e
      cases h2
  refine ⟨h2, h6, hn, hd, hw, by rw [hlen]; omega, by rw [hlen]; split <;> omega, fun pl hp s bs e => ?_, fun x hx k hr pl hk => ?_, fun k hk => ?_⟩
  · obtain ⟨p, hp, hs1, rfl⟩ := pof pl hp s bs e
    have hsy : s ∈ liv hs p.g := by
      rcases h.pl p hp with ⟨e, _⟩ | ⟨sy, e, q, _⟩
      · rw [hs1] at e; cases e
      · rw [hs1] at e
        injection e with e
        subst e
        exact q
    obtain ⟨b0, hb0, hbw⟩ := (hf p hp).wd (by rw [hs1]; exact fun z => by cases z)
    have hl : (srt p.bl).length = p.bl.length := (srt_perm _).length_eq
    have hc : ((srt p.bl).countP fun b => decide (b.2.1 = flt)) = p.bl.countP fun b => decide (b.2.1 = flt) := (srt_perm _).countP_eq _
    refine ⟨(mem_liv.mp hsy).1, by rw [hl]; exact List.length_pos_of_mem hb0, by rw [hl]; exact (hf p hp).l8, fun b hb => ?_, rise_of (srt_sorted _) (srt_un (h.un p hp)), ?_, ?_⟩
    · have hb := srt_mem.mp hb
      obtain ⟨q1, q2⟩ := h.br p hp s hs1 b hb
      exact ⟨(mem_oth.mp q1).1, (mem_oth.mp q1).2.2, q2.imp id And.left, tg p hp b hb⟩
    · rw [hc]
      by_cases e : s ∈ ws
      · rw [if_pos e]
        obtain ⟨b, hb, hbf⟩ := (hf p hp).fa s hs1 e
        have := h.fa p hp
        have : 0 < p.bl.countP fun b => decide (b.2.1 = flt) := List.countP_pos_iff.mpr ⟨b, hb, decide_eq_true hbf⟩
        omega
      · rw [if_neg e]
        refine List.countP_eq_zero.mpr fun b hb => ?_
        intro z
        have z : b.2.1 = flt := by simpa using z
        rcases (h.br p hp s hs1 b hb).2 with q | q
        · have h1 := q.cs 33 (by rw [z]; decide)
          omega
        · exact e q.2
    · rw [hc, hl]
      have : (p.bl.countP fun b => decide (b.2.1 = flt)) ≠ p.bl.length := fun z => by
        have := List.countP_eq_length.mp z b0 hb0
        exact hbw (by simpa using this)
      have := List.countP_le_length (p := fun b : Br => decide (b.2.1 = flt)) (l := p.bl)
      omega
  · -- who fell takes part no more
    have key : ∀ k, Rc (tellB gs) none true (fallsOf (tellB gs) x) k → ∀ p, gs[k]? = some p → x ∈ p.g := fun k hr => by
      induction hr with
      | base hk =>
        intro q hq
        unfold fallsOf at hk
        rw [List.mem_flatMap] at hk
        obtain ⟨pl, hp, hk⟩ := hk
        cases pl with
        | none => simp at hk
        | some sb =>
          obtain ⟨s, bs⟩ := sb
          dsimp only at hk
          split at hk
          · rename_i es
            obtain ⟨b, hb, rfl⟩ := List.mem_map.mp hk
            obtain ⟨hb1, hb2⟩ := List.mem_filter.mp hb
            obtain ⟨p, hpm, hs1, rfl⟩ := pof _ hp s bs rfl
            have hb1 := srt_mem.mp hb1
            exact es ▸ (h.to p hpm b hb1 q hq).2 (by simpa using hb2) s hs1
          · simp at hk
      | step _ s ih =>
        intro q hq
        obtain ⟨pl, hpl, b, hb, rfl⟩ := s
        rcases tell_get hpl with ⟨p, h1, h2⟩ | ⟨_, h2, _⟩
        · subst h2
          have hx := ih p h1
          cases e : p.s with
          | none =>
            rw [show tellP p = none by unfold tellP; rw [e]; rfl] at hb
            simp [brs] at hb
          | some s =>
            rw [show tellP p = some (s, srt p.bl) by unfold tellP; rw [e]; rfl, brs_all] at hb
            exact (h.to p (List.mem_of_getElem? h1) b (srt_mem.mp hb) q hq).1 x hx
        · subst h2
          simp [brs] at hb
    rcases tell_get hk with ⟨p, h1, h2⟩ | ⟨_, h2, _⟩
    · subst h2
      have hx := key k hr p h1
      have hm := List.mem_of_getElem? h1
      cases e : p.s with
      | none => rw [show tellP p = none by unfold tellP; rw [e]; rfl]; rfl
      | some s =>
        rw [show tellP p = some (s, srt p.bl) by unfold tellP; rw [e]; rfl]
        show (decide (s = x) || (srt p.bl).any fun b => decide (b.1 = x)) = false
        rw [Bool.or_eq_false_iff]
        constructor
        · refine decide_eq_false fun z => ?_
          rcases h.pl p hm with ⟨e2, _⟩ | ⟨sy, e2, q, _⟩
          · rw [e] at e2; cases e2
          · rw [e] at e2
            injection e2 with e2
            subst e2
            exact (mem_liv.mp q).2 (z ▸ hx)
        · rw [List.any_eq_false]
          intro b hb
          have hb := srt_mem.mp hb
          have q := (mem_oth.mp (h.br p hm s e b hb).1).2.1
          exact fun z => q ((of_decide_eq_true z) ▸ hx)
    · subst h2
      rfl
  · -- all is come to
    have stp : ∀ {i k : Nat} {p : GP} {b : Br}, gs[i]? = some p → b ∈ p.bl → b.2.2 = k → Stp (tellB gs) none true i k := fun {i k p b} hp hb e => by
      refine ⟨tellP p, tell_pl hp, b, ?_, e⟩
      have hm := List.mem_of_getElem? hp
      cases es : p.s with
      | none =>
        rcases h.pl p hm with ⟨_, _, e3⟩ | ⟨sy, e2, _⟩
        · rw [e3] at hb; cases hb
        · rw [es] at e2; cases e2
      | some s =>
        rw [show tellP p = some (s, srt p.bl) by unfold tellP; rw [es]; rfl, brs_all]
        exact srt_mem.mpr hb
    have main : ∀ n k, k ≤ n → k < gs.length → Rc (tellB gs) none true [0] k := fun n => by
      induction n with
      | zero =>
        intro k h1 _
        have : k = 0 := by omega
        subst this
        exact .base (by simp)
      | succ n ih =>
        intro k h1 h2
        by_cases e : k = 0
        · subst e
          exact .base (by simp)
        · obtain ⟨i, hi, p, hp, b, hb, hbk⟩ := h.rch k (by omega) h2
          exact .step (ih i (by omega) (by omega)) (stp hp hb hbk)
    by_cases e : k < gs.length
    · exact main k k (Nat.le_refl _) e
    · rw [hlen] at hk
      by_cases e2 : needs gs = true
      · rw [if_pos e2] at hk
        have ek : k = gs.length := by omega
        obtain ⟨p, hp, hb⟩ := List.any_eq_true.mp e2
        obtain ⟨b, hb, hbk⟩ := List.any_eq_true.mp hb
        obtain ⟨i, hi⟩ := List.getElem?_of_mem hp
        have hil := (List.getElem?_eq_some_iff.mp hi).1
        exact .step (main i i (Nat.le_refl _) hil) (stp hi hb (by have := of_decide_eq_true hbk; omega))
      · rw [if_neg e2] at hk
        omega
end K3

set_option maxHeartbeats 200000
set_option Elab.async false
set_option linter.all false
set_option maxRecDepth 100000
set_option maxHeartbeats 4000000
namespace K3
open PySem PySem.Spec PyProof.Rows
open PySem.W (alike alikeAll dataLt dataLe AllAlike Sortable EachIs)
def leS (a b : Str) : Bool := !dataLt (.str b) (.str a)
def srtS (l : List Str) : List Str := l.mergeSort leS
theorem leS_trans (a b c : Str) (h1 : leS a b = true) (h2 : leS b c = true) : leS a c = true := by
  unfold leS at *
  simp only [Bool.not_eq_true'] at *
  unfold dataLt at *
  cases q : lexLt itemOrd (PySem.W.keyToks (.str c)) (PySem.W.keyToks (.str a)) with
  | false => rfl
  | true =>
    rcases lex_negTrans (O := itemOrd) _ (PySem.W.keyToks (.str b)) _ q with h | h
    · rw [h] at h2; cases h2
    · rw [h] at h1; cases h1
theorem leS_total (a b : Str) : (leS a b || leS b a) = true := by
  unfold leS dataLt
  cases q : lexLt itemOrd (PySem.W.keyToks (.str b)) (PySem.W.keyToks (.str a)) with
  | false => rfl
  | true =>
    cases q2 : lexLt itemOrd (PySem.W.keyToks (.str a)) (PySem.W.keyToks (.str b)) with
    | false => rfl
    | true =>
      have := lex_trans (O := itemOrd) _ _ _ q q2
      rw [lex_irrefl (O := itemOrd)] at this
      cases this
theorem srtS_perm (l : List Str) : (srtS l).Perm l := List.mergeSort_perm _ _
theorem srtS_wk {hs l : List Str} (hd : hs.Nodup) (h : l.Sublist hs) : WkOk hs (srtS l) := by
  refine ⟨by rw [(srtS_perm l).length_eq]; exact h.length_le, fun x hx => h.subset ((srtS_perm l).mem_iff.mp hx), fun i x y hx hy => ?_⟩
  rw [List.getElem?_map, Option.map_eq_some_iff] at hx hy
  obtain ⟨a, ha, rfl⟩ := hx
  obtain ⟨b, hb, rfl⟩ := hy
  obtain ⟨ia, ea⟩ := List.getElem?_eq_some_iff.mp ha
  obtain ⟨ib, eb⟩ := List.getElem?_eq_some_iff.mp hb
  have hs1 : (srtS l).Pairwise fun a b => leS a b = true := List.pairwise_mergeSort leS_trans leS_total l
  have hn : (srtS l).Nodup := (srtS_perm l).nodup_iff.mpr (h.nodup hd)
  have h1 := List.pairwise_iff_getElem.mp hs1 i (i + 1) ia ib (by omega)
  have h2 := List.pairwise_iff_getElem.mp hn i (i + 1) ia ib (by omega)
  rw [ea, eb] at h1 h2
  have h1 : dataLt (.str b) (.str a) = false := by unfold leS at h1; simpa using h1
  cases q : dataLt (.str a) (.str b) with
  | true => rfl
  | false =>
    have : PySem.W.keyToks (.str a) = PySem.W.keyToks (.str b) := lex_total (O := itemOrd) _ _ q h1
    have : (Sum.inr a.cps.toList : Int ⊕ List Nat) = Sum.inr b.cps.toList := by
      have := this
      simp [PySem.W.keyToks] at this
      rw [this]
    exact absurd (PySem.W.str_of_cps (Sum.inr.inj this)) h2
end K3

set_option maxHeartbeats 200000
set_option Elab.async false
set_option linter.all false
set_option maxRecDepth 100000
set_option maxHeartbeats 4000000
namespace K3
open PySem PySem.Spec PyProof.Rows L2 DL
variable {P : Program} {w : World} {K : PySem.W.Frag} {mg : Str → Option Value} {base : Heap} {f : Addr} {fd : FuncData} {k : Nat}
/-! ### the store has these places -/
structure StG (G : Gm) (ls : List (Addr × Addr)) (gs : List GP) : Prop where
  len : ls.length = gs.length
  pl : ∀ (i : Nat) (l : Addr × Addr) (p : GP), ls[i]? = some l → gs[i]? = some p → PlAt G l.1 l.2 p.g p.s p.bl
  ab : ∀ (i j : Nat) (l m : Addr × Addr), ls[i]? = some l → ls[j]? = some m → l.1 ≠ m.2
  bb : ∀ (i j : Nat) (l m : Addr × Addr), ls[i]? = some l → ls[j]? = some m → i ≠ j → l.2 ≠ m.2
def hds (ls : List (Addr × Addr)) : List PyData := ls.map fun l => hdD l.1
theorem StG.at' {G : Gm} {ls : List (Addr × Addr)} {gs : List GP} (h : StG G ls gs) {i : Nat} {p : GP} (hp : gs[i]? = some p) : ∃ l, ls[i]? = some l ∧ PlAt G l.1 l.2 p.g p.s p.bl := by
  have hi := (List.getElem?_eq_some_iff.mp hp).1
  have hi' : i < ls.length := by rw [h.len]; exact hi
  exact ⟨ls[i], List.getElem?_eq_getElem hi', h.pl i _ p (List.getElem?_eq_getElem hi') hp⟩
theorem StG.of_l {G : Gm} {ls : List (Addr × Addr)} {gs : List GP} (h : StG G ls gs) {i : Nat} {l : Addr × Addr} (hl : ls[i]? = some l) : ∃ p, gs[i]? = some p ∧ PlAt G l.1 l.2 p.g p.s p.bl := by
  have hi := (List.getElem?_eq_some_iff.mp hl).1
  have hi' : i < gs.length := by rw [← h.len]; exact hi
  exact ⟨gs[i], List.getElem?_eq_getElem hi', h.pl i l _ hl (List.getElem?_eq_getElem hi')⟩
/-- a branch more -/
theorem StG.put {G : Gm} {ls : List (Addr × Addr)} {gs : List GP} (h : StG G ls gs) {i : Nat} {l : Addr × Addr} {p : GP} (hl : ls[i]? = some l) (hp : gs[i]? = some p) (b : Br) : StG (gput G l.2 ((p.bl ++ [b]).map brD)) ls (gs.set i (p.put b)) := by
  refine ⟨by rw [List.length_set]; exact h.len, fun j m q hm hq => ?_, h.ab, h.bb⟩
  have hi := (List.getElem?_eq_some_iff.mp hp).1
  by_cases e : i = j
  · subst e
    rw [hl] at hm
    injection hm with hm
    subst hm
    rw [List.getElem?_set_self hi] at hq
    injection hq with hq
    subst hq
    have := h.pl i l p hl hp
    exact ⟨by rw [gput_ne (h.ab i i l l hl hl)]; exact this.pl, gput_same⟩
  · rw [List.getElem?_set_ne e] at hq
    have := h.pl j m q hm hq
    exact ⟨by rw [gput_ne (h.ab j i m l hm hl)]; exact this.pl, by rw [gput_ne (h.bb j i m l hm hl (Ne.symm e))]; exact this.br⟩
/-- a place more -/
theorem StG.new {G : Gm} {ls : List (Addr × Addr)} {gs : List GP} (h : StG G ls gs) {a b : Addr} {g' : List Str} {sy : Option Str} (ha : G a = none) (hb : G b = none) (hab : a ≠ b) : StG (gput (gput G b []) a [.list (g'.map PyData.str), woD sy, hdD b]) (ls ++ [(a, b)]) (gs ++ [⟨g', sy, []⟩]) := by
  have na : ∀ (i : Nat) (l : Addr × Addr), ls[i]? = some l → l.1 ≠ a ∧ l.1 ≠ b ∧ l.2 ≠ a ∧ l.2 ≠ b := fun i l hl => by
    obtain ⟨p, hp, q⟩ := h.of_l hl
    refine ⟨fun z => ?_, fun z => ?_, fun z => ?_, fun z => ?_⟩
    · have := q.pl; rw [z, ha] at this; cases this
    · have := q.pl; rw [z, hb] at this; cases this
    · have := q.br; rw [z, ha] at this; cases this
    · have := q.br; rw [z, hb] at this; cases this
  have cs : ∀ i l, (ls ++ [(a, b)])[i]? = some l → ls[i]? = some l ∨ (i = ls.length ∧ l = (a, b)) := fun i l hl => by
    rw [List.getElem?_append] at hl
    split at hl
    · exact .inl hl
    · rename_i hi
      by_cases e : i = ls.length
      · subst e
        simp at hl
        exact .inr ⟨rfl, hl.symm⟩
      · rw [List.getElem?_eq_none (by simp; omega)] at hl
        cases hl
  refine ⟨by simp [h.len], fun i l p hl hp => ?_, fun i j l m hl hm => ?_, fun i j l m hl hm hij => ?_⟩
  · rcases cs i l hl with hl | ⟨rfl, rfl⟩
    · have hi := (List.getElem?_eq_some_iff.mp hl).1
      rw [List.getElem?_append_left (by rw [← h.len]; exact hi)] at hp
      obtain ⟨n1, n2, n3, n4⟩ := na i l hl
      have q := h.pl i l p hl hp
      exact ⟨by rw [gput_ne n1, gput_ne n2]; exact q.pl, by rw [gput_ne n3, gput_ne n4]; exact q.br⟩
    · rw [h.len] at hp
      simp at hp
      subst hp
      exact ⟨gput_same, by rw [gput_ne (Ne.symm hab)]; exact gput_same⟩
  · rcases cs i l hl with hl | ⟨rfl, rfl⟩
    · rcases cs j m hm with hm | ⟨rfl, rfl⟩
      · exact h.ab i j l m hl hm
      · exact (na i l hl).2.1
    · rcases cs j m hm with hm | ⟨rfl, rfl⟩
      · exact Ne.symm (na j m hm).2.2.1
      · exact hab
  · rcases cs i l hl with hl | ⟨rfl, rfl⟩
    · rcases cs j m hm with hm | ⟨rfl, rfl⟩
      · exact h.bb i j l m hl hm hij
      · exact (na i l hl).2.2.2
    · rcases cs j m hm with hm | ⟨rfl, rfl⟩
      · exact Ne.symm (na j m hm).2.2.2
      · exact absurd rfl hij
theorem StG.one {G : Gm} {a b : Addr} {g' : List Str} {sy : Option Str} (ha : G a = none) (hb : G b = none) (hab : a ≠ b) : StG (gput (gput G b []) a [.list (g'.map PyData.str), woD sy, hdD b]) [(a, b)] [⟨g', sy, []⟩] :=
  StG.new (ls := []) (gs := []) ⟨rfl, fun i l p hl => by simp at hl, fun i j l m hl => by simp at hl, fun i j l m hl => by simp at hl⟩ ha hb hab
/-! ### which places are closed to these -/
def isCl (gone : List Str) (p : GP) : Bool := gone.all fun h => decide (h ∈ p.g)
def clo (gs : List GP) (gone : List Str) : List Nat := (List.range gs.length).filter fun i => match gs[i]? with
  | some p => isCl gone p
  | none => false
def retE : Stmt → Expr
  | .Return (some e) _ => e
  | _ => .Constant .none 0 ⟨0, 0, 0, 0⟩
def lcS (d : Scope) : Expr → Scope
  | .ListComp _ _ s _ => s
  | _ => d
theorem range_snoc {i : Nat} {q : Nat → Bool} : (List.range (i + 1)).filter q = (List.range i).filter q ++ (if q i = true then [i] else []) := by
  rw [List.range_succ, List.filter_append]
  congr 1
  cases h : q i <;> simp [h]
def cloS : Scope := { kind := .function, names := [(".0", .local), ("k", .local), ("place", .cell), ("gone", .cell)], isGenerator := false, isCoroutine := false }
def S_law_closed : SpS := fun G ds Φ => ∃ (ls : List (Addr × Addr)) (gs : List GP) (gone : List Str), ds = [.list (hds ls), .list (gone.map PyData.str)] ∧ StG G ls gs ∧ gs.length ≤ 64 ∧ gone.length ≤ 1000 ∧ (∀ p ∈ gs, p.g.length ≤ 1000) ∧ Φ (.list ((clo gs gone).map natD))
theorem ok__law_closed (T : Tx mg) (F : Fd K "_law_closed" s__law_closed [] [] f fd) : FnOk P w K mg base CX0 1 f fd ["places", "gone"] (spS K S_law_closed) := by
  refine fnS F sc__law_closed (fun G ds Φ h => by obtain ⟨_, _, _, rfl, _⟩ := h; rfl) (fun B cdv A outer s H E G ds Φ hr hp hG hS => ?_)
  obtain ⟨ls, gs, gone, rfl, hst, h64, hgl, hpl, hΦ⟩ := hS
  have nd := sc__law_closed.nd
  refine ds_last (ds_ret (de_dl (dl_lcIf (g := gTup K 2 (gCons (gName 2) (gCons (gName 3) gNil))) [("k", 2), ("place", 3)] nd (pi_enum rfl T.enum pa_w) (blkOk_by (N := n__law_closed) (sc := defScope s__law_closed) (by decide +kernel)) (fun _ _ _ _ _ => pg_two 2 3 nd)
    (wi_enum (da_cons (de_nm 0 (da_nil ⟨_, rfl, ?_, fun i acc n => acc = ((List.range i).filter fun i => match gs[i]? with
      | some p => isCl gone p
      | none => false).map natD ∧ n = 0, ⟨rfl, rfl⟩, fun B' i y acc n hp' hy hac hI => ?_, fun acc n hac hI => ?_⟩)))))))
  · rw [enum_len]
    unfold hds
    rw [List.length_map, hst.len]
    omega
  · obtain ⟨rfl, rfl⟩ := hI
    obtain ⟨d, hd, rfl⟩ := enum_get hy
    unfold hds at hd
    rw [List.getElem?_map, Option.map_eq_some_iff] at hd
    obtain ⟨l, hl, rfl⟩ := hd
    obtain ⟨p, hp1, hp2⟩ := hst.of_l hl
    have hG' := hG.sub (X' := (bodyX P w K mg base n__law_closed "_law_closed" (defScope s__law_closed) f cdv A outer s H E)) hp' rfl
    refine wg_tup (wgs_cons (wg_name (wgs_cons (wg_name (wgs_nil ?_)))))
    intro s0 H0 C cl fp
    refine dt_cmp (op_eqNil hr.units) (de_dl (dl_filt [("hand", 4)] nd (pi_list pe_w) (blkOk_by (N := n__law_closed) (sc := cloS) (by decide +kernel)) (fun _ _ _ _ _ => pg_name (i := 4) nd rfl (Or.inl rfl))
      (wi_list (de_nm 1 ⟨_, rfl, ?_, notD p.g, id, fun B2 y hp2' hy => wg_name ?_, de_dl (dl_lst (da_nil ⟨by simp, rd_eqNil ⟨_, rfl, ?_⟩⟩))⟩))))
    · rw [List.length_map]; omega
    · obtain ⟨z, hz, rfl⟩ := List.mem_map.mp hy
      intro s1 H1 C1 cl1 fp1
      have hG2 := hG'.sub (X' := (bodyX P w K mg base n__law_closed "_law_closed" (defScope s__law_closed) f cdv A outer s H E)) hp2' rfl
      refine dt_cmp op_notIn_seq (de_nm 4 (de_ix ix_list (de_nm 3 (de_int (rd_hIx hG2 hp2.pl (z := .list (p.g.map PyData.str)) rfl (rd_niStrL ⟨_, rfl, rfl, rfl, fun _ s2 H2 C2 cl2 fp2 => ?_⟩))))))
      exact de_nm 4 ⟨rfl, rfl⟩
    · rw [List.map_id, filter_not]
      have e1 : ((gone.filter fun x => !decide (x ∈ p.g)).map PyData.str).isEmpty = isCl gone p := by
        unfold isCl
        rw [List.isEmpty_map]
        cases hq : gone.all fun h => decide (h ∈ p.g) with
        | true =>
          rw [List.isEmpty_iff, List.filter_eq_nil_iff]
          intro x hx
          have := List.all_eq_true.mp hq x hx
          simpa using this
        | false =>
          rw [List.isEmpty_eq_false_iff]
          intro z
          rw [List.filter_eq_nil_iff] at z
          have : gone.all (fun h => decide (h ∈ p.g)) = true := List.all_eq_true.mpr fun x hx => by simpa using z x hx
          rw [hq] at this
          cases this
      rw [e1]
      have e2 : (match gs[i]? with
        | some p => isCl gone p
        | none => false) = isCl gone p := by rw [hp1]
      cases hc : isCl gone p with
      | true =>
        refine iteT fun s3 H3 C3 cl3 fp3 => de_nm 2 ⟨?_, rfl⟩
        rw [range_snoc, e2, hc, if_pos rfl, List.map_append]
        rfl
      | false =>
        refine iteF ⟨?_, rfl⟩
        rw [range_snoc, e2, hc, if_neg (by decide), List.append_nil]
  · obtain ⟨rfl, rfl⟩ := hI
    rw [enum_len] at *
    have : (hds ls).length = gs.length := by unfold hds; rw [List.length_map]; exact hst.len
    rw [this]
    exact hΦ
end K3

set_option maxHeartbeats 200000
set_option Elab.async false
set_option linter.all false
set_option maxRecDepth 100000
set_option maxHeartbeats 4000000
namespace K3
open PySem PySem.Spec PyProof.Rows L2 DL
variable {P : Program} {w : World} {K : PySem.W.Frag} {mg : Str → Option Value} {base : Heap} {f : Addr} {fd : FuncData} {k : Nat}
theorem nm_ne_flt {s : Str} (h : IsNm s) : s ≠ flt := fun z => by
  have h1 := h.cs 33 (by rw [z]; decide)
  omega
/-- what is not great -/
structure GrO (hs : List Str) (gs : List GP) : Prop where
  sub : ∀ p ∈ gs, ∀ x ∈ p.g, x ∈ hs
  gl : ∀ p ∈ gs, p.g.length ≤ 6 + gs.length
  bl : ∀ p ∈ gs, p.bl.length ≤ 6
  tg : ∀ p ∈ gs, ∀ b ∈ p.bl, b.2.2 < gs.length
def hdI (ls : List (Addr × Addr)) (j : Nat) : PyData := match ls[j]? with
  | some l => hdD l.1
  | none => .none
theorem hdI_at {ls : List (Addr × Addr)} {j : Nat} {l : Addr × Addr} (h : ls[j]? = some l) : hdI ls j = hdD l.1 := by unfold hdI; rw [h]
theorem hdI_flat (ls : List (Addr × Addr)) (js : List Nat) : (js.map (hdI ls)).all flat1 = true := by
  rw [List.all_map, List.all_eq_true]
  intro j _
  show flat1 (hdI ls j) = true
  unfold hdI
  cases ls[j]? <;> rfl
theorem hds_get {ls : List (Addr × Addr)} {i : Nat} {y : PyData} (h : (hds ls)[i]? = some y) : ∃ l, ls[i]? = some l ∧ y = hdD l.1 := by
  unfold hds at h
  rw [List.getElem?_map, Option.map_eq_some_iff] at h
  obtain ⟨l, h1, h2⟩ := h
  exact ⟨l, h1, h2.symm⟩
theorem hds_len {ls : List (Addr × Addr)} : (hds ls).length = ls.length := by unfold hds; rw [List.length_map]
/-- a place that may grow -/
def okG (gs : List GP) (j : Nat) : Bool := match gs[j]? with
  | some p => p.s.isSome && decide (p.bl.length < 6)
  | none => false
theorem isNone_wo (s : Option Str) : isNone (woD s) = !s.isSome := by cases s <;> rfl
def S_law_grown : SpG := fun n G ds Φ => ∃ (hs ws st : List Str) (many : Nat), ds = [.list (hs.map PyData.str), .list (ws.map PyData.str), .list (st.map PyData.str), natD many] ∧
  hs.length ≤ 6 ∧ hs.Nodup ∧ 1 ≤ st.length ∧ st.length ≤ 6 ∧ (∀ x ∈ st, IsNm x) ∧ 1 ≤ many ∧ many ≤ 39 ∧ n + 5000 < 1099511627776 ∧
  ∀ n' ls gs G', n' ≤ n + 2000 → Gr hs ws gs → GrO hs gs → StG G' ls gs → 1 ≤ gs.length → gs.length ≤ many → Φ (.list (hds ls)) n' G'
def envG (n : Nat) (hs ws st : List Str) (many : Nat) (ls : List (Addr × Addr)) (c6 c7 c8 : Option PyData) : St' :=
  ⟨n, [some .pot, some (.d (.list (hs.map PyData.str))), some (.d (.list (ws.map PyData.str))), some (.d (.list (st.map PyData.str))), some (.d (natD many)), some (.own (hds ls)), c6.map C.d, c7.map C.d, c8.map C.d]⟩
theorem envG_own {n : Nat} {hs ws st : List Str} {many : Nat} {ls : List (Addr × Addr)} {c6 c7 c8 : Option PyData} : onlyOwn 5 (envG n hs ws st many ls c6 c7 c8).s 0 = true := by
  show (5 == 5 && onlyOwn 5 [c6.map C.d, c7.map C.d, c8.map C.d] 6) = true
  rw [onlyOwn_md, onlyOwn_md, onlyOwn_md]
  rfl
theorem ext_trans {G G' G'' : Gm} (h : Ext G G') (h' : Ext G' G'') : Ext G G'' := fun b z => h' b (h b z)
theorem sub_new {hs gone g' : List Str} {sy : Option Str} (h : NewP hs gone g' sy) (hg : ∀ x ∈ gone, x ∈ hs) : ∀ x ∈ g', x ∈ hs := by
  rcases h with ⟨_, e⟩ | ⟨e, _⟩
  · rw [e]; exact fun _ z => z
  · rw [e]; exact hg
theorem len_new {hs gone g' : List Str} {sy : Option Str} (h : NewP hs gone g' sy) (h6 : hs.length ≤ 6) {m : Nat} (hg : gone.length ≤ 6 + m) : g'.length ≤ 6 + m := by
  rcases h with ⟨_, e⟩ | ⟨e, _⟩
  · rw [e]; omega
  · rw [e]; exact hg
theorem GrO.first {hs : List Str} {g' : List Str} {sy : Option Str} (h : NewP hs [] g' sy) (h6 : hs.length ≤ 6) : GrO hs [⟨g', sy, []⟩] := by
  refine ⟨fun p hp => ?_, fun p hp => ?_, fun p hp => ?_, fun p hp b hb => ?_⟩
  all_goals simp at hp; subst hp
  · exact sub_new h (by simp)
  · exact len_new h h6 (by simp)
  · exact Nat.zero_le _
  · cases hb
theorem GrO.grow {hs : List Str} {gs : List GP} {i : Nat} {p : GP} {b : Br} {gone g' : List Str} {sy : Option Str} (h : GrO hs gs) (hp : gs[i]? = some p) (hl : p.bl.length < 6) (hb : b.2.2 = gs.length) (hn : NewP hs gone g' sy) (h6 : hs.length ≤ 6) (hg : ∀ x ∈ gone, x ∈ hs) (hgl : gone.length ≤ p.g.length + 1) : GrO hs (gs.set i (p.put b) ++ [⟨g', sy, []⟩]) := by
  have hm := List.mem_of_getElem? hp
  have hll : (gs.set i (p.put b) ++ [(⟨g', sy, []⟩ : GP)]).length = gs.length + 1 := by simp
  have cs : ∀ {x : GP}, x ∈ gs.set i (p.put b) ++ [⟨g', sy, []⟩] → x ∈ gs ∨ x = p.put b ∨ x = ⟨g', sy, []⟩ := fun {x} hx => by
    rcases List.mem_append.mp hx with hx | hx
    · rcases set_mem hx with h | h
      · exact .inr (.inl h)
      · exact .inl h
    · simp at hx
      exact .inr (.inr hx)
  have hpg := h.gl p hm
  refine ⟨fun x hx => ?_, fun x hx => ?_, fun x hx => ?_, fun x hx c hc => ?_⟩
  · rcases cs hx with hx | rfl | rfl
    · exact h.sub x hx
    · exact h.sub p hm
    · exact sub_new hn hg
  · rw [hll]
    rcases cs hx with hx | rfl | rfl
    · have := h.gl x hx; omega
    · show p.g.length ≤ _; omega
    · have := len_new hn h6 (m := gs.length + 1) (by omega)
      exact this
  · rcases cs hx with hx | rfl | rfl
    · exact h.bl x hx
    · show (p.bl ++ [b]).length ≤ 6
      rw [List.length_append]
      show p.bl.length + 1 ≤ 6
      omega
    · exact Nat.zero_le _
  · rw [hll]
    rcases cs hx with hx | rfl | rfl
    · have := h.tg x hx c hc; omega
    · rcases List.mem_append.mp hc with hc | hc
      · have := h.tg p hm c hc; omega
      · simp at hc; subst hc; omega
    · cases hc
theorem newq {hs gone g' : List Str} {sy : Option Str} (h : NewP hs gone g' sy) {pg : List Str} {fw : Prop} {ps : Option Str} (h1 : ∀ x ∈ pg, x ∈ gone) (h2 : fw → ∀ s, ps = some s → s ∈ gone) :
    (sy = none ∧ g' = hs) ∨ ((∀ x ∈ pg, x ∈ g') ∧ (fw → ∀ s, ps = some s → s ∈ g') ∧ 2 ≤ (liv hs g').length ∧ ∃ s, sy = some s ∧ s ∈ liv hs g') := by
  rcases h with ⟨a, b⟩ | ⟨a, b, c⟩
  · exact .inl ⟨a, b⟩
  · subst a
    exact .inr ⟨h1, h2, b, c⟩
def elB : Stmt → List Stmt
  | .If _ _ b _ => b
  | _ => []
theorem ok__law_grown (T : Tx mg) (GT : Fn P w K mg base "_law_take" 1 ["pot", "many"] (spP K S_law_take)) (GN : Fn P w K mg base "_law_new_place" 2 ["pot", "hands", "gone"] (spG K S_law_new_place)) (GL : Fn P w K mg base "_law_lacks" 1 ["place", "weak"] (spS K S_law_lacks))
    (GF : Fn P w K mg base "_law_put_fault" 2 ["pot", "hands", "place", "then"] (spG K S_law_put_fault)) (GB : Fn P w K mg base "_law_put_branch" 4 ["pot", "hands", "stock", "place", "then"] (spG K S_law_put_branch))
    (F : Fd K "_law_grown" s__law_grown [] [] f fd) : FnOk P w K mg base CX0 5 f fd ["pot", "hands", "weak", "stock", "many"] (spG K S_law_grown) := by
  refine fnG F sc__law_grown (fun n G ds Φ h => by obtain ⟨_, _, _, _, rfl, _⟩ := h; rfl) (fun B cdv A outer s H E n G ds Φ hr hp hS => ?_)
  obtain ⟨hs, ws, st, many, rfl, h6, hnd, hs1, hs6, hst, hm1, hm2, hn, hΦ⟩ := hS
  have nd := sc__law_grown.nd
  refine sss_cons (sss_setO 5 (sl_one (se_call (k' := 4) 0 GN hr fun B' hp' hG => ?_)) nd)
  refine da_cons (de_nm 1 (da_cons (de_dl (dl_lst (da_nil ⟨by simp, da_nil ⟨hs, [], rfl, h6, ?_, fun n' a b g' sy hn' hnew ha hb hab => ?_⟩⟩)))))
  · show n + 10 < _
    omega
  have hn' : n' ≤ n + 2 := hn'
  refine sss_cons (sss_for [6] (pi_range2 rfl T.range pa_w) (pg_name (i := 6) nd rfl (.inl rfl)) fun B' hp' hG => wik_rng2 (da_cons (de_int (da_cons (de_nm 4 (da_nil ⟨_, _, rfl, ?_, ?_⟩))))))
  · omega
  have xl : (rng 1 ((many : Int) - 1).toNat).length = many - 1 := by rw [rng_len]; omega
  refine ⟨fun i δ G2 => ∃ n2 ls gs c6 c7 c8, n2 ≤ n + 2 + 30 * i ∧ δ = envG n2 hs ws st many ls c6 c7 c8 ∧ Gr hs ws gs ∧ GrO hs gs ∧ StG G2 ls gs ∧ gs.length = i + 1 ∧ Ext G G2, ⟨n', [(a, b)], [⟨g', sy, []⟩], none, none, none, by omega, rfl, Gr.first hnew, GrO.first hnew h6, StG.one ha hb hab, rfl, ext_new⟩, fun i y δ G2 hy hI => ?_, fun δ G2 hI => ?_⟩
  · obtain ⟨n2, ls, gs, c6, c7, c8, hn2, rfl, hgr, hgo, hsg, hgl, hext⟩ := hI
    obtain ⟨hi, rfl⟩ := rng_get hy
    have hi : i < 39 := by omega
    have hll : ls.length = i + 1 := by rw [hsg.len, hgl]
    intro B' hp' hG
    refine wg_name ?_
    -- some
    refine sss_ds fun B' hp' hG => ds_setLcW 7 [("place", 8)] nd (pi_list pe_w) (blkOk_by (N := n__law_grown) (sc := defScope s__law_grown) (by decide +kernel)) (fun _ _ _ _ _ => pg_name (i := 8) nd rfl (Or.inl rfl))
      (wl_peek 5 (xs := hds ls) (wl_lcIf _ (wi_list (de_nm 5 ⟨_, rfl, ?_, fun i acc m => acc = ((List.range i).filter (okG gs)).map (hdI ls) ∧ m = n2, ⟨rfl, rfl⟩, fun B' i y acc m hp' hy hac hI => ?_, fun acc m hac hI => ?_⟩))) rfl (envG_own (n := n2) (hs := hs) (ws := ws) (st := st) (many := many) (ls := ls) (c6 := some (PyData.int (1 + (i : Nat)))) (c7 := c7) (c8 := c8)))
    · rw [hds_len]; omega
    · obtain ⟨rfl, rfl⟩ := hI
      obtain ⟨l, hl, rfl⟩ := hds_get hy
      obtain ⟨p, hp1, hp2⟩ := hsg.of_l hl
      have hG' := hG.sub (X' := (bodyX P w K mg base n__law_grown "_law_grown" (defScope s__law_grown) f cdv A outer s H E)) hp' rfl
      refine wg_name ?_
      intro s0 H0 C cl fp
      have e0 : okG gs i = (p.s.isSome && decide (p.bl.length < 6)) := by unfold okG; rw [hp1]
      refine dt_pw (dw_and (dt_cmp op_notN (de_ix ix_list (de_nm 8 (de_int (rd_hIx hG' hp2.pl (z := woD p.s) rfl (de_non (rd_notN ⟨_, rfl, ?_⟩))))))))
      rw [isNone_wo, Bool.not_not]
      cases h1 : p.s.isSome with
      | false =>
        refine iteF (iteF ⟨?_, rfl⟩)
        rw [range_snoc, e0, h1, Bool.false_and, if_neg (by decide), List.append_nil]
      | true =>
        refine iteT (dw_and1 (dt_cmp op_lt (de_callB call_len T.len boot_len (da_cons (de_ix ix_list (de_nm 8 (de_int (rd_hIx hG' hp2.pl (z := hdD l.2) rfl (da_nil (rc_hLen rfl hG' hp2.br (de_int (rd_B0 ⟨_, rfl, ?_⟩))))))))))))
        rw [List.length_map]
        by_cases h2 : p.bl.length < 6
        · rw [decide_eq_true (by omega)]
          refine iteT fun s1 H1 C1 cl1 fp1 => de_nm 8 ⟨?_, rfl⟩
          rw [range_snoc, e0, h1, decide_eq_true h2, Bool.true_and, if_pos rfl, List.map_append]
          simp [hdI_at hl]
        · rw [decide_eq_false (by omega)]
          refine iteF ⟨?_, rfl⟩
          rw [range_snoc, e0, h1, decide_eq_false h2, Bool.true_and, if_neg (by decide), List.append_nil]
    · obtain ⟨rfl, rfl⟩ := hI
      rw [hds_len, hll] at *
      refine ⟨hdI_flat _ _, rfl, ?_⟩
      generalize hjs : (List.range (i + 1)).filter (okG gs) = js
      have hjs1 : ∀ j ∈ js, okG gs j = true := fun j hj => by rw [← hjs] at hj; exact (List.mem_filter.mp hj).2
      have hjl : js.length ≤ i + 1 := by
        rw [← hjs]
        exact Nat.le_trans (List.length_filter_le _ _) (by simp)
      -- if some == []
      refine sss_cons (sss_if fun B' hp' hG => dt_cmp (op_eqNil hr.units) (de_nm 7 (de_dl (dl_lst (da_nil ⟨by simp, rd_eqNil ⟨_, rfl, ?_⟩⟩)))))
      rw [List.isEmpty_map]
      cases hje : js.isEmpty with
      | true =>
        refine iteT (sss_freeze 5 (xs := hds ls) (sss_one (sss_ret (se_de fun B' hp' hG => de_nm 5 ⟨hext, ?_⟩))))
        exact hΦ m ls gs G2 (by omega) hgr hgo hsg (by omega) (by omega)
      | false =>
        refine iteF (sss_nil ?_)
        have hjp : 0 < js.length := by
          cases js with
          | nil => cases hje
          | cons _ _ => simp
        -- place = some[..]
        refine sss_ds fun B' hp' hG => ds_set 8 ?_ nd
        refine de_ix ix_list (de_nm 7 (de_fP (k' := 4) 0 GT hr (da_cons (de_callB call_len T.len boot_len (da_cons (de_nm 7 (da_nil (rc_lenL rfl (da_nil ⟨_, rfl, ?_, ?_, ?_, fun d g0 g1 => ?_⟩)))))))))
        · rw [List.length_map]; omega
        · rw [List.length_map]; omega
        · show m < _
          omega
        rw [List.length_map] at g1
        have hlt : d.toNat < js.length := by omega
        have hjm := hjs1 _ (List.getElem_mem hlt)
        generalize hj : js[d.toNat] = j at hjm
        refine rd_ixL (z := hdI ls j) (by rw [atI_nn g0, List.getElem?_map, List.getElem?_eq_getElem hlt, hj]; rfl) ?_
        obtain ⟨p, hpj, hps, hpl⟩ : ∃ p, gs[j]? = some p ∧ p.s.isSome = true ∧ p.bl.length < 6 := by
          unfold okG at hjm
          cases e : gs[j]? with
          | none => rw [e] at hjm; cases hjm
          | some p =>
            rw [e] at hjm
            have hjm : (p.s.isSome && decide (p.bl.length < 6)) = true := hjm
            rw [Bool.and_eq_true] at hjm
            exact ⟨p, rfl, hjm.1, of_decide_eq_true hjm.2⟩
        obtain ⟨l, hl, hla⟩ := hsg.at' hpj
        rw [hdI_at hl]
        obtain ⟨sy, hsy⟩ := Option.isSome_iff_exists.mp hps
        have hpm := List.mem_of_getElem? hpj
        have hpne : p.s ≠ none := by rw [hsy]; exact fun z => by cases z
        have hliv : sy ∈ liv hs p.g ∧ 2 ≤ (liv hs p.g).length := by
          rcases hgr.pl p hpm with ⟨e, _⟩ | ⟨s', e, q⟩
          · exact absurd e hpne
          · rw [hsy] at e; injection e with e; subst e; exact q
        have hon := oth_ne (sy := sy) hnd hliv.2
        have hla' : PlAt G2 l.1 l.2 p.g (some sy) p.bl := hsy ▸ hla
        have hpg := hgo.gl p hpm
        have hk1 : (1 + (i : Nat) : Int) = ((gs.length : Nat) : Int) := by rw [hgl]; push_cast; omega
        -- what the last statement leaves
        have fin : ∀ (n3 : Nat) (b : Br) (gone g' : List Str) (sy' : Option Str) (a' b' : Addr) (c7 c8 : Option PyData), n3 ≤ n + 2 + 30 * (i + 1) → BrNew hs ws p b → b.2.2 = gs.length → NewP hs gone g' sy' → (∀ x ∈ gone, x ∈ hs) → gone.length ≤ p.g.length + 1 → (∀ x ∈ p.g, x ∈ gone) → (b.2.1 = flt → sy ∈ gone) →
            gput G2 l.2 ((p.bl ++ [b]).map brD) a' = none → gput G2 l.2 ((p.bl ++ [b]).map brD) b' = none → a' ≠ b' →
            ∃ n2 ls' gs d6 d7 d8, n2 ≤ n + 2 + 30 * (i + 1) ∧ envG n3 hs ws st many (ls ++ [(a', b')]) (some (.int (1 + (i : Nat)))) c7 c8 = envG n2 hs ws st many ls' d6 d7 d8 ∧ Gr hs ws gs ∧ GrO hs gs ∧ StG (gput (gput (gput G2 l.2 ((p.bl ++ [b]).map brD)) b' []) a' [.list (g'.map PyData.str), woD sy', hdD b']) ls' gs ∧ gs.length = i + 1 + 1 ∧ Ext G (gput (gput (gput G2 l.2 ((p.bl ++ [b]).map brD)) b' []) a' [.list (g'.map PyData.str), woD sy', hdD b']) := fun n3 b gone g' sy' a' b' c7 c8 hn3 hb hbk hnp hgone hgl' hsub hfl ha hb' hab => by
          refine ⟨n3, ls ++ [(a', b')], gs.set j (p.put b) ++ [⟨g', sy', []⟩], _, _, _, hn3, rfl, (Gr.grow hgr hpj hpne hb hbk hgo.tg (newq hnp hsub (fun e s es => by rw [hsy] at es; injection es with es; subst es; exact hfl e)) rfl (hgo.sub p hpm)).1, GrO.grow hgo hpj hpl hbk hnp h6 hgone hgl', StG.new (StG.put hsg hl hpj b) ha hb' hab, by simp [hgl], ext_trans hext (ext_trans ext_put ext_new)⟩
        have hlive : ∀ x ∈ p.g ++ [sy], x ∈ hs := fun x hx => by
          rcases List.mem_append.mp hx with hx | hx
          · exact hgo.sub p hpm x hx
          · simp at hx; subst hx; exact (mem_liv.mp hliv.1).1
        -- a branch with a word
        have word : ∀ n3 ≤ m + 2, SSs B (bodyX P w K mg base n__law_grown "_law_grown" (defScope s__law_grown) f cdv A outer s H E) (wSs (bodyX P w K mg base n__law_grown "_law_grown" (defScope s__law_grown) f cdv A outer s H E) (elB ((forB ((defBody s__law_grown).getD 1 (.Pass ⟨0, 0, 0, 0⟩))).getD 3 (.Pass ⟨0, 0, 0, 0⟩)))) G2 (envG n3 hs ws st many ls (some (.int (1 + (i : Nat)))) (some (.list (js.map (hdI ls)))) (some (hdD l.1)))
            (fun δ G2 => ∃ n2 ls gs c6 c7 c8, n2 ≤ n + 2 + 30 * (i + 1) ∧ δ = envG n2 hs ws st many ls c6 c7 c8 ∧ Gr hs ws gs ∧ GrO hs gs ∧ StG G2 ls gs ∧ gs.length = i + 1 + 1 ∧ Ext G G2) (fun x δ G' => Ext G G' ∧ Φ x δ.n G') := fun n3 hn3 => by
          refine sss_cons (sss_expr (se_call (k' := 4) 0 GB hr fun B' hp' hG => ?_))
          refine da_cons (de_nm 1 (da_cons (de_nm 3 (da_cons (de_nm 8 (da_cons (de_nm 6 (da_nil ⟨hs, st, p.g, p.bl, l.1, l.2, sy, gs.length, ?_, hla', h6, hs1, hs6, hst, by omega, hon, ?_, fun h wd hh hw hu => ?_⟩))))))))
          · rw [hk1]; rfl
          · show n3 + 300 < _
            omega
          have hb : BrNew hs ws p (h, wd, gs.length) := ⟨fun s' es => by rw [hsy] at es; injection es with es; subst es; exact hh, fun _ _ => .inl hw, hu, fun e => absurd e (nm_ne_flt hw)⟩
          have hsg' := StG.put hsg hl hpj (h, wd, gs.length)
          obtain ⟨l2, hl2, hla2⟩ := hsg'.at' (i := j) (p := p.put (h, wd, gs.length)) (by rw [List.getElem?_set_self (List.getElem?_eq_some_iff.mp hpj).1])
          rw [hl] at hl2
          injection hl2 with hl2
          subst hl2
          refine sss_one (sss_appendOwn 5 (xs := hds ls) (se_call (k' := 4) 0 GN hr fun B' hp' hG => ?_))
          refine da_cons (de_nm 1 (da_cons (de_ix ix_list (de_nm 8 (de_int (rd_hIx hG hla2.pl (z := .list (p.g.map PyData.str)) rfl (da_nil ⟨hs, p.g, rfl, h6, ?_, fun n4 a' b' g' sy' hn4 hnew ha hb' hab => ⟨hds ls, rfl, ?_, ?_⟩⟩)))))))
          · show n3 + 14 + 10 < _
            omega
          · rw [hds_len, hsg.len, hgl]; omega
          · have hn4 : n4 ≤ n3 + 14 + 2 := hn4
            have := fin n4 (h, wd, gs.length) p.g g' sy' a' b' (some (.list (js.map (hdI ls)))) (some (hdD l.1)) (by omega) hb rfl hnew (hgo.sub p hpm) (by omega) (fun _ z => z) (fun e => absurd e (nm_ne_flt hw)) ha hb' hab
            have e : envG n4 hs ws st many (ls ++ [(a', b')]) (some (.int (1 + (i : Nat)))) (some (.list (js.map (hdI ls)))) (some (hdD l.1)) = (⟨n4, (envG n3 hs ws st many ls (some (.int (1 + (i : Nat)))) (some (.list (js.map (hdI ls)))) (some (hdD l.1))).s⟩ : St').put 5 (.own (hds ls ++ [hdD a'])) := by
              unfold envG hds
              rw [List.map_append]
              rfl
            rw [e] at this
            exact this
        refine sss_one (sss_if fun B' hp' hG => ?_)
        refine dt_pw (dw_and (dt_val (de_fS (k' := 4) hG GL hr (da_cons (de_nm 8 (da_cons (de_nm 2 (da_nil ⟨l.1, l.2, p.g, sy, p.bl, ws, rfl, hla', by omega, _, rfl, ?_⟩))))))))
        cases hlk : (decide (sy ∈ ws) && !p.bl.any fun x => decide (x.2.1 = flt)) with
        | false => exact iteF (word (m + 1) (by omega))
        | true =>
          refine iteT (dw_and1 (dt_cmp op_eq (de_fP (k' := 4) 0 GT hr (da_cons (de_int (da_nil ⟨2, rfl, by decide, by decide, ?_, fun d2 q0 q1 => de_int (rd_eqI ⟨_, rfl, ?_⟩)⟩))))))
          · show m + 1 < _
            omega
          by_cases hz : d2 = 0
          · rw [decide_eq_true hz]
            refine iteT ?_
            rw [Bool.and_eq_true] at hlk
            have hsw : sy ∈ ws := of_decide_eq_true hlk.1
            have hnf : ∀ x ∈ p.bl, x.2.1 ≠ flt := fun x hx e => by
              have h1 : (p.bl.any fun x => decide (x.2.1 = flt)) = true := List.any_eq_true.mpr ⟨x, hx, decide_eq_true e⟩
              rw [h1] at hlk
              cases hlk.2
            refine sss_cons (sss_expr (se_call (k' := 4) 0 GF hr fun B' hp' hG => ?_))
            refine da_cons (de_nm 1 (da_cons (de_nm 8 (da_cons (de_nm 6 (da_nil ⟨hs, p.g, p.bl, l.1, l.2, sy, gs.length, ?_, hla', h6, by omega, hon, ?_, fun h hh => ?_⟩))))))
            · rw [hk1]; rfl
            · show m + 2 + 300 < _
              omega
            have hb : BrNew hs ws p (h, flt, gs.length) := ⟨fun s' es => by rw [hsy] at es; injection es with es; subst es; exact hh, fun s' es => by rw [hsy] at es; injection es with es; subst es; exact .inr ⟨rfl, hsw⟩, fun x hx _ => hnf x hx, fun _ => hnf⟩
            have hsg' := StG.put hsg hl hpj (h, flt, gs.length)
            obtain ⟨l2, hl2, hla2⟩ := hsg'.at' (i := j) (p := p.put (h, flt, gs.length)) (by rw [List.getElem?_set_self (List.getElem?_eq_some_iff.mp hpj).1])
            rw [hl] at hl2
            injection hl2 with hl2
            subst hl2
            refine sss_one (sss_appendOwn 5 (xs := hds ls) (se_call (k' := 4) 0 GN hr fun B' hp' hG => ?_))
            refine da_cons (de_nm 1 (da_cons (de_dl (dl_cat (de_ix ix_list (de_nm 8 (de_int (rd_hIx hG hla2.pl (z := .list (p.g.map PyData.str)) rfl ⟨_, rfl, de_dl (dl_lst (da_cons (de_ix ix_list (de_nm 8 (de_int (rd_hIx hG hla2.pl (z := woD p.s) rfl (da_nil ⟨by simp, _, rfl, ?_, da_nil ⟨hs, p.g ++ [sy], ?_, h6, ?_, fun n4 a' b' g' sy' hn4 hnew ha hb' hab => ⟨hds ls, rfl, ?_, ?_⟩⟩⟩)))))))⟩))))))))
            · show (p.g.map PyData.str).length + 1 ≤ 100000
              rw [List.length_map]
              omega
            · rw [hsy, List.map_append]; rfl
            · show m + 2 + 1 + 10 < _
              omega
            · rw [hds_len, hsg.len, hgl]; omega
            · have hn4 : n4 ≤ m + 2 + 1 + 2 := hn4
              have := fin n4 (h, flt, gs.length) (p.g ++ [sy]) g' sy' a' b' (some (.list (js.map (hdI ls)))) (some (hdD l.1)) (by omega) hb rfl hnew hlive (by simp) (fun _ z => List.mem_append_left _ z) (fun _ => by simp) ha hb' hab
              have e : envG n4 hs ws st many (ls ++ [(a', b')]) (some (.int (1 + (i : Nat)))) (some (.list (js.map (hdI ls)))) (some (hdD l.1)) = (⟨n4, (envG (m + 2 + 1) hs ws st many ls (some (.int (1 + (i : Nat)))) (some (.list (js.map (hdI ls)))) (some (hdD l.1))).s⟩ : St').put 5 (.own (hds ls ++ [hdD a'])) := by
                unfold envG hds
                rw [List.map_append]
                rfl
              rw [e] at this
              exact this
          · rw [decide_eq_false hz]
            exact iteF (word (m + 2) (by omega))
  · obtain ⟨n2, ls, gs, c6, c7, c8, hn2, rfl, hgr, hgo, hsg, hgl, hext⟩ := hI
    rw [xl] at hgl hn2
    refine sss_freeze 5 (xs := hds ls) (sss_one (sss_ret (se_de fun B' hp' hG => de_nm 5 ⟨hext, ?_⟩)))
    exact hΦ n2 ls gs G2 (by omega) hgr hgo hsg (by omega) (by omega)
end K3

set_option maxHeartbeats 200000
set_option Elab.async false
set_option linter.all false
set_option maxRecDepth 100000
set_option maxHeartbeats 4000000
namespace K3
open PySem PySem.Spec PyProof.Rows L2 DL
open PySem.W (alike alikeAll dataLt dataLe AllAlike Sortable EachIs)
variable {P : Program} {w : World} {K : PySem.W.Frag} {mg : Str → Option Value} {base : Heap} {f : Addr} {fd : FuncData} {k : Nat}
/-! ### what the board of the law asks -/
theorem sortD_strs (l : List Str) : sortD (l.map PyData.str) = (srtS l).map PyData.str := by
  have := List.map_mergeSort (r := leS) (s := dataLe false id) (f := PyData.str) (l := l) (fun a _ b _ => rfl)
  exact this.symm
theorem sortD_brs (l : List Br) : sortD (l.map brD) = (srt l).map brD := by
  have := List.map_mergeSort (r := leB) (s := dataLe false id) (f := brD) (l := l) (fun a _ b _ => rfl)
  exact this.symm
theorem noHs_strs : ∀ l : List Str, noHs (l.map PyData.str) = true
  | [] => rfl
  | _ :: l => noHs_strs l
theorem noHs_brs : ∀ l : List Br, noHs (l.map brD) = true
  | [] => rfl
  | _ :: l => noHs_brs l
def hasS (gs : List GP) (j : Nat) : Bool := match gs[j]? with
  | some p => p.s.isSome
  | none => false
/-- no word -/
def noW (bl : List Br) : Bool := bl.all fun b => decide (b.2.1 = flt)
theorem noW_len {bl : List Br} (h : noW bl = true) (hf : (bl.countP fun b => decide (b.2.1 = flt)) ≤ 1) : bl.length ≤ 1 := by
  have : (bl.countP fun b => decide (b.2.1 = flt)) = bl.length := List.countP_eq_length.mpr fun b hb => List.all_eq_true.mp h b hb
  omega
/-- the same but for branches -/
structure Like (gs gs2 : List GP) : Prop where
  len : gs2.length = gs.length
  at' : ∀ (j : Nat) (p : GP), gs2[j]? = some p → ∃ q, gs[j]? = some q ∧ p.g = q.g ∧ p.s = q.s
theorem Like.refl (gs : List GP) : Like gs gs := ⟨rfl, fun j p h => ⟨p, h, rfl, rfl⟩⟩
theorem Like.put {gs gs2 : List GP} (h : Like gs gs2) {j : Nat} {p : GP} (hp : gs2[j]? = some p) (b : Br) : Like gs (gs2.set j (p.put b)) := by
  refine ⟨by rw [List.length_set]; exact h.len, fun i q hq => ?_⟩
  by_cases e : j = i
  · subst e
    rw [List.getElem?_set_self (List.getElem?_eq_some_iff.mp hp).1] at hq
    injection hq with hq
    obtain ⟨r, h1, h2, h3⟩ := h.at' j p hp
    exact ⟨r, h1, by rw [← hq]; exact h2, by rw [← hq]; exact h3⟩
  · rw [List.getElem?_set_ne e] at hq
    exact h.at' i q hq
theorem hasS_like {gs gs2 : List GP} (h : Like gs gs2) {j : Nat} {p : GP} (hp : gs2[j]? = some p) : hasS gs j = p.s.isSome := by
  obtain ⟨q, h1, _, h3⟩ := h.at' j p hp
  unfold hasS
  rw [h1, h3]
theorem Like.sub {hs : List Str} {gs gs2 : List GP} (h : Like gs gs2) (o : GrO hs gs) : ∀ p ∈ gs2, (∀ x ∈ p.g, x ∈ hs) ∧ p.g.length ≤ 6 + gs.length := fun p hp => by
  obtain ⟨j, hj⟩ := List.getElem?_of_mem hp
  obtain ⟨q, h1, h2, _⟩ := h.at' j p hj
  have hm := List.mem_of_getElem? h1
  exact ⟨by rw [h2]; exact o.sub q hm, by rw [h2]; exact o.gl q hm⟩
theorem clo_mem {gs : List GP} {gone : List Str} {t : Nat} (h : t ∈ clo gs gone) : ∃ q, gs[t]? = some q ∧ ∀ x ∈ gone, x ∈ q.g := by
  unfold clo at h
  have h2 := (List.mem_filter.mp h).2
  cases e : gs[t]? with
  | none => rw [e] at h2; cases h2
  | some q =>
    rw [e] at h2
    refine ⟨q, rfl, fun x hx => ?_⟩
    have := List.all_eq_true.mp h2 x hx
    simpa using this
theorem clo_to {gs gs2 gs3 : List GP} {gone : List Str} {t : Nat} (h2 : Like gs gs2) (h3 : Like gs gs3) (h : t ∈ clo gs2 gone ++ [gs.length]) : t ≤ gs3.length ∧ ∀ q, gs3[t]? = some q → ∀ x ∈ gone, x ∈ q.g := by
  rcases List.mem_append.mp h with h | h
  · obtain ⟨q2, e2, hc⟩ := clo_mem h
    have hl := (List.getElem?_eq_some_iff.mp e2).1
    refine ⟨by rw [h3.len, ← h2.len]; omega, fun q hq x hx => ?_⟩
    obtain ⟨r2, a1, a2, _⟩ := h2.at' t q2 e2
    obtain ⟨r3, b1, b2, _⟩ := h3.at' t q hq
    rw [a1] at b1
    injection b1 with b1
    rw [b2, ← b1, ← a2]
    exact hc x hx
  · simp at h
    subst h
    refine ⟨by rw [h3.len]; omega, fun q hq => ?_⟩
    have := (List.getElem?_eq_some_iff.mp hq).1
    rw [h3.len] at this
    omega
theorem clo_len {gs : List GP} {gone : List Str} : (clo gs gone).length ≤ gs.length := by
  unfold clo
  exact Nat.le_trans (List.length_filter_le _ _) (by simp)
/-- how far the places are finished -/
def FinTo (ws : List Str) (gs : List GP) (done : List Nat) : Prop := ∀ (j : Nat) (p : GP), gs[j]? = some p → (j ∈ done → PFin ws p) ∧ (j ∉ done → p.bl.length ≤ 6)
theorem FinTo.put {ws : List Str} {gs : List GP} {done : List Nat} {j : Nat} {p' : GP} (h : FinTo ws gs done) (hf : PFin ws p') : FinTo ws (gs.set j p') (done ++ [j]) := fun i q hq => by
  by_cases e : j = i
  · subst e
    by_cases hl : j < gs.length
    · rw [List.getElem?_set_self hl] at hq
      injection hq with hq
      subst hq
      exact ⟨fun _ => hf, fun z => absurd (by simp) z⟩
    · rw [List.getElem?_eq_none (by rw [List.length_set]; omega)] at hq
      cases hq
  · rw [List.getElem?_set_ne e] at hq
    obtain ⟨h1, h2⟩ := h i q hq
    refine ⟨fun z => h1 ?_, fun z => h2 fun q => z (List.mem_append_left _ q)⟩
    rcases List.mem_append.mp z with z | z
    · exact z
    · simp at z
      exact absurd z.symm e
def lks (ws : List Str) (sy : Str) (bl : List Br) : Bool := decide (sy ∈ ws) && !bl.any fun x => decide (x.2.1 = flt)
theorem lks_word {ws : List Str} {sy : Str} {bl : List Br} {b : Br} (h : b.2.1 ≠ flt) : lks ws sy (bl ++ [b]) = lks ws sy bl := by
  unfold lks
  rw [List.any_append]
  simp [h]
theorem PFin.of {ws : List Str} {p : GP} {sy : Str} (hs : p.s = some sy) (hw : noW p.bl = false) (hl : p.bl.length ≤ 8) (hf : lks ws sy p.bl = false) : PFin ws p := by
  refine ⟨fun _ => ?_, hl, fun s' e hw' => ?_⟩
  · unfold noW at hw
    rw [List.all_eq_false] at hw
    obtain ⟨b, hb, h⟩ := hw
    exact ⟨b, hb, by simpa using h⟩
  · rw [hs] at e
    injection e with e
    subst e
    unfold lks at hf
    rw [decide_eq_true hw', Bool.true_and] at hf
    have : (p.bl.any fun x => decide (x.2.1 = flt)) = true := by simpa using hf
    obtain ⟨b, hb, h⟩ := List.any_eq_true.mp this
    exact ⟨b, hb, of_decide_eq_true h⟩
theorem PFin.none {ws : List Str} {p : GP} (hs : p.s = none) (hb : p.bl = []) : PFin ws p := ⟨fun z => absurd hs z, by rw [hb]; exact Nat.zero_le _, fun s e => by rw [hs] at e; cases e⟩
def wordB (b : Br) : Bool := !decide (b.2.1 = flt)
def wordK : PyData → Bool
  | .tuple (_ :: .str w :: _) => !decide (w = flt)
  | _ => false
theorem noW_filter {bl : List Br} : (((bl.map brD).filter wordK).map fun _ => PyData.int 1).isEmpty = noW bl := by
  rw [List.filter_map, List.isEmpty_map, List.isEmpty_map]
  unfold noW
  cases h : (bl.all fun b => decide (b.2.1 = flt)) with
  | true =>
    rw [List.isEmpty_iff, List.filter_eq_nil_iff]
    intro b hb
    have := List.all_eq_true.mp h b hb
    show ¬ (!decide (b.2.1 = flt)) = true
    rw [this]
    simp
  | false =>
    rw [List.isEmpty_eq_false_iff]
    intro z
    rw [List.filter_eq_nil_iff] at z
    have : (bl.all fun b => decide (b.2.1 = flt)) = true := List.all_eq_true.mpr fun b hb => by
      have := z b hb
      have : ¬ (!decide (b.2.1 = flt)) = true := this
      simpa using this
    rw [h] at this
    cases this
def pneed (m : Nat) (p : GP) : Bool := p.bl.any fun b => decide (b.2.2 = m)
theorem needs_eq (gs : List GP) : needs gs = gs.any (pneed gs.length) := rfl
def toK (m : Nat) : PyData → Bool
  | .tuple [_, _, .int t] => decide (t = (m : Int))
  | _ => false
theorem need_filter {bl : List Br} {m : Nat} : (((bl.map brD).filter (toK m)).map fun _ => PyData.int 1).isEmpty = !(bl.any fun b => decide (b.2.2 = m)) := by
  rw [List.filter_map, List.isEmpty_map, List.isEmpty_map]
  cases h : (bl.any fun b => decide (b.2.2 = m)) with
  | false =>
    rw [List.any_eq_false] at h
    show _ = true
    rw [List.isEmpty_iff, List.filter_eq_nil_iff]
    intro b hb z
    have z : decide (((b.2.2 : Nat) : Int) = (m : Int)) = true := z
    have := of_decide_eq_true z
    exact h b hb (decide_eq_true (by omega))
  | true =>
    obtain ⟨b, hb, e⟩ := List.any_eq_true.mp h
    show _ = false
    rw [List.isEmpty_eq_false_iff]
    intro z
    rw [List.filter_eq_nil_iff] at z
    have e := of_decide_eq_true e
    exact z b hb (show decide (((b.2.2 : Nat) : Int) = (m : Int)) = true from decide_eq_true (by omega))
theorem set_self {α : Type} {l : List α} {j : Nat} {p : α} (h : l[j]? = some p) : l.set j p = l := by
  apply List.ext_getElem?
  intro i
  by_cases e : j = i
  · subst e
    rw [List.getElem?_set_self (List.getElem?_eq_some_iff.mp h).1, h]
  · rw [List.getElem?_set_ne e]
theorem sub_take {hs l : List Str} {i : Nat} {h : Str} (hl : l.Sublist (hs.take i)) (hi : hs[i]? = some h) (b : Bool) : (if b = true then l ++ [h] else l).Sublist (hs.take (i + 1)) := by
  rw [take_snoc hi]
  cases b with
  | true => exact hl.append (List.Sublist.refl _)
  | false => exact hl.trans (List.sublist_append_left _ _)
end K3

set_option maxHeartbeats 200000
set_option Elab.async false
set_option linter.all false
set_option maxRecDepth 100000
set_option maxHeartbeats 4000000
namespace K3
open PySem PySem.Spec PyProof.Rows L2 DL
open PySem.W (alike alikeAll dataLt dataLe AllAlike Sortable EachIs)
variable {P : Program} {w : World} {K : PySem.W.Frag} {mg : Str → Option Value} {base : Heap} {f : Addr} {fd : FuncData} {k : Nat}
def G0 : Gm := fun _ => none
def S_law_board : SpP := fun n ds Φ => ∃ most : Nat, ds = [natD most] ∧ 1 ≤ most ∧ most ≤ 39 ∧ n + 20000 < 1099511627776 ∧ ∀ hs ws ps n', n' ≤ n + 12000 → BdOk hs ws ps → Φ (bdD hs ws ps) n'
def S_law_boardG : SpG := fun n G ds Φ => G = G0 ∧ S_law_board n ds fun x n' => ∀ G', Φ x n' G'
theorem spP_spG {S : SpP} {vs : List V} {H : Hp} {Q : VK} {E : XK} (h : spP K S vs H Q E) : spG K (fun n G ds Φ => G = G0 ∧ S n ds fun x n' => ∀ G', Φ x n' G') vs H Q E := by
  obtain ⟨F, p, vs', ds, n, Φ, rfl, e1, e2, e3, e4, e5, q⟩ := h
  refine ⟨F, p, vs', ds, n, G0, fun x n' _ => Φ x n', rfl, e1, e2, e3, e4, (fun a xs z => by cases z), ⟨rfl, ?_⟩, fun v x n' G' F' H' q1 q2 q3 q4 q5 q6 q7 q8 q9 => q v x n' F' H' q1 q2 q3 (fun b o h1 h2 => q4 b o h1 h2 rfl) q5 q8 q9⟩
  have : (fun (x : PyData) (n' : Nat) => ∀ G' : Gm, Φ x n') = Φ := by
    funext x n'
    exact propext ⟨fun h => h G0, fun h _ => h⟩
  show S n ds fun (x : PyData) (n' : Nat) => ∀ G' : Gm, Φ x n'
  rw [this]
  exact e5
def envB (n most : Nat) (hs ws st : List Str) (ls : List (Addr × Addr)) (c8 c10 c11 : Option PyData) : St' :=
  ⟨n, [some .pot, some (.d (natD most)), some (.d (.list (hs.map PyData.str))), some (.d (.list (ws.map PyData.str))), none, some (.d (.list (st.map PyData.str))), some (.d (.list (hds ls))), some (.d (natD ls.length)), c8.map C.d, none, c10.map C.d, c11.map C.d, none, none, none]⟩
abbrev XB (P : Program) (w : World) (K : PySem.W.Frag) (mg : Str → Option Value) (base : Heap) (f : Addr) (cdv : Value) (A : Around) (outer : List Env) (s : Shared) (H : Hp) (E : XK) : Cx := bodyX P w K mg base n__law_board "_law_board" (defScope s__law_board) f cdv A outer s H E
section
variable {B : B0} {cdv : Value} {A : Around} {outer : List Env} {s : Shared} {H : Hp} {E : XK}
/-- one place gets what it lacks -/
theorem board_turn (T : Tx mg) (GT : Fn P w K mg base "_law_take" 1 ["pot", "many"] (spP K S_law_take)) (GL : Fn P w K mg base "_law_lacks" 1 ["place", "weak"] (spS K S_law_lacks))
    (GF : Fn P w K mg base "_law_put_fault" 2 ["pot", "hands", "place", "then"] (spG K S_law_put_fault)) (GB : Fn P w K mg base "_law_put_branch" 4 ["pot", "hands", "stock", "place", "then"] (spG K S_law_put_branch)) (GC : Fn P w K mg base "_law_closed" 1 ["places", "gone"] (spS K S_law_closed))
    (hr : Room 5 (A.deeper (envOfC "_law_board" (defScope s__law_board) s.heap.objs.size f cdv)))
    {n most : Nat} {hs ws st : List Str} {ls : List (Addr × Addr)} {gs gs2 : List GP} {j : Nat} {p : GP} {l : Addr × Addr} {sy : Str} {c10 c11 : Option PyData} {G2 : Gm} {N : St' → Gm → Prop} {R : PyData → St' → Gm → Prop}
    (h6 : hs.length ≤ 6) (hnd : hs.Nodup) (hs1 : 1 ≤ st.length) (hs6 : st.length ≤ 6) (hst : ∀ x ∈ st, IsNm x) (hn : n + 2000 < 1099511627776) (hgr : Gr hs ws gs2) (ho : GrO hs gs) (hlk : Like gs gs2) (hg64 : gs.length ≤ 39) (hsg : StG G2 ls gs2)
    (hp : gs2[j]? = some p) (hl : ls[j]? = some l) (hsy : p.s = some sy) (hp6 : p.bl.length ≤ 6)
    (hN : ∀ (n' : Nat) (c10 c11 : Option PyData) (gs3 : List GP) (p3 : GP) (G3 : Gm), n' ≤ n + 250 → Gr hs ws gs3 → Like gs gs3 → StG G3 ls gs3 → gs3 = gs2.set j p3 → PFin ws p3 → Ext G2 G3 → N (envB n' most hs ws st ls (some (hdD l.1)) c10 c11) G3) :
    SSs B (XB P w K mg base f cdv A outer s H E) (wSs (XB P w K mg base f cdv A outer s H E) (forB ((defBody s__law_board).getD 5 (.Pass ⟨0, 0, 0, 0⟩)))) G2 (envB n most hs ws st ls (some (hdD l.1)) c10 c11) N R := by
  have nd := sc__law_board.nd
  have hla := hsg.pl j l p hl hp
  have hla' : PlAt G2 l.1 l.2 p.g (some sy) p.bl := hsy ▸ hla
  have hlen : ls.length = gs.length := by rw [hsg.len, hlk.len]
  have hsub := hlk.sub ho
  have hpm := List.mem_of_getElem? hp
  have hgl := (hsub p hpm).2
  have hliv : sy ∈ liv hs p.g ∧ 2 ≤ (liv hs p.g).length := by
    rcases hgr.pl p hpm with ⟨e, _⟩ | ⟨s', e, q⟩
    · rw [hsy] at e; cases e
    · rw [hsy] at e; injection e with e; subst e; exact q
  have hon := oth_ne (sy := sy) hnd hliv.2
  -- some
  refine sss_ds fun B' hp' hG => ds_set 10 ?_ nd
  refine de_dl (dl_cat (de_fS (k' := 5) hG GC hr (da_cons (de_nm 6 (da_cons (de_ix ix_list (de_nm 8 (de_int (rd_hIx hG hla.pl (z := .list (p.g.map PyData.str)) rfl (da_nil ⟨ls, gs2, p.g, rfl, hsg, ?_, ?_, ?_, _, rfl, de_dl (dl_lst (da_cons (de_nm 7 (da_nil ⟨by simp, _, rfl, ?_, ?_⟩))))⟩))))))))))
  · rw [hlk.len]; omega
  · omega
  · intro q hq
    have := (hsub q hq).2
    omega
  · have := clo_len (gs := gs2) (gone := p.g)
    have e := hlk.len
    rw [List.length_map]
    simp
    omega
  have esome : (clo gs2 p.g).map natD ++ [natD ls.length] = (clo gs2 p.g ++ [gs.length]).map natD := by rw [List.map_append, hlen]; rfl
  rw [esome]
  -- most_here
  refine sss_ds fun B' hp' hG => ds_set 11 ?_ nd
  refine de_bin op_sub (de_int (de_callTy call_int1 T.int boot_int (da_cons (de_fS (k' := 5) hG GL hr (da_cons (de_nm 8 (da_cons (de_nm 3 (da_nil ⟨l.1, l.2, p.g, sy, p.bl, ws, rfl, hla', by omega, da_nil (rc_intB (rd_I0 ?_))⟩)))))))))
  have elk : (decide (sy ∈ ws) && !p.bl.any fun x => decide (x.2.1 = flt)) = lks ws sy p.bl := rfl
  rw [elk]
  generalize hmh : (8 : Int) - (if lks ws sy p.bl = true then 1 else 0) = mh
  have hmh1 : 7 ≤ mh ∧ mh ≤ 8 ∧ (lks ws sy p.bl = true → mh = 7) := by
    rw [← hmh]
    split <;> refine ⟨by omega, by omega, fun z => ?_⟩
    · rfl
    · rename_i h; exact absurd z h
  -- the loop
  refine sss_cons (sss_while (fun m δ G3 => ∃ (n3 : Nat) (p3 : GP), n3 ≤ n + 20 * p3.bl.length ∧ δ = envB n3 most hs ws st ls (some (hdD l.1)) (some (.list ((clo gs2 p.g ++ [gs.length]).map natD))) (some (.int mh)) ∧ p3.g = p.g ∧ p3.s = p.s ∧ (p3.bl.length : Int) ≤ mh ∧ lks ws sy p3.bl = lks ws sy p.bl ∧
    Gr hs ws (gs2.set j p3) ∧ Like gs (gs2.set j p3) ∧ StG G3 ls (gs2.set j p3) ∧ Ext G2 G3 ∧ m = 9 - p3.bl.length) (m0 := 9 - p.bl.length) ⟨n, p, by omega, rfl, rfl, rfl, by omega, rfl, ?_, ?_, ?_, fun _ z => z, rfl⟩ fun m δ G3 hI B' hp' hG => ?_)
  · rw [set_self hp]; exact hgr
  · rw [set_self hp]; exact hlk
  · rw [set_self hp]; exact hsg
  · obtain ⟨n3, p3, hn3, rfl, hg3, hs3, hl3, hlk3, hgr3, hlike3, hsg3, hext3, rfl⟩ := hI
    have hj3 : j < gs2.length := (List.getElem?_eq_some_iff.mp hp).1
    have hp3 : (gs2.set j p3)[j]? = some p3 := List.getElem?_set_self hj3
    have hla3 := hsg3.pl j l p3 hl hp3
    have hsy3 : p3.s = some sy := hs3.trans hsy
    have hla3' : PlAt G3 l.1 l.2 p3.g (some sy) p3.bl := hsy3 ▸ hla3
    have hpm3 := List.mem_of_getElem? hp3
    have hpne3 : p3.s ≠ none := by rw [hsy3]; exact fun z => by cases z
    have hfa3 := hgr3.fa p3 hpm3
    have hset : ∀ q, (gs2.set j p3).set j q = gs2.set j q := fun q => by rw [List.set_set]
    have hput : ∀ b, p3.bl.length + 1 = (p3.put b).bl.length := fun b => by
      show _ = (p3.bl ++ [b]).length
      rw [List.length_append]
      rfl
    -- a branch more
    have turn : ∀ n4, n4 ≤ n3 + 2 → p3.bl.length < 8 → (p3.bl.length : Int) + 1 ≤ mh → SSs B (XB P w K mg base f cdv A outer s H E) (wSs (XB P w K mg base f cdv A outer s H E) (whB ((forB ((defBody s__law_board).getD 5 (.Pass ⟨0, 0, 0, 0⟩))).getD 2 (.Pass ⟨0, 0, 0, 0⟩)))) G3 (envB n4 most hs ws st ls (some (hdD l.1)) (some (.list ((clo gs2 p.g ++ [gs.length]).map natD))) (some (.int mh)))
        (fun δ3 G3 => ∃ m', m' < 9 - p3.bl.length ∧ ∃ (n3 : Nat) (p3 : GP), n3 ≤ n + 20 * p3.bl.length ∧ δ3 = envB n3 most hs ws st ls (some (hdD l.1)) (some (.list ((clo gs2 p.g ++ [gs.length]).map natD))) (some (.int mh)) ∧ p3.g = p.g ∧ p3.s = p.s ∧ (p3.bl.length : Int) ≤ mh ∧ lks ws sy p3.bl = lks ws sy p.bl ∧
          Gr hs ws (gs2.set j p3) ∧ Like gs (gs2.set j p3) ∧ StG G3 ls (gs2.set j p3) ∧ Ext G2 G3 ∧ m' = 9 - p3.bl.length) R := fun n4 hn4 h8 hmh8 => by
      refine sss_one (sss_expr (se_call (k' := 5) 0 GB hr fun B' hp' hG => ?_))
      refine da_cons (de_nm 2 (da_cons (de_nm 5 (da_cons (de_nm 8 (da_cons (de_ix ix_list (de_nm 10 (de_fP (k' := 5) 0 GT hr (da_cons (de_callB call_len T.len boot_len (da_cons (de_nm 10 (da_nil (rc_lenL rfl (da_nil ⟨_, rfl, ?_, ?_, ?_, fun d g0 g1 => ?_⟩))))))))))))))))
      · rw [List.length_map]; simp
      · have := clo_len (gs := gs2) (gone := p.g)
        have e := hlk.len
        rw [List.length_map]
        simp
        omega
      · show n4 < _
        omega
      rw [List.length_map] at g1
      have hlt : d.toNat < (clo gs2 p.g ++ [gs.length]).length := by omega
      have htm := List.getElem_mem hlt
      generalize ht : (clo gs2 p.g ++ [gs.length])[d.toNat] = t at htm
      refine rd_ixL (z := natD t) (by rw [atI_nn g0, List.getElem?_map, List.getElem?_eq_getElem hlt, ht]; rfl) ?_
      refine da_nil ⟨hs, st, p3.g, p3.bl, l.1, l.2, sy, t, rfl, hla3', h6, hs1, hs6, hst, h8, by rw [hg3]; exact hon, ?_, fun h wd hh hw hu => ?_⟩
      · show n4 + 1 + 300 < _
        omega
      have hb : BrNew hs ws p3 (h, wd, t) := ⟨fun s' es => by rw [hsy3] at es; injection es with es; subst es; exact hh, fun _ _ => .inl hw, hu, fun e => absurd e (nm_ne_flt hw)⟩
      obtain ⟨ht1, ht2⟩ := clo_to hlk hlike3 htm
      have q1 := Gr.more hgr3 hp3 hpne3 hb ht1 fun q hq => ⟨fun x hx => ht2 q hq x (by rw [← hg3]; exact hx), fun e => absurd e (nm_ne_flt hw)⟩
      have q2 := hlike3.put hp3 (h, wd, t)
      have q3 := StG.put hsg3 hl hp3 (h, wd, t)
      rw [hset] at q1 q2 q3
      have hl4 := hput (h, wd, t)
      refine ⟨9 - (p3.put (h, wd, t)).bl.length, by omega, n4 + 1 + 14, p3.put (h, wd, t), by omega, rfl, hg3, hs3, by omega, ?_, q1, q2, q3, ext_trans hext3 ext_put, rfl⟩
      exact (lks_word (nm_ne_flt hw)).trans hlk3
    -- behind the loop
    have rest : ∀ n4, n4 ≤ n3 + 2 → noW p3.bl = false → SSs B (XB P w K mg base f cdv A outer s H E) (wSs (XB P w K mg base f cdv A outer s H E) ((forB ((defBody s__law_board).getD 5 (.Pass ⟨0, 0, 0, 0⟩))).drop 3)) G3 (envB n4 most hs ws st ls (some (hdD l.1)) (some (.list ((clo gs2 p.g ++ [gs.length]).map natD))) (some (.int mh))) N R := fun n4 hn4 hnw => by
      refine sss_one (sss_if fun B' hp' hG => ?_)
      refine dt_val (de_fS (k' := 5) hG GL hr (da_cons (de_nm 8 (da_cons (de_nm 3 (da_nil ⟨l.1, l.2, p3.g, sy, p3.bl, ws, rfl, hla3', by omega, _, rfl, ?_⟩))))))
      have elk3 : (decide (sy ∈ ws) && !p3.bl.any fun x => decide (x.2.1 = flt)) = lks ws sy p3.bl := rfl
      rw [elk3]
      cases hlf : lks ws sy p3.bl with
      | false =>
        refine iteF (sss_nil ?_)
        exact hN n4 _ _ (gs2.set j p3) p3 G3 (by omega) hgr3 hlike3 hsg3 rfl (PFin.of hsy3 hnw (by omega) hlf) hext3
      | true =>
        have hm7 := hmh1.2.2 (hlk3.symm.trans hlf)
        unfold lks at hlf
        rw [Bool.and_eq_true] at hlf
        have hsw : sy ∈ ws := of_decide_eq_true hlf.1
        have hnf : ∀ x ∈ p3.bl, x.2.1 ≠ flt := fun x hx e => by
          have h1 : (p3.bl.any fun x => decide (x.2.1 = flt)) = true := List.any_eq_true.mpr ⟨x, hx, decide_eq_true e⟩
          rw [h1] at hlf
          cases hlf.2
        refine iteT ?_
        have hsub3 := hlike3.sub ho
        refine sss_ds fun B' hp' hG => ds_set 10 ?_ nd
        refine de_dl (dl_cat (de_fS (k' := 5) hG GC hr (da_cons (de_nm 6 (da_cons (de_dl (dl_cat (de_ix ix_list (de_nm 8 (de_int (rd_hIx hG hla3.pl (z := .list (p3.g.map PyData.str)) rfl ⟨_, rfl, de_dl (dl_lst (da_cons (de_ix ix_list (de_nm 8 (de_int (rd_hIx hG hla3.pl (z := woD p3.s) rfl (da_nil ⟨by simp, _, rfl, ?_, da_nil ⟨ls, gs2.set j p3, p3.g ++ [sy], ?_, hsg3, ?_, ?_, ?_, _, rfl, de_dl (dl_lst (da_cons (de_nm 7 (da_nil ⟨by simp, _, rfl, ?_, ?_⟩))))⟩⟩)))))))⟩)))))))))))
        · have := (hsub3 p3 hpm3).2
          show (p3.g.map PyData.str).length + 1 ≤ 100000
          rw [List.length_map]
          omega
        · rw [hsy3, List.map_append]; rfl
        · rw [hlike3.len]; omega
        · have := (hsub3 p3 hpm3).2
          simp
          omega
        · intro q hq
          have := (hsub3 q hq).2
          omega
        · have := clo_len (gs := gs2.set j p3) (gone := p3.g ++ [sy])
          have e := hlike3.len
          rw [List.length_map]
          simp at this e ⊢
          omega
        have esome : (clo (gs2.set j p3) (p3.g ++ [sy])).map natD ++ [natD ls.length] = (clo (gs2.set j p3) (p3.g ++ [sy]) ++ [gs.length]).map natD := by rw [List.map_append, hlen]; rfl
        rw [esome]
        refine sss_one (sss_expr (se_call (k' := 5) 0 GF hr fun B' hp' hG => ?_))
        refine da_cons (de_nm 2 (da_cons (de_nm 8 (da_cons (de_ix ix_list (de_nm 10 (de_fP (k' := 5) 0 GT hr (da_cons (de_callB call_len T.len boot_len (da_cons (de_nm 10 (da_nil (rc_lenL rfl (da_nil ⟨_, rfl, ?_, ?_, ?_, fun d g0 g1 => ?_⟩))))))))))))))
        · rw [List.length_map]; simp
        · have := clo_len (gs := gs2.set j p3) (gone := p3.g ++ [sy])
          have e := hlike3.len
          rw [List.length_map]
          simp at this e ⊢
          omega
        · show n4 < _
          omega
        rw [List.length_map] at g1
        have hlt : d.toNat < (clo (gs2.set j p3) (p3.g ++ [sy]) ++ [gs.length]).length := by omega
        have htm := List.getElem_mem hlt
        generalize ht : (clo (gs2.set j p3) (p3.g ++ [sy]) ++ [gs.length])[d.toNat] = t at htm
        refine rd_ixL (z := natD t) (by rw [atI_nn g0, List.getElem?_map, List.getElem?_eq_getElem hlt, ht]; rfl) ?_
        refine da_nil ⟨hs, p3.g, p3.bl, l.1, l.2, sy, t, rfl, hla3', h6, by omega, by rw [hg3]; exact hon, ?_, fun h hh => ?_⟩
        · show n4 + 1 + 300 < _
          omega
        have hb : BrNew hs ws p3 (h, flt, t) := ⟨fun s' es => by rw [hsy3] at es; injection es with es; subst es; exact hh, fun s' es => by rw [hsy3] at es; injection es with es; subst es; exact .inr ⟨rfl, hsw⟩, fun x hx _ => hnf x hx, fun _ => hnf⟩
        obtain ⟨ht1, ht2⟩ := clo_to hlike3 hlike3 htm
        have q1 := Gr.more hgr3 hp3 hpne3 hb ht1 fun q hq => ⟨fun x hx => ht2 q hq x (List.mem_append_left _ hx), fun _ s' es => by
          have es : p3.s = some s' := es
          rw [hsy3] at es
          injection es with es
          subst es
          exact ht2 q hq sy (by simp)⟩
        have q2 := hlike3.put hp3 (h, flt, t)
        have q3 := StG.put hsg3 hl hp3 (h, flt, t)
        rw [hset] at q1 q2 q3
        have hl4 := hput (h, flt, t)
        refine hN (n4 + 1 + 1) (some (.list ((clo (gs2.set j p3) (p3.g ++ [sy]) ++ [gs.length]).map natD))) (some (.int mh)) (gs2.set j (p3.put (h, flt, t))) (p3.put (h, flt, t)) _ (by omega) q1 q2 q3 rfl (PFin.of hsy3 ?_ (by omega) ?_) (ext_trans hext3 ext_put)
        · show noW (p3.bl ++ [(h, flt, t)]) = false
          unfold noW at hnw ⊢
          rw [List.all_append, hnw]
          rfl
        · show lks ws sy (p3.bl ++ [(h, flt, t)]) = false
          unfold lks
          rw [List.any_append]
          simp
    -- the test
    refine dt_pw (dw_or (dt_cmp (op_eqNil hr.units) (de_dl (dl_filt [("one", 9)] nd (pi_list pe_w) (blkOk_by (N := n__law_board) (sc := defScope s__law_board) (by decide +kernel)) (fun _ _ _ _ _ => pg_name (i := 9) nd rfl (Or.inl rfl))
      (wi_h hG (de_ix ix_list (de_nm 8 (de_int (rd_hIx hG hla3.pl (z := hdD l.2) rfl ⟨l.2, _, rfl, hla3.br, ?_, wordK, fun _ => .int 1, fun B2 y hp2' hy => wg_name ?_, de_dl (dl_lst (da_nil ⟨by simp, rd_eqNil ⟨_, rfl, ?_⟩⟩))⟩)))))))))
    · rw [List.length_map]; omega
    · obtain ⟨b, hb, rfl⟩ := List.mem_map.mp hy
      intro s1 H1 C1 cl1 fp1
      refine dt_cmp op_ne (de_ix ix_tup (de_nm 9 (de_int (rd_ixT rfl (de_str (rd_neS ⟨_, rfl, rfl, rfl, fun _ s2 H2 C2 cl2 fp2 => ?_⟩))))))
      exact de_int ⟨rfl, rfl⟩
    · rw [noW_filter]
      cases hnw : noW p3.bl with
      | true =>
        have := noW_len hnw hfa3
        exact iteT (iteT (turn n3 (by omega) (by omega) (by omega)))
      | false =>
        refine iteF (dw_or1 (dt_pw (dw_and (dt_cmp op_lt (de_callB call_len T.len boot_len (da_cons (de_ix ix_list (de_nm 8 (de_int (rd_hIx hG hla3.pl (z := hdD l.2) rfl (da_nil (rc_hLen rfl hG hla3.br (de_nm 11 (rd_B0 ⟨_, rfl, ?_⟩))))))))))))))
        rw [List.length_map]
        by_cases hlt : (p3.bl.length : Int) < mh
        · rw [decide_eq_true hlt]
          refine iteT (dw_and1 (dt_cmp op_eq (de_fP (k' := 5) 0 GT hr (da_cons (de_int (da_nil ⟨3, rfl, by decide, by decide, ?_, fun d g0 g1 => de_int (rd_eqI ⟨_, rfl, ?_⟩)⟩))))))
          · show n3 < _
            omega
          by_cases hz : d = 0
          · rw [decide_eq_true hz]
            exact iteT (turn (n3 + 1) (by omega) (by omega) (by omega))
          · rw [decide_eq_false hz]
            exact iteF (rest (n3 + 1) (by omega) hnw)
        · rw [decide_eq_false hlt]
          exact iteF (iteF (rest n3 (by omega) hnw))
end
end K3

set_option maxHeartbeats 200000
set_option Elab.async false
set_option linter.all false
set_option maxRecDepth 100000
set_option maxHeartbeats 4000000
namespace K3
open PySem PySem.Spec PyProof.Rows L2 DL
open PySem.W (alike alikeAll dataLt dataLe AllAlike Sortable EachIs)
variable {P : Program} {w : World} {K : PySem.W.Frag} {mg : Str → Option Value} {base : Heap} {f : Addr} {fd : FuncData} {k : Nat}
theorem brD_depth (b : Br) : (brD b).depth ≤ 60 := by
  unfold brD
  simp [PyData.depth, PyData.depthAll]
theorem rep_none : ∀ n : Nat, (List.replicate n [PyData.none]).flatten = List.replicate n PyData.none
  | 0 => rfl
  | n + 1 => by rw [List.replicate_succ, List.flatten_cons, rep_none n]; rfl
def tolS : Scope := { kind := .function, names := [(".0", .local), ("place", .local), ("end", .cell)], isGenerator := false, isCoroutine := false }
theorem ok__law_boardG (T : Tx mg) (GT : Fn P w K mg base "_law_take" 1 ["pot", "many"] (spP K S_law_take)) (GN : Fn P w K mg base "_law_names" 2 ["pot", "many"] (spPO K S_law_names)) (GL : Fn P w K mg base "_law_lacks" 1 ["place", "weak"] (spS K S_law_lacks))
    (GF : Fn P w K mg base "_law_put_fault" 2 ["pot", "hands", "place", "then"] (spG K S_law_put_fault)) (GB : Fn P w K mg base "_law_put_branch" 4 ["pot", "hands", "stock", "place", "then"] (spG K S_law_put_branch)) (GC : Fn P w K mg base "_law_closed" 1 ["places", "gone"] (spS K S_law_closed))
    (GG : Fn P w K mg base "_law_grown" 5 ["pot", "hands", "weak", "stock", "many"] (spG K S_law_grown)) (F : Fd K "_law_board" s__law_board [] [] f fd) : FnOk P w K mg base CX0 6 f fd ["pot", "most"] (spG K S_law_boardG) := by
  refine fnG F sc__law_board (fun n G ds Φ h => by obtain ⟨_, _, rfl, _⟩ := h; rfl) (fun B cdv A outer s H E n G ds Φ hr hp hS => ?_)
  obtain ⟨rfl, most, rfl, hm1, hm2, hn, hΦ⟩ := hS
  have nd := sc__law_board.nd
  -- hands
  refine sss_ds fun B' hp' hG => ds_set 2 ?_ nd
  refine de_dl (dl_fP (k' := 5) 0 GN hr (da_cons (de_bin op_add (de_int (de_fP (k' := 5) 0 GT hr (da_cons (de_int (da_nil ⟨5, rfl, by decide, by decide, ?_, fun d1 a0 a1 => rd_I0 (da_nil ⟨(2 + d1).toNat, ?_, ?_, ?_, fun hs hl1 hnd hnm => ?_⟩)⟩))))))))
  · show n < _
    omega
  · rw [Int.toNat_of_nonneg (by omega)]
  · omega
  · show n + 1 + 100 < _
    omega
  have h6 : hs.length ≤ 6 := by omega
  have h2 : 2 ≤ hs.length := by omega
  generalize hn1e : n + 1 + 11 * (2 + d1).toNat = n1
  have hn1 : n1 ≤ n + 67 := by omega
  -- weak
  refine sss_ds fun B' hp' hG => ds_set 3 ?_ nd
  refine de_dl (dl_callB (cr_sortD (room70 hr)) T.sorted boot_sorted (wl_sorted (da_cons (de_dl (dl_lcIf [("hand", 4)] nd (pi_list pe_w) (blkOk_by (N := n__law_board) (sc := defScope s__law_board) (by decide +kernel)) (fun _ _ _ _ _ => pg_name (i := 4) nd rfl (Or.inl rfl))
    (wi_list (de_nm 2 ⟨_, rfl, ?_, fun i acc m => ∃ l : List Str, l.Sublist (hs.take i) ∧ acc = l.map PyData.str ∧ m = n1 + i, ⟨[], List.nil_sublist _, rfl, hn1e⟩, fun B' i y acc m hp' hy hac hI => ?_, fun acc m hac hI => ?_⟩)))))))
  · rw [List.length_map]; omega
  · obtain ⟨l, hl, rfl, rfl⟩ := hI
    rw [List.getElem?_map, Option.map_eq_some_iff] at hy
    obtain ⟨h, hh, rfl⟩ := hy
    have hil := (List.getElem?_eq_some_iff.mp hh).1
    refine wg_name ?_
    intro s0 H0 C cl fp
    refine dt_cmp op_eq (de_fP (k' := 5) 0 GT hr (da_cons (de_int (da_nil ⟨3, rfl, by decide, by decide, ?_, fun d g0 g1 => de_int (rd_eqI ⟨_, rfl, ?_⟩)⟩))))
    · show n1 + i < _
      omega
    by_cases hz : d = 0
    · rw [decide_eq_true hz]
      exact iteT fun s1 H1 C1 cl1 fp1 => de_nm 4 ⟨l ++ [h], sub_take hl hh true, by rw [List.map_append]; rfl, rfl⟩
    · rw [decide_eq_false hz]
      exact iteF ⟨l, sub_take hl hh false, rfl, rfl⟩
  obtain ⟨l, hl, rfl, rfl⟩ := hI
  have hl : l.Sublist hs := by
    rw [List.length_map, List.take_length] at hl
    exact hl
  have hll := hl.length_le
  refine da_nil ⟨_, rfl, noHs_strs l, AllAlike.of fun _ _ => rfl, .inr fun d hd => ?_, ?_, fun d hd => ?_, ?_⟩
  · obtain ⟨x, _, rfl⟩ := List.mem_map.mp hd
    exact ⟨(fun z => by cases z), fun xs z => by cases z⟩
  · rw [List.length_map]; omega
  · obtain ⟨x, _, rfl⟩ := List.mem_map.mp hd
    exact Nat.zero_le _
  rw [sortD_strs]
  have hwk := srtS_wk hnd hl
  generalize hws : srtS l = ws at hwk
  have hx1 : (hs.map PyData.str).length ≤ 6 := by rw [List.length_map]; omega
  generalize (hs.map PyData.str).length = x1 at hx1
  -- stock
  refine sss_ds fun B' hp' hG => ds_set 5 ?_ nd
  refine de_dl (dl_fP (k' := 5) 0 GN hr (da_cons (de_bin op_add (de_int (de_fP (k' := 5) 0 GT hr (da_cons (de_int (da_nil ⟨5, rfl, by decide, by decide, ?_, fun d2 a2 a3 => rd_I0 (da_nil ⟨(1 + d2).toNat, ?_, ?_, ?_, fun st hl2 hnd2 hnm2 => ?_⟩)⟩))))))))
  · show n1 + x1 < _
    omega
  · rw [Int.toNat_of_nonneg (by omega)]
  · omega
  · show n1 + x1 + 1 + 100 < _
    omega
  have hs1 : 1 ≤ st.length := by omega
  have hs6 : st.length ≤ 6 := by omega
  -- places
  refine sss_cons (sss_set 6 (se_call (k' := 5) 0 GG hr fun B' hp' hG => ?_) nd)
  refine da_cons (de_nm 2 (da_cons (de_nm 3 (da_cons (de_nm 5 (da_cons (de_bin op_add (de_int (de_fP (k' := 5) 0 GT hr (da_cons (de_nm 1 (da_nil ⟨(most : Int), rfl, by omega, by omega, ?_, fun d3 a4 a5 => rd_I0 (da_nil ⟨hs, ws, st, (1 + d3).toNat, ?_, h6, hnd, hs1, hs6, hnm2, by omega, by omega, ?_, fun n2 ls gs G2 hn2 hgr hgo hsg hg1 hg2 => ?_⟩)⟩))))))))))))
  · show n1 + x1 + 1 + 11 * (1 + d2).toNat < _
    omega
  · unfold natD; rw [Int.toNat_of_nonneg (by omega)]
  · show n1 + x1 + 1 + 11 * (1 + d2).toNat + 1 + 5000 < _
    omega
  have hn2 : n2 ≤ n1 + x1 + 1 + 11 * (1 + d2).toNat + 1 + 2000 := hn2
  have hn2 : n2 ≤ n + 2200 := by omega
  have hg39 : gs.length ≤ 39 := by omega
  have hlen := hsg.len
  -- end
  refine sss_ds fun B' hp' hG => ds_set 7 (de_callB call_len T.len boot_len (da_cons (de_nm 6 (da_nil (rc_lenL rfl ?_))))) nd
  rw [hds_len]
  -- the places in turn
  generalize hjs : (List.range gs.length).filter (hasS gs) = js
  have hjs1 : ∀ j, j ∈ js ↔ j < gs.length ∧ hasS gs j = true := fun j => by rw [← hjs, List.mem_filter, List.mem_range]
  have hjnd : js.Nodup := by rw [← hjs]; exact List.nodup_range.filter _
  refine sss_cons (sss_for [8] (pi_list pe_w) (pg_name (i := 8) nd rfl (.inl rfl)) fun B' hp' hG => wik_list (de_dl (dl_lcIf [("one", 9)] nd (pi_list pe_w) (blkOk_by (N := n__law_board) (sc := defScope s__law_board) (by decide +kernel)) (fun _ _ _ _ _ => pg_name (i := 9) nd rfl (Or.inl rfl))
    (wi_list (de_nm 6 ⟨_, rfl, ?_, fun i acc m => acc = ((List.range i).filter (hasS gs)).map (hdI ls) ∧ m = n2, ⟨rfl, rfl⟩, fun B' i y acc m hp' hy hac hI => ?_, fun acc m hac hI => ?_⟩)))))
  · rw [hds_len]; omega
  · obtain ⟨rfl, rfl⟩ := hI
    obtain ⟨l, hl, rfl⟩ := hds_get hy
    obtain ⟨p, hp1, hp2⟩ := hsg.of_l hl
    have hG' := hG.sub (X' := (XB P w K mg base f cdv A outer s H E)) hp' rfl
    have e0 : hasS gs i = p.s.isSome := by unfold hasS; rw [hp1]
    refine wg_name ?_
    intro s0 H0 C cl fp
    refine dt_cmp op_notN (de_ix ix_list (de_nm 9 (de_int (rd_hIx hG' hp2.pl (z := woD p.s) rfl (de_non (rd_notN ⟨_, rfl, ?_⟩))))))
    rw [isNone_wo, Bool.not_not]
    cases h1 : p.s.isSome with
    | false =>
      refine iteF ⟨?_, rfl⟩
      rw [range_snoc, e0, h1, if_neg (by decide), List.append_nil]
    | true =>
      refine iteT fun s1 H1 C1 cl1 fp1 => de_nm 9 ⟨?_, rfl⟩
      rw [range_snoc, e0, h1, if_pos rfl, List.map_append]
      simp [hdI_at hl]
  obtain ⟨rfl, rfl⟩ := hI
  rw [show (hds ls).length = gs.length from hds_len.trans hlen, hjs]
  have hjl : js.length ≤ gs.length := by
    rw [← hjs]
    exact Nat.le_trans (List.length_filter_le _ _) (by simp)
  refine ⟨_, rfl, fun i δ G3 => ∃ (m : Nat) (c8 c10 c11 : Option PyData) (gs2 : List GP), m ≤ n + 2200 + 250 * i ∧ δ = envB m most hs ws st ls c8 c10 c11 ∧ Gr hs ws gs2 ∧ Like gs gs2 ∧ StG G3 ls gs2 ∧ FinTo ws gs2 (js.take i), ⟨m, none, none, none, gs, by omega, rfl, hgr, Like.refl gs, hsg, fun j p hp => ⟨fun z => by simp at z, fun _ => hgo.bl p (List.mem_of_getElem? hp)⟩⟩, fun i y δ G3 hy hI => ?_, fun δ G3 hI => ?_⟩
  · obtain ⟨m3, c8, c10, c11, gs2, hm3, rfl, hgr2, hlk2, hsg2, hfin⟩ := hI
    rw [List.getElem?_map, Option.map_eq_some_iff] at hy
    obtain ⟨j, hj, rfl⟩ := hy
    have hij := (List.getElem?_eq_some_iff.mp hj).1
    obtain ⟨hjg, hjs2⟩ := (hjs1 j).mp (List.mem_of_getElem? hj)
    have hj2 : j < gs2.length := by rw [hlk2.len]; exact hjg
    have hp2 : gs2[j]? = some gs2[j] := List.getElem?_eq_getElem hj2
    generalize gs2[j] = p at hp2
    rw [hasS_like hlk2 hp2] at hjs2
    obtain ⟨sy, hsy⟩ := Option.isSome_iff_exists.mp hjs2
    obtain ⟨l, hl, hla⟩ := hsg2.at' hp2
    have hnot : j ∉ js.take i := fun z => by
      obtain ⟨a, ha, e⟩ := List.getElem_of_mem z
      rw [List.getElem_take] at e
      rw [List.length_take] at ha
      have e2 : js[i] = j := (List.getElem?_eq_some_iff.mp hj).2
      have := (List.getElem_inj hjnd).mp (e.trans e2.symm)
      omega
    have hp6 := (hfin j p hp2).2 hnot
    intro B' hp' hG
    refine wg_name ?_
    rw [hdI_at hl]
    refine board_turn (gs := gs) (gs2 := gs2) (j := j) (p := p) (l := l) (sy := sy) (n := m3) T GT GL GF GB GC hr h6 hnd hs1 hs6 hnm2 (by omega) hgr2 hgo hlk2 hg39 hsg2 hp2 hl hsy hp6 fun n' d10 d11 gs3 p3 G3' hn' hgr3 hlk3 hsg3 e3 hpf hext => ?_
    subst e3
    refine ⟨n', some (hdD l.1), d10, d11, gs2.set j p3, by omega, rfl, hgr3, hlk3, hsg3, ?_⟩
    have : js.take (i + 1) = js.take i ++ [j] := take_snoc hj
    rw [this]
    exact hfin.put hpf
  obtain ⟨m3, c8, c10, c11, gs2, hm3, rfl, hgr2, hlk2, hsg2, hfin⟩ := hI
  rw [List.length_map, List.take_length] at *
  have hm3 : m3 ≤ n + 12000 := by
    have : 250 * js.length ≤ 250 * 39 := Nat.mul_le_mul_left _ (by omega)
    omega
  have hpf : ∀ p ∈ gs2, PFin ws p := fun p hp => by
    obtain ⟨j, hj⟩ := List.getElem?_of_mem hp
    have hj2 := (List.getElem?_eq_some_iff.mp hj).1
    by_cases hs : hasS gs j = true
    · exact (hfin j p hj).1 ((hjs1 j).mpr ⟨by rw [← hlk2.len]; exact hj2, hs⟩)
    · rw [hasS_like hlk2 hj] at hs
      have hn : p.s = none := by
        cases e : p.s with
        | none => rfl
        | some s => rw [e] at hs; exact absurd rfl hs
      rcases hgr2.pl p hp with ⟨_, _, e⟩ | ⟨sy, e, _⟩
      · exact PFin.none hn e
      · rw [hn] at e; cases e
  have hbd := Gr.board hgr2 h2 h6 hnm hnd hwk (by rw [hlk2.len]; exact hg1) (by rw [hlk2.len]; exact hg39) hpf
  have hlen2 : ls.length = gs2.length := hsg2.len
  -- told
  refine sss_ds fun B' hp' hG => ds_setLc0 12 [("place", 8)] nd (pi_list pe_w) (blkOk_by (N := n__law_board) (sc := defScope s__law_board) (by decide +kernel)) (fun _ _ _ _ _ => pg_name (i := 8) nd rfl (Or.inl rfl))
    (wl_lc0 _ (wi_list (de_nm 6 ⟨_, rfl, ?_, fun i acc m => acc = (gs2.take i).map (fun p => plD (tellP p)) ∧ m = m3, ⟨rfl, rfl⟩, fun B' i y acc m hp' hy hac hI => ?_, fun acc m hac hI => ?_⟩)))
  · rw [hds_len, hlen]; omega
  · obtain ⟨rfl, rfl⟩ := hI
    obtain ⟨l, hl, rfl⟩ := hds_get hy
    obtain ⟨p, hp1, hp2⟩ := hsg2.of_l hl
    have hG' := hG.sub (X' := (XB P w K mg base f cdv A outer s H E)) hp' rfl
    have hpm := List.mem_of_getElem? hp1
    have h8 := (hpf p hpm).l8
    refine wg_name ?_
    intro s0 H0 C cl fp
    refine de_if (dt_cmp op_isN (de_ix ix_list (de_nm 8 (de_int (rd_hIx hG' hp2.pl (z := woD p.s) rfl (de_non (rd_isN ⟨_, rfl, ?_⟩)))))))
    rw [isNone_wo]
    cases h1 : p.s with
    | none =>
      refine iteT (de_non ⟨?_, rfl⟩)
      rw [take_snoc hp1, List.map_append]
      unfold tellP
      simp [h1, plD]
    | some sy =>
      refine iteF (de_tup (da_cons (de_ix ix_list (de_nm 8 (de_int (rd_hIx hG' hp2.pl (z := woD p.s) rfl (da_cons (de_callTy call_tuple_of T.tup boot_tuple (da_cons (de_dl (dl_callB (cr_sortD (room70 hr)) T.sorted boot_sorted (wl_sortedH hG' (da_cons (de_ix ix_list (de_nm 8 (de_int (rd_hIx hG' hp2.pl (z := hdD l.2) rfl (da_nil ⟨l.2, _, rfl, hp2.br, noHs_brs _, AllAlike.of fun _ _ => ?_, .inl fun d hd => ?_, ?_, fun d hd => ?_, ?_⟩))))))))))))))))))
      · rfl
      · obtain ⟨x, _, rfl⟩ := List.mem_map.mp hd
        exact ⟨_, _, rfl⟩
      · rw [List.length_map]; omega
      · obtain ⟨x, _, rfl⟩ := List.mem_map.mp hd
        exact brD_depth x
      rw [sortD_brs]
      refine da_nil (rc_tupleL rfl (da_nil ⟨by simp, ?_, rfl⟩))
      rw [take_snoc hp1, List.map_append]
      unfold tellP
      simp [h1, plD, woD]
  obtain ⟨rfl, rfl⟩ := hI
  have htk : gs2.take (hds ls).length = gs2 := by rw [hds_len, hlen2, List.take_length]
  rw [htk]
  -- needs
  refine sss_ds fun B' hp' hG => ds_setLcW 13 [("place", 8)] nd (pi_list pe_w) (blkOk_by (N := n__law_board) (sc := defScope s__law_board) (by decide +kernel)) (fun _ _ _ _ _ => pg_name (i := 8) nd rfl (Or.inl rfl))
    (wl_lcIf _ (wi_list (de_nm 6 ⟨_, rfl, ?_, fun i acc q => acc.isEmpty = !((gs2.take i).any (pneed gs2.length)) ∧ q = m, ⟨rfl, rfl⟩, fun B' i y acc q hp' hy hac hI => ?_, fun acc q hac hI => ?_⟩)))
  · rw [hds_len, hlen]; omega
  · obtain ⟨he, rfl⟩ := hI
    obtain ⟨l, hl, rfl⟩ := hds_get hy
    obtain ⟨p, hp1, hp2⟩ := hsg2.of_l hl
    have hG' := hG.sub (X' := (XB P w K mg base f cdv A outer s H E)) hp' rfl
    have hpm := List.mem_of_getElem? hp1
    have h8 := (hpf p hpm).l8
    refine wg_name ?_
    intro s0 H0 C cl fp
    refine dt_cmp (op_neNil hr.units) (de_dl (dl_filt [("branch", 14)] nd (pi_list pe_w) (blkOk_by (N := n__law_board) (sc := tolS) (by decide +kernel)) (fun _ _ _ _ _ => pg_name (i := 14) nd rfl (Or.inl rfl))
      (wi_h (hG.sub hp' (by rfl)) (de_ix ix_list (de_nm 8 (de_int (rd_hIx hG' hp2.pl (z := hdD l.2) rfl ⟨l.2, _, rfl, hp2.br, ?_, toK gs2.length, fun _ => .int 1, fun B2 y hp2' hy => wg_name ?_, de_dl (dl_lst (da_nil ⟨by simp, rd_neNil ⟨_, rfl, ?_⟩⟩))⟩)))))))
    · rw [List.length_map]; omega
    · obtain ⟨b, hb, rfl⟩ := List.mem_map.mp hy
      intro s1 H1 C1 cl1 fp1
      refine dt_cmp op_eq (de_ix ix_tup (de_nm 14 (de_int (rd_ixT rfl (de_nm 7 (rd_eqI ⟨_, rfl, ?_, rfl, fun _ s2 H2 C2 cl2 fp2 => ?_⟩))))))
      · rw [hlen2]; rfl
      · exact de_int ⟨rfl, rfl⟩
    · rw [need_filter, Bool.not_not]
      have e1 : (gs2.take (i + 1)).any (pneed gs2.length) = ((gs2.take i).any (pneed gs2.length) || p.bl.any fun b => decide (b.2.2 = gs2.length)) := by
        rw [take_snoc hp1, List.any_append]
        simp [pneed]
      cases hb : (p.bl.any fun b => decide (b.2.2 = gs2.length)) with
      | true =>
        refine iteT fun s3 H3 C3 cl3 fp3 => de_nm 8 ⟨?_, rfl⟩
        rw [e1, hb, Bool.or_true]
        simp
      | false =>
        refine iteF ⟨?_, rfl⟩
        rw [e1, hb, Bool.or_false]
        exact he
  obtain ⟨he, rfl⟩ := hI
  rw [htk] at he
  -- told, at last
  refine sss_one (sss_ret (se_de fun B' hp' hG => ?_))
  refine de_tup (da_cons (de_callTy call_tuple_of T.tup boot_tuple (da_cons (de_nm 2 (da_nil (rc_tupleL rfl (da_cons (de_callTy call_tuple_of T.tup boot_tuple (da_cons (de_nm 3 (da_nil (rc_tupleL rfl (da_cons (de_callTy call_tuple_of T.tup boot_tuple (da_cons (de_dl (dl_cat (de_nm 12 ⟨_, rfl, de_dl (dl_rep (dl_lst (da_cons (de_non (da_nil ⟨by simp, de_callTy call_int1 T.int boot_int (da_cons (de_cmp (op_neNil hr.units) (de_nm 13 (de_dl (dl_lst (da_nil ⟨by simp, rd_neNil (da_nil (rc_intB ⟨if needs gs2 = true then 1 else 0, ?_, ?_, ?_, _, rfl, ?_, da_nil (rc_tupleL rfl (da_nil ⟨by simp, (fun b z => absurd rfl z), ?_⟩))⟩))⟩))))))⟩)))))⟩))))))))))))))))))
  · have e1 : acc.isEmpty = !needs gs2 := by rw [he, needs_eq]
    rw [e1]
    cases needs gs2 <;> rfl
  · split <;> decide
  · decide
  · have e := hlk2.len
    have h1 : (if needs gs2 = true then 1 else 0) ≤ 1 := by split <;> omega
    rw [rep_none, List.length_map, List.length_replicate]
    omega
  · have eb : PyData.tuple [PyData.tuple (hs.map PyData.str), PyData.tuple (ws.map PyData.str), PyData.tuple (gs2.map (fun p => plD (tellP p)) ++ (List.replicate (if needs gs2 = true then 1 else 0) [PyData.none]).flatten)] = bdD hs ws (tellB gs2) := by
      unfold bdD nmD plsD tellB
      rw [rep_none, List.map_append, List.map_map]
      cases needs gs2 <;> rfl
    rw [eb]
    exact hΦ hs ws (tellB gs2) q (by omega) hbd G3
/-- as a def that is handed the pot alone -/
theorem ok__law_board {S : FnOk P w K mg base CX0 6 f fd ["pot", "most"] (spG K S_law_boardG)} : FnOk P w K mg base CX0 6 f fd ["pot", "most"] (spP K S_law_board) := S.imp fun vs H Q E h => spP_spG h
end K3

set_option maxHeartbeats 200000
set_option Elab.async false
set_option linter.all false
set_option maxRecDepth 100000
set_option maxHeartbeats 4000000
namespace K3
open PySem PySem.Spec PyProof.Rows L2 DL
open PySem.W (alike alikeAll dataLt dataLe AllAlike Sortable EachIs)
variable {P : Program} {w : World} {K : PySem.W.Frag} {mg : Str → Option Value} {base : Heap} {f : Addr} {fd : FuncData} {k : Nat}
/-! ### rows, as the law draws them -/
theorem rise_lt {bl : List Br} (h : ∀ i x y, (bl.map pr2)[i]? = some x → (bl.map pr2)[i + 1]? = some y → dataLt x y = true) : ∀ d i (a b : Br), bl[i]? = some a → bl[i + d + 1]? = some b → dataLt (pr2 a) (pr2 b) = true
  | 0, i, a, b, ha, hb => h i _ _ (by rw [List.getElem?_map, ha]; rfl) (by rw [List.getElem?_map, hb]; rfl)
  | d + 1, i, a, b, ha, hb => by
    have hlt : i + d + 1 < bl.length := by
      have := (List.getElem?_eq_some_iff.mp hb).1
      omega
    have hc := List.getElem?_eq_getElem hlt
    have h1 := rise_lt h d i a _ ha hc
    have h2 := h (i + d + 1) (pr2 bl[i + d + 1]) (pr2 b) (by rw [List.getElem?_map, hc]; rfl) (by rw [List.getElem?_map, show i + d + 1 + 1 = i + (d + 1) + 1 by omega, hb]; rfl)
    unfold dataLt at *
    exact lex_trans (O := itemOrd) _ _ _ h1 h2
theorem rise_ne {bl : List Br} (h : ∀ i x y, (bl.map pr2)[i]? = some x → (bl.map pr2)[i + 1]? = some y → dataLt x y = true) {i j : Nat} {a b : Br} (hij : i < j) (ha : bl[i]? = some a) (hb : bl[j]? = some b) : ¬ (a.1 = b.1 ∧ a.2.1 = b.2.1) := fun ⟨e1, e2⟩ => by
  have h1 := rise_lt h (j - i - 1) i a b ha (by rw [show i + (j - i - 1) + 1 = j by omega]; exact hb)
  have : pr2 a = pr2 b := by unfold pr2; rw [e1, e2]
  rw [this] at h1
  unfold dataLt at h1
  rw [lex_irrefl (O := itemOrd)] at h1
  cases h1
/-- the branch that is gone along is the one told -/
theorem byPl_own {hs ws : List Str} {m : Nat} {sy : Str} {bs : List Br} (h : POk hs ws m sy bs) {i : Nat} {b : Br} (hb : bs[i]? = some b) : byPl (some (sy, bs)) (stepD sy b.1 b.2.1) = some b.2.2 := by
  show byBr sy bs _ = _
  unfold byBr
  have q := find_pre (p := fun c => decide (asStep (stepD sy b.1 b.2.1) = some (sy, c.1, c.2.1))) (i := i) (b := b) (fun j hj c hc => by
    refine decide_eq_false fun e => ?_
    have e' : some (sy, b.1, b.2.1) = some (sy, c.1, c.2.1) := e
    injection e' with e'
    injection e' with _ e'
    injection e' with e1 e2
    exact rise_ne h.ris hj hc hb ⟨e1.symm, e2.symm⟩) hb (decide_eq_true rfl)
  rw [q]
  rfl
structure StOk (hs : List Str) (d : PyData) : Prop where
  ex : ∃ s h w, d = stepD s h w ∧ s ∈ hs ∧ h ∈ hs ∧ (IsNm w ∨ w = flt)
def S_law_row : SpP := fun n ds Φ => ∃ hs ws ps most, ds = [plsD ps, .int (most : Nat)] ∧ BdOk hs ws ps ∧ most ≤ 400 ∧ n + 1000 < 1099511627776 ∧
  ∀ xs a m, walkTo ps 0 xs = some a → a < ps.length → xs.length ≤ most → (∀ x ∈ xs, StOk hs x) → n ≤ m → m ≤ n + most → Φ (.tuple xs) m
def envQ (n : Nat) (ps : List Pl) (most a : Nat) (xs : List PyData) (c : List (Option C)) : St' := ⟨n, [some .pot, some (.d (plsD ps)), some (.d (.int (most : Nat))), some (.d (natD a)), some (.own xs)] ++ c⟩
theorem ok__law_row (T : Tx mg) (GT : Fn P w K mg base "_law_take" 1 ["pot", "many"] (spP K S_law_take)) (F : Fd K "_law_row" s__law_row [] [] f fd) : FnOk P w K mg base CX0 2 f fd ["pot", "places", "most"] (spP K S_law_row) := by
  refine fnP F sc__law_row (fun n ds Φ h => by obtain ⟨_, _, _, _, rfl, _⟩ := h; rfl) (fun B cdv A outer s H E n ds Φ hr hp hS => ?_)
  obtain ⟨hs, ws, ps, most, rfl, hb, hm, hn, hΦ⟩ := hS
  have nd := sc__law_row.nd
  have hp1 := hb.p1
  refine ds_cons (ds_parO 3 4 (de_int (dl_lst (da_nil ⟨by decide, ?_⟩))) nd)
  refine ds_cons (ds_for [5] (pi_range1 rfl T.range pa_w) (pg_name (i := 5) nd rfl (.inl rfl)) (wi_rng1 (da_cons (de_nm 2 (da_nil ⟨_, rfl, ?_, ?_, ?_⟩)))))
  · omega
  · omega
  rw [Int.toNat_natCast]
  refine ⟨fun (i : Nat) δ => ∃ a xs m c5 c6 c7 c8 c9 c10, δ = envQ m ps most a xs [c5, c6, c7, c8, c9, c10] ∧ walkTo ps 0 xs = some a ∧ a < ps.length ∧ xs.length ≤ i ∧ (∀ x ∈ xs, StOk hs x) ∧ n ≤ m ∧ m ≤ n + i, ⟨0, [], n, none, none, none, none, none, none, rfl, rfl, by omega, Nat.zero_le _, (fun x hx => by cases hx), Nat.le_refl _, Nat.le_refl _⟩, fun i y δ hy hI => ?_, fun δ hI => ?_⟩
  · obtain ⟨a, xs, m, c5, c6, c7, c8, c9, c10, rfl, hw, ha, hx, hst, hm1, hm2⟩ := hI
    obtain ⟨hi, rfl⟩ := rng_get hy
    refine wg_name ?_
    refine ds_cons (ds_if (dt_cmp op_isN (de_ix ix_tup (de_nm 1 (de_nm 3 (rd_ixT (places_get ha) (de_non (rd_isN ⟨_, rfl, ?_⟩))))))))
    generalize hpl : ps[a] = pl
    cases pl with
    | none =>
      refine iteT (dss_freeze 4 (xs := xs) (ds_last (ds_ret (de_callTy call_tuple_of T.tup boot_tuple (da_cons (de_nm 4 (da_nil (rc_tupleL rfl (hΦ xs a m hw ha (by omega) hst hm1 (by omega))))))))))
    | some q =>
      obtain ⟨sy, bs⟩ := q
      have hq := hb.pl _ (List.getElem_mem ha) sy bs hpl
      have l1 := hq.l1
      have l8 := hq.l8
      refine iteF (ds_nil (ds_cons (ds_unpack [6, 7] (pg_two 6 7 nd) (de_ix ix_tup (de_nm 1 (de_nm 3 (rd_ixT (places_get ha) ?_)))))))
      rw [hpl]
      refine wg_tup (wgs_cons (wg_name (wgs_cons (wg_name (wgs_nil ?_)))))
      refine ds_cons (ds_unpack [8, 9, 10] (pg_three 8 9 10 nd) (de_ix ix_tup (de_nm 7 (de_fP (k' := 1) 0 GT hr (da_cons (de_callB call_len T.len boot_len (da_cons (de_nm 7 (da_nil (rc_lenT rfl (da_nil ⟨_, rfl, ?_, ?_, ?_, fun d g0 g1 => ?_⟩)))))))))))
      · rw [List.length_map]; omega
      · rw [List.length_map]; omega
      · show m < _
        omega
      rw [List.length_map] at g1
      have hlt : d.toNat < bs.length := by omega
      have hb0 := List.getElem?_eq_getElem hlt
      generalize hbb : bs[d.toNat] = b at hb0
      refine rd_ixT (z := brD b) (by rw [atI_nn g0, List.getElem?_map, hb0]; rfl) ?_
      refine wg_tup (wgs_cons (wg_name (wgs_cons (wg_name (wgs_cons (wg_name (wgs_nil ?_)))))))
      refine ds_cons (ds_append 4 (xs := xs) (de_tup (da_cons (de_nm 6 (da_cons (de_nm 8 (da_cons (de_nm 9 (da_nil ⟨len3, xs, rfl, ?_, ?_⟩)))))))))
      · have := hst
        omega
      refine ds_last (ds_set 3 (de_nm 10 ?_) nd)
      have hqb := hq.br b (List.mem_of_getElem? hb0)
      refine ⟨b.2.2, xs ++ [stepD sy b.1 b.2.1], m + 1, _, _, _, _, _, _, rfl, ?_, hqb.tg, ?_, fun x hx => ?_, ?_, ?_⟩
      · rw [walkTo_snoc, hw]
        show byPl ((ps[a]?).getD none) _ = _
        rw [List.getElem?_eq_getElem ha]
        show byPl ps[a] _ = _
        rw [hpl]
        exact byPl_own hq hb0
      · rw [List.length_append]
        show xs.length + 1 ≤ i + 1
        omega
      · rcases List.mem_append.mp hx with hx | hx
        · exact hst x hx
        · simp at hx
          exact ⟨sy, b.1, b.2.1, hx, hq.sy, hqb.hr, hqb.wd⟩
      · omega
      · omega
  · obtain ⟨a, xs, m, c5, c6, c7, c8, c9, c10, rfl, hw, ha, hx, hst, hm1, hm2⟩ := hI
    rw [rng_len] at hx hm2
    refine dss_freeze 4 (xs := xs) (ds_last (ds_ret (de_callTy call_tuple_of T.tup boot_tuple (da_cons (de_nm 4 (da_nil (rc_tupleL rfl (hΦ xs a m hw ha (by omega) hst hm1 (by omega)))))))))
end K3

set_option maxHeartbeats 200000
set_option Elab.async false
set_option linter.all false
set_option maxRecDepth 100000
set_option maxHeartbeats 4000000
namespace K3
open PySem PySem.Spec PyProof.Rows L2 DL
open PySem.W (alike alikeAll dataLt dataLe AllAlike Sortable EachIs)
variable {P : Program} {w : World} {K : PySem.W.Frag} {mg : Str → Option Value} {base : Heap} {f : Addr} {fd : FuncData} {k : Nat}
/-! ### the law's own walk along a row -/
theorem noD_shaped {d : PyData} (h : SeqAt.shaped d = true) : noD d = true := by
  have := noH_shaped h
  cases d with
  | dict kv => cases this
  | _ => rfl
theorem shaped_items {ys : List PyData} (h : SeqAt.shaped (.tuple ys) = true) : ∀ y ∈ ys, SeqAt.shaped y = true := fun y hy => by
  unfold SeqAt.shaped at *
  rw [Bool.and_eq_true] at *
  obtain ⟨h1, h2⟩ := h
  have h1' : PyData.canLayAll0 ys = true := h1
  have h2' : PyData.depthAll ys + 1 ≤ 64 := of_decide_eq_true h2
  constructor
  · clear h1 h2 h2'
    induction ys with
    | nil => cases hy
    | cons z ys ih =>
      simp only [PyData.canLayAll0, Bool.and_eq_true] at h1'
      rcases List.mem_cons.mp hy with rfl | hy
      · exact h1'.1
      · exact ih hy h1'.2
  · refine decide_eq_true ?_
    clear h1 h2 h1'
    have : y.depth ≤ PyData.depthAll ys := by
      clear h2'
      induction ys with
      | nil => cases hy
      | cons z ys ih =>
        simp only [PyData.depthAll]
        rcases List.mem_cons.mp hy with rfl | hy
        · omega
        · have := ih hy
          omega
    omega
theorem shaped_tup {ys : List PyData} (h : ∀ y ∈ ys, SeqAt.shaped y = true) (hd : ∀ y ∈ ys, y.depth ≤ 60) : SeqAt.shaped (.tuple ys) = true := by
  unfold SeqAt.shaped
  rw [Bool.and_eq_true]
  constructor
  · show PyData.canLayAll0 ys = true
    clear hd
    induction ys with
    | nil => rfl
    | cons z ys ih =>
      simp only [PyData.canLayAll0, Bool.and_eq_true]
      have h1 := h z List.mem_cons_self
      unfold SeqAt.shaped at h1
      rw [Bool.and_eq_true] at h1
      exact ⟨h1.1, ih fun y hy => h y (List.mem_cons_of_mem _ hy)⟩
  · refine decide_eq_true ?_
    have := deepAll hd
    show PyData.depthAll ys + 1 ≤ 64
    omega
theorem shaped_sub {ys zs : List PyData} (h : SeqAt.shaped (.tuple ys) = true) (hz : ∀ z ∈ zs, z ∈ ys) : SeqAt.shaped (.tuple zs) = true := by
  have hi := shaped_items h
  unfold SeqAt.shaped at h ⊢
  rw [Bool.and_eq_true] at h ⊢
  have h2' : PyData.depthAll ys + 1 ≤ 64 := of_decide_eq_true h.2
  constructor
  · show PyData.canLayAll0 zs = true
    clear h h2'
    induction zs with
    | nil => rfl
    | cons z zs ih =>
      simp only [PyData.canLayAll0, Bool.and_eq_true]
      have h1 := hi z (hz z List.mem_cons_self)
      unfold SeqAt.shaped at h1
      rw [Bool.and_eq_true] at h1
      exact ⟨h1.1, ih fun y hy => hz y (List.mem_cons_of_mem _ hy)⟩
  · refine decide_eq_true ?_
    have one : ∀ (l : List PyData), ∀ y ∈ l, y.depth ≤ PyData.depthAll l := fun l y hy => by
      induction l with
      | nil => cases hy
      | cons z l ih =>
        simp only [PyData.depthAll]
        rcases List.mem_cons.mp hy with rfl | hy
        · omega
        · have := ih hy
          omega
    have := deepAll (m := PyData.depthAll ys) (xs := zs) fun y hy => one ys y (hz y hy)
    show PyData.depthAll zs + 1 ≤ 64
    omega
theorem shaped_str {s : Str} (h : okS s) : SeqAt.shaped (.str s) = true := by
  simp [SeqAt.shaped, PyData.canLay0, PyData.depth]
  exact h
theorem eqv_str2 {s : Str} {d : PyData} : PyData.eqv d (.str s) = true ↔ d = .str s := by
  cases d <;> simp [PyData.eqv]
theorem asStep_3 {y0 y1 y2 : PyData} {a b c : Str} : asStep (.tuple [y0, y1, y2]) = some (a, b, c) ↔ y0 = .str a ∧ y1 = .str b ∧ y2 = .str c := by
  constructor
  · intro e
    unfold asStep at e
    split at e
    · rename_i h
      injection h with h
      injection h with h0 h
      injection h with h1 h
      injection h with h2 _
      injection e with e
      injection e with e1 e
      injection e with e2 e3
      subst e1 e2 e3
      exact ⟨h0, h1, h2⟩
    · cases e
  · rintro ⟨rfl, rfl, rfl⟩
    rfl
theorem asStep_len {ys : List PyData} (h : ys.length ≠ 3) : asStep (.tuple ys) = none := by
  unfold asStep
  split
  · rename_i e
    injection e with e
    subst e
    exact absurd rfl h
  · rfl
theorem byPl_none {s : Str} {bs : List Br} {d : PyData} (h : ∀ b ∈ bs, asStep d ≠ some (s, b.1, b.2.1)) : byPl (some (s, bs)) d = none := by
  show byBr s bs d = none
  unfold byBr
  rw [List.find?_eq_none.mpr fun b hb => by rw [decide_eq_false (h b hb)]; exact Bool.false_ne_true]
  rfl
def S_law_place_by : SpD := fun ds Φ => ∃ ps xs, ds = [plsD ps, .tuple xs] ∧ RwOk ps ∧ (∀ x ∈ xs, SeqAt.shaped x = true) ∧ Φ (optD (walkTo ps 0 xs))
def envV (ps : List Pl) (xs : List PyData) (a : Nat) (c3 c4 : Option C) : St' := ⟨0, [some (.d (plsD ps)), some (.d (.tuple xs)), some (.d (natD a)), c3, c4, none]⟩
def keepP (ys : List PyData) : PyData → Bool := fun z => PyData.eqv (cut2 z) (.tuple ys)
theorem keepP_iff {b : Br} {y1 y2 : PyData} : keepP [y1, y2] (brD b) = true ↔ y1 = .str b.1 ∧ y2 = .str b.2.1 := by
  show PyData.eqv (.tuple [.str b.1, .str b.2.1]) (.tuple [y1, y2]) = true ↔ _
  rw [eqv_tuple]
  constructor
  · rintro ⟨zs, h, e⟩
    injection h with h
    subst h
    obtain ⟨_, _, h, e1, e⟩ := eqvAll_cons.mp e
    injection h with h1 h
    subst h1 h
    obtain ⟨_, _, h, e2, e⟩ := eqvAll_cons.mp e
    injection h with h1 h
    subst h1
    exact ⟨eqv_str.mp e1, eqv_str.mp e2⟩
  · rintro ⟨rfl, rfl⟩
    exact ⟨_, rfl, eqvAll_cons.mpr ⟨_, _, rfl, eqv_str.mpr rfl, eqvAll_cons.mpr ⟨_, _, rfl, eqv_str.mpr rfl, eqvAll_nil.mpr rfl⟩⟩⟩
theorem byPl_filt {s : Str} {bs : List Br} {y1 y2 : PyData} : byPl (some (s, bs)) (.tuple [.str s, y1, y2]) = ((bs.filter fun b => keepP [y1, y2] (brD b)).map fun b => b.2.2).head? := by
  show byBr s bs _ = _
  unfold byBr
  rw [List.head?_map, List.head?_filter]
  congr 2
  funext b
  rw [Bool.eq_iff_iff, decide_eq_true_iff, keepP_iff, asStep_3]
  exact ⟨fun h => h.2, fun h => ⟨rfl, h⟩⟩
theorem ok__law_place_by (T : Tx mg) (F : Fd K "_law_place_by" s__law_place_by [] [] f fd) : FnOk P w K mg base CX0 1 f fd ["places", "row"] (spD K S_law_place_by) := by
  refine fnD F sc__law_place_by (fun ds Φ h => by obtain ⟨_, _, rfl, _⟩ := h; rfl) (fun B cdv A outer s H E ds Φ hr hp hS => ?_)
  obtain ⟨ps, xs, rfl, hok, hsh, hΦ⟩ := hS
  have nd := sc__law_place_by.nd
  have h1 := hok.one
  refine ds_cons (ds_set 2 (de_int ?_) nd)
  refine ds_cons (ds_for [3] (pi_tup pe_w) (pg_name (i := 3) nd rfl (.inr rfl)) (wi_tup (de_nm 1 ⟨xs, rfl, ?_⟩)))
  refine ⟨fun (i : Nat) δ => ∃ a c3 c4, δ = envV ps xs a c3 c4 ∧ walkTo ps 0 (xs.take i) = some a ∧ a < ps.length, ⟨0, none, none, rfl, rfl, by omega⟩, fun i y δ hy hI => ?_, fun δ hI => ?_⟩
  · obtain ⟨a, c3, c4, rfl, hw, ha⟩ := hI
    have hys := hsh y (List.mem_of_getElem? hy)
    have hgl : ((ps[a]?).getD none) = ps[a] := by rw [List.getElem?_eq_getElem ha]; rfl
    have hstep : walkTo ps 0 (xs.take (i + 1)) = byPl ps[a] y := by
      rw [take_snoc hy, walkTo_snoc, hw]
      show byPl ((ps[a]?).getD none) y = _
      rw [hgl]
    have stop : byPl ps[a] y = none → Φ .none := fun e => by
      have : walkTo ps 0 xs = none := by
        rw [← List.take_append_drop (i + 1) xs]
        refine walkTo_none ?_
        rw [hstep, e]
      rw [this] at hΦ
      exact hΦ
    refine wg_name ?_
    refine ds_cons (ds_if (dt_pw (dw_or (dt_cmp op_isN (de_ix ix_tup (de_nm 0 (de_nm 2 (rd_ixT (places_get ha) (de_non (rd_isN ⟨_, rfl, ?_⟩))))))))))
    generalize hpl : ps[a] = pl at *
    cases pl with
    | none => exact iteT (iteT (ds_last (ds_ret (de_non (stop rfl)))))
    | some q =>
      obtain ⟨sy, bs⟩ := q
      obtain ⟨hb1, hb2, hb3⟩ := hok.pl _ (hpl ▸ List.getElem_mem ha) sy bs rfl
      refine iteF (dw_or (dt_not (dt_val (de_isi T.isi T.tup (.inl rfl) boot_tuple (de_nm 3 ⟨noD_shaped hys, _, rfl, ?_⟩)))))
      have nstep : ∀ {z : PyData}, (∀ b ∈ bs, asStep z ≠ some (sy, b.1, b.2.1)) → byPl (some (sy, bs)) z = none := fun h => byPl_none h
      cases y with
      | tuple ys =>
        have hyi := shaped_items hys
        refine iteF (dw_or (dt_cmp op_ne (de_callB call_len T.len boot_len (da_cons (de_nm 3 (da_nil (rc_lenT rfl (de_int (rd_neI ⟨_, rfl, ?_⟩)))))))))
        by_cases h3 : ys.length = 3
        · match ys, h3 with
          | [y0, y1, y2], _ =>
            refine iteF (dw_or1 (dt_cmp (op_neD hr.units) (de_ix ix_tup (de_nm 3 (de_int (rd_ixT rfl (de_ix ix_tup (de_ix ix_tup (de_nm 0 (de_nm 2 (rd_ixT (places_get ha) ?_)))))))))))
            rw [hpl]
            refine de_int (rd_ixT rfl (rd_neD (hyi y0 (by simp)) (shaped_str hb2) ⟨_, rfl, ?_⟩))
            by_cases e0 : y0 = .str sy
            · rw [eqv_str2.mpr e0]
              subst e0
              refine iteF (ds_nil (ds_cons (ds_setFilt 4 [("branch", 5)] nd (pi_tup pe_w) (blkOk_by (N := n__law_place_by) (sc := defScope s__law_place_by) (by decide +kernel)) (fun _ _ _ _ _ => pg_name (i := 5) nd rfl (Or.inl rfl))
                (wi_tup (de_ix ix_tup (de_ix ix_tup (de_nm 0 (de_nm 2 (rd_ixT (places_get ha) ?_)))))))))
              rw [hpl]
              refine de_int (rd_ixT rfl ⟨bs.map brD, rfl, ?_, keepP [y1, y2], thenD, fun B' y hp' hy => wg_name ?_, ?_⟩)
              · rw [List.length_map]; omega
              · obtain ⟨b, hb, rfl⟩ := List.mem_map.mp hy
                obtain ⟨k1, k2⟩ := hb3 b hb
                intro s0 H0 C cl fp
                refine dt_cmp (op_eqD hr.units) (de_upto sl_tupA (de_nm 5 (ru_slT ?_)))
                rw [show ((2 : Int)) = ((2 : Nat) : Int) from rfl, cutD_upto]
                refine de_from sl_tupA (de_nm 3 (ru_slT ?_))
                rw [cutD_from1]
                refine rd_eqD (shaped_tup (fun z hz => ?_) (fun z hz => ?_)) (shaped_sub hys fun z hz => List.mem_of_mem_drop hz) ⟨_, rfl, rfl, rfl, fun _ s1 H1 C1 cl1 fp1 => de_ix ix_tup (de_nm 5 (de_int (rd_ixT rfl ⟨rfl, rfl⟩)))⟩
                · have hz' : z ∈ [PyData.str b.1, .str b.2.1] := hz
                  simp at hz'
                  rcases hz' with rfl | rfl
                  · exact shaped_str k1
                  · exact shaped_str k2
                · have hz' : z ∈ [PyData.str b.1, .str b.2.1] := hz
                  simp at hz'
                  rcases hz' with rfl | rfl <;> exact Nat.zero_le _
              · have e1 : ((bs.map brD).filter (keepP [y1, y2])).map thenD = ((bs.filter fun b => keepP [y1, y2] (brD b)).map fun b => b.2.2).map natD := by
                  rw [List.filter_map, List.map_map, List.map_map]
                  rfl
                have hf := byPl_filt (s := sy) (bs := bs) (y1 := y1) (y2 := y2)
                rw [e1]
                generalize ((bs.filter fun b => keepP [y1, y2] (brD b)).map fun b => b.2.2) = ts at hf ⊢
                refine ds_cons (ds_if (dt_cmp (op_eqNil hr.units) (de_nm 4 (de_dl (dl_lst (da_nil ⟨by simp, rd_eqNil ⟨_, rfl, ?_⟩⟩))))))
                cases ts with
                | nil => exact iteT (ds_last (ds_ret (de_non (stop hf))))
                | cons t ts =>
                  have at0 : atI ((t :: ts).map natD) 0 = some (natD t) := by rw [atI_nn (by decide)]; rfl
                  refine iteF (ds_nil (ds_last (ds_set 2 (de_ix ix_list (de_nm 4 (de_int (rd_ixL at0 ?_)))) nd)))
                  refine ⟨t, _, _, rfl, ?_, ?_⟩
                  · rw [hstep]
                    exact hf
                  · exact byPl_lt hok (at' := a) (d := .tuple [.str sy, y1, y2]) (by rw [hgl]; exact hf)
            · rw [Bool.eq_false_iff.mpr fun e => e0 (eqv_str2.mp e)]
              exact iteT (ds_last (ds_ret (de_non (stop (nstep fun b _ e => e0 (asStep_3.mp e).1)))))
        · rw [decide_eq_false (by omega)]
          exact iteT (ds_last (ds_ret (de_non (stop (nstep fun b _ e => by rw [asStep_len h3] at e; cases e)))))
      | _ => exact iteT (ds_last (ds_ret (de_non (stop (nstep fun b _ e => by cases e)))))
  · obtain ⟨a, c3, c4, rfl, hw, ha⟩ := hI
    refine ds_last (ds_ret (de_nm 2 ?_))
    rw [List.take_length] at hw
    rw [hw] at hΦ
    exact hΦ
end K3

set_option maxHeartbeats 200000
set_option Elab.async false
set_option linter.all false
set_option maxRecDepth 100000
set_option maxHeartbeats 1000000
namespace DL
open PySem PySem.Spec PyProof.Rows L2
section
variable {B : B0} {X : Cx} {δ : St'} {Φ : PE1} {e : Expr} {p p2 pos pp : Pos} {x pn : Str}
/-! ### a list of our own, by its places and its length -/
theorem de_lenO (i : Nat) {xs : List PyData} (hm : X.mg "len" = none) (h : Φ (.int (xs.length : Nat)) δ) (hi : δ.s[i]? = some (some (.own xs)) := by rfl) (hN : X.N[i]? = some x := by rfl)
    (hv : Vis X.env.scope x := by first | exact Or.inl rfl | exact Or.inr (Or.inl rfl) | exact Or.inr (Or.inr rfl)) (hd : (x == ("__debug__" : Str)) = false := by decide) (hcd : (x == ("__classdict__" : Str)) = false := by decide)
    (hg : Gl X "len" := by rfl) (he : starEach [.Name x p2] X.env = (false, eval (.Name x p2) X.env) :: starEach [] X.env := by rfl) (hpl : (backTo pos (starEach [] X.env)).any (·.1) = false := by rfl) :
    DE B X (.Call (.Name "len" p) [.Name x p2] [] pos) δ Φ := .of (pe_callB call_len_seq hg hm boot_len (pa_cons (pe_var hN hv hd hcd) pa_nil he) (by decide) (by decide) he hpl) fun σ F H r Q q => by
  obtain ⟨u, hu, a, us, rfl, hB, hF, hH, hD⟩ := r.cell i _ hi
  refine ⟨.ref a, hu, a, us, rfl, .inl (.inl (.inl hH)), ?_⟩
  rw [dpAll_len hD]
  exact q _ _ δ F H (Same.refl F) r (.int _) h
theorem de_ixO (i : Nat) (h : DE B X e δ fun y δ' => ∃ (xs : List PyData) (j : Int) (z : PyData), y = .int j ∧ δ'.s[i]? = some (some (.own xs)) ∧ atI xs j = some z ∧ Φ z δ') {xs0 : List PyData} (hi : δ.s[i]? = some (some (.own xs0)) := by rfl) (hN : X.N[i]? = some x := by rfl)
    (hv : Vis X.env.scope x := by first | exact Or.inl rfl | exact Or.inr (Or.inl rfl) | exact Or.inr (Or.inr rfl)) (hd : (x == ("__debug__" : Str)) = false := by decide) (hcd : (x == ("__classdict__" : Str)) = false := by decide) (hs : PlainIx e := by exact fun _ _ => rfl) :
    DE B X (.Subscript (.Name x pp) e pos) δ Φ := .of (pe_ix ix_list (pe_var hN hv hd hcd) pe_w hs) fun σ F H r Q q => by
  obtain ⟨u, hu, _⟩ := r.cell i _ hi
  refine ⟨u, hu, h σ F H r _ fun w y δ' F' H' e1 r' dw ⟨xs, j, z, hy, hi2, hat, p⟩ => ?_⟩
  subst hy
  cases dw
  obtain ⟨u2, hu2, a, us, rfl, hB, hF, hH, hD⟩ := r'.cell i _ hi2
  rw [hu] at hu2
  have : u = .ref a := by injection hu2 with h1; injection h1
  subst this
  obtain ⟨v, hv', dv⟩ := atI_map hD hat
  exact ⟨a, us, j, v, rfl, rfl, .inl (.inl hH), hv', q v z δ' F' H' e1 r' dv p⟩
end
/-! ### a dict that nobody else has, told by an expression -/
abbrev KvD := List (L2.Key × PyData)
def WDc (B : Bs) (te : TE) (δ : St') (Φ : KvD → St' → Prop) : Prop := ∀ σ F H, Rep B δ σ F H → ∀ Q : VK, (∀ a us kvs δ' F' H', Same F F' → Rep B δ' σ F' H' → B.H a = none → F' a = none → H' a = some (.dK ((kvs.map (·.1)).zip us)) →
  (∀ (i : Nat) (c : C), δ'.s[i]? = some (some c) → own? c = true → σ[i]? ≠ some (some (.ref a))) → DqAll B.K F' us (kvs.map (·.2)) → Φ kvs δ' → Q (.ref a) H') → te σ H Q
def DDc (B : B0) (X : Cx) (e : Expr) (δ : St') (Φ : KvD → St' → Prop) : Prop := WDc (bs X B) (wE X e) δ Φ
theorem DDc.of {B : B0} {X : Cx} {e : Expr} {te : TE} {δ : St'} {Φ : KvD → St' → Prop} (p : PE X e te) (h : WDc (bs X B) te δ Φ) : DDc B X e δ Φ := fun σ F H r Q q pins s I => p.run pins s σ H Q I (h σ F H r Q q)
/-- what nobody else has, told as it stands -/
theorem Rep.hold {B : Bs} {δ : St'} {σ : List (Option V)} {F H : Hp} (r : Rep B δ σ F H) {a : Addr} {o : HO} (hB : B.H a = none) (hF : F a = none) (hH : H a = some o) (hap : ∀ (i : Nat) (c : C), δ.s[i]? = some (some c) → own? c = true → σ[i]? ≠ some (some (.ref a))) :
    Rep B δ σ (upd F a o) H := by
  have e2 : Same F (upd F a o) := same_upd hF
  refine ⟨fun b u h => ?_, r.f0.trans e2, fun b h1 h2 => ?_, r.kp, fun p h => ?_, fun i c h => ?_, r.len, r.ap⟩
  · by_cases hb : b = a
    · subst hb; rw [upd_same] at h; cases h; exact hH
    · rw [upd_ne hb] at h; exact r.ex b u h
  · have hb : b ≠ a := fun z => h2 (z ▸ hB)
    rw [upd_ne hb]; exact r.fr b h1 h2
  · exact r.pot p h
  · obtain ⟨v, hv, hc⟩ := r.cell i c h
    refine ⟨v, hv, ?_⟩
    have ne : own? c = true → v ≠ .ref a := fun ho z => hap i c h ho (by rw [hv, z])
    cases c with
    | d x => exact dp_mono e2 _ _ hc
    | own xs =>
      obtain ⟨b, vs, rfl, h1, h2, h3, h4⟩ := hc
      have hb : b ≠ a := fun z => ne rfl (by rw [z])
      exact ⟨b, vs, rfl, h1, by rw [upd_ne hb]; exact h2, h3, dpAll_mono e2 _ _ h4⟩
    | dct kvs =>
      obtain ⟨b, vs, rfl, h1, h2, h3, h4⟩ := hc
      have hb : b ≠ a := fun z => ne rfl (by rw [z])
      exact ⟨b, vs, rfl, h1, by rw [upd_ne hb]; exact h2, h3, dpAll_mono e2 _ _ h4⟩
    | iset ns =>
      obtain ⟨b, rfl, h1, h2, h3⟩ := hc
      have hb : b ≠ a := fun z => ne rfl (by rw [z])
      exact ⟨b, rfl, h1, by rw [upd_ne hb]; exact h2, h3⟩
    | pot => exact hc
    | bor => exact hc
/-! ### defs that tell such a dict -/
abbrev SpDc := List PyData → (KvD → Prop) → Prop
def spDc (K : PySem.W.Frag) (S : SpDc) : Sp := fun vs H Q _ => ∃ F ds Φ, Same F H ∧ DqAll K F vs ds ∧ S ds Φ ∧
  ∀ a us kvs F' H', Same F F' → Same F' H' → (∀ b, F b = none → H b ≠ none → F' b = none) → (∀ b o, H b = some o → H' b = some o) → H a = none → F' a = none → H' a = some (.dK ((kvs.map (·.1)).zip us)) → DqAll K F' us (kvs.map (·.2)) → Φ kvs → Q (.ref a) H'
def WOc (B : Bs) (ts : TS) (δ : St') (R : KvD → St' → Prop) : Prop := ∀ σ F H, Rep B δ σ F H → ∀ D : Ends, (∀ a us kvs δ' σ' F' H', Same F F' → Rep B δ' σ' F' H' → B.H a = none → F' a = none → H' a = some (.dK ((kvs.map (·.1)).zip us)) → DqAll B.K F' us (kvs.map (·.2)) → R kvs δ' → D.rt (.ref a) H') → ts D σ H
def DOc (B : B0) (X : Cx) (sts : List Stmt) (δ : St') (R : KvD → St' → Prop) : Prop := WOc (bs X B) (wSs X sts) δ R
section
variable {B : B0} {X : Cx} {a b c e : Expr} {es : List Expr} {st : Stmt} {rest : List Stmt} {δ : St'} {Φ : PE1} {R Ψ : KvD → St' → Prop} {p pos pp p2 p3 : Pos} {x pn : Str} {k k' : Nat} {ps : List Str}
theorem DOc.of {sts : List Stmt} {ts : TS} (q : PSs X sts ts) (h : WOc (bs X B) ts δ R) : DOc B X sts δ R := fun σ F H r D z pins s I => q.run pins s σ H D I (h σ F H r D z)
theorem doc_cons (h : DS B X st δ (fun δ' => DOc B X rest δ' R) fun _ _ => False) : DOc B X (st :: rest) δ R := .of (pss_cons ps_w pss_w) fun σ F H r D z =>
  h σ F H r _ (fun δ' σ' F' H' e' r' q => q σ' F' H' r' D fun a us xs δ2 σ2 F2 H2 e2 => z a us xs δ2 σ2 F2 H2 (e'.trans e2)) fun v x δ' σ' F' H' e' r' d q => q.elim
theorem doc_own (i : Nat) {kvs : KvD} (h : R kvs δ) (hi : δ.s[i]? = some (some (.dct kvs)) := by rfl) (hN : X.N[i]? = some pn := by rfl)
    (hv : Vis X.env.scope pn := by first | exact Or.inl rfl | exact Or.inr (Or.inl rfl) | exact Or.inr (Or.inr rfl)) (hd : (pn == ("__debug__" : Str)) = false := by decide)
    (hcd : (pn == ("__classdict__" : Str)) = false := by decide) : DOc B X [.Return (some (.Name pn pp)) pos] δ R := .of (pss_one (ps_ret (pe_var hN hv hd hcd))) fun σ F H r D z => by
  obtain ⟨v, h1, a, us, rfl, h2, h3, h4, h5⟩ := r.cell i _ hi
  exact ⟨.ref a, h1, z a us kvs δ σ F H (Same.refl F) r h2 h3 h4 h5 h⟩
theorem doc_ret (h : DDc B X e δ R) : DOc B X [.Return (some e) pos] δ R := .of (pss_one (ps_ret pe_w)) fun σ F H r D z =>
  h σ F H r _ fun a us xs δ' F' H' e' r' k1 k2 k3 k4 k5 k6 => z a us xs δ' σ F' H' e' r' k1 k2 k3 k5 k6
theorem ddc_f {S : SpDc} (G : Fn X.prog X.w X.K X.mg X.base x k ps (spDc X.K S)) (hr : Room k' X.A) (h : DA B X (e :: es) δ fun ds δ' => S ds fun y => Ψ y δ') (hk : k ≤ k' := by decide)
    (hg : Gl X x := by rfl) (hdb : (x == ("__debug__" : Str)) = false := by decide) (he : starEach (e :: es) X.env = (false, eval e X.env) :: starEach es X.env := by rfl) (hpl : (backTo pos (starEach es X.env)).any (·.1) = false := by rfl) :
    DDc B X (.Call (.Name x p) (e :: es) [] pos) δ Ψ := by
  obtain ⟨f, fd, h1, h2, h3, h4⟩ := G.ex
  refine .of (pe_call h4 (hr.mono hk) hg h1 h2 h3 .nil pass0 pa_w hdb he hpl) fun σ F H r Q q => h σ F H r _ fun vs ds δ' F' H' e1 r' d hS => ⟨F', ds, _, r'.ex, (by rw [List.append_nil]; exact d), hS, fun a us xs F2 H2 q1 q2 q3 q4 q5 q6 q7 q8 q9 => ?_⟩
  obtain ⟨j1, j2, j3, j4⟩ := r'.fresh q5
  exact q a us xs δ' F2 H2 (e1.trans q1) (r'.called q1 q2 q3 q4) j1 q6 q7 j4 q8 q9
variable {N : St' → Prop} {R1 : PE1} {pos' : Pos}
/-- x = e -/
theorem ds_setDc (i : Nat) (h : DDc B X e δ fun kvs δ' => N (δ'.put i (.dct kvs))) (hN : X.N.Nodup) (hi : X.N[i]? = some x := by rfl) (hx : Loc X.env.scope x := by first | exact .inl rfl | exact .inr rfl)
    (hs : swapsWith e (some (.Name x pos')) pos.line X.env = pure false := by rfl) (hf : X.fn x = true ∨ X.env.scope.names.lookup x = some .local := by first | exact .inl rfl | exact .inr rfl) : DS B X (.Assign [.Name x pos'] e pos) δ N R1 :=
  .of (ps_set hN hi hx pe_w hs hf) fun σ F H r D hn hr => h σ F H r _ fun a us kvs δ' F' H' e1 r' k1 k2 k3 k4 k5 k6 => hn _ _ F' H' e1 (r'.putO i (c := .dct kvs) k4 ⟨a, us, rfl, k1, k2, k3, k5⟩) k6
theorem getD'_v {K : PySem.W.Frag} {F : Hp} {kvs : KvD} {us : List V} (h : DqAll K F us (kvs.map (·.2))) (k : L2.Key) : Dq K F ((valV ((kvs.map (·.1)).zip us) k).getD .non) ((getD' kvs k).getD .none) := by
  obtain ⟨g1, g2⟩ := get_v h k
  cases eg : getD' kvs k with
  | none => rw [g2 eg]; exact .non
  | some x =>
    obtain ⟨v, hv1, hv2⟩ := g1 x eg
    rw [hv1]
    exact hv2
/-- e.get(e2), e a dict that nobody else has -/
theorem de_getC {e2 : Expr} {apos : Pos} (hu : X.A.units + 1 < cLine) (m : M1 X e "get" apos e2 p2) (h : DDc B X e δ fun kvs δ1 => DE B X e2 δ1 fun y δ2 => ∃ k : L2.Key, y = keyD k ∧ Φ ((getD' kvs k).getD .none) δ2) : DE B X (.Call (.Attribute e "get" apos) [e2] [] p2) δ Φ :=
  .of (pe_dget1 hu pe_w pe_w m) fun σ F H r Q q => h σ F H r _ fun a us kvs δ1 F1 H1 e1 r1 k1 k2 k3 k4 k5 pr => by
    have r2 := r1.hold k1 k2 k3 k4
    have s2 : Same F1 (upd F1 a (.dK ((kvs.map (·.1)).zip us))) := same_upd k2
    refine ⟨a, rfl, .inl ⟨_, .inl k3⟩, pr σ _ H1 r2 _ fun v y δ2 F2 H2 e2' r3 d2 ⟨k, hy, ph⟩ => ?_⟩
    subst hy
    have hH2 : H2 a = some (.dK ((kvs.map (·.1)).zip us)) := r3.ex _ _ (e2' _ _ upd_same)
    refine ⟨_, ?_, q _ _ δ2 F2 H2 ((e1.trans s2).trans e2') r3 (dp_mono (s2.trans e2') _ _ (getD'_v k5 k)) ph⟩
    rw [keyD_v d2]
    exact DGet.k hH2
end
section
variable {P : Program} {w : World} {K : PySem.W.Frag} {mg : Str → Option Value} {base : Heap} {x qual : Str} {st : Stmt} {f : Addr} {fd : FuncData} {N ps : List Str} {k : Nat}
theorem fnDc {S : SpDc} {dvs : List V} {kws : List (Str × V)} (F : FunD K x qual (defArgs st) (defBody st) (defScope st) dvs kws f fd) (sc : FnScope N ps (defScope st)) (len : ∀ ds Φ, S ds Φ → ds.length = ps.length)
    (body : ∀ (B : B0) (cdv : Value) (A : Around) (outer : List Env) (s : Shared) (H : Hp) (E : XK) (ds : List PyData) (Φ : KvD → Prop), Room k (A.deeper (envOfC qual (defScope st) s.heap.objs.size f cdv)) → B.p = none → S ds Φ →
      DOc B (bodyX P w K mg base N qual (defScope st) f cdv A outer s H E) (defBody st) (ini N (ds.map C.d) 0) fun x _ => Φ x) : FnOk P w K mg base CX0 (k + 1) f fd ps (spDc K S) := by
  refine F.ok sc (fun vs H Q E h => ?_) (fun cdv A outer s H vs Q E hr h => ?_)
  · obtain ⟨F', ds, Φ, _, hd, hS, _⟩ := h
    rw [dpAll_len hd]; exact len ds Φ hS
  · obtain ⟨F', ds, Φ, e, hd, hS, q⟩ := h
    refine ⟨_, PSs.nox pss_w, ?_⟩
    refine body ⟨F', H, none, none⟩ cdv A outer s H E ds Φ hr rfl hS (L2.start N vs) F' H (rep_iniD e hd) _ fun a us xs δ' σ' F2 H2 e2 r2 k1 k2 k3 k5 k6 => ?_
    exact q a us xs F2 H2 e2 r2.ex r2.fr (fun b o z => r2.kp b o z (fun y => by cases y)) k1 k2 k3 k5 k6
end
end DL

set_option maxHeartbeats 200000
set_option Elab.async false
set_option linter.all false
set_option maxRecDepth 100000
set_option maxHeartbeats 2000000
namespace DL
open PySem PySem.Spec PyProof.Rows L2
/-! ### list(d.values()) -/
theorem kv_vals {kvs : List (L2.Key × V)} {vs : List (L2.Key × Value)} (kv : KV kvs vs) : ∀ {acc : List Value}, acc.length = vs.length → (∀ (j : Nat) (v : Value), acc[j]? = some v → ∃ k : L2.Key, vs[j]? = some (k, v)) → Vals (kvs.map (·.2)) acc := by
  induction kv with
  | nil =>
    intro acc hl _
    cases acc with
    | nil => exact .nil
    | cons a r => cases hl
  | cons h t ih =>
    intro acc hl hp
    cases acc with
    | nil => cases hl
    | cons a r =>
      obtain ⟨k, e⟩ := hp 0 a rfl
      have e' : _ = _ := Option.some.inj e
      refine .cons ?_ (ih (by simpa using hl) fun j v hj => hp (j + 1) v (by simpa using hj))
      have := h.2
      rw [e'] at this
      exact this
def tLV (te : TE) : TE := fun σ H Q => te σ H fun x H1 => ∃ (d : Addr) (kvs : List (L2.Key × V)), x = .ref d ∧ H1 d = some (.dK kvs) ∧ ∀ p, H1 p = none → Q (.ref p) (upd H1 p (.lst (kvs.map (·.2))))
theorem pe_listVals {X : Cx} {e : Expr} {te : TE} {p apos cpos pos : Pos} (hc : X.calm = true) (he : PE X e te) (hg : Gl X "list") (hm : X.mg "list" = none) (hbase : attributeBase e "values" X.env (eval e X.env) = eval e X.env) (hline : (apos.endLine == cpos.line) = true)
    (hs : starEach [.Call (.Attribute e "values" apos) [] [] cpos] X.env = (false, eval (.Call (.Attribute e "values" apos) [] [] cpos) X.env) :: starEach [] X.env) :
    PE X (.Call (.Name "list" p) [.Call (.Attribute e "values" apos) [] [] cpos] [] pos) (tLV te) := .mk fun pins s σ H Q I hq => by
  refine wpAny_Call_Name_kw (ld_blt I hg hm boot_list (PyProof.Rows.callWith_type1 ?_ hs rfl))
  rw [hs]
  refine Calls.spliced_cons (wpAny_Call_method (T := "dict") (id := "dict.values") hbase rfl hline F.plainAttrs_dict F.slot_dict_values F.type_dict_values (thn (he.run pins s σ H _ I hq) fun u s1 z => ?_))
  obtain ⟨x, H1, I1, rx, d, kvs, rfl, hd, q⟩ := z
  obtain rfl : u = Value.ref d := rx
  obtain ⟨hz, hs0, vs, kv, hdo⟩ := I1.hok d _ hd
  obtain ⟨ep, hat⟩ := hdo.dictAt
  have lk : kvs.length = vs.length := Paired.length kv
  generalize hs2 : ({ s1 with heap := s1.heap.push { cls := .type "dict_values", data := .fields #[.ref d] } } : Shared) = s2
  have k2 : ∀ b o, s1.heap.get? b = some o → s2.heap.get? b = some o := fun b o e => by rw [← hs2]; exact Heap.get?_push_of_some _ e
  have I2 : Inv X pins σ H1 s2 := by rw [← hs2]; exact I1.kept (t' := s1.toks) fun b ob q => Heap.get?_push_of_some _ q
  have view : s2.heap.IsValuesView s1.heap.objs.size d := by rw [← hs2]; exact ⟨_, Heap.get?_push_size _ rfl, rfl, rfl⟩
  have hat2 : s2.heap.DictAt (mixKind X.prog X.w) d vs ep := hat.at' fun o e => k2 d o e
  refine ⟨hdo.typeIs, hdo.mapOf.noDict, (show wpAny _ _ (callWith cpos (.builtin "dict.values") [.ref d] [] []) _ X.xe s1 from method_meetsIn F.slot_dict_values F.entry_dict_values rfl (PySem.evalArgs_none ⟨rfl, hdo.typeIs, F.args_dict_values_1 _, _, meets_dict_values (mixKind X.prog X.w) d hs0, ⟨vs, hdo⟩, ?_⟩))⟩
  rw [hs2]
  refine Calls.spliced_nil (PySem.W.kdl_call (PySem.W.kdl_values (knd := mixKind X.prog X.w) (kvs := vs) (ep := ep)) (I1.ok.hd hc) ⟨view, hat2⟩ (by rw [← lk]; exact hz) fun h' tk acc c hk hS hacc => ?_)
  have new : ObjOk X.prog X.w (upd H1 s2.heap.objs.size (.lst (kvs.map (·.2)))) h' s2.heap.objs.size (.lst (kvs.map (·.2))) := by
    refine ⟨by rw [List.length_map]; exact hz, acc.toList, c, kv_vals kv (by rw [Array.length_toList]; exact hacc.1) (fun j v e => hacc.2 j v (by rw [← Array.getElem?_toList]; exact e)), ?_⟩
    rw [Array.toArray_toList]
    exact hS
  exact ⟨.ref _, _, I2.laid (t' := tk) hk (Nat.le_refl _) new, rfl, q _ (I2.hok.fresh (Nat.le_refl _))⟩
end DL

set_option maxHeartbeats 200000
set_option Elab.async false
set_option linter.all false
set_option maxRecDepth 100000
set_option maxHeartbeats 2000000
namespace DL
open PySem PySem.Spec PyProof.Rows L2
section
variable {B : B0} {X : Cx} {δ : St'} {Φ : PE1} {Ψ : PL} {N : St' → Prop} {R : PE1} {e : Expr} {p p2 p3 pos pp apos : Pos} {x pn : Str} {kvs : KvD}
theorem keysD_v {K : PySem.W.Frag} {F : Hp} : ∀ {ks : List L2.Key}, DqAll K F (ks.map kV) (ks.map keyD)
  | [] => .nil
  | .inl i :: ks => .cons (.int i) keysD_v
  | .inr x :: ks => .cons (.str x) keysD_v
theorem zip_fst {α β : Type} : ∀ {as : List α} {bs : List β}, as.length ≤ bs.length → (as.zip bs).map (·.1) = as
  | [], _, _ => rfl
  | _ :: _, [], h => by simp at h
  | a :: as, b :: bs, h => by
    simp only [List.zip_cons_cons, List.map_cons]
    rw [zip_fst (by simpa using h)]
theorem zip_snd' {α β : Type} : ∀ {as : List α} {bs : List β}, bs.length ≤ as.length → (as.zip bs).map (·.2) = bs
  | _, [], _ => by simp
  | [], _ :: _, h => by simp at h
  | a :: as, b :: bs, h => by
    simp only [List.zip_cons_cons, List.map_cons]
    rw [zip_snd' (by simpa using h)]
/-- list(d) -/
theorem dl_keysS (i : Nat) (hm : X.mg "list" = none) (h : Ψ (kvs.map fun kv => keyD kv.1) δ) (hi : δ.s[i]? = some (some (.dct kvs)) := by rfl) (hN : X.N[i]? = some x := by rfl)
    (hv : Vis X.env.scope x := by first | exact Or.inl rfl | exact Or.inr (Or.inl rfl) | exact Or.inr (Or.inr rfl)) (hd : (x == ("__debug__" : Str)) = false := by decide) (hcd : (x == ("__classdict__" : Str)) = false := by decide)
    (hc : X.calm = true := by rfl) (hg : Gl X "list" := by rfl) (he : starEach [.Name x p2] X.env = (false, eval (.Name x p2) X.env) :: starEach [] X.env := by rfl) (hpl : (backTo pos (starEach [] X.env)).any (·.1) = false := by rfl) :
    DLs B X (.Call (.Name "list" p) [.Name x p2] [] pos) δ Ψ := .of (pe_callTy (call_listD hc) hg hm boot_list (pa_cons (pe_var hN hv hd hcd) pa_nil he) (by decide) (by decide) he hpl) fun σ F H r Q q => by
  obtain ⟨u, hu, a, us, rfl, hB, hF, hH, hD⟩ := r.cell i _ hi
  refine ⟨.ref a, hu, a, _, rfl, .inl hH, fun l hl => ?_⟩
  have hz : us.length = kvs.length := by rw [dpAll_len hD, List.length_map]
  have e1 : (((kvs.map fun kv => kv.1).zip us).map fun kv => kV kv.1) = (kvs.map fun kv => kv.1).map kV := by
    conv => rhs; rw [← zip_fst (as := kvs.map fun kv => kv.1) (bs := us) (by rw [List.length_map, hz]; exact Nat.le_refl _)]
    rw [List.map_map]
    rfl
  rw [e1]
  obtain ⟨k1, k2, k3, k4⟩ := r.newL hl ((kvs.map fun kv => kv.1).map kV)
  refine q l _ _ δ F _ (Same.refl F) k1 k2 k3 upd_same k4 keysD_v ?_
  rw [List.map_map]
  exact h
/-- list(d.values()) -/
theorem dl_valsS (i : Nat) (hm : X.mg "list" = none) (h : Ψ (kvs.map (·.2)) δ) (hi : δ.s[i]? = some (some (.dct kvs)) := by rfl) (hN : X.N[i]? = some x := by rfl)
    (hv : Vis X.env.scope x := by first | exact Or.inl rfl | exact Or.inr (Or.inl rfl) | exact Or.inr (Or.inr rfl)) (hd : (x == ("__debug__" : Str)) = false := by decide) (hcd : (x == ("__classdict__" : Str)) = false := by decide)
    (hc : X.calm = true := by rfl) (hg : Gl X "list" := by rfl) (hb : attributeBase (.Name x p2) "values" X.env (eval (.Name x p2) X.env) = eval (.Name x p2) X.env := by rfl) (hl : (apos.endLine == p3.line) = true := by rfl)
    (hs : starEach [.Call (.Attribute (.Name x p2) "values" apos) [] [] p3] X.env = (false, eval (.Call (.Attribute (.Name x p2) "values" apos) [] [] p3) X.env) :: starEach [] X.env := by rfl) :
    DLs B X (.Call (.Name "list" p) [.Call (.Attribute (.Name x p2) "values" apos) [] [] p3] [] pos) δ Ψ := .of (pe_listVals hc (pe_var hN hv hd hcd) hg hm hb hl hs) fun σ F H r Q q => by
  obtain ⟨u, hu, a, us, rfl, hB, hF, hH, hD⟩ := r.cell i _ hi
  refine ⟨.ref a, hu, a, _, rfl, hH, fun l hl => ?_⟩
  rw [zip_snd' (by rw [dpAll_len hD, List.length_map, List.length_map]; exact Nat.le_refl _)]
  obtain ⟨k1, k2, k3, k4⟩ := r.newL hl us
  exact q l us _ δ F _ (Same.refl F) k1 k2 k3 upd_same k4 hD h
/-- list(e.values()), e a dict that nobody else has -/
theorem dl_valsC (hm : X.mg "list" = none) (h : DDc B X e δ fun kvs δ' => Ψ (kvs.map (·.2)) δ') (hc : X.calm = true := by rfl) (hg : Gl X "list" := by rfl) (hb : attributeBase e "values" X.env (eval e X.env) = eval e X.env := by rfl) (hl : (apos.endLine == p3.line) = true := by rfl)
    (hs : starEach [.Call (.Attribute e "values" apos) [] [] p3] X.env = (false, eval (.Call (.Attribute e "values" apos) [] [] p3) X.env) :: starEach [] X.env := by rfl) :
    DLs B X (.Call (.Name "list" p) [.Call (.Attribute e "values" apos) [] [] p3] [] pos) δ Ψ := .of (pe_listVals hc pe_w hg hm hb hl hs) fun σ F H r Q q => h σ F H r _ fun a us kvs δ1 F1 H1 e1 r1 k1 k2 k3 k4 hD pr => by
  refine ⟨a, _, rfl, k3, fun l hl => ?_⟩
  rw [zip_snd' (by rw [dpAll_len hD, List.length_map, List.length_map]; exact Nat.le_refl _)]
  obtain ⟨j1, j2, j3, j4⟩ := r1.newL hl us
  exact q l us _ δ1 F1 _ e1 j1 j2 j3 upd_same j4 hD pr
/-- d.clear() -/
theorem ds_clear (i : Nat) (h : N (δ.put i (.dct []))) (hi : δ.s[i]? = some (some (.dct kvs)) := by rfl) (hN : X.N[i]? = some x := by rfl)
    (hv : Vis X.env.scope x := by first | exact Or.inl rfl | exact Or.inr (Or.inl rfl) | exact Or.inr (Or.inr rfl)) (hd : (x == ("__debug__" : Str)) = false := by decide) (hcd : (x == ("__classdict__" : Str)) = false := by decide)
    (hb : attributeBase (.Name x p2) "clear" X.env (eval (.Name x p2) X.env) = eval (.Name x p2) X.env := by rfl) (hl : (apos.endLine == p3.line) = true := by rfl) (hs : swapsWith (.Call (.Attribute (.Name x p2) "clear" apos) [] [] p3) none pos.line X.env = pure false := by rfl) :
    DS B X (.Expr (.Call (.Attribute (.Name x p2) "clear" apos) [] [] p3) pos) δ N R := .of (ps_expr (pe_dclear (pe_var hN hv hd hcd) hb hl) hs) fun σ F H r D hn hr => by
  obtain ⟨u, hu, a, us, rfl, hB, hF, hH, hD⟩ := r.cell i _ hi
  refine ⟨.ref a, hu, .inr (.inr (.inl ⟨rfl, .inl ⟨_, hH⟩⟩)), a, _, rfl, rfl, hH, ?_⟩
  exact hn _ σ F _ (Same.refl F) (r.write (c2 := .dct []) hi rfl hu hB hF rfl ⟨a, [], rfl, hB, hF, upd_same, .nil⟩) h
/-- isinstance(d, dict) -/
theorem de_isiD (i : Nat) (hm : X.mg "isinstance" = none) (hmT : X.mg "dict" = none) (h : Φ (.bool true) δ) (hi : δ.s[i]? = some (some (.dct kvs)) := by rfl) (hN : X.N[i]? = some x := by rfl)
    (hv : Vis X.env.scope x := by first | exact Or.inl rfl | exact Or.inr (Or.inl rfl) | exact Or.inr (Or.inr rfl)) (hd : (x == ("__debug__" : Str)) = false := by decide) (hcd : (x == ("__classdict__" : Str)) = false := by decide)
    (hg : Gl X "isinstance" := by rfl) (hgT : Gl X "dict" := by rfl) (he : starEach [.Name x p2, .Name "dict" p3] X.env = (false, eval (.Name x p2) X.env) :: starEach [.Name "dict" p3] X.env := by rfl)
    (he2 : starEach [.Name "dict" p3] X.env = (false, eval (.Name "dict" p3) X.env) :: starEach [] X.env := by rfl) (hpl : (backTo pos (starEach [.Name "dict" p3] X.env)).any (·.1) = false := by rfl) :
    DE B X (.Call (.Name "isinstance" p) [.Name x p2, .Name "dict" p3] [] pos) δ Φ :=
  .of (pe_callB call_isi hg hm (by decide +kernel) (pa_cons (pe_var hN hv hd hcd) (pa_cons (pe_bltn (v := .ty "dict") hgT hmT (by decide +kernel) rfl (by decide) (by decide)) pa_nil he2) he) (by decide) (by decide) he hpl) fun σ F H r Q q => by
    obtain ⟨u, hu, a, us, rfl, hB, hF, hH, hD⟩ := r.cell i _ hi
    refine ⟨.ref a, hu, ?_⟩
    exact ⟨.ref a, .ty "dict", .type "dict", .type "dict", true, rfl, .ty "dict", .base (.dK hH), kit_ty (by decide +kernel), q _ _ δ F H (Same.refl F) r (.bl true) h⟩
end
/-! ### {kx: vx for tg in iter} -/
theorem putK_new {kvs : List (L2.Key × V)} {k : L2.Key} {v : V} (h : k ∉ kvs.map (·.1)) : putK kvs k v = kvs ++ [(k, v)] := by
  unfold putK
  rw [if_neg]
  intro z
  obtain ⟨kv, h1, h2⟩ := List.any_eq_true.mp z
  exact h (List.mem_map.mpr ⟨kv, h1, of_decide_eq_true h2⟩)
theorem wdc_dc {B : Bs} {wi : TI} {g : TG} {tk tv : TE} {vs : List Nat} {δ : St'} {Φ : KvD → St' → Prop}
    (h : WI B wi δ fun xs δ1 => xs.length ≤ 1000 ∧ ∃ f : PyData → L2.Key × PyData, (xs.map fun y => (f y).1).Nodup ∧
      (∀ (B' : B0) y, Sub B.toB0 B' → y ∈ xs → WG ⟨B', B.w, B.K⟩ g vs y ⟨δ1.n, inn vs 0 δ1.s⟩ fun δ2 => WE ⟨B', B.w, B.K⟩ tk δ2 fun z δ3 => z = keyD (f y).1 ∧ WE ⟨B', B.w, B.K⟩ tv δ3 fun u δ4 => u = (f y).2 ∧ δ4.n = δ1.n) ∧ Φ (xs.map f) δ1) : WDc B (tDc wi g tYes tk tv vs) δ Φ := fun σ F H r Q q =>
  h σ F H r _ fun J xs δ1 F1 H1 e1 r1 w ⟨hz, f, hnd, hs, hd⟩ D hD => by
    obtain ⟨hB, hF, hp, hap⟩ := r1.fresh hD
    refine ⟨fun i m H2 => i + m = xs.length ∧ ∃ F2 us, Same F1 F2 ∧ Rep B δ1 σ F2 H2 ∧ H2 D = some (.dK ((((xs.take i).map f).map (·.1)).zip us)) ∧ F2 D = none ∧ DqAll B.K F2 us (((xs.take i).map f).map (·.2)),
      ⟨xs.length, by simp, F1, [], Same.refl _, r1.side hF hB hap, upd_same, hF, .nil⟩, fun i m H2 hW => ?_⟩
    obtain ⟨em, F2, us, e2, r2, hD2, hF2, hus⟩ := hW
    by_cases hlt : i < xs.length
    · have hxi := List.getElem?_eq_getElem hlt
      have hti : xs.take (i + 1) = xs.take i ++ [xs[i]] := by rw [List.take_succ, hxi]; rfl
      refine .inr ⟨w.go i _ σ F2 H2 e2 r2 hlt, fun H' => ∃ F3 us, Same F1 F3 ∧ Rep B δ1 σ F3 H' ∧ H' D = some (.dK ((((xs.take (i + 1)).map f).map (·.1)).zip us)) ∧ F3 D = none ∧ DqAll B.K F3 us (((xs.take (i + 1)).map f).map (·.2)), fun H' p => ⟨m - 1, by omega, by omega, p⟩, fun x H' hy => ?_⟩
      obtain ⟨F3, e3, r3, s3, f3, d3⟩ := w.yld i _ σ F2 H2 x H' xs[i] e2 r2 hxi hy
      have hD3 := s3 _ _ hD2
      have hF3 : F3 D = none := f3 D hF2 (by rw [hD2]; exact fun z => by cases z)
      refine hs ⟨F3, H', B.p, B.m⟩ xs[i] ⟨rfl, r3.f0, r3.fr, r3.kp⟩ (List.getElem_mem hlt) (wipe σ vs) F3 H' (r3.inner vs) x d3 _ fun δ2 σ2 r4 k1 k2 p4 => ?_
      refine ⟨wipe_same (fun j hj => k1 j fun z => hj z) k2, ?_⟩
      unfold tYes
      simp only [if_true]
      refine p4 σ2 F3 H' r4 _ fun v z δ3 F5 H5 e5 r5 d5 ⟨hz5, p5⟩ => ?_
      subst hz5
      refine p5 σ2 F5 H5 r5 _ fun v2 u δ4 F6 H6 e6 r6 d6 ⟨hu6, hn6⟩ => ?_
      subst hu6
      have ro := r3.outer r6
      rw [hn6] at ro
      have hD6 := r6.kp D _ hD3 hp
      have hF6 : F6 D = none := r6.fr D hF3 (by show H' D ≠ none; rw [hD3]; exact fun z => by cases z)
      have hlen : us.length = (((xs.take i).map f).map (·.1)).length := by rw [dpAll_len hus]; simp only [List.length_map]
      have hnew : (f xs[i]).1 ∉ ((((xs.take i).map f).map (·.1)).zip us).map (·.1) := by
        rw [zip_fst (by rw [hlen]; exact Nat.le_refl _)]
        intro hm
        rw [List.map_map] at hm
        obtain ⟨y, hy1, hy2⟩ := List.mem_map.mp hm
        obtain ⟨j, hj, ej⟩ := List.getElem_of_mem hy1
        rw [List.length_take] at hj
        rw [List.getElem_take] at ej
        have n1 := List.pairwise_iff_getElem.mp hnd j i (by rw [List.length_map]; omega) (by rw [List.length_map]; exact hlt) (by omega)
        rw [List.getElem_map, List.getElem_map, ej] at n1
        exact n1 hy2
      refine ⟨_, (f xs[i]).1, keyD_v d5, hD6, ?_, F6, us ++ [v2], ((e2.trans e3).trans e5).trans e6, ro.side hF6 hB hap, ?_, hF6, ?_⟩
      · rw [sizeLine_eq, List.length_zip, List.length_map, List.length_map, List.length_take]; omega
      · rw [upd_same, putK_new hnew, hti, List.map_append, List.map_append, List.zip_append hlen.symm]
        rfl
      · rw [hti, List.map_append, List.map_append]
        exact dpAll_app (dpAll_mono ((e3.trans e5).trans e6) _ _ hus) (.cons d6 .nil)
    · have : i = xs.length := by omega
      subst this
      rw [List.take_length] at hD2 hus
      exact .inl ⟨w.stop _ _ σ F2 H2 e2 r2 (Nat.le_refl _), q D us (xs.map f) δ1 F2 H2 (e1.trans e2) r2 hB hF2 hD2 hap hus hd⟩
section
variable {B : B0} {X : Cx} {kx vx tg iter : Expr} {scope : Scope} {δ : St'} {Φ : KvD → St' → Prop} {pos : Pos} {wi : TI} {g : TG}
theorem ddc_dc (own : List (Str × Nat)) (hN : X.N.Nodup) (hi : PI X tg iter wi) (ok : BlkOk X.N X.env.scope scope own) (hg : ∀ (s : Shared) (H : Hp) (C : Addr) (cl : List (Str × Addr)) (fp : List Addr), PG (X.blk s H scope (compEnvC scope cl C X.env) fp) tg g)
    (h : WI (bs X B) wi δ fun xs δ1 => xs.length ≤ 1000 ∧ ∃ f : PyData → L2.Key × PyData, (xs.map fun y => (f y).1).Nodup ∧
      (∀ (B' : B0) y, Sub B B' → y ∈ xs → WG (bs X B') g (own.map (·.2)) y ⟨δ1.n, inn (own.map (·.2)) 0 δ1.s⟩ fun δ2 => ∀ s0 H0 C cl fp, DE B' (X.blk s0 H0 scope (compEnvC scope cl C X.env) fp) kx δ2 fun z δ3 => z = keyD (f y).1 ∧
        ∀ s0 H0 C cl fp, DE B' (X.blk s0 H0 scope (compEnvC scope cl C X.env) fp) vx δ3 fun u δ4 => u = (f y).2 ∧ δ4.n = δ1.n) ∧ Φ (xs.map f) δ1)
    (hc : X.calm = true := by rfl) (hs : ∀ x, foldedSetIterable iter X.env x = pure x := by intro _; rfl) : DDc B X (.DictComp kx vx [⟨tg, iter, [], 0⟩] scope pos) δ Φ :=
  .of (pe_dc (tk := bE X scope kx) (tv := bE X scope vx) hc hN hi ok hg (fun _ _ _ _ _ => pts_nil) (fun s H C cl fp => ⟨fun pins s' σ H' Q I h => h s H C cl fp pins s' I⟩) (fun s H C cl fp => ⟨fun pins s' σ H' Q I h => h s H C cl fp pins s' I⟩) hs)
    (wdc_dc (B := bs X B) fun σ F H r R q => h σ F H r R fun J xs δ' F' H' e r' w ⟨hz, f, hnd, h1, h2⟩ => q J xs δ' F' H' e r' w ⟨hz, f, hnd, fun B' y hp hy σ F H r v d Q qq => h1 B' y hp hy σ F H r v d Q fun δ2 σ2 r2 k1 k2 p => qq δ2 σ2 r2 k1 k2
      ((bE_of p).mono fun z δ3 ⟨hz3, p3⟩ => ⟨hz3, bE_of p3⟩), h2⟩)
end
end DL

set_option maxHeartbeats 200000
set_option Elab.async false
set_option linter.all false
set_option maxRecDepth 100000
set_option maxHeartbeats 4000000
namespace K3
open PySem PySem.Spec PyProof.Rows L2 DL
variable {P : Program} {w : World} {K : PySem.W.Frag} {mg : Str → Option Value} {base : Heap} {f : Addr} {fd : FuncData} {k : Nat}
/-! ### the views of a row -/
def rowD (ts : List St3) : PyData := .tuple (ts.map s3D)
def S_view_of : SpD := fun ds Φ => ∃ hs ws ps ts h n, ds = [bdD hs ws ps, rowD ts, .str h] ∧ BdOk hs ws ps ∧ ts.length ≤ 1000 ∧ Askd (rowD ts) ∧ goTo ps (rowD ts) = some n ∧ h ∈ hs ∧ Φ (rowD (viewL h ts))
theorem ok_view_of (T : Tx mg) (GC : Fn P w K mg base "check_row" 8 ["board", "row"] (spD K S_check_row)) (GH : Fn P w K mg base "check_hand" 1 ["board", "hand"] (spD K S_check_hand)) (GV : Fn P w K mg base "view_at" 1 ["row", "hand"] (spD K S_view_at))
    (F : Fd K "view_of" s_view_of [] [] f fd) : FnOk P w K mg base CX0 9 f fd ["board", "row", "hand"] (spD K S_view_of) := by
  refine fnD F sc_view_of (fun ds Φ h => by obtain ⟨_, _, _, _, _, _, rfl, _⟩ := h; rfl) (fun B cdv A outer s H E ds Φ hr hp hS => ?_)
  obtain ⟨hs, ws, ps, ts, h, n, rfl, hb, hl, ha, hn, hh, hΦ⟩ := hS
  refine ds_cons (ds_expr (de_f (k' := 8) GC hr (da_cons (de_nm 0 (da_cons (de_nm 1 (da_nil ⟨hs, ws, ps, _, n, rfl, hb, ha, hn, ?_⟩)))))))
  refine ds_cons (ds_expr (de_f (k' := 8) GH hr (da_cons (de_nm 0 (da_cons (de_nm 2 (da_nil ⟨hs, ws, ps, h, rfl, hh, ?_⟩)))))))
  exact ds_last (ds_ret (de_f (k' := 8) GV hr (da_cons (de_nm 1 (da_cons (de_nm 2 (da_nil ⟨ts, h, rfl, hl, hΦ⟩)))))))
def seesF (ts : List St3) : PyData → L2.Key × PyData
  | .str h => (.inr h, rowD (viewL h ts))
  | _ => (.inl 0, .none)
def viewsD (ts : List St3) (hs : List Str) : KvD := hs.map fun h => (.inr h, rowD (viewL h ts))
def S_views_of : SpDc := fun ds Φ => ∃ hs ws ps ts n, ds = [bdD hs ws ps, rowD ts] ∧ BdOk hs ws ps ∧ ts.length ≤ 1000 ∧ Askd (rowD ts) ∧ goTo ps (rowD ts) = some n ∧ Φ (viewsD ts hs)
theorem ok_views_of (T : Tx mg) (GC : Fn P w K mg base "check_row" 8 ["board", "row"] (spD K S_check_row)) (GV : Fn P w K mg base "view_at" 1 ["row", "hand"] (spD K S_view_at))
    (F : Fd K "views_of" s_views_of [] [] f fd) : FnOk P w K mg base CX0 9 f fd ["board", "row"] (spDc K S_views_of) := by
  refine fnDc F sc_views_of (fun ds Φ h => by obtain ⟨_, _, _, _, _, rfl, _⟩ := h; rfl) (fun B cdv A outer s H E ds Φ hr hp hS => ?_)
  obtain ⟨hs, ws, ps, ts, n, rfl, hb, hl, ha, hn, hΦ⟩ := hS
  have nd := sc_views_of.nd
  refine doc_cons (ds_expr (de_f (k' := 8) GC hr (da_cons (de_nm 0 (da_cons (de_nm 1 (da_nil ⟨hs, ws, ps, _, n, rfl, hb, ha, hn, ?_⟩)))))))
  refine doc_ret (ddc_dc [("hand", 2)] nd (pi_tup pe_w) (blkOk_by (N := n_views_of) (sc := defScope s_views_of) (by decide +kernel)) (fun _ _ _ _ _ => pg_name (i := 2) nd rfl (Or.inl rfl))
    (wi_tup (de_ix ix_tup (de_nm 0 (de_int (rd_ixT rfl ⟨hs.map PyData.str, rfl, ?_, seesF ts, ?_, fun B' y hp' hy => wg_name ?_, ?_⟩))))))
  · rw [List.length_map]; have := hb.h6; omega
  · rw [List.map_map]
    exact List.pairwise_map.mpr (hb.hd.imp fun h e => h (by injection e))
  · obtain ⟨h, hh, rfl⟩ := List.mem_map.mp hy
    intro s0 H0 C cl fp
    refine de_nm 2 ⟨rfl, fun s1 H1 C1 cl1 fp1 => ?_⟩
    exact de_f (k' := 8) GV hr (da_cons (de_nm 1 (da_cons (de_nm 2 (da_nil ⟨ts, h, rfl, hl, rfl, rfl⟩)))))
  · rw [List.map_map]
    exact hΦ
end K3

set_option maxHeartbeats 200000
set_option Elab.async false
set_option linter.all false
set_option maxRecDepth 100000
set_option maxHeartbeats 4000000
namespace K3
open PySem PySem.Spec PyProof.Rows L2 DL
/-! ### the views tell the row -/
theorem s3D_step (s h w : Str) : s3D (s, h, w) = stepD s h w := rfl
theorem viewL_cons {k : Str} {t : St3} {ts : List St3} : viewL k (t :: ts) = (seen k t).toList ++ viewL k ts := by
  unfold viewL
  rw [List.filterMap_cons]
  cases seen k t <;> rfl
theorem walk_cons {hs ws : List Str} {ps : List Pl} (hb : BdOk hs ws ps) {a n : Nat} {t : St3} {xs : List PyData} (h : walkTo ps a (s3D t :: xs) = some n) : ∃ sy bs b, ps[a]? = some (some (sy, bs)) ∧ b ∈ bs ∧ t = (sy, b.1, b.2.1) ∧ walkTo ps b.2.2 xs = some n := by
  have h' : (match byPl ((ps[a]?).getD none) (s3D t) with | none => none | some n => walkTo ps n xs) = some n := h
  cases e : byPl ((ps[a]?).getD none) (s3D t) with
  | none => rw [e] at h'; cases h'
  | some m =>
    rw [e] at h'
    cases ep : ps[a]? with
    | none => rw [ep] at e; cases e
    | some pl =>
      rw [ep] at e
      cases pl with
      | none => cases e
      | some q =>
        obtain ⟨sy, bs⟩ := q
        have e' : (bs.find? fun b => decide (asStep (s3D t) = some (sy, b.1, b.2.1))).map (fun b => b.2.2) = some m := e
        obtain ⟨b, hb', hm⟩ := Option.map_eq_some_iff.mp e'
        have ha := of_decide_eq_true (List.find?_some (p := fun b : Br => decide (asStep (s3D t) = some (sy, b.1, b.2.1))) hb')
        have ha' : some (t.1, t.2.1, t.2.2) = some (sy, b.1, b.2.1) := ha
        injection ha' with ha'
        refine ⟨sy, bs, b, rfl, List.mem_of_find?_eq_some hb', ?_, ?_⟩
        · rw [← ha']
        · have hm' : b.2.2 = m := hm
          rw [hm']
          exact h'
theorem quiet {hs ws : List Str} {ps : List Pl} {s : Str} (hb : BdOk hs ws ps) (hf : Fallen ps s) : ∀ {ts : List St3} {k n : Nat}, walkTo ps k (ts.map s3D) = some n → Rc ps none true (fallsOf ps s) k → viewL s ts = []
  | [], _, _, _, _ => rfl
  | t :: ts, k, n, hw, hr => by
    obtain ⟨sy, bs, b, hp, hm, rfl, hw'⟩ := walk_cons hb hw
    have ht := hf k hr _ hp
    have ht' : (decide (sy = s) || bs.any fun b => decide (b.1 = s)) = false := ht
    rw [Bool.or_eq_false_iff] at ht'
    have h1 : sy ≠ s := of_decide_eq_false ht'.1
    have h2 : b.1 ≠ s := fun e => by
      have : (bs.any fun b => decide (b.1 = s)) = true := List.any_eq_true.mpr ⟨b, hm, decide_eq_true e⟩
      rw [this] at ht'
      cases ht'.2
    rw [viewL_cons, show seen s (sy, b.1, b.2.1) = none from by unfold seen; rw [if_neg h2, if_neg h1]]
    exact quiet hb hf hw' (.step hr ⟨_, hp, b, brs_mem.mpr ⟨hm, by simp⟩, rfl⟩)
theorem fault_rc {hs ws : List Str} {ps : List Pl} {a : Nat} {sy : Str} {bs : List Br} {b : Br} (hb : BdOk hs ws ps) (hp : ps[a]? = some (some (sy, bs))) (hm : b ∈ bs) (hf : b.2.1 = flt) : Fallen ps sy ∧ Rc ps none true (fallsOf ps sy) b.2.2 := by
  have hq := hb.pl _ (List.mem_of_getElem? hp) sy bs rfl
  have hc : 0 < bs.countP fun b => decide (b.2.1 = flt) := List.countP_pos_iff.mpr ⟨b, hm, decide_eq_true hf⟩
  have hw : sy ∈ ws := by
    have := hq.fa
    split at this
    · assumption
    · omega
  refine ⟨hb.fal sy hw, .base ?_⟩
  unfold fallsOf
  refine List.mem_flatMap.mpr ⟨_, List.mem_of_getElem? hp, ?_⟩
  show b.2.2 ∈ (if sy = sy then (bs.filter fun b => decide (b.2.1 = flt)).map fun b => b.2.2 else [])
  rw [if_pos rfl]
  exact List.mem_map.mpr ⟨b, List.mem_filter.mpr ⟨hm, decide_eq_true hf⟩, rfl⟩
theorem count_one {α : Type} {p : α → Bool} : ∀ {l : List α} {x y : α}, l.countP p ≤ 1 → x ∈ l → y ∈ l → p x = true → p y = true → x = y
  | [], _, _, _, h, _, _, _ => by cases h
  | a :: l, x, y, hc, hx, hy, px, py => by
    rw [List.countP_cons] at hc
    have z : ∀ {w}, w ∈ l → p w = true → 0 < l.countP p := fun hw pw => List.countP_pos_iff.mpr ⟨_, hw, pw⟩
    rcases List.mem_cons.mp hx with ex | hx2
    · rcases List.mem_cons.mp hy with ey | hy2
      · rw [ex, ey]
      · rw [← ex, if_pos px] at hc
        have := z hy2 py
        omega
    · rcases List.mem_cons.mp hy with ey | hy2
      · rw [← ey, if_pos py] at hc
        have := z hx2 px
        omega
      · exact count_one (by omega) hx2 hy2 px py
theorem br_uniq {hs ws : List Str} {m : Nat} {sy : Str} {bs : List Br} (hq : POk hs ws m sy bs) {b c : Br} (h1 : b ∈ bs) (h2 : c ∈ bs) (e1 : b.1 = c.1) (e2 : b.2.1 = c.2.1) : b = c := by
  obtain ⟨i, hi⟩ := List.getElem?_of_mem h1
  obtain ⟨j, hj⟩ := List.getElem?_of_mem h2
  rcases Nat.lt_trichotomy i j with h | h | h
  · exact absurd ⟨e1, e2⟩ (rise_ne hq.ris h hi hj)
  · subst h
    rw [hi] at hj
    injection hj
  · exact absurd ⟨e1.symm, e2.symm⟩ (rise_ne hq.ris h hj hi)
def saidL (b : Br) : List St3 := if b.2.1 = flt then [] else [(("say" : Str), b.1, b.2.1)]
structure Cnd (ts : List St3) (sy : Str) (b : Br) : Prop where
  hear : (viewL b.1 ts).take 1 = [(("hear" : Str), sy, b.2.1)]
  said : (viewL sy ts).take 1 = saidL b
theorem seen_hear {sy : Str} {b : Br} : seen b.1 (sy, b.1, b.2.1) = some (("hear" : Str), sy, b.2.1) := if_pos rfl
theorem seen_say {sy : Str} {b : Br} (hne : b.1 ≠ sy) : (seen sy (sy, b.1, b.2.1)).toList = saidL b := by
  unfold seen saidL
  rw [if_neg hne, if_pos rfl]
  by_cases e : b.2.1 = flt
  · rw [if_pos e, if_pos e]; rfl
  · rw [if_neg e, if_neg e]; rfl
theorem seen_other {sy k : Str} {b : Br} (h1 : b.1 ≠ k) (h2 : sy ≠ k) : seen k (sy, b.1, b.2.1) = none := by
  unfold seen
  rw [if_neg h1, if_neg h2]
theorem cnd_own {hs ws : List Str} {ps : List Pl} {a n : Nat} {sy : Str} {bs : List Br} {b : Br} {ts : List St3} (hb : BdOk hs ws ps) (hp : ps[a]? = some (some (sy, bs))) (hm : b ∈ bs) (hw : walkTo ps b.2.2 (ts.map s3D) = some n) : Cnd ((sy, b.1, b.2.1) :: ts) sy b := by
  have hq := hb.pl _ (List.mem_of_getElem? hp) sy bs rfl
  have hne := (hq.br b hm).ne
  refine ⟨?_, ?_⟩
  · rw [viewL_cons, seen_hear]
    rfl
  · rw [viewL_cons, seen_say hne]
    unfold saidL
    by_cases e : b.2.1 = flt
    · rw [if_pos e]
      obtain ⟨h1, h2⟩ := fault_rc hb hp hm e
      rw [quiet hb h1 hw h2]
      rfl
    · rw [if_neg e]
      rfl
theorem cnd_one {hs ws : List Str} {ps : List Pl} {a n : Nat} {sy : Str} {bs : List Br} {b : Br} {ts : List St3} (hb : BdOk hs ws ps) (hp : ps[a]? = some (some (sy, bs))) (hm : b ∈ bs) (hw : walkTo ps a (ts.map s3D) = some n) (hc : Cnd ts sy b) : ∃ rest, ts = (sy, b.1, b.2.1) :: rest ∧ walkTo ps b.2.2 (rest.map s3D) = some n := by
  have hq := hb.pl _ (List.mem_of_getElem? hp) sy bs rfl
  cases ts with
  | nil => have := hc.hear; cases this
  | cons t rest =>
    obtain ⟨sy', bs', b0, hp', hm0, rfl, hw'⟩ := walk_cons hb hw
    rw [hp] at hp'
    injection hp' with hp'
    injection hp' with hp'
    injection hp' with e1 e2
    subst e1 e2
    have h0 := cnd_own hb hp hm0 hw'
    have hs' : saidL b = saidL b0 := hc.said.symm.trans h0.said
    have : b = b0 := by
      unfold saidL at hs'
      by_cases e : b.2.1 = flt
      · by_cases e0 : b0.2.1 = flt
        · refine count_one (p := fun b : Br => decide (b.2.1 = flt)) ?_ hm hm0 (decide_eq_true e) (decide_eq_true e0)
          have := hq.fa
          split at this <;> omega
        · rw [if_pos e, if_neg e0] at hs'; cases hs'
      · by_cases e0 : b0.2.1 = flt
        · rw [if_neg e, if_pos e0] at hs'; cases hs'
        · rw [if_neg e, if_neg e0] at hs'
          injection hs' with hs' _
          injection hs' with _ hs'
          injection hs' with h1 h2
          exact br_uniq hq hm hm0 h1 h2
    subst this
    exact ⟨rest, rfl, hw'⟩
theorem views_same {hs ws : List Str} {ps : List Pl} (hb : BdOk hs ws ps) : ∀ {ts us : List St3} {a n m : Nat}, walkTo ps a (ts.map s3D) = some n → walkTo ps a (us.map s3D) = some m → (∀ h ∈ hs, viewL h ts = viewL h us) → ts = us
  | [], us, a, n, m, _, h2, hv => by
    cases us with
    | nil => rfl
    | cons u us =>
      obtain ⟨sy, bs, b, hp, hm, rfl, hw⟩ := walk_cons hb h2
      have hq := hb.pl _ (List.mem_of_getElem? hp) sy bs rfl
      have hc := (cnd_own hb hp hm hw).hear
      rw [← hv b.1 (hq.br b hm).hr] at hc
      cases hc
  | t :: ts, us, a, n, m, h1, h2, hv => by
    obtain ⟨sy, bs, b, hp, hm, rfl, hw⟩ := walk_cons hb h1
    have hq := hb.pl _ (List.mem_of_getElem? hp) sy bs rfl
    have hc := cnd_own hb hp hm hw
    have hc' : Cnd us sy b := ⟨by rw [← hv b.1 (hq.br b hm).hr]; exact hc.hear, by rw [← hv sy hq.sy]; exact hc.said⟩
    obtain ⟨rest, rfl, hw2⟩ := cnd_one hb hp hm h2 hc'
    have := views_same hb hw hw2 fun h hh => by
      have := hv h hh
      rw [viewL_cons, viewL_cons] at this
      exact List.append_cancel_left this
    rw [this]
end K3

set_option maxHeartbeats 200000
set_option Elab.async false
set_option linter.all false
set_option maxRecDepth 100000
set_option maxHeartbeats 2000000
namespace DL
open PySem PySem.Spec PyProof.Rows L2
section
variable {B : Bs} {δ : St'} {Φ : PE1}
/-- t + u, tuples -/
theorem rd_catA {xs ys : List PyData} (hz : xs.length + ys.length ≤ 100000) (p : Φ (.tuple (xs ++ ys)) δ) : RD B (rCatA B.K) (.tuple xs) (.tuple ys) δ Φ := fun σ F H r v u d1 d2 Q q => by
  cases d1 with
  | tup hs ha =>
    cases d2 with
    | tup hs2 ha2 =>
      have hsz : sizeLine = 16777216 := sizeLine_eq
      refine ⟨_, _, _, _, rfl, rfl, seqT r.ex hs, seqT r.ex hs2, by rw [dpAll_len ha, dpAll_len ha2]; omega, fun e => ?_, fun _ e => ?_, fun _ _ l hl => ?_⟩
      · subst e
        cases ha
        exact q _ _ δ F H (Same.refl F) r (.tup hs2 ha2) p
      · subst e
        cases ha2
        rw [List.append_nil] at p
        exact q _ _ δ F H (Same.refl F) r (.tup hs ha) p
      · obtain ⟨F2, k1, k2, _, _, k5⟩ := r.newT hl (dpAll_app ha ha2)
        exact q _ _ δ F2 _ k1 k2 k5 p
end
/-! ### dicts of whole numbers -/
def kvN {α : Type} (f : α → PyData) (rs : List (Nat × α)) : KvD := rs.map fun r => (.inl (r.1 : Int), f r.2)
theorem kvN_len {α : Type} {f : α → PyData} {rs : List (Nat × α)} : (kvN f rs).length = rs.length := List.length_map _
theorem kvN_no {α : Type} {f : α → PyData} {k : Nat} : ∀ {rs : List (Nat × α)}, k ∉ rs.map (·.1) → getD' (kvN f rs) (.inl (k : Int)) = none
  | [], _ => rfl
  | r :: rs, h => by
    have h1 : ¬ r.1 = k := fun e => h (by rw [List.map_cons, e]; exact List.mem_cons_self)
    have h2 : ¬ ((Sum.inl (r.1 : Int) : L2.Key) = .inl (k : Int)) := fun e => h1 (by injection e with e; omega)
    have ih := kvN_no (f := f) (k := k) (rs := rs) fun z => h (List.mem_cons_of_mem _ z)
    unfold getD' kvN at *
    rw [List.map_cons, List.find?_cons, decide_eq_false h2]
    exact ih
theorem kvN_in {α : Type} {f : α → PyData} {k : Nat} {a : α} : ∀ {rs : List (Nat × α)}, (rs.map (·.1)).Nodup → (k, a) ∈ rs → getD' (kvN f rs) (.inl (k : Int)) = some (f a)
  | [], _, h => by cases h
  | r :: rs, nd, h => by
    rw [List.map_cons, List.nodup_cons] at nd
    by_cases e : r.1 = k
    · have : r = (k, a) := by
        rcases List.mem_cons.mp h with h | h
        · exact h.symm
        · exact absurd (List.mem_map.mpr ⟨_, h, rfl⟩) (e ▸ nd.1)
      subst this
      unfold getD' kvN
      rw [List.map_cons, List.find?_cons, decide_eq_true rfl]
      rfl
    · have h2 : ¬ ((Sum.inl (r.1 : Int) : L2.Key) = .inl (k : Int)) := fun z => e (by injection z with z; omega)
      have hm : (k, a) ∈ rs := by
        rcases List.mem_cons.mp h with h | h
        · exact absurd (by rw [← h]) e
        · exact h
      have ih := kvN_in (f := f) nd.2 hm
      unfold getD' kvN at *
      rw [List.map_cons, List.find?_cons, decide_eq_false h2]
      exact ih
theorem kvN_put {α : Type} {f : α → PyData} {rs : List (Nat × α)} {k : Nat} {a : α} (h : k ∉ rs.map (·.1)) : putD (kvN f rs) (.inl (k : Int)) (f a) = kvN f (rs ++ [(k, a)]) := by
  unfold putD
  rw [if_neg]
  · unfold kvN; rw [List.map_append]; rfl
  · intro z
    obtain ⟨kv, h1, h2⟩ := List.any_eq_true.mp z
    obtain ⟨r, h3, rfl⟩ := List.mem_map.mp h1
    have h4 := of_decide_eq_true h2
    injection h4 with h4
    exact h (List.mem_map.mpr ⟨r, h3, by omega⟩)
end DL

set_option maxHeartbeats 200000
set_option Elab.async false
set_option linter.all false
set_option maxRecDepth 100000
set_option maxHeartbeats 2000000
namespace DL
open PySem PySem.Spec PyProof.Rows L2
/-! ### a dict that is only read from now on -/
theorem Rep.back {B : Bs} {δ δ' : St'} {σ σ' : List (Option V)} {F H F2 F' H' : Hp} (r : Rep B δ σ F H) (s : Same F F2) (hn : ∀ b, B.F b = none → B.H b ≠ none → F2 b = none) (r' : Rep ⟨⟨F2, H, B.p, B.m⟩, B.w, B.K⟩ δ' σ' F' H') : Rep B δ' σ' F' H' := by
  have hp : ∀ {b : Addr}, B.H b ≠ none → H b ≠ none := fun {b} h => by
    cases q : B.H b with
    | none => exact absurd q h
    | some o =>
      by_cases e : B.p = some b
      · obtain ⟨_, _, x, y, z, h3, _⟩ := r.pot b e
        rw [h3]; exact fun z => by cases z
      · rw [r.kp b o q e]; exact fun z => by cases z
  have hb : ∀ {b : Addr}, H b = none → B.H b = none := fun {b} h => by
    cases q : B.H b with
    | none => rfl
    | some o => exact absurd h (hp (by rw [q]; exact fun z => by cases z))
  refine ⟨r'.ex, r.f0.trans (s.trans r'.f0), fun b h1 h2 => r'.fr b (hn b h1 h2) (hp h2), fun b o h1 h2 => r'.kp b o (r.kp b o h1 h2) h2, fun a h => ⟨(r.pot a h).1, (r.pot a h).2.1, (r'.pot a h).2.2⟩, fun i c h => ?_, r'.len, r'.ap⟩
  obtain ⟨v, hv, hc⟩ := r'.cell i c h
  refine ⟨v, hv, ?_⟩
  cases c with
  | d x => exact hc
  | own xs =>
    obtain ⟨a, vs, e, h1, h2⟩ := hc
    exact ⟨a, vs, e, hb h1, h2⟩
  | dct kvs =>
    obtain ⟨a, vs, e, h1, h2⟩ := hc
    exact ⟨a, vs, e, hb h1, h2⟩
  | iset ns =>
    obtain ⟨a, e, h1, h2⟩ := hc
    exact ⟨a, e, hb h1, h2⟩
  | pot => exact hc
  | bor => exact hc
theorem wipe_nil {σ : List (Option V)} : wipe σ [] = σ := rfl
section
variable {B : B0} {X : Cx} {rest : List Stmt} {δ : St'} {N : St' → Prop} {R Φ : PE1} {kvs : KvD} {e : Expr} {pp pos : Pos} {pn : Str}
abbrev InF (B : B0) (K : PySem.W.Frag) (a : Addr) (kvs : KvD) : Prop := ∃ us, B.F a = some (.dK ((kvs.map (·.1)).zip us)) ∧ DqAll K B.F us (kvs.map (·.2))
theorem dss_baseD (i : Nat) (h : ∀ (B' : B0) (a : Addr), B'.p = B.p → InF B' X.K a kvs → DSs B' X rest ⟨δ.n, (inn [] 0 δ.s).set i (some (.d (hdD a)))⟩ N R) (hi : δ.s[i]? = some (some (.dct kvs)) := by rfl) : DSs B X rest δ N R := fun σ F H r D hn hr => by
  obtain ⟨v, hσ, a, us, rfl, hB, hF, hH, hd⟩ := r.cell i _ hi
  have s2 : Same F (upd F a (.dK ((kvs.map (·.1)).zip us))) := same_upd hF
  have ri := r.inner []
  have r2 : Rep ⟨⟨upd F a (.dK ((kvs.map (·.1)).zip us)), H, B.p, B.m⟩, X.w, X.K⟩ ⟨δ.n, (inn [] 0 δ.s).set i (some (.d (hdD a)))⟩ σ (upd F a (.dK ((kvs.map (·.1)).zip us))) H := by
    have noown : ∀ (j : Nat) (c : C), ((inn [] 0 δ.s).set i (some (.d (hdD a))))[j]? = some (some c) → own? c = true → False := fun j c hj ho => by
      by_cases e : i = j
      · subst e
        rw [List.getElem?_set_self' ] at hj
        cases q : (inn [] 0 δ.s)[i]? with
        | none => rw [q] at hj; cases hj
        | some z => rw [q] at hj; injection hj with hj; injection hj with hj; subst hj; cases ho
      · rw [List.getElem?_set_ne e] at hj
        obtain ⟨v, _, hc⟩ := ri.cell j c hj
        cases c with
        | d x => cases ho
        | pot => cases ho
        | bor => cases ho
        | own xs =>
          obtain ⟨b, vs, _, h1, _, h3, _⟩ := hc
          have h1' : H b = none := h1
          rw [h3] at h1'; cases h1'
        | dct xs =>
          obtain ⟨b, vs, _, h1, _, h3, _⟩ := hc
          have h1' : H b = none := h1
          rw [h3] at h1'; cases h1'
        | iset xs =>
          obtain ⟨b, _, h1, _, h3⟩ := hc
          have h1' : H b = none := h1
          rw [h3] at h1'; cases h1'
    refine ⟨fun b u h => ?_, Same.refl _, fun b h1 _ => h1, fun b o h _ => h, fun p h => ?_, fun j c hj => ?_, ?_, fun j j' c c' _ h1 _ o1 _ => (noown j c h1 o1).elim⟩
    · by_cases hb : b = a
      · subst hb; rw [upd_same] at h; cases h; exact hH
      · rw [upd_ne hb] at h; exact r.ex b u h
    · have hpp := ri.pot p h
      have hne : p ≠ a := fun z => by
        have h1 := (r.pot p h).2.1
        exact h1 (by rw [z]; exact hB)
      refine ⟨?_, hpp.2.1, hpp.2.2⟩
      show upd F a _ p = none
      rw [upd_ne hne]
      exact hpp.1
    · by_cases e : i = j
      · subst e
        rw [List.getElem?_set_self'] at hj
        cases q : (inn [] 0 δ.s)[i]? with
        | none => rw [q] at hj; cases hj
        | some z =>
          rw [q] at hj; injection hj with hj; injection hj with hj; subst hj
          exact ⟨.ref a, hσ, .hd a⟩
      · rw [List.getElem?_set_ne e] at hj
        obtain ⟨v, hv, hc⟩ := ri.cell j c hj
        refine ⟨v, hv, ?_⟩
        cases c with
        | d x => exact dp_mono s2 _ _ hc
        | pot => exact hc
        | bor => exact hc
        | own xs => exact (noown j _ (by rw [List.getElem?_set_ne e]; exact hj) rfl).elim
        | dct xs => exact (noown j _ (by rw [List.getElem?_set_ne e]; exact hj) rfl).elim
        | iset xs => exact (noown j _ (by rw [List.getElem?_set_ne e]; exact hj) rfl).elim
    · rw [List.length_set, inn_len]; exact r.len
  have hnn : ∀ b, B.F b = none → B.H b ≠ none → upd F a (.dK ((kvs.map (·.1)).zip us)) b = none := fun b h1 h2 => by
    have hb : b ≠ a := fun z => h2 (by rw [z]; exact hB)
    rw [upd_ne hb]
    exact r.fr b h1 h2
  exact h ⟨upd F a (.dK ((kvs.map (·.1)).zip us)), H, B.p, B.m⟩ a rfl ⟨us, upd_same, dpAll_mono s2 _ _ hd⟩ σ _ H r2 D (fun δ' σ' F' H' e' r' n => hn δ' σ' F' H' (s2.trans e') (r.back s2 hnn r') n) fun v x δ' σ' F' H' e' r' d p => hr v x δ' σ' F' H' (s2.trans e') (r.back s2 hnn r') d p
/-- d[e], such a dict -/
theorem de_dgetH (i : Nat) {a : Addr} (hu : X.A.units + 1 < cLine) (hf : InF B X.K a kvs) (h : DE B X e δ fun y δ' => ∃ (k : L2.Key) (x : PyData), y = keyD k ∧ getD' kvs k = some x ∧ Φ x δ') (hi : δ.s[i]? = some (some (.d (hdD a))) := by rfl) (hN : X.N[i]? = some pn := by rfl)
    (hv : Vis X.env.scope pn := by first | exact Or.inl rfl | exact Or.inr (Or.inl rfl) | exact Or.inr (Or.inr rfl)) (hd : (pn == ("__debug__" : Str)) = false := by decide) (hcd : (pn == ("__classdict__" : Str)) = false := by decide) (hs : NoSl e := by exact fun _ _ => rfl) :
    DE B X (.Subscript (.Name pn pp) e pos) δ Φ := .of (pe_dget hu (pe_var hN hv hd hcd) pe_w hs) fun σ F H r Q q => by
  obtain ⟨u, hu', hc⟩ := r.cell i _ hi
  obtain rfl : u = .ref a := by
    have hc' : Dq X.K F u (hdD a) := hc
    cases hc'
    rfl
  obtain ⟨us, hFa, hdd⟩ := hf
  refine ⟨.ref a, hu', h σ F H r _ fun w y δ' F' H' e1 r' dw ⟨k, x, hy, hg, p⟩ => ?_⟩
  subst hy
  obtain ⟨v, hv1, hv2⟩ := (get_v (dpAll_mono r'.f0 _ _ hdd) k).1 x hg
  exact ⟨a, v, rfl, .inl ⟨_, k, .inl (r'.ex _ _ (r'.f0 _ _ hFa)), keyD_v dw, hv1.symm⟩, q v x δ' F' H' e1 r' hv2 p⟩
end
end DL

set_option maxHeartbeats 200000
set_option Elab.async false
set_option linter.all false
set_option maxRecDepth 100000
set_option maxHeartbeats 2000000
namespace DL
open PySem PySem.Spec PyProof.Rows L2
/-! ### d == e, dicts of data -/
theorem valV_zip {v : V} {k : L2.Key} : ∀ {ks : List L2.Key} {vs : List V}, ks.Nodup → (k, v) ∈ ks.zip vs → valV (ks.zip vs) k = some v
  | [], _, _, h => by simp at h
  | _ :: _, [], _, h => by simp at h
  | a :: ks, b :: vs, nd, h => by
    rw [List.nodup_cons] at nd
    rw [List.zip_cons_cons] at h ⊢
    by_cases e : a = k
    · subst e
      rcases List.mem_cons.mp h with h | h
      · rw [valV_pos (p := (a, b)) rfl]
        injection h with _ h2
        rw [h2]
      · exact absurd (List.of_mem_zip h).1 nd.1
    · rw [valV_neg (p := (a, b)) e]
      rcases List.mem_cons.mp h with h | h
      · injection h with h1 _
        exact absurd h1.symm e
      · exact valV_zip nd.2 h
section
variable {X : Cx}
def rEqDD (K : PySem.W.Frag) : R2 := fun x y H Q => ∃ (a b : Addr) (ks : List L2.Key) (us vs : List V) (xs ys : List PyData), x = .ref a ∧ y = .ref b ∧ H a = some (.dK (ks.zip us)) ∧ H b = some (.dK (ks.zip vs)) ∧ ks.Nodup ∧ DpAll K H us xs ∧ DpAll K H vs ys ∧ us.length = ks.length ∧ vs.length = ks.length ∧
  (∀ x ∈ xs, SeqAt.shaped x = true) ∧ (∀ y ∈ ys, SeqAt.shaped y = true) ∧ Q (.bl (PyData.eqvAll xs ys)) H
theorem hitsD {pins : List (Addr × Obj)} {σ : L2.St} {H : Hp} {s : Shared} {A : Around} (I : Inv X pins σ H s) {vb : List (L2.Key × Value)} (hA : A.units + 64 < cLine) : ∀ {ks : List L2.Key} {us vs : List V} {xs ys : List PyData} {va : List (L2.Key × Value)}, KV (ks.zip us) va → (∀ k v, (k, v) ∈ ks.zip vs → ∃ w, valueAt vb k = some w ∧ RelV v w) →
    DpAll X.K H us xs → DpAll X.K H vs ys → us.length = ks.length → vs.length = ks.length → (∀ x ∈ xs, SeqAt.shaped x = true) → (∀ y ∈ ys, SeqAt.shaped y = true) → PySem.W.KeqHits A s vb va (PyData.eqvAll xs ys)
  | [], [], [], xs, ys, va, hv, _, hx, hy, _, _, _, _ => by
    cases hx
    cases hy
    cases hv
    exact .nil
  | k :: ks, u :: us, v :: vs, xs, ys, va, hv, hb, hx, hy, l1, l2, sx, sy => by
    cases hx with
    | @cons _ _ x _ hx1 hx2 =>
      cases hy with
      | @cons _ _ y _ hy1 hy2 =>
        rw [List.zip_cons_cons] at hv
        cases hv with
        | @cons _ q _ qs h t =>
          obtain ⟨h1, h2⟩ := h
          obtain ⟨k', c⟩ := q
          have h1' : k = k' := h1
          subst h1'
          obtain ⟨w, hw, rw'⟩ := hb k v (by rw [List.zip_cons_cons]; exact List.mem_cons_self)
          obtain ⟨as, r1⟩ := Dp.reads I x u c hx1 h2
          obtain ⟨bs, r2⟩ := Dp.reads I y v w hy1 rw'
          have s1 := sx x List.mem_cons_self
          have s2 := sy y List.mem_cons_self
          exact .hit hw (SeqAt.eqAt_reads x y A s c w as bs r1 r2 (SeqAt.canLay_of_shaped s1) (SeqAt.canLay_of_shaped s2) (SeqAt.room_of_shaped s1 hA)) (hitsD I hA t (fun k v hm => hb k v (by rw [List.zip_cons_cons]; exact List.mem_cons_of_mem _ hm)) hx2 hy2 (by simpa using l1) (by simpa using l2) (fun z hz => sx z (List.mem_cons_of_mem _ hz)) (fun z hz => sy z (List.mem_cons_of_mem _ hz)))
theorem op_eqDD (hu : X.A.units + 70 < cLine) : OpR X (compareOp .Eq) (rEqDD X.K) := by
  intro pins s σ H x y v u Q I rx ry h
  obtain ⟨a, b, ks, us, vs, xs, ys, rfl, rfl, ea, eb, nd, hx, hy, l1, l2, sx, sy, q⟩ := h
  obtain rfl : v = Value.ref a := rx
  obtain rfl : u = Value.ref b := ry
  obtain ⟨_, ya, va, ra, da⟩ := (show ObjOk X.prog X.w H s.heap a (.dK (ks.zip us)) from I.hok a _ ea)
  obtain ⟨_, yb, vb, rb, db⟩ := (show ObjOk X.prog X.w H s.heap b (.dK (ks.zip vs)) from I.hok b _ eb)
  have hl : va.length = vb.length := by rw [← ra.length, ← rb.length, List.length_zip, List.length_zip, l1, l2]
  refine PySem.W.keq_eq (knd := mixKind X.prog X.w) (r := PyData.eqvAll xs ys) ya yb da db (by omega) (fun _ => hitsD I (A := X.A.in1) (by show X.A.units + 1 + 64 < cLine; omega) ra (fun k v hm => ?_) hx hy l1 l2 sx sy) (fin_bl I q (by simp [hl]))
  have rr : RelO (some v) (valueAt vb k) := by rw [← valV_zip nd hm]; exact rb.val k
  obtain ⟨w, hw, rw'⟩ := rr.some_of
  exact ⟨w, hw, rw'⟩
end
section
variable {B : B0} {X : Cx} {a b : Expr} {δ : St'} {Φ : PE1} {pos : Pos}
theorem noHs_shaped {xs : List PyData} (h : ∀ x ∈ xs, SeqAt.shaped x = true) : noHs xs = true := noHsAll fun x hx => noH_shaped (h x hx)
theorem de_eqDc (hu : X.A.units + 70 < cLine) (h : DDc B X a δ fun k1 δ1 => DDc B X b δ1 fun k2 δ2 => k1.map (·.1) = k2.map (·.1) ∧ (k1.map (·.1)).Nodup ∧ (∀ kv ∈ k1, SeqAt.shaped kv.2 = true) ∧ (∀ kv ∈ k2, SeqAt.shaped kv.2 = true) ∧ Φ (.bool (PyData.eqvAll (k1.map (·.2)) (k2.map (·.2)))) δ2)
    (hm : behindInMarks .Eq b = false := by first | exact nomark _ | with_unfolding_all rfl) : DE B X (.Compare a [.Eq] [b] pos) δ Φ := .of (pe_cmpR (op_eqDD hu) pe_w pe_w hm) fun σ F H r Q q => h σ F H r _ fun p us k1 δ1 F1 H1 e1 r1 i1 i2 i3 i4 i5 pr => by
  have r2 := r1.hold i1 i2 i3 i4
  have s2 : Same F1 (upd F1 p (.dK ((k1.map (·.1)).zip us))) := same_upd i2
  refine pr σ _ H1 r2 _ fun p' vs k2 δ2 F2 H2 e2 r3 j1 j2 j3 j4 j5 ⟨q1, q2, q3, q4, q5⟩ => ?_
  have hH2 : H2 p = some (.dK ((k1.map (·.1)).zip us)) := r3.ex _ _ (e2 _ _ upd_same)
  have sx : ∀ x ∈ k1.map (·.2), SeqAt.shaped x = true := fun x hx => by obtain ⟨kv, h1, rfl⟩ := List.mem_map.mp hx; exact q3 kv h1
  have sy : ∀ x ∈ k2.map (·.2), SeqAt.shaped x = true := fun x hx => by obtain ⟨kv, h1, rfl⟩ := List.mem_map.mp hx; exact q4 kv h1
  refine ⟨p, p', k1.map (·.1), us, vs, k1.map (·.2), k2.map (·.2), rfl, rfl, hH2, by rw [q1]; exact j3, q2, dqs_dps _ _ (noHs_shaped sx) (dpAll_mono ((s2.trans e2).trans r3.ex) _ _ i5), dqs_dps _ _ (noHs_shaped sy) (dpAll_mono r3.ex _ _ j5), ?_, ?_, sx, sy, ?_⟩
  · rw [dpAll_len i5, List.length_map, List.length_map]
  · rw [dpAll_len j5, q1, List.length_map, List.length_map]
  · exact q _ _ δ2 F2 H2 ((e1.trans s2).trans e2) r3 (.bl _) q5
end
end DL

set_option maxHeartbeats 200000
set_option Elab.async false
set_option linter.all false
set_option maxRecDepth 100000
set_option maxHeartbeats 2000000
namespace DL
open PySem PySem.Spec PyProof.Rows L2
/-! ### dict([(k, list(d[k])) for k in d]): new lists of the store -/
theorem seqT_at {K : PySem.W.Frag} {H : Hp} {a t : Addr} {m : List (L2.Key × V)} {o : HO} {xs : List V} (hH : H a = some (.dK m)) (h : SqT K H t xs) : SqT K (upd H a o) t xs := by
  have ne : ∀ {u : HO}, H t = some u → (∀ m, u ≠ .dK m) → t ≠ a := fun h1 h2 e => by
    subst e
    rw [hH] at h1
    injection h1 with h1
    exact h2 m h1.symm
  rcases h with (h | ⟨o', h⟩) | h
  · exact .inl (.inl (by rw [upd_ne (ne h fun m z => by cases z)]; exact h))
  · exact .inl (.inr ⟨o', by rw [upd_ne (ne h fun m z => by cases z)]; exact h⟩)
  · exact .inr h
theorem mergeK_app : ∀ {more acc : List (L2.Key × V)}, (more.map (·.1)).Nodup → (∀ k ∈ more.map (·.1), k ∉ acc.map (·.1)) → mergeK acc more = acc ++ more
  | [], acc, _, _ => by simp [mergeK]
  | kv :: more, acc, nd, h => by
    rw [List.map_cons, List.nodup_cons] at nd
    have h1 : putK acc kv.1 kv.2 = acc ++ [kv] := DL.putK_new (h kv.1 (by simp))
    have := mergeK_app (more := more) (acc := acc ++ [kv]) nd.2 fun k hk z => by
      rw [List.map_append] at z
      rcases List.mem_append.mp z with z | z
      · exact h k (by rw [List.map_cons]; exact List.mem_cons_of_mem _ hk) z
      · simp at z
        subst z
        exact nd.1 hk
    unfold mergeK at this ⊢
    rw [List.foldl_cons, h1, this]
    simp
def rListOf (K : PySem.W.Frag) : List V → Hp → VK → Prop := fun xs H Q => ∃ p ys, xs = [.ref p] ∧ (SqL K H p ys ∨ SqT K H p ys) ∧ ∀ l, H l = none → Q (.ref l) (upd H l (.lst ys))
def rDictOf (K : PySem.W.Frag) : List V → Hp → VK → Prop := fun xs H Q => ∃ (a : Addr) (ps : List Addr) (kvs : List (L2.Key × V)), xs = [.ref a] ∧ SqL K H a (ps.map V.ref) ∧ Paired (fun p kv => SqT K H p [kV kv.1, kv.2]) ps kvs ∧ ∀ p, H p = none → Q (.ref p) (upd H p (.dK (mergeK [] kvs)))
abbrev tLeft (K : PySem.W.Frag) (jd jh : Nat) : TE := tCB (rDictOf K) (tCons (tLockE (tLc (iKeys (tVar jd)) (gName jh) tYes (tTup (tCons (tVar jh) (tCons (tCB (rListOf K) (tCons (tDGet (tVar jd) (tVar jh)) tNil)) tNil))) [jh])) tNil)
theorem paired_of {K : PySem.W.Frag} {H : Hp} : ∀ {Ts ls : List Addr} {ks : List L2.Key}, Ts.length = ks.length → ls.length = ks.length → (∀ (j : Nat) (T l : Addr) (k : L2.Key), Ts[j]? = some T → ls[j]? = some l → ks[j]? = some k → H T = some (.tup [kV k, .ref l])) →
    Paired (fun (p : Addr) (kv : L2.Key × V) => SqT K H p [kV kv.1, kv.2]) Ts (ks.zip (ls.map V.ref))
  | [], [], [], _, _, _ => .nil
  | T :: Ts, l :: ls, k :: ks, h1, h2, h => .cons (.inl (.inl (h 0 T l k rfl rfl rfl))) (paired_of (by simpa using h1) (by simpa using h2) fun j T l k a b c => h (j + 1) T l k a b c)
  | [], _ :: _, [], _, h2, _ => by simp at h2
  | [], [], _ :: _, h1, _, _ => by simp at h1
  | [], _ :: _, _ :: _, h1, _, _ => by simp at h1
  | _ :: _, [], [], h1, _, _ => by simp at h1
  | _ :: _, _ :: _, [], h1, _, _ => by simp at h1
  | _ :: _, [], _ :: _, _, h2, _ => by simp at h2
structure LeftW (ks : List L2.Key) (uss : List (List V)) (H0 : Hp) (D : Addr) (i : Nat) (H2 : Hp) (Ts ls : List Addr) : Prop where
  lT : Ts.length = i
  ll : ls.length = i
  le : Same H0 H2
  hD : H2 D = some (.lst (Ts.map V.ref))
  nD : D ∉ ls
  nd : ls.Nodup
  fr : ∀ l ∈ ls, H0 l = none
  tT : ∀ (j : Nat) (T l : Addr) (k : L2.Key), Ts[j]? = some T → ls[j]? = some l → ks[j]? = some k → H2 T = some (.tup [kV k, .ref l])
  tl : ∀ (j : Nat) (l : Addr) (us : List V), ls[j]? = some l → uss[j]? = some us → H2 l = some (.lst us)
theorem get_snoc {α : Type} {xs : List α} {x y : α} {j : Nat} (h : (xs ++ [x])[j]? = some y) : (j < xs.length ∧ xs[j]? = some y) ∨ (j = xs.length ∧ y = x) := by
  rcases Nat.lt_or_ge j xs.length with hj | hj
  · rw [List.getElem?_append_left hj] at h
    exact .inl ⟨hj, h⟩
  · rw [List.getElem?_append_right hj] at h
    have : j - xs.length = 0 := by
      have := (List.getElem?_eq_some_iff.mp h).1
      simp at this
      omega
    rw [this] at h
    injection h with h
    exact .inr ⟨by omega, h.symm⟩
theorem leftRun {K : PySem.W.Frag} {σ : List (Option V)} {H : Hp} {a : Addr} {ks : List L2.Key} {vus : List V} {uss : List (List V)} {jd jh : Nat} (hσ : σ[jd]? = some (some (.ref a))) (hne : jd ≠ jh) (hjh : jh < σ.length) (hH : H a = some (.dK (ks.zip vus))) (nd : ks.Nodup) (hl : vus.length = ks.length) (hz : ks.length ≤ 1000) (hu : uss.length = ks.length)
    (ht : ∀ (j : Nat) (v : V) (us : List V), vus[j]? = some v → uss[j]? = some us → ∃ t, v = .ref t ∧ SqT K H t us) {Q : VK}
    (q : ∀ (p : Addr) (ls : List Addr) (H' : Hp), Same H H' → H p = none → ls.length = ks.length → ls.Nodup → p ∉ ls → (∀ l ∈ ls, H l = none) → H' p = some (.dK (ks.zip (ls.map V.ref))) → (∀ (j : Nat) (l : Addr) (us : List V), ls[j]? = some l → uss[j]? = some us → H' l = some (.lst us)) → Q (.ref p) H') : tLeft K jd jh σ H Q := by
  refine ⟨a, _, hH, trivial, fun od => ?_⟩
  generalize hH0 : upd H a (.frz od (.dK (ks.zip vus))) = H0
  have h0a : H0 a = some (.frz od (.dK (ks.zip vus))) := by rw [← hH0]; exact upd_same
  have h0n : ∀ b, H0 b = none → H b = none := fun b hb => by
    rw [← hH0] at hb
    by_cases e : b = a
    · rw [e, upd_same] at hb; cases hb
    · rw [upd_ne e] at hb; exact hb
  have hkl : (ks.zip vus).length = ks.length := by rw [List.length_zip, hl]; omega
  refine ⟨.ref a, hσ, a, od, rfl, .inl ⟨_, h0a, fun D hD => ?_⟩⟩
  have base : LeftW ks uss H0 D 0 (upd H0 D (.lst [])) [] [] := by
    refine ⟨rfl, rfl, fun b o h => ?_, upd_same, by simp, by simp, fun l h => ?_, fun j T l k h => ?_, fun j l us h => ?_⟩
    · rw [upd_ne (fun z => by rw [z, hD] at h; cases h)]
      exact h
    · cases h
    · simp at h
    · simp at h
  refine ⟨fun i m H2 => i + m = ks.length ∧ ∃ Ts ls, LeftW ks uss H0 D i H2 Ts ls, ⟨ks.length, by simp, [], [], base⟩, fun i m H2 hW => ?_⟩
  obtain ⟨em, Ts, ls, w⟩ := hW
  have h2a : H2 a = some (.frz od (.dK (ks.zip vus))) := w.le _ _ h0a
  by_cases hlt : i < ks.length
  · have hi : (ks.zip vus)[i]? = some (ks[i], vus[i]) := by
      rw [List.getElem?_eq_getElem (by rw [hkl]; exact hlt), List.getElem_zip]
    have hki : ks[i]? = some ks[i] := List.getElem?_eq_getElem hlt
    have hvi : vus[i]? = some vus[i] := List.getElem?_eq_getElem (by omega)
    have hui : uss[i]? = some uss[i] := List.getElem?_eq_getElem (by omega)
    obtain ⟨t, hvt, hst⟩ := ht i _ _ hvi hui
    refine .inr ⟨⟨h2a, by rw [hkl]; exact hlt⟩, fun H' => ∃ Ts ls, LeftW ks uss H0 D (i + 1) H' Ts ls, fun H' p => ⟨m - 1, by omega, by omega, p⟩, fun x H' hy => ?_⟩
    obtain ⟨rfl, k, v, hk, rfl⟩ := hy
    rw [hi] at hk
    injection hk with hk
    injection hk with hk1 hk2
    subst hk1 hk2
    have hσ2 : ((wipe σ [jh]).set jh (some (kV ks[i])))[jh]? = some (some (kV ks[i])) := by
      rw [List.getElem?_set, if_pos rfl, if_pos (by rw [wipe_length]; exact hjh)]
    have hσd : ((wipe σ [jh]).set jh (some (kV ks[i])))[jd]? = some (some (.ref a)) := by
      rw [List.getElem?_set, if_neg (Ne.symm hne), wipe_out (by simp [hne])]
      exact hσ
    refine ⟨?_, ?_⟩
    · show (((wipe σ [jh]).set jh (some (kV ks[i])))).set jh none = σ.set jh none
      show ((σ.set jh none).set jh (some (kV ks[i]))).set jh none = σ.set jh none
      simp
    unfold tYes
    simp only [if_true]
    refine ⟨_, hσ2, ⟨_, hσd, ⟨_, hσ2, a, vus[i], rfl, .inl ⟨_, _, .inr ⟨od, h2a⟩, rfl, (valV_zip nd (List.mem_of_getElem? hi)).symm⟩, ?_⟩⟩⟩
    rw [hvt]
    have hst2 : SqT K H' t uss[i] := seqT w.le (by rw [← hH0]; exact seqT_at hH hst)
    refine ⟨t, uss[i], rfl, .inr hst2, fun l hl2 => ⟨by show 2 ≤ sizeLine; decide, fun T hT => ?_⟩⟩
    have hTl : T ≠ l := fun z => by rw [z, upd_same] at hT; cases hT
    have hT2 : H' T = none := by rw [upd_ne hTl] at hT; exact hT
    have nn : ∀ {b : Addr} {o : HO}, H' b = some o → b ≠ l ∧ b ≠ T := fun {b o} h => ⟨(fun z => by rw [z, hl2] at h; cases h), (fun z => by rw [z, hT2] at h; cases h)⟩
    have old : ∀ {b : Addr} {o : HO}, H' b = some o → (upd (upd H' l (.lst uss[i])) T (.tup [kV ks[i], .ref l])) b = some o := fun {b o} h => by rw [upd_ne (nn h).2, upd_ne (nn h).1]; exact h
    have hnew : ∀ {b : Addr} {o : HO}, H' b = some o → b ≠ D → (upd (upd (upd H' l (.lst uss[i])) T (.tup [kV ks[i], .ref l])) D (.lst (Ts.map V.ref ++ [.ref T]))) b = some o := fun {b o} h hb => by rw [upd_ne hb]; exact old h
    have hDl : D ≠ l := (nn w.hD).1
    have hDT : D ≠ T := (nn w.hD).2
    have lT := w.lT
    have ll := w.ll
    have hlin : ∀ l' ∈ ls, ∃ us, H' l' = some (.lst us) := fun l' h => by
      obtain ⟨j, hj⟩ := List.getElem?_of_mem h
      have hjl := (List.getElem?_eq_some_iff.mp hj).1
      exact ⟨_, w.tl j l' uss[j] hj (List.getElem?_eq_getElem (by omega))⟩
    have hlls : l ∉ ls := fun h => by
      obtain ⟨us, e⟩ := hlin l h
      rw [hl2] at e
      cases e
    refine ⟨Ts.map V.ref, old w.hD, by rw [List.length_map, w.lT, sizeLine_eq]; omega, Ts ++ [T], ls ++ [l], ⟨by simp [w.lT], by simp [w.ll], fun b o h => ?_, ?_, ?_, ?_, ?_, ?_, ?_⟩⟩
    · exact hnew (w.le b o h) fun z => by rw [z, hD] at h; cases h
    · rw [upd_same, List.map_append]; rfl
    · intro h
      rcases List.mem_append.mp h with h | h
      · exact w.nD h
      · simp at h; exact hDl h
    · exact List.nodup_append.mpr ⟨w.nd, by simp, fun x hx y hy => by simp at hy; subst hy; exact fun e => hlls (e ▸ hx)⟩
    · intro l' h
      rcases List.mem_append.mp h with h | h
      · exact w.fr l' h
      · simp at h
        subst h
        cases e : H0 l' with
        | none => rfl
        | some o => have := w.le _ _ e; rw [hl2] at this; cases this
    · intro j T' l' k' h1 h2 h3
      rcases get_snoc h1 with ⟨hj, h1⟩ | ⟨hj, rfl⟩
      · rcases get_snoc h2 with ⟨hj2, h2⟩ | ⟨hj2, _⟩
        · have := w.tT j T' l' k' h1 h2 h3
          exact hnew this fun z => by rw [z, w.hD] at this; cases this
        · omega
      · rcases get_snoc h2 with ⟨hj2, h2⟩ | ⟨hj2, rfl⟩
        · omega
        · have : j = i := by omega
          subst this
          rw [hki] at h3
          injection h3 with h3
          subst h3
          rw [upd_ne (Ne.symm hDT), upd_same]
    · intro j l' us' h1 h2
      rcases get_snoc h1 with ⟨hj, h1⟩ | ⟨hj, rfl⟩
      · exact hnew (w.tl j l' us' h1 h2) fun z => w.nD (z ▸ List.mem_of_getElem? h1)
      · have : j = i := by omega
        subst this
        rw [hui] at h2
        injection h2 with h2
        subst h2
        rw [upd_ne (Ne.symm hDl), upd_ne (Ne.symm hTl), upd_same]
  · have : i = ks.length := by omega
    subst this
    refine .inl ⟨⟨h2a, by rw [hkl]; omega⟩, h2a, ?_⟩
    have keep : ∀ {b : Addr} {o : HO}, H2 b = some o → (∀ o', o ≠ .frz od o') → (upd H2 a (.dK (ks.zip vus))) b = some o := fun {b o} h hn => by
      rw [upd_ne]
      · exact h
      · intro z
        rw [z, h2a] at h
        injection h with h
        exact hn _ h.symm
    refine ⟨D, Ts, ks.zip (ls.map V.ref), rfl, .inl (.inl (keep w.hD (fun o' z => by cases z))), paired_of w.lT w.ll (fun j T l k h1 h2 h3 => keep (w.tT j T l k h1 h2 h3) (fun o' z => by cases z)), fun p hp => ?_⟩
    have hlz : (ls.map V.ref).length = ks.length := by rw [List.length_map, w.ll]
    have hmk : mergeK [] (ks.zip (ls.map V.ref)) = ks.zip (ls.map V.ref) := by
      rw [mergeK_app (by rw [DL.zip_fst (by rw [hlz]; exact Nat.le_refl _)]; exact nd) (fun k _ z => by simp at z)]
      rfl
    rw [hmk]
    have hpa : p ≠ a := fun z => by rw [z, upd_same] at hp; cases hp
    have hp2 : H2 p = none := by rw [upd_ne hpa] at hp; exact hp
    have sm : Same H (upd (upd H2 a (.dK (ks.zip vus))) p (.dK (ks.zip (ls.map V.ref)))) := fun b o h => by
      by_cases e : b = a
      · subst e
        rw [upd_ne (Ne.symm hpa), upd_same, ← hH, h]
      · have h0b : H0 b = some o := by rw [← hH0, upd_ne e]; exact h
        have h2b := w.le b o h0b
        rw [upd_ne (fun z => by rw [z, hp2] at h2b; cases h2b), upd_ne e]
        exact h2b
    refine q p ls _ sm ?_ w.ll w.nd ?_ (fun l h => h0n l (w.fr l h)) upd_same fun j l us h1 h2 => ?_
    · refine h0n p ?_
      cases e : H0 p with
      | none => rfl
      | some o => have := w.le _ _ e; rw [hp2] at this; cases this
    · intro h
      obtain ⟨j, hj⟩ := List.getElem?_of_mem h
      have hjl := (List.getElem?_eq_some_iff.mp hj).1
      have hju : j < uss.length := by have := w.ll; omega
      have := w.tl j p uss[j] hj (List.getElem?_eq_getElem hju)
      rw [hp2] at this
      cases this
    · have hll := w.tl j l us h1 h2
      rw [upd_ne (fun z => by rw [z, hp2] at hll; cases hll)]
      exact keep hll fun o' z => by cases z
end DL

set_option maxHeartbeats 200000
set_option Elab.async false
set_option linter.all false
set_option maxRecDepth 100000
set_option maxHeartbeats 2000000
namespace DL
open PySem PySem.Spec PyProof.Rows L2
/-! ### defs that are handed a dict, to be read -/
abbrev SpK := Addr → KvD → List PyData → (PyData → Prop) → Prop
def spK (K : PySem.W.Frag) (S : SpK) : Sp := fun vs H Q _ => ∃ F ds a kvs Φ, Same F H ∧ DqAll K F vs ds ∧ (∃ us, F a = some (.dK ((kvs.map (·.1)).zip us)) ∧ DqAll K F us (kvs.map (·.2))) ∧ S a kvs ds Φ ∧
  ∀ v x F' H', Same F F' → Same F' H' → (∀ b, F b = none → H b ≠ none → F' b = none) → (∀ b o, H b = some o → H' b = some o) → Dq K F' v x → Φ x → Q v H'
section
variable {P : Program} {w : World} {K : PySem.W.Frag} {mg : Str → Option Value} {base : Heap} {x qual : Str} {st : Stmt} {f : Addr} {fd : FuncData} {N ps : List Str} {k : Nat}
theorem fnK {S : SpK} {dvs : List V} {kws : List (Str × V)} (F : FunD K x qual (defArgs st) (defBody st) (defScope st) dvs kws f fd) (sc : FnScope N ps (defScope st)) (len : ∀ a kvs ds Φ, S a kvs ds Φ → ds.length = ps.length)
    (body : ∀ (B : B0) (cdv : Value) (A : Around) (outer : List Env) (s : Shared) (H : Hp) (E : XK) (a : Addr) (kvs : KvD) (ds : List PyData) (Φ : PyData → Prop), Room k (A.deeper (envOfC qual (defScope st) s.heap.objs.size f cdv)) → B.p = none → InF B K a kvs → S a kvs ds Φ →
      DSs B (bodyX P w K mg base N qual (defScope st) f cdv A outer s H E) (defBody st) (ini N (ds.map C.d) 0) (fun _ => Φ .none) fun x _ => Φ x) : FnOk P w K mg base CX0 (k + 1) f fd ps (spK K S) := by
  refine F.ok sc (fun vs H Q E h => ?_) (fun cdv A outer s H vs Q E hr h => ?_)
  · obtain ⟨F', ds, a, kvs, Φ, _, hd, _, hS, _⟩ := h
    rw [dpAll_len hd]; exact len a kvs ds Φ hS
  · obtain ⟨F', ds, a, kvs, Φ, e, hd, hi, hS, q⟩ := h
    refine ⟨_, PSs.nox pss_w, ?_⟩
    refine body ⟨F', H, none, none⟩ cdv A outer s H E a kvs ds Φ hr rfl hi hS (L2.start N vs) F' H (rep_iniD e hd) _ (fun δ' σ' F2 H2 e2 r2 p => ?_) fun v x δ' σ' F2 H2 e2 r2 d2 p => ?_
    · exact q .non .none F2 H2 e2 r2.ex r2.fr (fun b o z => r2.kp b o z (fun y => by cases y)) .non p
    · exact q v x F2 H2 e2 r2.ex r2.fr (fun b o z => r2.kp b o z (fun y => by cases y)) d2 p
end
section
variable {B : B0} {X : Cx} {e : Expr} {es : List Expr} {δ : St'} {Φ : PE1} {p pos : Pos} {k k' : Nat} {ps : List Str} {x : Str}
theorem InF.sub {B B' : B0} {K : PySem.W.Frag} {a : Addr} {kvs : KvD} (h : InF B K a kvs) (s : Same B.F B'.F) : InF B' K a kvs := by
  obtain ⟨us, h1, h2⟩ := h
  exact ⟨us, s _ _ h1, dpAll_mono s _ _ h2⟩
theorem de_fK {S : SpK} {a : Addr} {kvs : KvD} (hf : InF B X.K a kvs) (G : Fn X.prog X.w X.K X.mg X.base x k ps (spK X.K S)) (hr : Room k' X.A) (h : DA B X (e :: es) δ fun ds δ' => S a kvs ds fun y => Φ y δ') (hk : k ≤ k' := by decide)
    (hg : Gl X x := by rfl) (hdb : (x == ("__debug__" : Str)) = false := by decide) (he : starEach (e :: es) X.env = (false, eval e X.env) :: starEach es X.env := by rfl) (hpl : (backTo pos (starEach es X.env)).any (·.1) = false := by rfl) :
    DE B X (.Call (.Name x p) (e :: es) [] pos) δ Φ := by
  obtain ⟨f, fd, h1, h2, h3, h4⟩ := G.ex
  refine .of (pe_call h4 (hr.mono hk) hg h1 h2 h3 .nil pass0 pa_w hdb he hpl) fun σ F H r Q q => h σ F H r _ fun vs ds δ' F' H' e1 r' d hS => ?_
  obtain ⟨us, g1, g2⟩ := hf
  refine ⟨F', ds, a, kvs, _, r'.ex, (by rw [List.append_nil]; exact d), ⟨us, r'.f0 _ _ g1, dpAll_mono r'.f0 _ _ g2⟩, hS, fun v y F2 H2 q1 q2 q3 q4 q5 q6 => ?_⟩
  exact q v y δ' F2 H2 (e1.trans q1) (r'.called q1 q2 q3 q4) q5 q6
/-- from here on with a store, which is empty -/
theorem dss_sss {sts : List Stmt} {N : St' → Prop} {R : PE1} (h : SSs B X (wSs X sts) (fun _ => none) δ (fun δ _ => N δ) fun x δ _ => R x δ) : DSs B X sts δ N R := fun σ F H r D hn hr pins t I =>
  h σ F H r (fun a xs z => by cases z) D (fun δ' G' σ' F' H' e' r' _ n => hn δ' σ' F' H' e' r' n) (fun v x δ' G' σ' F' H' e' r' _ d p => hr v x δ' σ' F' H' e' r' d p) pins t I
end
section
variable {B : Bs} {δ : St'} {Φ : PE1} {G : Gm}
/-- h[lo:hi], a list of the store -/
theorem ru_slH (hG : StIn B G) {a : Addr} {xs : List PyData} {lo hi : Option Int} (hg : G a = some xs) (p : Φ (.list (cutD xs lo hi)) δ) : RU B (fun v H Q => rSlL B.K v lo hi H Q) (hdD a) δ Φ := fun σ F H r v d1 Q q => by
  cases d1
  obtain ⟨vs, h1, h2, h3⟩ := hG.get r hg
  refine ⟨a, vs, rfl, .inl (.inl h1), fun l hl => ?_⟩
  obtain ⟨k1, k2, k3, k4⟩ := r.newL hl (cutV vs lo hi)
  have r2 := k1.frzL k2 k3 upd_same k4
  exact q _ _ δ _ _ (same_upd k3) r2 (.lst (.inl (.inl upd_same)) (dpAll_mono (same_upd k3) _ _ (cutV_dp h2))) p
end
section
variable {B : B0} {X : Cx} {G : Gm} {δ : St'} {N : St' → Gm → Prop} {R : PyData → St' → Gm → Prop} {o e : Expr} {pos p2 p0 : Pos} {x : Str}
/-- o.pop(0), o a list of the store -/
theorem sss_pop0 {kk} {apos : Pos} (h : ∀ B' : B0, B'.p = B.p → Same B.F B'.F → StIn (bs X B') G → DE B' X o δ fun y δ' => ∃ a z xs, y = hdD a ∧ G a = some (z :: xs) ∧ N δ' (gput G a xs))
    (hbase : attributeBase o "pop" X.env (eval o X.env) = eval o X.env := by rfl)
    (hfew : ((backTo p2 (starEach [.Constant (.int 0) kk p0] X.env)).all (fun x => !x.1) && (backToKw p2 (keywordEach [] X.env)).all (fun x => x.1.isSome)
      && decide ([Expr.Constant (.int 0) kk p0].length + ([] : List Keyword).length + (if ([] : List Keyword).isEmpty then 0 else 1) < 30)) = true := by rfl)
    (hline : (apos.endLine == p2.line) = true := by rfl) (hs : starEach [.Constant (.int 0) kk p0] X.env = (false, eval (.Constant (.int 0) kk p0) X.env) :: starEach [] X.env := by rfl) (hplain : (backTo p2 (starEach [] X.env)).any (·.1) = false := by rfl)
    (hsw : swapsWith (.Call (.Attribute o "pop" apos) [.Constant (.int 0) kk p0] [] p2) none pos.line X.env = pure false := by rfl) :
    SSs B X (wS X (.Expr (.Call (.Attribute o "pop" apos) [.Constant (.int 0) kk p0] [] p2) pos)) G δ N R := fun σ F H r s D hn hr pins t Iv =>
  (ps_expr (pe_bm PySem.F.plainAttrs_list PySem.F.slot_list_pop PySem.F.type_list_pop mt_popAt pe_w (pa_cons pe_int pa_nil hs) hbase hfew hline hs hplain) hsw).run pins t σ H D Iv (h (B.on G F H) rfl r.f0 (StIn.on s) σ F H (r.up s) _ fun v y δ' F' H' e' r' d ⟨a, z, xs, hy, hg, p⟩ => by
    subst hy
    cases d
    obtain ⟨r2, s2⟩ := r.down s r'
    have w := s2 a _ hg
    obtain ⟨vs, hH', hd'⟩ := w.at'
    cases hd' with
    | @cons v0 vs' _ _ d1 d2 =>
    refine ⟨.inl ⟨rfl, _, .inl (.inl hH')⟩, ?_⟩
    refine ⟨a, v0 :: vs', 0, 0, v0, rfl, rfl, hH', by decide, by decide, ?_, rfl, ?_⟩
    · simp [seqIndex?]
    refine hn δ' _ σ F' _ e' (r2.side w.fF w.bH w.ap) (fun b ys hb => ?_) p
    by_cases hba : b = a
    · subst hba
      rw [gput_same] at hb
      injection hb with hb
      subst hb
      exact ⟨⟨_, upd_same, d2⟩, w.fF, w.bH, w.np, w.ap⟩
    · rw [gput_ne hba] at hb
      obtain ⟨ws, q1, q2⟩ := (s2 b ys hb).at'
      exact ⟨⟨ws, by rw [upd_ne hba]; exact q1, q2⟩, (s2 b ys hb).fF, (s2 b ys hb).bH, (s2 b ys hb).np, (s2 b ys hb).ap⟩)
end
section
variable {B : Bs} {ta : TA} {δ : St'} {Ψ : List PyData → St' → Prop}
theorem wik_rng1 (h : WA B ta δ fun ds δ' => ∃ j : Int, ds = [.int j] ∧ -(2 ^ 62) ≤ j ∧ j < 2 ^ 62 ∧ Ψ (rng 0 j.toNat) δ') : WIk B (iRng1 ta) δ Ψ := fun σ F H r R q => h σ F H r _ fun vs x δ' F' H' e r' d ⟨j, hx, h1, h2, p⟩ => by
  subst hx
  cases d with
  | cons d1 d2 =>
    cases d2
    cases d1
    exact ⟨j, rfl, h1, h2, q _ _ δ' F' H' e r' wk_rng p⟩
end
end DL

set_option maxHeartbeats 200000
set_option Elab.async false
set_option linter.all false
set_option maxRecDepth 100000
set_option maxHeartbeats 2000000
namespace DL
open PySem PySem.Spec PyProof.Rows L2
/-! ### x = dict([(k, list(d[k])) for k in d]) -/
def gls (G : Gm) (ls : List Addr) (cs : List (List PyData)) : Gm := fun b => match (ls.zip cs).find? (fun q => decide (q.1 = b)) with
  | some q => some q.2
  | none => G b
theorem gls_in {G : Gm} {l : Addr} {c : List PyData} : ∀ {ls : List Addr} {cs : List (List PyData)} {j : Nat}, ls.Nodup → ls[j]? = some l → cs[j]? = some c → gls G ls cs l = some c
  | [], _, _, _, h, _ => by simp at h
  | _ :: _, [], _, _, _, h => by simp at h
  | a :: ls, b :: cs, 0, _, h1, h2 => by
    injection h1 with h1
    injection h2 with h2
    subst h1 h2
    unfold gls
    rw [List.zip_cons_cons, List.find?_cons, decide_eq_true rfl]
  | a :: ls, b :: cs, j + 1, nd, h1, h2 => by
    rw [List.nodup_cons] at nd
    have hm : l ∈ ls := List.mem_of_getElem? (show ls[j]? = some l from h1)
    have ne : ¬ a = l := fun z => nd.1 (z ▸ hm)
    have ih := gls_in (G := G) (j := j) nd.2 h1 h2
    unfold gls at ih ⊢
    rw [List.zip_cons_cons, List.find?_cons, decide_eq_false ne]
    exact ih
theorem gls_cases {G : Gm} {ls : List Addr} {cs : List (List PyData)} {b : Addr} {xs : List PyData} (h : gls G ls cs b = some xs) : (∃ j : Nat, ls[j]? = some b ∧ cs[j]? = some xs) ∨ G b = some xs := by
  unfold gls at h
  split at h
  · rename_i q hq
    injection h with h
    subst h
    have h1 := List.mem_of_find?_eq_some hq
    have h2 := of_decide_eq_true (List.find?_some (p := fun q : Addr × List PyData => decide (q.1 = b)) hq)
    obtain ⟨j, hj⟩ := List.getElem?_of_mem h1
    rw [List.getElem?_zip_eq_some] at hj
    exact .inl ⟨j, by rw [← h2]; exact hj.1, hj.2⟩
  · exact .inr h
theorem tups_v {K : PySem.W.Frag} {F : Hp} : ∀ {cs : List (List PyData)} {vus : List V}, DqAll K F vus (cs.map PyData.tuple) → ∃ uss : List (List V), uss.length = cs.length ∧ (∀ (j : Nat) (v : V) (us : List V), vus[j]? = some v → uss[j]? = some us → ∃ t, v = .ref t ∧ SqT K F t us) ∧ ∀ (j : Nat) (us : List V) (c : List PyData), uss[j]? = some us → cs[j]? = some c → DqAll K F us c
  | [], _, h => by
    cases h
    exact ⟨[], rfl, fun j v us h1 h2 => by simp at h2, fun j us c h1 => by simp at h1⟩
  | c :: cs, _, h => by
    cases h with
    | cons h1 h2 =>
      obtain ⟨uss, l1, l2, l3⟩ := tups_v h2
      cases h1 with
      | @tup t us0 _ hs ha =>
        refine ⟨us0 :: uss, by simp [l1], fun j v us g1 g2 => ?_, fun j us c' g1 g2 => ?_⟩
        · cases j with
          | zero => injection g1 with g1; injection g2 with g2; subst g1 g2; exact ⟨t, rfl, hs⟩
          | succ j => exact l2 j v us g1 g2
        · cases j with
          | zero => injection g1 with g1; injection g2 with g2; subst g1 g2; exact ha
          | succ j => exact l3 j us c' g1 g2
theorem hds_v {K : PySem.W.Frag} {F : Hp} : ∀ ls : List Addr, DqAll K F (ls.map V.ref) (ls.map hdD)
  | [] => .nil
  | l :: ls => .cons (.hd l) (hds_v ls)
section
variable {B : B0} {X : Cx} {G : Gm} {δ : St'} {N : St' → Gm → Prop} {R : PyData → St' → Gm → Prop} {e : Expr} {pos pos' : Pos} {x : Str}
theorem sss_left (i jd jh : Nat) {a : Addr} {kvs : KvD} {cs : List (List PyData)} (hp : PE X e (tLeft X.K jd jh)) (hf : InF B X.K a kvs) (hjd : δ.s[jd]? = some (some (.d (hdD a)))) (hne : jd ≠ jh) (hjh : jh < δ.s.length) (hnd : (kvs.map (·.1)).Nodup) (hz : kvs.length ≤ 1000) (hcs : kvs.map (·.2) = cs.map PyData.tuple)
    (h : ∀ ls : List Addr, ls.length = kvs.length → ls.Nodup → (∀ l ∈ ls, G l = none) → N (δ.put i (.dct ((kvs.map (·.1)).zip (ls.map hdD)))) (gls G ls cs))
    (hN : X.N.Nodup) (hi : X.N[i]? = some x := by rfl) (hx : Loc X.env.scope x := by first | exact .inl rfl | exact .inr rfl)
    (hs : swapsWith e (some (.Name x pos')) pos.line X.env = pure false := by rfl) (hfn : X.fn x = true ∨ X.env.scope.names.lookup x = some .local := by first | exact .inl rfl | exact .inr rfl) : SSs B X (wS X (.Assign [.Name x pos'] e pos)) G δ N R := fun σ F H r s D hn hr pins t I =>
  (ps_set hN hi hx hp hs hfn).run pins t σ H D I (by
    obtain ⟨v, hσ, hc⟩ := r.cell jd _ hjd
    obtain rfl : v = .ref a := by
      have hc' : Dq X.K F v (hdD a) := hc
      cases hc'
      rfl
    obtain ⟨vus, g1, g2⟩ := hf
    have gF := r.f0 _ _ g1
    have g2' := dpAll_mono r.f0 _ _ g2
    rw [hcs] at g2'
    obtain ⟨uss, l1, l2, l3⟩ := tups_v g2'
    have hlen : cs.length = kvs.length := by
      have := congrArg List.length hcs
      rw [List.length_map, List.length_map] at this
      exact this.symm
    have hvl : vus.length = (kvs.map (·.1)).length := by rw [dpAll_len g2', List.length_map, List.length_map, hlen]
    refine leftRun (ks := kvs.map (·.1)) (vus := vus) (uss := uss) hσ hne (by rw [r.len]; exact hjh) (r.ex _ _ gF) hnd hvl (by rw [List.length_map]; exact hz) (by rw [l1, hlen, List.length_map]) (fun j v us h1 h2 => ?_) fun p ls H' sm hpn ll nd' pnl fr hd tl => ?_
    · obtain ⟨t, e1, e2⟩ := l2 j v us h1 h2
      exact ⟨t, e1, seqT r.ex e2⟩
    · rw [List.length_map] at ll
      have r2 : Rep (bs X B) δ σ F H' := r.swap fun b => by
        cases hb : H b with
        | none =>
          obtain ⟨q1, q2, _, q4⟩ := r.fresh hb
          exact .inl ⟨q2, q1, q4⟩
        | some o => exact .inr (sm b o hb)
      obtain ⟨q1, q2, q3, q4⟩ := r.fresh hpn
      have hkz : ((kvs.map (·.1)).zip (ls.map hdD)).map (·.1) = kvs.map (·.1) := zip_fst (by rw [List.length_map, List.length_map, ll]; exact Nat.le_refl _)
      have hvz : ((kvs.map (·.1)).zip (ls.map hdD)).map (·.2) = ls.map hdD := zip_snd' (by rw [List.length_map, List.length_map, ll]; exact Nat.le_refl _)
      have s2 : Sto (bs X B) (gls G ls cs) δ σ F H' := fun b xs hb => by
        rcases gls_cases hb with ⟨j, hj1, hj2⟩ | hb
        · have hjl := (List.getElem?_eq_some_iff.mp hj2).1
          have hju : uss[j]? = some (uss[j]'(by omega)) := List.getElem?_eq_getElem (by omega)
          have hbn := fr b (List.mem_of_getElem? hj1)
          obtain ⟨w1, w2, w3, w4⟩ := r.fresh hbn
          exact ⟨⟨_, tl j b _ hj1 hju, l3 j _ xs hju hj2⟩, w2, w1, w3, w4⟩
        · obtain ⟨us, u1, u2⟩ := (s b xs hb).at'
          exact ⟨⟨us, sm _ _ u1, u2⟩, (s b xs hb).fF, (s b xs hb).bH, (s b xs hb).np, (s b xs hb).ap⟩
      have hGp : gls G ls cs p = none := by
        cases g : gls G ls cs p with
        | none => rfl
        | some xs =>
          rcases gls_cases g with ⟨j, hj1, _⟩ | g
          · exact absurd (List.mem_of_getElem? hj1) pnl
          · exact absurd hpn (s p xs g).ne
      refine hn _ _ _ F H' (Same.refl F) (r2.putO i (c := .dct ((kvs.map (·.1)).zip (ls.map hdD))) q4 ⟨p, ls.map V.ref, rfl, q1, q2, ?_, ?_⟩) (s2.putO i hGp) (h ls ll nd' fun l hl => ?_)
      · rw [hkz]; exact hd
      · rw [hvz]; exact hds_v ls
      · cases g : G l with
        | none => rfl
        | some xs => exact absurd (fr l hl) (s l xs g).ne)
end
end DL

set_option maxHeartbeats 200000
set_option Elab.async false
set_option linter.all false
set_option maxRecDepth 100000
set_option maxHeartbeats 4000000
namespace K3
open PySem PySem.Spec PyProof.Rows L2 DL
variable {P : Program} {w : World} {K : PySem.W.Frag} {mg : Str → Option Value} {base : Heap} {f : Addr} {fd : FuncData} {k : Nat}
/-! ### the row, from its views -/
theorem room1 {k : Nat} {A : Around} (r : Room k A) : A.units + 1 < cLine := by
  have := r.un
  omega
structure RwSt (hs : List Str) (ts : List St3) : Prop where
  ok : ∀ t ∈ ts, t.1 ∈ hs ∧ t.2.1 ∈ hs ∧ (IsNm t.2.2 ∨ t.2.2 = flt) ∧ t.1 ≠ t.2.1
theorem okS_word {x : Str} (h : IsNm x ∨ x = flt) : okS x := by
  rcases h with h | h
  · exact h.okS
  · rw [h]; exact okS_flt
theorem nm_hear : IsNm "hear" := by
  constructor <;> decide +kernel
theorem nm_say : IsNm "say" := by
  constructor <;> decide +kernel
theorem eqv_list3 : ∀ l m : List St3, PyData.eqvAll (l.map s3D) (m.map s3D) = decide (l = m)
  | [], [] => by rw [decide_eq_true rfl]; rfl
  | [], _ :: _ => by rw [decide_eq_false (fun z => by cases z)]; rfl
  | _ :: _, [] => by rw [decide_eq_false (fun z => by cases z)]; rfl
  | a :: l, b :: m => by
    show (PyData.eqv (s3D a) (s3D b) && PyData.eqvAll (l.map s3D) (m.map s3D)) = _
    rw [eqv_list3 l m]
    have e : PyData.eqv (s3D a) (s3D b) = decide (a = b) := by
      have h1 : PyData.eqv (stepD a.1 a.2.1 a.2.2) (s3D b) = decide (some (b.1, b.2.1, b.2.2) = some (a.1, a.2.1, a.2.2)) := eqv_step
      show PyData.eqv (stepD a.1 a.2.1 a.2.2) (s3D b) = _
      rw [h1]
      by_cases q : a = b
      · subst q
        rw [decide_eq_true rfl, decide_eq_true rfl]
      · rw [decide_eq_false q, decide_eq_false]
        intro z
        injection z with z
        exact q z.symm
    rw [e]
    by_cases q : a = b
    · subst q
      by_cases r : l = m
      · subst r; simp
      · simp [r]
    · simp [q]
theorem eqv_L (l m : List St3) : PyData.eqv (.list (l.map s3D)) (.list (m.map s3D)) = decide (l = m) := by
  show PyData.eqvAll (l.map s3D) (m.map s3D) = _
  exact eqv_list3 l m
theorem cut_one (xs : List PyData) : cutD xs none (some (1 : Int)) = xs.take 1 := by
  rw [show ((1 : Int)) = ((1 : Nat) : Int) from rfl, cutD_upto]
def OkS3 (t : St3) : Prop := okS t.1 ∧ okS t.2.1 ∧ okS t.2.2
theorem shaped_L {l : List St3} (h : ∀ t ∈ l, OkS3 t) : SeqAt.shaped (.list (l.map s3D)) = true := by
  have h1 := shaped_tup (ys := l.map s3D) (fun y hy => by
    obtain ⟨t, ht, rfl⟩ := List.mem_map.mp hy
    obtain ⟨a, b, c⟩ := h t ht
    exact shaped_step a b c) (fun y hy => by
    obtain ⟨t, ht, rfl⟩ := List.mem_map.mp hy
    show (PyData.tuple [.str t.1, .str t.2.1, .str t.2.2]).depth ≤ 60
    simp [PyData.depth, PyData.depthAll])
  unfold SeqAt.shaped at h1 ⊢
  exact h1
theorem view_ok {hs : List Str} {ts : List St3} {h : Str} (hn : ∀ x ∈ hs, IsNm x) (hR : RwSt hs ts) : ∀ t ∈ viewL h ts, OkS3 t := fun e he => by
  obtain ⟨t, ht, hs'⟩ := List.mem_filterMap.mp he
  obtain ⟨h1, h2, h3, _⟩ := hR.ok t ht
  unfold seen at hs'
  split at hs'
  · injection hs' with hs'
    subst hs'
    exact ⟨nm_hear.okS, (hn _ h1).okS, okS_word h3⟩
  · split at hs'
    · split at hs'
      · cases hs'
      · injection hs' with hs'
        subst hs'
        exact ⟨nm_say.okS, (hn _ h2).okS, okS_word h3⟩
    · cases hs'
/-- what is left, as a dict of lists of the store -/
def kvH (hs : List Str) (ls : List Addr) : KvD := (hs.map Sum.inr).zip (ls.map hdD)
theorem getH {h : Str} {l : Addr} : ∀ {hs : List Str} {ls : List Addr} {j : Nat}, hs.Nodup → hs[j]? = some h → ls[j]? = some l → getD' (kvH hs ls) (.inr h) = some (hdD l)
  | [], _, _, _, h1, _ => by simp at h1
  | _ :: _, [], _, _, _, h2 => by simp at h2
  | a :: hs, b :: ls, 0, _, h1, h2 => by
    injection h1 with h1
    injection h2 with h2
    subst h1 h2
    unfold getD' kvH
    rw [List.map_cons, List.map_cons, List.zip_cons_cons, List.find?_cons, decide_eq_true rfl]
    rfl
  | a :: hs, b :: ls, j + 1, nd, h1, h2 => by
    rw [List.nodup_cons] at nd
    have hm : h ∈ hs := List.mem_of_getElem? (show hs[j]? = some h from h1)
    have ne : ¬ ((Sum.inr a : L2.Key) = .inr h) := fun z => nd.1 (by injection z with z; rw [z]; exact hm)
    have ih := getH (j := j) nd.2 h1 h2
    unfold getD' kvH at ih ⊢
    rw [List.map_cons, List.map_cons, List.zip_cons_cons, List.find?_cons, decide_eq_false ne]
    exact ih
def LeftOk (G : Gm) (hs : List Str) (ls : List Addr) (ts : List St3) : Prop := ∀ (j : Nat) (h : Str) (l : Addr), hs[j]? = some h → ls[j]? = some l → G l = some ((viewL h ts).map s3D)
theorem idx_ne {hs : List Str} {ls : List Addr} (nd : ls.Nodup) {i j : Nat} {l : Addr} (h1 : ls[i]? = some l) (h2 : ls[j]? = some l) : i = j := by
  have a := (List.getElem?_eq_some_iff.mp h1)
  have b := (List.getElem?_eq_some_iff.mp h2)
  obtain ⟨a1, a2⟩ := a
  obtain ⟨b1, b2⟩ := b
  exact (List.getElem_inj nd).mp (a2.trans b2.symm)
theorem left_step {G G1 : Gm} {hs : List Str} {ls : List Addr} {sy : Str} {b : Br} {rest : List St3} {ly lh : Addr} {jy jh : Nat} (nd : ls.Nodup) (hnd : hs.Nodup) (hne : b.1 ≠ sy) (h : LeftOk G hs ls ((sy, b.1, b.2.1) :: rest)) (y1 : hs[jy]? = some sy) (y2 : ls[jy]? = some ly) (g1 : hs[jh]? = some b.1) (g2 : ls[jh]? = some lh)
    (hG1 : G1 = if b.2.1 = flt then G else gput G ly ((viewL sy rest).map s3D)) : lh ≠ ly ∧ G1 lh = some ((viewL b.1 (((sy, b.1, b.2.1) : St3) :: rest)).map s3D) ∧ LeftOk (gput G1 lh ((viewL b.1 rest).map s3D)) hs ls rest := by
  have hly : lh ≠ ly := fun z => by
    have := idx_ne (hs := hs) nd g2 (z ▸ y2)
    subst this
    rw [y1] at g1
    injection g1 with g1
    exact hne g1.symm
  have hG : ∀ l, l ≠ ly → G1 l = G l := fun l hl => by
    rw [hG1]
    split
    · rfl
    · exact gput_ne hl
  refine ⟨hly, by rw [hG lh hly]; exact h jh b.1 lh g1 g2, fun j k l k1 k2 => ?_⟩
  by_cases e1 : l = lh
  · subst e1
    have := idx_ne (hs := hs) nd k2 g2
    subst this
    rw [g1] at k1
    injection k1 with k1
    rw [gput_same, k1]
  · rw [gput_ne e1]
    by_cases e2 : l = ly
    · subst e2
      have := idx_ne (hs := hs) nd k2 y2
      subst this
      rw [y1] at k1
      injection k1 with k1
      subst k1
      rw [hG1]
      by_cases e : b.2.1 = flt
      · rw [if_pos e, h j sy l y1 k2, viewL_cons, seen_say hne]
        unfold saidL
        rw [if_pos e]
        rfl
      · rw [if_neg e, gput_same]
    · rw [hG l e2, h j k l k1 k2, viewL_cons]
      have hk1 : b.1 ≠ k := fun z => by
        subst z
        have hj : j = jh := by
          have a := List.getElem?_eq_some_iff.mp k1
          have c := List.getElem?_eq_some_iff.mp g1
          obtain ⟨a1, a2⟩ := a
          obtain ⟨c1, c2⟩ := c
          exact (List.getElem_inj hnd).mp (a2.trans c2.symm)
        subst hj
        rw [g2] at k2
        injection k2 with k2
        exact e1 k2.symm
      have hk2 : sy ≠ k := fun z => by
        subst z
        have hj : j = jy := by
          have a := List.getElem?_eq_some_iff.mp k1
          have c := List.getElem?_eq_some_iff.mp y1
          obtain ⟨a1, a2⟩ := a
          obtain ⟨c1, c2⟩ := c
          exact (List.getElem_inj hnd).mp (a2.trans c2.symm)
        subst hj
        rw [y2] at k2
        injection k2 with k2
        exact e2 k2.symm
      rw [seen_other hk1 hk2]
      rfl
end K3

set_option maxHeartbeats 200000
set_option Elab.async false
set_option linter.all false
set_option maxRecDepth 100000
set_option maxHeartbeats 4000000
namespace K3
open PySem PySem.Spec PyProof.Rows L2 DL
variable {P : Program} {w : World} {K : PySem.W.Frag} {mg : Str → Option Value} {base : Heap} {f : Addr} {fd : FuncData} {k : Nat}
def S_law_back : SpK := fun a kvs ds Φ => ∃ hs ws ps ts n, ds = [plsD ps, hdD a] ∧ kvs = viewsD ts hs ∧ BdOk hs ws ps ∧ ts.length ≤ 900 ∧ walkTo ps 0 (ts.map s3D) = some n ∧ RwSt hs ts ∧ Φ (rowD ts)
def stpD (sy : Str) : Option Br → PyData
  | none => .none
  | some b => .tuple [.str sy, .str b.1, .str b.2.1, natD b.2.2]
def envBk (ps : List Pl) (a : Addr) (hs : List Str) (ls : List Addr) (here : Nat) (fo : List St3) (c6 c7 c8 c9 c10 c11 c12 c13 : Option C) : St' :=
  ⟨0, [some (.d (plsD ps)), some (.d (hdD a)), some (.dct (kvH hs ls)), none, some (.d (natD here)), some (.own (fo.map s3D)), c6, c7, c8, c9, c10, c11, c12, c13]⟩
theorem views_fst {ts : List St3} {hs : List Str} : (viewsD ts hs).map (·.1) = hs.map Sum.inr := by
  unfold viewsD
  rw [List.map_map]
  rfl
theorem views_snd {ts : List St3} {hs : List Str} : (viewsD ts hs).map (·.2) = (hs.map fun h => (viewL h ts).map s3D).map PyData.tuple := by
  unfold viewsD
  rw [List.map_map, List.map_map]
  rfl
theorem inr_nd {hs : List Str} (h : hs.Nodup) : (hs.map (Sum.inr : Str → L2.Key)).Nodup := List.pairwise_map.mpr (h.imp fun h e => h (by injection e))
def forI : Stmt → List Stmt
  | .For _ _ b _ _ => b
  | _ => []
theorem ok__law_back (T : Tx mg) (mD : mg "dict" = none) (F : Fd K "_law_back" s__law_back [] [] f fd) : FnOk P w K mg base CX0 1 f fd ["places", "views"] (spK K S_law_back) := by
  refine fnK F sc__law_back (fun a kvs ds Φ h => by obtain ⟨_, _, _, _, _, rfl, _⟩ := h; rfl) (fun B cdv A outer s H E a kvs ds Φ hr hp hf hS => ?_)
  obtain ⟨hs, ws, ps, ts, n, rfl, rfl, hb, hl, hw, hR, hΦ⟩ := hS
  have nd := sc__law_back.nd
  have hu := room1 hr
  have h6 := hb.h6
  have hp1 := hb.p1
  refine dss_sss (sss_cons ?_)
  refine sss_left 2 1 3 (cs := hs.map fun h => (viewL h ts).map s3D)
    (pe_callTy (call_dictP rfl) rfl mD boot_dict (pa_cons (pe_lock (pe_lc (own := [("hand", 3)]) rfl nd (pi_keys (pe_var (i := 1) rfl (by first | exact Or.inl rfl | exact Or.inr (Or.inl rfl) | exact Or.inr (Or.inr rfl)))) (blkOk_by (N := n__law_back) (sc := defScope s__law_back) (by decide +kernel)) (fun _ _ _ _ _ => pg_name (i := 3) nd rfl (Or.inl rfl)) (fun _ _ _ _ _ => pts_nil)
      (fun s H C cl fp => pe_tup (pa_cons (pe_var (i := 3) rfl (by first | exact Or.inl rfl | exact Or.inr (Or.inl rfl) | exact Or.inr (Or.inr rfl))) (pa_cons (pe_callTy call_list_of rfl T.list boot_list (pa_cons (pe_dget hu (pe_var (i := 1) rfl (by first | exact Or.inl rfl | exact Or.inr (Or.inl rfl) | exact Or.inr (Or.inr rfl))) (pe_var (i := 3) rfl (by first | exact Or.inl rfl | exact Or.inr (Or.inl rfl) | exact Or.inr (Or.inr rfl))) (fun _ _ => rfl)) pa_nil) (by decide) (by decide) rfl rfl) pa_nil))))) pa_nil) (by decide) (by decide) rfl rfl)
    hf rfl (by decide) (by show 3 < 14; decide) (by rw [views_fst]; exact inr_nd hb.hd) (by unfold viewsD; rw [List.length_map]; omega) views_snd (fun ls hll hnd hfr => ?_) nd
  have hL0 : LeftOk (gls (fun _ => none) ls (hs.map fun h => (viewL h ts).map s3D)) hs ls ts := fun j h l h1 h2 => gls_in hnd h2 (by rw [List.getElem?_map, h1]; rfl)
  generalize gls (fun _ => none) ls (hs.map fun h => (viewL h ts).map s3D) = G0 at hL0 ⊢
  have hlh : ls.length = hs.length := by
    rw [hll]
    unfold viewsD
    rw [List.length_map]
  rw [views_fst]
  refine sss_ds fun B' hp' hG => ds_parO 4 5 (de_int (dl_lst (da_nil ⟨by decide, ?_⟩))) nd
  refine sss_cons (sss_for [6] (pi_range1 rfl T.range pa_w) (pg_name (i := 6) nd rfl (.inl rfl)) (fun B' hp' hG => wik_rng1 (da_cons (de_int (da_nil ⟨_, rfl, by decide, by decide, fun i δ G => ∃ ts1 ts2 here c6 c7 c8 c9 c10 c11 c12 c13, ts = ts1 ++ ts2 ∧ ts1.length = i ∧ δ = envBk ps a hs ls here ts1 c6 c7 c8 c9 c10 c11 c12 c13 ∧ walkTo ps here (ts2.map s3D) = some n ∧ here < ps.length ∧ LeftOk G hs ls ts2,
    ⟨[], ts, 0, none, none, none, none, none, none, none, none, rfl, rfl, rfl, hw, by omega, hL0⟩, fun i y δ G hy hI B' hp' hG => ?_, fun δ G hI => ?_⟩)))))
  · obtain ⟨ts1, ts2, here, c6, c7, c8, c9, c10, c11, c12, c13, hts, hlen, rfl, hw2, hhere, hL⟩ := hI
    obtain ⟨hi, rfl⟩ := rng_get hy
    refine wg_name ?_
    have hR2 : RwSt hs ts2 := ⟨fun t ht => hR.ok t (by rw [hts]; exact List.mem_append_right _ ht)⟩
    have hph : ps[here]? = some ps[here] := List.getElem?_eq_getElem hhere
    refine sss_cons (sss_if fun B' hp' hG => dt_cmp op_isN (de_ix ix_tup (de_nm 0 (de_nm 4 (rd_ixT (places_get hhere) (de_non (rd_isN ⟨_, rfl, ?_⟩)))))))
    cases hpl : ps[here] with
    | none =>
      have : ts2 = [] := by
        cases ts2 with
        | nil => rfl
        | cons t rest =>
          obtain ⟨sy, bs, b, h1, _⟩ := walk_cons hb hw2
          rw [hph, hpl] at h1
          cases h1
      subst this
      rw [List.append_nil] at hts
      subst hts
      exact iteT (sss_freeze 5 (xs := ts.map s3D) (sss_one (sss_ret (se_de fun B' hp' hG => de_callTy call_tuple_of T.tup boot_tuple (da_cons (de_nm 5 (da_nil (rc_tupleL rfl hΦ))))))))
    | some q =>
    obtain ⟨sy, bs⟩ := q
    have hps : ps[here]? = some (some (sy, bs)) := by rw [hph, hpl]
    have hq := hb.pl _ (List.mem_of_getElem? hps) sy bs rfl
    have hget : atI (ps.map plD) ((here : Nat) : Int) = some (.tuple [.str sy, .tuple (bs.map brD)]) := by
      rw [places_get hhere, hpl]
      rfl
    refine iteF (sss_nil ?_)
    refine sss_ds fun B' hp' hG => ds_unpack [7, 8] (pg_two 7 8 nd) (de_ix ix_tup (de_nm 0 (de_nm 4 (rd_ixT hget (wg_tup (wgs_cons (wg_name (wgs_cons (wg_name (wgs_nil ?_))))))))))
    refine sss_ds fun B' hp' hG => ds_set 9 (de_non ?_) nd
    obtain ⟨jy, hjy⟩ := List.getElem?_of_mem hq.sy
    obtain ⟨ly, hly⟩ : ∃ ly, ls[jy]? = some ly := ⟨_, List.getElem?_eq_getElem (by rw [hlh]; exact (List.getElem?_eq_some_iff.mp hjy).1)⟩
    have hvok : ∀ h, ∀ t ∈ (viewL h ts2).take 1, OkS3 t := fun h t ht => view_ok hb.hn hR2 t (List.mem_of_mem_take ht)
    refine sss_ds fun B' hp' hG => ds_for [10, 11, 12] (pi_tup pe_w) (pg_three 10 11 12 nd) (wi_tup (de_nm 8 ⟨bs.map brD, rfl, ?_⟩))
    refine ⟨fun i' δ => ∃ (o : Option Br) (c10 c11 c12 c13 : Option C), δ = envBk ps a hs ls here ts1 (some (.d (.int (0 + (i : Nat))))) (some (.d (.str sy))) (some (.d (.tuple (bs.map brD)))) (some (.d (stpD sy o))) c10 c11 c12 c13 ∧ (∀ b, o = some b → b ∈ bs ∧ Cnd ts2 sy b) ∧ (o = none → ∀ (j : Nat) b, j < i' → bs[j]? = some b → ¬ Cnd ts2 sy b), ⟨none, c10, c11, c12, c13, rfl, (fun b z => by cases z), fun _ j b h => absurd h (by omega)⟩, fun i' y δ hy hI => ?_, fun δ hI => ?_⟩
    · obtain ⟨o, c10, c11, c12, c13, rfl, ho1, ho2⟩ := hI
      rw [List.getElem?_map, Option.map_eq_some_iff] at hy
      obtain ⟨b, hb', rfl⟩ := hy
      have hbm := List.mem_of_getElem? hb'
      have hbo := hq.br b hbm
      obtain ⟨jh, hjh⟩ := List.getElem?_of_mem hbo.hr
      obtain ⟨lh, hlh'⟩ : ∃ lh, ls[jh]? = some lh := ⟨_, List.getElem?_eq_getElem (by rw [hlh]; exact (List.getElem?_eq_some_iff.mp hjh).1)⟩
      refine wg_tup (wgs_cons (wg_name (wgs_cons (wg_name (wgs_cons (wg_name (wgs_nil ?_)))))))
      have stay : ∀ c13', ¬ Cnd ts2 sy b → ∃ (o' : Option Br) (c10 c11 c12 c13 : Option C), envBk ps a hs ls here ts1 (some (.d (.int (0 + (i : Nat))))) (some (.d (.str sy))) (some (.d (.tuple (bs.map brD)))) (some (.d (stpD sy o))) (some (.d (.str b.1))) (some (.d (.str b.2.1))) (some (.d (natD b.2.2))) c13' = envBk ps a hs ls here ts1 (some (.d (.int (0 + (i : Nat))))) (some (.d (.str sy))) (some (.d (.tuple (bs.map brD)))) (some (.d (stpD sy o'))) c10 c11 c12 c13 ∧ (∀ b, o' = some b → b ∈ bs ∧ Cnd ts2 sy b) ∧ (o' = none → ∀ (j : Nat) b, j < i' + 1 → bs[j]? = some b → ¬ Cnd ts2 sy b) := fun c13' hn => ⟨o, _, _, _, _, rfl, ho1, fun z j b2 hj hj2 => by
        rcases Nat.lt_or_ge j i' with h | h
        · exact ho2 z j b2 h hj2
        · obtain rfl : j = i' := by omega
          rw [hb'] at hj2
          injection hj2 with hj2
          subst hj2
          exact hn⟩
      refine ds_last (ds_if (dt_cmp (op_eqD hr.units) (de_slTo sl_list (de_dget 2 hu (kvs := kvH hs ls) (de_nm 10 ⟨kvH hs ls, .inr b.1, hdD lh, rfl, rfl, getH hb.hd hjh hlh', de_int ⟨1, rfl, ru_slH hG (hL jh b.1 lh hjh hlh') ?_⟩⟩)))))
      rw [cut_one, ← List.map_take]
      have shH : SeqAt.shaped (.list [.tuple [.str "hear", .str sy, .str b.2.1]]) = true := shaped_L (l := [(("hear" : Str), sy, b.2.1)]) fun t ht => by
        simp at ht
        subst ht
        exact ⟨nm_hear.okS, (hb.hn _ hq.sy).okS, okS_word hbo.wd⟩
      refine de_dl (dl_lst (da_cons (de_tup (da_cons (de_str (da_cons (de_nm 7 (da_cons (de_nm 11 (da_nil ⟨len3, da_nil ⟨by simp, rd_eqD (shaped_L (hvok b.1)) shH ⟨_, rfl, ?_⟩⟩⟩))))))))))
      have e1 : PyData.eqv (.list (((viewL b.1 ts2).take 1).map s3D)) (.list [.tuple [.str "hear", .str sy, .str b.2.1]]) = decide ((viewL b.1 ts2).take 1 = [(("hear" : Str), sy, b.2.1)]) := eqv_L _ [(("hear" : Str), sy, b.2.1)]
      rw [e1]
      by_cases c1 : (viewL b.1 ts2).take 1 = [(("hear" : Str), sy, b.2.1)]
      · rw [decide_eq_true c1]
        refine iteT (ds_cons (ds_set 13 ?_ nd))
        refine DE.mono (Φ := fun d δ' => d = .list ((saidL b).map s3D) ∧ δ' = envBk ps a hs ls here ts1 (some (.d (.int (0 + (i : Nat))))) (some (.d (.str sy))) (some (.d (.tuple (bs.map brD)))) (some (.d (stpD sy o))) (some (.d (.str b.1))) (some (.d (.str b.2.1))) (some (.d (natD b.2.2))) c13) ?_ fun d δ' hd => ?_
        · refine de_if (dt_cmp op_eq (de_nm 11 (de_str (rd_eqS ⟨_, rfl, ?_⟩))))
          rw [show (Str.ofString "!") = flt from rfl]
          by_cases e : b.2.1 = flt
          · rw [decide_eq_true e]
            exact iteT (de_dl (dl_lst (da_nil ⟨by decide, by unfold saidL; rw [if_pos e]; rfl, rfl⟩)))
          · rw [decide_eq_false e]
            refine iteF (de_dl (dl_lst (da_cons (de_tup (da_cons (de_str (da_cons (de_nm 10 (da_cons (de_nm 11 (da_nil ⟨len3, da_nil ⟨by simp, by unfold saidL; rw [if_neg e]; rfl, rfl⟩⟩)))))))))))
        · obtain ⟨rfl, rfl⟩ := hd
          refine ds_last (ds_if (dt_cmp (op_eqD hr.units) (de_slTo sl_list (de_dget 2 hu (kvs := kvH hs ls) (de_nm 7 ⟨kvH hs ls, .inr sy, hdD ly, rfl, rfl, getH hb.hd hjy hly, de_int ⟨1, rfl, ru_slH hG (hL jy sy ly hjy hly) ?_⟩⟩)))))
          rw [cut_one, ← List.map_take]
          have shS : SeqAt.shaped (.list ((saidL b).map s3D)) = true := shaped_L fun t ht => by
            unfold saidL at ht
            split at ht
            · cases ht
            · simp at ht
              subst ht
              exact ⟨nm_say.okS, (hb.hn _ hbo.hr).okS, okS_word hbo.wd⟩
          refine de_nm 13 (rd_eqD (shaped_L (hvok sy)) shS ⟨_, rfl, ?_⟩)
          rw [eqv_L]
          by_cases c2 : (viewL sy ts2).take 1 = saidL b
          · rw [decide_eq_true c2]
            refine iteT (ds_last (ds_set 9 ?_ nd))
            refine de_tup (da_cons (de_nm 7 (da_cons (de_nm 10 (da_cons (de_nm 11 (da_cons (de_nm 12 (da_nil ⟨by simp, some b, _, _, _, _, rfl, fun b' e => ?_, fun z => by cases z⟩)))))))))
            injection e with e
            subst e
            exact ⟨hbm, c1, c2⟩
          · rw [decide_eq_false c2]
            exact iteF (ds_nil (stay (some (.d (.list ((saidL b).map s3D)))) fun z => c2 z.said))
      · rw [decide_eq_false c1]
        exact iteF (ds_nil (stay c13 fun z => c1 z.hear))
    · obtain ⟨o, c10, c11, c12, c13, rfl, ho1, ho2⟩ := hI
      rw [List.length_map] at ho2
      refine sss_cons (sss_if fun B' hp' hG => dt_cmp op_isN (de_nm 9 (de_non (rd_isN ⟨_, rfl, ?_⟩))))
      cases o with
      | none =>
        have : ts2 = [] := by
          cases ts2 with
          | nil => rfl
          | cons t rest =>
            obtain ⟨sy', bs', b, h1, h2, rfl, h4⟩ := walk_cons hb hw2
            rw [hps] at h1
            injection h1 with h1
            injection h1 with h1
            injection h1 with e1 e2
            subst e1 e2
            obtain ⟨j, hj⟩ := List.getElem?_of_mem h2
            exact absurd (cnd_own hb hps h2 h4) (ho2 rfl j b (List.getElem?_eq_some_iff.mp hj).1 hj)
        subst this
        rw [List.append_nil] at hts
        subst hts
        exact iteT (sss_freeze 5 (xs := ts.map s3D) (sss_one (sss_ret (se_de fun B' hp' hG => de_callTy call_tuple_of T.tup boot_tuple (da_cons (de_nm 5 (da_nil (rc_tupleL rfl hΦ))))))))
      | some b =>
        obtain ⟨hbm, hc⟩ := ho1 b rfl
        obtain ⟨rest, rfl, hw3⟩ := cnd_one hb hps hbm hw2 hc
        have hbo := hq.br b hbm
        obtain ⟨jh, hjh⟩ := List.getElem?_of_mem hbo.hr
        obtain ⟨lh, hlh'⟩ : ∃ lh, ls[jh]? = some lh := ⟨_, List.getElem?_eq_getElem (by rw [hlh]; exact (List.getElem?_eq_some_iff.mp hjh).1)⟩
        refine iteF (sss_nil ?_)
        have fin : ∀ G1 : Gm, G1 = (if b.2.1 = flt then G else gput G ly ((viewL sy rest).map s3D)) → SSs B (bodyX P w K mg base n__law_back "_law_back" (defScope s__law_back) f cdv A outer s H E) (wSs (bodyX P w K mg base n__law_back "_law_back" (defScope s__law_back) f cdv A outer s H E) ((forI ((defBody s__law_back).getD 2 (.Pass ⟨0, 0, 0, 0⟩))).drop 6)) G1 (envBk ps a hs ls here ts1 (some (.d (.int (0 + (i : Nat))))) (some (.d (.str sy))) (some (.d (.tuple (bs.map brD)))) (some (.d (stpD sy (some b)))) c10 c11 c12 c13)
            (fun δ G => ∃ ts1 ts2 here c6 c7 c8 c9 c10 c11 c12 c13, ts = ts1 ++ ts2 ∧ ts1.length = i + 1 ∧ δ = envBk ps a hs ls here ts1 c6 c7 c8 c9 c10 c11 c12 c13 ∧ walkTo ps here (ts2.map s3D) = some n ∧ here < ps.length ∧ LeftOk G hs ls ts2) (fun x _ _ => Φ x) := fun G1 hG1 => by
          obtain ⟨_, hGl, hL3⟩ := left_step hnd hb.hd hbo.ne hL hjy hly hjh hlh' hG1
          rw [viewL_cons, seen_hear] at hGl
          refine sss_cons (sss_pop0 fun B' hp' hs' hG => de_dget 2 hu (kvs := kvH hs ls) (de_ix ix_tup (de_nm 9 (de_int (rd_ixT rfl ⟨kvH hs ls, .inr b.1, hdD lh, rfl, rfl, getH hb.hd hjh hlh', lh, _, _, rfl, hGl, ?_⟩)))))
          refine sss_cons (sss_appendOwn 5 (xs := ts1.map s3D) (se_de fun B' hp' hG => de_slTo sl_tupA (de_nm 9 (de_int ⟨3, rfl, ru_slT ⟨_, rfl, ?_, ?_⟩⟩))))
          · rw [List.length_map]; omega
          rw [show cutD [PyData.str sy, .str b.1, .str b.2.1, natD b.2.2] none (some (3 : Int)) = [.str sy, .str b.1, .str b.2.1] by rw [show ((3 : Int)) = ((3 : Nat) : Int) from rfl, cutD_upto]; rfl]
          refine sss_one (sss_set 4 (se_de fun B' hp' hG => de_ix ix_tup (de_nm 9 (de_int (rd_ixT rfl ?_)))) nd)
          have g1 : ts = (ts1 ++ [(sy, b.1, b.2.1)]) ++ rest := by rw [hts]; simp
          have g2 : (ts1 ++ [((sy, b.1, b.2.1) : St3)]).length = i + 1 := by rw [List.length_append, hlen]; rfl
          refine ⟨ts1 ++ [(sy, b.1, b.2.1)], rest, b.2.2, some (.d (.int (0 + (i : Nat)))), some (.d (.str sy)), some (.d (.tuple (bs.map brD))), some (.d (stpD sy (some b))), c10, c11, c12, c13, g1, g2, ?_, hw3, hbo.tg, hL3⟩
          unfold envBk
          rw [List.map_append]
          rfl
        refine sss_cons (sss_if fun B' hp' hG => dt_cmp op_ne (de_ix ix_tup (de_nm 9 (de_int (rd_ixT rfl (de_str (rd_neS ⟨_, rfl, ?_⟩)))))))
        rw [show (Str.ofString "!") = flt from rfl]
        by_cases e : b.2.1 = flt
        · rw [decide_eq_true e]
          exact iteF (sss_nil (fin G (if_pos e).symm))
        · rw [decide_eq_false e]
          have hGy := hL jy sy ly hjy hly
          rw [viewL_cons, seen_say hbo.ne] at hGy
          unfold saidL at hGy
          rw [if_neg e] at hGy
          refine iteT (sss_one (sss_pop0 fun B' hp' hs' hG => de_dget 2 hu (kvs := kvH hs ls) (de_nm 7 ⟨kvH hs ls, .inr sy, hdD ly, rfl, rfl, getH hb.hd hjy hly, ly, _, _, rfl, hGy, ?_⟩)))
          exact fin _ (if_neg e).symm
  · obtain ⟨ts1, ts2, here, c6, c7, c8, c9, c10, c11, c12, c13, hts, hlen, rfl, hw2, hhere, hL⟩ := hI
    rw [rng_len] at hlen
    have := congrArg List.length hts
    rw [List.length_append, hlen] at this
    have h1000 : ((1000 : Int)).toNat = 1000 := rfl
    omega
end K3

set_option maxHeartbeats 200000
set_option Elab.async false
set_option linter.all false
set_option maxRecDepth 100000
set_option maxHeartbeats 4000000
namespace K3
open PySem PySem.Spec PyProof.Rows L2 DL
variable {P : Program} {w : World} {K : PySem.W.Frag} {mg : Str → Option Value} {base : Heap} {f : Addr} {fd : FuncData} {k : Nat}
/-! ### another row, as the law draws it -/
theorem walk_lt {ps : List Pl} (ok : RwOk ps) : ∀ {xs : List PyData} {a n : Nat}, a < ps.length → walkTo ps a xs = some n → n < ps.length
  | [], a, n, ha, h => by
    have h' : some a = some n := h
    injection h' with h'
    omega
  | d :: ds, a, n, ha, h => by
    have h' : (match byPl ((ps[a]?).getD none) d with | none => none | some m => walkTo ps m ds) = some n := h
    cases e : byPl ((ps[a]?).getD none) d with
    | none => rw [e] at h'; cases h'
    | some m =>
      rw [e] at h'
      exact walk_lt ok (byPl_lt ok e) h'
theorem walk_take {ps : List Pl} {xs : List PyData} {a n : Nat} (K1 : Nat) (h : walkTo ps a xs = some n) : ∃ m, walkTo ps a (xs.take K1) = some m := by
  cases e : walkTo ps a (xs.take K1) with
  | some m => exact ⟨m, rfl⟩
  | none =>
    have := walkTo_none (es := xs.drop K1) e
    rw [List.take_append_drop, h] at this
    cases this
theorem StOk.shp {hs : List Str} {d : PyData} (hn : ∀ x ∈ hs, IsNm x) (h : StOk hs d) : SeqAt.shaped d = true := by
  obtain ⟨s, g, x, rfl, h1, h2, h3⟩ := h.ex
  exact shaped_step (hn _ h1).okS (hn _ h2).okS (okS_word h3)
def S_law_other : SpP := fun n ds Φ => ∃ hs ws ps xs most a, ds = [plsD ps, .tuple xs, .int ((most : Nat) : Int)] ∧ BdOk hs ws ps ∧ walkTo ps 0 xs = some a ∧ (∀ x ∈ xs, StOk hs x) ∧ xs.length ≤ 400 ∧ most ≤ 100 ∧ n + 1000 < 1099511627776 ∧
  ∀ ys a' m, walkTo ps 0 ys = some a' → (∀ y ∈ ys, StOk hs y) → ys.length ≤ xs.length + most → n ≤ m → m ≤ n + most + 2 → Φ (.tuple ys) m
def envO (n : Nat) (ps : List Pl) (xs : List PyData) (most : Nat) (ys : List PyData) (a : Nat) (c : List (Option C)) : St' := ⟨n, [some .pot, some (.d (plsD ps)), some (.d (.tuple xs)), some (.d (.int ((most : Nat) : Int))), some (.d (.tuple ys)), some (.d (natD a))] ++ c⟩
theorem ok__law_other (T : Tx mg) (GT : Fn P w K mg base "_law_take" 1 ["pot", "many"] (spP K S_law_take)) (GB : Fn P w K mg base "_law_place_by" 1 ["places", "row"] (spD K S_law_place_by)) (F : Fd K "_law_other" s__law_other [] [] f fd) : FnOk P w K mg base CX0 2 f fd ["pot", "places", "row", "most"] (spP K S_law_other) := by
  refine fnP F sc__law_other (fun n ds Φ h => by obtain ⟨_, _, _, _, _, _, rfl, _⟩ := h; rfl) (fun B cdv A outer s H E n ds Φ hr hp hS => ?_)
  obtain ⟨hs, ws, ps, xs, most, a, rfl, hb, hw, hst, hl, hm, hn, hΦ⟩ := hS
  have nd := sc__law_other.nd
  have hp1 := hb.p1
  refine ds_cons (ds_set 4 ?_ nd)
  refine de_slTo sl_tupA (de_nm 2 (de_fP (k' := 1) 0 GT hr (da_cons (de_bin op_add (de_callB call_len T.len boot_len (da_cons (de_nm 2 (da_nil (rc_lenT rfl (de_int (rd_I0 (da_nil ⟨_, rfl, ?_, ?_, ?_, fun d g0 g1 => ⟨_, rfl, ru_slT ?_⟩⟩))))))))))))
  · omega
  · omega
  · show n < _
    omega
  obtain ⟨K1, rfl⟩ : ∃ K1 : Nat, d = (K1 : Int) := ⟨d.toNat, (Int.toNat_of_nonneg g0).symm⟩
  rw [cutD_upto]
  obtain ⟨a0, ha0⟩ := walk_take K1 hw
  have hst0 : ∀ x ∈ xs.take K1, StOk hs x := fun x hx => hst x (List.mem_of_mem_take hx)
  refine ds_cons (ds_set 5 ?_ nd)
  refine de_f (k' := 1) GB hr (da_cons (de_nm 1 (da_cons (de_nm 4 (da_nil ⟨ps, xs.take K1, rfl, hb.rw, fun x hx => (hst0 x hx).shp hb.hn, ?_⟩)))))
  rw [ha0]
  have hl0 : (xs.take K1).length ≤ xs.length := by rw [List.length_take]; omega
  refine ds_cons (ds_for [6] (pi_range1 rfl T.range pa_w) (pg_name (i := 6) nd rfl (.inl rfl)) (wi_rng1 (da_cons (de_fP (k' := 1) 0 GT hr (da_cons (de_bin op_add (de_nm 3 (de_int (rd_I0 (da_nil ⟨_, rfl, ?_, ?_, ?_, fun d2 g2 g3 => da_nil ⟨_, rfl, ?_, ?_, fun (i : Nat) δ => ∃ (ys : List PyData) (a : Nat) (m : Nat) (c6 c7 c8 c9 c10 c11 : Option C), δ = envO m ps xs most ys a [c6, c7, c8, c9, c10, c11] ∧ walkTo ps 0 ys = some a ∧ (∀ y ∈ ys, StOk hs y) ∧ ys.length ≤ xs.length + i ∧ i ≤ most ∧ n + 2 ≤ m ∧ m ≤ n + 2 + i,
    ⟨xs.take K1, a0, n + 2, none, none, none, none, none, none, rfl, ha0, hst0, by omega, by omega, Nat.le_refl _, by omega⟩, fun i y δ hy hI => ?_, fun δ hI => ?_⟩⟩))))))))))
  · omega
  · omega
  · show n + 1 < _
    omega
  · omega
  · omega
  · obtain ⟨ys, a1, m, c6, c7, c8, c9, c10, c11, rfl, hw1, hst1, hl1, him, hm1, hm2⟩ := hI
    obtain ⟨hi, rfl⟩ := rng_get hy
    have ha1 : a1 < ps.length := walk_lt hb.rw (by omega) hw1
    refine wg_name ?_
    refine ds_cons (ds_if (dt_cmp op_isN (de_ix ix_tup (de_nm 1 (de_nm 5 (rd_ixT (places_get ha1) (de_non (rd_isN ⟨_, rfl, ?_⟩))))))))
    cases hpl : ps[a1] with
    | none => exact iteT (ds_last (ds_ret (de_nm 4 (hΦ ys a1 m hw1 hst1 (by omega) (by omega) (by omega)))))
    | some q =>
      obtain ⟨sy, bs⟩ := q
      have hps : ps[a1]? = some (some (sy, bs)) := by rw [List.getElem?_eq_getElem ha1, hpl]
      have hq := hb.pl _ (List.mem_of_getElem? hps) sy bs rfl
      have l1 := hq.l1
      have l8 := hq.l8
      have hget : atI (ps.map plD) ((a1 : Nat) : Int) = some (.tuple [.str sy, .tuple (bs.map brD)]) := by
        rw [places_get ha1, hpl]
        rfl
      refine iteF (ds_nil (ds_cons (ds_unpack [7, 8] (pg_two 7 8 nd) (de_ix ix_tup (de_nm 1 (de_nm 5 (rd_ixT hget (wg_tup (wgs_cons (wg_name (wgs_cons (wg_name (wgs_nil ?_)))))))))))))
      refine ds_cons (ds_unpack [9, 10, 11] (pg_three 9 10 11 nd) (de_ix ix_tup (de_nm 8 (de_fP (k' := 1) 0 GT hr (da_cons (de_callB call_len T.len boot_len (da_cons (de_nm 8 (da_nil (rc_lenT rfl (da_nil ⟨_, rfl, ?_, ?_, ?_, fun d3 g4 g5 => ?_⟩)))))))))))
      · rw [List.length_map]; omega
      · rw [List.length_map]; omega
      · show m < _
        omega
      rw [List.length_map] at g5
      have hlt : d3.toNat < bs.length := by omega
      have hb0 := List.getElem?_eq_getElem hlt
      generalize hbb : bs[d3.toNat] = b at hb0
      refine rd_ixT (z := brD b) (by rw [atI_nn g4, List.getElem?_map, hb0]; rfl) ?_
      refine wg_tup (wgs_cons (wg_name (wgs_cons (wg_name (wgs_cons (wg_name (wgs_nil ?_)))))))
      have hqb := hq.br b (List.mem_of_getElem? hb0)
      refine ds_cons (ds_set 4 ?_ nd)
      refine de_bin op_catA (de_nm 4 (de_tup (da_cons (de_tup (da_cons (de_nm 7 (da_cons (de_nm 9 (da_cons (de_nm 10 (da_nil ⟨len3, da_nil ⟨by simp, rd_catA ?_ ?_⟩⟩)))))))))))
      · simp only [List.length_cons, List.length_nil]; omega
      refine ds_last (ds_set 5 (de_nm 11 ?_) nd)
      refine ⟨ys ++ [stepD sy b.1 b.2.1], b.2.2, m + 1, _, _, _, _, _, _, rfl, ?_, fun y hy => ?_, ?_, ?_, ?_, ?_⟩
      · rw [walkTo_snoc, hw1]
        show byPl ((ps[a1]?).getD none) _ = _
        rw [hps]
        exact byPl_own hq hb0
      · rcases List.mem_append.mp hy with hy | hy
        · exact hst1 y hy
        · simp at hy
          exact ⟨sy, b.1, b.2.1, hy, hq.sy, hqb.hr, hqb.wd⟩
      · rw [List.length_append]
        show ys.length + 1 ≤ _
        omega
      · omega
      · omega
      · omega
  · obtain ⟨ys, a1, m, c6, c7, c8, c9, c10, c11, rfl, hw1, hst1, hl1, him, hm1, hm2⟩ := hI
    rw [rng_len] at hl1 him hm2
    exact ds_last (ds_ret (de_nm 4 (hΦ ys a1 m hw1 hst1 (by omega) (by omega) (by omega))))
end K3

set_option maxHeartbeats 200000
set_option Elab.async false
set_option linter.all false
set_option maxRecDepth 100000
set_option maxHeartbeats 4000000
namespace K3
open PySem PySem.Spec PyProof.Rows L2 DL
variable {P : Program} {w : World} {K : PySem.W.Frag} {mg : Str → Option Value} {base : Heap} {f : Addr} {fd : FuncData} {k : Nat}
/-! ### a row and its views, as the law looks at them -/
theorem eqv_T (l m : List St3) : PyData.eqv (rowD l) (rowD m) = decide (l = m) := by
  show PyData.eqvAll (l.map s3D) (m.map s3D) = _
  exact eqv_list3 l m
theorem shaped_T {l : List St3} (h : ∀ t ∈ l, OkS3 t) : SeqAt.shaped (rowD l) = true := by
  have h1 := shaped_L h
  unfold SeqAt.shaped at h1 ⊢
  exact h1
theorem ask_row {hs ws : List Str} {ps : List Pl} {ts : List St3} (hb : BdOk hs ws ps) (hR : RwSt hs ts) : Askd (rowD ts) :=
  ⟨rfl, fun xs e x hx => by
    injection e with e
    subst e
    obtain ⟨t, ht, rfl⟩ := List.mem_map.mp hx
    obtain ⟨h1, h2, h3, _⟩ := hR.ok t ht
    exact shaped_step (hb.hn _ h1).okS (hb.hn _ h2).okS (okS_word h3)⟩
theorem row_ok {hs ws : List Str} {ps : List Pl} {ts : List St3} (hb : BdOk hs ws ps) (hR : RwSt hs ts) : ∀ t ∈ ts, OkS3 t := fun t ht => by
  obtain ⟨h1, h2, h3, _⟩ := hR.ok t ht
  exact ⟨(hb.hn _ h1).okS, (hb.hn _ h2).okS, okS_word h3⟩
theorem getV {ts : List St3} {h : Str} : ∀ {hs : List Str}, h ∈ hs → getD' (viewsD ts hs) (.inr h) = some (rowD (viewL h ts))
  | [], hm => by cases hm
  | a :: hs, hm => by
    unfold getD' viewsD
    rw [List.map_cons]
    by_cases e : a = h
    · subst e
      rw [List.find?_cons, decide_eq_true rfl]
      rfl
    · have ne : ¬ ((Sum.inr a : L2.Key) = .inr h) := fun z => e (by injection z)
      rw [List.find?_cons, decide_eq_false ne]
      rcases List.mem_cons.mp hm with z | z
      · exact absurd z.symm e
      · exact getV z
def mineB (h : Str) (t : St3) : Bool := decide (t.2.1 = h) || (decide (t.1 = h) && !decide (t.2.2 = flt))
theorem view_count {h : Str} : ∀ ts : List St3, (viewL h ts).length = (ts.filter (mineB h)).length
  | [] => rfl
  | t :: ts => by
    rw [viewL_cons, List.length_append, view_count ts, List.filter_cons]
    have e : (seen h t).toList.length = if mineB h t = true then 1 else 0 := by
      unfold seen mineB
      by_cases h1 : t.2.1 = h
      · rw [if_pos h1, decide_eq_true h1]; rfl
      · rw [if_neg h1, decide_eq_false h1]
        by_cases h2 : t.1 = h
        · rw [if_pos h2, decide_eq_true h2]
          by_cases h3 : t.2.2 = flt
          · rw [if_pos h3, decide_eq_true h3]; rfl
          · rw [if_neg h3, decide_eq_false h3]; rfl
        · rw [if_neg h2, decide_eq_false h2]; rfl
    rw [e]
    split <;> simp <;> omega
def mineD (h : Str) : PyData → Bool
  | .tuple [.str a, .str b, .str c] => mineB h (a, b, c)
  | _ => false
theorem mine_map {h : Str} {ts : List St3} : ((ts.map s3D).filter (mineD h)).length = (viewL h ts).length := by
  rw [view_count, List.filter_map, List.length_map]
  rfl
def S_law_row_right : SpD := fun ds Φ => ∃ hs ws ps ts n, ds = [bdD hs ws ps, rowD ts] ∧ BdOk hs ws ps ∧ ts.length ≤ 900 ∧ RwSt hs ts ∧ walkTo ps 0 (ts.map s3D) = some n ∧ Φ (.bool true)
theorem ok__law_row_right (T : Tx mg) (GA : Fn P w K mg base "views_of" 9 ["board", "row"] (spDc K S_views_of)) (GI : Fn P w K mg base "is_row" 8 ["board", "thing"] (spD K S_is_row)) (GB : Fn P w K mg base "_law_back" 1 ["places", "views"] (spK K S_law_back)) (GO : Fn P w K mg base "view_of" 9 ["board", "row", "hand"] (spD K S_view_of))
    (GP : Fn P w K mg base "place_behind" 9 ["board", "row"] (spD K S_check_row)) (GL : Fn P w K mg base "_law_place_by" 1 ["places", "row"] (spD K S_law_place_by)) (F : Fd K "_law_row_right" s__law_row_right [] [] f fd) : FnOk P w K mg base CX0 10 f fd ["board", "row"] (spD K S_law_row_right) := by
  refine fnD F sc__law_row_right (fun ds Φ h => by obtain ⟨_, _, _, _, _, rfl, _⟩ := h; rfl) (fun B cdv A outer s H E ds Φ hr hp hS => ?_)
  obtain ⟨hs, ws, ps, ts, n, rfl, hb, hl, hR, hw, hΦ⟩ := hS
  have nd := sc__law_row_right.nd
  have hu := room1 hr
  have hask := ask_row hb hR
  have hrk := row_ok hb hR
  have h6 := hb.h6
  refine ds_cons (ds_setDc 2 ?_ nd)
  refine ddc_f (k' := 9) GA hr (da_cons (de_nm 0 (da_cons (de_nm 1 (da_nil ⟨hs, ws, ps, ts, n, rfl, hb, by omega, hask, hw, ?_⟩)))))
  refine dss_baseD 2 (kvs := viewsD ts hs) fun B' a hp' hF => ?_
  refine ds_cons (ds_if (dt_pw (dw_or (dt_not (dt_val (de_f (k' := 9) GI hr (da_cons (de_nm 0 (da_cons (de_nm 1 (da_nil ⟨hs, ws, ps, rowD ts, rfl, hb, hask, ?_⟩)))))))))))
  have hgo : goTo ps (rowD ts) = some n := hw
  rw [hgo]
  refine ⟨true, rfl, iteF (dw_or1 (dt_cmp (op_neD hr.units) (de_fK (k' := 9) hF GB hr (da_cons (de_ix ix_tup (de_nm 0 (de_int (rd_ixT rfl (da_cons (de_nm 2 (da_nil ⟨hs, ws, ps, ts, n, rfl, rfl, hb, hl, hw, hR, de_nm 1 (rd_neD (shaped_T hrk) (shaped_T hrk) ⟨_, rfl, ?_⟩)⟩)))))))))))⟩
  rw [eqv_T, decide_eq_true rfl]
  refine iteF (ds_nil ?_)
  refine ds_cons (ds_for [3] (pi_tup pe_w) (pg_name (i := 3) nd rfl (.inr rfl)) (wi_tup (de_ix ix_tup (de_nm 0 (de_int (rd_ixT rfl ⟨hs.map PyData.str, rfl, ?_⟩))))))
  refine ⟨fun i δ => ∃ c3 c4, δ = ⟨0, [some (.d (bdD hs ws ps)), some (.d (rowD ts)), some (.d (hdD a)), c3, c4, none]⟩, ⟨none, none, rfl⟩, fun i y δ hy hI => ?_, fun δ hI => ?_⟩
  · obtain ⟨c3, c4, rfl⟩ := hI
    obtain ⟨h, hh, rfl⟩ := List.mem_map.mp (List.mem_of_getElem? hy)
    refine wg_name ?_
    refine ds_cons (ds_setFilt 4 [("step", 5)] nd (pi_tup pe_w) (blkOk_by (N := n__law_row_right) (sc := defScope s__law_row_right) (by decide +kernel)) (fun _ _ _ _ _ => pg_name (i := 5) nd rfl (Or.inl rfl))
      (wi_tup (de_nm 1 ⟨ts.map s3D, rfl, ?_, mineD h, id, fun B2 y hp2 hy => wg_name ?_, ?_⟩)))
    · rw [List.length_map]; omega
    · obtain ⟨t, ht, rfl⟩ := List.mem_map.mp hy
      intro s0 H0 C cl fp
      have hmine : mineD h (s3D t) = (decide (t.2.1 = h) || (decide (t.1 = h) && !decide (t.2.2 = flt))) := rfl
      refine dt_pw (dw_or (dt_cmp op_eq (de_ix ix_tup (de_nm 5 (de_int (rd_ixT rfl (de_nm 3 (rd_eqS ⟨_, rfl, ?_⟩))))))))
      by_cases h1 : t.2.1 = h
      · rw [decide_eq_true h1] at hmine ⊢
        refine iteT ⟨hmine.symm, rfl, fun _ s1 H1 C1 cl1 fp1 => de_nm 5 ⟨rfl, rfl⟩⟩
      · rw [decide_eq_false h1] at hmine ⊢
        refine iteF (dw_or1 (dt_pw (dw_and (dt_cmp op_eq (de_ix ix_tup (de_nm 5 (de_int (rd_ixT rfl (de_nm 3 (rd_eqS ⟨_, rfl, ?_⟩))))))))))
        by_cases h2 : t.1 = h
        · rw [decide_eq_true h2] at hmine ⊢
          refine iteT (dw_and1 (dt_cmp op_ne (de_ix ix_tup (de_nm 5 (de_int (rd_ixT rfl (de_str (rd_neS ⟨_, rfl, ?_⟩))))))))
          rw [show (Str.ofString "!") = flt from rfl]
          refine ⟨hmine.symm, rfl, fun _ s1 H1 C1 cl1 fp1 => de_nm 5 ⟨rfl, rfl⟩⟩
        · rw [decide_eq_false h2] at hmine ⊢
          refine iteF ⟨hmine.symm, rfl, fun _ s1 H1 C1 cl1 fp1 => de_nm 5 ⟨rfl, rfl⟩⟩
    · rw [List.map_id]
      have hvk : ∀ t ∈ viewL h ts, OkS3 t := view_ok hb.hn hR
      refine ds_last (ds_if (dt_pw (dw_or (dt_cmp op_ne (de_callB call_len T.len boot_len (da_cons (de_dgetH 2 (kvs := viewsD ts hs) hu hF (de_nm 3 ⟨.inr h, rowD (viewL h ts), rfl, getV hh, da_nil (rc_lenT rfl (de_callB call_len T.len boot_len (da_cons (de_nm 4 (da_nil (rc_lenL rfl (rd_neI ⟨_, rfl, ?_⟩)))))))⟩))))))))
      rw [List.length_map, mine_map, decide_eq_true rfl]
      refine iteF (dw_or1 (dt_cmp (op_neD hr.units) (de_f (k' := 9) GO hr (da_cons (de_nm 0 (da_cons (de_nm 1 (da_cons (de_nm 3 (da_nil ⟨hs, ws, ps, ts, h, n, rfl, hb, by omega, hask, hw, hh, ?_⟩))))))))))
      refine de_dgetH 2 (kvs := viewsD ts hs) hu hF (de_nm 3 ⟨.inr h, rowD (viewL h ts), rfl, getV hh, rd_neD (shaped_T hvk) (shaped_T hvk) ⟨_, rfl, ?_⟩⟩)
      rw [eqv_T, decide_eq_true rfl]
      exact iteF (ds_nil ⟨_, _, rfl⟩)
  · obtain ⟨c3, c4, rfl⟩ := hI
    refine ds_last (ds_ret (de_cmp op_eq (de_f (k' := 9) GP hr (da_cons (de_nm 0 (da_cons (de_nm 1 (da_nil ⟨hs, ws, ps, rowD ts, n, rfl, hb, hask, hgo, de_f (k' := 9) GL hr (da_cons (de_ix ix_tup (de_nm 0 (de_int (rd_ixT rfl (da_cons (de_nm 1 (da_nil ⟨ps, ts.map s3D, rfl, hb.rw, fun x hx => hask.sh _ rfl x hx, ?_⟩))))))))⟩))))))))
    rw [hw]
    refine rd_eqI ?_
    rw [decide_eq_true rfl]
    exact hΦ
end K3

set_option maxHeartbeats 200000
set_option Elab.async false
set_option linter.all false
set_option maxRecDepth 100000
set_option maxHeartbeats 4000000
namespace K3
open PySem PySem.Spec PyProof.Rows L2 DL
variable {P : Program} {w : World} {K : PySem.W.Frag} {mg : Str → Option Value} {base : Heap} {f : Addr} {fd : FuncData} {k : Nat}
theorem rows_st {hs ws : List Str} {ps : List Pl} (hb : BdOk hs ws ps) : ∀ {xs : List PyData} {at' a : Nat}, walkTo ps at' xs = some a → (∀ x ∈ xs, StOk hs x) → ∃ ts : List St3, xs = ts.map s3D ∧ RwSt hs ts
  | [], _, _, _, _ => ⟨[], rfl, ⟨fun t ht => by cases ht⟩⟩
  | d :: ds, at', a, h, hst => by
    have h' : (match byPl ((ps[at']?).getD none) d with | none => none | some n => walkTo ps n ds) = some a := h
    cases e : byPl ((ps[at']?).getD none) d with
    | none => rw [e] at h'; cases h'
    | some n =>
      rw [e] at h'
      obtain ⟨ts, h1, h2⟩ := rows_st hb h' fun x hx => hst x (List.mem_cons_of_mem _ hx)
      obtain ⟨s, g, x, hd, hs1, hs2, hs3⟩ := (hst d List.mem_cons_self).ex
      refine ⟨(s, g, x) :: ts, ?_, ⟨fun t ht => ?_⟩⟩
      · rw [List.map_cons, s3D_step, ← hd, ← h1]
      · rcases List.mem_cons.mp ht with rfl | ht
        · refine ⟨hs1, hs2, hs3, ?_⟩
          cases ep : ps[at']? with
          | none => rw [ep] at e; cases e
          | some pl =>
            rw [ep] at e
            cases pl with
            | none => cases e
            | some q =>
              obtain ⟨sy, bs⟩ := q
              have e' : (bs.find? fun b => decide (asStep d = some (sy, b.1, b.2.1))).map (fun b => b.2.2) = some n := e
              obtain ⟨b, hb', _⟩ := Option.map_eq_some_iff.mp e'
              have hp := hb.pl _ (List.mem_of_getElem? ep) sy bs rfl
              have hne := (hp.br b (List.mem_of_find?_eq_some hb')).ne
              have ha := of_decide_eq_true (List.find?_some (p := fun b : Br => decide (asStep d = some (sy, b.1, b.2.1))) hb')
              rw [hd] at ha
              have ha' : some (s, g, x) = some (sy, b.1, b.2.1) := ha
              injection ha' with ha'
              injection ha' with a1 a2
              injection a2 with a2 a3
              intro z
              exact hne (by rw [← a2, ← a1]; exact z.symm)
        · exact h2.ok t ht
theorem all_views {ts us : List St3} : ∀ hs : List Str, PyData.eqvAll (hs.map fun h => rowD (viewL h ts)) (hs.map fun h => rowD (viewL h us)) = hs.all fun h => decide (viewL h ts = viewL h us)
  | [] => rfl
  | h :: hs => by
    show (PyData.eqv (rowD (viewL h ts)) (rowD (viewL h us)) && PyData.eqvAll (hs.map fun h => rowD (viewL h ts)) (hs.map fun h => rowD (viewL h us))) = _
    rw [all_views hs, eqv_T, List.all_cons]
theorem alike_eq {hs ws : List Str} {ps : List Pl} {ts us : List St3} {n m : Nat} (hb : BdOk hs ws ps) (h1 : walkTo ps 0 (ts.map s3D) = some n) (h2 : walkTo ps 0 (us.map s3D) = some m) : PyData.eqvAll ((viewsD ts hs).map (·.2)) ((viewsD us hs).map (·.2)) = decide (ts = us) := by
  have e : ∀ ts : List St3, (viewsD ts hs).map (·.2) = hs.map fun h => rowD (viewL h ts) := fun ts => by
    unfold viewsD
    rw [List.map_map]
    rfl
  rw [e, e, all_views]
  by_cases q : ts = us
  · subst q
    rw [decide_eq_true rfl]
    simp
  · rw [decide_eq_false q]
    cases z : hs.all fun h => decide (viewL h ts = viewL h us) with
    | false => rfl
    | true => exact absurd (views_same hb h1 h2 fun h hh => of_decide_eq_true (List.all_eq_true.mp z h hh)) q
theorem view_pre {h : Str} {ts : List St3} {K1 : Nat} : (viewL h ts).take (viewL h (ts.take K1)).length = viewL h (ts.take K1) := by
  have e : viewL h ts = viewL h (ts.take K1) ++ viewL h (ts.drop K1) := by
    conv => lhs; rw [← List.take_append_drop K1 ts]
    unfold viewL
    rw [List.filterMap_append]
  rw [e, List.take_left']
  rfl
theorem RwSt.take {hs : List Str} {ts : List St3} (h : RwSt hs ts) (K1 : Nat) : RwSt hs (ts.take K1) := ⟨fun t ht => h.ok t (List.mem_of_mem_take ht)⟩
theorem views_shp {hs ws : List Str} {ps : List Pl} {ts : List St3} (hb : BdOk hs ws ps) (hR : RwSt hs ts) : ∀ kv ∈ viewsD ts hs, SeqAt.shaped kv.2 = true := fun kv hk => by
  obtain ⟨h, _, rfl⟩ := List.mem_map.mp hk
  exact shaped_T (view_ok hb.hn hR)
def S_law : SpD := fun ds Φ => ∃ ns : List Int, ds = [.list (ns.map PyData.int)] ∧ ns.length ≤ 63 ∧ Φ (.bool true)
def envL (ns : List Int) (c1 c2 cp c4 c5 c6 c7 c8 c9 c10 : Option C) : St' := ⟨0, [some (.d (.list (ns.map PyData.int))), c1, c2, cp, c4, c5, c6, c7, c8, c9, c10]⟩
def potC (u v w : Int) : Option C := some (.own [.int u, .int v, .int w])
theorem ok_law (T : Tx mg) (GT : Fn P w K mg base "_law_take" 1 ["pot", "many"] (spP K S_law_take)) (GP : Fn P w K mg base "_law_pot" 1 ["cell", "at"] (spO K S_law_pot)) (GF : Fn P w K mg base "_law_folded" 1 ["script", "most"] (spO K S_law_folded))
    (GB : Fn P w K mg base "_law_board" 6 ["pot", "most"] (spP K S_law_board)) (GW : Fn P w K mg base "_law_row" 2 ["pot", "places", "most"] (spP K S_law_row)) (GX : Fn P w K mg base "_law_other" 2 ["pot", "places", "row", "most"] (spP K S_law_other)) (GA : Fn P w K mg base "views_of" 9 ["board", "row"] (spDc K S_views_of))
    (GO : Fn P w K mg base "view_of" 9 ["board", "row", "hand"] (spD K S_view_of)) (GR : Fn P w K mg base "_law_row_right" 10 ["board", "row"] (spD K S_law_row_right))
    (F : Fd K "law" s_law [] [] f fd) : FnSh P w K mg base 12 f fd ["script"] (spD K S_law) := by
  refine fnDSh F sc_law (fun ds Φ h => by obtain ⟨_, rfl, _⟩ := h; rfl) (fun B cdv A outer s H E ds Φ hgd hr hp hS => ?_)
  obtain ⟨ns, rfl, hns, hΦ⟩ := hS
  have nd := sc_law.nd
  refine ds_cons (ds_for [1, 2] (pi_enum rfl T.enum pa_w) (pg_two 1 2 nd) (wi_enum (da_cons (de_dl (dl_cat (de_dl (dl_lst (da_cons (de_int (da_nil ⟨by simp, _, rfl, de_dl (dl_f (k' := 11) GF hr (da_cons (de_nm 0 (da_cons (de_int (da_nil ⟨ns, 5, rfl, by decide, by decide, by omega, fun ms hms => ⟨_, rfl, ?_, da_nil ⟨_, rfl, fun i δ => ∃ c1 c2 cp c4 c5 c6 c7 c8 c9 c10, δ = envL ns c1 c2 cp c4 c5 c6 c7 c8 c9 c10, ⟨none, none, none, none, none, none, none, none, none, none, rfl⟩, fun i y δ hy hI => ?_, fun δ hI => ?_⟩⟩⟩))))))⟩))))))))))
  · rw [List.length_map, hms]
    simp
    omega
  · obtain ⟨c1, c2, cp, c4, c5, c6, c7, c8, c9, c10, rfl⟩ := hI
    obtain ⟨x0, hx0, rfl⟩ := enum_get hy
    obtain ⟨c, rfl⟩ : ∃ c : Int, x0 = .int c := by
      have hm := List.mem_of_getElem? hx0
      rcases List.mem_append.mp hm with h | h
      · simp at h; exact ⟨0, h⟩
      · obtain ⟨z, _, rfl⟩ := List.mem_map.mp h
        exact ⟨z, rfl⟩
    refine wg_tup (wgs_cons (wg_name (wgs_cons (wg_name (wgs_nil ?_)))))
    refine ds_cons (ds_setO 3 (dl_f (k' := 11) GP hr (da_cons (de_nm 2 (da_cons (de_nm 1 (da_nil ⟨c, (i : Nat), rfl, fun x y => ?_⟩)))))) nd)
    refine ds_cons (ds_set 4 ?_ nd)
    refine de_fPoH (k' := 11) 3 GB.sh hgd hr (da_cons (de_ix ix_list (de_dl (dl_lst (da_cons (de_int (da_cons (de_int (da_nil ⟨by simp, de_callTy call_int1 T.int boot_int (da_cons (DE.mono (Φ := fun z δ' => ∃ (b : Bool) (u v q : Int), z = .bool b ∧ 0 ≤ q ∧ q ≤ 1 ∧ δ' = envL ns (some (.d (.int (i : Nat)))) (some (.d (.int c))) (potC u v q) c4 c5 c6 c7 c8 c9 c10) ?_ fun z δ' hz => ?_))⟩)))))))))
    · refine de_and (de_cmp op_eq (de_fPoH (k' := 11) 3 GT.sh hgd hr (da_cons (de_int (da_nil ⟨x, y, 0, 0, rfl, by decide, by decide, 4, rfl, by decide, by decide, by decide, fun d g0 g1 u v q hq0 hq1 => de_int (rd_eqI ⟨_, rfl, ?_⟩)⟩)))))
      cases decide (d = 0) with
      | false => exact iteF ⟨false, u, v, q, rfl, hq0, by omega, rfl⟩
      | true => exact iteT (de_one (de_cmp op_eq (de_nm 1 (de_int (rd_eqI ⟨_, u, v, q, rfl, hq0, by omega, rfl⟩)))))
    · obtain ⟨b, u, v, q, rfl, hq0, hq1, rfl⟩ := hz
      obtain ⟨most, hm1, hm2, hix⟩ : ∃ most : Nat, 1 ≤ most ∧ most ≤ 39 ∧ atI [PyData.int 7, .int 39] (if b = true then 1 else 0) = some (natD most) := by
        cases b with
        | true => exact ⟨39, by decide, by decide, rfl⟩
        | false => exact ⟨7, by decide, by decide, rfl⟩
      refine da_nil (rc_intB (rd_ixL hix (da_nil ⟨u, v, q, 1, rfl, hq0, by omega, most, rfl, hm1, hm2, by decide, fun hs ws ps n' hn' hb u2 v2 q2 h0 h1 => ?_⟩)))
      have h40 := hb.p40
      have h1p := hb.p1
      have h6 := hb.h6
      -- most
      refine ds_cons (ds_set 5 ?_ nd)
      refine de_ix ix_list (de_dl (dl_lst (da_cons (de_fPoH (k' := 11) 3 GT.sh hgd hr (da_cons (de_int (da_nil ⟨u2, v2, q2, q2.toNat, rfl, h0, by omega, 9, rfl, by decide, by decide, by omega, fun d1 g0 g1 u3 v3 q3 hq30 hq31 => ?_⟩)))))))
      refine da_cons (de_int (da_cons (de_int (da_nil ⟨by simp, ?_⟩))))
      refine de_fPoH (k' := 11) 3 GT.sh hgd hr (da_cons (de_int (da_nil ⟨u3, v3, q3, q3.toNat, rfl, hq30, by omega, 3, rfl, by decide, by decide, by omega, fun d2 g2 g3 u4 v4 q4 hq40 hq41 => ?_⟩)))
      obtain ⟨m2, hm21, hix2⟩ : ∃ m2 : Nat, m2 ≤ 200 ∧ atI [PyData.int d1, .int 30, .int 200] d2 = some (.int (m2 : Nat)) := by
        have hc : d2 = 0 ∨ d2 = 1 ∨ d2 = 2 := by omega
        rcases hc with rfl | rfl | rfl
        · exact ⟨d1.toNat, by omega, by rw [Int.toNat_of_nonneg g0]; rfl⟩
        · exact ⟨30, by decide, rfl⟩
        · exact ⟨200, by decide, rfl⟩
      refine rd_ixL hix2 ?_
      -- the row
      refine ds_cons (ds_set 6 ?_ nd)
      refine de_fPoH (k' := 11) 3 GW.sh hgd hr (da_cons (de_ix ix_tup (de_nm 4 (de_int (rd_ixT (z := plsD ps) rfl (da_cons (de_nm 5 (da_nil ⟨u4, v4, q4, q4.toNat, rfl, hq40, by omega, hs, ws, ps, m2, rfl, hb, by omega, by omega, fun xs a m hw ha hlx hst hmm1 hmm2 u5 v5 q5 hq50 hq51 => ?_⟩))))))))
      obtain ⟨ts, rfl, hR⟩ := rows_st hb hw hst
      have hlt : ts.length ≤ m2 := by rwa [List.length_map] at hlx
      -- a beginning
      refine ds_cons (ds_set 7 ?_ nd)
      refine de_slTo sl_tupA (de_nm 6 (de_fPoH (k' := 11) 3 GT.sh hgd hr (da_cons (de_bin op_add (de_callB call_len T.len boot_len (da_cons (de_nm 6 (da_nil (rc_lenT rfl (de_int (rd_I0 (da_nil ⟨u5, v5, q5, q5.toNat, rfl, hq50, by omega, _, rfl, ?_, ?_, ?_, fun d3 g4 g5 u6 v6 q6 hq60 hq61 => ⟨_, rfl, ru_slT ?_⟩⟩))))))))))))
      · omega
      · rw [List.length_map]; omega
      · omega
      obtain ⟨K1, rfl⟩ : ∃ K1 : Nat, d3 = (K1 : Int) := ⟨d3.toNat, (Int.toNat_of_nonneg g4).symm⟩
      rw [cutD_upto, ← List.map_take]
      obtain ⟨a9, hw9⟩ := walk_take K1 hw
      rw [← List.map_take] at hw9
      have hR9 := hR.take K1
      have hl9 : (ts.take K1).length ≤ ts.length := by rw [List.length_take]; omega
      -- the others
      refine ds_cons (ds_for [8] (pi_list pe_w) (pg_name (i := 8) nd rfl (.inl rfl)) (wi_list (de_dl (dl_lst ?_))))
      refine da_cons (de_fPoH (k' := 11) 3 GX.sh hgd hr (da_cons (de_ix ix_tup (de_nm 4 (de_int (rd_ixT (z := plsD ps) rfl (da_cons (de_nm 6 (da_cons (de_int (da_nil ⟨u6, v6, q6, q6.toNat, rfl, hq60, by omega, hs, ws, ps, ts.map s3D, 12, a, rfl, hb, hw, hst, by rw [List.length_map]; omega, by decide, by omega, fun ys a2 m3 hw2 hst2 hl2 hm31 hm32 u7 v7 q7 hq70 hq71 => ?_⟩)))))))))))
      refine da_cons (de_fPoH (k' := 11) 3 GW.sh hgd hr (da_cons (de_ix ix_tup (de_nm 4 (de_int (rd_ixT (z := plsD ps) rfl (da_cons (de_int (da_nil ⟨u7, v7, q7, q7.toNat, rfl, hq70, by omega, hs, ws, ps, 12, rfl, hb, by decide, by omega, fun zs a3 m4 hw3 ha3 hl3 hst3 hm41 hm42 u8 v8 q8 hq80 hq81 => ?_⟩)))))))))
      obtain ⟨us2, rfl, hR2⟩ := rows_st hb hw2 hst2
      obtain ⟨us3, rfl, hR3⟩ := rows_st hb hw3 hst3
      rw [List.length_map, List.length_map] at hl2
      rw [List.length_map] at hl3
      refine da_cons (de_nm 7 (da_cons (de_nm 6 (da_nil ⟨by simp, _, rfl, fun j δ => ∃ c8 c9, δ = envL ns (some (.d (.int (i : Nat)))) (some (.d (.int c))) (potC u8 v8 q8) (some (.d (bdD hs ws ps))) (some (.d (.int (m2 : Nat)))) (some (.d (rowD ts))) (some (.d (rowD (ts.take K1)))) c8 c9 c10, ⟨c8, c9, rfl⟩, fun j z δ hz hI => ?_, fun δ hI => ?_⟩))))
      · obtain ⟨d8, d9, rfl⟩ := hI
        obtain ⟨us, n2, rfl, hRu, hwu, hlu⟩ : ∃ us n2, z = rowD us ∧ RwSt hs us ∧ walkTo ps 0 (us.map s3D) = some n2 ∧ us.length ≤ 900 := by
          have hm := List.mem_of_getElem? hz
          simp only [List.mem_cons, List.not_mem_nil, or_false] at hm
          rcases hm with rfl | rfl | rfl | rfl
          · exact ⟨us2, a2, rfl, hR2, hw2, by omega⟩
          · exact ⟨us3, a3, rfl, hR3, hw3, by omega⟩
          · exact ⟨ts.take K1, a9, rfl, hR9, hw9, by omega⟩
          · exact ⟨ts, a, rfl, hR, hw, by omega⟩
        refine wg_name ?_
        refine ds_cons (ds_set 9 ?_ nd)
        refine de_eqDc (room70 hr) (ddc_f (k' := 11) GA hr (da_cons (de_nm 4 (da_cons (de_nm 6 (da_nil ⟨hs, ws, ps, ts, a, rfl, hb, by omega, ask_row hb hR, hw, ?_⟩))))))
        refine ddc_f (k' := 11) GA hr (da_cons (de_nm 4 (da_cons (de_nm 8 (da_nil ⟨hs, ws, ps, us, n2, rfl, hb, by omega, ask_row hb hRu, hwu, by rw [views_fst, views_fst], by rw [views_fst]; exact inr_nd hb.hd, views_shp hb hR, views_shp hb hRu, ?_⟩)))))
        rw [alike_eq hb hw hwu]
        refine ds_last (ds_if (dt_pw (dw_or (dt_not (dt_val (de_f (k' := 11) GR hr (da_cons (de_nm 4 (da_cons (de_nm 8 (da_nil ⟨hs, ws, ps, us, n2, rfl, hb, hlu, hRu, hwu, _, rfl, ?_⟩)))))))))))
        refine iteF (dw_or1 (dt_cmp op_ne (de_nm 9 (de_cmp (op_eqD hr.units) (de_nm 6 (de_nm 8 (rd_eqD (shaped_T (row_ok hb hR)) (shaped_T (row_ok hb hRu)) ?_)))))))
        rw [eqv_T]
        refine rd_neA rfl rfl rfl ⟨_, rfl, ?_⟩
        rw [decide_eq_true rfl]
        exact iteF (ds_nil ⟨_, _, rfl⟩)
      · obtain ⟨d8, d9, rfl⟩ := hI
        -- the views of the beginning
        refine ds_last (ds_for [10] (pi_tup pe_w) (pg_name (i := 10) nd rfl (.inl rfl)) (wi_tup (de_ix ix_tup (de_nm 4 (de_int (rd_ixT rfl ⟨hs.map PyData.str, rfl, ?_⟩))))))
        refine ⟨fun j δ => ∃ c10, δ = envL ns (some (.d (.int (i : Nat)))) (some (.d (.int c))) (potC u8 v8 q8) (some (.d (bdD hs ws ps))) (some (.d (.int (m2 : Nat)))) (some (.d (rowD ts))) (some (.d (rowD (ts.take K1)))) d8 d9 c10, ⟨c10, rfl⟩, fun j z δ hz hI => ?_, fun δ hI => ?_⟩
        · obtain ⟨d10, rfl⟩ := hI
          obtain ⟨h, hh, rfl⟩ := List.mem_map.mp (List.mem_of_getElem? hz)
          refine wg_name ?_
          have s9 : SeqAt.shaped (rowD (viewL h (ts.take K1))) = true := shaped_T (view_ok hb.hn hR9)
          refine ds_last (ds_if (dt_cmp (op_neD hr.units) (de_slTo sl_tupA (de_f (k' := 11) GO hr (da_cons (de_nm 4 (da_cons (de_nm 6 (da_cons (de_nm 10 (da_nil ⟨hs, ws, ps, ts, h, a, rfl, hb, by omega, ask_row hb hR, hw, hh, ?_⟩)))))))))))
          refine de_callB call_len T.len boot_len (da_cons (de_f (k' := 11) GO hr (da_cons (de_nm 4 (da_cons (de_nm 7 (da_cons (de_nm 10 (da_nil ⟨hs, ws, ps, ts.take K1, h, a9, rfl, hb, by omega, ask_row hb hR9, hw9, hh, da_nil (rc_lenT rfl ⟨_, rfl, ru_slT ?_⟩)⟩)))))))))
          rw [List.length_map, cutD_upto, ← List.map_take, view_pre]
          refine de_f (k' := 11) GO hr (da_cons (de_nm 4 (da_cons (de_nm 7 (da_cons (de_nm 10 (da_nil ⟨hs, ws, ps, ts.take K1, h, a9, rfl, hb, by omega, ask_row hb hR9, hw9, hh, rd_neD s9 s9 ⟨_, rfl, ?_⟩⟩)))))))
          have e9 : PyData.eqv (.tuple ((viewL h (ts.take K1)).map s3D)) (rowD (viewL h (ts.take K1))) = true := by
            show PyData.eqv (rowD _) (rowD _) = true
            rw [eqv_T, decide_eq_true rfl]
          rw [e9]
          exact iteF (ds_nil ⟨_, rfl⟩)
        · obtain ⟨d10, rfl⟩ := hI
          exact ⟨_, _, _, _, _, _, _, _, _, _, rfl⟩
  · obtain ⟨c1, c2, cp, c4, c5, c6, c7, c8, c9, c10, rfl⟩ := hI
    exact ds_last (ds_ret (de_bl hΦ))
end K3

set_option maxHeartbeats 200000
set_option Elab.async false
set_option linter.all false
set_option maxRecDepth 100000
set_option maxHeartbeats 0
namespace K3
open PySem PySem.Spec PyProof.Rows L2 DL
def dd_is_name : He.DefD := ⟨("is_name", none), "is_name", "is_name", defArgs s_is_name, defBody s_is_name, defScope s_is_name, [], []⟩
def dd_is_tuple_of : He.DefD := ⟨("is_tuple_of", none), "is_tuple_of", "is_tuple_of", defArgs s_is_tuple_of, defBody s_is_tuple_of, defScope s_is_tuple_of, [], []⟩
def dd_is_rising : He.DefD := ⟨("is_rising", none), "is_rising", "is_rising", defArgs s_is_rising, defBody s_is_rising, defScope s_is_rising, [], []⟩
def dd_is_new_name : He.DefD := ⟨("is_new_name", none), "is_new_name", "is_new_name", defArgs s_is_new_name, defBody s_is_new_name, defScope s_is_new_name, [], []⟩
def dd_is_board : He.DefD := ⟨("is_board", none), "is_board", "is_board", defArgs s_is_board, defBody s_is_board, defScope s_is_board, [], []⟩
def dd__are_hands : He.DefD := ⟨("_are_hands", none), "_are_hands", "_are_hands", defArgs s__are_hands, defBody s__are_hands, defScope s__are_hands, [], []⟩
def dd_are_weak : He.DefD := ⟨("are_weak", none), "are_weak", "are_weak", defArgs s_are_weak, defBody s_are_weak, defScope s_are_weak, [], []⟩
def dd__are_places : He.DefD := ⟨("_are_places", none), "_are_places", "_are_places", defArgs s__are_places, defBody s__are_places, defScope s__are_places, [], []⟩
def dd__are_come_to : He.DefD := ⟨("_are_come_to", none), "_are_come_to", "_are_come_to", defArgs s__are_come_to, defBody s__are_come_to, defScope s__are_come_to, [], []⟩
def dd__is_saying : He.DefD := ⟨("_is_saying", none), "_is_saying", "_is_saying", defArgs s__is_saying, defBody s__is_saying, defScope s__is_saying, [], []⟩
def dd__stays_fallen : He.DefD := ⟨("_stays_fallen", none), "_stays_fallen", "_stays_fallen", defArgs s__stays_fallen, defBody s__stays_fallen, defScope s__stays_fallen, [], []⟩
def dd_falls_of : He.DefD := ⟨("falls_of", none), "falls_of", "falls_of", defArgs s_falls_of, defBody s_falls_of, defScope s_falls_of, [], []⟩
def dd_takes_part : He.DefD := ⟨("takes_part", none), "takes_part", "takes_part", defArgs s_takes_part, defBody s_takes_part, defScope s_takes_part, [], []⟩
def dd_places_from : He.DefD := ⟨("places_from", none), "places_from", "places_from", defArgs s_places_from, defBody s_places_from, defScope s_places_from, [.non, .bl true], []⟩
def dd_check_board : He.DefD := ⟨("check_board", none), "check_board", "check_board", defArgs s_check_board, defBody s_check_board, defScope s_check_board, [], []⟩
def dd_check_hand : He.DefD := ⟨("check_hand", none), "check_hand", "check_hand", defArgs s_check_hand, defBody s_check_hand, defScope s_check_hand, [], []⟩
def dd_is_row : He.DefD := ⟨("is_row", none), "is_row", "is_row", defArgs s_is_row, defBody s_is_row, defScope s_is_row, [], []⟩
def dd_place_after : He.DefD := ⟨("place_after", none), "place_after", "place_after", defArgs s_place_after, defBody s_place_after, defScope s_place_after, [], []⟩
def dd_place_by : He.DefD := ⟨("place_by", none), "place_by", "place_by", defArgs s_place_by, defBody s_place_by, defScope s_place_by, [], []⟩
def dd_check_row : He.DefD := ⟨("check_row", none), "check_row", "check_row", defArgs s_check_row, defBody s_check_row, defScope s_check_row, [], []⟩
def dd_place_behind : He.DefD := ⟨("place_behind", none), "place_behind", "place_behind", defArgs s_place_behind, defBody s_place_behind, defScope s_place_behind, [], []⟩
def dd_view_of : He.DefD := ⟨("view_of", none), "view_of", "view_of", defArgs s_view_of, defBody s_view_of, defScope s_view_of, [], []⟩
def dd_views_of : He.DefD := ⟨("views_of", none), "views_of", "views_of", defArgs s_views_of, defBody s_views_of, defScope s_views_of, [], []⟩
def dd_view_at : He.DefD := ⟨("view_at", none), "view_at", "view_at", defArgs s_view_at, defBody s_view_at, defScope s_view_at, [], []⟩
def dd__law_pot : He.DefD := ⟨("_law_pot", none), "_law_pot", "_law_pot", defArgs s__law_pot, defBody s__law_pot, defScope s__law_pot, [], []⟩
def dd__law_take : He.DefD := ⟨("_law_take", none), "_law_take", "_law_take", defArgs s__law_take, defBody s__law_take, defScope s__law_take, [], []⟩
def dd__law_folded : He.DefD := ⟨("_law_folded", none), "_law_folded", "_law_folded", defArgs s__law_folded, defBody s__law_folded, defScope s__law_folded, [], []⟩
def dd__law_names : He.DefD := ⟨("_law_names", none), "_law_names", "_law_names", defArgs s__law_names, defBody s__law_names, defScope s__law_names, [], []⟩
def dd__law_word : He.DefD := ⟨("_law_word", none), "_law_word", "_law_word", defArgs s__law_word, defBody s__law_word, defScope s__law_word, [], []⟩
def dd__law_new_place : He.DefD := ⟨("_law_new_place", none), "_law_new_place", "_law_new_place", defArgs s__law_new_place, defBody s__law_new_place, defScope s__law_new_place, [], []⟩
def dd__law_put_branch : He.DefD := ⟨("_law_put_branch", none), "_law_put_branch", "_law_put_branch", defArgs s__law_put_branch, defBody s__law_put_branch, defScope s__law_put_branch, [], []⟩
def dd__law_put_fault : He.DefD := ⟨("_law_put_fault", none), "_law_put_fault", "_law_put_fault", defArgs s__law_put_fault, defBody s__law_put_fault, defScope s__law_put_fault, [], []⟩
def dd__law_lacks : He.DefD := ⟨("_law_lacks", none), "_law_lacks", "_law_lacks", defArgs s__law_lacks, defBody s__law_lacks, defScope s__law_lacks, [], []⟩
def dd__law_grown : He.DefD := ⟨("_law_grown", none), "_law_grown", "_law_grown", defArgs s__law_grown, defBody s__law_grown, defScope s__law_grown, [], []⟩
def dd__law_closed : He.DefD := ⟨("_law_closed", none), "_law_closed", "_law_closed", defArgs s__law_closed, defBody s__law_closed, defScope s__law_closed, [], []⟩
def dd__law_board : He.DefD := ⟨("_law_board", none), "_law_board", "_law_board", defArgs s__law_board, defBody s__law_board, defScope s__law_board, [], []⟩
def dd__law_row : He.DefD := ⟨("_law_row", none), "_law_row", "_law_row", defArgs s__law_row, defBody s__law_row, defScope s__law_row, [], []⟩
def dd__law_place_by : He.DefD := ⟨("_law_place_by", none), "_law_place_by", "_law_place_by", defArgs s__law_place_by, defBody s__law_place_by, defScope s__law_place_by, [], []⟩
def dd__law_other : He.DefD := ⟨("_law_other", none), "_law_other", "_law_other", defArgs s__law_other, defBody s__law_other, defScope s__law_other, [], []⟩
def dd__law_back : He.DefD := ⟨("_law_back", none), "_law_back", "_law_back", defArgs s__law_back, defBody s__law_back, defScope s__law_back, [], []⟩
def dd__law_row_right : He.DefD := ⟨("_law_row_right", none), "_law_row_right", "_law_row_right", defArgs s__law_row_right, defBody s__law_row_right, defScope s__law_row_right, [], []⟩
def dd_law : He.DefD := ⟨("law", none), "law", "law", defArgs s_law, defBody s_law, defScope s_law, [], []⟩
def hfn : List He.DefD := [dd_is_name, dd_is_tuple_of, dd_is_rising, dd_is_new_name, dd_is_board, dd__are_hands, dd_are_weak, dd__are_places, dd__are_come_to, dd__is_saying, dd__stays_fallen, dd_falls_of, dd_takes_part, dd_places_from, dd_check_board, dd_check_hand, dd_is_row, dd_place_after, dd_place_by, dd_check_row, dd_place_behind, dd_view_of, dd_views_of, dd_view_at, dd__law_pot, dd__law_take, dd__law_folded, dd__law_names, dd__law_word, dd__law_new_place, dd__law_put_branch, dd__law_put_fault, dd__law_lacks, dd__law_grown, dd__law_closed, dd__law_board, dd__law_row, dd__law_place_by, dd__law_other, dd__law_back, dd__law_row_right, dd_law]
def hfa : List He.Fa := ([.glo "is_name", .glo "is_tuple_of", .glo "is_rising", .glo "is_new_name", .glo "is_board", .glo "_are_hands", .glo "are_weak", .glo "_are_places", .glo "_are_come_to", .glo "_is_saying", .glo "_stays_fallen", .glo "falls_of", .glo "takes_part", .glo "places_from", .glo "check_board", .glo "check_hand", .glo "is_row", .glo "place_after", .glo "place_by", .glo "check_row"] : List He.Fa) ++ ([.glo "place_behind", .glo "view_of", .glo "views_of", .glo "view_at", .glo "_law_pot", .glo "_law_take", .glo "_law_folded", .glo "_law_names", .glo "_law_word", .glo "_law_new_place", .glo "_law_put_branch", .glo "_law_put_fault", .glo "_law_lacks", .glo "_law_grown", .glo "_law_closed", .glo "_law_board", .glo "_law_row", .glo "_law_place_by", .glo "_law_other", .glo "_law_back"] : List He.Fa) ++ ([.glo "_law_row_right", .glo "law", .free "isinstance", .free "len", .free "all", .free "any", .free "tuple", .free "str", .free "int", .free "bool", .free "zip", .free "sorted", .free "set", .free "list", .free "range", .free "enumerate", .free "min", .free "max", .free "abs", .free "repr"] : List He.Fa) ++ ([.str "FAULT" "!", .int "MOST_PLACES" 40, .int "MOST_LETTERS" 8, .int "FEWEST_HANDS" 2, .int "MOST_HANDS" 6, .int "MOST_BRANCHES" 8, .free "dict"] : List He.Fa)
def hlo : List PySem.Str := ([("LoomError" : PySem.Str), ("NoBoard" : PySem.Str), ("NoRow" : PySem.Str), ("NoHand" : PySem.Str), ("FAULT" : PySem.Str), ("MOST_PLACES" : PySem.Str), ("MOST_LETTERS" : PySem.Str), ("FEWEST_HANDS" : PySem.Str), ("MOST_HANDS" : PySem.Str), ("MOST_BRANCHES" : PySem.Str), ("is_name" : PySem.Str), ("is_tuple_of" : PySem.Str), ("is_rising" : PySem.Str), ("is_new_name" : PySem.Str), ("is_board" : PySem.Str), ("_are_hands" : PySem.Str), ("are_weak" : PySem.Str), ("_are_places" : PySem.Str), ("_are_come_to" : PySem.Str), ("_is_saying" : PySem.Str)] : List PySem.Str) ++ ([("_stays_fallen" : PySem.Str), ("falls_of" : PySem.Str), ("takes_part" : PySem.Str), ("places_from" : PySem.Str), ("check_board" : PySem.Str), ("check_hand" : PySem.Str), ("is_row" : PySem.Str), ("place_after" : PySem.Str), ("place_by" : PySem.Str), ("check_row" : PySem.Str), ("place_behind" : PySem.Str), ("view_of" : PySem.Str), ("views_of" : PySem.Str), ("view_at" : PySem.Str), ("_law_pot" : PySem.Str), ("_law_take" : PySem.Str), ("_law_folded" : PySem.Str), ("_law_names" : PySem.Str), ("_law_word" : PySem.Str), ("_law_new_place" : PySem.Str)] : List PySem.Str) ++ ([("_law_put_branch" : PySem.Str), ("_law_put_fault" : PySem.Str), ("_law_lacks" : PySem.Str), ("_law_grown" : PySem.Str), ("_law_closed" : PySem.Str), ("_law_board" : PySem.Str), ("_law_row" : PySem.Str), ("_law_place_by" : PySem.Str), ("_law_other" : PySem.Str), ("_law_back" : PySem.Str), ("_law_row_right" : PySem.Str)] : List PySem.Str)
abbrev hR : PySem.W.OpenRow := PySem.W.OpenLaw.row PySem.Challenge.rw_sayloom_k06_whole_views_tell_the_row
abbrev hhk : PySem.W.Hook := He.hookD 4 hfa hfn
def hob (s : PySem.W.SharedT) : He.AlD := He.obsDG 4 hfa hfn (HandSHeadRun.getT s)
theorem hob_eq (s : PySem.W.SharedT) : hob s = hhk.obs s.abs := He.obsDG_eq (HandSHeadRun.getT_eq s)
theorem hrun (w : World) : HandSHeadRun.RunEq hR (PySem.W.view hR.prog [55]) hhk hob 4000 hlo w := by
  intro os
  kernel_rfl
end K3

set_option maxHeartbeats 200000
set_option Elab.async false
set_option linter.all false
set_option maxRecDepth 100000
set_option maxHeartbeats 4000000
namespace K3
open PySem PySem.Spec PyProof.Rows L2 DL
theorem facts {P : Program} {w : World} {K : PySem.W.Frag} {h : Heap} {mg : Str → Option Value} {f : Addr} (X : K.In h) (G : h.Ns mainGlobals mg) (hfa' : mg ("law" : Str) = some (.ref f)) (c : He.SaysD hfa hfn K) :
    ∃ fd : FuncData, (∀ (s : Shared) (v : Value), BindsTo s fd ⟨[v], []⟩ [("script", v)]) ∧ ∀ base : Heap, K.In base → base.Ns mainGlobals mg → FnSh P w K mg base 12 f fd ["script"] (spD K S_law) := by
  obtain ⟨fd_is_name, F_is_name⟩ := c.def_ 0 (d := dd_is_name) rfl
  have g_is_name : mg "is_name" = some (.ref (He.ga K "is_name")) := He.glo_ok X G (c.fact 0 (f := .glo "is_name") rfl)
  obtain ⟨fd_is_tuple_of, F_is_tuple_of⟩ := c.def_ 1 (d := dd_is_tuple_of) rfl
  have g_is_tuple_of : mg "is_tuple_of" = some (.ref (He.ga K "is_tuple_of")) := He.glo_ok X G (c.fact 1 (f := .glo "is_tuple_of") rfl)
  obtain ⟨fd_is_rising, F_is_rising⟩ := c.def_ 2 (d := dd_is_rising) rfl
  have g_is_rising : mg "is_rising" = some (.ref (He.ga K "is_rising")) := He.glo_ok X G (c.fact 2 (f := .glo "is_rising") rfl)
  obtain ⟨fd_is_new_name, F_is_new_name⟩ := c.def_ 3 (d := dd_is_new_name) rfl
  have g_is_new_name : mg "is_new_name" = some (.ref (He.ga K "is_new_name")) := He.glo_ok X G (c.fact 3 (f := .glo "is_new_name") rfl)
  obtain ⟨fd_is_board, F_is_board⟩ := c.def_ 4 (d := dd_is_board) rfl
  have g_is_board : mg "is_board" = some (.ref (He.ga K "is_board")) := He.glo_ok X G (c.fact 4 (f := .glo "is_board") rfl)
  obtain ⟨fd__are_hands, F__are_hands⟩ := c.def_ 5 (d := dd__are_hands) rfl
  have g__are_hands : mg "_are_hands" = some (.ref (He.ga K "_are_hands")) := He.glo_ok X G (c.fact 5 (f := .glo "_are_hands") rfl)
  obtain ⟨fd_are_weak, F_are_weak⟩ := c.def_ 6 (d := dd_are_weak) rfl
  have g_are_weak : mg "are_weak" = some (.ref (He.ga K "are_weak")) := He.glo_ok X G (c.fact 6 (f := .glo "are_weak") rfl)
  obtain ⟨fd__are_places, F__are_places⟩ := c.def_ 7 (d := dd__are_places) rfl
  have g__are_places : mg "_are_places" = some (.ref (He.ga K "_are_places")) := He.glo_ok X G (c.fact 7 (f := .glo "_are_places") rfl)
  obtain ⟨fd__are_come_to, F__are_come_to⟩ := c.def_ 8 (d := dd__are_come_to) rfl
  have g__are_come_to : mg "_are_come_to" = some (.ref (He.ga K "_are_come_to")) := He.glo_ok X G (c.fact 8 (f := .glo "_are_come_to") rfl)
  obtain ⟨fd__is_saying, F__is_saying⟩ := c.def_ 9 (d := dd__is_saying) rfl
  have g__is_saying : mg "_is_saying" = some (.ref (He.ga K "_is_saying")) := He.glo_ok X G (c.fact 9 (f := .glo "_is_saying") rfl)
  obtain ⟨fd__stays_fallen, F__stays_fallen⟩ := c.def_ 10 (d := dd__stays_fallen) rfl
  have g__stays_fallen : mg "_stays_fallen" = some (.ref (He.ga K "_stays_fallen")) := He.glo_ok X G (c.fact 10 (f := .glo "_stays_fallen") rfl)
  obtain ⟨fd_falls_of, F_falls_of⟩ := c.def_ 11 (d := dd_falls_of) rfl
  have g_falls_of : mg "falls_of" = some (.ref (He.ga K "falls_of")) := He.glo_ok X G (c.fact 11 (f := .glo "falls_of") rfl)
  obtain ⟨fd_takes_part, F_takes_part⟩ := c.def_ 12 (d := dd_takes_part) rfl
  have g_takes_part : mg "takes_part" = some (.ref (He.ga K "takes_part")) := He.glo_ok X G (c.fact 12 (f := .glo "takes_part") rfl)
  obtain ⟨fd_places_from, F_places_from⟩ := c.def_ 13 (d := dd_places_from) rfl
  have g_places_from : mg "places_from" = some (.ref (He.ga K "places_from")) := He.glo_ok X G (c.fact 13 (f := .glo "places_from") rfl)
  obtain ⟨fd_check_board, F_check_board⟩ := c.def_ 14 (d := dd_check_board) rfl
  have g_check_board : mg "check_board" = some (.ref (He.ga K "check_board")) := He.glo_ok X G (c.fact 14 (f := .glo "check_board") rfl)
  obtain ⟨fd_check_hand, F_check_hand⟩ := c.def_ 15 (d := dd_check_hand) rfl
  have g_check_hand : mg "check_hand" = some (.ref (He.ga K "check_hand")) := He.glo_ok X G (c.fact 15 (f := .glo "check_hand") rfl)
  obtain ⟨fd_is_row, F_is_row⟩ := c.def_ 16 (d := dd_is_row) rfl
  have g_is_row : mg "is_row" = some (.ref (He.ga K "is_row")) := He.glo_ok X G (c.fact 16 (f := .glo "is_row") rfl)
  obtain ⟨fd_place_after, F_place_after⟩ := c.def_ 17 (d := dd_place_after) rfl
  have g_place_after : mg "place_after" = some (.ref (He.ga K "place_after")) := He.glo_ok X G (c.fact 17 (f := .glo "place_after") rfl)
  obtain ⟨fd_place_by, F_place_by⟩ := c.def_ 18 (d := dd_place_by) rfl
  have g_place_by : mg "place_by" = some (.ref (He.ga K "place_by")) := He.glo_ok X G (c.fact 18 (f := .glo "place_by") rfl)
  obtain ⟨fd_check_row, F_check_row⟩ := c.def_ 19 (d := dd_check_row) rfl
  have g_check_row : mg "check_row" = some (.ref (He.ga K "check_row")) := He.glo_ok X G (c.fact 19 (f := .glo "check_row") rfl)
  obtain ⟨fd_place_behind, F_place_behind⟩ := c.def_ 20 (d := dd_place_behind) rfl
  have g_place_behind : mg "place_behind" = some (.ref (He.ga K "place_behind")) := He.glo_ok X G (c.fact 20 (f := .glo "place_behind") rfl)
  obtain ⟨fd_view_of, F_view_of⟩ := c.def_ 21 (d := dd_view_of) rfl
  have g_view_of : mg "view_of" = some (.ref (He.ga K "view_of")) := He.glo_ok X G (c.fact 21 (f := .glo "view_of") rfl)
  obtain ⟨fd_views_of, F_views_of⟩ := c.def_ 22 (d := dd_views_of) rfl
  have g_views_of : mg "views_of" = some (.ref (He.ga K "views_of")) := He.glo_ok X G (c.fact 22 (f := .glo "views_of") rfl)
  obtain ⟨fd_view_at, F_view_at⟩ := c.def_ 23 (d := dd_view_at) rfl
  have g_view_at : mg "view_at" = some (.ref (He.ga K "view_at")) := He.glo_ok X G (c.fact 23 (f := .glo "view_at") rfl)
  obtain ⟨fd__law_pot, F__law_pot⟩ := c.def_ 24 (d := dd__law_pot) rfl
  have g__law_pot : mg "_law_pot" = some (.ref (He.ga K "_law_pot")) := He.glo_ok X G (c.fact 24 (f := .glo "_law_pot") rfl)
  obtain ⟨fd__law_take, F__law_take⟩ := c.def_ 25 (d := dd__law_take) rfl
  have g__law_take : mg "_law_take" = some (.ref (He.ga K "_law_take")) := He.glo_ok X G (c.fact 25 (f := .glo "_law_take") rfl)
  obtain ⟨fd__law_folded, F__law_folded⟩ := c.def_ 26 (d := dd__law_folded) rfl
  have g__law_folded : mg "_law_folded" = some (.ref (He.ga K "_law_folded")) := He.glo_ok X G (c.fact 26 (f := .glo "_law_folded") rfl)
  obtain ⟨fd__law_names, F__law_names⟩ := c.def_ 27 (d := dd__law_names) rfl
  have g__law_names : mg "_law_names" = some (.ref (He.ga K "_law_names")) := He.glo_ok X G (c.fact 27 (f := .glo "_law_names") rfl)
  obtain ⟨fd__law_word, F__law_word⟩ := c.def_ 28 (d := dd__law_word) rfl
  have g__law_word : mg "_law_word" = some (.ref (He.ga K "_law_word")) := He.glo_ok X G (c.fact 28 (f := .glo "_law_word") rfl)
  obtain ⟨fd__law_new_place, F__law_new_place⟩ := c.def_ 29 (d := dd__law_new_place) rfl
  have g__law_new_place : mg "_law_new_place" = some (.ref (He.ga K "_law_new_place")) := He.glo_ok X G (c.fact 29 (f := .glo "_law_new_place") rfl)
  obtain ⟨fd__law_put_branch, F__law_put_branch⟩ := c.def_ 30 (d := dd__law_put_branch) rfl
  have g__law_put_branch : mg "_law_put_branch" = some (.ref (He.ga K "_law_put_branch")) := He.glo_ok X G (c.fact 30 (f := .glo "_law_put_branch") rfl)
  obtain ⟨fd__law_put_fault, F__law_put_fault⟩ := c.def_ 31 (d := dd__law_put_fault) rfl
  have g__law_put_fault : mg "_law_put_fault" = some (.ref (He.ga K "_law_put_fault")) := He.glo_ok X G (c.fact 31 (f := .glo "_law_put_fault") rfl)
  obtain ⟨fd__law_lacks, F__law_lacks⟩ := c.def_ 32 (d := dd__law_lacks) rfl
  have g__law_lacks : mg "_law_lacks" = some (.ref (He.ga K "_law_lacks")) := He.glo_ok X G (c.fact 32 (f := .glo "_law_lacks") rfl)
  obtain ⟨fd__law_grown, F__law_grown⟩ := c.def_ 33 (d := dd__law_grown) rfl
  have g__law_grown : mg "_law_grown" = some (.ref (He.ga K "_law_grown")) := He.glo_ok X G (c.fact 33 (f := .glo "_law_grown") rfl)
  obtain ⟨fd__law_closed, F__law_closed⟩ := c.def_ 34 (d := dd__law_closed) rfl
  have g__law_closed : mg "_law_closed" = some (.ref (He.ga K "_law_closed")) := He.glo_ok X G (c.fact 34 (f := .glo "_law_closed") rfl)
  obtain ⟨fd__law_board, F__law_board⟩ := c.def_ 35 (d := dd__law_board) rfl
  have g__law_board : mg "_law_board" = some (.ref (He.ga K "_law_board")) := He.glo_ok X G (c.fact 35 (f := .glo "_law_board") rfl)
  obtain ⟨fd__law_row, F__law_row⟩ := c.def_ 36 (d := dd__law_row) rfl
  have g__law_row : mg "_law_row" = some (.ref (He.ga K "_law_row")) := He.glo_ok X G (c.fact 36 (f := .glo "_law_row") rfl)
  obtain ⟨fd__law_place_by, F__law_place_by⟩ := c.def_ 37 (d := dd__law_place_by) rfl
  have g__law_place_by : mg "_law_place_by" = some (.ref (He.ga K "_law_place_by")) := He.glo_ok X G (c.fact 37 (f := .glo "_law_place_by") rfl)
  obtain ⟨fd__law_other, F__law_other⟩ := c.def_ 38 (d := dd__law_other) rfl
  have g__law_other : mg "_law_other" = some (.ref (He.ga K "_law_other")) := He.glo_ok X G (c.fact 38 (f := .glo "_law_other") rfl)
  obtain ⟨fd__law_back, F__law_back⟩ := c.def_ 39 (d := dd__law_back) rfl
  have g__law_back : mg "_law_back" = some (.ref (He.ga K "_law_back")) := He.glo_ok X G (c.fact 39 (f := .glo "_law_back") rfl)
  obtain ⟨fd__law_row_right, F__law_row_right⟩ := c.def_ 40 (d := dd__law_row_right) rfl
  have g__law_row_right : mg "_law_row_right" = some (.ref (He.ga K "_law_row_right")) := He.glo_ok X G (c.fact 40 (f := .glo "_law_row_right") rfl)
  obtain ⟨fd_law, F_law⟩ := c.def_ 41 (d := dd_law) rfl
  have e := hfa'.symm.trans (He.glo_ok X G (c.fact 41 (f := .glo "law") rfl))
  cases e
  have T : Tx mg := ⟨He.free_ok X G (c.fact 42 (f := .free "isinstance") rfl), He.free_ok X G (c.fact 43 (f := .free "len") rfl), He.free_ok X G (c.fact 44 (f := .free "all") rfl), He.free_ok X G (c.fact 45 (f := .free "any") rfl), He.free_ok X G (c.fact 46 (f := .free "tuple") rfl), He.free_ok X G (c.fact 47 (f := .free "str") rfl), He.free_ok X G (c.fact 48 (f := .free "int") rfl), He.free_ok X G (c.fact 49 (f := .free "bool") rfl), He.free_ok X G (c.fact 50 (f := .free "zip") rfl), He.free_ok X G (c.fact 51 (f := .free "sorted") rfl), He.free_ok X G (c.fact 52 (f := .free "set") rfl), He.free_ok X G (c.fact 53 (f := .free "list") rfl), He.free_ok X G (c.fact 54 (f := .free "range") rfl), He.free_ok X G (c.fact 55 (f := .free "enumerate") rfl), He.free_ok X G (c.fact 56 (f := .free "min") rfl), He.free_ok X G (c.fact 57 (f := .free "max") rfl), He.free_ok X G (c.fact 58 (f := .free "abs") rfl), He.free_ok X G (c.fact 59 (f := .free "repr") rfl), He.str_ok X G (c.fact 60 (f := .str "FAULT" "!") rfl), He.int_ok X G (c.fact 61 (f := .int "MOST_PLACES" 40) rfl), He.int_ok X G (c.fact 62 (f := .int "MOST_LETTERS" 8) rfl), He.int_ok X G (c.fact 63 (f := .int "FEWEST_HANDS" 2) rfl), He.int_ok X G (c.fact 64 (f := .int "MOST_HANDS" 6) rfl), He.int_ok X G (c.fact 65 (f := .int "MOST_BRANCHES" 8) rfl)⟩
  have mD := He.free_ok X G (c.fact 66 (f := .free "dict") rfl)
  have bl := FunD.bindsA (ps := ["script"]) F_law fun _ _ _ _ _ _ us hl => match us, hl with | [_], _ => rfl
  refine ⟨fd_law, fun s v => bl s [v] rfl, fun base _ _ => ?_⟩
  have G_is_name : Fn P w K mg base "is_name" 1 ["thing"] (spD K S_is_name) := ⟨_, _, g_is_name, F_is_name.kp, FunD.bindsN F_is_name (fun _ _ _ _ _ _ us hl => match us, hl with | [_], _ => rfl), ok_is_name T F_is_name⟩
  have G_is_tuple_of : Fn P w K mg base "is_tuple_of" 1 ["thing", "least", "most"] (spD K S_is_tuple_of) := ⟨_, _, g_is_tuple_of, F_is_tuple_of.kp, FunD.bindsN F_is_tuple_of (fun _ _ _ _ _ _ us hl => match us, hl with | [_, _, _], _ => rfl), ok_is_tuple_of T F_is_tuple_of⟩
  have G_is_rising : Fn P w K mg base "is_rising" 1 ["things"] (spD K S_is_rising) := ⟨_, _, g_is_rising, F_is_rising.kp, FunD.bindsN F_is_rising (fun _ _ _ _ _ _ us hl => match us, hl with | [_], _ => rfl), ok_is_rising T F_is_rising⟩
  have G_is_new_name : Fn P w K mg base "is_new_name" 2 ["thing", "known"] (spB K wdK S_is_new_name) := ⟨_, _, g_is_new_name, F_is_new_name.kp, FunD.bindsN F_is_new_name (fun _ _ _ _ _ _ us hl => match us, hl with | [_, _], _ => rfl), ok_is_new_name T G_is_name F_is_new_name⟩
  have G_takes_part : Fn P w K mg base "takes_part" 1 ["place", "hand"] (spD K S_takes_part) := ⟨_, _, g_takes_part, F_takes_part.kp, FunD.bindsN F_takes_part (fun _ _ _ _ _ _ us hl => match us, hl with | [_, _], _ => rfl), ok_takes_part T F_takes_part⟩
  have G_falls_of : Fn P w K mg base "falls_of" 1 ["place"] (spO K S_falls_of) := ⟨_, _, g_falls_of, F_falls_of.kp, FunD.bindsN F_falls_of (fun _ _ _ _ _ _ us hl => match us, hl with | [_], _ => rfl), ok_falls_of T F_falls_of⟩
  have F_places_from : Fd K "places_from" s_places_from [.non, .bl true] [] (He.fAd K dd_places_from.at_) fd_places_from := F_places_from
  have PF0 := ok_places_from (P := P) (w := w) (base := base) T F_places_from
  have PF2 : FnDf P w K mg base "places_from" 2 ["places", "starts", "without", "faults"] [.non, .bl true] (spD K S_places_from) := ⟨_, _, g_places_from, F_places_from.kp, FunD.binds1 F_places_from 2 0 (fun z => nomatch z) rfl (fun T kV doc pm an cdv ct us its h1 h2 => match us, its, h1, h2 with | [_, _], [_, _], _, _ => ⟨_, rfl, rfl⟩), PF0⟩
  have PF4 : FnDf P w K mg base "places_from" 2 ["places", "starts", "without", "faults"] [] (spD K S_places_from) := ⟨_, _, g_places_from, F_places_from.kp, FunD.binds1 F_places_from 4 2 (fun z => nomatch z) rfl (fun T kV doc pm an cdv ct us its h1 h2 => match us, its, h1, h2 with | [_, _, _, _], [_, _], _, _ => ⟨_, rfl, rfl⟩), PF0⟩
  have G__stays_fallen : Fn P w K mg base "_stays_fallen" 3 ["places", "hand"] (spD K S_stays_fallen) := ⟨_, _, g__stays_fallen, F__stays_fallen.kp, FunD.bindsN F__stays_fallen (fun _ _ _ _ _ _ us hl => match us, hl with | [_, _], _ => rfl), ok__stays_fallen T PF2 G_takes_part G_falls_of F__stays_fallen⟩
  have G__are_hands : Fn P w K mg base "_are_hands" 2 ["thing"] (spD K S_are_hands) := ⟨_, _, g__are_hands, F__are_hands.kp, FunD.bindsN F__are_hands (fun _ _ _ _ _ _ us hl => match us, hl with | [_], _ => rfl), ok__are_hands T G_is_tuple_of G_is_name F__are_hands⟩
  have G_are_weak : Fn P w K mg base "are_weak" 2 ["thing", "hands"] (spD K S_are_weak) := ⟨_, _, g_are_weak, F_are_weak.kp, FunD.bindsN F_are_weak (fun _ _ _ _ _ _ us hl => match us, hl with | [_, _], _ => rfl), ok_are_weak T G_is_tuple_of G_is_rising F_are_weak⟩
  have G__is_saying : Fn P w K mg base "_is_saying" 4 ["thing", "hands", "weak", "many", "known"] (spB K wdK S_is_saying) := ⟨_, _, g__is_saying, F__is_saying.kp, FunD.bindsN F__is_saying (fun _ _ _ _ _ _ us hl => match us, hl with | [_, _, _, _, _], _ => rfl), ok__is_saying T G_is_new_name F__is_saying⟩
  have G__are_come_to : Fn P w K mg base "_are_come_to" 3 ["places"] (spD K S_are_come_to) := ⟨_, _, g__are_come_to, F__are_come_to.kp, FunD.bindsN F__are_come_to (fun _ _ _ _ _ _ us hl => match us, hl with | [_], _ => rfl), ok__are_come_to T PF2 F__are_come_to⟩
  have G__are_places : Fn P w K mg base "_are_places" 5 ["thing", "hands", "weak"] (spD K S_are_places) := ⟨_, _, g__are_places, F__are_places.kp, FunD.bindsN F__are_places (fun _ _ _ _ _ _ us hl => match us, hl with | [_, _, _], _ => rfl), ok__are_places T G_is_tuple_of G__is_saying G__are_come_to G__stays_fallen F__are_places⟩
  have G_is_board : Fn P w K mg base "is_board" 6 ["thing"] (spD K S_is_board) := ⟨_, _, g_is_board, F_is_board.kp, FunD.bindsN F_is_board (fun _ _ _ _ _ _ us hl => match us, hl with | [_], _ => rfl), ok_is_board T G__are_hands G_are_weak G__are_places F_is_board⟩
  have G_check_board : Fn P w K mg base "check_board" 7 ["board"] (spD K S_check_board) := ⟨_, _, g_check_board, F_check_board.kp, FunD.bindsN F_check_board (fun _ _ _ _ _ _ us hl => match us, hl with | [_], _ => rfl), ok_check_board T G_is_board F_check_board⟩
  have G_check_hand : Fn P w K mg base "check_hand" 1 ["board", "hand"] (spD K S_check_hand) := ⟨_, _, g_check_hand, F_check_hand.kp, FunD.bindsN F_check_hand (fun _ _ _ _ _ _ us hl => match us, hl with | [_, _], _ => rfl), ok_check_hand T F_check_hand⟩
  have G_place_by : Fn P w K mg base "place_by" 1 ["place", "saying"] (spD K S_place_by) := ⟨_, _, g_place_by, F_place_by.kp, FunD.bindsN F_place_by (fun _ _ _ _ _ _ us hl => match us, hl with | [_, _], _ => rfl), ok_place_by T F_place_by⟩
  have G_place_after : Fn P w K mg base "place_after" 2 ["places", "thing"] (spD K S_place_after) := ⟨_, _, g_place_after, F_place_after.kp, FunD.bindsN F_place_after (fun _ _ _ _ _ _ us hl => match us, hl with | [_, _], _ => rfl), ok_place_after T G_place_by F_place_after⟩
  have G_is_row : Fn P w K mg base "is_row" 8 ["board", "thing"] (spD K S_is_row) := ⟨_, _, g_is_row, F_is_row.kp, FunD.bindsN F_is_row (fun _ _ _ _ _ _ us hl => match us, hl with | [_, _], _ => rfl), ok_is_row T G_check_board G_place_after F_is_row⟩
  have G_check_row : Fn P w K mg base "check_row" 8 ["board", "row"] (spD K S_check_row) := ⟨_, _, g_check_row, F_check_row.kp, FunD.bindsN F_check_row (fun _ _ _ _ _ _ us hl => match us, hl with | [_, _], _ => rfl), ok_check_row T G_check_board G_place_after F_check_row⟩
  have G_place_behind : Fn P w K mg base "place_behind" 9 ["board", "row"] (spD K S_check_row) := ⟨_, _, g_place_behind, F_place_behind.kp, FunD.bindsN F_place_behind (fun _ _ _ _ _ _ us hl => match us, hl with | [_, _], _ => rfl), ok_place_behind T G_check_row F_place_behind⟩
  have G_view_at : Fn P w K mg base "view_at" 1 ["row", "hand"] (spD K S_view_at) := ⟨_, _, g_view_at, F_view_at.kp, FunD.bindsN F_view_at (fun _ _ _ _ _ _ us hl => match us, hl with | [_, _], _ => rfl), ok_view_at T F_view_at⟩
  have G_view_of : Fn P w K mg base "view_of" 9 ["board", "row", "hand"] (spD K S_view_of) := ⟨_, _, g_view_of, F_view_of.kp, FunD.bindsN F_view_of (fun _ _ _ _ _ _ us hl => match us, hl with | [_, _, _], _ => rfl), ok_view_of T G_check_row G_check_hand G_view_at F_view_of⟩
  have G_views_of : Fn P w K mg base "views_of" 9 ["board", "row"] (spDc K S_views_of) := ⟨_, _, g_views_of, F_views_of.kp, FunD.bindsN F_views_of (fun _ _ _ _ _ _ us hl => match us, hl with | [_, _], _ => rfl), ok_views_of T G_check_row G_view_at F_views_of⟩
  have G__law_take : Fn P w K mg base "_law_take" 1 ["pot", "many"] (spP K S_law_take) := ⟨_, _, g__law_take, F__law_take.kp, FunD.bindsN F__law_take (fun _ _ _ _ _ _ us hl => match us, hl with | [_, _], _ => rfl), ok__law_take  F__law_take⟩
  have G__law_pot : Fn P w K mg base "_law_pot" 1 ["cell", "at"] (spO K S_law_pot) := ⟨_, _, g__law_pot, F__law_pot.kp, FunD.bindsN F__law_pot (fun _ _ _ _ _ _ us hl => match us, hl with | [_, _], _ => rfl), ok__law_pot T F__law_pot⟩
  have G__law_folded : Fn P w K mg base "_law_folded" 1 ["script", "most"] (spO K S_law_folded) := ⟨_, _, g__law_folded, F__law_folded.kp, FunD.bindsN F__law_folded (fun _ _ _ _ _ _ us hl => match us, hl with | [_, _], _ => rfl), ok__law_folded T F__law_folded⟩
  have G__law_names : Fn P w K mg base "_law_names" 2 ["pot", "many"] (spPO K S_law_names) := ⟨_, _, g__law_names, F__law_names.kp, FunD.bindsN F__law_names (fun _ _ _ _ _ _ us hl => match us, hl with | [_, _], _ => rfl), ok__law_names T G__law_take F__law_names⟩
  have G__law_word : Fn P w K mg base "_law_word" 3 ["pot", "stock", "used"] (spP K S_law_word) := ⟨_, _, g__law_word, F__law_word.kp, FunD.bindsN F__law_word (fun _ _ _ _ _ _ us hl => match us, hl with | [_, _, _], _ => rfl), ok__law_word T G__law_take G__law_names F__law_word⟩
  have G__law_new_place : Fn P w K mg base "_law_new_place" 2 ["pot", "hands", "gone"] (spG K S_law_new_place) := ⟨_, _, g__law_new_place, F__law_new_place.kp, FunD.bindsN F__law_new_place (fun _ _ _ _ _ _ us hl => match us, hl with | [_, _, _], _ => rfl), ok__law_new_place T G__law_take F__law_new_place⟩
  have G__law_put_branch : Fn P w K mg base "_law_put_branch" 4 ["pot", "hands", "stock", "place", "then"] (spG K S_law_put_branch) := ⟨_, _, g__law_put_branch, F__law_put_branch.kp, FunD.bindsN F__law_put_branch (fun _ _ _ _ _ _ us hl => match us, hl with | [_, _, _, _, _], _ => rfl), ok__law_put_branch T G__law_take G__law_word F__law_put_branch⟩
  have G__law_put_fault : Fn P w K mg base "_law_put_fault" 2 ["pot", "hands", "place", "then"] (spG K S_law_put_fault) := ⟨_, _, g__law_put_fault, F__law_put_fault.kp, FunD.bindsN F__law_put_fault (fun _ _ _ _ _ _ us hl => match us, hl with | [_, _, _, _], _ => rfl), ok__law_put_fault T G__law_take F__law_put_fault⟩
  have G__law_lacks : Fn P w K mg base "_law_lacks" 1 ["place", "weak"] (spS K S_law_lacks) := ⟨_, _, g__law_lacks, F__law_lacks.kp, FunD.bindsN F__law_lacks (fun _ _ _ _ _ _ us hl => match us, hl with | [_, _], _ => rfl), ok__law_lacks  F__law_lacks⟩
  have G__law_grown : Fn P w K mg base "_law_grown" 5 ["pot", "hands", "weak", "stock", "many"] (spG K S_law_grown) := ⟨_, _, g__law_grown, F__law_grown.kp, FunD.bindsN F__law_grown (fun _ _ _ _ _ _ us hl => match us, hl with | [_, _, _, _, _], _ => rfl), ok__law_grown T G__law_take G__law_new_place G__law_lacks G__law_put_fault G__law_put_branch F__law_grown⟩
  have G__law_closed : Fn P w K mg base "_law_closed" 1 ["places", "gone"] (spS K S_law_closed) := ⟨_, _, g__law_closed, F__law_closed.kp, FunD.bindsN F__law_closed (fun _ _ _ _ _ _ us hl => match us, hl with | [_, _], _ => rfl), ok__law_closed T F__law_closed⟩
  have G__law_board : Fn P w K mg base "_law_board" 6 ["pot", "most"] (spP K S_law_board) := ⟨_, _, g__law_board, F__law_board.kp, FunD.bindsN F__law_board (fun _ _ _ _ _ _ us hl => match us, hl with | [_, _], _ => rfl), ok__law_board (S := ok__law_boardG T G__law_take G__law_names G__law_lacks G__law_put_fault G__law_put_branch G__law_closed G__law_grown F__law_board)⟩
  have G__law_row : Fn P w K mg base "_law_row" 2 ["pot", "places", "most"] (spP K S_law_row) := ⟨_, _, g__law_row, F__law_row.kp, FunD.bindsN F__law_row (fun _ _ _ _ _ _ us hl => match us, hl with | [_, _, _], _ => rfl), ok__law_row T G__law_take F__law_row⟩
  have G__law_place_by : Fn P w K mg base "_law_place_by" 1 ["places", "row"] (spD K S_law_place_by) := ⟨_, _, g__law_place_by, F__law_place_by.kp, FunD.bindsN F__law_place_by (fun _ _ _ _ _ _ us hl => match us, hl with | [_, _], _ => rfl), ok__law_place_by T F__law_place_by⟩
  have G__law_other : Fn P w K mg base "_law_other" 2 ["pot", "places", "row", "most"] (spP K S_law_other) := ⟨_, _, g__law_other, F__law_other.kp, FunD.bindsN F__law_other (fun _ _ _ _ _ _ us hl => match us, hl with | [_, _, _, _], _ => rfl), ok__law_other T G__law_take G__law_place_by F__law_other⟩
  have G__law_back : Fn P w K mg base "_law_back" 1 ["places", "views"] (spK K S_law_back) := ⟨_, _, g__law_back, F__law_back.kp, FunD.bindsN F__law_back (fun _ _ _ _ _ _ us hl => match us, hl with | [_, _], _ => rfl), ok__law_back T mD F__law_back⟩
  have G__law_row_right : Fn P w K mg base "_law_row_right" 10 ["board", "row"] (spD K S_law_row_right) := ⟨_, _, g__law_row_right, F__law_row_right.kp, FunD.bindsN F__law_row_right (fun _ _ _ _ _ _ us hl => match us, hl with | [_, _], _ => rfl), ok__law_row_right T G_views_of G_is_row G__law_back G_view_of G_place_behind G__law_place_by F__law_row_right⟩
  exact ok_law T G__law_take G__law_pot G__law_folded G__law_board G__law_row G__law_other G_views_of G_view_of G__law_row_right F_law
end K3

set_option maxHeartbeats 200000
set_option Elab.async false
set_option linter.all false
open PySem PySem.W PySem.Calls PyProof.Rows
set_option maxRecDepth 100000 in
set_option maxHeartbeats 0 in
theorem PySem.Challenge.cw_sayloom_k06_whole_views_tell_the_row_holds : PySem.Challenge.rw_sayloom_k06_whole_views_tell_the_row.Holds := by
  w_on; o_law
  refine HandSHeadRun.head_any (r := OpenLaw.row PySem.Challenge.rw_sayloom_k06_whole_views_tell_the_row) (q := view (OpenLaw.row PySem.Challenge.rw_sayloom_k06_whole_views_tell_the_row).prog [55]) (H := K3.hhk) (ob := K3.hob) (M := 4000) (loose := K3.hlo) (d := HandSHeadRun.topDef (OpenLaw.row PySem.Challenge.rw_sayloom_k06_whole_views_tell_the_row).prog 55) (kwd := []) K3.hob_eq
    (by kernel_rfl) (fun s => by kernel_rfl) K3.hrun (by kernel_rfl) (by kernel_rfl) (by kernel_rfl) (by rfl) (by first | assumption | decide +kernel) (by decide +kernel) ⟨rfl, rfl, rfl, rfl, rfl, by decide +kernel⟩ ?hw ?hc
  case hw => w_witness2
  case hc =>
    refine DL.walkSh (l := PySem.Challenge.rw_sayloom_k06_whole_views_tell_the_row) (n := 63) (k := 12) (x := "script") rfl (by decide) (by kernel_rfl) ⟨rfl, by decide, by decide⟩ ?F
    intro w mg fa h Y G hmg0
    obtain ⟨K, KX, c⟩ := Y
    have hmg : mg ("law" : PySem.Str) = some (.ref fa) := by
      have e : (HandSHeadRun.topDef (OpenLaw.row PySem.Challenge.rw_sayloom_k06_whole_views_tell_the_row).prog 55).name = ("law" : PySem.Str) := by kernel_rfl
      rw [← e]
      exact hmg0
    obtain ⟨fd, hb, hF⟩ := K3.facts (P := (PySem.Challenge.rw_sayloom_k06_whole_views_tell_the_row).prog) (w := w) KX G hmg c
    refine ⟨K, fd, DL.spD K K3.S_law, KX, hb, fun H a ns hl _ hS => ?_, hF⟩
    refine ⟨H, [.list (ns.map PyData.int)], fun x => x = .bool true, fun _ _ z => z, .cons (.lst hS ?_) .nil, ⟨ns, rfl, hl, rfl⟩, fun v x F' H' _ _ _ _ hd hx => ?_⟩
    · clear hl hS
      induction ns with
      | nil => exact .nil
      | cons n ns ih => exact .cons (.int n) ih
    · subst hx
      cases hd
      rfl

import PyProof.Rows.All
import Wide.All
import OpenK.AllK
import Wide.FinOn
import KE.KStateDown
import HandS.Head0
import HandS.Head1
import HandS.Head2
import HandS.HeadEnd
import HandS.HeadHook1
import HandS.HeadHook2
import HandS.ForMost
import HandS.TupAny
import HandS.IsInst
import HandS.Strs
import HandS.Zip
import HandS.Flow
import HandS.Defaults
import HandS.SortInts
import HandS.SetFor
import KE.SortData
import KE.LtData
import KE.DataFind
import HandS.Set
import HandS.Codes
import HandS.NoneIn
import HandS.ExcInit
import HandS.TryOnly
import HandS.ExcOwn
import HandS.Dict
import HandS.StrMore
import HandS.Text
import KE.GoesEnum
import KE.GoesMore
import HandS.SetBool
import HandS.DictComp
import HandS.Finally
import HandS.More
import KE.KDictList
import HandS.Iter
import HandS.Walk
import HandS.WideBits
import HandS.Style
import HandS.DictTup
import HandS.Conv
import KE.KDictSum
import OpenK.KMore
import HandS.ReplaceLit
import HandS.ReplaceList
import HandS.FStr
import KE.KDictDisplayH
import HandS.ExcIs
import HandS.DeepEq
import KE.KExcInit
import HandS.ExcField
import HandS.WordsDict
import HandS.TupLen
import KE.KeyNested
import KE.KTupTabMore
import HandS.HotCalls
import PyProof.Rows.CatchTuple
import HandS.Comp
import KE.DatumIndex
import HandS.SetKeys
import KE.DataEq
import PySem.Challenge.RW_sayloom_k16_whole_least_ends
set_option maxHeartbeats 200000
set_option Elab.async false
set_option linter.all false
set_option maxRecDepth 100000
namespace DL
open PySem PySem.Spec PyProof.Rows L2
mutual
/-- v reads as d, handles among it -/
inductive Dq (K : PySem.W.Frag) (H : Hp) : V → PyData → Prop
  | non : Dq K H .non .none
  | bl (b : Bool) : Dq K H (.bl b) (.bool b)
  | int (i : Int) : Dq K H (.int i) (.int i)
  | str (x : Str) : Dq K H (.str x) (.str x)
  | lst {a : Addr} {xs : List V} {ds : List PyData} : SqL K H a xs → DqAll K H xs ds → Dq K H (.ref a) (.list ds)
  | tup {a : Addr} {xs : List V} {ds : List PyData} : SqT K H a xs → DqAll K H xs ds → H a = some (.tup xs) → Dq K H (.ref a) (.tuple ds)
  | hd (a : Addr) : Dq K H (.ref a) (.dict [(.int (a : Nat), .none)])
inductive DqAll (K : PySem.W.Frag) (H : Hp) : List V → List PyData → Prop
  | nil : DqAll K H [] []
  | cons {v : V} {vs : List V} {d : PyData} {ds : List PyData} : Dq K H v d → DqAll K H vs ds → DqAll K H (v :: vs) (d :: ds)
end
mutual
/-- no handle is in it -/
def noH : PyData → Bool
  | .dict _ => false
  | .list xs => noHs xs
  | .tuple xs => noHs xs
  | _ => true
def noHs : List PyData → Bool
  | [] => true
  | x :: xs => noH x && noHs xs
end
mutual
theorem dq_dp {K : PySem.W.Frag} {H : Hp} : ∀ (d : PyData) (v : V), noH d = true → Dq K H v d → Dp K H v d
  | .none, _, _, h => by cases h; exact .non
  | .bool _, _, _, h => by cases h; exact .bl _
  | .int _, _, _, h => by cases h; exact .int _
  | .str _, _, _, h => by cases h; exact .str _
  | .list ds, _, n, h => by
    cases h with
    | lst hs ha => exact .lst hs (dqs_dps ds _ n ha)
  | .tuple ds, _, n, h => by
    cases h with
    | tup hs ha => exact .tup hs (dqs_dps ds _ n ha)
  | .dict _, _, n, _ => by cases n
theorem dqs_dps {K : PySem.W.Frag} {H : Hp} : ∀ (ds : List PyData) (vs : List V), noHs ds = true → DqAll K H vs ds → DpAll K H vs ds
  | [], _, _, h => by cases h; exact .nil
  | d :: ds, _, n, h => by
    cases h with
    | cons h1 h2 =>
      have n' : (noH d && noHs ds) = true := n
      rw [Bool.and_eq_true] at n'
      exact .cons (dq_dp d _ n'.1 h1) (dqs_dps ds _ n'.2 h2)
end
theorem seqT {K : PySem.W.Frag} {H H' : Hp} {a : Addr} {xs : List V} (e : Same H H') (h : SqT K H a xs) : SqT K H' a xs := by
  rcases h with (h | ⟨o, h⟩) | h
  · exact .inl (.inl (e _ _ h))
  · exact .inl (.inr ⟨o, e _ _ h⟩)
  · exact .inr h
mutual
theorem dp_mono {K : PySem.W.Frag} {H H' : Hp} (e : Same H H') : ∀ (d : PyData) (v : V), Dq K H v d → Dq K H' v d
  | .none, _, h => by cases h; exact .non
  | .bool _, _, h => by cases h; exact .bl _
  | .int _, _, h => by cases h; exact .int _
  | .str _, _, h => by cases h; exact .str _
  | .list ds, _, h => by
    cases h with
    | lst hs ha => exact .lst (e.seq hs) (dpAll_mono e ds _ ha)
  | .tuple ds, _, h => by
    cases h with
    | tup hs ha hp => exact .tup (seqT e hs) (dpAll_mono e ds _ ha) (e _ _ hp)
  | .dict _, _, h => by cases h; exact .hd _
theorem dpAll_mono {K : PySem.W.Frag} {H H' : Hp} (e : Same H H') : ∀ (ds : List PyData) (vs : List V), DqAll K H vs ds → DqAll K H' vs ds
  | [], _, h => by cases h; exact .nil
  | d :: ds, _, h => by
    cases h with
    | cons h1 h2 => exact .cons (dp_mono e d _ h1) (dpAll_mono e ds _ h2)
end
theorem dpAll_len {K : PySem.W.Frag} {H : Hp} : ∀ {vs : List V} {ds : List PyData}, DqAll K H vs ds → vs.length = ds.length
  | _, [], h => by cases h; rfl
  | _, _ :: _, h => by
    cases h with
    | cons _ h2 => simp [dpAll_len h2]
theorem dpAll_get {K : PySem.W.Frag} {H : Hp} : ∀ {vs : List V} {ds : List PyData} {i : Nat} {d : PyData}, DqAll K H vs ds → ds[i]? = some d → ∃ v, vs[i]? = some v ∧ Dq K H v d
  | _, [], i, d, h, e => by simp at e
  | _, _ :: _, 0, d, h, e => by
    cases h with
    | cons h1 h2 => simp at e; subst e; exact ⟨_, rfl, h1⟩
  | _, _ :: _, i + 1, d, h, e => by
    cases h with
    | cons h1 h2 =>
      obtain ⟨v, e1, e2⟩ := dpAll_get (i := i) h2 (by simpa using e)
      exact ⟨v, by simpa using e1, e2⟩
theorem dpAll_app {K : PySem.W.Frag} {H : Hp} : ∀ {vs us : List V} {ds es : List PyData}, DqAll K H vs ds → DqAll K H us es → DqAll K H (vs ++ us) (ds ++ es)
  | _, us, [], es, h, q => by cases h; exact q
  | _, us, _ :: _, es, h, q => by
    cases h with
    | cons h1 h2 => exact .cons h1 (dpAll_app h2 q)
theorem dpAll_take {K : PySem.W.Frag} {H : Hp} : ∀ (n : Nat) {vs : List V} {ds : List PyData}, DqAll K H vs ds → DqAll K H (vs.take n) (ds.take n)
  | 0, _, _, h => .nil
  | n + 1, _, [], h => by cases h; exact .nil
  | n + 1, _, _ :: _, h => by
    cases h with
    | cons h1 h2 => exact .cons h1 (dpAll_take n h2)
theorem dpAll_drop {K : PySem.W.Frag} {H : Hp} : ∀ (n : Nat) {vs : List V} {ds : List PyData}, DqAll K H vs ds → DqAll K H (vs.drop n) (ds.drop n)
  | 0, _, _, h => h
  | n + 1, _, [], h => by cases h; exact .nil
  | n + 1, _, _ :: _, h => by
    cases h with
    | cons h1 h2 => exact dpAll_drop n h2
theorem dpAll_dropLast {K : PySem.W.Frag} {H : Hp} {vs : List V} {ds : List PyData} (h : DqAll K H vs ds) : DqAll K H vs.dropLast ds.dropLast := by
  rw [List.dropLast_eq_take, List.dropLast_eq_take, dpAll_len h]
  exact dpAll_take _ h
/-- data that no heap is needed for -/
def atom : PyData → Bool
  | .none => true | .bool _ => true | .int _ => true | .str _ => true
  | _ => false
def toV : PyData → V
  | .none => .non | .bool b => .bl b | .int i => .int i | .str s => .str s
  | _ => .non
theorem atom_v {K : PySem.W.Frag} {H : Hp} {v : V} {d : PyData} (h : Dq K H v d) (a : atom d = true) : v = toV d := by
  cases h <;> first | rfl | cases a
theorem atom_dp {K : PySem.W.Frag} {H H' : Hp} {v : V} {d : PyData} (h : Dq K H v d) (a : atom d = true) : Dq K H' v d := by
  cases h <;> first | exact .non | exact .bl _ | exact .int _ | exact .str _ | cases a
theorem atoms_v {K : PySem.W.Frag} {H : Hp} : ∀ {vs : List V} {ds : List PyData}, DqAll K H vs ds → ds.all atom = true → vs = ds.map toV
  | _, [], h, _ => by cases h; rfl
  | _, d :: ds, h, a => by
    cases h with
    | cons h1 h2 =>
      simp only [List.all_cons, Bool.and_eq_true] at a
      rw [atom_v h1 a.1, atoms_v h2 a.2]
      rfl
inductive C where
  | d (x : PyData)
  | own (xs : List PyData)
  | dct (kvs : List (L2.Key × PyData))
  | gen (pa : Option Addr) (mk : List V → HO) (xs : List PyData)
  | iset (ns : List Int)
  | pot
  | bor
structure St' where
  n : Nat
  s : List (Option C)
/-- what others hand us that we may change: the pot, three ints, the third one a count that is not great; or a dict of truths, whose keys are such, and that has such -/
abbrev PotK := (L2.Key → Prop) × (L2.Key → Prop)
inductive PotC where
  | num (i : Int)
  | dict (kvs : List (L2.Key × V))
def potO : PotC → Int → Int → HO
  | .num x, y, z => .lst [.int x, .int y, .int z]
  | .dict kvs, _, _ => .dK kvs
def PotM : Option PotK → PotC → Nat → Prop
  | none, .num _, _ => True
  | some P, .dict kvs, n => kvs.length ≤ n ∧ (∀ kv ∈ kvs, P.1 kv.1 ∧ kv.2 = .bl true) ∧ ∀ k, P.2 k → ∃ kv ∈ kvs, kv.1 = k
  | _, _, _ => False
def PotAt (m : Option PotK) (H : Hp) (a : Addr) (n : Nat) : Prop := ∃ (x : PotC) (y z : Int), H a = some (potO x y z) ∧ 0 ≤ z ∧ z ≤ (n : Int) ∧ PotM m x n
theorem pot_num {H : Hp} {a : Addr} {n : Nat} (h : PotAt none H a n) : ∃ x y z : Int, H a = some (.lst [.int x, .int y, .int z]) ∧ 0 ≤ z ∧ z ≤ (n : Int) := by
  obtain ⟨x, y, z, h1, h2, h3, h4⟩ := h
  cases x with
  | num x => exact ⟨x, y, z, h1, h2, h3⟩
  | dict kvs => cases h4
theorem num_pot {H : Hp} {a : Addr} {n : Nat} {x y z : Int} (h1 : H a = some (.lst [.int x, .int y, .int z])) (h2 : 0 ≤ z) (h3 : z ≤ (n : Int)) : PotAt none H a n := ⟨.num x, y, z, h1, h2, h3, trivial⟩
theorem pot_more {m : Option PotK} {x : PotC} {n n' : Nat} (h : PotM m x n) (hn : n ≤ n') : PotM m x n' := by
  cases m <;> cases x <;> first | exact h | exact ⟨Nat.le_trans h.1 hn, h.2⟩
structure B0 where
  F : Hp
  H : Hp
  p : Option Addr
  m : Option PotK
structure Bs extends B0 where
  w : World
  K : PySem.W.Frag
def isetO (w : World) (a : Addr) (ns : List Int) : HO := SetO w a (fun k => decide (k ∈ ns)) ns.length
def CellOk (B : Bs) (F H : Hp) : C → V → Prop
  | .d x, v => Dq B.K F v x
  | .own xs, v => ∃ a vs, v = .ref a ∧ B.H a = none ∧ F a = none ∧ H a = some (.lst vs) ∧ DqAll B.K F vs xs
  | .dct kvs, v => ∃ a vs, v = .ref a ∧ B.H a = none ∧ F a = none ∧ H a = some (.dK ((kvs.map (·.1)).zip vs)) ∧ DqAll B.K F vs (kvs.map (·.2))
  | .gen pa mk xs, v => ∃ a vs, v = .ref a ∧ B.H a = none ∧ F a = none ∧ H a = some (mk vs) ∧ (∀ p, pa = some p → a = p) ∧ DqAll B.K F vs xs
  | .iset ns, v => ∃ a, v = .ref a ∧ B.H a = none ∧ F a = none ∧ H a = some (isetO B.w a ns)
  | .pot, v => ∃ a, v = .ref a ∧ B.p = some a ∧ B.m = none
  | .bor, v => ∃ a, v = .ref a ∧ B.p = some a ∧ B.m ≠ none
def own? : C → Bool
  | .own _ => true | .dct _ => true | .gen _ _ _ => true | .iset _ => true | _ => false
structure Rep (B : Bs) (δ : St') (σ : List (Option V)) (F H : Hp) : Prop where
  ex : Same F H
  f0 : Same B.F F
  fr : ∀ b, B.F b = none → B.H b ≠ none → F b = none
  kp : ∀ b o, B.H b = some o → B.p ≠ some b → H b = some o
  pot : ∀ a, B.p = some a → B.F a = none ∧ B.H a ≠ none ∧ PotAt B.m H a δ.n
  cell : ∀ (i : Nat) (c : C), δ.s[i]? = some (some c) → ∃ v, σ[i]? = some (some v) ∧ CellOk B F H c v
  len : σ.length = δ.s.length
  ap : ∀ (i j : Nat) (c c' : C), i ≠ j → δ.s[i]? = some (some c) → δ.s[j]? = some (some c') → own? c = true → own? c' = true → σ[i]? ≠ σ[j]?
theorem Rep.potF {B : Bs} {δ : St'} {σ : List (Option V)} {F H : Hp} (r : Rep B δ σ F H) {a : Addr} (h : B.p = some a) : F a = none := r.fr a (r.pot a h).1 (r.pot a h).2.1
/-- a new thing, told as data -/
theorem Rep.new {B : Bs} {δ : St'} {σ : List (Option V)} {F H : Hp} (r : Rep B δ σ F H) {p : Addr} (hp : H p = none) (o : HO) : Rep B δ σ (upd F p o) (upd H p o) := by
  have hF : F p = none := r.ex.free hp
  have ne : ∀ {b : Addr} {u : HO}, H b = some u → b ≠ p := fun h => ne_of_none h hp
  refine ⟨fun b u h => ?_, fun b u h => ?_, fun b h1 h2 => ?_, fun b u h1 h2 => ?_, fun a h => ?_, fun i c h => ?_, r.len, r.ap⟩
  · by_cases e : b = p
    · subst e; rw [upd_same] at h ⊢; exact h
    · rw [upd_ne e] at h ⊢; exact r.ex b u h
  · rw [upd_ne (ne_of_none (r.f0 b u h) hF)]; exact r.f0 b u h
  · have hb : b ≠ p := by
      rintro rfl
      by_cases e : B.p = some b
      · obtain ⟨_, _, _, _, _, h3, _⟩ := r.pot b e
        rw [hp] at h3; cases h3
      · cases q : B.H b with
        | none => exact h2 q
        | some u => rw [r.kp b u q e] at hp; cases hp
    rw [upd_ne hb]; exact r.fr b h1 h2
  · have := r.kp b u h1 h2
    rw [upd_ne (ne this)]; exact this
  · obtain ⟨h1, h2, x, y, z, h3, h4⟩ := r.pot a h
    exact ⟨h1, h2, x, y, z, by rw [upd_ne (ne h3)]; exact h3, h4⟩
  · obtain ⟨v, hv, hc⟩ := r.cell i c h
    refine ⟨v, hv, ?_⟩
    cases c with
    | d x => exact dp_mono (fun b u q => by rw [upd_ne (ne_of_none q hF)]; exact q) _ _ hc
    | own xs =>
      obtain ⟨a, vs, e, h1, h2, h3, h4⟩ := hc
      exact ⟨a, vs, e, h1, by rw [upd_ne (ne h3)]; exact h2, by rw [upd_ne (ne h3)]; exact h3, dpAll_mono (fun b u q => by rw [upd_ne (ne_of_none q hF)]; exact q) _ _ h4⟩
    | dct kvs =>
      obtain ⟨a, vs, e, h1, h2, h3, h4⟩ := hc
      exact ⟨a, vs, e, h1, by rw [upd_ne (ne h3)]; exact h2, by rw [upd_ne (ne h3)]; exact h3, dpAll_mono (fun b u q => by rw [upd_ne (ne_of_none q hF)]; exact q) _ _ h4⟩
    | gen pa mk kvs =>
      obtain ⟨a, vs, e, h1, h2, h3, h4, h5⟩ := hc
      exact ⟨a, vs, e, h1, by rw [upd_ne (ne h3)]; exact h2, by rw [upd_ne (ne h3)]; exact h3, h4, dpAll_mono (fun b u q => by rw [upd_ne (ne_of_none q hF)]; exact q) _ _ h5⟩
    | iset ns =>
      obtain ⟨a, e, h1, h2, h3⟩ := hc
      exact ⟨a, e, h1, by rw [upd_ne (ne h3)]; exact h2, by rw [upd_ne (ne h3)]; exact h3⟩
    | pot => exact hc
    | bor => exact hc
theorem same_upd {H : Hp} {p : Addr} {o : HO} (h : H p = none) : Same H (upd H p o) := fun b x e => by
  rw [upd_ne (ne_of_none e h)]
  exact e
abbrev PE1 := PyData → St' → Prop
def WE (B : Bs) (te : TE) (δ : St') (Φ : PE1) : Prop := ∀ σ F H, Rep B δ σ F H → ∀ Q : VK, (∀ v x δ' F' H', Same F F' → Rep B δ' σ F' H' → Dq B.K F' v x → Φ x δ' → Q v H') → te σ H Q
def WT (B : Bs) (tt : TT) (δ : St') (Φ : Bool → St' → Prop) : Prop := ∀ σ F H, Rep B δ σ F H → ∀ Q : Bool → Hp → Prop, (∀ b δ' F' H', Same F F' → Rep B δ' σ F' H' → Φ b δ' → Q b H') → tt σ H Q
def WA (B : Bs) (ta : TA) (δ : St') (Φ : List PyData → St' → Prop) : Prop := ∀ σ F H, Rep B δ σ F H → ∀ Q : List V → Hp → Prop, (∀ vs xs δ' F' H', Same F F' → Rep B δ' σ F' H' → DqAll B.K F' vs xs → Φ xs δ' → Q vs H') → ta σ H Q
/-- a new list, that nobody else has -/
def WL (B : Bs) (te : TE) (δ : St') (Φ : List PyData → St' → Prop) : Prop := ∀ σ F H, Rep B δ σ F H → ∀ Q : VK, (∀ a vs xs δ' F' H', Same F F' → Rep B δ' σ F' H' → B.H a = none → F' a = none → H' a = some (.lst vs) →
  (∀ (i : Nat) (c : C), δ'.s[i]? = some (some c) → own? c = true → σ[i]? ≠ some (some (.ref a))) → DqAll B.K F' vs xs → Φ xs δ' → Q (.ref a) H') → te σ H Q
def WS (B : Bs) (ts : TS) (δ : St') (N : St' → Prop) (R : PE1) : Prop := ∀ σ F H, Rep B δ σ F H → ∀ D : Ends, (∀ δ' σ' F' H', Same F F' → Rep B δ' σ' F' H' → N δ' → D.nx σ' H') → (∀ v x δ' σ' F' H', Same F F' → Rep B δ' σ' F' H' → Dq B.K F' v x → R x δ' → D.rt v H') → ts D σ H
/-- values, by two things, by one, by a list of things -/
def RD (B : Bs) (r : R2) (x y : PyData) (δ : St') (Φ : PE1) : Prop := ∀ σ F H, Rep B δ σ F H → ∀ v u, Dq B.K F v x → Dq B.K F u y → ∀ Q : VK, (∀ v x δ' F' H', Same F F' → Rep B δ' σ F' H' → Dq B.K F' v x → Φ x δ' → Q v H') → r v u H Q
def RU (B : Bs) (r : V → Hp → VK → Prop) (x : PyData) (δ : St') (Φ : PE1) : Prop := ∀ σ F H, Rep B δ σ F H → ∀ v, Dq B.K F v x → ∀ Q : VK, (∀ v x δ' F' H', Same F F' → Rep B δ' σ F' H' → Dq B.K F' v x → Φ x δ' → Q v H') → r v H Q
def RC (B : Bs) (r : List V → Hp → VK → Prop) (xs : List PyData) (δ : St') (Φ : PE1) : Prop := ∀ σ F H, Rep B δ σ F H → ∀ vs, DqAll B.K F vs xs → ∀ Q : VK, (∀ v x δ' F' H', Same F F' → Rep B δ' σ F' H' → Dq B.K F' v x → Φ x δ' → Q v H') → r vs H Q
section
variable {B : Bs} {te ta tb tx : TE} {tt tu : TT} {δ : St'} {Φ Ψ : PE1}
theorem WE.mono (h : WE B te δ Φ) (f : ∀ x δ', Φ x δ' → Ψ x δ') : WE B te δ Ψ := fun σ F H r Q q => h σ F H r Q fun v x δ' F' H' e r' d p => q v x δ' F' H' e r' d (f x δ' p)
theorem WT.mono {Φ Ψ : Bool → St' → Prop} (h : WT B tt δ Φ) (f : ∀ x δ', Φ x δ' → Ψ x δ') : WT B tt δ Ψ := fun σ F H r Q q => h σ F H r Q fun b δ' F' H' e r' p => q b δ' F' H' e r' (f b δ' p)
theorem we_var {i : Nat} {x : PyData} (h : δ.s[i]? = some (some (.d x))) (p : Φ x δ) : WE B (tVar i) δ Φ := fun σ F H r Q q => by
  obtain ⟨v, hv, hc⟩ := r.cell i _ h
  exact ⟨v, hv, q v x δ F H (Same.refl F) r hc p⟩
theorem we_c {v : V} {x : PyData} (h : ∀ F, Dq B.K F v x) (p : Φ x δ) : WE B (tC v) δ Φ := fun σ F H r Q q => q v x δ F H (Same.refl F) r (h F) p
theorem we_int {i : Int} (p : Φ (.int i) δ) : WE B (tC (.int i)) δ Φ := we_c (fun _ => .int i) p
theorem we_bl {i : Bool} (p : Φ (.bool i) δ) : WE B (tC (.bl i)) δ Φ := we_c (fun _ => .bl i) p
theorem we_str {i : Str} (p : Φ (.str i) δ) : WE B (tC (.str i)) δ Φ := we_c (fun _ => .str i) p
theorem we_non (p : Φ .none δ) : WE B (tC .non) δ Φ := we_c (fun _ => .non) p
theorem we_op {r : R2} (h : WE B ta δ fun x δ1 => WE B tb δ1 fun y δ2 => RD B r x y δ2 Φ) : WE B (tOp r ta tb) δ Φ := fun σ F H rp Q q =>
  h σ F H rp _ fun v x δ1 F1 H1 e1 r1 d1 p1 => p1 σ F1 H1 r1 _ fun u y δ2 F2 H2 e2 r2 d2 p2 => p2 σ F2 H2 r2 v u (dp_mono e2 _ _ d1) d2 Q fun v' x' δ' F' H' e' r' d' p' => q v' x' δ' F' H' ((e1.trans e2).trans e') r' d' p'
theorem we_cb {r : List V → Hp → VK → Prop} {ta : TA} (h : WA B ta δ fun xs δ1 => RC B r xs δ1 Φ) : WE B (tCB r ta) δ Φ := fun σ F H rp Q q =>
  h σ F H rp _ fun v x δ1 F1 H1 e1 r1 d1 p1 => p1 σ F1 H1 r1 v d1 Q fun v' x' δ' F' H' e' r' d' p' => q v' x' δ' F' H' (e1.trans e') r' d' p'
theorem wa_nil {Φ : List PyData → St' → Prop} (p : Φ [] δ) : WA B tNil δ Φ := fun σ F H r Q q => q [] [] δ F H (Same.refl F) r .nil p
theorem wa_cons {tr : TA} {Φ : List PyData → St' → Prop} (h : WE B ta δ fun x δ1 => WA B tr δ1 fun xs δ2 => Φ (x :: xs) δ2) : WA B (tCons ta tr) δ Φ := fun σ F H r Q q =>
  h σ F H r _ fun v x δ1 F1 H1 e1 r1 d1 p1 => p1 σ F1 H1 r1 _ fun vs xs δ2 F2 H2 e2 r2 d2 p2 => q (v :: vs) (x :: xs) δ2 F2 H2 (e1.trans e2) r2 (.cons (dp_mono e2 _ _ d1) d2) p2
/-- a new tuple of told things -/
theorem we_tup {ta : TA} (h : WA B ta δ fun xs δ1 => xs.length ≤ 100000 ∧ Φ (.tuple xs) δ1) : WE B (tTup ta) δ Φ := fun σ F H r Q q =>
  h σ F H r _ fun vs xs δ1 F1 H1 e1 r1 d1 ⟨hz, p1⟩ => ⟨Nat.le_trans (by rw [dpAll_len d1]; exact hz) (by decide), fun p hp => by
    have hF : F1 p = none := r1.ex.free hp
    exact q _ _ δ1 _ _ (e1.trans (same_upd hF)) (r1.new hp (.tup vs)) (.tup (.inl (.inl upd_same)) (dpAll_mono (same_upd hF) _ _ d1) upd_same) p1⟩
/-- tests -/
theorem wt_test (h : WE B te δ fun x δ' => ∃ b, x = .bool b ∧ Φ' b δ') : WT B (tTest te) δ Φ' := fun σ F H r Q q => h σ F H r _ fun v x δ' F' H' e r' d ⟨b, hb, p⟩ => by
  subst hb
  cases d
  exact ⟨b, rfl, q b δ' F' H' e r' p⟩
theorem wt_B (h : WE B te δ fun x δ' => ∃ b, x = .bool b ∧ Φ' b δ') : WT B (tB te) δ Φ' := fun σ F H r Q q => h σ F H r _ fun v x δ' F' H' e r' d ⟨b, hb, p⟩ => by
  subst hb
  cases d
  exact ⟨b, rfl, q b δ' F' H' e r' p⟩
theorem wt_not (h : WT B tt δ fun b δ' => Φ' (!b) δ') : WT B (tNot tt) δ Φ' := fun σ F H r Q q => h σ F H r _ fun b δ' F' H' e r' p => q (!b) δ' F' H' e r' p
theorem wt_and (h : WT B tt δ fun b δ' => if b = true then WT B tu δ' Φ' else Φ' false δ') : WT B (tAnd tt tu) δ Φ' := fun σ F H r Q q => h σ F H r _ fun b δ' F' H' e r' p => by
  cases b with
  | true => exact iteT ((show WT B tu δ' Φ' from p) σ F' H' r' Q fun b δ2 F2 H2 e2 r2 p2 => q b δ2 F2 H2 (e.trans e2) r2 p2)
  | false => exact iteF (q false δ' F' H' e r' p)
theorem wt_or (h : WT B tt δ fun b δ' => if b = true then Φ' true δ' else WT B tu δ' Φ') : WT B (tOr tt tu) δ Φ' := fun σ F H r Q q => h σ F H r _ fun b δ' F' H' e r' p => by
  cases b with
  | true => exact iteT (q true δ' F' H' e r' p)
  | false => exact iteF ((show WT B tu δ' Φ' from p) σ F' H' r' Q fun b δ2 F2 H2 e2 r2 p2 => q b δ2 F2 H2 (e.trans e2) r2 p2)
/-- a new list becomes data -/
theorem we_wl (h : WL B te δ fun xs δ' => Φ (.list xs) δ') : WE B te δ Φ := fun σ F H r Q q => h σ F H r Q fun a vs xs δ' F' H' e r' hB hF hH hap d p => by
  have e2 : Same F' (upd F' a (.lst vs)) := same_upd hF
  refine q _ _ δ' (upd F' a (.lst vs)) H' (e.trans e2) ⟨fun b u h => ?_, r'.f0.trans e2, fun b h1 h2 => ?_, r'.kp, r'.pot, fun i c h => ?_, r'.len, r'.ap⟩ (.lst (.inl (.inl upd_same)) (dpAll_mono e2 _ _ d)) p
  · by_cases hb : b = a
    · subst hb; rw [upd_same] at h; cases h; exact hH
    · rw [upd_ne hb] at h; exact r'.ex b u h
  · have hb : b ≠ a := fun z => h2 (z ▸ hB)
    rw [upd_ne hb]; exact r'.fr b h1 h2
  · obtain ⟨v, hv, hc⟩ := r'.cell i c h
    refine ⟨v, hv, ?_⟩
    cases c with
    | d x => exact dp_mono e2 _ _ hc
    | own ys =>
      obtain ⟨a', vs', e', h1, h2, h3, h4⟩ := hc
      subst e'
      have hne : a' ≠ a := fun z => hap i _ h rfl (z ▸ hv)
      exact ⟨a', vs', rfl, h1, by rw [upd_ne hne]; exact h2, h3, dpAll_mono e2 _ _ h4⟩
    | dct kvs =>
      obtain ⟨a', vs', e', h1, h2, h3, h4⟩ := hc
      subst e'
      have hne : a' ≠ a := fun z => hap i _ h rfl (z ▸ hv)
      exact ⟨a', vs', rfl, h1, by rw [upd_ne hne]; exact h2, h3, dpAll_mono e2 _ _ h4⟩
    | gen pa mk kvs =>
      obtain ⟨a', vs', e', h1, h2, h3, h4, h5⟩ := hc
      subst e'
      have hne : a' ≠ a := fun z => hap i _ h rfl (z ▸ hv)
      exact ⟨a', vs', rfl, h1, by rw [upd_ne hne]; exact h2, h3, h4, dpAll_mono e2 _ _ h5⟩
    | iset ns =>
      obtain ⟨a', e', h1, h2, h3⟩ := hc
      subst e'
      have hne : a' ≠ a := fun z => hap i _ h rfl (z ▸ hv)
      exact ⟨a', rfl, h1, by rw [upd_ne hne]; exact h2, h3⟩
    | pot => exact hc
    | bor => exact hc
end
end DL
set_option maxHeartbeats 200000
set_option Elab.async false
set_option linter.all false
set_option maxRecDepth 100000
namespace DL
open PySem PySem.Spec PyProof.Rows L2
section
variable (X : Cx)
def wE (e : Expr) : TE := fun σ H Q => ∀ pins s, Inv X pins σ H s → wpAny (model X.prog X.w) X.A (eval e X.env) (EP X pins σ Q) X.xe s
def wT (e : Expr) : TT := fun σ H Q => ∀ pins s, Inv X pins σ H s → wpAny (model X.prog X.w) X.A (isTrue e X.env (eval e X.env)) (TP X pins σ Q) X.xe s
def wW (e : Expr) : TT := fun σ H Q => ∀ whole pins s, Inv X pins σ H s → wpAny (model X.prog X.w) X.A (isTrue e X.env whole) (TP X pins σ Q) X.xe s
def wA (es : List Expr) : TA := fun σ H Q => ∀ pos pins s, Inv X pins σ H s → wpAny (model X.prog X.w) X.A (spliced (backTo pos (starEach es X.env))) (AP X pins σ Q) X.xe s
def wS (st : Stmt) : TS := fun D σ H => ∀ pins s, Inv X pins σ H s → wpAny (model X.prog X.w) X.A (exec st X.env) (SP X pins D) X.xe s
def wSs (st : List Stmt) : TS := fun D σ H => ∀ pins s, Inv X pins σ H s → wpAny (model X.prog X.w) X.A (execs st X.env) (SP X pins D) X.xe s
end
section
variable {X : Cx} {e : Expr} {es : List Expr} {st : Stmt} {sts : List Stmt}
theorem pe_w : PE X e (wE X e) := ⟨fun pins s _ _ _ I h => h pins s I⟩
theorem pt_w : PT X e (wT X e) := ⟨fun pins s _ _ _ I h => h pins s I⟩
theorem pw_w : PW X e (wW X e) := ⟨fun wh pins s _ _ _ I h => h wh pins s I⟩
theorem pa_w : PA X es (wA X es) := ⟨fun pos pins s _ _ _ I h => h pos pins s I⟩
theorem ps_w : PS X st (wS X st) := ⟨fun pins s _ _ _ I h => h pins s I⟩
theorem pss_w : PSs X sts (wSs X sts) := ⟨fun pins s _ _ _ I h => h pins s I⟩
end
abbrev bs (X : Cx) (B : B0) : Bs := ⟨B, X.w, X.K⟩
def DE (B : B0) (X : Cx) (e : Expr) (δ : St') (Φ : PE1) : Prop := WE (bs X B) (wE X e) δ Φ
def DT (B : B0) (X : Cx) (e : Expr) (δ : St') (Φ : Bool → St' → Prop) : Prop := WT (bs X B) (wT X e) δ Φ
def DW (B : B0) (X : Cx) (e : Expr) (δ : St') (Φ : Bool → St' → Prop) : Prop := WT (bs X B) (wW X e) δ Φ
def DA (B : B0) (X : Cx) (es : List Expr) (δ : St') (Φ : List PyData → St' → Prop) : Prop := WA (bs X B) (wA X es) δ Φ
def DLs (B : B0) (X : Cx) (e : Expr) (δ : St') (Φ : List PyData → St' → Prop) : Prop := WL (bs X B) (wE X e) δ Φ
def DS (B : B0) (X : Cx) (st : Stmt) (δ : St') (N : St' → Prop) (R : PE1) : Prop := WS (bs X B) (wS X st) δ N R
def DSs (B : B0) (X : Cx) (sts : List Stmt) (δ : St') (N : St' → Prop) (R : PE1) : Prop := WS (bs X B) (wSs X sts) δ N R
section
variable {B : B0} {X : Cx} {e : Expr} {es : List Expr} {st : Stmt} {sts : List Stmt} {δ : St'} {Φ Ψ : PE1} {te : TE} {tt : TT} {ta : TA} {ts : TS}
theorem DE.of (p : PE X e te) (h : WE (bs X B) te δ Φ) : DE B X e δ Φ := fun σ F H r Q q pins s I => p.run pins s σ H Q I (h σ F H r Q q)
theorem DT.of {Φ : Bool → St' → Prop} (p : PT X e tt) (h : WT (bs X B) tt δ Φ) : DT B X e δ Φ := fun σ F H r Q q pins s I => p.run pins s σ H Q I (h σ F H r Q q)
theorem DW.of {Φ : Bool → St' → Prop} (p : PW X e tt) (h : WT (bs X B) tt δ Φ) : DW B X e δ Φ := fun σ F H r Q q wh pins s I => p.run wh pins s σ H Q I (h σ F H r Q q)
theorem DA.of {Φ : List PyData → St' → Prop} (p : PA X es ta) (h : WA (bs X B) ta δ Φ) : DA B X es δ Φ := fun σ F H r Q q pos pins s I => p.run pos pins s σ H Q I (h σ F H r Q q)
theorem DLs.of {Φ : List PyData → St' → Prop} (p : PE X e te) (h : WL (bs X B) te δ Φ) : DLs B X e δ Φ := fun σ F H r Q q pins s I => p.run pins s σ H Q I (h σ F H r Q q)
theorem DS.of {N : St' → Prop} (p : PS X st ts) (h : WS (bs X B) ts δ N Φ) : DS B X st δ N Φ := fun σ F H r D n q pins s I => p.run pins s σ H D I (h σ F H r D n q)
theorem DSs.of {N : St' → Prop} (p : PSs X sts ts) (h : WS (bs X B) ts δ N Φ) : DSs B X sts δ N Φ := fun σ F H r D n q pins s I => p.run pins s σ H D I (h σ F H r D n q)
theorem DE.mono (h : DE B X e δ Φ) (f : ∀ x δ', Φ x δ' → Ψ x δ') : DE B X e δ Ψ := WE.mono h f
theorem DT.mono {Φ Ψ : Bool → St' → Prop} (h : DT B X e δ Φ) (f : ∀ x δ', Φ x δ' → Ψ x δ') : DT B X e δ Ψ := WT.mono h f
end
section
variable {B : B0} {X : Cx} {a b c : Expr} {es : List Expr} {δ : St'} {Φ : PE1} {pos p2 p3 : Pos}
theorem de_int {i : Int} {k} (p : Φ (.int i) δ) : DE B X (.Constant (.int i) k pos) δ Φ := .of pe_int (we_int p)
theorem de_bl {i : Bool} {k} (p : Φ (.bool i) δ) : DE B X (.Constant (.bool i) k pos) δ Φ := .of pe_bl (we_bl p)
theorem de_str {i : Str} {k} (p : Φ (.str i) δ) : DE B X (.Constant (.str i) k pos) δ Φ := .of pe_str (we_str p)
theorem de_non {k} (p : Φ .none δ) : DE B X (.Constant .none k pos) δ Φ := .of pe_non (we_non p)
theorem de_nm (i : Nat) {x : Str} {d : PyData} (p : Φ d δ) (h : δ.s[i]? = some (some (.d d)) := by rfl) (hN : X.N[i]? = some x := by rfl)
    (hv : Vis X.env.scope x := by first | exact Or.inl rfl | exact Or.inr (Or.inl rfl) | exact Or.inr (Or.inr rfl)) (hd : (x == ("__debug__" : Str)) = false := by decide)
    (hcd : (x == ("__classdict__" : Str)) = false := by decide) : DE B X (.Name x pos) δ Φ := .of (pe_var hN hv hd hcd) (we_var h p)
/-- a constant of the module -/
theorem de_glob {x : Str} {v : V} {u : Value} {d : PyData} (hm : X.mg x = some u) (r : RelV v u) (hd' : ∀ F, Dq X.K F v d) (p : Φ d δ) (hg : Gl X x := by rfl) (hd : (x == ("__debug__" : Str)) = false := by decide) : DE B X (.Name x pos) δ Φ :=
  .of (pe_glob hg hm r hd) (we_c hd' p)
theorem de_bin {op : Operator} {r : R2} (ho : OpR X (binaryOp op) r) (h : DE B X a δ fun x δ1 => DE B X b δ1 fun y δ2 => RD (bs X B) r x y δ2 Φ) : DE B X (.BinOp a op b pos) δ Φ := .of (pe_op ho pe_w pe_w) (we_op h)
theorem de_cmp {op : CmpOp} {r : R2} (ho : OpR X (compareOp op) r) (h : DE B X a δ fun x δ1 => DE B X b δ1 fun y δ2 => RD (bs X B) r x y δ2 Φ) (hm : behindInMarks op b = false := by first | exact nomark _ | with_unfolding_all rfl) : DE B X (.Compare a [op] [b] pos) δ Φ := .of (pe_cmpR ho pe_w pe_w hm) (we_op h)
theorem de_ix {r : R2} (ho : IxR X r) (h : DE B X a δ fun x δ1 => DE B X b δ1 fun y δ2 => RD (bs X B) r x y δ2 Φ) (hs : PlainIx b := by exact fun _ _ => rfl) : DE B X (.Subscript a b pos) δ Φ := .of (pe_ix ho pe_w pe_w hs) (we_op h)
theorem da_nil {Φ : List PyData → St' → Prop} (p : Φ [] δ) : DA B X [] δ Φ := .of pa_nil (wa_nil p)
theorem da_cons {Φ : List PyData → St' → Prop} (h : DE B X a δ fun x δ1 => DA B X es δ1 fun xs δ2 => Φ (x :: xs) δ2) (hs : starEach (a :: es) X.env = (false, eval a X.env) :: starEach es X.env := by rfl) : DA B X (a :: es) δ Φ := .of (pa_cons pe_w pa_w hs) (wa_cons h)
theorem de_tup {k} (h : DA B X es δ fun xs δ1 => xs.length ≤ 100000 ∧ Φ (.tuple xs) δ1) : DE B X (.Tuple es k pos) δ Φ := .of (pe_tup pa_w) (we_tup h)
/-- a new list of told things -/
theorem wl_lst {ta : TA} {B : Bs} {Φ : List PyData → St' → Prop} (h : WA B ta δ fun xs δ1 => xs.length ≤ 100000 ∧ Φ xs δ1) : WL B (tLst ta) δ Φ := fun σ F H r Q q =>
  h σ F H r _ fun vs xs δ1 F1 H1 e1 r1 d1 ⟨hz, p1⟩ => ⟨Nat.le_trans (by rw [dpAll_len d1]; exact hz) (by decide), fun p hp => by
    have hF : F1 p = none := r1.ex.free hp
    have hB : B.H p = none := by
      cases e : B.H p with
      | none => rfl
      | some o =>
        by_cases z : B.p = some p
        · obtain ⟨_, _, _, _, _, h3, _⟩ := r1.pot p z
          rw [hp] at h3; cases h3
        · rw [r1.kp p o e z] at hp; cases hp
    refine q p vs xs δ1 F1 (upd H1 p (.lst vs)) e1 ⟨fun b u h => ?_, r1.f0, r1.fr, fun b u h1 h2 => ?_, fun a h => ?_, fun i c h => ?_, r1.len, r1.ap⟩ hB hF upd_same (fun i c h ho => ?_) d1 p1
    · have := r1.ex b u h
      rw [upd_ne (ne_of_none this hp)]; exact this
    · have := r1.kp b u h1 h2
      rw [upd_ne (ne_of_none this hp)]; exact this
    · obtain ⟨h1, h2, x, y, z, h3, h4⟩ := r1.pot a h
      exact ⟨h1, h2, x, y, z, by rw [upd_ne (ne_of_none h3 hp)]; exact h3, h4⟩
    · obtain ⟨v, hv, hc⟩ := r1.cell i c h
      refine ⟨v, hv, ?_⟩
      cases c with
      | d x => exact hc
      | own xs =>
        obtain ⟨a, vs, e, h1, h2, h3, h4⟩ := hc
        exact ⟨a, vs, e, h1, h2, by rw [upd_ne (ne_of_none h3 hp)]; exact h3, h4⟩
      | dct kvs =>
        obtain ⟨a, vs, e, h1, h2, h3, h4⟩ := hc
        exact ⟨a, vs, e, h1, h2, by rw [upd_ne (ne_of_none h3 hp)]; exact h3, h4⟩
      | gen pa mk kvs =>
        obtain ⟨a, vs, e, h1, h2, h3, h4, h5⟩ := hc
        exact ⟨a, vs, e, h1, h2, by rw [upd_ne (ne_of_none h3 hp)]; exact h3, h4, h5⟩
      | iset ns =>
        obtain ⟨a, e, h1, h2, h3⟩ := hc
        exact ⟨a, e, h1, h2, by rw [upd_ne (ne_of_none h3 hp)]; exact h3⟩
      | pot => exact hc
      | bor => exact hc
    · intro hs
      obtain ⟨v, hv, hc⟩ := r1.cell i c h
      rw [hv] at hs
      cases hs
      cases c with
      | d x => cases ho
      | pot => cases ho
      | bor => cases ho
      | own xs =>
        obtain ⟨a, vs, e, _, _, h3, _⟩ := hc
        cases e
        rw [hp] at h3; cases h3
      | dct kvs =>
        obtain ⟨a, vs, e, _, _, h3, _⟩ := hc
        cases e
        rw [hp] at h3; cases h3
      | gen pa mk kvs =>
        obtain ⟨a, vs, e, _, _, h3, _⟩ := hc
        cases e
        rw [hp] at h3; cases h3
      | iset ns =>
        obtain ⟨a, e, _, _, h3⟩ := hc
        cases e
        rw [hp] at h3; cases h3⟩
theorem dl_lst {Φ : List PyData → St' → Prop} (h : DA B X es δ fun xs δ1 => xs.length ≤ 100000 ∧ Φ xs δ1) : DLs B X (.List es pos) δ Φ := .of (pe_lst pa_w) (wl_lst h)
theorem de_dl (h : DLs B X a δ fun xs δ' => Φ (.list xs) δ') : DE B X a δ Φ := we_wl h
/-- tests -/
theorem dt_cmp {op : CmpOp} {r : R2} {Φ : Bool → St' → Prop} (ho : OpR X (compareOp op) r) (h : DE B X a δ fun x δ1 => DE B X b δ1 fun y δ2 => RD (bs X B) r x y δ2 fun z δ3 => ∃ b', z = .bool b' ∧ Φ b' δ3) (hm : behindInMarks op b = false := by first | exact nomark _ | with_unfolding_all rfl) : DT B X (.Compare a [op] [b] pos) δ Φ :=
  .of (pt_cmpR ho pe_w pe_w hm) (wt_test (we_op h))
theorem dt_val {Φ : Bool → St' → Prop} (h : DE B X a δ fun x δ1 => ∃ b', x = .bool b' ∧ Φ b' δ1) (he : ∀ whole, isTrue a X.env whole = (do let v ← whole; standAt a.pos; holding [v] (truthy v)) := by intro _; rfl) : DT B X a δ Φ := .of (pt_val pe_w he) (wt_B h)
theorem dt_pw {Φ : Bool → St' → Prop} (h : DW B X a δ Φ) : DT B X a δ Φ := .of (PW.pt pw_w) h
theorem dw_and1 {Φ : Bool → St' → Prop} (h : DT B X a δ Φ) : DW B X (.BoolOp .And [a] pos) δ Φ := .of (pw_and1 pt_w) h
theorem dw_or1 {Φ : Bool → St' → Prop} (h : DT B X a δ Φ) : DW B X (.BoolOp .Or [a] pos) δ Φ := .of (pw_or1 pt_w) h
theorem dw_and {Φ : Bool → St' → Prop} {rest : List Expr} (h : DT B X a δ fun k δ' => if k = true then DW B X (.BoolOp .And (b :: rest) pos) δ' Φ else Φ false δ') : DW B X (.BoolOp .And (a :: b :: rest) pos) δ Φ := .of (pw_and pt_w pw_w) (wt_and h)
theorem dw_or {Φ : Bool → St' → Prop} {rest : List Expr} (h : DT B X a δ fun k δ' => if k = true then Φ true δ' else DW B X (.BoolOp .Or (b :: rest) pos) δ' Φ) : DW B X (.BoolOp .Or (a :: b :: rest) pos) δ Φ := .of (pw_or pt_w pw_w) (wt_or h)
end
end DL
set_option maxHeartbeats 200000
set_option Elab.async false
set_option linter.all false
set_option maxRecDepth 100000
namespace DL
open PySem PySem.Spec PyProof.Rows L2
section
variable {B : B0} {X : Cx} {a b c : Expr} {es rest : List Expr} {δ : St'} {Φ : PE1} {pos p2 p3 : Pos}
theorem we_andV {B : Bs} {ta tb : TE} (h : WE B ta δ fun x δ' => ∃ k, x = .bool k ∧ if k = true then WE B tb δ' Φ else Φ (.bool false) δ') : WE B (tAndV ta tb) δ Φ := fun σ F H r Q q => h σ F H r _ fun v x δ' F' H' e r' d ⟨k, hk, p⟩ => by
  subst hk
  cases d
  refine ⟨k, rfl, ?_⟩
  cases k with
  | true => exact iteT ((show WE B tb δ' Φ from p) σ F' H' r' Q fun v x δ2 F2 H2 e2 r2 d2 p2 => q v x δ2 F2 H2 (e.trans e2) r2 d2 p2)
  | false => exact iteF (q (.bl false) _ δ' F' H' e r' (.bl _) p)
theorem we_orV {B : Bs} {ta tb : TE} (h : WE B ta δ fun x δ' => ∃ k, x = .bool k ∧ if k = true then Φ (.bool true) δ' else WE B tb δ' Φ) : WE B (tOrV ta tb) δ Φ := fun σ F H r Q q => h σ F H r _ fun v x δ' F' H' e r' d ⟨k, hk, p⟩ => by
  subst hk
  cases d
  refine ⟨k, rfl, ?_⟩
  cases k with
  | true => exact iteT (q (.bl true) _ δ' F' H' e r' (.bl _) p)
  | false => exact iteF ((show WE B tb δ' Φ from p) σ F' H' r' Q fun v x δ2 F2 H2 e2 r2 d2 p2 => q v x δ2 F2 H2 (e.trans e2) r2 d2 p2)
theorem de_one {op} (h : DE B X a δ Φ) : DE B X (.BoolOp op [a] pos) δ Φ := .of (pe_one pe_w) h
theorem de_and (h : DE B X a δ fun x δ' => ∃ k, x = .bool k ∧ if k = true then DE B X (.BoolOp .And (b :: rest) pos) δ' Φ else Φ (.bool false) δ') : DE B X (.BoolOp .And (a :: b :: rest) pos) δ Φ := .of (pe_and pe_w pe_w) (we_andV h)
theorem de_or (h : DE B X a δ fun x δ' => ∃ k, x = .bool k ∧ if k = true then Φ (.bool true) δ' else DE B X (.BoolOp .Or (b :: rest) pos) δ' Φ) : DE B X (.BoolOp .Or (a :: b :: rest) pos) δ Φ := .of (pe_or pe_w pe_w) (we_orV h)
theorem dt_not {Φ : Bool → St' → Prop} (h : DT B X a δ fun k δ' => Φ (!k) δ') : DT B X (.UnaryOp .Not a pos) δ Φ := .of (pt_not pt_w) (wt_not h)
theorem we_chain {B : Bs} {r r' : R2} {ta tb tc : TE} (h : WE B ta δ fun x δ1 => WE B tb δ1 fun y δ2 => RD B r x y δ2 fun z δ3 => ∃ k, z = .bool k ∧ if k = true then WE B tc δ3 fun u δ4 => RD B r' y u δ4 Φ else Φ (.bool false) δ3) : WE B (tChain r r' ta tb tc) δ Φ := fun σ F H rp Q q =>
  h σ F H rp _ fun v x δ1 F1 H1 e1 r1 d1 p1 => p1 σ F1 H1 r1 _ fun u y δ2 F2 H2 e2 r2 d2 p2 => p2 σ F2 H2 r2 v u (dp_mono e2 _ _ d1) d2 _ fun z z' δ3 F3 H3 e3 r3 d3 ⟨k, hk, p3⟩ => by
    subst hk
    cases d3
    refine ⟨k, rfl, ?_⟩
    cases k with
    | true => exact iteT ((show WE B tc δ3 _ from p3) σ F3 H3 r3 _ fun w' u' δ4 F4 H4 e4 r4 d4 p4 => p4 σ F4 H4 r4 u w' (dp_mono (e3.trans e4) _ _ d2) d4 Q fun v' x' δ' F' H' e' r' d' p' => q v' x' δ' F' H' ((((e1.trans e2).trans e3).trans e4).trans e') r' d' p')
    | false => exact iteF (q _ _ δ3 F3 H3 ((e1.trans e2).trans e3) r3 (.bl _) p3)
theorem de_chain {op op' : CmpOp} {r r' : R2} (ho : OpR X (compareOp op) r) (ho' : OpR X (compareOp op') r')
    (h : DE B X a δ fun x δ1 => DE B X b δ1 fun y δ2 => RD (bs X B) r x y δ2 fun z δ3 => ∃ k, z = .bool k ∧ if k = true then DE B X c δ3 fun u δ4 => RD (bs X B) r' y u δ4 Φ else Φ (.bool false) δ3)
    (hm : lastMarks [op, op'] [b, c] = false := by with_unfolding_all rfl) : DE B X (.Compare a [op, op'] [b, c] pos) δ Φ := .of (pe_chain ho ho' pe_w pe_w pe_w hm) (we_chain h)
theorem dt_chain {op op' : CmpOp} {r r' : R2} {Φ : Bool → St' → Prop} (ho : OpR X (compareOp op) r) (ho' : OpR X (compareOp op') r')
    (h : DE B X a δ fun x δ1 => DE B X b δ1 fun y δ2 => RD (bs X B) r x y δ2 fun z δ3 => ∃ k, z = .bool k ∧ if k = true then DE B X c δ3 fun u δ4 => RD (bs X B) r' y u δ4 fun z' δ5 => ∃ k', z' = .bool k' ∧ Φ k' δ5 else Φ false δ3)
    (hm : lastMarks [op, op'] [b, c] = false := by with_unfolding_all rfl) : DT B X (.Compare a [op, op'] [b, c] pos) δ Φ := .of (pt_chain ho ho' pe_w pe_w pe_w hm) (wt_test (we_chain (WE.mono h fun x δ1 h1 => WE.mono h1 fun y δ2 h2 σ F H r v u d1 d2 Q q => h2 σ F H r v u d1 d2 Q fun v x δ' F' H' e r' d ⟨k, hk, p⟩ => q v x δ' F' H' e r' d ⟨k, hk, by
      cases k with
      | true => exact iteT (show WE _ _ _ _ from p)
      | false => exact iteF ⟨false, rfl, p⟩⟩)))
end
section
variable {B : Bs} {δ : St'} {Φ : PE1}
/-- what needs no heap and tells an atom -/
theorem rd_pure {r : R2} {x y z : PyData} {w : V} (hz : ∀ F, Dq B.K F w z) (h : ∀ F H v u, Same F H → Dq B.K F v x → Dq B.K F u y → ∀ Q : VK, Q w H → r v u H Q) (p : Φ z δ) : RD B r x y δ Φ := fun σ F H rp v u d1 d2 Q q =>
  h F H v u rp.ex d1 d2 Q (q w z δ F H (Same.refl F) rp (hz F) p)
theorem rd_item {r : R2} {x y z : PyData} (h : ∀ F H v u, Same F H → Dq B.K F v x → Dq B.K F u y → ∃ w, Dq B.K F w z ∧ ∀ Q : VK, Q w H → r v u H Q) (p : Φ z δ) : RD B r x y δ Φ := fun σ F H rp v u d1 d2 Q q => by
  obtain ⟨w, hw, hq⟩ := h F H v u rp.ex d1 d2
  exact hq Q (q w z δ F H (Same.refl F) rp hw p)
theorem ru_pure {r : V → Hp → VK → Prop} {x z : PyData} {w : V} (hz : ∀ F, Dq B.K F w z) (h : ∀ F H v, Same F H → Dq B.K F v x → ∀ Q : VK, Q w H → r v H Q) (p : Φ z δ) : RU B r x δ Φ := fun σ F H rp v d1 Q q =>
  h F H v rp.ex d1 Q (q w z δ F H (Same.refl F) rp (hz F) p)
theorem rc_pure {r : List V → Hp → VK → Prop} {xs : List PyData} {z : PyData} {w : V} (hz : ∀ F, Dq B.K F w z) (h : ∀ F H vs, Same F H → DqAll B.K F vs xs → ∀ Q : VK, Q w H → r vs H Q) (p : Φ z δ) : RC B r xs δ Φ := fun σ F H rp vs d1 Q q =>
  h F H vs rp.ex d1 Q (q w z δ F H (Same.refl F) rp (hz F) p)
theorem rd_I0 {g : Int → Int → Int} {i j : Int} (p : Φ (.int (g i j)) δ) : RD B (rI0 fun i j => .int (g i j)) (.int i) (.int j) δ Φ :=
  rd_pure (w := .int (g i j)) (fun _ => .int _) (fun F H v u e d1 d2 Q q => by cases d1; cases d2; exact ⟨i, j, rfl, rfl, q⟩) p
theorem rd_B0 {g : Int → Int → Bool} {i j : Int} (p : Φ (.bool (g i j)) δ) : RD B (rI0 fun i j => .bl (g i j)) (.int i) (.int j) δ Φ :=
  rd_pure (w := .bl (g i j)) (fun _ => .bl _) (fun F H v u e d1 d2 Q q => by cases d1; cases d2; exact ⟨i, j, rfl, rfl, q⟩) p
theorem rd_I {C : Int → Int → Prop} {g : Int → Int → Int} {i j : Int} (hc : C i j) (p : Φ (.int (g i j)) δ) : RD B (rI C fun i j => .int (g i j)) (.int i) (.int j) δ Φ :=
  rd_pure (w := .int (g i j)) (fun _ => .int _) (fun F H v u e d1 d2 Q q => by cases d1; cases d2; exact ⟨i, j, rfl, rfl, hc, q⟩) p
theorem rd_eqA {x y : PyData} (hx : atom x = true) (hy : atom y = true) (hs : scal (toV x) (toV y) = true) (p : Φ (.bool (decide (toV x = toV y))) δ) : RD B rEq x y δ Φ :=
  rd_pure (w := .bl (decide (toV x = toV y))) (fun _ => .bl _) (fun F H v u e d1 d2 Q q => by rw [atom_v d1 hx, atom_v d2 hy]; exact ⟨hs, q⟩) p
theorem rd_neA {x y : PyData} (hx : atom x = true) (hy : atom y = true) (hs : scal (toV x) (toV y) = true) (p : Φ (.bool (!decide (toV x = toV y))) δ) : RD B rNe x y δ Φ :=
  rd_pure (w := .bl (!decide (toV x = toV y))) (fun _ => .bl _) (fun F H v u e d1 d2 Q q => by rw [atom_v d1 hx, atom_v d2 hy]; exact ⟨hs, q⟩) p
theorem rd_eqS {x y : Str} (p : Φ (.bool (decide (x = y))) δ) : RD B rEq (.str x) (.str y) δ Φ := rd_eqA rfl rfl rfl (by
  have e : decide (toV (.str x) = toV (.str y)) = decide (x = y) := by
    by_cases h : x = y
    · subst h; simp
    · have : ¬ (toV (.str x) = toV (.str y)) := fun z => h (V.str.inj z)
      rw [decide_eq_false h, decide_eq_false this]
  rw [e]; exact p)
theorem rd_neS {x y : Str} (p : Φ (.bool (!decide (x = y))) δ) : RD B rNe (.str x) (.str y) δ Φ := rd_neA rfl rfl rfl (by
  have e : decide (toV (.str x) = toV (.str y)) = decide (x = y) := by
    by_cases h : x = y
    · subst h; simp
    · have : ¬ (toV (.str x) = toV (.str y)) := fun z => h (V.str.inj z)
      rw [decide_eq_false h, decide_eq_false this]
  rw [e]; exact p)
theorem rd_eqI {x y : Int} (p : Φ (.bool (decide (x = y))) δ) : RD B rEq (.int x) (.int y) δ Φ := rd_eqA rfl rfl rfl (by
  have e : decide (toV (.int x) = toV (.int y)) = decide (x = y) := by
    by_cases h : x = y
    · subst h; simp
    · have : ¬ (toV (.int x) = toV (.int y)) := fun z => h (V.int.inj z)
      rw [decide_eq_false h, decide_eq_false this]
  rw [e]; exact p)
theorem rd_neI {x y : Int} (p : Φ (.bool (!decide (x = y))) δ) : RD B rNe (.int x) (.int y) δ Φ := rd_neA rfl rfl rfl (by
  have e : decide (toV (.int x) = toV (.int y)) = decide (x = y) := by
    by_cases h : x = y
    · subst h; simp
    · have : ¬ (toV (.int x) = toV (.int y)) := fun z => h (V.int.inj z)
      rw [decide_eq_false h, decide_eq_false this]
  rw [e]; exact p)
mutual
theorem noH_lay : ∀ d : PyData, d.canLay0 = true → noH d = true
  | .none, _ => rfl
  | .bool _, _ => rfl
  | .int _, _ => rfl
  | .str _, _ => rfl
  | .list ds, h => noHs_lay ds h
  | .tuple ds, h => noHs_lay ds h
  | .dict _, h => by cases h
theorem noHs_lay : ∀ ds : List PyData, PyData.canLayAll0 ds = true → noHs ds = true
  | [], _ => rfl
  | d :: ds, h => by
    have h' : (d.canLay0 && PyData.canLayAll0 ds) = true := h
    rw [Bool.and_eq_true] at h'
    show (noH d && noHs ds) = true
    rw [noH_lay d h'.1, noHs_lay ds h'.2]
    rfl
end
theorem noH_shaped {d : PyData} (h : SeqAt.shaped d = true) : noH d = true := noH_lay d (SeqAt.canLay_of_shaped h)
theorem rd_eqD {x y : PyData} (hx : SeqAt.shaped x = true) (hy : SeqAt.shaped y = true) (p : Φ (.bool (PyData.eqv x y)) δ) : RD B (rEqD B.K) x y δ Φ :=
  rd_pure (w := .bl (PyData.eqv x y)) (fun _ => .bl _) (fun F H v u e d1 d2 Q q => ⟨x, y, dq_dp _ _ (noH_shaped hx) (dp_mono e _ _ d1), dq_dp _ _ (noH_shaped hy) (dp_mono e _ _ d2), hx, hy, q⟩) p
theorem rd_neD {x y : PyData} (hx : SeqAt.shaped x = true) (hy : SeqAt.shaped y = true) (p : Φ (.bool (!PyData.eqv x y)) δ) : RD B (rNeD B.K) x y δ Φ :=
  rd_pure (w := .bl (!PyData.eqv x y)) (fun _ => .bl _) (fun F H v u e d1 d2 Q q => ⟨x, y, dq_dp _ _ (noH_shaped hx) (dp_mono e _ _ d1), dq_dp _ _ (noH_shaped hy) (dp_mono e _ _ d2), hx, hy, q⟩) p
def isNone : PyData → Bool | .none => true | _ => false
theorem isN_iff {K : PySem.W.Frag} {H : Hp} {v : V} {d : PyData} (h : Dq K H v d) : decide (v = V.non) = isNone d := by
  cases h <;> first | rfl | exact decide_eq_false (fun z => by cases z)
theorem rd_notN {x : PyData} (p : Φ (.bool (!isNone x)) δ) : RD B (fun x y H Q => y = .non ∧ Q (.bl (!decide (x = .non))) H) x .none δ Φ :=
  rd_pure (w := .bl (!isNone x)) (fun _ => .bl _) (fun F H v u e d1 d2 Q q => by cases d2; refine ⟨rfl, ?_⟩; rw [isN_iff d1]; exact q) p
/-- items -/
theorem atI_map {K : PySem.W.Frag} {F : Hp} {vs : List V} {ds : List PyData} {i : Int} {d : PyData} (h : DqAll K F vs ds) (e : atI ds i = some d) : ∃ v, atI vs i = some v ∧ Dq K F v d := by
  unfold atI at e ⊢
  rw [dpAll_len h]
  cases hx : ixN ds.length i with
  | none => rw [hx] at e; cases e
  | some j =>
    rw [hx] at e
    exact dpAll_get h e
theorem rd_ixT {xs : List PyData} {i : Int} {z : PyData} (h : atI xs i = some z) (p : Φ z δ) : RD B (rIxT B.K) (.tuple xs) (.int i) δ Φ := rd_item (fun F H v u e d1 d2 => by
  cases d1 with
  | tup hs ha =>
    cases d2
    obtain ⟨w, hw, dw⟩ := atI_map ha h
    exact ⟨w, dw, fun Q q => ⟨_, _, i, w, rfl, rfl, seqT e hs, hw, q⟩⟩) p
theorem rd_ixL {xs : List PyData} {i : Int} {z : PyData} (h : atI xs i = some z) (p : Φ z δ) : RD B (rIxL B.K) (.list xs) (.int i) δ Φ := rd_item (fun F H v u e d1 d2 => by
  cases d1 with
  | lst hs ha =>
    cases d2
    obtain ⟨w, hw, dw⟩ := atI_map ha h
    exact ⟨w, dw, fun Q q => ⟨_, _, i, w, rfl, rfl, e.seq hs, hw, q⟩⟩) p
theorem rd_ixS {s : Str} {i : Int} {c : Nat} (hz : s.length ≤ 100000) (h : atI s.cps.toList i = some c) (p : Φ (.str ⟨#[c]⟩) δ) : RD B rIxS (.str s) (.int i) δ Φ :=
  rd_pure (w := .str ⟨#[c]⟩) (fun _ => .str _) (fun F H v u e d1 d2 Q q => by cases d1; cases d2; exact ⟨s, i, c, rfl, rfl, Nat.le_trans hz (by decide), h, q⟩) p
theorem eqD_dec (neg : Bool) {K : PySem.W.Frag} {F : Hp} {v : V} {x : PyData} {vs : List V} {ys : List PyData} (h : Dq K F v x) (ha : atom x = true) (hs : DqAll K F vs ys) (hb : ys.all atom = true) :
    (if neg then !inV v vs else inV v vs) = (if neg then !inV (toV x) (ys.map toV) else inV (toV x) (ys.map toV)) := by
  rw [atom_v h ha, atoms_v hs hb]
theorem flat_toV (x : PyData) : flatV (toV x) = true := by cases x <;> rfl
theorem rd_inL {neg : Bool} {x : PyData} {ys : List PyData} (ha : atom x = true) (hb : ys.all atom = true) (p : Φ (.bool (if neg then !inV (toV x) (ys.map toV) else inV (toV x) (ys.map toV))) δ) : RD B (rIn B.K neg) x (.list ys) δ Φ :=
  rd_pure (w := .bl (if neg then !inV (toV x) (ys.map toV) else inV (toV x) (ys.map toV))) (fun _ => .bl _) (fun F H v u e d1 d2 Q q => by
    cases d2 with
    | lst hs hal =>
      refine ⟨_, _, rfl, .inl (e.seq hs), ?_, ?_, ?_⟩
      · rw [atom_v d1 ha]; exact flat_toV x
      · rw [atoms_v hal hb]; simp [flat_toV]
      · rw [eqD_dec neg d1 ha hal hb]; exact q) p
/-- texts -/
theorem rd_addS {x y : Str} (hz : x.length + y.length ≤ 100000) (p : Φ (.str (x ++ y)) δ) : RD B (fun x y H Q => ∃ i j, x = .str i ∧ y = .str j ∧ i.length + j.length ≤ sizeLine ∧ Q (.str (i ++ j)) H) (.str x) (.str y) δ Φ :=
  rd_pure (w := .str (x ++ y)) (fun _ => .str _) (fun F H v u e d1 d2 Q q => by cases d1; cases d2; exact ⟨x, y, rfl, rfl, Nat.le_trans hz (by decide), q⟩) p
end
section
variable {B : Bs} {δ : St'} {Φ : PE1}
theorem rc_lenT {K} (hK : K = B.K) {xs : List PyData} (p : Φ (.int xs.length) δ) : RC B (fun xs H Q => ∃ x n, xs = [x] ∧ LenV K x H n ∧ Q (.int n) H) [.tuple xs] δ Φ := rc_pure (w := .int xs.length) (fun _ => .int _) (fun F H vs e d1 Q q => by
  subst hK
  cases d1 with
  | cons h1 h2 =>
    cases h2
    cases h1 with
    | tup hs ha =>
      refine ⟨_, xs.length, rfl, ?_, q⟩
      unfold LenV
      refine .inr ⟨_, seqT e hs, ?_⟩
      rw [dpAll_len ha]) p
theorem rc_lenL {K} (hK : K = B.K) {xs : List PyData} (p : Φ (.int xs.length) δ) : RC B (fun xs H Q => ∃ x n, xs = [x] ∧ LenV K x H n ∧ Q (.int n) H) [.list xs] δ Φ := rc_pure (w := .int xs.length) (fun _ => .int _) (fun F H vs e d1 Q q => by
  subst hK
  cases d1 with
  | cons h1 h2 =>
    cases h2
    cases h1 with
    | lst hs ha =>
      refine ⟨_, xs.length, rfl, ?_, q⟩
      unfold LenV
      refine .inl ⟨_, e.seq hs, ?_⟩
      rw [dpAll_len ha]) p
theorem rc_lenS {K} (hK : K = B.K) {x : Str} (hz : x.length ≤ 100000) (p : Φ (.int x.length) δ) : RC B (fun xs H Q => ∃ x n, xs = [x] ∧ LenV K x H n ∧ Q (.int n) H) [.str x] δ Φ := rc_pure (w := .int x.length) (fun _ => .int _) (fun F H vs e d1 Q q => by
  subst hK
  cases d1 with
  | cons h1 h2 =>
    cases h2
    cases h1
    refine ⟨_, x.length, rfl, ?_, q⟩
    unfold LenV
    exact ⟨Nat.le_trans hz (by decide), rfl⟩) p
end
section
variable {B : B0} {X : Cx} {a b c : Expr} {es rest : List Expr} {δ : St'} {Φ : PE1} {pos p p2 p3 : Pos}
theorem de_callB {x : Str} {id : String} {r : List V → Hp → VK → Prop} (hc : CallR X (.builtin id) r) (hm : X.mg x = none) (hv : bootBuiltins x = some (.builtin id)) (h : DA B X (a :: es) δ fun xs δ' => RC (bs X B) r xs δ' Φ)
    (hg : Gl X x := by rfl) (hn : x ≠ "__name__" := by decide) (hdb : (x == ("__debug__" : Str)) = false := by decide)
    (he : starEach (a :: es) X.env = (false, eval a X.env) :: starEach es X.env := by rfl) (hpl : (backTo pos (starEach es X.env)).any (·.1) = false := by rfl) : DE B X (.Call (.Name x p) (a :: es) [] pos) δ Φ := .of (pe_callB hc hg hm hv pa_w hn hdb he hpl) (we_cb h)
theorem de_callTy {x : Str} {id : String} {r : List V → Hp → VK → Prop} (hc : CallR X (.type id) r) (hm : X.mg x = none) (hv : bootBuiltins x = some (.type id)) (h : DA B X (a :: es) δ fun xs δ' => RC (bs X B) r xs δ' Φ)
    (hg : Gl X x := by rfl) (hn : x ≠ "__name__" := by decide) (hdb : (x == ("__debug__" : Str)) = false := by decide)
    (he : starEach (a :: es) X.env = (false, eval a X.env) :: starEach es X.env := by rfl) (hpl : (backTo pos (starEach es X.env)).any (·.1) = false := by rfl) : DE B X (.Call (.Name x p) (a :: es) [] pos) δ Φ := .of (pe_callTy hc hg hm hv pa_w hn hdb he hpl) (we_cb h)
theorem dl_callTy {x : Str} {id : String} {r : List V → Hp → VK → Prop} {Φ : List PyData → St' → Prop} (hc : CallR X (.type id) r) (hm : X.mg x = none) (hv : bootBuiltins x = some (.type id)) (h : WL (bs X B) (tCB r (wA X (a :: es))) δ Φ)
    (hg : Gl X x := by rfl) (hn : x ≠ "__name__" := by decide) (hdb : (x == ("__debug__" : Str)) = false := by decide)
    (he : starEach (a :: es) X.env = (false, eval a X.env) :: starEach es X.env := by rfl) (hpl : (backTo pos (starEach es X.env)).any (·.1) = false := by rfl) : DLs B X (.Call (.Name x p) (a :: es) [] pos) δ Φ := .of (pe_callTy hc hg hm hv pa_w hn hdb he hpl) h
theorem dl_callB {x : Str} {id : String} {r : List V → Hp → VK → Prop} {Φ : List PyData → St' → Prop} (hc : CallR X (.builtin id) r) (hm : X.mg x = none) (hv : bootBuiltins x = some (.builtin id)) (h : WL (bs X B) (tCB r (wA X (a :: es))) δ Φ)
    (hg : Gl X x := by rfl) (hn : x ≠ "__name__" := by decide) (hdb : (x == ("__debug__" : Str)) = false := by decide)
    (he : starEach (a :: es) X.env = (false, eval a X.env) :: starEach es X.env := by rfl) (hpl : (backTo pos (starEach es X.env)).any (·.1) = false := by rfl) : DLs B X (.Call (.Name x p) (a :: es) [] pos) δ Φ := .of (pe_callB hc hg hm hv pa_w hn hdb he hpl) h
end
end DL
set_option maxHeartbeats 200000
set_option Elab.async false
set_option linter.all false
set_option maxRecDepth 100000
namespace DL
open PySem PySem.Spec PyProof.Rows L2
def St'.put (δ : St') (i : Nat) (c : C) : St' := ⟨δ.n, δ.s.set i (some c)⟩
theorem put_get {δ : St'} {i j : Nat} {c c' : C} (h : (δ.put i c).s[j]? = some (some c')) : (j = i ∧ c' = c ∧ i < δ.s.length) ∨ (j ≠ i ∧ δ.s[j]? = some (some c')) := by
  have h' : (δ.s.set i (some c))[j]? = some (some c') := h
  rw [List.getElem?_set] at h'
  by_cases e : i = j
  · subst e
    rw [if_pos rfl] at h'
    by_cases hl : i < δ.s.length
    · rw [if_pos hl] at h'
      injection h' with h'
      injection h' with h'
      exact .inl ⟨rfl, h'.symm, hl⟩
    · rw [if_neg hl] at h'; cases h'
  · rw [if_neg e] at h'
    exact .inr ⟨fun z => e z.symm, h'⟩
section
variable {B : Bs} {δ δ' : St'} {σ : List (Option V)} {F F' H H' : Hp}
theorem Rep.putD (r : Rep B δ σ F H) (i : Nat) {v : V} {x : PyData} (h : Dq B.K F v x) : Rep B (δ.put i (.d x)) (σ.set i (some v)) F H := by
  refine ⟨r.ex, r.f0, r.fr, r.kp, r.pot, fun j c e => ?_, by simp [St'.put, r.len], fun j k c c' hjk e1 e2 o1 o2 => ?_⟩
  · rcases put_get e with ⟨rfl, rfl, hl⟩ | ⟨hne, e⟩
    · exact ⟨v, by rw [List.getElem?_set, if_pos rfl, if_pos (by rw [r.len]; exact hl)], h⟩
    · obtain ⟨u, hu, hc⟩ := r.cell j c e
      exact ⟨u, by rw [List.getElem?_set_ne (fun z => hne z.symm)]; exact hu, hc⟩
  · rcases put_get e1 with ⟨rfl, rfl, _⟩ | ⟨n1, e1⟩
    · cases o1
    · rcases put_get e2 with ⟨rfl, rfl, _⟩ | ⟨n2, e2⟩
      · cases o2
      · rw [List.getElem?_set_ne (fun z => n1 z.symm), List.getElem?_set_ne (fun z => n2 z.symm)]
        exact r.ap j k c c' hjk e1 e2 o1 o2
/-- an own thing goes to a slot -/
theorem Rep.putO (r : Rep B δ σ F H) (i : Nat) {a : Addr} {c : C} (hap : ∀ (j : Nat) (c : C), δ.s[j]? = some (some c) → own? c = true → σ[j]? ≠ some (some (.ref a))) (hc : CellOk B F H c (.ref a)) : Rep B (δ.put i c) (σ.set i (some (.ref a))) F H := by
  refine ⟨r.ex, r.f0, r.fr, r.kp, r.pot, fun j c e => ?_, by simp [St'.put, r.len], fun j k c c' hjk e1 e2 o1 o2 => ?_⟩
  · rcases put_get e with ⟨rfl, rfl, hl⟩ | ⟨hne, e⟩
    · exact ⟨_, by rw [List.getElem?_set, if_pos rfl, if_pos (by rw [r.len]; exact hl)], hc⟩
    · obtain ⟨u, hu, hc⟩ := r.cell j c e
      exact ⟨u, by rw [List.getElem?_set_ne (fun z => hne z.symm)]; exact hu, hc⟩
  · rcases put_get e1 with ⟨rfl, rfl, l1⟩ | ⟨n1, e1⟩
    · rcases put_get e2 with ⟨rfl, rfl, _⟩ | ⟨n2, e2⟩
      · exact absurd rfl hjk
      · rw [List.getElem?_set, if_pos rfl, if_pos (by rw [r.len]; exact l1), List.getElem?_set_ne (fun z => n2 z.symm)]
        exact fun z => hap k c' e2 o2 z.symm
    · rcases put_get e2 with ⟨rfl, rfl, l2⟩ | ⟨n2, e2⟩
      · rw [List.getElem?_set, if_neg (fun z => n1 z.symm), List.getElem?_set, if_pos rfl, if_pos (by rw [r.len]; exact l2)]
        exact hap j c (by assumption) o1
      · rw [List.getElem?_set_ne (fun z => n1 z.symm), List.getElem?_set_ne (fun z => n2 z.symm)]
        exact r.ap j k c c' hjk e1 e2 o1 o2
/-- an own thing is changed where it stands -/
theorem Rep.write (r : Rep B δ σ F H) {i : Nat} {a : Addr} {c c2 : C} {o : HO} (hi : δ.s[i]? = some (some c)) (ho : own? c = true) (hσ : σ[i]? = some (some (.ref a))) (hB : B.H a = none) (hF : F a = none) (ho2 : own? c2 = true)
    (hc : CellOk B F (upd H a o) c2 (.ref a)) : Rep B (δ.put i c2) σ F (upd H a o) := by
  have nB : ∀ {b : Addr} {u : HO}, B.H b = some u → b ≠ a := fun h z => by rw [z, hB] at h; cases h
  refine ⟨fun b u h => ?_, r.f0, r.fr, fun b u h1 h2 => ?_, fun p h => ?_, fun j c' e => ?_, by simp [St'.put, r.len], fun j k c c' hjk e1 e2 o1 o2 => ?_⟩
  · have hb : b ≠ a := fun z => by rw [z, hF] at h; cases h
    rw [upd_ne hb]; exact r.ex b u h
  · rw [upd_ne (nB h1)]; exact r.kp b u h1 h2
  · obtain ⟨h1, h2, x, y, z, h3, h4⟩ := r.pot p h
    have hb : p ≠ a := fun q => h2 (q ▸ hB)
    exact ⟨h1, h2, x, y, z, by rw [upd_ne hb]; exact h3, h4⟩
  · rcases put_get e with ⟨rfl, rfl, hl⟩ | ⟨hne, e⟩
    · exact ⟨_, hσ, hc⟩
    · obtain ⟨u, hu, hc'⟩ := r.cell j c' e
      refine ⟨u, hu, ?_⟩
      have hna : own? c' = true → ∀ b, u = .ref b → b ≠ a := fun oc b hb q => r.ap j i c' c hne e hi oc ho (by rw [hu, hσ, hb, q])
      cases c' with
      | d x => exact hc'
      | own xs =>
        obtain ⟨b, vs, e1, h1, h2, h3, h4⟩ := hc'
        exact ⟨b, vs, e1, h1, h2, by rw [upd_ne (hna rfl b e1)]; exact h3, h4⟩
      | dct kvs =>
        obtain ⟨b, vs, e1, h1, h2, h3, h4⟩ := hc'
        exact ⟨b, vs, e1, h1, h2, by rw [upd_ne (hna rfl b e1)]; exact h3, h4⟩
      | gen pa mk kvs =>
        obtain ⟨b, vs, e1, h1, h2, h3, h4, h5⟩ := hc'
        exact ⟨b, vs, e1, h1, h2, by rw [upd_ne (hna rfl b e1)]; exact h3, h4, h5⟩
      | iset ns =>
        obtain ⟨b, e1, h1, h2, h3⟩ := hc'
        exact ⟨b, e1, h1, h2, by rw [upd_ne (hna rfl b e1)]; exact h3⟩
      | pot => exact hc'
      | bor => exact hc'
  · have g1 : ∃ d, δ.s[j]? = some (some d) ∧ own? d = true := by
      rcases put_get e1 with ⟨rfl, rfl, _⟩ | ⟨_, e⟩
      · exact ⟨_, hi, ho⟩
      · exact ⟨_, e, o1⟩
    have g2 : ∃ d, δ.s[k]? = some (some d) ∧ own? d = true := by
      rcases put_get e2 with ⟨rfl, rfl, _⟩ | ⟨_, e⟩
      · exact ⟨_, hi, ho⟩
      · exact ⟨_, e, o2⟩
    obtain ⟨d1, q1, w1⟩ := g1
    obtain ⟨d2, q2, w2⟩ := g2
    exact r.ap j k d1 d2 hjk q1 q2 w1 w2
/-- an own list is told as data from here on -/
theorem Rep.freeze (r : Rep B δ σ F H) {i : Nat} {xs : List PyData} (hi : δ.s[i]? = some (some (.own xs))) : ∃ a vs, σ[i]? = some (some (.ref a)) ∧ F a = none ∧ B.H a = none ∧ H a = some (.lst vs) ∧ DqAll B.K F vs xs ∧
    Rep B (δ.put i (.d (.list xs))) σ (upd F a (.lst vs)) H := by
  obtain ⟨u, hu, a, vs, rfl, hB, hF, hH, hd⟩ := r.cell i _ hi
  have e2 : Same F (upd F a (.lst vs)) := same_upd hF
  refine ⟨a, vs, hu, hF, hB, hH, hd, fun b u h => ?_, r.f0.trans e2, fun b h1 h2 => ?_, r.kp, r.pot, fun j c h => ?_, by simp [St'.put, r.len], fun j k c c' hjk q1 q2 o1 o2 => ?_⟩
  · by_cases hb : b = a
    · subst hb; rw [upd_same] at h; cases h; exact hH
    · rw [upd_ne hb] at h; exact r.ex b u h
  · have hb : b ≠ a := fun z => h2 (z ▸ hB)
    rw [upd_ne hb]; exact r.fr b h1 h2
  · rcases put_get h with ⟨rfl, rfl, hl⟩ | ⟨hne, h⟩
    · exact ⟨_, hu, .lst (.inl (.inl upd_same)) (dpAll_mono e2 _ _ hd)⟩
    · obtain ⟨v, hv, hc⟩ := r.cell j c h
      refine ⟨v, hv, ?_⟩
      have hna : own? c = true → ∀ b, v = .ref b → b ≠ a := fun oc b hb q => r.ap j i c _ hne h hi oc rfl (by rw [hv, hu, hb, q])
      cases c with
      | d x => exact dp_mono e2 _ _ hc
      | own ys =>
        obtain ⟨a', vs', e', h1, h2, h3, h4⟩ := hc
        exact ⟨a', vs', e', h1, by rw [upd_ne (hna rfl a' e')]; exact h2, h3, dpAll_mono e2 _ _ h4⟩
      | dct kvs =>
        obtain ⟨a', vs', e', h1, h2, h3, h4⟩ := hc
        exact ⟨a', vs', e', h1, by rw [upd_ne (hna rfl a' e')]; exact h2, h3, dpAll_mono e2 _ _ h4⟩
      | gen pa mk kvs =>
        obtain ⟨a', vs', e', h1, h2, h3, h4, h5⟩ := hc
        exact ⟨a', vs', e', h1, by rw [upd_ne (hna rfl a' e')]; exact h2, h3, h4, dpAll_mono e2 _ _ h5⟩
      | iset ns =>
        obtain ⟨a', e', h1, h2, h3⟩ := hc
        exact ⟨a', e', h1, by rw [upd_ne (hna rfl a' e')]; exact h2, h3⟩
      | pot => exact hc
      | bor => exact hc
  · rcases put_get q1 with ⟨rfl, rfl, _⟩ | ⟨_, q1⟩
    · cases o1
    · rcases put_get q2 with ⟨rfl, rfl, _⟩ | ⟨_, q2⟩
      · cases o2
      · exact r.ap j k c c' hjk q1 q2 o1 o2
/-- no own list but at i -/
def onlyOwn (i : Nat) : List (Option C) → Nat → Bool
  | [], _ => true
  | some (.own _) :: r, j => j == i && onlyOwn i r (j + 1)
  | some (.dct _) :: r, j => false && onlyOwn i r (j + 1)
  | some (.gen _ _ _) :: r, j => false && onlyOwn i r (j + 1)
  | _ :: r, j => onlyOwn i r (j + 1)
theorem onlyOwn_get {i : Nat} : ∀ (l : List (Option C)) (j k : Nat) (ys : List PyData), onlyOwn i l j = true → l[k]? = some (some (.own ys)) → j + k = i
  | [], j, k, ys, _, h => by simp at h
  | c :: r, j, 0, ys, ho, h => by
    simp at h
    subst h
    simp [onlyOwn] at ho
    omega
  | c :: r, j, k + 1, ys, ho, h => by
    have h' : r[k]? = some (some (.own ys)) := by simpa using h
    have ho' : onlyOwn i r (j + 1) = true := by
      rcases c with _ | c
      · exact ho
      · cases c <;> first | exact ho | (simp [onlyOwn] at ho; done) | (simp [onlyOwn] at ho; exact ho.2)
    have := onlyOwn_get r (j + 1) k ys ho' h'
    omega
theorem onlyOwn_dct {i : Nat} : ∀ (l : List (Option C)) (j k : Nat) (kvs : List (L2.Key × PyData)), onlyOwn i l j = true → l[k]? = some (some (.dct kvs)) → False
  | [], j, k, kvs, _, h => by simp at h
  | c :: r, j, 0, kvs, ho, h => by
    simp at h
    subst h
    simp [onlyOwn] at ho
  | c :: r, j, k + 1, kvs, ho, h => by
    have h' : r[k]? = some (some (.dct kvs)) := by simpa using h
    have ho' : onlyOwn i r (j + 1) = true := by
      rcases c with _ | c
      · exact ho
      · cases c <;> first | exact ho | (simp [onlyOwn] at ho; done) | (simp [onlyOwn] at ho; exact ho.2)
    exact onlyOwn_dct r (j + 1) k kvs ho' h'
theorem onlyOwn_gen {i : Nat} : ∀ (l : List (Option C)) (j k : Nat) (pa : Option Addr) (mk : List V → HO) (kvs : List PyData), onlyOwn i l j = true → l[k]? = some (some (.gen pa mk kvs)) → False
  | [], j, k, pa, mk, kvs, _, h => by simp at h
  | c :: r, j, 0, pa, mk, kvs, ho, h => by
    simp at h
    subst h
    simp [onlyOwn] at ho
  | c :: r, j, k + 1, pa, mk, kvs, ho, h => by
    have h' : r[k]? = some (some (.gen pa mk kvs)) := by simpa using h
    have ho' : onlyOwn i r (j + 1) = true := by
      rcases c with _ | c
      · exact ho
      · cases c <;> first | exact ho | (simp [onlyOwn] at ho; done) | (simp [onlyOwn] at ho; exact ho.2)
    exact onlyOwn_gen r (j + 1) k pa mk kvs ho' h'
/-- the state ahead, the heap behind, where the cells are the same -/
theorem Rep.thaw (r : Rep B δ σ F H) {i : Nat} {xs : List PyData} (hi : δ.s[i]? = some (some (.own xs))) (ho : onlyOwn i δ.s 0 = true) {a : Addr} {vs : List V} (hσ : σ[i]? = some (some (.ref a))) (hd : DqAll B.K F vs xs) (hF : F a = none) (hB : B.H a = none) (ex : Same F H')
    (hl : H' a = some (.lst vs)) (r' : Rep B δ' σ F' H') (hs : δ'.s = (δ.put i (.d (.list xs))).s) : Rep B ⟨δ'.n, δ.s⟩ σ F H' := by
  refine ⟨ex, r.f0, r.fr, r'.kp, fun p h => ⟨(r.pot p h).1, (r.pot p h).2.1, (r'.pot p h).2.2⟩, fun j c h => ?_, r.len, r.ap⟩
  obtain ⟨v, hv, hc⟩ := r.cell j c h
  refine ⟨v, hv, ?_⟩
  by_cases e : j = i
  · subst e
    rw [hi] at h; cases h
    rw [hσ] at hv
    injection hv with hv
    injection hv with hv
    subst hv
    exact ⟨a, vs, rfl, hB, hF, hl, hd⟩
  · have h' : δ'.s[j]? = some (some c) := by
      rw [hs]
      show (δ.s.set i _)[j]? = _
      rw [List.getElem?_set_ne (fun z => e z.symm)]
      exact h
    obtain ⟨v', hv', hc'⟩ := r'.cell j c h'
    rw [hv] at hv'
    injection hv' with hv'
    injection hv' with hv'
    subst hv'
    cases c with
    | d x => exact hc
    | own ys =>
      have := onlyOwn_get δ.s 0 j ys ho h
      exact absurd (by omega) e
    | dct kvs => exact (onlyOwn_dct δ.s 0 j kvs ho h).elim
    | gen pa mk kvs => exact (onlyOwn_gen δ.s 0 j pa mk kvs ho h).elim
    | iset ns =>
      obtain ⟨b, q1, q2, q3, q4⟩ := hc
      obtain ⟨b', q1', q2', q3', q4'⟩ := hc'
      refine ⟨b, q1, q2, q3, ?_⟩
      rw [q1] at q1'; injection q1' with q1'; subst q1'; exact q4'
    | pot => exact hc
    | bor => exact hc
end
section
variable {B : Bs} {te : TE} {tt : TT} {t u : TS} {δ : St'} {Φ R : PE1} {N : St' → Prop}
theorem ws_set {i : Nat} (h : WE B te δ fun x δ' => N (δ'.put i (.d x))) : WS B (tAsg te (gName i)) δ N R := fun σ F H r D hn hr => h σ F H r _ fun v x δ' F' H' e r' d p => hn _ _ F' H' e (r'.putD i d) p
theorem ws_setO {i : Nat} (h : WL B te δ fun xs δ' => N (δ'.put i (.own xs))) : WS B (tAsg te (gName i)) δ N R := fun σ F H r D hn hr => h σ F H r _ fun a vs xs δ' F' H' e r' hB hF hH hap d p =>
  hn _ _ F' H' e (r'.putO i (c := .own xs) hap ⟨a, vs, rfl, hB, hF, hH, d⟩) p
theorem ws_ret (h : WE B te δ R) : WS B (tRet te) δ N R := fun σ F H r D hn hr => h σ F H r _ fun v x δ' F' H' e r' d p => hr v x δ' σ F' H' e r' d p
theorem ws_drop (h : WE B te δ fun _ δ' => N δ') : WS B (tDrop te) δ N R := fun σ F H r D hn hr => h σ F H r _ fun v x δ' F' H' e r' d p => hn δ' σ F' H' e r' p
theorem WS.cat (e : WS B t δ (fun δ' => WS B u δ' N R) R) : WS B (tSeq t u) δ N R := fun σ F H r D hn hr =>
  e σ F H r { D with nx := u D } (fun δ' σ' F' H' e1 r1 w => w σ' F' H' r1 D (fun δ2 σ2 F2 H2 e2 r2 n => hn δ2 σ2 F2 H2 (e1.trans e2) r2 n) fun v x δ2 σ2 F2 H2 e2 r2 d2 p2 => hr v x δ2 σ2 F2 H2 (e1.trans e2) r2 d2 p2) hr
theorem ws_next (p : N δ) : WS B tNext δ N R := fun σ F H r D hn hr => hn δ σ F H (Same.refl F) r p
theorem ws_if (h : WT B tt δ fun b δ' => if b = true then WS B t δ' N R else WS B u δ' N R) : WS B (tIfS tt t u) δ N R := fun σ F H r D hn hr => h σ F H r _ fun b δ' F' H' e r' p => by
  cases b with
  | true => exact iteT ((show WS B t δ' N R from p) σ F' H' r' D (fun δ2 σ2 F2 H2 e2 r2 n => hn δ2 σ2 F2 H2 (e.trans e2) r2 n) fun v x δ2 σ2 F2 H2 e2 r2 d2 p2 => hr v x δ2 σ2 F2 H2 (e.trans e2) r2 d2 p2)
  | false => exact iteF ((show WS B u δ' N R from p) σ F' H' r' D (fun δ2 σ2 F2 H2 e2 r2 n => hn δ2 σ2 F2 H2 (e.trans e2) r2 n) fun v x δ2 σ2 F2 H2 e2 r2 d2 p2 => hr v x δ2 σ2 F2 H2 (e.trans e2) r2 d2 p2)
theorem WS.mono {N' : St' → Prop} {R' : PE1} (h : WS B t δ N R) (f : ∀ δ', N δ' → N' δ') (g : ∀ x δ', R x δ' → R' x δ') : WS B t δ N' R' := fun σ F H r D hn hr =>
  h σ F H r D (fun δ' σ' F' H' e r' n => hn δ' σ' F' H' e r' (f δ' n)) fun v x δ' σ' F' H' e r' d p => hr v x δ' σ' F' H' e r' d (g x δ' p)
end
section
variable {B : B0} {X : Cx} {a b c e : Expr} {es : List Expr} {st : Stmt} {rest bd : List Stmt} {δ : St'} {N : St' → Prop} {Φ R : PE1} {pos p2 p3 : Pos}
theorem ds_nil (p : N δ) : DSs B X [] δ N R := .of pss_nil (ws_next p)
theorem ds_cons (h : DS B X st δ (fun δ' => DSs B X rest δ' N R) R) : DSs B X (st :: rest) δ N R := .of (pss_cons ps_w pss_w) (WS.cat h)
theorem ds_last (h : DS B X st δ N R) : DSs B X [st] δ N R := .of (pss_one ps_w) h
theorem ds_set (i : Nat) {x : Str} {pos' : Pos} (h : DE B X e δ fun d δ' => N (δ'.put i (.d d))) (hN : X.N.Nodup) (hi : X.N[i]? = some x := by rfl) (hx : Loc X.env.scope x := by first | exact .inl rfl | exact .inr rfl)
    (hs : swapsWith e (some (.Name x pos')) pos.line X.env = pure false := by rfl) (hf : X.fn x = true ∨ X.env.scope.names.lookup x = some .local := by first | exact .inl rfl | exact .inr rfl) : DS B X (.Assign [.Name x pos'] e pos) δ N R := .of (ps_set hN hi hx pe_w hs hf) (ws_set h)
theorem ds_setO (i : Nat) {x : Str} {pos' : Pos} (h : DLs B X e δ fun xs δ' => N (δ'.put i (.own xs))) (hN : X.N.Nodup) (hi : X.N[i]? = some x := by rfl) (hx : Loc X.env.scope x := by first | exact .inl rfl | exact .inr rfl)
    (hs : swapsWith e (some (.Name x pos')) pos.line X.env = pure false := by rfl) (hf : X.fn x = true ∨ X.env.scope.names.lookup x = some .local := by first | exact .inl rfl | exact .inr rfl) : DS B X (.Assign [.Name x pos'] e pos) δ N R := .of (ps_set hN hi hx pe_w hs hf) (ws_setO h)
theorem ds_ret (h : DE B X e δ R) : DS B X (.Return (some e) pos) δ N R := .of (ps_ret pe_w) (ws_ret h)
theorem ds_if (h : DT B X c δ fun k δ' => if k = true then DSs B X bd δ' N R else DSs B X rest δ' N R) : DS B X (.If c bd rest pos) δ N R := .of (ps_if pt_w pss_w pss_w) (ws_if h)
theorem ds_expr (h : DE B X e δ fun _ δ' => N δ') (hs : swapsWith e none pos.line X.env = pure false := by rfl) : DS B X (.Expr e pos) δ N R := .of (ps_expr pe_w hs) (ws_drop h)
theorem DSs.mono {N' : St' → Prop} {R' : PE1} (h : DSs B X rest δ N R) (f : ∀ δ', N δ' → N' δ') (g : ∀ x δ', R x δ' → R' x δ') : DSs B X rest δ N' R' := WS.mono h f g
theorem de_peek (i : Nat) {xs : List PyData} (h : DE B X e (δ.put i (.d (.list xs))) fun x δ' => atom x = true ∧ δ'.s = (δ.put i (.d (.list xs))).s ∧ Φ x ⟨δ'.n, δ.s⟩) (hi : δ.s[i]? = some (some (.own xs)) := by rfl) (ho : onlyOwn i δ.s 0 = true := by rfl) : DE B X e δ Φ := fun σ F H r Q q => by
  obtain ⟨a, vs, hσ, hF, hB, hH, hd, r2⟩ := r.freeze hi
  refine h σ _ H r2 Q fun v x δ' F' H' e r' d ⟨ha, hs, p⟩ => ?_
  have e1 : Same F F' := (same_upd hF).trans e
  exact q v x ⟨δ'.n, δ.s⟩ F H' (Same.refl F) (r.thaw hi ho hσ hd hF hB (e1.trans r'.ex) (r'.ex _ _ (e _ _ upd_same)) r' hs) (atom_dp d ha) p
theorem dt_peek (i : Nat) {xs : List PyData} {Φ : Bool → St' → Prop} (h : DT B X e (δ.put i (.d (.list xs))) fun x δ' => δ'.s = (δ.put i (.d (.list xs))).s ∧ Φ x ⟨δ'.n, δ.s⟩) (hi : δ.s[i]? = some (some (.own xs)) := by rfl) (ho : onlyOwn i δ.s 0 = true := by rfl) : DT B X e δ Φ := fun σ F H r Q q => by
  obtain ⟨a, vs, hσ, hF, hB, hH, hd, r2⟩ := r.freeze hi
  refine h σ _ H r2 Q fun b δ' F' H' e r' ⟨hs, p⟩ => ?_
  have e1 : Same F F' := (same_upd hF).trans e
  exact q b ⟨δ'.n, δ.s⟩ F H' (Same.refl F) (r.thaw hi ho hσ hd hF hB (e1.trans r'.ex) (r'.ex _ _ (e _ _ upd_same)) r' hs) p
theorem dss_freeze (i : Nat) {xs : List PyData} (h : DSs B X rest (δ.put i (.d (.list xs))) N R) (hi : δ.s[i]? = some (some (.own xs)) := by rfl) : DSs B X rest δ N R := fun σ F H r D hn hr => by
  obtain ⟨a, vs, hσ, hF, hB, hH, hd, r2⟩ := r.freeze hi
  exact h σ _ H r2 D (fun δ' σ' F' H' e r' n => hn δ' σ' F' H' ((same_upd hF).trans e) r' n) fun v x δ' σ' F' H' e r' d p => hr v x δ' σ' F' H' ((same_upd hF).trans e) r' d p
/-- xs.append(e) -/
theorem ds_append (i : Nat) {x : Str} {xs : List PyData} {apos npos : Pos} (h : DE B X e δ fun y δ' => ∃ xs, δ'.s[i]? = some (some (.own xs)) ∧ xs.length < 100000 ∧ N (δ'.put i (.own (xs ++ [y])))) (hi : δ.s[i]? = some (some (.own xs)) := by rfl)
    (hN : X.N[i]? = some x := by rfl) (hv : Vis X.env.scope x := by first | exact Or.inl rfl | exact Or.inr (Or.inl rfl) | exact Or.inr (Or.inr rfl)) (hd : (x == ("__debug__" : Str)) = false := by decide)
    (hcd : (x == ("__classdict__" : Str)) = false := by decide)
    (hbase : attributeBase (.Name x npos) "append" X.env (eval (.Name x npos) X.env) = eval (.Name x npos) X.env := by rfl)
    (hfew : ((backTo p2 (starEach [e] X.env)).all (fun x => !x.1) && (backToKw p2 (keywordEach [] X.env)).all (fun x => x.1.isSome)
      && decide ([e].length + ([] : List Keyword).length + (if ([] : List Keyword).isEmpty then 0 else 1) < 30)) = true := by rfl)
    (hline : (apos.endLine == p2.line) = true := by rfl) (hs : starEach [e] X.env = (false, eval e X.env) :: starEach [] X.env := by rfl) (hplain : (backTo p2 (starEach [] X.env)).any (·.1) = false := by rfl)
    (hsw : swapsWith (.Call (.Attribute (.Name x npos) "append" apos) [e] [] p2) none pos.line X.env = pure false := by rfl) :
    DS B X (.Expr (.Call (.Attribute (.Name x npos) "append" apos) [e] [] p2) pos) δ N R := .of (ps_expr (pe_bm PySem.F.plainAttrs_list PySem.F.slot_list_append PySem.F.type_list_append mt_append (pe_var hN hv hd hcd) (pa_cons pe_w pa_nil hs) hbase hfew hline hs hplain) hsw) fun σ F H r D hn hr => by
  obtain ⟨u, hu, a, vs, rfl, hB, hF, hH, hdd⟩ := r.cell i _ hi
  refine ⟨.ref a, hu, .inl ⟨rfl, vs, .inl (.inl hH)⟩, ?_⟩
  refine h σ F H r _ fun v y δ' F' H' e r' d ⟨ys, hi', hz, p⟩ => ?_
  obtain ⟨u', hu', a', vs', rfl, hB', hF', hH', hdd'⟩ := r'.cell i _ hi'
  rw [hu] at hu'
  injection hu' with hu'
  injection hu' with hu'
  injection hu' with hu'
  subst hu'
  refine ⟨a, vs', v, rfl, rfl, hH', Nat.lt_of_lt_of_le (by rw [dpAll_len hdd']; exact hz) (by decide), ?_⟩
  refine hn _ σ F' _ e (r'.write (c2 := .own (ys ++ [y])) hi' rfl hu hB' hF' rfl ⟨a, vs' ++ [v], rfl, hB', hF', upd_same, ?_⟩) p
  exact dpAll_app hdd' (.cons d .nil)
end
end DL
set_option maxHeartbeats 200000
set_option Elab.async false
set_option linter.all false
set_option maxRecDepth 100000
namespace DL
open PySem PySem.Spec PyProof.Rows L2
/-- J walks the things xs -/
structure Wk (w : World) (K : PySem.W.Frag) (J : It) (xs : List PyData) (F : Hp) : Prop where
  stop : ∀ (B : Bs) i δ σ F' H, B.w = w → B.K = K → Same F F' → Rep B δ σ F' H → xs.length ≤ i → J.stop i H
  go : ∀ (B : Bs) i δ σ F' H, B.w = w → B.K = K → Same F F' → Rep B δ σ F' H → i < xs.length → J.go i H
  yld : ∀ (B : Bs) i δ σ F' H v H' y, B.w = w → B.K = K → Same F F' → Rep B δ σ F' H → xs[i]? = some y → J.yld i H v H' →
    ∃ F2, Same F' F2 ∧ Rep B δ σ F2 H' ∧ Same H H' ∧ (∀ b, F' b = none → H b ≠ none → F2 b = none) ∧ Dq K F2 v y
structure WkB (B : Bs) (J : It) (xs : List PyData) (F : Hp) : Prop where
  stop : ∀ i δ σ F' H, Same F F' → Rep B δ σ F' H → xs.length ≤ i → J.stop i H
  go : ∀ i δ σ F' H, Same F F' → Rep B δ σ F' H → i < xs.length → J.go i H
  yld : ∀ i δ σ F' H v H' y, Same F F' → Rep B δ σ F' H → xs[i]? = some y → J.yld i H v H' →
    ∃ F2, Same F' F2 ∧ Rep B δ σ F2 H' ∧ Same H H' ∧ (∀ b, F' b = none → H b ≠ none → F2 b = none) ∧ Dq B.K F2 v y
theorem Wk.at {B : Bs} {J : It} {xs : List PyData} {F : Hp} (w : Wk B.w B.K J xs F) : WkB B J xs F :=
  ⟨fun i δ σ F' H e r h => w.stop B i δ σ F' H rfl rfl e r h, fun i δ σ F' H e r h => w.go B i δ σ F' H rfl rfl e r h, fun i δ σ F' H v H' y e r h hy => w.yld B i δ σ F' H v H' y rfl rfl e r h hy⟩
def WI (B : Bs) (wi : TI) (δ : St') (Ψ : List PyData → St' → Prop) : Prop := ∀ σ F H, Rep B δ σ F H → ∀ R : It → Hp → Prop, (∀ J xs δ' F' H', Same F F' → Rep B δ' σ F' H' → WkB B J xs F' → Ψ xs δ' → R J H') → wi σ H R
theorem wk_list {w : World} {K : PySem.W.Frag} {a : Addr} {vs : List V} {xs : List PyData} {F : Hp} (hs : SqL K F a vs) (ha : DqAll K F vs xs) : Wk w K (Itl K a) xs F where
  stop := fun B i δ σ F' H _ _ e r h => ⟨vs, (e.trans r.ex).seq hs, by rw [dpAll_len ha]; exact h⟩
  go := fun B i δ σ F' H _ _ e r h => by
    obtain ⟨v, hv, _⟩ := dpAll_get ha (List.getElem?_eq_getElem h)
    exact ⟨vs, v, (e.trans r.ex).seq hs, hv⟩
  yld := fun B i δ σ F' H v H' y _ _ e r h hy => by
    obtain ⟨e1, e2⟩ := hy
    subst e1
    obtain ⟨v', hv, hd⟩ := dpAll_get ha h
    have q := e2 vs ((e.trans r.ex).seq hs)
    rw [hv] at q
    injection q with q
    subst q
    exact ⟨F', Same.refl _, r, Same.refl _, fun b z _ => z, dp_mono e _ _ hd⟩
theorem wk_tup {w : World} {K : PySem.W.Frag} {a : Addr} {vs : List V} {xs : List PyData} {F : Hp} (hs : SqT K F a vs) (ha : DqAll K F vs xs) : Wk w K (Itt K a) xs F where
  stop := fun B i δ σ F' H _ _ e r h => ⟨vs, seqT (e.trans r.ex) hs, by rw [dpAll_len ha]; exact h⟩
  go := fun B i δ σ F' H _ _ e r h => by
    obtain ⟨v, hv, _⟩ := dpAll_get ha (List.getElem?_eq_getElem h)
    exact ⟨vs, v, seqT (e.trans r.ex) hs, hv⟩
  yld := fun B i δ σ F' H v H' y _ _ e r h hy => by
    obtain ⟨e1, e2⟩ := hy
    subst e1
    obtain ⟨v', hv, hd⟩ := dpAll_get ha h
    have q := e2 vs (seqT (e.trans r.ex) hs)
    rw [hv] at q
    injection q with q
    subst q
    exact ⟨F', Same.refl _, r, Same.refl _, fun b z _ => z, dp_mono e _ _ hd⟩
/-- lo, lo + 1, .. -/
def rng (lo : Int) (n : Nat) : List PyData := (List.range n).map fun i => PyData.int (lo + (i : Nat))
theorem rng_len {lo : Int} {n : Nat} : (rng lo n).length = n := by simp [rng]
theorem rng_get {lo : Int} {n i : Nat} {y : PyData} (h : (rng lo n)[i]? = some y) : i < n ∧ y = .int (lo + (i : Nat)) := by
  have hl : i < n := by
    have := (List.getElem?_eq_some_iff.mp h).1
    rwa [rng_len] at this
  refine ⟨hl, ?_⟩
  simp [rng, hl] at h
  exact h.symm
theorem wk_rng {w : World} {K : PySem.W.Frag} {lo : Int} {n : Nat} {F : Hp} : Wk w K (Itr lo n) (rng lo n) F where
  stop := fun B i δ σ F' H _ _ e r h => by rw [rng_len] at h; exact h
  go := fun B i δ σ F' H _ _ e r h => by rw [rng_len] at h; exact h
  yld := fun B i δ σ F' H v H' y _ _ e r h hy => by
    obtain ⟨e1, e2⟩ := hy
    subst e1 e2
    obtain ⟨_, rfl⟩ := rng_get h
    exact ⟨F', Same.refl _, r, Same.refl _, fun b z _ => z, .int _⟩
/-- a new tuple at each turn -/
theorem Rep.newT {B : Bs} {δ : St'} {σ : List (Option V)} {F H : Hp} (r : Rep B δ σ F H) {T : Addr} (hT : H T = none) {vs : List V} {ds : List PyData} (hd : DqAll B.K F vs ds) : ∃ F2, Same F F2 ∧ Rep B δ σ F2 (upd H T (.tup vs)) ∧ Same H (upd H T (.tup vs)) ∧
    (∀ b, F b = none → H b ≠ none → F2 b = none) ∧ Dq B.K F2 (.ref T) (.tuple ds) := by
  have hF : F T = none := r.ex.free hT
  refine ⟨upd F T (.tup vs), same_upd hF, r.new hT _, same_upd hT, fun b h1 h2 => ?_, .tup (.inl (.inl upd_same)) (dpAll_mono (same_upd hF) _ _ hd) upd_same⟩
  have hb : b ≠ T := fun z => h2 (by rw [z]; exact hT)
  rw [upd_ne hb]
  exact h1
def enumD (xs : List PyData) : List PyData := xs.zipIdx.map fun p => PyData.tuple [.int (p.2 : Nat), p.1]
theorem enum_len {xs : List PyData} : (enumD xs).length = xs.length := by simp [enumD]
theorem enum_get {xs : List PyData} {i : Nat} {y : PyData} (h : (enumD xs)[i]? = some y) : ∃ x, xs[i]? = some x ∧ y = .tuple [.int (i : Nat), x] := by
  simp only [enumD, List.getElem?_map, List.getElem?_zipIdx, Option.map_eq_some_iff] at h
  obtain ⟨p, ⟨x, hx, rfl⟩, rfl⟩ := h
  exact ⟨x, hx, by simp⟩
theorem wk_enum {w : World} {K : PySem.W.Frag} {a : Addr} {vs : List V} {xs : List PyData} {F : Hp} (hs : SqL K F a vs) (ha : DqAll K F vs xs) : Wk w K (Ite K a) (enumD xs) F where
  stop := fun B i δ σ F' H _ _ e r h => ⟨vs, (e.trans r.ex).seq hs, by rw [dpAll_len ha]; rw [enum_len] at h; exact h⟩
  go := fun B i δ σ F' H _ _ e r h => by
    rw [enum_len] at h
    obtain ⟨v, hv, _⟩ := dpAll_get ha (List.getElem?_eq_getElem h)
    exact ⟨vs, v, (e.trans r.ex).seq hs, hv⟩
  yld := fun B i δ σ F' H v H' y hw hK e r h hy => by
    obtain ⟨T, x, rfl, hT, rfl, hx⟩ := hy
    obtain ⟨d, hd, rfl⟩ := enum_get h
    obtain ⟨v', hv, dv⟩ := dpAll_get ha hd
    have q := hx vs ((e.trans r.ex).seq hs)
    rw [hv] at q
    injection q with q
    subst q
    subst hK
    exact r.newT hT (.cons (.int _) (.cons (dp_mono e _ _ dv) .nil))
section
variable {B : Bs} {te : TE} {ta : TA} {δ : St'} {Ψ : List PyData → St' → Prop}
theorem wi_list (h : WE B te δ fun x δ' => ∃ xs, x = .list xs ∧ Ψ xs δ') : WI B (iList B.K te) δ Ψ := fun σ F H r R q => h σ F H r _ fun v x δ' F' H' e r' d ⟨xs, hx, p⟩ => by
  subst hx
  cases d with
  | lst hs ha => exact ⟨_, rfl, ⟨_, r'.ex.seq hs⟩, q _ xs δ' F' H' e r' (Wk.at (wk_list hs ha)) p⟩
theorem wi_tup (h : WE B te δ fun x δ' => ∃ xs, x = .tuple xs ∧ Ψ xs δ') : WI B (iTup B.K te) δ Ψ := fun σ F H r R q => h σ F H r _ fun v x δ' F' H' e r' d ⟨xs, hx, p⟩ => by
  subst hx
  cases d with
  | tup hs ha => exact ⟨_, rfl, ⟨_, seqT r'.ex hs⟩, q _ xs δ' F' H' e r' (Wk.at (wk_tup hs ha)) p⟩
theorem wi_rng1 (h : WA B ta δ fun ds δ' => ∃ j : Int, ds = [.int j] ∧ -(2 ^ 62) ≤ j ∧ j < 2 ^ 62 ∧ Ψ (rng 0 j.toNat) δ') : WI B (iRng1 ta) δ Ψ := fun σ F H r R q => h σ F H r _ fun vs x δ' F' H' e r' d ⟨j, hx, h1, h2, p⟩ => by
  subst hx
  cases d with
  | cons d1 d2 =>
    cases d2
    cases d1
    exact ⟨j, rfl, h1, h2, q _ _ δ' F' H' e r' (Wk.at wk_rng) p⟩
theorem wi_enum (h : WA B ta δ fun ds δ' => ∃ xs, ds = [.list xs] ∧ Ψ (enumD xs) δ') : WI B (iEnum B.K ta) δ Ψ := fun σ F H r R q => h σ F H r _ fun vs x δ' F' H' e r' d ⟨xs, hx, p⟩ => by
  subst hx
  cases d with
  | cons d1 d2 =>
    cases d2
    cases d1 with
    | lst hs ha => exact ⟨_, _, rfl, r'.ex.seq hs, q _ _ δ' F' H' e r' (Wk.at (wk_enum hs ha)) p⟩
end
def WG (B : Bs) (g : TG) (ix : List Nat) (y : PyData) (δ : St') (K : St' → Prop) : Prop := ∀ σ F H, Rep B δ σ F H → ∀ v, Dq B.K F v y → ∀ Q : List (Option V) → Hp → Prop,
  (∀ δ' σ', Rep B δ' σ' F H → (∀ j, j ∉ ix → σ'[j]? = σ[j]?) → σ'.length = σ.length → K δ' → Q σ' H) → g v σ H Q
def WGs (B : Bs) (g : TGs) (ix : List Nat) (ys : List PyData) (δ : St') (K : St' → Prop) : Prop := ∀ σ F H, Rep B δ σ F H → ∀ vs, DqAll B.K F vs ys → ∀ Q : List (Option V) → Hp → Prop,
  (∀ δ' σ', Rep B δ' σ' F H → (∀ j, j ∉ ix → σ'[j]? = σ[j]?) → σ'.length = σ.length → K δ' → Q σ' H) → g vs σ H Q
section
variable {B : Bs} {δ : St'} {K : St' → Prop} {y : PyData} {ys : List PyData} {ix : List Nat}
theorem wg_name {i : Nat} (p : K (δ.put i (.d y))) (hi : i ∈ ix := by decide) : WG B (gName i) ix y δ K := fun σ F H r v d Q q =>
  q _ _ (r.putD i d) (fun j hj => List.getElem?_set_ne (fun z : i = j => hj (by rw [← z]; exact hi))) (by simp) p
theorem wgs_nil (p : K δ) : WGs B gNil ix [] δ K := fun σ F H r vs d Q q => by
  cases d
  exact ⟨rfl, q δ σ r (fun _ _ => rfl) rfl p⟩
theorem wgs_cons {g : TG} {u : TGs} (h : WG B g ix y δ fun δ' => WGs B u ix ys δ' K) : WGs B (gCons g u) ix (y :: ys) δ K := fun σ F H r vs d Q q => by
  cases d with
  | cons d1 d2 =>
    exact ⟨_, _, rfl, h σ F H r _ d1 _ fun δ' σ' r' h1 h2 p => p σ' F H r' _ d2 Q fun δ2 σ2 r2 k1 k2 p2 => q δ2 σ2 r2 (fun j hj => (k1 j hj).trans (h1 j hj)) (k2.trans h2) p2⟩
theorem wg_tup {n : Nat} {u : TGs} (h : WGs B u ix ys δ K) (hn : ys.length = n := by rfl) : WG B (gTup B.K n u) ix (.tuple ys) δ K := fun σ F H r v d Q q => by
  cases d with
  | tup hs ha => exact ⟨_, _, rfl, seqT r.ex hs, by rw [dpAll_len ha]; exact hn, h σ F H r _ ha Q q⟩
end
section
variable {B : Bs} {wi : TI} {g : TG} {tb : TS} {tt : TT} {δ : St'} {N : St' → Prop} {R : PE1} {ix : List Nat}
theorem ws_for (h : WI B wi δ fun xs δ1 => ∃ I : Nat → St' → Prop, I 0 δ1 ∧ (∀ i y δ2, xs[i]? = some y → I i δ2 → WG B g ix y δ2 fun δ3 => WS B tb δ3 (I (i + 1)) R) ∧ ∀ δ2, I xs.length δ2 → N δ2) : WS B (tFor wi g tb) δ N R := fun σ F H r D hn hr =>
  h σ F H r _ fun J xs δ1 F1 H1 e1 r1 w ⟨I, h0, hs, hd⟩ => by
    refine ⟨fun i m σ' H' => i + m = xs.length ∧ ∃ δ2 F2, Same F1 F2 ∧ Rep B δ2 σ' F2 H' ∧ I i δ2, ⟨xs.length, by simp, δ1, F1, Same.refl _, r1, h0⟩, fun i m σ2 H2 hW => ?_⟩
    obtain ⟨em, δ2, F2, e2, r2, hi⟩ := hW
    by_cases hlt : i < xs.length
    · refine .inr ⟨w.go i δ2 σ2 F2 H2 e2 r2 hlt, fun σ' H' => ∃ δ3 F3, Same F1 F3 ∧ Rep B δ3 σ' F3 H' ∧ I (i + 1) δ3, fun σ' H' q => ⟨m - 1, by omega, by omega, q⟩, fun x H' hy => ?_⟩
      obtain ⟨F3, e3, r3, _, _, d3⟩ := w.yld i δ2 σ2 F2 H2 x H' xs[i] e2 r2 (List.getElem?_eq_getElem hlt) hy
      refine hs i xs[i] δ2 (List.getElem?_eq_getElem hlt) hi σ2 F3 H' r3 x d3 _ fun δ4 σ4 r4 _ _ p4 => ?_
      exact p4 σ4 F3 H' r4 _ (fun δ5 σ5 F5 H5 e5 r5 p5 => ⟨δ5, F5, (e2.trans e3).trans e5, r5, p5⟩) fun v z δ5 σ5 F5 H5 e5 r5 d5 p5 => hr v z δ5 σ5 F5 H5 (((e1.trans e2).trans e3).trans e5) r5 d5 p5
    · have : i = xs.length := by omega
      subst this
      exact .inl ⟨w.stop _ δ2 σ2 F2 H2 e2 r2 (Nat.le_refl _), hn δ2 σ2 F2 H2 (e1.trans e2) r2 (hd δ2 hi)⟩
theorem ws_while (I : Nat → St' → Prop) {m0 : Nat} (h0 : I m0 δ) (hs : ∀ m δ', I m δ' → WT B tt δ' fun b δ2 => if b = true then WS B tb δ2 (fun δ3 => ∃ m', m' < m ∧ I m' δ3) R else N δ2) : WS B (tWhile tt tb) δ N R := fun σ F H r D hn hr => by
  refine ⟨fun m σ' H' => ∃ δ2 F2, Same F F2 ∧ Rep B δ2 σ' F2 H' ∧ I m δ2, ⟨m0, δ, F, Same.refl _, r, h0⟩, fun m σ1 H1 hW => ?_⟩
  obtain ⟨δ1, F1, e1, r1, hi⟩ := hW
  refine hs m δ1 hi σ1 F1 H1 r1 _ fun b δ2 F2 H2 e2 r2 p => ?_
  cases b with
  | true =>
    refine iteT ⟨fun σ' H' => ∃ m', m' < m ∧ ∃ δ3 F3, Same F F3 ∧ Rep B δ3 σ' F3 H' ∧ I m' δ3, fun σ' H' q => q, ?_⟩
    exact (show WS B tb δ2 _ R from p) σ1 F2 H2 r2 _ (fun δ5 σ5 F5 H5 e5 r5 ⟨m', hm, p5⟩ => ⟨m', hm, δ5, F5, (e1.trans e2).trans e5, r5, p5⟩) fun v z δ5 σ5 F5 H5 e5 r5 d5 p5 => hr v z δ5 σ5 F5 H5 ((e1.trans e2).trans e5) r5 d5 p5
  | false => exact iteF (hn δ2 σ1 F2 H2 (e1.trans e2) r2 p)
end
section
variable {B : B0} {X : Cx} {a b c e tg iter : Expr} {es : List Expr} {st : Stmt} {rest body : List Stmt} {δ : St'} {N : St' → Prop} {Φ R : PE1} {pos p2 p3 : Pos} {wi : TI} {g : TG} {ix : List Nat}
theorem ds_for (ix : List Nat) (hi : PI X tg iter wi) (hg : PG X tg g) (h : WI (bs X B) wi δ fun xs δ1 => ∃ I : Nat → St' → Prop, I 0 δ1 ∧ (∀ i y δ2, xs[i]? = some y → I i δ2 → WG (bs X B) g ix y δ2 fun δ3 => DSs B X body δ3 (I (i + 1)) R) ∧ ∀ δ2, I xs.length δ2 → N δ2)
    (hc : X.calm = true := by rfl) (hp : PassesOwn (model X.prog X.w) X.A X.env X.xe := by exact PassesOwn.never) (hs : ∀ x, foldedSetIterable iter X.env x = pure x := by intro _; rfl) : DS B X (.For tg iter body [] pos) δ N R := .of (ps_for hp hc hi hg pss_w hs) (ws_for h)
theorem ds_while (I : Nat → St' → Prop) {m0 : Nat} (h0 : I m0 δ) (h : ∀ m δ', I m δ' → DT B X c δ' fun k δ2 => if k = true then DSs B X body δ2 (fun δ3 => ∃ m', m' < m ∧ I m' δ3) R else N δ2)
    (hp : PassesOwn (model X.prog X.w) X.A X.env X.xe := by exact PassesOwn.never) : DS B X (.While c body [] pos) δ N R := .of (ps_while hp pt_w pss_w) (ws_while I h0 h)
/-- a, b, .. = e -/
theorem ds_unpack (ix : List Nat) (hg : PG X tg g) (h : DE B X e δ fun d δ' => WG (bs X B) g ix d δ' N) (hs : swapsWithSole [tg] e pos.line X.env = pure false := by rfl) (hw : swappedStores [tg] e X.env = pure none := by rfl)
    (h1 : (assignEach [tg] X.env).map (·.2) = [assign tg X.env] := by rfl) : DS B X (.Assign [tg] e pos) δ N R := .of (ps_asg pe_w hg hs hw h1) fun σ F H r D hn hr =>
  h σ F H r _ fun v x δ' F' H' e r' d p => p σ F' H' r' v d _ fun δ2 σ2 r2 _ _ p2 => hn δ2 σ2 F' H' e r2 p2
end
end DL
set_option maxHeartbeats 200000
set_option Elab.async false
set_option linter.all false
set_option maxRecDepth 100000
namespace DL
open PySem PySem.Spec PyProof.Rows L2
def strip : Option C → Option C
  | some (.own _) => none | some (.dct _) => none | some (.gen _ _ _) => none | some (.iset _) => none | c => c
def inn (vs : List Nat) : Nat → List (Option C) → List (Option C)
  | _, [] => []
  | j, c :: r => (if vs.contains j then none else strip c) :: inn vs (j + 1) r
theorem inn_get {vs : List Nat} : ∀ {s : List (Option C)} {j k : Nat}, (inn vs j s)[k]? = (s[k]?).map fun c => if vs.contains (j + k) then none else strip c
  | [], j, k => by simp [inn]
  | c :: r, j, 0 => by simp [inn]
  | c :: r, j, k + 1 => by
    have := inn_get (vs := vs) (s := r) (j := j + 1) (k := k)
    simp only [inn, List.getElem?_cons_succ, this]
    rw [show j + 1 + k = j + (k + 1) by omega]
theorem inn_len {vs : List Nat} : ∀ {s : List (Option C)} {j : Nat}, (inn vs j s).length = s.length
  | [], j => rfl
  | c :: r, j => by simp [inn, inn_len]
theorem wipe_out {σ : List (Option V)} {j : Nat} : ∀ {vs : List Nat}, j ∉ vs → (wipe σ vs)[j]? = σ[j]?
  | [], _ => rfl
  | v :: vs, h => by
    unfold wipe
    rw [List.getElem?_set_ne (fun z => h (by simp [z]))]
    exact wipe_out fun z => h (List.mem_cons_of_mem _ z)
theorem wipe_in {σ : List (Option V)} {j : Nat} : ∀ {vs : List Nat}, j ∈ vs → j < σ.length → (wipe σ vs)[j]? = some none
  | [], h, _ => by simp at h
  | v :: vs, h, hl => by
    unfold wipe
    by_cases e : v = j
    · subst e
      rw [List.getElem?_set, if_pos rfl, if_pos (by rw [wipe_length]; exact hl)]
    · rw [List.getElem?_set_ne e]
      rcases List.mem_cons.mp h with z | z
      · exact absurd z.symm e
      · exact wipe_in z hl
theorem wipe_same {σ σ' : List (Option V)} {vs : List Nat} (h : ∀ j, j ∉ vs → σ'[j]? = (wipe σ vs)[j]?) (hl : σ'.length = (wipe σ vs).length) : wipe σ' vs = wipe σ vs := by
  apply List.ext_getElem?
  intro j
  by_cases e : j ∈ vs
  · by_cases hj : j < σ.length
    · rw [wipe_in e (by rw [hl, wipe_length]; exact hj), wipe_in e hj]
    · rw [List.getElem?_eq_none (by rw [wipe_length, hl, wipe_length]; omega), List.getElem?_eq_none (by rw [wipe_length]; omega)]
  · rw [wipe_out e, h j e, wipe_out e]
/-- within a call, a block: all that stands is kept -/
theorem Rep.inner {B : Bs} {δ : St'} {σ : List (Option V)} {F H : Hp} (r : Rep B δ σ F H) (vs : List Nat) : Rep ⟨⟨F, H, B.p, B.m⟩, B.w, B.K⟩ ⟨δ.n, inn vs 0 δ.s⟩ (wipe σ vs) F H := by
  refine ⟨r.ex, Same.refl _, fun b h1 _ => h1, fun b o h _ => h, fun a h => ⟨r.potF h, ?_, (r.pot a h).2.2⟩, fun i c h => ?_, ?_, fun i j c c' hij h1 h2 o1 o2 => ?_⟩
  · obtain ⟨_, _, x, y, z, h3, _⟩ := r.pot a h
    show H a ≠ none
    rw [h3]; exact fun z => by cases z
  · have h' : (inn vs 0 δ.s)[i]? = some (some c) := h
    rw [inn_get] at h'
    rw [Option.map_eq_some_iff] at h'
    obtain ⟨c0, h0, h1⟩ := h'
    by_cases hv : vs.contains (0 + i)
    · rw [if_pos hv] at h1; cases h1
    · rw [if_neg hv] at h1
      have hni : i ∉ vs := fun z => hv (by rw [Nat.zero_add]; exact List.contains_iff_mem.mpr z)
      rcases c0 with _ | c0
      · cases h1
      · cases c0 with
        | own _ => cases h1
        | dct _ => cases h1
        | gen pa mk _ => cases h1
        | iset _ => cases h1
        | d x =>
          injection h1 with h1
          subst h1
          obtain ⟨v, hv, hc⟩ := r.cell i _ h0
          exact ⟨v, by rw [wipe_out hni]; exact hv, hc⟩
        | pot =>
          injection h1 with h1
          subst h1
          obtain ⟨v, hv, hc⟩ := r.cell i _ h0
          exact ⟨v, by rw [wipe_out hni]; exact hv, hc⟩
        | bor =>
          injection h1 with h1
          subst h1
          obtain ⟨v, hv, hc⟩ := r.cell i _ h0
          exact ⟨v, by rw [wipe_out hni]; exact hv, hc⟩
  · rw [wipe_length, inn_len]; exact r.len
  · have h' : (inn vs 0 δ.s)[i]? = some (some c) := h1
    rw [inn_get, Option.map_eq_some_iff] at h'
    obtain ⟨c0, _, e⟩ := h'
    by_cases hv : vs.contains (0 + i)
    · rw [if_pos hv] at e; cases e
    · rw [if_neg hv] at e
      rcases c0 with _ | c0
      · cases e
      · cases c0 <;> simp [strip] at e <;> (subst e; cases o1)
/-- .. and behind it -/
theorem Rep.outer {B : Bs} {δ δ' : St'} {σ σ' : List (Option V)} {F H F' H' : Hp} (r : Rep B δ σ F H) (r' : Rep ⟨⟨F, H, B.p, B.m⟩, B.w, B.K⟩ δ' σ' F' H') : Rep B ⟨δ'.n, δ.s⟩ σ F' H' := by
  have hp : ∀ {b : Addr} {o : HO}, B.H b = some o → H b ≠ none := fun {b o} h => by
    by_cases e : B.p = some b
    · obtain ⟨_, _, x, y, z, h3, _⟩ := r.pot b e
      rw [h3]; exact fun z => by cases z
    · rw [r.kp b o h e]; exact fun z => by cases z
  refine ⟨r'.ex, r.f0.trans r'.f0, fun b h1 h2 => ?_, fun b o h1 h2 => r'.kp b o (r.kp b o h1 h2) h2, fun a h => ⟨(r.pot a h).1, (r.pot a h).2.1, (r'.pot a h).2.2⟩, fun i c h => ?_, r.len, r.ap⟩
  · cases q : B.H b with
    | none => exact absurd q h2
    | some o => exact r'.fr b (r.fr b h1 h2) (hp q)
  · obtain ⟨v, hv, hc⟩ := r.cell i c h
    refine ⟨v, hv, ?_⟩
    have keep : ∀ {a : Addr} {o : HO}, B.H a = none → H a = some o → H' a = some o := fun {a o} h1 h2 => r'.kp a o h2 fun z => (r.pot a z).2.1 h1
    cases c with
    | d x => exact dp_mono r'.f0 _ _ hc
    | own xs =>
      obtain ⟨a, vs, e, h1, h2, h3, h4⟩ := hc
      exact ⟨a, vs, e, h1, r'.fr a h2 (by show H a ≠ none; rw [h3]; exact fun z => by cases z), keep h1 h3, dpAll_mono r'.f0 _ _ h4⟩
    | dct kvs =>
      obtain ⟨a, vs, e, h1, h2, h3, h4⟩ := hc
      exact ⟨a, vs, e, h1, r'.fr a h2 (by show H a ≠ none; rw [h3]; exact fun z => by cases z), keep h1 h3, dpAll_mono r'.f0 _ _ h4⟩
    | gen pa mk kvs =>
      obtain ⟨a, vs, e, h1, h2, h3, h4, h5⟩ := hc
      exact ⟨a, vs, e, h1, r'.fr a h2 (by show H a ≠ none; rw [h3]; exact fun z => by cases z), keep h1 h3, h4, dpAll_mono r'.f0 _ _ h5⟩
    | iset ns =>
      obtain ⟨a, e, h1, h2, h3⟩ := hc
      exact ⟨a, e, h1, r'.fr a h2 (by show H a ≠ none; rw [h3]; exact fun z => by cases z), keep h1 h3⟩
    | pot => exact hc
    | bor => exact hc
theorem Rep.fresh {B : Bs} {δ : St'} {σ : List (Option V)} {F H : Hp} (r : Rep B δ σ F H) {a : Addr} (h : H a = none) : B.H a = none ∧ F a = none ∧ B.p ≠ some a ∧ ∀ (i : Nat) (c : C), δ.s[i]? = some (some c) → own? c = true → σ[i]? ≠ some (some (.ref a)) := by
  have hB : B.p ≠ some a := fun z => by
    obtain ⟨_, _, _, _, _, h3, _⟩ := r.pot a z
    rw [h] at h3; cases h3
  refine ⟨?_, r.ex.free h, hB, fun i c hi ho hs => ?_⟩
  · cases e : B.H a with
    | none => rfl
    | some o => rw [r.kp a o e hB] at h; cases h
  · obtain ⟨v, hv, hc⟩ := r.cell i c hi
    rw [hv] at hs
    cases hs
    cases c with
    | d x => cases ho
    | pot => cases ho
    | bor => cases ho
    | own xs =>
      obtain ⟨b, vs, e, _, _, h3, _⟩ := hc
      cases e
      rw [h] at h3; cases h3
    | dct kvs =>
      obtain ⟨b, vs, e, _, _, h3, _⟩ := hc
      cases e
      rw [h] at h3; cases h3
    | gen pa mk kvs =>
      obtain ⟨b, vs, e, _, _, h3, _⟩ := hc
      cases e
      rw [h] at h3; cases h3
    | iset ns =>
      obtain ⟨b, e, _, _, h3⟩ := hc
      cases e
      rw [h] at h3; cases h3
/-- an object that nobody tells of changes, or comes -/
theorem Rep.side {B : Bs} {δ : St'} {σ : List (Option V)} {F H : Hp} (r : Rep B δ σ F H) {a : Addr} {o : HO} (hF : F a = none) (hB : B.H a = none) (hap : ∀ (i : Nat) (c : C), δ.s[i]? = some (some c) → own? c = true → σ[i]? ≠ some (some (.ref a))) : Rep B δ σ F (upd H a o) := by
  refine ⟨fun b u h => ?_, r.f0, r.fr, fun b u h1 h2 => ?_, fun p h => ?_, fun i c h => ?_, r.len, r.ap⟩
  · have hb : b ≠ a := fun z => by rw [z, hF] at h; cases h
    rw [upd_ne hb]; exact r.ex b u h
  · have hb : b ≠ a := fun z => by rw [z, hB] at h1; cases h1
    rw [upd_ne hb]; exact r.kp b u h1 h2
  · obtain ⟨h1, h2, x, y, z, h3, h4⟩ := r.pot p h
    have hb : p ≠ a := fun q => h2 (by rw [q]; exact hB)
    exact ⟨h1, h2, x, y, z, by rw [upd_ne hb]; exact h3, h4⟩
  · obtain ⟨v, hv, hc⟩ := r.cell i c h
    refine ⟨v, hv, ?_⟩
    cases c with
    | d x => exact hc
    | own xs =>
      obtain ⟨b, vs, e, h1, h2, h3, h4⟩ := hc
      subst e
      have hb : b ≠ a := fun q => hap i _ h rfl (by rw [hv, q])
      exact ⟨b, vs, rfl, h1, h2, by rw [upd_ne hb]; exact h3, h4⟩
    | dct kvs =>
      obtain ⟨b, vs, e, h1, h2, h3, h4⟩ := hc
      subst e
      have hb : b ≠ a := fun q => hap i _ h rfl (by rw [hv, q])
      exact ⟨b, vs, rfl, h1, h2, by rw [upd_ne hb]; exact h3, h4⟩
    | gen pa mk kvs =>
      obtain ⟨b, vs, e, h1, h2, h3, h4, h5⟩ := hc
      subst e
      have hb : b ≠ a := fun q => hap i _ h rfl (by rw [hv, q])
      exact ⟨b, vs, rfl, h1, h2, by rw [upd_ne hb]; exact h3, h4, h5⟩
    | iset ns =>
      obtain ⟨b, e, h1, h2, h3⟩ := hc
      subst e
      have hb : b ≠ a := fun q => hap i _ h rfl (by rw [hv, q])
      exact ⟨b, rfl, h1, h2, by rw [upd_ne hb]; exact h3⟩
    | pot => exact hc
    | bor => exact hc
/-- what a block's begin knows of the begin outside -/
def Sub (B B' : B0) : Prop := B'.p = B.p ∧ Same B.F B'.F ∧ (∀ b, B.F b = none → B.H b ≠ none → B'.F b = none) ∧ ∀ b o, B.H b = some o → B.p ≠ some b → B'.H b = some o
theorem wl_lc {B : Bs} {wi : TI} {g : TG} {tt : TT} {te : TE} {vs ix : List Nat} {δ : St'} {Φ : List PyData → St' → Prop} (hix : ∀ j ∈ ix, j ∈ vs)
    (h : WI B wi δ fun xs δ1 => xs.length ≤ 100000 ∧ ∃ I : Nat → List PyData → Nat → Prop, I 0 [] δ1.n ∧
      (∀ (B' : B0) i y acc n, Sub B.toB0 B' → xs[i]? = some y → acc.length ≤ i → I i acc n → WG ⟨B', B.w, B.K⟩ g ix y ⟨n, inn vs 0 δ1.s⟩ fun δ2 => WT ⟨B', B.w, B.K⟩ tt δ2 fun b δ3 =>
        if b = true then WE ⟨B', B.w, B.K⟩ te δ3 fun z δ4 => I (i + 1) (acc ++ [z]) δ4.n else I (i + 1) acc δ3.n) ∧
      ∀ acc n, acc.length ≤ xs.length → I xs.length acc n → Φ acc ⟨n, δ1.s⟩) : WL B (tLc wi g tt te vs) δ Φ := fun σ F H r Q q =>
  h σ F H r _ fun J xs δ1 F1 H1 e1 r1 w ⟨hz, I, h0, hs, hd⟩ D hD => by
    obtain ⟨hB, hF, hp, hap⟩ := r1.fresh hD
    refine ⟨fun i m H2 => i + m = xs.length ∧ ∃ acc n F2 us, Same F1 F2 ∧ Rep B ⟨n, δ1.s⟩ σ F2 H2 ∧ H2 D = some (.lst us) ∧ F2 D = none ∧ DqAll B.K F2 us acc ∧ acc.length ≤ i ∧ I i acc n,
      ⟨xs.length, by simp, [], δ1.n, F1, [], Same.refl _, r1.side hF hB hap, upd_same, hF, .nil, Nat.le_refl _, h0⟩, fun i m H2 hW => ?_⟩
    obtain ⟨em, acc, n, F2, us, e2, r2, hD2, hF2, hus, hl, hi⟩ := hW
    by_cases hlt : i < xs.length
    · refine .inr ⟨w.go i _ σ F2 H2 e2 r2 hlt, fun H' => ∃ acc n F3 us, Same F1 F3 ∧ Rep B ⟨n, δ1.s⟩ σ F3 H' ∧ H' D = some (.lst us) ∧ F3 D = none ∧ DqAll B.K F3 us acc ∧ acc.length ≤ i + 1 ∧ I (i + 1) acc n, fun H' p => ⟨m - 1, by omega, by omega, p⟩, fun x H' hy => ?_⟩
      obtain ⟨F3, e3, r3, s3, f3, d3⟩ := w.yld i _ σ F2 H2 x H' xs[i] e2 r2 (List.getElem?_eq_getElem hlt) hy
      have hD3 : H' D = some (.lst us) := s3 _ _ hD2
      have hF3 : F3 D = none := f3 D hF2 (by rw [hD2]; exact fun z => by cases z)
      have ri := r3.inner vs
      refine hs ⟨F3, H', B.p, B.m⟩ i xs[i] acc n ⟨rfl, r3.f0, r3.fr, r3.kp⟩ (List.getElem?_eq_getElem hlt) hl hi (wipe σ vs) F3 H' ri x d3 _ fun δ2 σ2 r4 k1 k2 p4 => ?_
      refine ⟨wipe_same (fun j hj => k1 j fun z => hj (hix j z)) k2, ?_⟩
      refine p4 σ2 F3 H' r4 _ fun b δ3 F5 H5 e5 r5 p5 => ?_
      have fin : ∀ {δ6 : St'} {F6 H6 : Hp}, Same F3 F6 → Rep ⟨⟨F3, H', B.p, B.m⟩, B.w, B.K⟩ δ6 σ2 F6 H6 → Rep B ⟨δ6.n, δ1.s⟩ σ F6 H6 ∧ H6 D = some (.lst us) ∧ F6 D = none := fun {δ6 F6 H6} e6 r6 =>
        ⟨r3.outer r6, r6.kp D _ hD3 hp, r6.fr D hF3 (by show H' D ≠ none; rw [hD3]; exact fun z => by cases z)⟩
      cases b with
      | true =>
        refine iteT ((show WE _ te δ3 _ from p5) σ2 F5 H5 r5 _ fun v z δ6 F6 H6 e6 r6 d6 p6 => ?_)
        obtain ⟨q1, q2, q3⟩ := fin (e5.trans e6) r6
        refine ⟨us, q2, Nat.lt_of_lt_of_le (Nat.lt_of_le_of_lt (by rw [dpAll_len hus]; exact hl) hlt) (Nat.le_trans hz (by decide)), acc ++ [z], δ6.n, F6, us ++ [v], ((e2.trans e3).trans e5).trans e6, q1.side q3 hB hap, upd_same, q3, dpAll_app (dpAll_mono ((e3.trans e5).trans e6) _ _ hus) (.cons d6 .nil), by simp; omega, p6⟩
      | false =>
        obtain ⟨q1, q2, q3⟩ := fin e5 r5
        exact iteF ⟨acc, δ3.n, F5, us, (e2.trans e3).trans e5, q1, q2, q3, dpAll_mono (e3.trans e5) _ _ hus, by omega, p5⟩
    · have : i = xs.length := by omega
      subst this
      exact .inl ⟨w.stop _ _ σ F2 H2 e2 r2 (Nat.le_refl _), q D us acc ⟨n, δ1.s⟩ F2 H2 (e1.trans e2) r2 hB hF2 hD2 hap hus (hd acc n hl hi)⟩
/-- within a comprehension's block -/
def bE (X : Cx) (scope : Scope) (e : Expr) : TE := fun σ H Q => ∀ s0 H0 C cl fp, wE (X.blk s0 H0 scope (compEnvC scope cl C X.env) fp) e σ H Q
def bT (X : Cx) (scope : Scope) (e : Expr) : TT := fun σ H Q => ∀ s0 H0 C cl fp, wT (X.blk s0 H0 scope (compEnvC scope cl C X.env) fp) e σ H Q
theorem bE_of {B : B0} {X : Cx} {scope : Scope} {e : Expr} {δ : St'} {Φ : PE1} (h : ∀ s0 H0 C cl fp, DE B (X.blk s0 H0 scope (compEnvC scope cl C X.env) fp) e δ Φ) : WE (bs X B) (bE X scope e) δ Φ := fun σ F H r Q q s0 H0 C cl fp => h s0 H0 C cl fp σ F H r Q q
theorem bT_of {B : B0} {X : Cx} {scope : Scope} {e : Expr} {δ : St'} {Φ : Bool → St' → Prop} (h : ∀ s0 H0 C cl fp, DT B (X.blk s0 H0 scope (compEnvC scope cl C X.env) fp) e δ Φ) : WT (bs X B) (bT X scope e) δ Φ := fun σ F H r Q q s0 H0 C cl fp => h s0 H0 C cl fp σ F H r Q q
theorem tYes_of {B : Bs} {δ : St'} {Φ : Bool → St' → Prop} (h : Φ true δ) : WT B tYes δ Φ := fun σ F H r Q q => q true δ F H (Same.refl F) r h
section
variable {B : B0} {X : Cx} {elt cnd tg iter : Expr} {scope : Scope} {own : List (Str × Nat)} {δ : St'} {Φ : List PyData → St' → Prop} {pos : Pos} {wi : TI} {g : TG}
/-- [elt for tg in iter] -/
theorem dl_lc (own : List (Str × Nat)) (hN : X.N.Nodup) (hi : PI X tg iter wi) (ok : BlkOk X.N X.env.scope scope own)
    (hg : ∀ (s : Shared) (H : Hp) (C : Addr) (cl : List (Str × Addr)) (fp : List Addr), PG (X.blk s H scope (compEnvC scope cl C X.env) fp) tg g)
    (h : WI (bs X B) wi δ fun xs δ1 => xs.length ≤ 100000 ∧ ∃ I : Nat → List PyData → Nat → Prop, I 0 [] δ1.n ∧
      (∀ (B' : B0) i y acc n, Sub B B' → xs[i]? = some y → acc.length ≤ i → I i acc n → WG (bs X B') g (own.map (·.2)) y ⟨n, inn (own.map (·.2)) 0 δ1.s⟩ fun δ2 =>
        ∀ s0 H0 C cl fp, DE B' (X.blk s0 H0 scope (compEnvC scope cl C X.env) fp) elt δ2 fun z δ4 => I (i + 1) (acc ++ [z]) δ4.n) ∧
      ∀ acc n, acc.length ≤ xs.length → I xs.length acc n → Φ acc ⟨n, δ1.s⟩) (hc : X.calm = true := by rfl) (hs : ∀ x, foldedSetIterable iter X.env x = pure x := by intro _; rfl) : DLs B X (.ListComp elt [⟨tg, iter, [], 0⟩] scope pos) δ Φ :=
  .of (pe_lc (te := bE X scope elt) hc hN hi ok hg (fun _ _ _ _ _ => pts_nil) (fun s H C cl fp => ⟨fun pins s' σ H' Q I h => h s H C cl fp pins s' I⟩) hs) (wl_lc (fun _ z => z) fun σ F H r R q => h σ F H r R fun J xs δ' F' H' e r' w ⟨hz, I, h0, h1, h2⟩ =>
    q J xs δ' F' H' e r' w ⟨hz, I, h0, fun B' i y acc n hp hy hl hi σ F H r v d Q qq => h1 B' i y acc n hp hy hl hi σ F H r v d Q fun δ2 σ2 r2 k1 k2 p => qq δ2 σ2 r2 k1 k2 (tYes_of (by
      rw [if_pos rfl]
      exact bE_of p)), h2⟩)
/-- [elt for tg in iter if cnd] -/
theorem dl_lcIf (own : List (Str × Nat)) (hN : X.N.Nodup) (hi : PI X tg iter wi) (ok : BlkOk X.N X.env.scope scope own)
    (hg : ∀ (s : Shared) (H : Hp) (C : Addr) (cl : List (Str × Addr)) (fp : List Addr), PG (X.blk s H scope (compEnvC scope cl C X.env) fp) tg g)
    (h : WI (bs X B) wi δ fun xs δ1 => xs.length ≤ 100000 ∧ ∃ I : Nat → List PyData → Nat → Prop, I 0 [] δ1.n ∧
      (∀ (B' : B0) i y acc n, Sub B B' → xs[i]? = some y → acc.length ≤ i → I i acc n → WG (bs X B') g (own.map (·.2)) y ⟨n, inn (own.map (·.2)) 0 δ1.s⟩ fun δ2 =>
        ∀ s0 H0 C cl fp, DT B' (X.blk s0 H0 scope (compEnvC scope cl C X.env) fp) cnd δ2 fun b δ3 => if b = true then ∀ s0 H0 C cl fp, DE B' (X.blk s0 H0 scope (compEnvC scope cl C X.env) fp) elt δ3 fun z δ4 => I (i + 1) (acc ++ [z]) δ4.n else I (i + 1) acc δ3.n) ∧
      ∀ acc n, acc.length ≤ xs.length → I xs.length acc n → Φ acc ⟨n, δ1.s⟩) (hc : X.calm = true := by rfl) (hs : ∀ x, foldedSetIterable iter X.env x = pure x := by intro _; rfl) : DLs B X (.ListComp elt [⟨tg, iter, [cnd], 0⟩] scope pos) δ Φ :=
  .of (pe_lc (te := bE X scope elt) hc hN hi ok hg (fun s H C cl fp => pts_one (t := bT X scope cnd) ⟨fun pins s' σ H' Q I h => h s H C cl fp pins s' I⟩) (fun s H C cl fp => ⟨fun pins s' σ H' Q I h => h s H C cl fp pins s' I⟩) hs) (wl_lc (fun _ z => z) fun σ F H r R q => h σ F H r R fun J xs δ' F' H' e r' w ⟨hz, I, h0, h1, h2⟩ =>
    q J xs δ' F' H' e r' w ⟨hz, I, h0, fun B' i y acc n hp hy hl hi σ F H r v d Q qq => h1 B' i y acc n hp hy hl hi σ F H r v d Q fun δ2 σ2 r2 k1 k2 p => qq δ2 σ2 r2 k1 k2 (WT.mono (bT_of p) fun b δ3 pb => by
      cases b with
      | true =>
        rw [if_pos rfl] at pb ⊢
        exact bE_of pb
      | false =>
        rw [if_neg Bool.false_ne_true] at pb ⊢
        exact pb), h2⟩)
end
end DL
set_option maxHeartbeats 200000
set_option Elab.async false
set_option linter.all false
set_option maxRecDepth 100000
namespace DL
open PySem PySem.Spec PyProof.Rows L2
/-- a def without a pot: from these things to something of which Φ holds -/
abbrev SpD := List PyData → (PyData → Prop) → Prop
/-- a def that is handed the pot ahead -/
abbrev SpP := Nat → List PyData → (PyData → Nat → Prop) → Prop
def spD (K : PySem.W.Frag) (S : SpD) : Sp := fun vs H Q _ => ∃ F ds Φ, Same F H ∧ DqAll K F vs ds ∧ S ds Φ ∧
  ∀ v x F' H', Same F F' → Same F' H' → (∀ b, F b = none → H b ≠ none → F' b = none) → (∀ b o, H b = some o → H' b = some o) → Dq K F' v x → Φ x → Q v H'
def spP (K : PySem.W.Frag) (S : SpP) : Sp := fun vs H Q _ => ∃ F p vs' ds n Φ, vs = .ref p :: vs' ∧ Same F H ∧ F p = none ∧ PotAt none H p n ∧ DqAll K F vs' ds ∧ S n ds Φ ∧
  ∀ v x n' F' H', Same F F' → Same F' H' → (∀ b, F b = none → H b ≠ none → F' b = none) → (∀ b o, H b = some o → b ≠ p → H' b = some o) → PotAt none H' p n' → Dq K F' v x → Φ x n' → Q v H'
/-- the state at a def's begin -/
def ini (N : List Str) (cs : List C) (n : Nat) : St' := ⟨n, cs.map some ++ List.replicate (N.length - cs.length) none⟩
theorem start_get {N : List Str} {vs : List V} {cs : List C} {i : Nat} {c : C} (hl : vs.length = cs.length) (h : (ini N cs n).s[i]? = some (some c)) : ∃ v, (L2.start N vs)[i]? = some (some v) ∧ vs[i]? = some v ∧ cs[i]? = some c := by
  have h' : (cs.map some ++ List.replicate (N.length - cs.length) none)[i]? = some (some c) := h
  by_cases hi : i < cs.length
  · rw [List.getElem?_append_left (by simpa using hi), List.getElem?_map, Option.map_eq_some_iff] at h'
    obtain ⟨c', h1, h2⟩ := h'
    injection h2 with h2
    subst h2
    have hv : i < vs.length := by omega
    refine ⟨vs[i], ?_, List.getElem?_eq_getElem hv, h1⟩
    unfold L2.start
    rw [List.getElem?_append_left (by simpa using hv), List.getElem?_map, List.getElem?_eq_getElem hv]
    rfl
  · rw [List.getElem?_append_right (by simpa using hi), List.getElem?_replicate] at h'
    split at h' <;> cases h'
theorem start_len {N : List Str} {vs : List V} {cs : List C} {n : Nat} (hl : vs.length = cs.length) : (L2.start N vs).length = (ini N cs n).s.length := by
  simp [L2.start, ini, hl]
section
variable {K : PySem.W.Frag} {w : World}
theorem rep_iniD {N : List Str} {F H : Hp} {vs : List V} {ds : List PyData} (e : Same F H) (h : DqAll K F vs ds) : Rep ⟨⟨F, H, none, none⟩, w, K⟩ (ini N (ds.map C.d) 0) (L2.start N vs) F H := by
  have hl : vs.length = (ds.map C.d).length := by rw [dpAll_len h]; simp
  refine ⟨e, Same.refl _, fun b z _ => z, fun b o z _ => z, fun a z => (by cases z), fun i c hi => ?_, start_len hl, fun i j c c' hij h1 h2 o1 o2 => ?_⟩
  · obtain ⟨v, h1, h2, h3⟩ := start_get hl hi
    rw [List.getElem?_map, Option.map_eq_some_iff] at h3
    obtain ⟨d, h4, h5⟩ := h3
    subst h5
    obtain ⟨v', q1, q2⟩ := dpAll_get h h4
    rw [h2] at q1
    injection q1 with q1
    subst q1
    exact ⟨v, h1, q2⟩
  · obtain ⟨v, _, _, q⟩ := start_get hl h1
    rw [List.getElem?_map, Option.map_eq_some_iff] at q
    obtain ⟨d, _, e⟩ := q
    subst e
    cases o1
theorem rep_iniP {N : List Str} {F H : Hp} {p : Addr} {vs : List V} {ds : List PyData} {n : Nat} (e : Same F H) (hp : F p = none) (pot : PotAt none H p n) (h : DqAll K F vs ds) : Rep ⟨⟨F, H, some p, none⟩, w, K⟩ (ini N (.pot :: ds.map C.d) n) (L2.start N (.ref p :: vs)) F H := by
  have hl : (V.ref p :: vs).length = (C.pot :: ds.map C.d).length := by simp [dpAll_len h]
  have hc : ∀ {i : Nat} {c : C}, (C.pot :: ds.map C.d)[i]? = some c → (i = 0 ∧ c = .pot) ∨ ∃ j d, i = j + 1 ∧ ds[j]? = some d ∧ c = .d d := fun {i c} z => by
    cases i with
    | zero => simp at z; exact .inl ⟨rfl, z.symm⟩
    | succ j =>
      simp only [List.getElem?_cons_succ, List.getElem?_map, Option.map_eq_some_iff] at z
      obtain ⟨d, h1, h2⟩ := z
      exact .inr ⟨j, d, rfl, h1, h2.symm⟩
  refine ⟨e, Same.refl _, fun b z _ => z, fun b o z _ => z, fun a z => ?_, fun i c hi => ?_, start_len hl, fun i j c c' hij h1 h2 o1 o2 => ?_⟩
  · injection z with z
    subst z
    refine ⟨hp, ?_, pot⟩
    obtain ⟨x, y, z, h3, _⟩ := pot
    show H p ≠ none
    rw [h3]; exact fun q => by cases q
  · obtain ⟨v, h1, h2, h3⟩ := start_get hl hi
    rcases hc h3 with ⟨rfl, rfl⟩ | ⟨j, d, rfl, h4, rfl⟩
    · simp at h2
      subst h2
      exact ⟨_, h1, p, rfl, rfl, rfl⟩
    · obtain ⟨v', q1, q2⟩ := dpAll_get h h4
      rw [List.getElem?_cons_succ, q1] at h2
      injection h2 with h2
      subst h2
      exact ⟨_, h1, q2⟩
  · obtain ⟨v, _, _, q⟩ := start_get hl h1
    rcases hc q with ⟨_, rfl⟩ | ⟨_, _, _, _, rfl⟩ <;> cases o1
end
abbrev bodyX (P : Program) (w : World) (K : PySem.W.Frag) (mg : Str → Option Value) (base : Heap) (N : List Str) (qual : Str) (sc : Scope) (f : Addr) (cdv : Value) (A : Around) (outer : List Env) (s : Shared) (H : Hp) (E : XK) : Cx := (cxOf CX0 P w K mg base N qual sc f cdv A outer s H E).nox
section
variable {P : Program} {w : World} {K : PySem.W.Frag} {mg : Str → Option Value} {base : Heap} {x qual : Str} {st : Stmt} {f : Addr} {fd : FuncData} {N ps : List Str} {k : Nat}
theorem fnD {S : SpD} {dvs : List V} {kws : List (Str × V)} (F : FunD K x qual (defArgs st) (defBody st) (defScope st) dvs kws f fd) (sc : FnScope N ps (defScope st)) (len : ∀ ds Φ, S ds Φ → ds.length = ps.length)
    (body : ∀ (B : B0) (cdv : Value) (A : Around) (outer : List Env) (s : Shared) (H : Hp) (E : XK) (ds : List PyData) (Φ : PyData → Prop), Room k (A.deeper (envOfC qual (defScope st) s.heap.objs.size f cdv)) → B.p = none → S ds Φ →
      DSs B (bodyX P w K mg base N qual (defScope st) f cdv A outer s H E) (defBody st) (ini N (ds.map C.d) 0) (fun _ => Φ .none) fun x _ => Φ x) : FnOk P w K mg base CX0 (k + 1) f fd ps (spD K S) := by
  refine F.ok sc (fun vs H Q E h => ?_) (fun cdv A outer s H vs Q E hr h => ?_)
  · obtain ⟨F', ds, Φ, _, hd, hS, _⟩ := h
    rw [dpAll_len hd]; exact len ds Φ hS
  · obtain ⟨F', ds, Φ, e, hd, hS, q⟩ := h
    refine ⟨_, PSs.nox pss_w, ?_⟩
    refine body ⟨F', H, none, none⟩ cdv A outer s H E ds Φ hr rfl hS (L2.start N vs) F' H (rep_iniD e hd) _ (fun δ' σ' F2 H2 e2 r2 p => ?_) fun v x δ' σ' F2 H2 e2 r2 d2 p => ?_
    · exact q .non .none F2 H2 e2 r2.ex r2.fr (fun b o z => r2.kp b o z (fun y => by cases y)) .non p
    · exact q v x F2 H2 e2 r2.ex r2.fr (fun b o z => r2.kp b o z (fun y => by cases y)) d2 p
theorem fnP {S : SpP} {dvs : List V} {kws : List (Str × V)} (F : FunD K x qual (defArgs st) (defBody st) (defScope st) dvs kws f fd) (sc : FnScope N ps (defScope st)) (len : ∀ n ds Φ, S n ds Φ → ds.length + 1 = ps.length)
    (body : ∀ (B : B0) (cdv : Value) (A : Around) (outer : List Env) (s : Shared) (H : Hp) (E : XK) (n : Nat) (ds : List PyData) (Φ : PyData → Nat → Prop), Room k (A.deeper (envOfC qual (defScope st) s.heap.objs.size f cdv)) → B.p ≠ none → S n ds Φ →
      DSs B (bodyX P w K mg base N qual (defScope st) f cdv A outer s H E) (defBody st) (ini N (.pot :: ds.map C.d) n) (fun δ => Φ .none δ.n) fun x δ => Φ x δ.n) : FnOk P w K mg base CX0 (k + 1) f fd ps (spP K S) := by
  refine F.ok sc (fun vs H Q E h => ?_) (fun cdv A outer s H vs Q E hr h => ?_)
  · obtain ⟨F', p, vs', ds, n, Φ, rfl, _, _, _, hd, hS, _⟩ := h
    rw [List.length_cons, dpAll_len hd]; exact len n ds Φ hS
  · obtain ⟨F', p, vs', ds, n, Φ, rfl, e, hp, hpot, hd, hS, q⟩ := h
    refine ⟨_, PSs.nox pss_w, ?_⟩
    refine body ⟨F', H, some p, none⟩ cdv A outer s H E n ds Φ hr (fun z => by cases z) hS (L2.start N (.ref p :: vs')) F' H (rep_iniP e hp hpot hd) _ (fun δ' σ' F2 H2 e2 r2 z => ?_) fun v x δ' σ' F2 H2 e2 r2 d2 z => ?_
    · exact q .non .none δ'.n F2 H2 e2 r2.ex r2.fr (fun b o h1 h2 => r2.kp b o h1 fun y => h2 (by injection y with y; exact y.symm)) (r2.pot p rfl).2.2 .non z
    · exact q v x δ'.n F2 H2 e2 r2.ex r2.fr (fun b o h1 h2 => r2.kp b o h1 fun y => h2 (by injection y with y; exact y.symm)) (r2.pot p rfl).2.2 d2 z
end
/-- a def of the text, with what stands for the arguments that aren't written -/
abbrev Fd (K : PySem.W.Frag) (x : Str) (st : Stmt) (dvs : List V) (kws : List (Str × V)) (f : Addr) (fd : FuncData) : Prop := FunD K x x (defArgs st) (defBody st) (defScope st) dvs kws f fd
theorem Rep.potH {B : Bs} {δ : St'} {σ : List (Option V)} {F H : Hp} (r : Rep B δ σ F H) {a : Addr} (h : B.p = some a) : H a ≠ none := by
  obtain ⟨_, _, x, y, z, h3, _⟩ := r.pot a h
  rw [h3]
  exact fun q => by cases q
/-- behind a call -/
theorem Rep.called {B : Bs} {δ : St'} {σ : List (Option V)} {F H F' H' : Hp} (r : Rep B δ σ F H) (e1 : Same F F') (e2 : Same F' H') (fr : ∀ b, F b = none → H b ≠ none → F' b = none) (kp : ∀ b o, H b = some o → H' b = some o) : Rep B δ σ F' H' := by
  have ri : Rep ⟨⟨F, H, B.p, B.m⟩, B.w, B.K⟩ ⟨δ.n, []⟩ [] F' H' := ⟨e2, e1, fr, fun b o h _ => kp b o h, fun a h => ⟨r.potF h, (r.potH h), (by
    obtain ⟨_, _, x, y, z, h3, h4⟩ := r.pot a h
    exact ⟨x, y, z, kp _ _ h3, h4⟩)⟩, fun i c h => by simp at h, rfl, fun i j c c' _ h => by simp at h⟩
  exact r.outer (δ' := ⟨_, []⟩) ri
theorem Rep.calledP {B : Bs} {δ : St'} {σ : List (Option V)} {F H F' H' : Hp} {p : Addr} {n' : Nat} (r : Rep B δ σ F H) (hp : B.p = some p) (e1 : Same F F') (e2 : Same F' H') (fr : ∀ b, F b = none → H b ≠ none → F' b = none) (kp : ∀ b o, H b = some o → b ≠ p → H' b = some o) (pot : PotAt B.m H' p n') : Rep B ⟨n', δ.s⟩ σ F' H' := by
  have ri : Rep ⟨⟨F, H, B.p, B.m⟩, B.w, B.K⟩ ⟨n', []⟩ [] F' H' := ⟨e2, e1, fr, fun b o h q => kp b o h fun z => q (by rw [z]; exact hp), fun a h => ⟨r.potF h, (r.potH h), (by
    have : a = p := by
      have h' : B.p = some a := h
      rw [hp] at h'
      injection h' with h'
      exact h'.symm
    rw [this]
    exact pot)⟩, fun i c h => by simp at h, rfl, fun i j c c' _ h => by simp at h⟩
  exact r.outer (δ' := ⟨_, []⟩) ri
section
variable {B : B0} {X : Cx} {e : Expr} {es : List Expr} {kws : List Keyword} {δ : St'} {Φ : PE1} {p pos pp : Pos} {k : Nat} {f : Addr} {fd : FuncData} {ps ks : List Str} {x pn : Str} {dvs : List V} {dds : List Value} {dd : List PyData}
theorem we_callD {ta : TA} {S : SpD} (hd : ∀ F, DqAll X.K F dvs dd) (h : WA (bs X B) ta δ fun ds δ' => S (ds ++ dd) fun y => Φ y δ') : WE (bs X B) (tCall (spD X.K S) dvs E0 ta) δ Φ := fun σ F H r Q q =>
  h σ F H r _ fun vs ds δ' F' H' e1 r' d hS => ⟨F', ds ++ dd, _, r'.ex, dpAll_app d (hd F'), hS, fun v y F2 H2 q1 q2 q3 q4 q5 q6 => q v y δ' F2 H2 (e1.trans q1) (r'.called q1 q2 q3 q4) q5 q6⟩
theorem we_callP {ta : TA} {S : SpP} {i : Nat} (hi : δ.s[i]? = some (some .pot)) (hd : ∀ F, DqAll X.K F dvs dd) (h : WA (bs X B) ta δ fun ds δ' => S δ'.n (ds ++ dd) fun y n' => Φ y ⟨n', δ'.s⟩) : WE (bs X B) (tCall (spP X.K S) dvs E0 (tCons (tVar i) ta)) δ Φ := fun σ F H r Q q => by
  obtain ⟨v, hv, a, rfl, hp, hm⟩ := r.cell i _ hi
  refine ⟨.ref a, hv, h σ F H r _ fun vs ds δ' F' H' e1 r' d hS => ?_⟩
  exact ⟨F', a, vs ++ dvs, ds ++ dd, δ'.n, _, rfl, r'.ex, r'.potF hp, hm ▸ (r'.pot a hp).2.2, dpAll_app d (hd F'), hS, fun v y n' F2 H2 q1 q2 q3 q4 q5 q6 q7 => q v y ⟨n', δ'.s⟩ F2 H2 (e1.trans q1) (r'.calledP hp q1 q2 q3 q4 (hm ▸ q5)) q6 q7⟩
/-- f(e, ..) -/
theorem de_call {S : SpD} (G : FnOk X.prog X.w X.K X.mg X.base CX0 k f fd ps (spD X.K S)) (hr : Room k X.A) (hm : X.mg x = some (.ref f)) (hk : PySem.W.keepIn X.K (.ref f) = true) (hb : Binds X.K fd ps [])
    (h : DA B X (e :: es) δ fun ds δ' => S ds fun y => Φ y δ') (hg : Gl X x := by rfl) (hdb : (x == ("__debug__" : Str)) = false := by decide) (he : starEach (e :: es) X.env = (false, eval e X.env) :: starEach es X.env := by rfl) (hpl : (backTo pos (starEach es X.env)).any (·.1) = false := by rfl) :
    DE B X (.Call (.Name x p) (e :: es) [] pos) δ Φ := .of (pe_call G hr hg hm hk hb .nil pass0 pa_w hdb he hpl) (we_callD (dd := []) (fun _ => .nil) fun σ F H r Q q => h σ F H r Q fun vs ds δ' F' H' e1 r1 d p => q vs ds δ' F' H' e1 r1 d (by
    dsimp only
    rw [List.append_nil]; exact p))
/-- f(pot, e, ..) -/
theorem de_callP {S : SpP} (i : Nat) (G : FnOk X.prog X.w X.K X.mg X.base CX0 k f fd ps (spP X.K S)) (hr : Room k X.A) (hm : X.mg x = some (.ref f)) (hk : PySem.W.keepIn X.K (.ref f) = true) (hb : Binds X.K fd ps [])
    (h : DA B X es δ fun ds δ' => S δ'.n ds fun y n' => Φ y ⟨n', δ'.s⟩) (hi : δ.s[i]? = some (some .pot) := by rfl) (hN : X.N[i]? = some pn := by rfl)
    (hv : Vis X.env.scope pn := by first | exact Or.inl rfl | exact Or.inr (Or.inl rfl) | exact Or.inr (Or.inr rfl)) (hd : (pn == ("__debug__" : Str)) = false := by decide)
    (hcd : (pn == ("__classdict__" : Str)) = false := by decide) (hg : Gl X x := by rfl) (hdb : (x == ("__debug__" : Str)) = false := by decide) (he : starEach (.Name pn pp :: es) X.env = (false, eval (.Name pn pp) X.env) :: starEach es X.env := by rfl) (hpl : (backTo pos (starEach es X.env)).any (·.1) = false := by rfl) :
    DE B X (.Call (.Name x p) (.Name pn pp :: es) [] pos) δ Φ := .of (pe_call G hr hg hm hk hb .nil pass0 (pa_cons (pe_var hN hv hd hcd) pa_w he) hdb he hpl) (we_callP hi (dd := []) (fun _ => .nil) fun σ F H r Q q => h σ F H r Q fun vs ds δ' F' H' e1 r1 d p => q vs ds δ' F' H' e1 r1 d (by
    dsimp only
    rw [List.append_nil]; exact p))
end
end DL
set_option maxHeartbeats 200000
set_option Elab.async false
set_option linter.all false
set_option maxRecDepth 100000
namespace DL
open PySem PySem.Spec PyProof.Rows L2
structure Fn (P : Program) (w : World) (K : PySem.W.Frag) (mg : Str → Option Value) (base : Heap) (x : Str) (k : Nat) (ps : List Str) (sp : Sp) : Prop where
  ex : ∃ f fd, mg x = some (.ref f) ∧ PySem.W.keepIn K (.ref f) = true ∧ Binds K fd ps [] ∧ FnOk P w K mg base CX0 k f fd ps sp
section
variable {P : Program} {w : World} {K : PySem.W.Frag} {mg : Str → Option Value} {base : Heap} {x : Str} {ps : List Str} {sp : Sp}
theorem Fn.mono {j k : Nat} (h : Fn P w K mg base x j ps sp) (hk : j ≤ k) : Fn P w K mg base x k ps sp := by
  obtain ⟨f, fd, h1, h2, h3, h4⟩ := h.ex
  exact ⟨f, fd, h1, h2, h3, h4.mono hk⟩
end
section
variable {B : B0} {X : Cx} {a b c e : Expr} {es : List Expr} {δ : St'} {Φ : PE1} {p pos pp p2 : Pos} {k k' : Nat} {ps : List Str} {x pn : Str}
theorem de_f {S : SpD} (G : Fn X.prog X.w X.K X.mg X.base x k ps (spD X.K S)) (hr : Room k' X.A) (h : DA B X (e :: es) δ fun ds δ' => S ds fun y => Φ y δ') (hk : k ≤ k' := by decide)
    (hg : Gl X x := by rfl) (hdb : (x == ("__debug__" : Str)) = false := by decide) (he : starEach (e :: es) X.env = (false, eval e X.env) :: starEach es X.env := by rfl) (hpl : (backTo pos (starEach es X.env)).any (·.1) = false := by rfl) :
    DE B X (.Call (.Name x p) (e :: es) [] pos) δ Φ := by
  obtain ⟨f, fd, h1, h2, h3, h4⟩ := G.ex
  exact de_call h4 (hr.mono hk) h1 h2 h3 h hg hdb he hpl
theorem de_fP {S : SpP} (i : Nat) (G : Fn X.prog X.w X.K X.mg X.base x k ps (spP X.K S)) (hr : Room k' X.A) (h : DA B X es δ fun ds δ' => S δ'.n ds fun y n' => Φ y ⟨n', δ'.s⟩) (hk : k ≤ k' := by decide) (hi : δ.s[i]? = some (some .pot) := by rfl) (hN : X.N[i]? = some pn := by rfl)
    (hv : Vis X.env.scope pn := by first | exact Or.inl rfl | exact Or.inr (Or.inl rfl) | exact Or.inr (Or.inr rfl)) (hd : (pn == ("__debug__" : Str)) = false := by decide)
    (hcd : (pn == ("__classdict__" : Str)) = false := by decide) (hg : Gl X x := by rfl) (hdb : (x == ("__debug__" : Str)) = false := by decide) (he : starEach (.Name pn pp :: es) X.env = (false, eval (.Name pn pp) X.env) :: starEach es X.env := by rfl) (hpl : (backTo pos (starEach es X.env)).any (·.1) = false := by rfl) :
    DE B X (.Call (.Name x p) (.Name pn pp :: es) [] pos) δ Φ := by
  obtain ⟨f, fd, h1, h2, h3, h4⟩ := G.ex
  exact de_callP i h4 (hr.mono hk) h1 h2 h3 h hi hN hv hd hcd hg hdb he hpl
end
def noD : PyData → Bool
  | .dict _ => false
  | _ => true
def tyN : PyData → String
  | .none => "NoneType" | .bool _ => "bool" | .int _ => "int" | .str _ => "str" | .list _ => "list" | .tuple _ => "tuple" | .dict _ => "dict"
theorem tyX_dp {K : PySem.W.Frag} {H : Hp} {v : V} {d : PyData} (nd : ∀ kv, d ≠ .dict kv) (h : Dq K H v d) : TyX K H v (.type (tyN d)) := by
  cases h with
  | non => exact .base .non
  | bl b => exact .base (.bl b)
  | int i => exact .base (.int i)
  | str s => exact .base (.str s)
  | lst hs ha =>
    rcases hs with (h | ⟨o, h⟩) | ⟨o, its, n, h, c, _⟩
    · exact .base (.lst h)
    · exact .base (.frz h)
    · exact .kList h c
  | tup hs ha =>
    rcases hs with (h | ⟨o, h⟩) | ⟨o, its, n, h, c, _⟩
    · exact .base (.tup h)
    · exact .fTuple h
    · exact .kTuple h c
  | hd a => exact absurd rfl (nd _)
/-- isinstance(x, T), T a built-in class -/
def isT (T : String) (d : PyData) : Bool := match T, d with
  | "tuple", .tuple _ => true
  | "list", .list _ => true
  | "str", .str _ => true
  | "int", .int _ => true
  | "int", .bool _ => true
  | "bool", .bool _ => true
  | _, _ => false
def isTs (T ty : String) : Bool := (T == ty) || (T == "int" && ty == "bool")
theorem kit_tab : ∀ T ∈ ["tuple", "str", "int", "bool"], ∀ ty ∈ ["NoneType", "bool", "int", "str", "list", "tuple"], kitB ty T = some (isTs T ty) := by decide +kernel
theorem isT_tab : ∀ T ∈ ["tuple", "str", "int", "bool"], isTs T "NoneType" = false ∧ isTs T "list" = false ∧ isTs T "bool" = isT T (.bool true) ∧ isTs T "int" = isT T (.int 0) ∧ isTs T "str" = isT T (.str Str.empty) ∧ isTs T "tuple" = isT T (.tuple []) := by decide +kernel
theorem isT_same {T : String} (hT : T = "tuple" ∨ T = "str" ∨ T = "int" ∨ T = "bool") {d : PyData} (hd : ∀ kv, d ≠ .dict kv) : isTs T (tyN d) = isT T d := by
  have hm : T ∈ ["tuple", "str", "int", "bool"] := by rcases hT with rfl | rfl | rfl | rfl <;> simp
  obtain ⟨h1, h2, h3, h4, h5, h6⟩ := isT_tab T hm
  rcases hT with rfl | rfl | rfl | rfl <;> cases d <;> first | exact h1 | exact h2 | exact h3 | exact h4 | exact h5 | exact h6 | exact absurd rfl (hd _)
theorem kit_isT {T : String} (hT : T = "tuple" ∨ T = "str" ∨ T = "int" ∨ T = "bool") {d : PyData} (hd : ∀ kv, d ≠ .dict kv) : kitB (tyN d) T = some (isT T d) := by
  have hm : T ∈ ["tuple", "str", "int", "bool"] := by rcases hT with rfl | rfl | rfl | rfl <;> simp
  rw [← isT_same hT hd]
  refine kit_tab T hm (tyN d) ?_
  cases d <;> first | (simp [tyN]; done) | exact absurd rfl (hd _)
theorem de_isi {B : B0} {X : Cx} {a : Expr} {δ : St'} {Φ : PE1} {p p2 pos : Pos} {T : String} {tn : Str} (hm : X.mg "isinstance" = none) (hmT : X.mg tn = none) (hT : T = "tuple" ∨ T = "str" ∨ T = "int" ∨ T = "bool") (hv : bootBuiltins tn = some (.type T))
    (h : DE B X a δ fun d δ' => noD d = true ∧ Φ (.bool (isT T d)) δ') (hg : Gl X "isinstance" := by rfl) (hgT : Gl X tn := by rfl) (hn : tn ≠ "__name__" := by decide) (hdb : (tn == ("__debug__" : Str)) = false := by decide)
    (he : starEach [a, .Name tn p2] X.env = (false, eval a X.env) :: starEach [.Name tn p2] X.env := by rfl) (he2 : starEach [.Name tn p2] X.env = (false, eval (.Name tn p2) X.env) :: starEach [] X.env := by rfl) (hpl : (backTo pos (starEach [.Name tn p2] X.env)).any (·.1) = false := by rfl) :
    DE B X (.Call (.Name "isinstance" p) [a, .Name tn p2] [] pos) δ Φ :=
  .of (pe_callB call_isi hg hm (by decide +kernel) (pa_cons pe_w (pa_cons (pe_bltn (v := .ty T) hgT hmT hv rfl hn hdb) pa_nil he2) he) (by decide) (by decide) he hpl) fun σ F H r Q q => h σ F H r _ fun v d δ' F' H' e r' dd ⟨hn', p⟩ => by
    have nd : ∀ kv, d ≠ .dict kv := fun kv z => by subst z; cases hn'
    exact ⟨v, .ty T, .type (tyN d), .type T, isT T d, rfl, .ty T, tyX_dp nd (dp_mono r'.ex _ _ dd), kit_ty (kit_isT hT nd), q _ _ δ' F' H' e r' (.bl _) p⟩
end DL
set_option maxHeartbeats 200000
set_option Elab.async false
set_option linter.all false
set_option maxRecDepth 100000
namespace DL
open PySem PySem.Spec PyProof.Rows L2
def signs (s : Str) : List PyData := s.cps.toList.map fun c => PyData.str ⟨#[c]⟩
theorem signs_len {s : Str} : (signs s).length = s.cps.size := by simp [signs]
theorem wk_str {w : World} {K : PySem.W.Frag} {s : Str} {F : Hp} : Wk w K (Its s) (signs s) F where
  stop := fun B i δ σ F' H _ _ e r h => by rw [signs_len] at h; exact h
  go := fun B i δ σ F' H _ _ e r h => by rw [signs_len] at h; exact h
  yld := fun B i δ σ F' H v H' y _ _ e r h hy => by
    obtain ⟨e1, c, hc, rfl⟩ := hy
    subst e1
    simp only [signs, List.getElem?_map, Option.map_eq_some_iff] at h
    obtain ⟨c', h1, rfl⟩ := h
    have : s.cps.toList[i]? = some c := by rw [Array.getElem?_toList]; exact hc
    rw [this] at h1
    injection h1 with h1
    subst h1
    exact ⟨F', Same.refl _, r, Same.refl _, fun b z _ => z, .str _⟩
theorem wi_str {B : Bs} {te : TE} {δ : St'} {Ψ : List PyData → St' → Prop} (h : WE B te δ fun x δ' => ∃ s, x = .str s ∧ Ψ (signs s) δ') : WI B (iStr te) δ Ψ := fun σ F H r R q => h σ F H r _ fun v x δ' F' H' e r' d ⟨s, hx, p⟩ => by
  subst hx
  cases d
  exact ⟨s, rfl, q _ _ δ' F' H' e r' (Wk.at wk_str) p⟩
section
variable {B : B0} {X : Cx} {elt cnd tg iter : Expr} {scope : Scope} {δ : St'} {Φ : List PyData → St' → Prop} {pos : Pos} {wi : TI} {g : TG}
theorem take_snoc {α : Type} {l : List α} {i : Nat} {x : α} (h : l[i]? = some x) : l.take (i + 1) = l.take i ++ [x] := by
  rw [List.take_add_one, h]; rfl
theorem dl_map (own : List (Str × Nat)) (hN : X.N.Nodup) (hi : PI X tg iter wi) (ok : BlkOk X.N X.env.scope scope own)
    (hg : ∀ (s : Shared) (H : Hp) (C : Addr) (cl : List (Str × Addr)) (fp : List Addr), PG (X.blk s H scope (compEnvC scope cl C X.env) fp) tg g)
    (h : WI (bs X B) wi δ fun xs δ1 => xs.length ≤ 100000 ∧ ∃ f : PyData → PyData,
      (∀ (B' : B0) y, Sub B B' → y ∈ xs → WG (bs X B') g (own.map (·.2)) y ⟨δ1.n, inn (own.map (·.2)) 0 δ1.s⟩ fun δ2 =>
        ∀ s0 H0 C cl fp, DE B' (X.blk s0 H0 scope (compEnvC scope cl C X.env) fp) elt δ2 fun z δ4 => z = f y ∧ δ4.n = δ1.n) ∧ Φ (xs.map f) δ1) (hc : X.calm = true := by rfl) (hs : ∀ x, foldedSetIterable iter X.env x = pure x := by intro _; rfl) : DLs B X (.ListComp elt [⟨tg, iter, [], 0⟩] scope pos) δ Φ :=
  dl_lc own hN hi ok hg (fun σ F H r R q => h σ F H r R fun J xs δ1 F' H' e r' w ⟨hz, f, h1, h2⟩ => q J xs δ1 F' H' e r' w ⟨hz, fun i acc n => acc = (xs.take i).map f ∧ n = δ1.n, by simp, fun B' i y acc n hp hy _ ⟨ha, hn⟩ => by
    subst ha hn
    intro σ F H r v d Q qq
    refine h1 B' y hp (List.mem_of_getElem? hy) σ F H r v d Q fun δ2 σ2 r2 k1 k2 p => qq δ2 σ2 r2 k1 k2 fun s0 H0 C cl fp => DE.mono (p s0 H0 C cl fp) fun z δ4 ⟨e1, e2⟩ => ⟨?_, e2⟩
    rw [take_snoc hy, List.map_append, e1]; rfl, fun acc n _ ⟨ha, hn⟩ => by
    subst ha hn
    rw [List.take_length]; exact h2⟩) hc hs
theorem dl_filt (own : List (Str × Nat)) (hN : X.N.Nodup) (hi : PI X tg iter wi) (ok : BlkOk X.N X.env.scope scope own)
    (hg : ∀ (s : Shared) (H : Hp) (C : Addr) (cl : List (Str × Addr)) (fp : List Addr), PG (X.blk s H scope (compEnvC scope cl C X.env) fp) tg g)
    (h : WI (bs X B) wi δ fun xs δ1 => xs.length ≤ 100000 ∧ ∃ (keep : PyData → Bool) (f : PyData → PyData),
      (∀ (B' : B0) y, Sub B B' → y ∈ xs → WG (bs X B') g (own.map (·.2)) y ⟨δ1.n, inn (own.map (·.2)) 0 δ1.s⟩ fun δ2 =>
        ∀ s0 H0 C cl fp, DT B' (X.blk s0 H0 scope (compEnvC scope cl C X.env) fp) cnd δ2 fun b δ3 => b = keep y ∧ δ3.n = δ1.n ∧ (keep y = true → ∀ s0 H0 C cl fp, DE B' (X.blk s0 H0 scope (compEnvC scope cl C X.env) fp) elt δ3 fun z δ4 => z = f y ∧ δ4.n = δ1.n)) ∧ Φ ((xs.filter keep).map f) δ1) (hc : X.calm = true := by rfl) (hs : ∀ x, foldedSetIterable iter X.env x = pure x := by intro _; rfl) : DLs B X (.ListComp elt [⟨tg, iter, [cnd], 0⟩] scope pos) δ Φ :=
  dl_lcIf own hN hi ok hg (fun σ F H r R q => h σ F H r R fun J xs δ1 F' H' e r' w ⟨hz, keep, f, h1, h2⟩ => q J xs δ1 F' H' e r' w ⟨hz, fun i acc n => acc = ((xs.take i).filter keep).map f ∧ n = δ1.n, by simp, fun B' i y acc n hp hy _ ⟨ha, hn⟩ => by
    subst ha hn
    intro σ F H r v d Q qq
    refine h1 B' y hp (List.mem_of_getElem? hy) σ F H r v d Q fun δ2 σ2 r2 k1 k2 p => qq δ2 σ2 r2 k1 k2 fun s0 H0 C cl fp => DT.mono (p s0 H0 C cl fp) fun b δ3 ⟨e1, e2, e3⟩ => ?_
    subst e1
    cases hk : keep y with
    | true =>
      rw [if_pos rfl]
      intro s1 H1 C1 cl1 fp1
      refine DE.mono (e3 hk s1 H1 C1 cl1 fp1) fun z δ4 ⟨q1, q2⟩ => ⟨?_, q2⟩
      rw [take_snoc hy, List.filter_append, List.map_append, q1]
      simp [hk]
    | false =>
      rw [if_neg Bool.false_ne_true]
      refine ⟨?_, e2⟩
      rw [take_snoc hy, List.filter_append]
      simp [hk], fun acc n _ ⟨ha, hn⟩ => by
    subst ha hn
    rw [List.take_length]; exact h2⟩) hc hs
end
end DL
set_option maxHeartbeats 200000
set_option maxHeartbeats 200000
set_option Elab.async false
set_option linter.all false
set_option maxRecDepth 100000
namespace LX
open PySem PySem.Spec PyProof.Rows
section
variable {P : Program} {w : World} {A : Around} {E : Value → Shared → Prop} {s : Shared}
/-- what a set holds while it is filled from things, one by one -/
structure Fill (P : Program) (w : World) (A : Around) (n : Nat) (Pv : Nat → Value → Prop) (J : Nat → Heap → Addr → Prop) : Prop where
  zero : ∀ (h : Heap) (S : Addr), h.get? S = some { cls := .type "set", dict := none, data := .set #[] 0 (.fresh 0 0 (!w.params.followText "set-order")) } → J 0 h S
  keeps : ∀ i (h h' : Heap) (S : Addr), J i h S → (∀ o, h.get? S = some o → h'.get? S = some o) → J i h' S
  step : ∀ i v (S : Addr) (E : Value → Shared → Prop) (s : Shared) (Q : Bool → Shared → Prop), i < n → Pv i v → J i s.heap S → (∀ (h' : Heap) (tk : Nat) (u : Bool), s.toks ≤ tk → Heap.SameBut S s.heap h' → J (i + 1) h' S → Q u { s with heap := h', toks := tk }) → wpAny (model P w) A (setAdd S v) Q E s
theorem fill_loop {I : Addr} {fp wr : List Addr} {G : Array GenState → Array GenState → Prop} {n : Nat} {Pv : Nat → Value → Prop} {St : Nat → Shared → Prop} {R : Result → Shared → Prop} {J : Nat → Heap → Addr → Prop}
    (W : WalksS P w A.in1 I fp wr G n Pv St) (Z : Fill P w A.in1 n Pv J) (S : Addr) (nin : S ∉ fp) :
    ∀ (k i : Nat) (s : Shared), n - i = k → i ≤ n → St i s → J i s.heap S →
      (∀ s', Moved (S :: wr) G s s' → J n s'.heap S → R (.ok (.ret .none)) s') →
      codeAny (model P w) A (.builtin "set.update.loop" ⟨[.ref S, .ref I], []⟩) R s := by
  have nwr : S ∉ wr := fun z => nin (W.sub _ z)
  have more : ∀ b ∈ wr, b ∈ S :: wr := fun b z => List.mem_cons_of_mem _ z
  intro k
  induction k with
  | zero =>
    intro i t ek le st0 j0 fin
    obtain rfl : i = n := by omega
    refine codeAny_builtin F.entry_set_update_loop ?_
    rw [Around.under_plainId F.plain_set_update_loop _]
    show wpAny _ A.in1 (pyNext (.ref I) >>= _) _ _ t
    refine wpAny_bind (W.done t _ _ st0 fun t' mv => ?_)
    show wpAny _ A.in1 (ret Value.none) _ _ t'
    exact wpAny_pure (fin t' (mv.mono more) (Z.keeps _ _ _ _ j0 fun o z => mv.heap S o nwr z))
  | succ k ih =>
    intro i t ek le st0 j0 fin
    have lt : i < n := by omega
    refine codeAny_builtin F.entry_set_update_loop ?_
    rw [Around.under_plainId F.plain_set_update_loop _]
    show wpAny _ A.in1 (pyNext (.ref I) >>= _) _ _ t
    refine wpAny_bind (W.item i t _ _ lt st0 fun v t' pv st1 mv => ?_)
    show wpAny _ A.in1 (holding [v] (setAdd S v) >>= _) _ _ t'
    refine wpAny_bind (wpAny_holding ?_)
    refine Z.step i v S _ t' _ lt pv (Z.keeps _ _ _ _ j0 fun o z => mv.heap S o nwr z) fun h' tk u htk sb j1 => ?_
    refine wpAny_pure ⟨plainId_quiet F.plain_set_update_loop _, ih (i + 1) _ (by omega) lt (W.frame _ t' _ _ st1 htk fun b zb o z => ?_) j1 fun t'' mv2 j2 => ?_⟩
    · have nb : b ≠ S := fun q => nin (by rw [← q]; exact zb)
      exact (sb.2 b nb).trans z
    · refine fin t'' (Moved.trans W.gtrans ((mv.mono more).then_heap htk fun b o zb z => ?_) mv2) j2
      have nb : b ≠ S := fun q => zb (by rw [q]; exact List.mem_cons_self)
      exact (sb.2 b nb).trans z
end
end LX
set_option maxHeartbeats 200000
set_option Elab.async false
set_option linter.all false
set_option maxRecDepth 100000
namespace LX
open PySem PySem.Spec PyProof.Rows
section
variable {P : Program} {w : World} {A : Around} {E : Value → Shared → Prop} {s : Shared}
set_option maxHeartbeats 3200000 in
/-- set(l) of a list -/
theorem call_fill_list {l : Addr} {items : Array Value} {J : Nat → Heap → Addr → Prop} {Q : Value → Shared → Prop} (calm : A.handled = none) (isl : s.heap.IsList l items)
    (Z : ∀ A', Fill P w A' items.size (fun i v => items[i]? = some v) J)
    (fin : ∀ (h' : Heap) (tk : Nat), J items.size h' s.heap.objs.size → (∀ b o, s.heap.get? b = some o → h'.get? b = some o) → Q (.ref s.heap.objs.size) { s with heap := h', toks := tk }) :
    wpAny (model P w) A (call (.type "set") [.ref l]) Q E s := by
  obtain ⟨c0, t0, m0⟩ := F.called_set.mro
  have k1 := F.called_set.made
  have k2 := F.called_set.sub
  refine wpAny_call (codeAny_of_tree ?_)
  show wpAny _ _ (callAny (.type "set") _) _ _ _
  refine wpAny_pure ⟨Code.quiet_builtin _ (by decide +kernel), codeAny_builtin F.entry_type_call ?_⟩
  rw [Around.under_plain (weight_type_call_type "set" [.ref l] []) rfl]
  have k3 := F.called_set.notType
  have k4 := F.called_set.canCreate
  have k5 := F.typeCall_set_1 (.ref l)
  repeat (any_goals (first | assumption | wp_step))
  refine codeAny_mono (L2.code_set_led1 (.ref l) (E := E) (Q₁ := fun o t => o = .ref s.heap.objs.size ∧ t = { s with heap := s.heap.push { cls := .type "set", dict := none, data := .set #[] 0 (.fresh 0 0 (!w.params.followText "set-order")) } }) ⟨rfl, rfl⟩) fun r t hr => ?_
  rcases r with e | fl
  · exact hr
  cases fl with
  | ret o =>
    obtain ⟨rfl, rfl⟩ := hr
    have g0 : (s.heap.push ({ cls := .type "set", dict := none, data := .set #[] 0 (.fresh 0 0 (!w.params.followText "set-order")) } : Obj)).get? s.heap.objs.size = some ({ cls := .type "set", dict := none, data := .set #[] 0 (.fresh 0 0 (!w.params.followText "set-order")) } : Obj) := Heap.get?_push_size _ rfl
    have ty0 : Shared.TypeIs { s with heap := s.heap.push ({ cls := .type "set", dict := none, data := .set #[] 0 (.fresh 0 0 (!w.params.followText "set-order")) } : Obj) } (.ref s.heap.objs.size) "set" := ⟨_, g0, rfl⟩
    have k6 := F.called_set.init.lookup
    have k7 := F.called_set.init.bind (.ref s.heap.objs.size)
    repeat (any_goals (first | assumption | wp_step))
    refine codeAny_mono (codeAny_call_builtin (R := wants (fun r t => r = .none ∧ ∃ h' tk, t = { s with heap := h', toks := tk } ∧ J items.size h' s.heap.objs.size ∧ (∀ b o, s.heap.get? b = some o → h'.get? b = some o)) E)
      F.called_set.init.plain F.entry_set_init (check_set_init_1 ty0 ?_)) fun r2 t2 hr2 => ?_
    · obtain ⟨ob, hob, hcl, nn, hda⟩ := isl
      obtain ⟨oc, od, oda, os⟩ := ob
      simp only at hcl hda
      subst hcl
      subst hda
      have g1 : (s.heap.push ({ cls := .type "set", dict := none, data := .set #[] 0 (.fresh 0 0 (!w.params.followText "set-order")) } : Obj)).get? l = some { cls := .type "list", dict := od, data := .seq items nn, slots := os } := Heap.get?_push_of_some _ hob
      have k8 := F.sub_list_set
      have k9 := F.sub_list_frozenset
      have ka : (Value.type "list" == Value.type "dict") = false := by decide
      have g2 : (s.heap.push ({ cls := .type "set", dict := none, data := .set #[] 0 (.fresh 0 0 (!w.params.followText "set-order")) } : Obj)).IsList l items := ⟨_, g1, rfl, nn, rfl⟩
      unfold Builtin.«set.__init__» noKeywords Builtin.Frozenset.updateFrom
      generalize hPI : pyIter = PI
      wp_walk
      subst hPI
      refine wpAny_pyIter_list g2 ?_
      refine wpAny_bind (wpAny_runValue ?_)
      have lts : l < s.heap.objs.size := Heap.lt_size hob
      have calm3 : A.in1.in1.in1.handled = none := by simp [calm]
      have ne1 : l ≠ (s.heap.push ({ cls := .type "set", dict := none, data := .set #[] 0 (.fresh 0 0 (!w.params.followText "set-order")) } : Obj)).objs.size := by
        rw [Heap.size_push]
        exact Nat.ne_of_lt (Nat.lt_succ_of_lt lts)
      have nin : s.heap.objs.size ∉ [(s.heap.push ({ cls := .type "set", dict := none, data := .set #[] 0 (.fresh 0 0 (!w.params.followText "set-order")) } : Obj)).objs.size, l] := by
        rw [Heap.size_push]
        simp only [List.mem_cons, List.not_mem_nil, or_false, not_or]
        exact ⟨Nat.ne_of_lt (Nat.lt_succ_self _), Nat.ne_of_gt lts⟩
      refine fill_loop ((Walks.list calm3 _ l ne1 items).toS) (Z _) s.heap.objs.size nin (items.size - 0) 0 _ (by omega) (Nat.zero_le _)
        ⟨⟨_, Heap.get?_push_size _ rfl, rfl, rfl⟩, (g2.push _)⟩ ?j0 ?fn
      case j0 =>
        refine (Z A).zero _ _ ?_
        exact Heap.get?_push_of_some _ g0
      case fn =>
        intro t mv j1
        obtain ⟨h', g', d', tk', os'⟩ := t
        obtain rfl : g' = s.gens := mv.gens
        obtain rfl : d' = s.drawn := mv.drawn
        obtain rfl : os' = s.os := mv.os
        show wpAny _ _ _ _ _ _
        refine wpAny_pure ?_
        show wpAny _ _ (ret Value.none) _ _ _
        refine wpAny_pure ⟨rfl, h', tk', rfl, j1, fun b o z => ?_⟩
        have lb : b < s.heap.objs.size := Heap.lt_size z
        refine mv.heap b o ?_ (Heap.get?_push_of_some _ (Heap.get?_push_of_some _ z))
        rw [Heap.size_push]
        simp only [List.mem_cons, List.not_mem_nil, or_false, not_or]
        exact ⟨Nat.ne_of_lt lb, Nat.ne_of_lt (Nat.lt_succ_of_lt lb)⟩
    · rcases r2 with e2 | fl2
      · exact hr2
      cases fl2 with
      | ret r =>
        obtain ⟨rfl, h', tk, rfl, j1, kp⟩ := hr2
        repeat (any_goals (first | assumption | wp_step))
        exact fin _ _ j1 kp
      | _ => exact hr2.elim
  | _ => exact hr.elim
end
end LX
set_option maxHeartbeats 200000
set_option Elab.async false
set_option linter.all false
set_option maxRecDepth 100000
set_option maxHeartbeats 200000
set_option Elab.async false
set_option linter.all false
set_option maxRecDepth 100000
namespace DL
open PySem PySem.Spec PyProof.Rows L2
theorem fill_ints {P : Program} {w : World} {ns : List Int} {items : Array Value} (hi : IntsAre items.toList ns) (hb : ns.length + 1 < scanBound) (A : Around) :
    LX.Fill P w A items.size (fun i v => items[i]? = some v) (fun i h S => ∃ c, c ≤ i ∧ SetR w h S (fun j => decide (j ∈ ns.take i)) c) where
  zero := fun h S e => ⟨0, Nat.le_refl _, setR_new_at e⟩
  keeps := fun i h h' S ⟨c, h1, h2⟩ k => ⟨c, h1, h2.at k⟩
  step := fun i v S E s Q hl hv ⟨c, hc, hS⟩ fin => by
    have hsz : items.size = ns.length := by
      have q := IntsAre.length hi
      rw [Array.length_toList] at q
      exact q
    have hi' : i < ns.length := by omega
    obtain ⟨t, e⟩ := PyProof.Rows.IntsAre.int_at hi i v (by rw [Array.getElem?_toList]; exact hv)
    have hz : ns[i]? = some ns[i] := List.getElem?_eq_getElem hi'
    have ev : v = .int ns[i] t := by
      rw [e, List.getD_eq_getElem?_getD, hz] <;> rfl
    subst ev
    unfold setAdd
    refine wpAny_holding ?_
    refine wpAny_bind ((intKind P w).pyHash (k := ns[i]) (intKind_is _ _ _ _) ?_)
    refine setR_add_hashed (s := { s with toks := s.toks + 1 }) hS (by omega) fun h' sb new => ?_
    refine fin h' _ _ (Nat.le_succ _) sb ⟨_, ?_, new.congr fun j => ?_⟩
    · split <;> omega
    · rw [take_snoc hz]
      simp only [List.mem_append, List.mem_singleton, Bool.decide_or]
section
variable {X : Cx}
/-- set(xs), a list of ints -/
def rSetLI (w : World) (K : PySem.W.Frag) : List V → Hp → VK → Prop := fun vs H Q => ∃ (a : Addr) (ns : List Int), vs = [V.ref a] ∧ SqL K H a (ns.map V.int) ∧ ns.length ≤ 1000 ∧
  ∀ (ls : List Int) (p : Addr), ls.Nodup → (∀ k, k ∈ ls ↔ k ∈ ns) → H p = none → Q (.ref p) (upd H p (isetO w p ls))
theorem cr_setLI (hc : X.calm = true) : CallR X (.type "set") (rSetLI X.w X.K) := by
  intro pins s σ H vs us Q I r h
  obtain ⟨a, ns, rfl, hS, hl, q⟩ := h
  obtain ⟨its, rv, ⟨o, n, ho, hcl, hd, hda⟩, hz⟩ := I.list hS
  obtain ⟨u, rfl, ru⟩ := vals1 r
  cases ru
  have hi : IntsAre its.toArray.toList ns := by simpa using intsAre_of rv
  refine LX.call_fill_list (I.ok.hd hc) ⟨o, ho, hcl, n, hda⟩ (fun A' => fill_ints hi (by unfold scanBound; omega) A') fun h' tk j1 kp => ?_
  obtain ⟨c, hc', hR⟩ := j1
  have R0 : SetR X.w h' s.heap.objs.size (fun j => decide (j ∈ ns)) c := hR.congr fun k => by
    have : its.toArray.size = ns.length := by
      have q := IntsAre.length hi
      rw [Array.length_toList] at q
      exact q
    rw [this, List.take_length]
  have hn : H s.heap.objs.size = none := I.hok.fresh (Nat.le_refl _)
  obtain ⟨ob, es, ep, t, e1, e2, e3, e4, e5, e6, e7, e8, e9, ea, eb⟩ := id R0
  have key : (fun k : Int => decide (k ∈ es.toList.map keyOf)) = fun j => decide (j ∈ ns) := by
    funext k
    have := e6 k
    by_cases hk : k ∈ ns
    · rw [decide_eq_true hk]; exact decide_eq_true (this.mp (decide_eq_true hk))
    · rw [decide_eq_false hk]; exact decide_eq_false fun z => hk (of_decide_eq_true (this.mpr z))
  have len : (es.toList.map keyOf).length = c := by simp [e9]
  have eo : isetO X.w s.heap.objs.size (es.toList.map keyOf) = SetO X.w s.heap.objs.size (fun j => decide (j ∈ ns)) c := by
    unfold isetO
    rw [key, len]
  have q' := q (es.toList.map keyOf) s.heap.objs.size e5 (fun k => by
    have := e6 k
    rw [decide_eq_true_eq] at this
    exact this.symm) hn
  rw [eo] at q'
  exact ⟨.ref _, _, I.laid (t' := tk) kp (Nat.le_refl _) (setO_new R0), rfl, q'⟩
end
end DL
set_option maxHeartbeats 200000
set_option Elab.async false
set_option linter.all false
set_option maxRecDepth 100000
set_option maxHeartbeats 1000000
namespace DL
open PySem PySem.Spec PyProof.Rows L2
open PySem.W (alike alikeAll dataLt dataLe AllAlike Sortable EachIs)
open PySem.AutoSeq1 (wpAny_loadPart') in
theorem meets_cat (l : Addr) (items : Array Value) (n : Nat) (dd : Option Addr) (sl : Array (Option Value)) (b : Addr) (items2 : Array Value) (n2 : Nat) (dd2 : Option Addr) (sl2 : Array (Option Value)) (hz : items.size + items2.size ≤ sizeLine) :
    Meets (Builtin.«list.__add__» ⟨[.ref l, .ref b], []⟩) (fun _ R s => s.heap.get? l = some { cls := .type "list", dict := dd, data := .seq items n, slots := sl } ∧ s.heap.get? b = some { cls := .type "list", dict := dd2, data := .seq items2 n2, slots := sl2 } ∧
      R (.ok (.ret (Value.ref s.heap.objs.size))) { s with heap := s.heap.push { cls := Value.type "list", data := Data.seq (items ++ items2) } }) :=
  .of_wp fun prog w A R s h => by
    obtain ⟨hp, g, d, tk, os⟩ := s
    obtain ⟨h1, h2, h⟩ := h
    have f1 := AutoSeq1.idx_int
    have f2 := AutoSeq1.sub_tuple_tuple
    have f3 := AutoSeq1.sub_list_list
    have f4 := AutoSeq1.sub_tuple_list
    have f5 := AutoSeq1.sub_list_tuple
    wp_walk using wpAny_loadPart' h1, wpAny_loadPart' h2
    exact ⟨_, rfl, h⟩
section
variable {X : Cx}
def rCatL (K : PySem.W.Frag) : R2 := fun x y H Q => ∃ l b xs zs, x = .ref l ∧ y = .ref b ∧ SqL K H l xs ∧ SqL K H b zs ∧ xs.length + zs.length ≤ 100000 ∧ ∀ p, H p = none → Q (.ref p) (upd H p (.lst (xs ++ zs)))
theorem op_catL : OpR X (binaryOp .Add) (rCatL X.K) := by
  intro pins s σ H x y v u Q I rx ry h
  obtain ⟨l, b, xs, zs, rfl, rfl, h1, h2, hz, q⟩ := h
  cases rx
  cases ry
  obtain ⟨its, r1, ⟨⟨c1, d1, da1, sl1⟩, n1, o1, e1, e2, e3⟩, _⟩ := I.list h1
  obtain ⟨its2, r2, ⟨⟨c2, d2, da2, sl2⟩, n2, o2, k1, k2, k3⟩, _⟩ := I.list h2
  simp only at e1 e2 e3 k1 k2 k3
  subst e1 e3 k1 k3
  have l1 := r1.length
  have l2 := r2.length
  have hzz : its.toArray.size + its2.toArray.size ≤ sizeLine := Nat.le_trans (by rw [List.size_toArray, List.size_toArray]; omega) (by decide : 100000 ≤ sizeLine)
  refine concat_meets ⟨_, o1, rfl⟩ ⟨_, o2, rfl⟩ noFill_list_add seq_list_add F.slot_list_add F.entry_list_add (F.args_list_add_2 _ _) (meets_cat l its.toArray n1 d1 sl1 b its2.toArray n2 d2 sl2 hzz) ⟨o1, o2, ?_⟩
  have ea : its.toArray ++ its2.toArray = (its ++ its2).toArray := by simp
  rw [ea]
  exact ⟨.ref _, _, I.lnew (t' := s.toks) (r1.append r2) (Nat.le_trans (by rw [List.length_append]; omega) (by decide : 100000 ≤ sizeLine)), rfl, q _ I.fresh⟩
theorem dp0_len {K : PySem.W.Frag} {H : Hp} : ∀ {vs : List V} {ds : List PyData}, DpAll K H vs ds → vs.length = ds.length
  | _, [], h => by cases h; rfl
  | _, _ :: _, h => by
    cases h with
    | cons _ h2 => simp [dp0_len h2]
def rLtD (K : PySem.W.Frag) : R2 := fun x y H Q => ∃ d e, Dp K H x d ∧ Dp K H y e ∧ alike d e = true ∧ d ≠ .none ∧ d.depth ≤ 60 ∧ Q (.bl (dataLt d e)) H
theorem op_ltD (hu : X.A.units + 64 < cLine) : OpR X (compareOp .Lt) (rLtD X.K) := by
  intro pins s σ H x y v u Q I rx ry h
  obtain ⟨d, e, h1, h2, ha, hn, hd, q⟩ := h
  obtain ⟨as, r1⟩ := Dp.reads I d x v h1 rx
  obtain ⟨bs, r2⟩ := Dp.reads I e y u h2 ry
  exact PySem.W.rcLt_alike d e X.A s v u as bs r1 r2 ha hn (by have : min d.depth e.depth ≤ d.depth := Nat.min_le_left _ _; omega) X.prog X.w X.xe _ ⟨.bl (dataLt d e), H, I, rfl, q⟩
theorem each_zip {H : Hp} {pins : List (Addr × Obj)} {σ : List (Option V)} {s : Shared} (I : Inv X pins σ H s) : ∀ {us : List V} {ds : List PyData} {its : List Value}, Vals us its → DpAll X.K H us ds →
    EachIs (fun (v : Value) (b : V × PyData) => RelV b.1 v) its (us.zip ds) ∧ EachIs (fun v (b : V × PyData) => ∃ as, Reads s.heap v b.2 as) its (us.zip ds)
  | _, [], _, r, h => by
    cases h
    cases r
    exact ⟨.nil, .nil⟩
  | _, d :: ds, _, r, h => by
    cases h with
    | cons h1 h2 =>
      cases r with
      | cons r1 r2 =>
        obtain ⟨a1, a2⟩ := each_zip I r2 h2
        obtain ⟨as, q⟩ := Dp.reads I d _ _ h1 r1
        exact ⟨.cons r1 a1, .cons ⟨as, q⟩ a2⟩
theorem vals_each : ∀ {out : List Value} {ps : List (V × PyData)}, EachIs (fun (v : Value) (b : V × PyData) => RelV b.1 v) out ps → Vals (ps.map (·.1)) out
  | _, _, .nil => .nil
  | _, _, .cons r t => .cons r (vals_each t)
def rSortD (K : PySem.W.Frag) : List V → Hp → VK → Prop := fun vs H Q => ∃ a us ds, vs = [V.ref a] ∧ SqL K H a us ∧ DpAll K H us ds ∧ AllAlike ds ∧ Sortable ds ∧ ds.length ≤ 100000 ∧ (∀ d ∈ ds, d.depth ≤ 60) ∧
  ∀ p, H p = none → Q (.ref p) (upd H p (.lst (((us.zip ds).mergeSort (dataLe false (·.2))).map (·.1))))
theorem zip_snd {us : List V} {ds : List PyData} (h : us.length = ds.length) : (us.zip ds).map (·.2) = ds := by
  exact List.map_snd_zip (by omega)
theorem cr_sortD (hu : X.A.units + 70 < cLine) : CallR X (.builtin "sorted") (rSortD X.K) := by
  intro pins s σ H vs us' Q I r h
  obtain ⟨a, us, ds, rfl, hS, hd, hal, hso, hl, hdep, q⟩ := h
  obtain ⟨its, rv, ⟨o, n, ho, hcl, hdn, hda⟩, hz⟩ := I.list hS
  obtain ⟨u, rfl, ru⟩ := vals1 r
  cases ru
  have hlen := dp0_len hd
  have hsnd : (us.zip ds).map (fun b : V × PyData => b.2) = ds := zip_snd hlen
  obtain ⟨e1, e2⟩ := each_zip I rv hd
  have hbl : (us.zip ds).length = ds.length := by simp; omega
  refine PySem.W.sorted_data (s := s) (vs := its) (bs := us.zip ds) (R := fun v b => RelV b.1 v) (enc := fun b : V × PyData => b.2) ⟨o, ho, hcl, n, hda⟩ e1 e2 (by rw [hsnd]; exact hal) (by rw [hsnd]; exact hso)
    (Nat.le_trans (by rw [hbl]; exact hl) (by decide : 100000 ≤ sizeLine)) (fun b hb => ?_) fun out hol hout => ?_
  · have : b.2 ∈ ds := by rw [← hsnd]; exact List.mem_map_of_mem hb
    have := hdep _ this
    omega
  · obtain ⟨c, hc⟩ := sortedAll_at s.heap its out.toArray
    have hp : s.heap.objs.size ≤ s.heap.objs.size + 1 := Nat.le_succ _
    have hn : H (s.heap.objs.size + 1) = none := I.hok.fresh hp
    have hv := vals_each hout
    refine ⟨.ref _, _, I.laid (t' := s.toks) (o := .lst (((us.zip ds).mergeSort (dataLe false (·.2))).map (·.1))) (fun b u e => sortedAll_old e) hp ⟨?_, out, c, hv, hc⟩, rfl, q _ hn⟩
    rw [hv.length, hol, hbl]
    exact Nat.le_trans hl (by decide : 100000 ≤ sizeLine)
end
end DL
set_option maxHeartbeats 200000
set_option Elab.async false
set_option linter.all false
set_option maxRecDepth 100000
set_option maxHeartbeats 1000000
namespace DL
open PySem PySem.Spec PyProof.Rows L2
open PySem.W (alike alikeAll dataLt dataLe AllAlike Sortable EachIs)
section
variable {B : Bs} {δ : St'} {σ : List (Option V)} {F H : Hp} {Φ : PE1} {te ta tb : TE}
theorem Rep.newL (r : Rep B δ σ F H) {p : Addr} (hp : H p = none) (us : List V) : Rep B δ σ F (upd H p (.lst us)) ∧ B.H p = none ∧ F p = none ∧ ∀ (i : Nat) (c : C), δ.s[i]? = some (some c) → own? c = true → σ[i]? ≠ some (some (.ref p)) := by
  obtain ⟨h1, h2, _, h4⟩ := r.fresh hp
  exact ⟨r.side h2 h1 h4, h1, h2, h4⟩
abbrev PL := List PyData → St' → Prop
theorem wl_cat {Ψ : PL} (h : WE B ta δ fun x δ1 => ∃ xs, x = .list xs ∧ WE B tb δ1 fun y δ2 => ∃ ys, y = .list ys ∧ xs.length + ys.length ≤ 100000 ∧ Ψ (xs ++ ys) δ2) : WL B (tOp (rCatL B.K) ta tb) δ Ψ := fun σ F H r Q q =>
  h σ F H r _ fun v x δ1 F1 H1 e1 r1 d1 ⟨xs, hx, p1⟩ => p1 σ F1 H1 r1 _ fun u y δ2 F2 H2 e2 r2 d2 ⟨ys, hy, hz, p2⟩ => by
    subst hx hy
    cases d1 with
    | lst hs ha =>
      cases d2 with
      | lst hs2 ha2 =>
        refine ⟨_, _, _, _, rfl, rfl, (e2.trans r2.ex).seq hs, r2.ex.seq hs2, by rw [dpAll_len ha, dpAll_len ha2]; exact hz, fun p hp => ?_⟩
        obtain ⟨k1, k2, k3, k4⟩ := r2.newL hp (_ ++ _)
        exact q p _ _ δ2 F2 _ (e1.trans e2) k1 k2 k3 upd_same k4 (dpAll_app (dpAll_mono e2 _ _ ha) ha2) p2
theorem sort_snd {us : List V} {ds : List PyData} (h : us.length = ds.length) : ((us.zip ds).mergeSort (dataLe false (·.2))).map (·.2) = ds.mergeSort (dataLe false id) := by
  have := List.map_mergeSort (r := dataLe false (fun b : V × PyData => b.2)) (s := dataLe false id) (f := fun b : V × PyData => b.2) (l := us.zip ds) (fun a _ b _ => rfl)
  rw [this]
  congr 1
  exact zip_snd h
theorem dpAll_mem {K : PySem.W.Frag} {F : Hp} : ∀ {us : List V} {ds : List PyData}, DqAll K F us ds → ∀ p ∈ us.zip ds, Dq K F p.1 p.2
  | _, [], h, p, hp => by cases h; simp at hp
  | _, _ :: _, h, p, hp => by
    cases h with
    | cons h1 h2 =>
      simp only [List.zip_cons_cons, List.mem_cons] at hp
      rcases hp with rfl | hp
      · exact h1
      · exact dpAll_mem h2 p hp
theorem dpAll_of {K : PySem.W.Frag} {F : Hp} : ∀ {ps : List (V × PyData)}, (∀ p ∈ ps, Dq K F p.1 p.2) → DqAll K F (ps.map (·.1)) (ps.map (·.2))
  | [], _ => .nil
  | p :: ps, h => .cons (h p List.mem_cons_self) (dpAll_of fun q hq => h q (List.mem_cons_of_mem _ hq))
def sortD (ds : List PyData) : List PyData := ds.mergeSort (dataLe false id)
theorem wl_sorted {ta : TA} {Ψ : PL} (h : WA B ta δ fun xs δ1 => ∃ ds, xs = [.list ds] ∧ noHs ds = true ∧ AllAlike ds ∧ Sortable ds ∧ ds.length ≤ 100000 ∧ (∀ d ∈ ds, d.depth ≤ 60) ∧ Ψ (sortD ds) δ1) : WL B (tCB (rSortD B.K) ta) δ Ψ := fun σ F H r Q q =>
  h σ F H r _ fun vs xs δ1 F1 H1 e1 r1 d1 ⟨ds, hx, h0, h1, h2, h3, h4, p1⟩ => by
    subst hx
    cases d1 with
    | cons d1 d2 =>
      cases d2
      cases d1 with
      | lst hs ha =>
        rename_i us
        refine ⟨_, us, ds, rfl, r1.ex.seq hs, dqs_dps _ _ h0 (dpAll_mono r1.ex _ _ ha), h1, h2, h3, h4, fun p hp => ?_⟩
        obtain ⟨k1, k2, k3, k4⟩ := r1.newL hp (((us.zip ds).mergeSort (dataLe false (·.2))).map (·.1))
        have hd : DqAll B.K F1 (((us.zip ds).mergeSort (dataLe false (·.2))).map (·.1)) (sortD ds) := by
          unfold sortD
          rw [← sort_snd (dpAll_len ha)]
          exact dpAll_of fun p hp => dpAll_mem ha p ((List.mergeSort_perm _ _).mem_iff.mp hp)
        exact q p _ _ δ1 F1 _ e1 k1 k2 k3 upd_same k4 hd p1
/-- list(x) -/
theorem wl_list {ta : TA} {Ψ : PL} {K} (hK : K = B.K) (h : WA B ta δ fun xs δ1 => ∃ ds, (xs = [.list ds] ∨ xs = [.tuple ds]) ∧ Ψ ds δ1) : WL B (tCB (fun xs H Q => ∃ p ys, xs = [.ref p] ∧ (SqL K H p ys ∨ SqT K H p ys) ∧ ∀ l, H l = none → Q (.ref l) (upd H l (.lst ys))) ta) δ Ψ := fun σ F H r Q q =>
  h σ F H r _ fun vs xs δ1 F1 H1 e1 r1 d1 ⟨ds, hx, p1⟩ => by
    subst hK
    rcases hx with rfl | rfl
    · cases d1 with
      | cons d1 d2 =>
        cases d2
        cases d1 with
        | lst hs ha =>
          refine ⟨_, _, rfl, .inl (r1.ex.seq hs), fun p hp => ?_⟩
          obtain ⟨k1, k2, k3, k4⟩ := r1.newL hp _
          exact q p _ _ δ1 F1 _ e1 k1 k2 k3 upd_same k4 ha p1
    · cases d1 with
      | cons d1 d2 =>
        cases d2
        cases d1 with
        | tup hs ha =>
          refine ⟨_, _, rfl, .inr (seqT r1.ex hs), fun p hp => ?_⟩
          obtain ⟨k1, k2, k3, k4⟩ := r1.newL hp _
          exact q p _ _ δ1 F1 _ e1 k1 k2 k3 upd_same k4 ha p1
/-- tuple(xs) -/
theorem rc_tupleL {K} (hK : K = B.K) {ds : List PyData} (p : Φ (.tuple ds) δ) : RC B (fun xs H Q => ∃ p ys, xs = [.ref p] ∧ ((SqL K H p ys ∧ ∀ l, H l = none → Q (.ref l) (upd H l (.tup ys))) ∨ (SqT K H p ys ∧ Q (.ref p) H))) [.list ds] δ Φ := fun σ F H r vs d1 Q q => by
  subst hK
  cases d1 with
  | cons d1 d2 =>
    cases d2
    cases d1 with
    | lst hs ha =>
      refine ⟨_, _, rfl, .inl ⟨r.ex.seq hs, fun l hl => ?_⟩⟩
      obtain ⟨F2, k1, k2, _, _, k5⟩ := r.newT hl ha
      exact q _ _ δ F2 _ k1 k2 k5 p
/-- slices -/
theorem we_sl {r : V → Option Int → Option Int → Hp → VK → Prop} {lo hi : Option Int} {tl th : TO} (hl : ∀ σ H (Q : Option Int → Hp → Prop), Q lo H → tl σ H Q) (hh : ∀ σ H (Q : Option Int → Hp → Prop), Q hi H → th σ H Q)
    (h : WE B te δ fun x δ1 => RU B (fun v H Q => r v lo hi H Q) x δ1 Φ) : WE B (tSl r te tl th) δ Φ := fun σ F H rp Q q =>
  h σ F H rp _ fun v x δ1 F1 H1 e1 r1 d1 p1 => hl σ H1 _ (hh σ H1 _ (p1 σ F1 H1 r1 v d1 Q fun v' x' δ' F' H' e' r' d' p' => q v' x' δ' F' H' (e1.trans e') r' d' p'))
theorem ru_slS {lo hi : Option Int} {x : Str} (hz : x.length ≤ 100000) (p : Φ (.str (cutS x lo hi)) δ) : RU B (fun v H Q => rSlS v lo hi H Q) (.str x) δ Φ := ru_pure (w := .str (cutS x lo hi)) (fun _ => .str _) (fun F H v e d1 Q q => by cases d1; exact ⟨x, rfl, Nat.le_trans hz (by decide), q⟩) p
theorem cutV_dp {K : PySem.W.Frag} {us : List V} {ds : List PyData} {lo hi : Option Int} (h : DqAll K F us ds) : DqAll K F (cutV us lo hi) ((ds.drop (HT.sIx ds.length 0 lo)).take (HT.sIx ds.length ds.length hi - HT.sIx ds.length 0 lo)) := by
  unfold cutV
  rw [dpAll_len h]
  exact dpAll_take _ (dpAll_drop _ h)
def cutD (ds : List PyData) (lo hi : Option Int) : List PyData := (ds.drop (HT.sIx ds.length 0 lo)).take (HT.sIx ds.length ds.length hi - HT.sIx ds.length 0 lo)
theorem ru_slT {lo hi : Option Int} {ds : List PyData} (p : Φ (.tuple (cutD ds lo hi)) δ) : RU B (fun v H Q => rSlA B.K v lo hi H Q) (.tuple ds) δ Φ := fun σ F H r v d1 Q q => by
  cases d1 with
  | tup hs ha hp =>
    refine ⟨_, _, rfl, seqT r.ex hs, fun hw => ?_, fun hw l hl => ?_⟩
    · refine q _ _ δ F H (Same.refl F) r (.tup hs ?_ hp) p
      have := cutV_dp (lo := lo) (hi := hi) ha
      have e : cutD ds lo hi = ds := by
        unfold cutD
        rw [← dpAll_len ha, hw.1, hw.2, List.drop_zero, Nat.sub_zero, dpAll_len ha, List.take_length]
      rw [e]
      exact ha
    · obtain ⟨F2, k1, k2, _, _, k5⟩ := r.newT hl (cutV_dp (lo := lo) (hi := hi) ha)
      exact q _ _ δ F2 _ k1 k2 k5 p
theorem wl_sl {lo hi : Option Int} {tl th : TO} {Ψ : PL} (hl : ∀ σ H (Q : Option Int → Hp → Prop), Q lo H → tl σ H Q) (hh : ∀ σ H (Q : Option Int → Hp → Prop), Q hi H → th σ H Q)
    (h : WE B te δ fun x δ1 => ∃ ds, x = .list ds ∧ Ψ (cutD ds lo hi) δ1) : WL B (tSl (rSlL B.K) te tl th) δ Ψ := fun σ F H rp Q q =>
  h σ F H rp _ fun v x δ1 F1 H1 e1 r1 d1 ⟨ds, hx, p1⟩ => hl σ H1 _ (hh σ H1 _ (by
    subst hx
    cases d1 with
    | lst hs ha =>
      refine ⟨_, _, rfl, r1.ex.seq hs, fun p hp => ?_⟩
      obtain ⟨k1, k2, k3, k4⟩ := r1.newL hp (cutV _ lo hi)
      exact q p _ _ δ1 F1 _ e1 k1 k2 k3 upd_same k4 (cutV_dp ha) p1))
/-- less, of data that are alike -/
theorem rd_ltD {x y : PyData} (hx : noH x = true) (hy : noH y = true) (ha : alike x y = true) (hn : x ≠ .none) (hd : x.depth ≤ 60) (p : Φ (.bool (dataLt x y)) δ) : RD B (rLtD B.K) x y δ Φ :=
  rd_pure (w := .bl (dataLt x y)) (fun _ => .bl _) (fun F H v u e d1 d2 Q q => ⟨x, y, dq_dp _ _ hx (dp_mono e _ _ d1), dq_dp _ _ hy (dp_mono e _ _ d2), ha, hn, hd, q⟩) p
end
end DL
set_option maxHeartbeats 200000
set_option Elab.async false
set_option linter.all false
set_option maxRecDepth 100000
set_option maxHeartbeats 1000000
namespace DL
open PySem PySem.Spec PyProof.Rows L2
open PySem.W (alike alikeAll dataLt dataLe AllAlike Sortable EachIs)
section
variable {B : B0} {X : Cx} {a b c e : Expr} {es : List Expr} {st : Stmt} {rest body : List Stmt} {δ : St'} {N : St' → Prop} {Φ R : PE1} {pos p p2 p3 : Pos}
theorem ints_v {K : PySem.W.Frag} {F : Hp} {us : List V} {ns : List Int} (h : DqAll K F us (ns.map PyData.int)) : us = ns.map V.int := by
  rw [atoms_v h (by simp [atom]), List.map_map]
  rfl
end
end DL
set_option maxHeartbeats 200000
set_option Elab.async false
set_option linter.all false
set_option maxRecDepth 100000
set_option maxHeartbeats 1000000
namespace DL
open PySem PySem.Spec PyProof.Rows L2 RZ
theorem WG.mono {B : Bs} {g : TG} {ix : List Nat} {y : PyData} {δ : St'} {K K' : St' → Prop} (h : WG B g ix y δ K) (f : ∀ δ', K δ' → K' δ') : WG B g ix y δ K' := fun σ F H r v d Q q => h σ F H r v d Q fun δ' σ' r' h1 h2 p => q δ' σ' r' h1 h2 (f δ' p)
section
variable {B : B0} {X : Cx} {a : Expr} {δ : St'} {Φ : PE1} {pos p2 p3 p4 : Pos} {k1 k2 : Nat}
theorem de_upto {r : V → Option Int → Option Int → Hp → VK → Prop} {i : Int} (hr : SlR X r) (h : DE B X a δ fun x δ1 => RU (bs X B) (fun v H Q => r v none (some i) H Q) x δ1 Φ) : DE B X (.Subscript a (.Slice none (some (.Constant (.int i) k1 p3)) none p2) pos) δ Φ :=
  .of (pe_slice hr pe_w po_none (po_some pe_int)) (we_sl (lo := none) (hi := some i) (fun _ _ _ q => q) (fun _ _ _ q => ⟨i, rfl, q⟩) h)
theorem dl_from {i : Int} {Ψ : PL} (h : DE B X a δ fun x δ1 => ∃ ds, x = .list ds ∧ Ψ (cutD ds (some i) none) δ1) : DLs B X (.Subscript a (.Slice (some (.Constant (.int i) k1 p3)) none none p2) pos) δ Ψ :=
  .of (pe_slice sl_list pe_w (po_some pe_int) po_none) (wl_sl (lo := some i) (hi := none) (fun _ _ _ q => ⟨i, rfl, q⟩) (fun _ _ _ q => q) h)
end
/-- a, b and a, b, c as targets -/
theorem pg_two {X : Cx} {x y : Str} {px py pos : Pos} {k : Nat} (i j : Nat) (nd : X.N.Nodup) (hc : X.calm = true := by rfl) (hi : X.N[i]? = some x := by rfl) (hx : Loc X.env.scope x := by first | exact .inl rfl | exact .inr rfl)
    (hf : X.fn x = true ∨ X.env.scope.names.lookup x = some .local := by first | exact .inl rfl | exact .inr rfl) (hj : X.N[j]? = some y := by rfl) (hy : Loc X.env.scope y := by first | exact .inl rfl | exact .inr rfl)
    (hg : X.fn y = true ∨ X.env.scope.names.lookup y = some .local := by first | exact .inl rfl | exact .inr rfl) : PG X (.Tuple [.Name x px, .Name y py] k pos) (gTup X.K 2 (gCons (gName i) (gCons (gName j) gNil))) :=
  pg_tup hc (pgs_cons (pg_name nd hi hx hf) (pgs_cons (pg_name nd hj hy hg) pgs_nil))
theorem pg_three {X : Cx} {x y z : Str} {px py pz pos : Pos} {k : Nat} (i j l : Nat) (nd : X.N.Nodup) (hc : X.calm = true := by rfl) (hi : X.N[i]? = some x := by rfl) (hx : Loc X.env.scope x := by first | exact .inl rfl | exact .inr rfl)
    (hf : X.fn x = true ∨ X.env.scope.names.lookup x = some .local := by first | exact .inl rfl | exact .inr rfl) (hj : X.N[j]? = some y := by rfl) (hy : Loc X.env.scope y := by first | exact .inl rfl | exact .inr rfl)
    (hg : X.fn y = true ∨ X.env.scope.names.lookup y = some .local := by first | exact .inl rfl | exact .inr rfl) (hl : X.N[l]? = some z := by rfl) (hz : Loc X.env.scope z := by first | exact .inl rfl | exact .inr rfl)
    (hh : X.fn z = true ∨ X.env.scope.names.lookup z = some .local := by first | exact .inl rfl | exact .inr rfl) : PG X (.Tuple [.Name x px, .Name y py, .Name z pz] k pos) (gTup X.K 3 (gCons (gName i) (gCons (gName j) (gCons (gName l) gNil)))) :=
  pg_tup hc (pgs_cons (pg_name nd hi hx hf) (pgs_cons (pg_name nd hj hy hg) (pgs_cons (pg_name nd hl hz hh) pgs_nil)))
theorem cutD_from1 {ds : List PyData} : cutD ds (some 1) none = ds.drop 1 := by
  unfold cutD
  rw [show HT.sIx ds.length 0 (some 1) = min 1 ds.length from HT.sIx_nat ds.length 0 1, HT.sIx_none]
  cases ds with
  | nil => rfl
  | cons x r =>
    rw [show min 1 (x :: r).length = 1 by rw [List.length_cons]; omega]
    show List.take ((x :: r).length - 1) r = r
    rw [List.length_cons, Nat.add_sub_cancel, List.take_length]
theorem cutD_upto {ds : List PyData} {k : Nat} : cutD ds none (some (k : Int)) = ds.take k := by
  unfold cutD
  rw [HT.sIx_nat, HT.sIx_none, Nat.sub_zero, List.drop_zero]
  rcases Nat.le_total k ds.length with h | h
  · rw [Nat.min_eq_left h]
  · rw [Nat.min_eq_right h, List.take_length, List.take_of_length_le h]
end DL
set_option maxHeartbeats 200000
set_option Elab.async false
set_option linter.all false
set_option maxRecDepth 100000
set_option maxHeartbeats 1000000
namespace DL
open PySem PySem.Spec PyProof.Rows L2
section
variable {B : B0} {X : Cx} {a e : Expr} {δ : St'} {N : St' → Prop} {Φ R : PE1} {pos p p2 p3 : Pos}
mutual
theorem noH_plain : ∀ d : PyData, d.plain = true → noH d = true
  | .none, _ => rfl
  | .bool _, _ => rfl
  | .int _, _ => rfl
  | .str _, _ => rfl
  | .list ds, h => noHs_plain ds h
  | .tuple ds, h => noHs_plain ds h
  | .dict _, h => by cases h
theorem noHs_plain : ∀ ds : List PyData, PyData.plainAll ds = true → noHs ds = true
  | [], _ => rfl
  | d :: ds, h => by
    have h' : (d.plain && PyData.plainAll ds) = true := h
    rw [Bool.and_eq_true] at h'
    show (noH d && noHs ds) = true
    rw [noH_plain d h'.1, noHs_plain ds h'.2]
    rfl
end
end
theorem inV_strs {s : Str} {l : List Str} : inV (toV (.str s)) ((l.map PyData.str).map toV) = decide (s ∈ l) := by
  unfold inV
  induction l with
  | nil => simp
  | cons x r ih =>
    simp only [List.map_cons, List.any_cons, ih]
    by_cases e : x = s
    · subst e
      simp [toV, eqV]
    · have h1 : eqV (toV (.str x)) (toV (.str s)) = false := by
        show (x == s) = false
        exact beq_eq_false_iff_ne.mpr e
      rw [h1, Bool.false_or]
      have h2 : decide (s ∈ x :: r) = decide (s ∈ r) := by
        by_cases hr : s ∈ r
        · rw [decide_eq_true hr, decide_eq_true (List.mem_cons_of_mem _ hr)]
        · rw [decide_eq_false hr, decide_eq_false fun z => (List.mem_cons.mp z).elim (fun q => e q.symm) hr]
      rw [h2]
theorem rd_niStrL {B : Bs} {δ : St'} {Φ : PE1} {s : Str} {l : List Str} (p : Φ (.bool (!decide (s ∈ l))) δ) : RD B (rIn B.K true) (.str s) (.list (l.map PyData.str)) δ Φ := rd_inL rfl (by simp [atom]) (by
  rw [inV_strs]; exact p)
end DL
set_option maxHeartbeats 200000
set_option Elab.async false
set_option linter.all false
set_option maxRecDepth 100000
namespace DL
open PySem PySem.Spec PyProof.Rows L2
section
variable {B : B0} {X : Cx} {a b c e : Expr} {es : List Expr} {rest : List Stmt} {δ : St'} {Φ : PE1} {N : St' → Prop} {R : PE1} {p pos pp p2 p3 : Pos} {x pn : Str}
theorem Rep.potSet {B : Bs} {δ : St'} {σ : List (Option V)} {F H : Hp} {a : Addr} {n' : Nat} (r : Rep B δ σ F H) (hp : B.p = some a) {o : HO} (h : PotAt B.m (upd H a o) a n') : Rep B ⟨n', δ.s⟩ σ F (upd H a o) :=
  r.calledP hp (Same.refl F) (fun b z e => by
    have : b ≠ a := fun q => by
      rw [q, r.potF hp] at e
      cases e
    rw [upd_ne this]
    exact r.ex b z e) (fun b h1 _ => h1) (fun b z h1 h2 => by rw [upd_ne h2]; exact h1) h
theorem Rep.bump {B : Bs} {δ : St'} {σ : List (Option V)} {F H : Hp} {n' : Nat} (r : Rep B δ σ F H) (h : δ.n ≤ n') : Rep B ⟨n', δ.s⟩ σ F H :=
  ⟨r.ex, r.f0, r.fr, r.kp, fun a ha => by
    obtain ⟨h1, h2, x, y, z, h3, h4, h5, h6⟩ := r.pot a ha
    exact ⟨h1, h2, x, y, z, h3, h4, by show z ≤ ((n' : Nat) : Int); omega, pot_more h6 h⟩, r.cell, r.len, r.ap⟩
theorem dss_bump (n' : Nat) (h : δ.n ≤ n') (q : DSs B X rest ⟨n', δ.s⟩ N R) : DSs B X rest δ N R := fun σ F H r D hn hr => q σ F H (r.bump h) D hn hr
theorem de_pot0 (i : Nat) {k0} (h : ∀ v : Int, Φ (.int v) δ) (hi : δ.s[i]? = some (some .pot) := by rfl) (hN : X.N[i]? = some pn := by rfl)
    (hv : Vis X.env.scope pn := by first | exact Or.inl rfl | exact Or.inr (Or.inl rfl) | exact Or.inr (Or.inr rfl)) (hd : (pn == ("__debug__" : Str)) = false := by decide)
    (hcd : (pn == ("__classdict__" : Str)) = false := by decide) : DE B X (.Subscript (.Name pn pp) (.Constant (.int 0) k0 p2) pos) δ Φ :=
  .of (pe_ix ix_list (pe_var hN hv hd hcd) pe_int (fun _ _ => rfl)) fun σ F H r Q q => by
    obtain ⟨v, hv, a, rfl, hp, hm⟩ := r.cell i _ hi
    obtain ⟨x, y, z, h3, h4, h5⟩ := pot_num (hm ▸ (r.pot a hp).2.2)
    exact ⟨.ref a, hv, a, _, 0, .int x, rfl, rfl, .inl (.inl h3), rfl, q (.int x) (.int x) δ F H (Same.refl F) r (.int x) (h x)⟩
theorem de_pot1 (i : Nat) {k0} (h : ∀ v : Int, Φ (.int v) δ) (hi : δ.s[i]? = some (some .pot) := by rfl) (hN : X.N[i]? = some pn := by rfl)
    (hv : Vis X.env.scope pn := by first | exact Or.inl rfl | exact Or.inr (Or.inl rfl) | exact Or.inr (Or.inr rfl)) (hd : (pn == ("__debug__" : Str)) = false := by decide)
    (hcd : (pn == ("__classdict__" : Str)) = false := by decide) : DE B X (.Subscript (.Name pn pp) (.Constant (.int 1) k0 p2) pos) δ Φ :=
  .of (pe_ix ix_list (pe_var hN hv hd hcd) pe_int (fun _ _ => rfl)) fun σ F H r Q q => by
    obtain ⟨v, hv, a, rfl, hp, hm⟩ := r.cell i _ hi
    obtain ⟨x, y, z, h3, h4, h5⟩ := pot_num (hm ▸ (r.pot a hp).2.2)
    exact ⟨.ref a, hv, a, _, 1, .int y, rfl, rfl, .inl (.inl h3), rfl, q (.int y) (.int y) δ F H (Same.refl F) r (.int y) (h y)⟩
theorem de_pot2 (i : Nat) {k0} (h : ∀ v : Int, 0 ≤ v → v ≤ (δ.n : Int) → Φ (.int v) δ) (hi : δ.s[i]? = some (some .pot) := by rfl) (hN : X.N[i]? = some pn := by rfl)
    (hv : Vis X.env.scope pn := by first | exact Or.inl rfl | exact Or.inr (Or.inl rfl) | exact Or.inr (Or.inr rfl)) (hd : (pn == ("__debug__" : Str)) = false := by decide)
    (hcd : (pn == ("__classdict__" : Str)) = false := by decide) : DE B X (.Subscript (.Name pn pp) (.Constant (.int 2) k0 p2) pos) δ Φ :=
  .of (pe_ix ix_list (pe_var hN hv hd hcd) pe_int (fun _ _ => rfl)) fun σ F H r Q q => by
    obtain ⟨v, hv, a, rfl, hp, hm⟩ := r.cell i _ hi
    obtain ⟨x, y, z, h3, h4, h5⟩ := pot_num (hm ▸ (r.pot a hp).2.2)
    exact ⟨.ref a, hv, a, _, 2, .int z, rfl, rfl, .inl (.inl h3), rfl, q (.int z) (.int z) δ F H (Same.refl F) r (.int z) (h z h4 h5)⟩
/-- pot[0] = e -/
theorem ds_pot0 (i : Nat) {k0} (h : DE B X e δ fun d δ' => ∃ v : Int, d = .int v ∧ δ'.s[i]? = some (some .pot) ∧ N δ') (hN : X.N[i]? = some pn := by rfl)
    (hv : Vis X.env.scope pn := by first | exact Or.inl rfl | exact Or.inr (Or.inl rfl) | exact Or.inr (Or.inr rfl)) (hd : (pn == ("__debug__" : Str)) = false := by decide)
    (hcd : (pn == ("__classdict__" : Str)) = false := by decide) (hs : swapsWithSole [Expr.Subscript (.Name pn pp) (.Constant (.int 0) k0 p2) p3] e pos.line X.env = pure false := by rfl)
    (hw : swappedStores [Expr.Subscript (.Name pn pp) (.Constant (.int 0) k0 p2) p3] e X.env = pure none := by rfl) : DS B X (.Assign [.Subscript (.Name pn pp) (.Constant (.int 0) k0 p2) p3] e pos) δ N R :=
  .of (ps_asg pe_w (pg_sub (pe_var hN hv hd hcd) pe_int set_list) hs hw) fun σ F H r D hn hr => h σ F H r _ fun v x δ' F' H' e' r' d ⟨j, hx, hi, p⟩ => by
    subst hx
    cases d
    obtain ⟨u, hu, a, rfl, hp, hm⟩ := r'.cell i _ hi
    obtain ⟨x, y, z, h3, h4, h5⟩ := pot_num (hm ▸ (r'.pot a hp).2.2)
    exact ⟨.ref a, hu, a, _, 0, 0, rfl, rfl, h3, rfl, hn δ' σ F' _ e' (r'.potSet hp (n' := δ'.n) (hm ▸ num_pot (x := j) (y := y) (z := z) upd_same h4 h5)) p⟩
/-- pot[2] = e -/
theorem ds_pot2 (i : Nat) {k0} (h : DE B X e δ fun d δ' => ∃ (v : Int) (n' : Nat), d = .int v ∧ δ'.s[i]? = some (some .pot) ∧ 0 ≤ v ∧ v ≤ (n' : Int) ∧ N ⟨n', δ'.s⟩) (hN : X.N[i]? = some pn := by rfl)
    (hv : Vis X.env.scope pn := by first | exact Or.inl rfl | exact Or.inr (Or.inl rfl) | exact Or.inr (Or.inr rfl)) (hd : (pn == ("__debug__" : Str)) = false := by decide)
    (hcd : (pn == ("__classdict__" : Str)) = false := by decide) (hs : swapsWithSole [Expr.Subscript (.Name pn pp) (.Constant (.int 2) k0 p2) p3] e pos.line X.env = pure false := by rfl)
    (hw : swappedStores [Expr.Subscript (.Name pn pp) (.Constant (.int 2) k0 p2) p3] e X.env = pure none := by rfl) : DS B X (.Assign [.Subscript (.Name pn pp) (.Constant (.int 2) k0 p2) p3] e pos) δ N R :=
  .of (ps_asg pe_w (pg_sub (pe_var hN hv hd hcd) pe_int set_list) hs hw) fun σ F H r D hn hr => h σ F H r _ fun v x δ' F' H' e' r' d ⟨j, n', hx, hi, h6, h7, p⟩ => by
    subst hx
    cases d
    obtain ⟨u, hu, a, rfl, hp, hm⟩ := r'.cell i _ hi
    obtain ⟨x, y, z, h3, h4, h5⟩ := pot_num (hm ▸ (r'.pot a hp).2.2)
    exact ⟨.ref a, hu, a, _, 2, 2, rfl, rfl, h3, rfl, hn ⟨n', δ'.s⟩ σ F' _ e' (r'.potSet hp (n' := n') (hm ▸ num_pot (x := x) (y := y) (z := j) upd_same h6 h7)) p⟩
end
end DL
set_option maxHeartbeats 200000
set_option Elab.async false
set_option linter.all false
set_option maxRecDepth 100000
namespace DL
open PySem PySem.Spec PyProof.Rows L2
abbrev SpO := List PyData → (List PyData → Prop) → Prop
def spO (K : PySem.W.Frag) (S : SpO) : Sp := fun vs H Q _ => ∃ F ds Φ, Same F H ∧ DqAll K F vs ds ∧ S ds Φ ∧
  ∀ a us xs F' H', Same F F' → Same F' H' → (∀ b, F b = none → H b ≠ none → F' b = none) → (∀ b o, H b = some o → H' b = some o) → H a = none → F' a = none → H' a = some (.lst us) → DqAll K F' us xs → Φ xs → Q (.ref a) H'
/-- the same, that is handed the pot ahead -/
abbrev SpPO := Nat → List PyData → (List PyData → Nat → Prop) → Prop
def spPO (K : PySem.W.Frag) (S : SpPO) : Sp := fun vs H Q _ => ∃ F p vs' ds n Φ, vs = .ref p :: vs' ∧ Same F H ∧ F p = none ∧ PotAt none H p n ∧ DqAll K F vs' ds ∧ S n ds Φ ∧
  ∀ a us xs n' F' H', Same F F' → Same F' H' → (∀ b, F b = none → H b ≠ none → F' b = none) → (∀ b o, H b = some o → b ≠ p → H' b = some o) → PotAt none H' p n' → H a = none → F' a = none → H' a = some (.lst us) → DqAll K F' us xs → Φ xs n' → Q (.ref a) H'
/-- statements that end by telling a list of their own -/
def WO (B : Bs) (ts : TS) (δ : St') (R : List PyData → St' → Prop) : Prop := ∀ σ F H, Rep B δ σ F H → ∀ D : Ends, (∀ a us xs δ' σ' F' H', Same F F' → Rep B δ' σ' F' H' → B.H a = none → F' a = none → H' a = some (.lst us) → DqAll B.K F' us xs → R xs δ' → D.rt (.ref a) H') → ts D σ H
def DOs (B : B0) (X : Cx) (sts : List Stmt) (δ : St') (R : List PyData → St' → Prop) : Prop := WO (bs X B) (wSs X sts) δ R
section
variable {B : B0} {X : Cx} {a b c e : Expr} {es : List Expr} {st : Stmt} {rest : List Stmt} {δ : St'} {Φ : PE1} {R : List PyData → St' → Prop} {p pos pp p2 p3 : Pos} {x pn : Str}
theorem DOs.of {sts : List Stmt} {ts : TS} (q : PSs X sts ts) (h : WO (bs X B) ts δ R) : DOs B X sts δ R := fun σ F H r D z pins s I => q.run pins s σ H D I (h σ F H r D z)
theorem dos_cons (h : DS B X st δ (fun δ' => DOs B X rest δ' R) fun _ _ => False) : DOs B X (st :: rest) δ R := .of (pss_cons ps_w pss_w) fun σ F H r D z =>
  h σ F H r _ (fun δ' σ' F' H' e' r' q => q σ' F' H' r' D fun a us xs δ2 σ2 F2 H2 e2 => z a us xs δ2 σ2 F2 H2 (e'.trans e2)) fun v x δ' σ' F' H' e' r' d q => q.elim
theorem dos_ret (h : DLs B X e δ R) : DOs B X [.Return (some e) pos] δ R := .of (pss_one (ps_ret pe_w)) fun σ F H r D z =>
  h σ F H r _ fun a us xs δ' F' H' e' r' k1 k2 k3 k4 k5 k6 => z a us xs δ' σ F' H' e' r' k1 k2 k3 k5 k6
theorem dos_own (i : Nat) {xs : List PyData} (h : R xs δ) (hi : δ.s[i]? = some (some (.own xs)) := by rfl) (hN : X.N[i]? = some pn := by rfl)
    (hv : Vis X.env.scope pn := by first | exact Or.inl rfl | exact Or.inr (Or.inl rfl) | exact Or.inr (Or.inr rfl)) (hd : (pn == ("__debug__" : Str)) = false := by decide)
    (hcd : (pn == ("__classdict__" : Str)) = false := by decide) : DOs B X [.Return (some (.Name pn pp)) pos] δ R := .of (pss_one (ps_ret (pe_var hN hv hd hcd))) fun σ F H r D z => by
  obtain ⟨v, h1, a, us, rfl, h2, h3, h4, h5⟩ := r.cell i _ hi
  exact ⟨.ref a, h1, z a us xs δ σ F H (Same.refl F) r h2 h3 h4 h5 h⟩
end
section
variable {P : Program} {w : World} {K : PySem.W.Frag} {mg : Str → Option Value} {base : Heap} {x qual : Str} {st : Stmt} {f : Addr} {fd : FuncData} {N ps : List Str} {k : Nat}
theorem fnO {S : SpO} {dvs : List V} {kws : List (Str × V)} (F : FunD K x qual (defArgs st) (defBody st) (defScope st) dvs kws f fd) (sc : FnScope N ps (defScope st)) (len : ∀ ds Φ, S ds Φ → ds.length = ps.length)
    (body : ∀ (B : B0) (cdv : Value) (A : Around) (outer : List Env) (s : Shared) (H : Hp) (E : XK) (ds : List PyData) (Φ : List PyData → Prop), Room k (A.deeper (envOfC qual (defScope st) s.heap.objs.size f cdv)) → B.p = none → S ds Φ →
      DOs B (bodyX P w K mg base N qual (defScope st) f cdv A outer s H E) (defBody st) (ini N (ds.map C.d) 0) fun x _ => Φ x) : FnOk P w K mg base CX0 (k + 1) f fd ps (spO K S) := by
  refine F.ok sc (fun vs H Q E h => ?_) (fun cdv A outer s H vs Q E hr h => ?_)
  · obtain ⟨F', ds, Φ, _, hd, hS, _⟩ := h
    rw [dpAll_len hd]; exact len ds Φ hS
  · obtain ⟨F', ds, Φ, e, hd, hS, q⟩ := h
    refine ⟨_, PSs.nox pss_w, ?_⟩
    refine body ⟨F', H, none, none⟩ cdv A outer s H E ds Φ hr rfl hS (L2.start N vs) F' H (rep_iniD e hd) _ fun a us xs δ' σ' F2 H2 e2 r2 k1 k2 k3 k5 k6 => ?_
    exact q a us xs F2 H2 e2 r2.ex r2.fr (fun b o z => r2.kp b o z (fun y => by cases y)) k1 k2 k3 k5 k6
theorem fnPO {S : SpPO} {dvs : List V} {kws : List (Str × V)} (F : FunD K x qual (defArgs st) (defBody st) (defScope st) dvs kws f fd) (sc : FnScope N ps (defScope st)) (len : ∀ n ds Φ, S n ds Φ → ds.length + 1 = ps.length)
    (body : ∀ (B : B0) (cdv : Value) (A : Around) (outer : List Env) (s : Shared) (H : Hp) (E : XK) (n : Nat) (ds : List PyData) (Φ : List PyData → Nat → Prop), Room k (A.deeper (envOfC qual (defScope st) s.heap.objs.size f cdv)) → B.p ≠ none → S n ds Φ →
      DOs B (bodyX P w K mg base N qual (defScope st) f cdv A outer s H E) (defBody st) (ini N (.pot :: ds.map C.d) n) fun x δ => Φ x δ.n) : FnOk P w K mg base CX0 (k + 1) f fd ps (spPO K S) := by
  refine F.ok sc (fun vs H Q E h => ?_) (fun cdv A outer s H vs Q E hr h => ?_)
  · obtain ⟨F', p, vs', ds, n, Φ, rfl, _, _, _, hd, hS, _⟩ := h
    rw [List.length_cons, dpAll_len hd]; exact len n ds Φ hS
  · obtain ⟨F', p, vs', ds, n, Φ, rfl, e, hp, hpot, hd, hS, q⟩ := h
    refine ⟨_, PSs.nox pss_w, ?_⟩
    refine body ⟨F', H, some p, none⟩ cdv A outer s H E n ds Φ hr (fun z => by cases z) hS (L2.start N (.ref p :: vs')) F' H (rep_iniP e hp hpot hd) _ fun a us xs δ' σ' F2 H2 e2 r2 k1 k2 k3 k5 k6 => ?_
    exact q a us xs δ'.n F2 H2 e2 r2.ex r2.fr (fun b o h1 h2 => r2.kp b o h1 fun y => h2 (by injection y with y; exact y.symm)) (r2.pot p rfl).2.2 k1 k2 k3 k5 k6
end
section
variable {B : B0} {X : Cx} {e : Expr} {es : List Expr} {δ : St'} {Φ : PE1} {Ψ : List PyData → St' → Prop} {p pos pp : Pos} {k k' : Nat} {ps : List Str} {x pn : Str}
/-- f(e, ..) where f tells a list of its own -/
theorem dl_f {S : SpO} (G : Fn X.prog X.w X.K X.mg X.base x k ps (spO X.K S)) (hr : Room k' X.A) (h : DA B X (e :: es) δ fun ds δ' => S ds fun y => Ψ y δ') (hk : k ≤ k' := by decide)
    (hg : Gl X x := by rfl) (hdb : (x == ("__debug__" : Str)) = false := by decide) (he : starEach (e :: es) X.env = (false, eval e X.env) :: starEach es X.env := by rfl) (hpl : (backTo pos (starEach es X.env)).any (·.1) = false := by rfl) :
    DLs B X (.Call (.Name x p) (e :: es) [] pos) δ Ψ := by
  obtain ⟨f, fd, h1, h2, h3, h4⟩ := G.ex
  refine .of (pe_call h4 (hr.mono hk) hg h1 h2 h3 .nil pass0 pa_w hdb he hpl) fun σ F H r Q q => h σ F H r _ fun vs ds δ' F' H' e1 r' d hS => ⟨F', ds, _, r'.ex, (by rw [List.append_nil]; exact d), hS, fun a us xs F2 H2 q1 q2 q3 q4 q5 q6 q7 q8 q9 => ?_⟩
  obtain ⟨j1, j2, j3, j4⟩ := r'.fresh q5
  exact q a us xs δ' F2 H2 (e1.trans q1) (r'.called q1 q2 q3 q4) j1 q6 q7 j4 q8 q9
/-- f(pot, e, ..) where f tells a list of its own -/
theorem dl_fP {S : SpPO} (i : Nat) (G : Fn X.prog X.w X.K X.mg X.base x k ps (spPO X.K S)) (hr : Room k' X.A) (h : DA B X es δ fun ds δ' => S δ'.n ds fun y n' => Ψ y ⟨n', δ'.s⟩) (hk : k ≤ k' := by decide) (hi : δ.s[i]? = some (some .pot) := by rfl) (hN : X.N[i]? = some pn := by rfl)
    (hv : Vis X.env.scope pn := by first | exact Or.inl rfl | exact Or.inr (Or.inl rfl) | exact Or.inr (Or.inr rfl)) (hd : (pn == ("__debug__" : Str)) = false := by decide)
    (hcd : (pn == ("__classdict__" : Str)) = false := by decide) (hg : Gl X x := by rfl) (hdb : (x == ("__debug__" : Str)) = false := by decide) (he : starEach (.Name pn pp :: es) X.env = (false, eval (.Name pn pp) X.env) :: starEach es X.env := by rfl) (hpl : (backTo pos (starEach es X.env)).any (·.1) = false := by rfl) :
    DLs B X (.Call (.Name x p) (.Name pn pp :: es) [] pos) δ Ψ := by
  obtain ⟨f, fd, h1, h2, h3, h4⟩ := G.ex
  refine .of (pe_call h4 (hr.mono hk) hg h1 h2 h3 .nil pass0 (pa_cons (pe_var hN hv hd hcd) pa_w he) hdb he hpl) fun σ F H r Q q => ?_
  obtain ⟨v, hv, a, rfl, hp, hm⟩ := r.cell i _ hi
  refine ⟨.ref a, hv, h σ F H r _ fun vs ds δ' F' H' e1 r' d hS => ⟨F', a, vs, ds, δ'.n, _, (by simp), r'.ex, r'.potF hp, hm ▸ (r'.pot a hp).2.2, d, hS, fun l us xs n' F2 H2 q1 q2 q3 q4 q5 q6 q7 q8 q9 q10 => ?_⟩⟩
  obtain ⟨j1, j2, j3, j4⟩ := r'.fresh q6
  exact q l us xs ⟨n', δ'.s⟩ F2 H2 (e1.trans q1) (r'.calledP hp q1 q2 q3 q4 (hm ▸ q5)) j1 q7 q8 j4 q9 q10
theorem upd_eq {H : Hp} {a : Addr} {o : HO} (h : H a = some o) : upd H a o = H := by
  funext b
  by_cases e : b = a
  · rw [e, upd_same, h]
  · rw [upd_ne e]
end
end DL
set_option maxHeartbeats 200000
set_option Elab.async false
set_option linter.all false
set_option maxRecDepth 100000
namespace DL
open PySem PySem.Spec PyProof.Rows L2
section
variable {B : B0} {X : Cx} {a b c e ix : Expr} {es : List Expr} {st : Stmt} {rest : List Stmt} {δ : St'} {Φ : PE1} {N : St' → Prop} {R : PE1} {p pos pp p2 p3 : Pos} {x pn : Str}
theorem rc_int2 {B : Bs} {δ : St'} {Φ : PE1} {f : Int → Int → Int} {i j : Int} (p : Φ (.int (f i j)) δ) : RC B (fun xs H Q => ∃ i j, xs = [V.int i, .int j] ∧ Q (.int (f i j)) H) [.int i, .int j] δ Φ := rc_pure (w := .int (f i j)) (fun _ => .int _) (fun F H vs e d1 Q q => by
  cases d1 with
  | cons d1 d2 => cases d2 with
    | cons d2 d3 => cases d3; cases d1; cases d2; exact ⟨i, j, rfl, q⟩) p
/-- xs[i] = e, xs a list of our own -/
theorem ds_setIx (i : Nat) {xs : List PyData} (h : DE B X e δ fun x δ1 => DE B X ix δ1 fun y δ2 => ∃ (xs : List PyData) (k : Int) (j : Nat), y = .int k ∧ δ2.s[i]? = some (some (.own xs)) ∧ ixN xs.length k = some j ∧ N (δ2.put i (.own (xs.set j x)))) (hi : δ.s[i]? = some (some (.own xs)) := by rfl) (hN : X.N[i]? = some pn := by rfl)
    (hv : Vis X.env.scope pn := by first | exact Or.inl rfl | exact Or.inr (Or.inl rfl) | exact Or.inr (Or.inr rfl)) (hd : (pn == ("__debug__" : Str)) = false := by decide)
    (hcd : (pn == ("__classdict__" : Str)) = false := by decide) (hs : swapsWithSole [Expr.Subscript (.Name pn pp) ix p3] e pos.line X.env = pure false := by rfl)
    (hw : swappedStores [Expr.Subscript (.Name pn pp) ix p3] e X.env = pure none := by rfl) (ha : ∀ v, assign (.Subscript (.Name pn pp) ix p3) X.env v = (do
      let ov ← holding [v] (eval (.Name pn pp) X.env)
      let iv ← holding [v, ov] (eval ix X.env)
      standAt p3
      holding [v, ov, iv] (setItem ov iv v)
      release [v, ov, iv] []) := by intro _; rfl) : DS B X (.Assign [.Subscript (.Name pn pp) ix p3] e pos) δ N R :=
  .of (ps_asg pe_w (pg_sub (pe_var hN hv hd hcd) pe_w set_list ha) hs hw) fun σ F H r D hn hr => h σ F H r _ fun v x δ1 F1 H1 e1 r1 d p => by
    obtain ⟨u, hu, a, us, rfl, hB, hF, hH, hdd⟩ := r.cell i _ hi
    refine ⟨.ref a, hu, p σ F1 H1 r1 _ fun w y δ2 F2 H2 e2 r2 dw ⟨ys, k, j, hy, hi2, hj, q⟩ => ?_⟩
    subst hy
    cases dw
    obtain ⟨u', hu', a', us', rfl, hB', hF', hH', hdd'⟩ := r2.cell i _ hi2
    rw [hu] at hu'
    have : a = a' := by injection hu' with h1; injection h1 with h1; injection h1
    subst this
    refine ⟨a, us', k, j, rfl, rfl, hH', by rw [dpAll_len hdd']; exact hj, ?_⟩
    refine hn _ σ F2 _ (e1.trans e2) (r2.write (c2 := .own (ys.set j x)) hi2 rfl hu hB' hF' rfl ⟨a, us'.set j v, rfl, hB', hF', upd_same, ?_⟩) q
    have hd2 := dp_mono (H := F1) (H' := F2) e2 x v d
    have key : ∀ (us : List V) (ds : List PyData) (j : Nat), DqAll (bs X B).K F2 us ds → DqAll (bs X B).K F2 (us.set j v) (ds.set j x) := by
      intro us ds
      induction ds generalizing us with
      | nil => intro j hh; cases hh; exact .nil
      | cons d ds ih =>
        intro j hh
        cases hh with
        | cons h1 h2 =>
          cases j with
          | zero => exact .cons hd2 h2
          | succ j => exact .cons h1 (ih _ j h2)
    exact key _ _ _ hdd'
end
theorem ixN_nn {n : Nat} {k : Int} (h0 : 0 ≤ k) (h1 : k < n) : ixN n k = some k.toNat := by
  unfold ixN
  rw [if_pos h0, if_pos h1]
theorem atI_nn {α : Type} {xs : List α} {k : Int} (h0 : 0 ≤ k) : atI xs k = xs[k.toNat]? := by
  unfold atI ixN
  rw [if_pos h0]
  split
  · rfl
  · rw [List.getElem?_eq_none (by omega)]; rfl
end DL
set_option maxHeartbeats 200000
set_option Elab.async false
set_option linter.all false
set_option maxRecDepth 100000
namespace DL
open PySem PySem.Spec PyProof.Rows L2
section
variable {B : B0} {X : Cx} {a b c e o : Expr} {δ : St'} {Φ : PE1} {p pos pp p2 p3 : Pos}
theorem strs_v {K : PySem.W.Frag} {F : Hp} {us : List V} {ys : List Str} (h : DqAll K F us (ys.map PyData.str)) : us = ys.map V.str := by
  rw [atoms_v h (by simp [atom]), List.map_map]
  rfl
/-- x.join(a list of texts) -/
theorem de_join {apos : Pos} (h : DE B X o δ fun x δ1 => ∃ a, x = .str a ∧ DE B X e δ1 fun y δ2 => ∃ ys : List Str, y = .list (ys.map PyData.str) ∧ (ys.map (·.length)).sum + ys.length * a.length ≤ 16777216 ∧ Φ (.str (Txt.join a ys)) δ2)
    (hs : starEach [e] X.env = [(false, eval e X.env)] := by rfl) (hbase : attributeBase o "join" X.env (eval o X.env) = eval o X.env := by rfl) (hline : (apos.endLine == pos.line) = true := by rfl) :
    DE B X (.Call (.Attribute o "join" apos) [e] [] pos) δ Φ := .of (pe_join pe_w pe_w hs hbase hline) fun σ F H r Q q => h σ F H r _ fun v x δ1 F1 H1 e1 r1 d1 ⟨a, hx, p1⟩ => by
  subst hx
  cases d1
  refine ⟨⟨a, rfl⟩, p1 σ F1 H1 r1 _ fun u y δ2 F2 H2 e2 r2 d2 ⟨ys, hy, hz, p2⟩ => ?_⟩
  subst hy
  cases d2 with
  | lst hsq ha =>
    rw [strs_v ha] at hsq
    exact ⟨a, _, ys, rfl, rfl, .inl (r2.ex.seq hsq), hz, q _ _ δ2 F2 H2 (e1.trans e2) r2 (.str _) p2⟩
theorem dl_cat {Ψ : PL} (h : DE B X a δ fun x δ1 => ∃ xs, x = .list xs ∧ DE B X b δ1 fun y δ2 => ∃ ys, y = .list ys ∧ xs.length + ys.length ≤ 100000 ∧ Ψ (xs ++ ys) δ2) : DLs B X (.BinOp a .Add b pos) δ Ψ := .of (pe_op op_catL pe_w pe_w) (wl_cat h)
end
theorem joinL_nil : ∀ ps : List (List Nat), TL.joinL [] ps = ps.flatten
  | [] => rfl
  | [p] => by simp [TL.joinL]
  | p :: q :: r => by
    show p ++ ([] ++ TL.joinL [] (q :: r)) = _
    rw [joinL_nil (q :: r)]
    simp
end DL
set_option maxHeartbeats 200000
set_option Elab.async false
set_option linter.all false
set_option maxRecDepth 100000
namespace DL
open PySem PySem.Spec PyProof.Rows L2
/-- a def of the text that is called with keywords ks -/
structure FnKw (P : Program) (w : World) (K : PySem.W.Frag) (mg : Str → Option Value) (base : Heap) (x : Str) (k : Nat) (ps : List Str) (n : Nat) (ks : List Str) (gV : List V → List V → List V) (sp : Sp) : Prop where
  ex : ∃ f fd g, mg x = some (.ref f) ∧ PySem.W.keepIn K (.ref f) = true ∧ KBn K fd ps n ks g gV ∧ FnOk P w K mg base CX0 k f fd ps sp
end DL
set_option maxHeartbeats 200000
set_option Elab.async false
set_option linter.all false
set_option maxRecDepth 100000
namespace DL
open PySem PySem.Spec PyProof.Rows L2
abbrev Gm := Addr → Option (List PyData)
/-- the begin B tells of these lists: they stand still -/
def StIn (B : Bs) (G : Gm) : Prop := ∀ a xs, G a = some xs → ∃ vs, B.H a = some (.lst vs) ∧ DqAll B.K B.F vs xs ∧ B.F a = none ∧ B.p ≠ some a
theorem StIn.sub {B B' : B0} {X : Cx} {X' : Cx} {G : Gm} (h : StIn (bs X B) G) (s : Sub B B') (e : X'.K = X.K) : StIn (bs X' B') G := fun a xs ha => by
  obtain ⟨vs, h1, h2, h3, h4⟩ := h a xs ha
  obtain ⟨s1, s2, s3, s4⟩ := s
  refine ⟨vs, s4 a _ h1 h4, ?_, s3 a h3 (fun z => by rw [show B.H a = _ from h1] at z; cases z), fun z => h4 (s1 ▸ z)⟩
  show DqAll X'.K B'.F vs xs
  rw [e]
  exact dpAll_mono s2 _ _ h2
section
variable {B : Bs} {δ : St'} {Φ : PE1} {G : Gm}
theorem StIn.get (hG : StIn B G) {σ : List (Option V)} {F H : Hp} (r : Rep B δ σ F H) {a : Addr} {xs : List PyData} (h : G a = some xs) : ∃ vs, H a = some (.lst vs) ∧ DqAll B.K F vs xs ∧ F a = none := by
  obtain ⟨vs, h1, h2, h3, h4⟩ := hG a xs h
  exact ⟨vs, r.kp a _ h1 h4, dpAll_mono r.f0 _ _ h2, r.fr a h3 (fun z => by rw [h1] at z; cases z)⟩
end
end DL
set_option maxHeartbeats 200000
set_option Elab.async false
set_option linter.all false
set_option maxRecDepth 100000
namespace DL
open PySem PySem.Spec PyProof.Rows L2
/-- the store as it stands: lists of nobody but the handles -/
structure Sto1 (B : Bs) (δ : St') (σ : List (Option V)) (F H : Hp) (a : Addr) (xs : List PyData) : Prop where
  at' : ∃ vs, H a = some (.lst vs) ∧ DqAll B.K F vs xs
  fF : F a = none
  bH : B.H a = none
  np : B.p ≠ some a
  ap : ∀ (i : Nat) (c : C), δ.s[i]? = some (some c) → own? c = true → σ[i]? ≠ some (some (.ref a))
def Sto (B : Bs) (G : Gm) (δ : St') (σ : List (Option V)) (F H : Hp) : Prop := ∀ a xs, G a = some xs → Sto1 B δ σ F H a xs
def B0.on (B : B0) (G : Gm) (F H : Hp) : B0 := ⟨F, fun b => if (G b).isSome = true then H b else B.H b, B.p, B.m⟩
section
variable {B : B0} {X : Cx} {G : Gm} {δ δ' : St'} {σ σ' : List (Option V)} {F H F' H' : Hp}
theorem on_some {a : Addr} {xs : List PyData} (h : G a = some xs) : (B.on G F H).H a = H a := by
  show (if (G a).isSome = true then H a else B.H a) = _
  rw [h]; rfl
theorem Sto1.ne {B : Bs} {a : Addr} {xs : List PyData} (h : Sto1 B δ σ F H a xs) : H a ≠ none := by
  obtain ⟨vs, h1, _⟩ := h.at'
  rw [h1]
  exact fun z => by cases z
theorem StIn.on (s : Sto (bs X B) G δ σ F H) : StIn (bs X (B.on G F H)) G := fun a xs h => by
  obtain ⟨⟨vs, h1, h2⟩, h3, h4, h5, _⟩ := s a xs h
  exact ⟨vs, (on_some h).trans h1, h2, h3, h5⟩
end
end DL
set_option maxHeartbeats 200000
set_option Elab.async false
set_option linter.all false
set_option maxRecDepth 100000
namespace DL
open PySem PySem.Spec PyProof.Rows L2
end DL
set_option maxHeartbeats 200000
set_option Elab.async false
set_option linter.all false
set_option maxRecDepth 100000
namespace DL
open PySem PySem.Spec PyProof.Rows L2
end DL
set_option maxHeartbeats 200000
set_option Elab.async false
set_option linter.all false
set_option maxRecDepth 100000
namespace DL
open PySem PySem.Spec PyProof.Rows L2
end DL
set_option maxHeartbeats 200000
set_option Elab.async false
set_option linter.all false
set_option maxRecDepth 100000
namespace DL
open PySem PySem.Spec PyProof.Rows L2
section
variable {B : B0} {X : Cx} {G : Gm} {δ : St'} {N : St' → Gm → Prop} {R : PyData → St' → Gm → Prop} {Φ : PyData → St' → Gm → Prop} {st : Stmt} {rest : List Stmt} {e : Expr} {es : List Expr} {p pos pp p2 p3 : Pos} {x pn : Str} {k k' : Nat} {ps : List Str}
theorem Sto.side {B : Bs} {σ : List (Option V)} {F H : Hp} (s : Sto B G δ σ F H) {a : Addr} {o : HO} (h : H a = none) : Sto B G δ σ F (upd H a o) := fun b xs hb => by
  have hn : b ≠ a := fun z => (s b xs hb).ne (by rw [z]; exact h)
  obtain ⟨vs, h1, h2⟩ := (s b xs hb).at'
  exact ⟨⟨vs, by rw [upd_ne hn]; exact h1, h2⟩, (s b xs hb).fF, (s b xs hb).bH, (s b xs hb).np, (s b xs hb).ap⟩
theorem Sto.free {B : Bs} {σ : List (Option V)} {F H : Hp} (s : Sto B G δ σ F H) {a : Addr} (h : H a = none) : G a = none := by
  cases g : G a with
  | none => rfl
  | some xs => exact absurd h (s a xs g).ne
theorem Sto.putO {B : Bs} {σ : List (Option V)} {F H : Hp} (s : Sto B G δ σ F H) (i : Nat) {a : Addr} {c : C} (h : G a = none) : Sto B G (δ.put i c) (σ.set i (some (.ref a))) F H := fun b xs hb => by
  refine ⟨(s b xs hb).at', (s b xs hb).fF, (s b xs hb).bH, (s b xs hb).np, fun j c' hj ho hs => ?_⟩
  rcases put_get hj with ⟨rfl, rfl, hl⟩ | ⟨hne, hj'⟩
  · rw [List.getElem?_set] at hs
    rw [if_pos rfl] at hs
    split at hs
    · injection hs with hs
      injection hs with hs
      injection hs with hs
      rw [hs, hb] at h
      cases h
    · cases hs
  · rw [List.getElem?_set, if_neg (Ne.symm hne)] at hs
    exact (s b xs hb).ap j c' hj' ho hs
end
end DL
set_option maxHeartbeats 200000
set_option Elab.async false
set_option linter.all false
set_option maxRecDepth 100000
namespace DL
open PySem PySem.Spec PyProof.Rows L2
end DL
set_option maxHeartbeats 200000
set_option Elab.async false
set_option linter.all false
set_option maxRecDepth 100000
namespace DL
open PySem PySem.Spec PyProof.Rows L2
end DL
set_option maxHeartbeats 200000
set_option Elab.async false
set_option linter.all false
set_option maxRecDepth 100000
namespace DL
open PySem PySem.Spec PyProof.Rows L2
open PySem.W (alike alikeAll dataLt dataLe AllAlike Sortable EachIs)
section
variable {X : Cx}
def rNeNil (K : PySem.W.Frag) : R2 := fun x y H Q => ∃ a b xs, x = .ref a ∧ y = .ref b ∧ SqL K H a xs ∧ SqL K H b [] ∧ Q (.bl (!xs.isEmpty)) H
theorem op_neNil (hu : X.A.units + 64 < cLine) : OpR X (compareOp .NotEq) (rNeNil X.K) := by
  intro pins s σ H x y v u Q I rx ry h
  obtain ⟨a, b, xs, rfl, rfl, h1, h2, q⟩ := h
  cases rx
  cases ry
  obtain ⟨its, r1, ⟨o, n, e1, e2, _, e3⟩, _⟩ := I.list h1
  obtain ⟨its2, r2, ⟨o2, n2, k1, k2, _, k3⟩, _⟩ := I.list h2
  have l1 := r1.length
  have l2 := r2.length
  have hl : s.heap.IsList a its.toArray := ⟨o, e1, e2, n, e3⟩
  have hl2 : s.heap.IsList b its2.toArray := ⟨o2, k1, k2, n2, k3⟩
  have z2 : its2.toArray.size = 0 := by rw [List.size_toArray, ← l2]; rfl
  cases xs with
  | nil =>
    have z1 : its.toArray.size = 0 := by rw [List.size_toArray, ← l1]; rfl
    have := PySem.SeqAt.RcNeAt.lists (A := X.A) (e := fun _ => true) hl hl2 (by rw [z1, z2]) (by omega) (fun j j1 => absurd j1 (by omega))
    rw [z1] at this
    exact this X.prog X.w X.xe _ ⟨.bl false, H, I, rfl, q⟩
  | cons x xs =>
    have z1 : its.toArray.size ≠ 0 := by
      rw [List.size_toArray, ← l1, List.length_cons]
      omega
    exact PySem.SeqAt.RcNeAt.lists_lengths (A := X.A) hl hl2 (by rw [z2]; simpa using z1) (by omega) X.prog X.w X.xe _ ⟨.bl true, H, I, rfl, q⟩
end
section
variable {B : Bs} {δ : St'} {Φ : PE1}
theorem isEmpty_dq {K : PySem.W.Frag} {F : Hp} {us : List V} {xs : List PyData} (h : DqAll K F us xs) : us.isEmpty = xs.isEmpty := by
  cases h <;> rfl
theorem rd_neNil {xs : List PyData} (p : Φ (.bool (!xs.isEmpty)) δ) : RD B (rNeNil B.K) (.list xs) (.list []) δ Φ :=
  rd_pure (w := .bl (!xs.isEmpty)) (fun _ => .bl _) (fun F H v u e d1 d2 Q q => by
    cases d1 with
    | lst hs ha =>
      cases d2 with
      | lst hs2 ha2 =>
        cases ha2
        refine ⟨_, _, _, rfl, rfl, e.seq hs, e.seq hs2, ?_⟩
        rw [isEmpty_dq ha]
        exact q) p
end
section
variable {B : B0} {X : Cx} {elt cnd tg iter e : Expr} {scope : Scope} {δ : St'} {Φ : List PyData → St' → Prop} {pos spos py : Pos} {wi : TI} {g : TG} {N : St' → Prop} {R : PE1} {y0 : Str}
theorem ds_setLc0 (i : Nat) (own : List (Str × Nat)) (hN : X.N.Nodup) (hi : PI X tg iter wi) (ok : BlkOk X.N X.env.scope scope own)
    (hg : ∀ (s : Shared) (H : Hp) (C : Addr) (cl : List (Str × Addr)) (fp : List Addr), PG (X.blk s H scope (compEnvC scope cl C X.env) fp) tg g)
    (h : WL (bs X B) (tLc wi g tYes (bE X scope elt) (own.map (·.2))) δ fun xs δ' => N (δ'.put i (.d (.list xs))))
    (hy : X.N[i]? = some y0 := by rfl) (hyl : X.env.scope.names.lookup y0 = some .local := by rfl) (hsw : swapsWith (.ListComp elt [⟨tg, iter, [], 0⟩] scope pos) (some (.Name y0 py)) spos.line X.env = pure true := by exact sw_true rfl rfl rfl rfl)
    (hc : X.calm = true := by rfl) (hs : ∀ x, foldedSetIterable iter X.env x = pure x := by intro _; rfl) : DS B X (.Assign [.Name y0 py] (.ListComp elt [⟨tg, iter, [], 0⟩] scope pos) spos) δ N R :=
  .of (ps_setLc (te := bE X scope elt) hc hN hy hyl hsw hi ok hg (fun _ _ _ _ _ => pts_nil) (fun s H C cl fp => ⟨fun pins s' σ H' Q I h => h s H C cl fp pins s' I⟩) hs)
    (ws_set (we_wl h))
end
end DL
set_option maxHeartbeats 200000
set_option Elab.async false
set_option linter.all false
set_option maxRecDepth 100000
namespace DL
open PySem PySem.Spec PyProof.Rows L2
/-- what a def promises where nothing is being shown -/
structure FnSh (P : Program) (w : World) (K : PySem.W.Frag) (mg : Str → Option Value) (base : Heap) (k : Nat) (f : Addr) (fd : FuncData) (ps : List Str) (sp : Sp) : Prop where
  ln : ∀ xs H Q E, sp xs H Q E → xs.length = ps.length
  go : ∀ (A : Around) (out : List Env) (s : Shared) (H : Hp) (ar : Args) (us : List Value) (xs : List V) (Q : VK) (E : XK), A.guards = some [] → Room k A → Env0 P w K mg base A out s H →
    BindsTo s fd ar (ps.zip us) → Vals xs us → sp xs H Q E → codeAny (model P w) A (.call (.ref f) ar) (CR CX0 out P w H s Q E) s
section
variable {P : Program} {w : World} {K : PySem.W.Frag} {mg : Str → Option Value} {base : Heap} {x qual : Str} {st : Stmt} {f : Addr} {fd : FuncData} {N ps : List Str} {k : Nat} {sp : Sp}
theorem FnSh.of {dvs : List V} {kws : List (Str × V)} (F : FunD K x qual (defArgs st) (defBody st) (defScope st) dvs kws f fd) (sc : FnScope N ps (defScope st)) (ln : ∀ xs H Q E, sp xs H Q E → xs.length = ps.length)
    (bd : ∀ (cdv : Value) (A : Around) (out : List Env) (s : Shared) (H : Hp) (xs : List V) (Q : VK) (E : XK), A.guards = some [] → Room k (A.deeper (envOfC qual (defScope st) s.heap.objs.size f cdv)) → sp xs H Q E →
      ∃ t, PSs (cxOf CX0 P w K mg base N qual (defScope st) f cdv A out s H E) (defBody st) t ∧ t { nx := fun _ G => Q .non G, rt := Q } (L2.start N xs) H) : FnSh P w K mg base (k + 1) f fd ps sp := by
  obtain ⟨o1, o2, d1, d2, c1, c2, an, cdv, ct, sl, rfl, hlk, hcode, -, -⟩ := F.ex
  constructor
  · exact ln
  intro A out s H ar us xs Q E hgd rm ev hbd hv hp
  have long := ln xs H Q E hp
  have inK : K.In s.heap := ev.mod.kin.keeps fun a o e => (ev.bs a o e).1
  have nol : s.heap.NoLimit := ev.mod.nolimit.keeps fun a o e => (ev.bs a o e).1
  have kinds : ∀ y, y ∈ ps.zip us → (defScope st).names.lookup y.1 = some .local ∨ ((defScope st).names.lookup y.1 = some .cell ∧ ((cellsFrom (s.heap.objs.size + 1) (defScope st).names []).lookup y.1).isSome = true) := by
    intro y hy
    cases sc.par y.1 (List.of_mem_zip hy).1 with
    | inl h => exact .inl h
    | inr h => exact .inr ⟨h, PySem.W.cellsFrom_some _ _ _ (.inl h)⟩
  apply codeAny_call_function rm.depth (inK _ _ hlk) rfl sc.co sc.gen rfl (PySem.W.codeRec_of inK hcode)
  apply hbd
  apply wpAny_newFunctionEnv_cells sc.kind kinds
  intro env0 rfl s1 made
  constructor
  · exact nol.keeps made.toInCall.keep
  apply codeAny_func
  obtain ⟨t, run, now⟩ := bd cdv A out s H xs Q E hgd (rm.deeper _) hp
  have inv := inv_start (CX := CX0) (E := E) sc rm.hd ev long hv made
  refine wpAny_mono (run.run [] s1 _ H _ inv now) ?_ fun _ _ z => z
  intro fl s2 hs
  cases fl with
  | brk => obtain ⟨_, _, _, z⟩ := hs; exact z.elim
  | cont => obtain ⟨_, _, _, z⟩ := hs; exact z.elim
  | next => obtain ⟨_, H2, J, z⟩ := hs; exact ⟨.non, H2, J.os, J.bare, J.base, J.hok, rfl, z⟩
  | ret u => obtain ⟨v, _, H2, J, rv, z⟩ := hs; exact ⟨v, H2, J.os, J.bare, J.base, J.hok, rv, z⟩
theorem FnSh.mono {j : Nat} (F : FnSh P w K mg base j f fd ps sp) (h : j ≤ k) : FnSh P w K mg base k f fd ps sp := ⟨F.ln, fun A out s H ar us xs Q E hg rm => F.go A out s H ar us xs Q E hg (rm.mono h)⟩
theorem FnOk.sh (F : FnOk P w K mg base CX0 k f fd ps sp) : FnSh P w K mg base k f fd ps sp := ⟨F.len, fun A out s H ar us xs Q E _ rm => F.run A out s H ar us xs Q E rm⟩
end
end DL
set_option maxHeartbeats 200000
set_option Elab.async false
set_option linter.all false
set_option maxRecDepth 100000
namespace DL
open PySem PySem.Spec PyProof.Rows L2
section
variable {P : Program} {w : World} {K : PySem.W.Frag} {mg mb : Str → Option Value} {k : Nat} {fa a : Addr} {fd : FuncData} {x : Str} {sp : Sp} {s : Shared} {vs : List Value} {ns : List Int}
abbrev EndOf (s : Shared) : Result → Shared → Prop := fun r s' => r = .ok (.ret (.bool true)) ∧ OldK s.heap s'.heap ∧ s'.os = s.os ∧ AllBare s'.gens
theorem callSh_at (inK : K.In s.heap) (nsG : s.heap.Ns mainGlobals mg) (nsB : s.heap.Ns builtinsNs mb) (bt : ∀ y : Str, y ≠ "__name__" → mb y = bootBuiltins y) (nol : s.heap.NoLimit) (gn : s.gens = #[])
    (at' : s.heap.get? a = some { cls := .type "list", data := .seq vs.toArray }) (rm : Room k callerA) (F : ∀ base : Heap, K.In base → base.Ns mainGlobals mg → FnSh P w K mg base k fa fd [x] sp)
    (bind : ∀ (s : Shared) (u : Value), BindsTo s fd ⟨[u], []⟩ [(x, u)]) {H : Hp} (only : Only H) (hsp : sp [.ref a] H (fun v _ => v = .bl true) fun _ _ _ => False) (hok : HOk P w H s.heap) (one : ∀ b, H b ≠ none → b = a ∧ K.lookup a = none) :
    codeAny (model P w) callerA (.call (.ref fa) ⟨[.ref a], []⟩) (EndOf s) s := by
  have free : ∀ {b : Addr}, b ≠ a → H b = none := by
    intro b hb
    cases z : H b with
    | none => rfl
    | some o => exact absurd (one b (by rw [z]; exact fun q => nomatch q)).1 hb
  have stays : ∀ {b : Addr} {o : Obj}, s.heap.get? b = some o → H b = none → (hidT s.heap H).get? b = some o := by
    intro b o h1 h2
    exact hidT_get h1 h2
  have dicts : ∀ {b : Addr} {m : Str → Option Value}, s.heap.Ns b m → (hidT s.heap H).Ns b m := by
    rintro b m ⟨o, es, ep, h1, h2, h3⟩
    refine ⟨o, es, ep, stays h1 (free ?_), h2, h3⟩
    rintro rfl
    rw [at'] at h1
    cases h1
    cases h2
  have inB : K.In (hidT s.heap H) := by
    intro b o h
    refine stays (inK b o h) ?_
    cases z : H b with
    | none => rfl
    | some u =>
      obtain ⟨rfl, h2⟩ := one b (by rw [z]; exact fun q => nomatch q)
      rw [h2] at h
      cases h
  have lim : (hidT s.heap H).NoLimit := by
    obtain ⟨m, h1, h2⟩ := nol
    exact ⟨m, dicts h1, h2⟩
  have ev : Env0 P w K mg (hidT s.heap H) callerA [] s H := by
    refine ⟨rfl, ⟨inB, dicts nsG, ⟨mb, dicts nsB, bt⟩, lim⟩, fun b o h => of_hidT h, Nat.le_of_eq (hidT_size _ _), trivial, ?_, hok, .of_eq gn⟩
    intro b hb
    cases hb
  refine codeAny_mono ((F _ inB (dicts nsG)).go callerA [] s H ⟨[.ref a], []⟩ [.ref a] [.ref a] _ _ rfl rm ev (bind s (.ref a)) (.cons rfl .nil) hsp) ?_
  intro r s2 h
  cases r with
  | error e => exact h.elim
  | ok fl =>
    cases fl with
    | brk => exact h.elim
    | cont => exact h.elim
    | next => exact h.elim
    | ret u =>
      obtain ⟨v, H2, h1, h2, un, hok2, rv, hv⟩ := h
      have hv : v = .bl true := hv
      subst hv
      have rv : u = Value.bool true := rv
      subst rv
      refine ⟨rfl, OldK.of_keep ?_, h1, h2⟩
      intro b o hb
      rcases only b with z | ⟨o', xs, z⟩
      · exact un.keep b o hb z (by intro q; cases q) (by intro q; cases q)
      · obtain ⟨q1, _⟩ := hok b _ z
        obtain ⟨q2, _⟩ := hok2 b _ (un.frzs b o' _ z)
        rw [hb] at q1
        cases q1
        exact q2
theorem callSh (inK : K.In s.heap) (nsG : s.heap.Ns mainGlobals mg) (nsB : s.heap.Ns builtinsNs mb) (bt : ∀ y : Str, y ≠ "__name__" → mb y = bootBuiltins y) (nol : s.heap.NoLimit) (gn : s.gens = #[])
    (at' : s.heap.get? a = some { cls := .type "list", data := .seq vs.toArray }) (hi : IntsAre vs ns) (hl : ns.length ≤ sizeLine) (rm : Room k callerA) (F : ∀ base : Heap, K.In base → base.Ns mainGlobals mg → FnSh P w K mg base k fa fd [x] sp)
    (bind : ∀ (s : Shared) (u : Value), BindsTo s fd ⟨[u], []⟩ [(x, u)]) (hsp : ∀ H : Hp, Only H → SqL K H a (ns.map V.int) → sp [.ref a] H (fun v _ => v = .bl true) fun _ _ _ => False) :
    codeAny (model P w) callerA (.call (.ref fa) ⟨[.ref a], []⟩) (EndOf s) s := by
  have rv := vals_ints hi
  have big : vs.length ≤ sizeLine := by rw [hi.length]; exact hl
  cases hk : K.lookup a with
  | some o =>
    have e := (inK a o hk).symm.trans at'
    injection e with e
    subst e
    have on : Only fun _ => none := fun _ => .inl rfl
    refine callSh_at inK nsG nsB bt nol gn at' rm F bind on (hsp _ on (.inr ⟨_, vs.toArray, _, hk, rfl, rfl, rfl, by rw [List.size_toArray]; exact big, by simpa using rv⟩)) ?_ fun b h => absurd rfl h
    intro b u h
    cases h
  | none =>
    let o : Obj := { cls := .type "list", data := .seq vs.toArray }
    let H : Hp := fun b => if b = a then some (.frz o (.lst (ns.map V.int))) else none
    have here : H a = some (.frz o (.lst (ns.map V.int))) := if_pos rfl
    have there : ∀ {b : Addr}, b ≠ a → H b = none := fun {b} h => if_neg h
    have on : Only H := by
      intro b
      by_cases h : b = a
      · subst h
        exact .inr ⟨_, _, here⟩
      · exact .inl (there h)
    refine callSh_at inK nsG nsB bt nol gn at' rm F bind on (hsp H on (.inl (.inr ⟨o, here⟩))) ?_ ?_
    · intro b u h
      by_cases hb : b = a
      · subst hb
        have h := here.symm.trans h
        injection h with h
        subst h
        exact ⟨at', by rw [List.length_map]; exact hl, vs, _, rv, at'⟩
      · rw [there hb] at h
        cases h
    · intro b h
      by_cases hb : b = a
      · exact ⟨hb, hk⟩
      · exact absurd (there hb) h
end
/-- the walk of a law whose def shows things -/
theorem walkSh {l : PySem.W.OpenLaw} {n k : Nat} {q : Program} {loose : List Str} {XP : (Str → Option Value) → Heap → Prop} {YP : World → Heap → Prop} {d : DefRec} {x : Str}
    (hn : l.most = some n) (hn2 : n ≤ sizeLine) (hdf : d.params.defaults = []) (rm : Room k callerA)
    (F : ∀ (w : World) (mg : Str → Option Value) (fa : Addr) (h : Heap), YP w h → h.Ns mainGlobals mg → mg d.name = some (.ref fa) →
      ∃ (K : PySem.W.Frag) (fd : FuncData) (sp : Sp), K.In h ∧ (∀ (s : Shared) (u : Value), BindsTo s fd ⟨[u], []⟩ [(x, u)]) ∧
        (∀ (H : Hp) (a : Addr) (ns : List Int), ns.length ≤ n → Only H → SqL K H a (ns.map V.int) → sp [.ref a] H (fun v _ => v = .bl true) fun _ _ _ => False) ∧
        ∀ base : Heap, K.In base → base.Ns mainGlobals mg → FnSh l.prog w K mg base k fa fd [x] sp) :
    PySem.W.WalkO q loose XP YP l.row.toRowW d [] (fun f vs => PySem.call f vs) := by
  apply Att.attach_call hn hdf
  intro w s₀ s₁ mg mb fa o pm cd doc a vs ns G Y ho hd hcd hmg hobj hints hlen hg
  obtain ⟨K, fd, sp, inK, hb, hsp, hF⟩ := F w mg fa _ Y G.T.g hmg
  exact callSh inK G.T.g G.T.b G.T.builtins G.T.nolimit hg hobj hints (Nat.le_trans hlen hn2) rm hF hb fun H hO hS => hsp H a ns hlen hO hS
end DL
set_option maxHeartbeats 200000
set_option Elab.async false
set_option linter.all false
set_option maxRecDepth 100000
namespace DL
open PySem PySem.Spec PyProof.Rows L2
section
variable {P : Program} {w : World} {K : PySem.W.Frag} {mg : Str → Option Value} {base : Heap} {x qual : Str} {st : Stmt} {f : Addr} {fd : FuncData} {N ps : List Str} {k : Nat}
theorem fnDSh {S : SpD} {dvs : List V} {kws : List (Str × V)} (F : FunD K x qual (defArgs st) (defBody st) (defScope st) dvs kws f fd) (sc : FnScope N ps (defScope st)) (len : ∀ ds Φ, S ds Φ → ds.length = ps.length)
    (body : ∀ (B : B0) (cdv : Value) (A : Around) (outer : List Env) (s : Shared) (H : Hp) (E : XK) (ds : List PyData) (Φ : PyData → Prop), A.guards = some [] → Room k (A.deeper (envOfC qual (defScope st) s.heap.objs.size f cdv)) → B.p = none → S ds Φ →
      DSs B (bodyX P w K mg base N qual (defScope st) f cdv A outer s H E) (defBody st) (ini N (ds.map C.d) 0) (fun _ => Φ .none) fun x _ => Φ x) : FnSh P w K mg base (k + 1) f fd ps (spD K S) := by
  refine FnSh.of F sc (fun vs H Q E h => ?_) (fun cdv A outer s H vs Q E hg hr h => ?_)
  · obtain ⟨F', ds, Φ, _, hd, hS, _⟩ := h
    rw [dpAll_len hd]; exact len ds Φ hS
  · obtain ⟨F', ds, Φ, e, hd, hS, q⟩ := h
    refine ⟨_, PSs.nox pss_w, ?_⟩
    refine body ⟨F', H, none, none⟩ cdv A outer s H E ds Φ hg hr rfl hS (L2.start N vs) F' H (rep_iniD e hd) _ (fun δ' σ' F2 H2 e2 r2 p => ?_) fun v x δ' σ' F2 H2 e2 r2 d2 p => ?_
    · exact q .non .none F2 H2 e2 r2.ex r2.fr (fun b o z => r2.kp b o z (fun y => by cases y)) .non p
    · exact q v x F2 H2 e2 r2.ex r2.fr (fun b o z => r2.kp b o z (fun y => by cases y)) d2 p
end
/-- a def that shows things, by its name -/
structure FnH (P : Program) (w : World) (K : PySem.W.Frag) (mg : Str → Option Value) (base : Heap) (x : Str) (k : Nat) (ps : List Str) (sp : Sp) : Prop where
  ex : ∃ f fd, mg x = some (.ref f) ∧ PySem.W.keepIn K (.ref f) = true ∧ Binds K fd ps [] ∧ FnSh P w K mg base k f fd ps sp
theorem Fn.sh {P : Program} {w : World} {K : PySem.W.Frag} {mg : Str → Option Value} {base : Heap} {x : Str} {k : Nat} {ps : List Str} {sp : Sp} (h : Fn P w K mg base x k ps sp) : FnH P w K mg base x k ps sp := by
  obtain ⟨f, fd, h1, h2, h3, h4⟩ := h.ex
  exact ⟨f, fd, h1, h2, h3, FnOk.sh h4⟩
section
variable {B : B0} {X : Cx} {a b c e : Expr} {es : List Expr} {δ : St'} {Φ : PE1} {p pos pp p2 : Pos} {k k' : Nat} {ps : List Str} {x pn : Str}
/-- it can be shown -/
structure Fit (d : PyData) : Prop where
  sh : d.showable = true
  nd : d.hasDict = false
  dp : d.depth ≤ 60
  sz : d.shown.length ≤ sizeLine
  nh : noH d = true
  rf : ∃ xs, d = .tuple xs ∨ d = .list xs
def rShow (K : PySem.W.Frag) : List V → Hp → VK → Prop := fun vs H Q => ∃ v d, vs = [v] ∧ Dp K H v d ∧ Fit d ∧ Q (.str d.shown) H
theorem cr_repr (hgd : X.A.guards = some []) (hu : X.A.units + 70 < cLine) : CallR X (.builtin "repr") (rShow X.K) := by
  intro pins s σ H vs us Q I r h
  obtain ⟨v, d, rfl, hd, ft, q⟩ := h
  obtain ⟨u, rfl, ru⟩ := vals1 r
  obtain ⟨as, rd⟩ := Dp.reads I d v u hd ru
  obtain ⟨xs, hx⟩ := ft.rf
  obtain ⟨a, rfl⟩ : ∃ a, u = Value.ref a := by
    rcases hx with rfl | rfl
    · cases hd with
      | tup _ _ => exact ⟨_, ru⟩
    · cases hd with
      | lst _ _ => exact ⟨_, ru⟩
  have hdp := ft.dp
  refine repr_of_reads' rd ft.sh (fun z => by rw [ft.nd] at z; cases z) hgd (by omega) (fun _ _ z => z) (fun h' u tk hk => ?_) ft.sz
  exact ⟨.str d.shown, H, I.kept hk, ⟨_, rfl⟩, q⟩
theorem rc_show {B : Bs} {δ : St'} {Φ : PE1} {d : PyData} (ft : Fit d) (p : Φ (.str d.shown) δ) : RC B (rShow B.K) [d] δ Φ := rc_pure (w := .str d.shown) (fun _ => .str _) (fun F H vs e hd Q q => by
  cases hd with
  | cons h1 h2 =>
    cases h2
    exact ⟨_, d, rfl, dq_dp _ _ ft.nh (dp_mono e _ _ h1), ft, q⟩) p
end
theorem weightAll_le {m : Nat} : ∀ {xs : List PyData}, (∀ x ∈ xs, x.weight ≤ m) → PyData.weightAll xs ≤ (m + 1) * xs.length
  | [], _ => by simp [PyData.weightAll]
  | x :: xs, h => by
    have h1 := h x List.mem_cons_self
    have h2 := weightAll_le (xs := xs) fun y hy => h y (List.mem_cons_of_mem _ hy)
    rw [List.length_cons, Nat.mul_add, Nat.mul_one]
    simp only [PyData.weightAll]
    omega
theorem shortAll {B : Nat} : ∀ {xs : List PyData}, (∀ x ∈ xs, x.leavesShort B = true) → PyData.leavesShortAll B xs = true
  | [], _ => rfl
  | x :: xs, h => by
    simp only [PyData.leavesShortAll, Bool.and_eq_true]
    exact ⟨h x List.mem_cons_self, shortAll fun y hy => h y (List.mem_cons_of_mem _ hy)⟩
theorem showAll : ∀ {xs : List PyData}, (∀ x ∈ xs, x.showable = true) → PyData.showableAll xs = true
  | [], _ => rfl
  | x :: xs, h => by
    simp only [PyData.showableAll, Bool.and_eq_true]
    exact ⟨h x List.mem_cons_self, showAll fun y hy => h y (List.mem_cons_of_mem _ hy)⟩
theorem noDictAll : ∀ {xs : List PyData}, (∀ x ∈ xs, x.hasDict = false) → PyData.hasDictAll xs = false
  | [], _ => rfl
  | x :: xs, h => by
    simp only [PyData.hasDictAll, Bool.or_eq_false_iff]
    exact ⟨h x List.mem_cons_self, noDictAll fun y hy => h y (List.mem_cons_of_mem _ hy)⟩
theorem deepAll {m : Nat} : ∀ {xs : List PyData}, (∀ x ∈ xs, x.depth ≤ m) → PyData.depthAll xs ≤ m
  | [], _ => by simp [PyData.depthAll]
  | x :: xs, h => by
    simp only [PyData.depthAll]
    have := h x List.mem_cons_self
    have := deepAll (xs := xs) fun y hy => h y (List.mem_cons_of_mem _ hy)
    omega
theorem noHsAll : ∀ {xs : List PyData}, (∀ x ∈ xs, noH x = true) → noHs xs = true
  | [], _ => rfl
  | x :: xs, h => by
    show (noH x && noHs xs) = true
    rw [h x List.mem_cons_self, noHsAll fun y hy => h y (List.mem_cons_of_mem _ hy)]
    rfl
/-- small, to any bound -/
structure Sm (d : PyData) (wt dp : Nat) : Prop where
  sh : d.showable = true
  nd : d.hasDict = false
  dp : d.depth ≤ dp
  wt : d.weight ≤ wt
  ls : d.leavesShort 13 = true
  nh : noH d = true
theorem Sm.tup {xs : List PyData} {wt dp m : Nat} (h : ∀ x ∈ xs, Sm x wt dp) (hl : xs.length ≤ m) : Sm (.tuple xs) ((wt + 1) * m) (dp + 1) := by
  refine ⟨?_, ?_, ?_, ?_, ?_, ?_⟩
  · simp only [PyData.showable]; exact showAll fun x hx => (h x hx).sh
  · simp only [PyData.hasDict]; exact noDictAll fun x hx => (h x hx).nd
  · have := deepAll fun x hx => (h x hx).dp
    simp only [PyData.depth]
    omega
  · simp only [PyData.weight]
    exact Nat.le_trans (weightAll_le fun x hx => (h x hx).wt) (Nat.mul_le_mul_left _ hl)
  · simp only [PyData.leavesShort]; exact shortAll fun x hx => (h x hx).ls
  · show noHs xs = true
    exact noHsAll fun x hx => (h x hx).nh
theorem Sm.mono {d : PyData} {wt dp wt' dp' : Nat} (h : Sm d wt dp) (h1 : wt ≤ wt') (h2 : dp ≤ dp') : Sm d wt' dp' := ⟨h.sh, h.nd, Nat.le_trans h.dp h2, Nat.le_trans h.wt h1, h.ls, h.nh⟩
theorem Sm.fit {xs : List PyData} {wt dp : Nat} (h : Sm (.tuple xs) wt dp) (h1 : wt ≤ 1048576) (h2 : dp ≤ 60) : Fit (.tuple xs) :=
  ⟨h.sh, h.nd, Nat.le_trans h.dp h2, PyData.shown_fits (B := 13) (by decide) (by decide) h.ls (Nat.le_trans h.wt (by simpa using h1)), h.nh, xs, .inl rfl⟩
end DL
set_option maxHeartbeats 200000
set_option Elab.async false
set_option linter.all false
set_option maxRecDepth 100000
set_option maxHeartbeats 1000000
namespace DL
open PySem PySem.Spec PyProof.Rows L2
end DL
set_option maxHeartbeats 200000
set_option Elab.async false
set_option linter.all false
set_option maxRecDepth 100000
set_option maxHeartbeats 1000000
namespace DL
open PySem PySem.Spec PyProof.Rows L2
end DL
set_option maxHeartbeats 200000
set_option Elab.async false
set_option linter.all false
set_option maxRecDepth 100000
set_option maxHeartbeats 1000000
namespace DL
open PySem PySem.Spec PyProof.Rows L2
/-- what may be raised here, and at which state -/
def TakesD (B : B0) (X : Cx) (Ξ : Value → St' → Prop) : Prop := ∃ W : WX, Takes X W ∧ ∀ cls δ σ F H, Rep (bs X B) δ σ F H → Ξ cls δ → W cls none σ H
theorem TakesD.mono {B : B0} {X : Cx} {Ξ Ξ' : Value → St' → Prop} (h : TakesD B X Ξ) (f : ∀ c δ, Ξ' c δ → Ξ c δ) : TakesD B X Ξ' := by
  obtain ⟨W, h1, h2⟩ := h
  exact ⟨W, h1, fun cls δ σ F H r x => h2 cls δ σ F H r (f _ _ x)⟩
end DL
set_option maxHeartbeats 200000
set_option Elab.async false
set_option linter.all false
set_option maxRecDepth 100000
set_option maxHeartbeats 1000000
namespace DL
open PySem PySem.Spec PyProof.Rows L2
theorem TakesD.none {B : B0} {X : Cx} : TakesD B X fun _ _ => False :=
  ⟨fun _ _ _ _ => False, fun u s' h => by
    obtain ⟨_, _, _, _, _, _, _, _, _, _, _, _, _, _, _, _, f⟩ := h
    exact f.elim, fun _ _ _ _ _ _ z => z⟩
end DL
set_option maxHeartbeats 200000
set_option Elab.async false
set_option linter.all false
set_option maxRecDepth 100000
set_option maxHeartbeats 1000000
namespace DL
open PySem PySem.Spec PyProof.Rows L2
section
variable {B : Bs} {δ : St'} {Φ : PE1} {te th tl : TE}
theorem we_slTo {r : V → Option Int → Option Int → Hp → VK → Prop} (h : WE B te δ fun x δ1 => WE B th δ1 fun y δ2 => ∃ i : Int, y = .int i ∧ RU B (fun v H Q => r v none (some i) H Q) x δ2 Φ) : WE B (tSl r te tNoPart (tPart th)) δ Φ := fun σ F H rp Q q =>
  h σ F H rp _ fun v x δ1 F1 H1 e1 r1 d1 p1 => p1 σ F1 H1 r1 _ fun u y δ2 F2 H2 e2 r2 d2 ⟨i, hy, p2⟩ => by
    subst hy
    cases d2
    exact ⟨i, rfl, p2 σ F2 H2 r2 v (dp_mono e2 _ _ d1) Q fun v' x' δ' F' H' e' r' d' p' => q v' x' δ' F' H' ((e1.trans e2).trans e') r' d' p'⟩
theorem we_slFrom {r : V → Option Int → Option Int → Hp → VK → Prop} (h : WE B te δ fun x δ1 => WE B tl δ1 fun y δ2 => ∃ i : Int, y = .int i ∧ RU B (fun v H Q => r v (some i) none H Q) x δ2 Φ) : WE B (tSl r te (tPart tl) tNoPart) δ Φ := fun σ F H rp Q q =>
  h σ F H rp _ fun v x δ1 F1 H1 e1 r1 d1 p1 => p1 σ F1 H1 r1 _ fun u y δ2 F2 H2 e2 r2 d2 ⟨i, hy, p2⟩ => by
    subst hy
    cases d2
    exact ⟨i, rfl, p2 σ F2 H2 r2 v (dp_mono e2 _ _ d1) Q fun v' x' δ' F' H' e' r' d' p' => q v' x' δ' F' H' ((e1.trans e2).trans e') r' d' p'⟩
/-- (..) + (..) -/
theorem rd_catT {xs ys : List PyData} (hl : xs.length + ys.length ≤ 100000) (p : Φ (.tuple (xs ++ ys)) δ) : RD B (rCatA B.K) (.tuple xs) (.tuple ys) δ Φ := fun σ F H r v u d1 d2 Q q => by
  cases d1 with
  | tup hs ha hp =>
    cases d2 with
    | tup hs2 ha2 hp2 =>
      rename_i us _ _ us2
      have l1 := dpAll_len ha
      have l2 := dpAll_len ha2
      refine ⟨_, _, _, _, rfl, rfl, seqT r.ex hs, seqT r.ex hs2, Nat.le_trans (by omega) (by decide : 100000 ≤ sizeLine), fun e => ?_, fun e1 e2 => ?_, fun e1 e2 l hl => ?_⟩
      · subst e
        cases ha
        exact q _ _ δ F H (Same.refl F) r (.tup hs2 ha2 hp2) p
      · subst e2
        cases ha2
        rw [List.append_nil] at p
        exact q _ _ δ F H (Same.refl F) r (.tup hs ha hp) p
      · obtain ⟨F2, k1, k2, _, _, k5⟩ := r.newT hl (dpAll_app ha ha2)
        exact q _ _ δ F2 _ k1 k2 k5 p
end
section
variable {B : B0} {X : Cx} {a e : Expr} {δ : St'} {Φ : PE1} {pos p2 : Pos}
/-- a[:e], a[e:] -/
theorem de_slTo {r : V → Option Int → Option Int → Hp → VK → Prop} (hr : SlR X r) (h : DE B X a δ fun x δ1 => DE B X e δ1 fun y δ2 => ∃ i : Int, y = .int i ∧ RU (bs X B) (fun v H Q => r v none (some i) H Q) x δ2 Φ) : DE B X (.Subscript a (.Slice none (some e) none p2) pos) δ Φ :=
  .of (pe_slice hr pe_w po_none (po_some pe_w)) (we_slTo h)
theorem de_slFrom {r : V → Option Int → Option Int → Hp → VK → Prop} (hr : SlR X r) (h : DE B X a δ fun x δ1 => DE B X e δ1 fun y δ2 => ∃ i : Int, y = .int i ∧ RU (bs X B) (fun v H Q => r v (some i) none H Q) x δ2 Φ) : DE B X (.Subscript a (.Slice (some e) none none p2) pos) δ Φ :=
  .of (pe_slice hr pe_w (po_some pe_w) po_none) (we_slFrom h)
end
end DL
set_option maxHeartbeats 200000
set_option Elab.async false
set_option linter.all false
set_option maxRecDepth 100000
set_option maxHeartbeats 1000000
namespace DL
open PySem PySem.Spec PyProof.Rows L2
def keyD : L2.Key → PyData
  | .inl i => .int i
  | .inr x => .str x
def getD' (kvs : List (L2.Key × PyData)) (k : L2.Key) : Option PyData := (kvs.find? fun kv => decide (kv.1 = k)).map (·.2)
def putD (kvs : List (L2.Key × PyData)) (k : L2.Key) (x : PyData) : List (L2.Key × PyData) := if (kvs.any fun kv => decide (kv.1 = k)) = true then kvs.map (fun kv => if kv.1 = k then (kv.1, x) else kv) else kvs ++ [(k, x)]
theorem keyD_v {K : PySem.W.Frag} {H : Hp} {v : V} {k : L2.Key} (h : Dq K H v (keyD k)) : v = kV k := by
  cases k <;> (cases h; rfl)
theorem get_v {K : PySem.W.Frag} {F : Hp} : ∀ {kvs : List (L2.Key × PyData)} {vs : List V} (_ : DqAll K F vs (kvs.map (·.2))) (k : L2.Key), (∀ x, getD' kvs k = some x → ∃ v, valV ((kvs.map (·.1)).zip vs) k = some v ∧ Dq K F v x) ∧ (getD' kvs k = none → valV ((kvs.map (·.1)).zip vs) k = none)
  | [], vs, h, k => by
    cases h
    exact ⟨fun x e => (by cases e), fun _ => rfl⟩
  | kv :: kvs, vs, h, k => by
    cases h with
    | cons h1 h2 =>
      rename_i v vs'
      have ih := get_v h2 k
      unfold getD' valV at *
      simp only [List.map_cons, List.zip_cons_cons, List.find?_cons]
      by_cases e : kv.1 = k
      · rw [decide_eq_true e]
        exact ⟨fun x hx => ⟨v, rfl, (by cases hx; exact h1)⟩, fun z => (by cases z)⟩
      · rw [decide_eq_false e]
        exact ih
theorem put_v {K : PySem.W.Frag} {F : Hp} {v : V} {x : PyData} {k : L2.Key} (hv : Dq K F v x) : ∀ {kvs : List (L2.Key × PyData)} {vs : List V}, DqAll K F vs (kvs.map (·.2)) → ∃ vs', putK ((kvs.map (·.1)).zip vs) k v = ((putD kvs k x).map (·.1)).zip vs' ∧ DqAll K F vs' ((putD kvs k x).map (·.2)) := fun {kvs vs} h => by
  have hany : (((kvs.map (·.1)).zip vs).any fun kv => decide (kv.1 = k)) = kvs.any fun kv => decide (kv.1 = k) := by
    induction kvs generalizing vs with
    | nil => simp
    | cons kv kvs ih =>
      cases h with
      | cons h1 h2 =>
        simp only [List.map_cons, List.zip_cons_cons, List.any_cons]
        rw [ih h2]
  unfold putK putD
  rw [hany]
  by_cases hc : (kvs.any fun kv => decide (kv.1 = k)) = true
  · rw [if_pos hc, if_pos hc]
    clear hany hc
    induction kvs generalizing vs with
    | nil => cases h; exact ⟨[], rfl, .nil⟩
    | cons kv kvs ih =>
      cases h with
      | cons h1 h2 =>
        rename_i u us
        obtain ⟨vs', e1, e2⟩ := ih h2
        simp only [List.map_cons, List.zip_cons_cons]
        by_cases e : kv.1 = k
        · refine ⟨v :: vs', ?_, ?_⟩
          · rw [if_pos e, if_pos e, e1]; rfl
          · rw [if_pos e]; exact .cons hv e2
        · refine ⟨u :: vs', ?_, ?_⟩
          · rw [if_neg e, if_neg e, e1]; rfl
          · rw [if_neg e]; exact .cons h1 e2
  · rw [if_neg hc, if_neg hc]
    refine ⟨vs ++ [v], ?_, ?_⟩
    · rw [List.map_append, List.zip_append (by rw [dpAll_len h]; simp)]
      rfl
    · rw [List.map_append]
      exact dpAll_app h (.cons hv .nil)
section
variable {B : B0} {X : Cx} {e i' : Expr} {δ : St'} {Φ : PE1} {pp pos p2 : Pos} {pn : Str} {kvs : List (L2.Key × PyData)}
/-- d[e] -/
theorem de_dget (i : Nat) (hu : X.A.units + 1 < cLine) (h : DE B X e δ fun y δ' => ∃ (kvs : List (L2.Key × PyData)) (k : L2.Key) (x : PyData), y = keyD k ∧ δ'.s[i]? = some (some (.dct kvs)) ∧ getD' kvs k = some x ∧ Φ x δ') (hi : δ.s[i]? = some (some (.dct kvs)) := by rfl) (hN : X.N[i]? = some pn := by rfl)
    (hv : Vis X.env.scope pn := by first | exact Or.inl rfl | exact Or.inr (Or.inl rfl) | exact Or.inr (Or.inr rfl)) (hd : (pn == ("__debug__" : Str)) = false := by decide) (hcd : (pn == ("__classdict__" : Str)) = false := by decide) (hs : NoSl e := by exact fun _ _ => rfl) :
    DE B X (.Subscript (.Name pn pp) e pos) δ Φ := .of (pe_dget hu (pe_var hN hv hd hcd) pe_w hs) fun σ F H r Q q => by
  obtain ⟨u, hu', a, us, rfl, hB, hF, hH, hdd⟩ := r.cell i _ hi
  refine ⟨.ref a, hu', h σ F H r _ fun w y δ' F' H' e1 r' dw ⟨kvs', k, x, hy, hi2, hg, p⟩ => ?_⟩
  subst hy
  obtain ⟨u2, hu2, a2, us2, rfl, hB2, hF2, hH2, hdd2⟩ := r'.cell i _ hi2
  rw [hu'] at hu2
  have : a = a2 := by injection hu2 with h1; injection h1 with h1; injection h1
  subst this
  obtain ⟨v, hv1, hv2⟩ := (get_v hdd2 k).1 x hg
  exact ⟨a, v, rfl, .inl ⟨_, k, .inl hH2, keyD_v dw, hv1.symm⟩, q v x δ' F' H' e1 r' hv2 p⟩
variable {N : St' → Prop} {R : PE1} {e2 : Expr}
end
end DL
set_option maxHeartbeats 200000
set_option Elab.async false
set_option linter.all false
set_option maxRecDepth 100000
set_option maxHeartbeats 1000000
namespace DL
open PySem PySem.Spec PyProof.Rows L2
end DL
set_option maxHeartbeats 200000
set_option Elab.async false
set_option linter.all false
set_option maxRecDepth 100000
set_option maxHeartbeats 1000000
namespace DL
open PySem PySem.Spec PyProof.Rows L2
def WAL (B : Bs) (ta : TA) (j : Nat) (δ : St') (Φ : List PyData → St' → Prop) : Prop := ∀ σ F H, Rep B δ σ F H → ∀ Q : List V → Hp → Prop, (∀ vs u xs δ' F' H', Same F F' → Rep B δ' σ F' H' → DqAll B.K F' vs xs → σ[j]? = some (some u) → Φ xs δ' → Q (vs ++ [u]) H') → ta σ H Q
def DAL (B : B0) (X : Cx) (es : List Expr) (j : Nat) (δ : St') (Φ : List PyData → St' → Prop) : Prop := WAL (bs X B) (wA X es) j δ Φ
section
variable {B : B0} {X : Cx} {a : Expr} {es : List Expr} {δ : St'} {Φ : List PyData → St' → Prop} {pn : Str} {pp pos p : Pos} {j : Nat} {c : C}
theorem dal_last (p : Φ [] δ) (hi : δ.s[j]? = some (some c) := by rfl) (hN : X.N[j]? = some pn := by rfl)
    (hv : Vis X.env.scope pn := by first | exact Or.inl rfl | exact Or.inr (Or.inl rfl) | exact Or.inr (Or.inr rfl)) (hd : (pn == ("__debug__" : Str)) = false := by decide) (hcd : (pn == ("__classdict__" : Str)) = false := by decide)
    (hs : starEach [.Name pn pp] X.env = (false, eval (.Name pn pp) X.env) :: starEach [] X.env := by rfl) : DAL B X [.Name pn pp] j δ Φ := fun σ F H r Q q pos pins s I => by
  obtain ⟨v, hv', _⟩ := r.cell j c hi
  exact (pa_cons (pe_var hN hv hd hcd) pa_nil hs).run pos pins s σ H Q I ⟨v, hv', q [] v [] δ F H (Same.refl F) r .nil hv' p⟩
theorem dal_cons (h : DE B X a δ fun x δ1 => DAL B X es j δ1 fun xs δ2 => Φ (x :: xs) δ2) (hs : starEach (a :: es) X.env = (false, eval a X.env) :: starEach es X.env := by rfl) : DAL B X (a :: es) j δ Φ := fun σ F H r Q q pos pins s I =>
  (pa_cons pe_w pa_w hs).run pos pins s σ H Q I (h σ F H r _ fun v x δ1 F1 H1 e1 r1 d1 p1 => p1 σ F1 H1 r1 _ fun vs u xs δ2 F2 H2 e2 r2 d2 hu p2 => q (v :: vs) u (x :: xs) δ2 F2 H2 (e1.trans e2) r2 (.cons (dp_mono e2 _ _ d1) d2) hu p2)
variable {k k' : Nat} {ps : List Str} {x : Str} {Pk : PotK} {Ψ : PE1} {e : Expr}
variable {N : St' → Prop} {R : PE1} {e2 : Expr} {p2 : Pos}
end
end DL
set_option maxHeartbeats 200000
set_option Elab.async false
set_option linter.all false
set_option maxRecDepth 100000
set_option maxHeartbeats 1000000
namespace DL
open PySem PySem.Spec PyProof.Rows L2
def rIsBl (neg : Bool) : R2 := fun x y H Q => ∃ b : Bool, y = .bl b ∧ ((∃ i, x = .int i ∧ Q (.bl neg) H) ∨ ∃ a : Bool, x = .bl a ∧ Q (.bl (decide (a = b) != neg)) H)
theorem op_isBl1 {X : Cx} : OpR X (compareOp .Is) (rIsBl false) := fun pins s σ H x y v u Q I rx ry h => by
  obtain ⟨b, rfl, h⟩ := h
  obtain rfl : u = Value.bool b := ry
  rcases h with ⟨i, rfl, q⟩ | ⟨a, rfl, q⟩
  · obtain ⟨t, rfl⟩ : ∃ t, v = Value.int i t := rx
    exact wpAny_is_other rfl (fun z => by cases z) ⟨.bl false, H, I, rfl, q⟩
  · obtain rfl : v = Value.bool a := rx
    by_cases e : a = b
    · subst e
      exact wpAny_is_self rfl ⟨.bl true, H, I, rfl, by simpa using q⟩
    · exact wpAny_is_other rfl (fun z => e (Value.bool.inj z)) ⟨.bl false, H, I, rfl, by simpa [e] using q⟩
section
variable {B : Bs} {δ : St'} {Φ : PE1}
theorem rd_isBi {neg : Bool} {i : Int} {b : Bool} (p : Φ (.bool neg) δ) : RD B (rIsBl neg) (.int i) (.bool b) δ Φ := rd_pure (w := .bl neg) (fun _ => .bl _) (fun F H v u e d1 d2 Q q => by cases d1; cases d2; exact ⟨b, rfl, .inl ⟨i, rfl, q⟩⟩) p
end
section
variable {B : B0} {X : Cx} {o : Expr} {δ : St'} {Φ : PE1} {name : Str} {apos cpos : Pos} {id : String} {g : Str → V} {gd : Str → PyData}
theorem de_strM (slot : PySem.Slot "str" name id) (hty : typeOf (.builtin id) = pure (.type "method_descriptor")) (hm : MtR X id fun x xs H Q => ∃ a, x = .str a ∧ xs = [] ∧ True ∧ Q (g a) H) (hg : ∀ K F a, Dq K F (g a) (gd a)) (h : DE B X o δ fun x δ' => ∃ a, x = .str a ∧ Φ (gd a) δ')
    (hbase : attributeBase o name X.env (eval o X.env) = eval o X.env := by rfl) (hline : (apos.endLine == cpos.line) = true := by rfl) : DE B X (.Call (.Attribute o name apos) [] [] cpos) δ Φ :=
  .of (pe_bm0 PySem.F.plainAttrs_str slot hty hm pe_w hbase hline) fun σ F H r Q q => h σ F H r _ fun v x δ' F' H' e r' d ⟨a, hx, p⟩ => by
    subst hx
    cases d
    exact ⟨by simp [tyV], a, rfl, rfl, trivial, q _ _ δ' F' H' e r' (hg _ _ a) p⟩
theorem de_isascii (h : DE B X o δ fun x δ' => ∃ a, x = .str a ∧ Φ (.bool (Txt.isascii a)) δ') (hbase : attributeBase o "isascii" X.env (eval o X.env) = eval o X.env := by rfl) (hline : (apos.endLine == cpos.line) = true := by rfl) : DE B X (.Call (.Attribute o "isascii" apos) [] [] cpos) δ Φ :=
  de_strM (g := fun a => .bl (Txt.isascii a)) (gd := fun a => .bool (Txt.isascii a)) PySem.F.slot_str_isascii PySem.F.type_str_isascii mt_isascii (fun _ _ _ => .bl _) h hbase hline
theorem de_isalpha (h : DE B X o δ fun x δ' => ∃ a, x = .str a ∧ Φ (.bool (Txt.isalpha a)) δ') (hbase : attributeBase o "isalpha" X.env (eval o X.env) = eval o X.env := by rfl) (hline : (apos.endLine == cpos.line) = true := by rfl) : DE B X (.Call (.Attribute o "isalpha" apos) [] [] cpos) δ Φ :=
  de_strM (g := fun a => .bl (Txt.isalpha a)) (gd := fun a => .bool (Txt.isalpha a)) PySem.F.slot_str_isalpha PySem.F.type_str_isalpha mt_isalpha (fun _ _ _ => .bl _) h hbase hline
theorem de_islower (h : DE B X o δ fun x δ' => ∃ a, x = .str a ∧ Φ (.bool (Txt.islower a)) δ') (hbase : attributeBase o "islower" X.env (eval o X.env) = eval o X.env := by rfl) (hline : (apos.endLine == cpos.line) = true := by rfl) : DE B X (.Call (.Attribute o "islower" apos) [] [] cpos) δ Φ :=
  de_strM (g := fun a => .bl (Txt.islower a)) (gd := fun a => .bool (Txt.islower a)) PySem.F.slot_str_islower PySem.F.type_str_islower mt_islower (fun _ _ _ => .bl _) h hbase hline
end
theorem ascii_tab : ∀ c, c < 128 → Unicode.isAlpha c = (decide (65 ≤ c) && decide (c ≤ 90) || decide (97 ≤ c) && decide (c ≤ 122)) ∧ Unicode.isLower c = (decide (97 ≤ c) && decide (c ≤ 122)) ∧ Unicode.isUpper c = (decide (65 ≤ c) && decide (c ≤ 90)) ∧ Unicode.isTitle c = false := by decide +kernel
/-- what the three together let by -/
theorem small_letters (x : Str) : (Txt.isascii x && (Txt.isalpha x && Txt.islower x)) = (decide (1 ≤ x.length) && x.cps.toList.all fun c => decide (97 ≤ c) && decide (c ≤ 122)) := by
  have hl : x.length = x.cps.toList.length := by simp [Str.length]
  have e1 : Txt.isascii x = x.cps.toList.all fun c => decide (c < 128) := by unfold Txt.isascii; rw [← Array.all_toList]
  have e2 : Txt.isalpha x = (decide (x.length > 0) && x.cps.toList.all Unicode.isAlpha) := by unfold Txt.isalpha; rw [← Array.all_toList]
  have e3 : Txt.islower x = (x.cps.toList.any Unicode.isLower && !x.cps.toList.any fun c => Unicode.isUpper c || Unicode.isTitle c) := by unfold Txt.islower; rw [← Array.any_toList, ← Array.any_toList]
  rw [e1, e2, e3, hl]
  generalize x.cps.toList = l
  rw [Bool.eq_iff_iff]
  simp only [Bool.and_eq_true, List.all_eq_true, List.any_eq_true, decide_eq_true_eq, Bool.not_eq_true', List.any_eq_false, Bool.or_eq_true, not_or]
  constructor
  · rintro ⟨ha, ⟨hp, hal⟩, _, hu⟩
    refine ⟨by omega, fun c hc => ?_⟩
    obtain ⟨t1, t2, t3, t4⟩ := ascii_tab c (ha c hc)
    have q1 := hal c hc
    have q2 := (hu c hc).1
    rw [t1] at q1
    rw [t3] at q2
    simp only [Bool.or_eq_true, Bool.and_eq_true, decide_eq_true_eq] at q1 q2
    omega
  · rintro ⟨hp, hs⟩
    refine ⟨fun c hc => by have := hs c hc; omega, ⟨by omega, fun c hc => ?_⟩, ?_, fun c hc => ?_⟩
    · have := hs c hc
      rw [(ascii_tab c (by omega)).1]
      simp only [Bool.or_eq_true, Bool.and_eq_true, decide_eq_true_eq]
      omega
    · cases l with
      | nil => simp at hp
      | cons c l =>
        have := hs c (by simp)
        refine ⟨c, by simp, ?_⟩
        rw [(ascii_tab c (by omega)).2.1]
        simp only [Bool.and_eq_true, decide_eq_true_eq]
        omega
    · have := hs c hc
      obtain ⟨t1, t2, t3, t4⟩ := ascii_tab c (by omega)
      rw [t3, t4]
      simp only [Bool.and_eq_true, decide_eq_true_eq, Bool.false_eq_true, not_false_eq_true, and_true]
      omega
end DL
set_option maxHeartbeats 200000
set_option Elab.async false
set_option linter.all false
set_option maxRecDepth 100000
set_option maxHeartbeats 1000000
namespace DL
open PySem PySem.Spec PyProof.Rows L2
section
variable {B : B0} {X : Cx} {c e : Expr} {st : Stmt} {rest body : List Stmt} {δ : St'} {N : St' → Prop} {Φ R : PE1} {pos p2 p3 : Pos}
/-- xs.pop() within an expression -/
theorem de_pop (i : Nat) {x : Str} {xs : List PyData} {z : PyData} {apos npos : Pos} (h : Φ z (δ.put i (.own xs))) (hi : δ.s[i]? = some (some (.own (xs ++ [z]))) := by rfl)
    (hN : X.N[i]? = some x := by rfl) (hv : Vis X.env.scope x := by first | exact Or.inl rfl | exact Or.inr (Or.inl rfl) | exact Or.inr (Or.inr rfl)) (hd : (x == ("__debug__" : Str)) = false := by decide)
    (hcd : (x == ("__classdict__" : Str)) = false := by decide) (hbase : attributeBase (.Name x npos) "pop" X.env (eval (.Name x npos) X.env) = eval (.Name x npos) X.env := by rfl) (hline : (apos.endLine == p2.line) = true := by rfl) :
    DE B X (.Call (.Attribute (.Name x npos) "pop" apos) [] [] p2) δ Φ := .of (pe_bm0 PySem.F.plainAttrs_list PySem.F.slot_list_pop PySem.F.type_list_pop mt_pop (pe_var hN hv hd hcd) hbase hline) fun σ F H r Q q => by
  obtain ⟨u, hu, a, vs, rfl, hB, hF, hH, hdd⟩ := r.cell i _ hi
  have hl := dpAll_len hdd
  rw [List.length_append] at hl
  obtain ⟨v, hv2, dv⟩ := dpAll_get (i := xs.length) (d := z) hdd (by simp)
  refine ⟨.ref a, hu, .inl ⟨rfl, vs, .inl (.inl hH)⟩, a, vs, v, rfl, rfl, hH, ?_, ?_⟩
  · rw [hl]; simpa using hv2
  · have hdl := dpAll_dropLast hdd
    rw [List.dropLast_concat] at hdl
    exact q v z _ F _ (Same.refl F) (r.write (c2 := .own xs) hi rfl hu hB hF rfl ⟨a, vs.dropLast, rfl, hB, hF, upd_same, hdl⟩) dv h
end
end DL
set_option maxHeartbeats 200000
set_option Elab.async false
set_option linter.all false
set_option maxRecDepth 100000
set_option maxHeartbeats 1000000
namespace DL
open PySem PySem.Spec PyProof.Rows L2
end DL
set_option maxHeartbeats 200000
set_option Elab.async false
set_option linter.all false
set_option maxRecDepth 100000
set_option maxHeartbeats 1000000
namespace DL
open PySem PySem.Spec PyProof.Rows L2
/-- one argument, of whatever begins -/
theorem enum_made {v : Value} {ob : Obj} {Hh : Heap → Prop} (B : Begins v ob Hh) : Meets (Builtin.«enumerate.__new__» ⟨[.type "enumerate", v], []⟩)
    (fun _ R s => Hh s.heap ∧ R (.ok (.ret (.ref (s.heap.push ob).objs.size))) { s with heap := (s.heap.push ob).push { cls := .type "enumerate", data := .fields #[.none, .bool false, .ref s.heap.objs.size, rawInt 0, .none, .none] } }) :=
  .of_wp fun prog w A R s hh => by
    obtain ⟨hp, gl, dr, tk, os⟩ := s
    obtain ⟨hb, hr⟩ := hh
    have iter1 : ∀ {A' : Around} {E : Value → Shared → Prop} {Q : Value → Shared → Prop}, Q (.ref hp.objs.size) ⟨hp.push ob, gl, dr, tk, os⟩ → wpAny (model prog w) A' (pyIter v) Q E ⟨hp, gl, dr, tk, os⟩ :=
      fun qq => B.iter prog w _ _ ⟨hp, gl, dr, tk, os⟩ _ hb qq
    have hsub := sub_enumerate
    wp_walk using iter1
    refine wpAny_stack_any fun st => wpAny_pure ?_
    split
    · rename_i cc _ _ _ _ _
      cases (cc == Value.type "enumerate")
      all_goals (wp_walk using iter1; exact ⟨_, rfl, hr⟩)
    · (wp_walk using iter1; exact ⟨_, rfl, hr⟩)
theorem call_enum_tup {prog : Program} {w : World} {A : Around} {E : Value → Shared → Prop} {s : Shared} {t : Addr} {items : Array Value} {Q : Value → Shared → Prop} (ht : s.heap.IsTuple t items)
    (h : ∀ h', IsEnum h' (s.heap.objs.size + 1) s.heap.objs.size 0 .none → h'.IsTupleIter s.heap.objs.size t 0 → (∀ b o, s.heap.get? b = some o → h'.get? b = some o) → Q (.ref (s.heap.objs.size + 1)) { s with heap := h' }) :
    wpAny (model prog w) A (call (.type "enumerate") [.ref t]) Q E s := by
  have B := begins_tuple t items
  refine callType_new F.called_enumerate (by decide) (F.typeCall_enumerate_1 _) (F.newCall_enumerate_1 _) (fun obj => F.args_object_init_2 obj _) F.entry_enumerate_new (enum_made B) ⟨ht, ?_⟩
  generalize ho : ({ cls := .type "tuple_iterator", data := .fields #[.ref t, .int 0 0] } : Obj) = o at B ⊢
  have sz : (s.heap.push o).objs.size = s.heap.objs.size + 1 := Heap.size_push ..
  rw [sz]
  have isE : IsEnum ((s.heap.push o).push { cls := .type "enumerate", data := .fields #[.none, .bool false, .ref s.heap.objs.size, rawInt 0, .none, .none] }) (s.heap.objs.size + 1) s.heap.objs.size 0 .none := by
    have z := Heap.get?_push_size (s.heap.push o) (o := { cls := .type "enumerate", data := .fields #[.none, .bool false, .ref s.heap.objs.size, rawInt 0, .none, .none] }) rfl
    rw [sz] at z
    exact z
  refine ⟨⟨_, isE, rfl⟩, h _ isE ?_ fun b u x => Heap.get?_push_of_some _ (Heap.get?_push_of_some _ x)⟩
  exact ⟨_, Heap.get?_push_of_some _ (Heap.get?_push_size _ B.free), by rw [← ho], by rw [← ho]; rfl⟩
/-- the tuple at a, each item in a new pair behind its number -/
def IteT (K : PySem.W.Frag) (a : Addr) : It where
  go i H := ∃ (xs : List V) (x : V), SqT K H a xs ∧ xs[i]? = some x
  yld i H v H' := ∃ T x, v = .ref T ∧ H T = none ∧ H' = upd H T (.tup [.int (i : Nat), x]) ∧ ∀ xs, SqT K H a xs → xs[i]? = some x
  stop i H := ∃ xs : List V, SqT K H a xs ∧ xs.length ≤ i
theorem turn_enumT {P : Program} {w : World} {K : PySem.W.Frag} {elts : List Expr} {kk : Nat} {tpos : Pos} (a e it : Addr) (hne : e ≠ it) (hai : a ≠ it) (hea : e ≠ a) :
    Turn P w K (.Tuple elts kk tpos) (IteT K a) [e, it] e (fun i h => (∃ old, IsEnum h e it ((0 : Int) + ((i : Nat) : Int)) old) ∧ h.IsTupleIter it a i) where
  mem := List.mem_cons_self
  obj := fun i h st b hb => by
    obtain ⟨⟨old, he⟩, o, ho, hc, hd⟩ := st
    rcases List.mem_cons.mp hb with z | z
    · rw [z]
      exact ⟨_, he, fun v q => nomatch q⟩
    · rw [List.mem_singleton.mp z]
      exact ⟨o, ho, fun v q => by rw [hd] at q; cases q⟩
  keep := fun i h h' st k => let ⟨⟨old, he⟩, hi⟩ := st; ⟨⟨old, k e List.mem_cons_self _ he⟩, hi.at fun o q => k it (by simp) o q⟩
  item := by
    intro X hP hw hK hc i pins s σ H E I hf st hg
    subst hP hw hK
    obtain ⟨xs, x, hq, hx⟩ := hg
    obtain ⟨its, rv, p, hz⟩ := I.tuple hq
    obtain ⟨u, hu, ru⟩ := rv.get hx
    have D := Draws.tuple (prog := X.prog) (w := X.w) (A := X.A.in1) (I.ok.hd hc) it a hai its.toArray
    have Wk := WalksT.enumFrom 0 D e hne (by simp [hne, hea]) (by simp)
    have hil : i < its.toArray.size := by
      have := (List.getElem?_eq_some_iff.mp hu).1
      simpa using this
    have hel : e < s.heap.objs.size := Heap.lt_size st.1.choose_spec
    have hitl : it < s.heap.objs.size := by
      obtain ⟨o, ho, _⟩ := st.2
      exact Heap.lt_size ho
    refine Wk.item i s _ E hil ⟨st.1, st.2, p⟩ fun T vals h' tk hP hT isT mid hk => ⟨_, rfl, ?_⟩
    obtain ⟨t, x', hx', ev⟩ := hP
    have hxu : x' = u := by
      have z : its.toArray[i]? = some u := by simpa using hu
      rw [z] at hx'
      injection hx' with q
      exact q.symm
    have hTa := Wk.apart _ _ _ mid
    refine Wk.go elts kk tpos i T _ _ E mid fun h2 st2 hk2 => ?_
    have new : ObjOk X.prog X.w (upd H T (.tup [.int (i : Nat), x])) h2 T (.tup [.int (i : Nat), x]) := by
      refine ⟨by show 2 ≤ sizeLine; decide, [.int ((0 : Int) + (i : Int)) t, u], .cons ⟨t, by rw [Int.zero_add]⟩ (.cons ru .nil), ?_⟩
      obtain ⟨o, ho, q⟩ := isT
      rw [ev, hxu] at q
      exact ⟨o, hk2 T o hTa ho, q⟩
    have hT' : s.heap.objs.size ≤ T := hT
    refine ⟨.ref T, _, I.turnedNew (ch := [e, it]) (fun b o hb q => hk2 b o hb (hk b o hb q)) hf hT' new, rfl, ⟨T, x, rfl, I.hok.fresh hT', rfl, fun ys hy => ?_⟩, ⟨st2.1, st2.2.1⟩, fun b hb => ?_⟩
    · rw [I.tuple_inj hy hq]
      exact hx
    · have hb' : b < s.heap.objs.size := by
        rcases List.mem_cons.mp hb with z | z
        · exact z ▸ hel
        · exact (List.mem_singleton.mp z) ▸ hitl
      rw [upd_ne (Nat.ne_of_lt (Nat.lt_of_lt_of_le hb' hT'))]
      exact (hf b hb).1
  done := by
    intro X hP hw hK hc i pins s σ H E I hf st hg
    subst hP hw hK
    obtain ⟨xs, hq, hx⟩ := hg
    obtain ⟨its, rv, p, hz⟩ := I.tuple hq
    obtain ⟨⟨old, he⟩, hi⟩ := st
    have out : its.toArray[i]? = none := by
      have := rv.length
      simp
      omega
    have D : Draws X.prog X.w X.A.in1 it [it, a] i (fun _ _ => True) (fun j h => j = i ∧ h.IsTupleIter it a i ∧ h.IsTuple a its.toArray) :=
      { live := fun _ _ st => ⟨_, st.2.1.choose_spec.1⟩
        frame := fun _ _ _ st hk => ⟨st.1, st.2.1.at fun o e => hk it (by simp) o e, st.2.2.at fun o e => hk a (by simp) o e⟩
        item := fun j s Q E hj st _ => absurd st.1 (Nat.ne_of_lt hj)
        done := fun s Q E st hE => wpAny_nextOf_tuple_end (show X.A.in1.handled = none from I.ok.hd hc) st.2.1 st.2.2 out hE }
    obtain ⟨f0, f1, f2, f3, f4, f5⟩ := hf it (List.mem_cons_of_mem _ List.mem_cons_self)
    refine wpAny_pyNext_enum_endD D he ⟨rfl, hi, p⟩ fun h' ext => ⟨rfl, ?_⟩
    exact I.turned (t' := s.toks) (fun b o hb q => ext b o hb q) f0 f1 f3 f4 f5
  self := fun A i s Q E ⟨⟨_, he⟩, _⟩ h => wpAny_pyIter_enum he h
def iEnumT (K : PySem.W.Frag) (ta : TA) : TI := fun σ H R => ta σ H fun vs H1 => ∃ a xs, vs = [.ref a] ∧ SqT K H1 a xs ∧ R (IteT K a) H1
theorem pi_enumT {X : Cx} {e : Expr} {ta : TA} {p pos tpos : Pos} {elts : List Expr} {kk : Nat} (hm : X.mg "enumerate" = none) (ha : PA X [e] ta) (hg : Gl X "enumerate" := by rfl) (hs : starEach [e] X.env = [(false, eval e X.env)] := by rfl) :
    PI X (.Tuple elts kk tpos) (.Call (.Name "enumerate" p) [e] [] pos) (iEnumT X.K ta) := .mk fun pins s σ H R I h => by
  refine Call_ (ld_blt I hg hm boot_enumerate (PyProof.Rows.callWith_type1 (thn (ha.run pos pins s σ H _ I h) fun us s1 z => ?_) hs rfl))
  obtain ⟨vs, H1, I1, r1, a, xs, rfl, hq, q⟩ := z
  obtain ⟨u, rfl, ru⟩ : ∃ u, us = [u] ∧ RelV (.ref a) u := by
    cases r1 with
    | cons r rr => cases rr; exact ⟨_, rfl, r⟩
  cases ru
  obtain ⟨its, rv, p', hz⟩ := I1.tuple hq
  have hal : a < s1.heap.objs.size := by
    obtain ⟨o, ho, _⟩ := p'
    exact Heap.lt_size ho
  refine call_enum_tup p' fun h' he hit hk => wpAny_pyIter_enum he ?_
  have T := turn_enumT (P := X.prog) (w := X.w) (K := X.K) (elts := elts) (kk := kk) (tpos := tpos) a (s1.heap.objs.size + 1) s1.heap.objs.size (Nat.succ_ne_self _) (Nat.ne_of_lt hal) (Nat.ne_of_gt (Nat.lt_succ_of_lt hal))
  refine ⟨s1.heap.objs.size + 1, _, _, _, H1, rfl, I1.kept (t' := s1.toks) hk, T, ⟨⟨.none, he⟩, hit⟩, fun b hb => ?_, q⟩
  have hle : s1.heap.objs.size ≤ b := by
    rcases List.mem_cons.mp hb with z | z
    · rw [z]; exact Nat.le_succ _
    · rw [List.mem_singleton.mp z]; exact Nat.le_refl _
  exact I1.fpOk hle (I1.hok.fresh hle)
theorem wk_enumT {w : World} {K : PySem.W.Frag} {a : Addr} {vs : List V} {xs : List PyData} {F : Hp} (hs : SqT K F a vs) (ha : DqAll K F vs xs) : Wk w K (IteT K a) (enumD xs) F where
  stop := fun B i δ σ F' H _ _ e r h => ⟨vs, seqT (e.trans r.ex) hs, by rw [dpAll_len ha, ← enum_len]; exact h⟩
  go := fun B i δ σ F' H _ _ e r h => by
    rw [enum_len] at h
    obtain ⟨v, hv, _⟩ := dpAll_get ha (List.getElem?_eq_getElem h)
    exact ⟨vs, v, seqT (e.trans r.ex) hs, hv⟩
  yld := fun B i δ σ F' H v H' y hw hK e r h hy => by
    obtain ⟨T, x, rfl, hT, rfl, hx⟩ := hy
    obtain ⟨d, hd, rfl⟩ := enum_get h
    obtain ⟨v, hv, dv⟩ := dpAll_get ha hd
    have e1 := hx vs (seqT (e.trans r.ex) hs)
    rw [hv] at e1
    injection e1 with e1
    subst e1 hK
    exact r.newT hT (.cons (.int _) (.cons (dp_mono e _ _ dv) .nil))
theorem wi_enumT {B : Bs} {ta : TA} {δ : St'} {Ψ : List PyData → St' → Prop} (h : WA B ta δ fun ds δ' => ∃ xs, ds = [.tuple xs] ∧ Ψ (enumD xs) δ') : WI B (iEnumT B.K ta) δ Ψ := fun σ F H r R q => h σ F H r _ fun vs x δ' F' H' e r' d ⟨xs, hx, p⟩ => by
  subst hx
  cases d with
  | cons d1 d2 =>
    cases d2
    cases d1 with
    | tup hs ha => exact ⟨_, _, rfl, seqT r'.ex hs, q _ _ δ' F' H' e r' (Wk.at (wk_enumT hs ha)) p⟩
end DL
set_option maxHeartbeats 200000
set_option Elab.async false
set_option linter.all false
set_option maxRecDepth 100000
set_option maxHeartbeats 2000000
namespace DL
open PySem PySem.Spec PyProof.Rows L2
def Keeps (a b : List (Option V)) : Prop := a.length = b.length ∧ ∀ (j : Nat) v, a[j]? = some (some v) → b[j]? = some (some v)
theorem Keeps.refl (a : List (Option V)) : Keeps a a := ⟨rfl, fun _ _ h => h⟩
theorem Keeps.trans {a b c : List (Option V)} (h : Keeps a b) (k : Keeps b c) : Keeps a c := ⟨h.1.trans k.1, fun j v e => k.2 j v (h.2 j v e)⟩
end DL
set_option maxHeartbeats 200000
set_option Elab.async false
set_option linter.all false
set_option maxRecDepth 100000
set_option maxHeartbeats 4000000
namespace DL
open PySem PySem.Spec PyProof.Rows L2
end DL
set_option maxHeartbeats 200000
set_option Elab.async false
set_option linter.all false
set_option maxRecDepth 100000
set_option maxHeartbeats 4000000
namespace DL
open PySem PySem.Spec PyProof.Rows L2
end DL
set_option maxHeartbeats 200000
set_option Elab.async false
set_option linter.all false
set_option maxRecDepth 100000
set_option maxHeartbeats 4000000
namespace DL
open PySem PySem.Spec PyProof.Rows L2
end DL
set_option maxHeartbeats 200000
set_option Elab.async false
set_option linter.all false
set_option maxRecDepth 100000
set_option maxHeartbeats 1000000
namespace DL
open PySem PySem.Spec PyProof.Rows L2
theorem cr_lenI {X : Cx} : CallR X (.builtin "len") (fun xs H Q => ∃ (a : Addr) (S : Int → Bool) (n : Nat), xs = [.ref a] ∧ H a = some (SetO X.w a S n) ∧ Q (.int (n : Nat)) H) := fun pins s σ H xs us Q I r h => by
  obtain ⟨a, S, n, rfl, ha, q⟩ := h
  cases r with
  | cons r1 r2 =>
    cases r2
    cases r1
    obtain ⟨o, es, ep, t, ho, hex, hd, g, nd, hm, hb, hf, hn, hr, hl⟩ := setO_get I ha
    have hn' : es.size = n := hn
    have hb' : es.size < 4096 := hb
    refine call_len_set ho hex hd hf (by omega) ⟨.int (n : Nat), H, I.tok _, ⟨_, by rw [hn']⟩, q⟩
end DL
set_option maxHeartbeats 200000
set_option Elab.async false
set_option linter.all false
set_option maxRecDepth 100000
set_option maxHeartbeats 1000000
namespace DL
open PySem PySem.Spec PyProof.Rows L2
section
variable {B : B0} {X : Cx} {δ : St'} {Φ : PE1} {e : Expr} {p p2 pos pp : Pos} {x pn : Str}
theorem de_lenO (i : Nat) {xs : List PyData} (hm : X.mg "len" = none) (h : Φ (.int (xs.length : Nat)) δ) (hi : δ.s[i]? = some (some (.own xs)) := by rfl) (hN : X.N[i]? = some x := by rfl)
    (hv : Vis X.env.scope x := by first | exact Or.inl rfl | exact Or.inr (Or.inl rfl) | exact Or.inr (Or.inr rfl)) (hd : (x == ("__debug__" : Str)) = false := by decide) (hcd : (x == ("__classdict__" : Str)) = false := by decide)
    (hg : Gl X "len" := by rfl) (he : starEach [.Name x p2] X.env = (false, eval (.Name x p2) X.env) :: starEach [] X.env := by rfl) (hpl : (backTo pos (starEach [] X.env)).any (·.1) = false := by rfl) :
    DE B X (.Call (.Name "len" p) [.Name x p2] [] pos) δ Φ := .of (pe_callB call_len_seq hg hm boot_len (pa_cons (pe_var hN hv hd hcd) pa_nil he) (by decide) (by decide) he hpl) fun σ F H r Q q => by
  obtain ⟨u, hu, a, us, rfl, hB, hF, hH, hD⟩ := r.cell i _ hi
  refine ⟨.ref a, hu, a, us, rfl, .inl (.inl (.inl hH)), ?_⟩
  rw [dpAll_len hD]
  exact q _ _ δ F H (Same.refl F) r (.int _) h
theorem de_ixO (i : Nat) (h : DE B X e δ fun y δ' => ∃ (xs : List PyData) (j : Int) (z : PyData), y = .int j ∧ δ'.s[i]? = some (some (.own xs)) ∧ atI xs j = some z ∧ Φ z δ') {xs0 : List PyData} (hi : δ.s[i]? = some (some (.own xs0)) := by rfl) (hN : X.N[i]? = some x := by rfl)
    (hv : Vis X.env.scope x := by first | exact Or.inl rfl | exact Or.inr (Or.inl rfl) | exact Or.inr (Or.inr rfl)) (hd : (x == ("__debug__" : Str)) = false := by decide) (hcd : (x == ("__classdict__" : Str)) = false := by decide) (hs : PlainIx e := by exact fun _ _ => rfl) :
    DE B X (.Subscript (.Name x pp) e pos) δ Φ := .of (pe_ix ix_list (pe_var hN hv hd hcd) pe_w hs) fun σ F H r Q q => by
  obtain ⟨u, hu, _⟩ := r.cell i _ hi
  refine ⟨u, hu, h σ F H r _ fun w y δ' F' H' e1 r' dw ⟨xs, j, z, hy, hi2, hat, p⟩ => ?_⟩
  subst hy
  cases dw
  obtain ⟨u2, hu2, a, us, rfl, hB, hF, hH, hD⟩ := r'.cell i _ hi2
  rw [hu] at hu2
  have : u = .ref a := by injection hu2 with h1; injection h1
  subst this
  obtain ⟨v, hv', dv⟩ := atI_map hD hat
  exact ⟨a, us, j, v, rfl, rfl, .inl (.inl hH), hv', q v z δ' F' H' e1 r' dv p⟩
end
abbrev KvD := List (L2.Key × PyData)
def WDc (B : Bs) (te : TE) (δ : St') (Φ : KvD → St' → Prop) : Prop := ∀ σ F H, Rep B δ σ F H → ∀ Q : VK, (∀ a us kvs δ' F' H', Same F F' → Rep B δ' σ F' H' → B.H a = none → F' a = none → H' a = some (.dK ((kvs.map (·.1)).zip us)) →
  (∀ (i : Nat) (c : C), δ'.s[i]? = some (some c) → own? c = true → σ[i]? ≠ some (some (.ref a))) → DqAll B.K F' us (kvs.map (·.2)) → Φ kvs δ' → Q (.ref a) H') → te σ H Q
def DDc (B : B0) (X : Cx) (e : Expr) (δ : St') (Φ : KvD → St' → Prop) : Prop := WDc (bs X B) (wE X e) δ Φ
theorem DDc.of {B : B0} {X : Cx} {e : Expr} {te : TE} {δ : St'} {Φ : KvD → St' → Prop} (p : PE X e te) (h : WDc (bs X B) te δ Φ) : DDc B X e δ Φ := fun σ F H r Q q pins s I => p.run pins s σ H Q I (h σ F H r Q q)
def WOc (B : Bs) (ts : TS) (δ : St') (R : KvD → St' → Prop) : Prop := ∀ σ F H, Rep B δ σ F H → ∀ D : Ends, (∀ a us kvs δ' σ' F' H', Same F F' → Rep B δ' σ' F' H' → B.H a = none → F' a = none → H' a = some (.dK ((kvs.map (·.1)).zip us)) → DqAll B.K F' us (kvs.map (·.2)) → R kvs δ' → D.rt (.ref a) H') → ts D σ H
def DOc (B : B0) (X : Cx) (sts : List Stmt) (δ : St') (R : KvD → St' → Prop) : Prop := WOc (bs X B) (wSs X sts) δ R
section
variable {B : B0} {X : Cx} {a b c e : Expr} {es : List Expr} {st : Stmt} {rest : List Stmt} {δ : St'} {Φ : PE1} {R Ψ : KvD → St' → Prop} {p pos pp p2 p3 : Pos} {x pn : Str} {k k' : Nat} {ps : List Str}
theorem DOc.of {sts : List Stmt} {ts : TS} (q : PSs X sts ts) (h : WOc (bs X B) ts δ R) : DOc B X sts δ R := fun σ F H r D z pins s I => q.run pins s σ H D I (h σ F H r D z)
variable {N : St' → Prop} {R1 : PE1} {pos' : Pos}
end
end DL
set_option maxHeartbeats 200000
set_option Elab.async false
set_option linter.all false
set_option maxRecDepth 100000
set_option maxHeartbeats 2000000
namespace DL
open PySem PySem.Spec PyProof.Rows L2
end DL
set_option maxHeartbeats 200000
set_option Elab.async false
set_option linter.all false
set_option maxRecDepth 100000
set_option maxHeartbeats 2000000
namespace DL
open PySem PySem.Spec PyProof.Rows L2
end DL
set_option maxHeartbeats 200000
set_option Elab.async false
set_option linter.all false
set_option maxRecDepth 100000
set_option maxHeartbeats 2000000
namespace DL
open PySem PySem.Spec PyProof.Rows L2
def kvN {α : Type} (f : α → PyData) (rs : List (Nat × α)) : KvD := rs.map fun r => (.inl (r.1 : Int), f r.2)
theorem kvN_len {α : Type} {f : α → PyData} {rs : List (Nat × α)} : (kvN f rs).length = rs.length := List.length_map _
theorem kvN_no {α : Type} {f : α → PyData} {k : Nat} : ∀ {rs : List (Nat × α)}, k ∉ rs.map (·.1) → getD' (kvN f rs) (.inl (k : Int)) = none
  | [], _ => rfl
  | r :: rs, h => by
    have h1 : ¬ r.1 = k := fun e => h (by rw [List.map_cons, e]; exact List.mem_cons_self)
    have h2 : ¬ ((Sum.inl (r.1 : Int) : L2.Key) = .inl (k : Int)) := fun e => h1 (by injection e with e; omega)
    have ih := kvN_no (f := f) (k := k) (rs := rs) fun z => h (List.mem_cons_of_mem _ z)
    unfold getD' kvN at *
    rw [List.map_cons, List.find?_cons, decide_eq_false h2]
    exact ih
theorem kvN_in {α : Type} {f : α → PyData} {k : Nat} {a : α} : ∀ {rs : List (Nat × α)}, (rs.map (·.1)).Nodup → (k, a) ∈ rs → getD' (kvN f rs) (.inl (k : Int)) = some (f a)
  | [], _, h => by cases h
  | r :: rs, nd, h => by
    rw [List.map_cons, List.nodup_cons] at nd
    by_cases e : r.1 = k
    · have : r = (k, a) := by
        rcases List.mem_cons.mp h with h | h
        · exact h.symm
        · exact absurd (List.mem_map.mpr ⟨_, h, rfl⟩) (e ▸ nd.1)
      subst this
      unfold getD' kvN
      rw [List.map_cons, List.find?_cons, decide_eq_true rfl]
      rfl
    · have h2 : ¬ ((Sum.inl (r.1 : Int) : L2.Key) = .inl (k : Int)) := fun z => e (by injection z with z; omega)
      have hm : (k, a) ∈ rs := by
        rcases List.mem_cons.mp h with h | h
        · exact absurd (by rw [← h]) e
        · exact h
      have ih := kvN_in (f := f) nd.2 hm
      unfold getD' kvN at *
      rw [List.map_cons, List.find?_cons, decide_eq_false h2]
      exact ih
theorem kvN_put {α : Type} {f : α → PyData} {rs : List (Nat × α)} {k : Nat} {a : α} (h : k ∉ rs.map (·.1)) : putD (kvN f rs) (.inl (k : Int)) (f a) = kvN f (rs ++ [(k, a)]) := by
  unfold putD
  rw [if_neg]
  · unfold kvN; rw [List.map_append]; rfl
  · intro z
    obtain ⟨kv, h1, h2⟩ := List.any_eq_true.mp z
    obtain ⟨r, h3, rfl⟩ := List.mem_map.mp h1
    have h4 := of_decide_eq_true h2
    injection h4 with h4
    exact h (List.mem_map.mpr ⟨r, h3, by omega⟩)
end DL
set_option maxHeartbeats 200000
set_option Elab.async false
set_option linter.all false
set_option maxRecDepth 100000
set_option maxHeartbeats 2000000
namespace DL
open PySem PySem.Spec PyProof.Rows L2
section
variable {B : B0} {X : Cx} {rest : List Stmt} {δ : St'} {N : St' → Prop} {R Φ : PE1} {kvs : KvD} {e : Expr} {pp pos : Pos} {pn : Str}
abbrev InF (B : B0) (K : PySem.W.Frag) (a : Addr) (kvs : KvD) : Prop := ∃ us, B.F a = some (.dK ((kvs.map (·.1)).zip us)) ∧ DqAll K B.F us (kvs.map (·.2))
end
end DL
set_option maxHeartbeats 200000
set_option Elab.async false
set_option linter.all false
set_option maxRecDepth 100000
set_option maxHeartbeats 2000000
namespace DL
open PySem PySem.Spec PyProof.Rows L2
end DL
set_option maxHeartbeats 200000
set_option Elab.async false
set_option linter.all false
set_option maxRecDepth 100000
set_option maxHeartbeats 2000000
namespace DL
open PySem PySem.Spec PyProof.Rows L2
end DL
set_option maxHeartbeats 200000
set_option Elab.async false
set_option linter.all false
set_option maxRecDepth 100000
set_option maxHeartbeats 2000000
namespace DL
open PySem PySem.Spec PyProof.Rows L2
section
variable {B : B0} {X : Cx} {e : Expr} {es : List Expr} {δ : St'} {Φ : PE1} {p pos : Pos} {k k' : Nat} {ps : List Str} {x : Str}
theorem InF.sub {B B' : B0} {K : PySem.W.Frag} {a : Addr} {kvs : KvD} (h : InF B K a kvs) (s : Same B.F B'.F) : InF B' K a kvs := by
  obtain ⟨us, h1, h2⟩ := h
  exact ⟨us, s _ _ h1, dpAll_mono s _ _ h2⟩
end
end DL
set_option maxHeartbeats 200000
set_option Elab.async false
set_option linter.all false
set_option maxRecDepth 100000
set_option maxHeartbeats 2000000
namespace DL
open PySem PySem.Spec PyProof.Rows L2
end DL
set_option maxHeartbeats 200000
set_option Elab.async false
set_option linter.all false
set_option maxRecDepth 100000
set_option maxHeartbeats 2000000
namespace DL
open PySem PySem.Spec PyProof.Rows L2
end DL
set_option maxHeartbeats 200000
set_option Elab.async false
set_option linter.all false
set_option maxRecDepth 100000
set_option maxHeartbeats 1000000
namespace DL
open PySem PySem.Spec PyProof.Rows L2
end DL
set_option maxHeartbeats 200000
set_option Elab.async false
set_option linter.all false
set_option maxRecDepth 100000
set_option maxHeartbeats 2000000
namespace DL
open PySem PySem.Spec PyProof.Rows L2
section
variable {B : B0} {X : Cx} {e elt tg iter : Expr} {δ : St'} {N : St' → Prop} {R : PE1} {Ψ : List PyData → St' → Prop} {pos p1 p2 p3 py spos : Pos} {scope : Scope} {wi : TI} {g : TG} {y0 : Str}
/-- x = [.. for ..], a list of our own from here on -/
theorem ds_setLcO (i : Nat) (own : List (Str × Nat)) (hN : X.N.Nodup) (hi : PI X tg iter wi) (ok : BlkOk X.N X.env.scope scope own)
    (hg : ∀ (s : Shared) (H : Hp) (C : Addr) (cl : List (Str × Addr)) (fp : List Addr), PG (X.blk s H scope (compEnvC scope cl C X.env) fp) tg g)
    (h : WL (bs X B) (tLc wi g tYes (bE X scope elt) (own.map (·.2))) δ fun xs δ' => N (δ'.put i (.own xs)))
    (hy : X.N[i]? = some y0 := by rfl) (hyl : X.env.scope.names.lookup y0 = some .local := by rfl) (hsw : swapsWith (.ListComp elt [⟨tg, iter, [], 0⟩] scope pos) (some (.Name y0 py)) spos.line X.env = pure true := by exact sw_true rfl rfl rfl rfl)
    (hc : X.calm = true := by rfl) (hs : ∀ x, foldedSetIterable iter X.env x = pure x := by intro _; rfl) : DS B X (.Assign [.Name y0 py] (.ListComp elt [⟨tg, iter, [], 0⟩] scope pos) spos) δ N R :=
  .of (ps_setLc (te := bE X scope elt) hc hN hy hyl hsw hi ok hg (fun _ _ _ _ _ => pts_nil) (fun s H C cl fp => ⟨fun pins s' σ H' Q I h => h s H C cl fp pins s' I⟩) hs)
    (ws_setO h)
end
end DL
set_option maxHeartbeats 200000
set_option Elab.async false
set_option linter.all false
set_option maxRecDepth 100000
set_option maxHeartbeats 2000000
namespace DL
open PySem PySem.Spec PyProof.Rows L2
section
variable {B : B0} {X : Cx} {e : Expr} {δ : St'} {Φ R : PE1} {N : St' → Prop} {pp pos pos' : Pos} {pn f : Str}
/-- a thing that stands still -/
abbrev ObF (B : B0) (K : PySem.W.Frag) (a c : Addr) (ns : List Str) (xs : List PyData) : Prop := ∃ dx us, B.F a = some (.ins c dx (ns.zip us)) ∧ DqAll K B.F us xs
theorem ObF.sub {B B' : B0} {K : PySem.W.Frag} {a c : Addr} {ns : List Str} {xs : List PyData} (h : ObF B K a c ns xs) (s : Same B.F B'.F) : ObF B' K a c ns xs := by
  obtain ⟨dx, us, h1, h2⟩ := h
  exact ⟨dx, us, s _ _ h1, dpAll_mono s _ _ h2⟩
end
end DL
set_option maxHeartbeats 200000
set_option Elab.async false
set_option linter.all false
set_option maxRecDepth 100000
set_option maxHeartbeats 2000000
namespace DL
open PySem PySem.Spec PyProof.Rows L2
def WOb (B : Bs) (c : Addr) (te : TE) (δ : St') (Φ : List Str → List PyData → St' → Prop) : Prop := ∀ σ F H, Rep B δ σ F H → ∀ Q : VK, (∀ a dx us ns xs δ' F' H', Same F F' → Rep B δ' σ F' H' → B.H a = none → F' a = none → H' a = some (.ins c dx (ns.zip us)) →
  (∀ (i : Nat) (c : C), δ'.s[i]? = some (some c) → own? c = true → σ[i]? ≠ some (some (.ref a))) → DqAll B.K F' us xs → Φ ns xs δ' → Q (.ref a) H') → te σ H Q
def DOb (B : B0) (X : Cx) (c : Addr) (e : Expr) (δ : St') (Φ : List Str → List PyData → St' → Prop) : Prop := WOb (bs X B) c (wE X e) δ Φ
end DL
set_option maxHeartbeats 200000
set_option Elab.async false
set_option linter.all false
set_option maxRecDepth 100000
set_option maxHeartbeats 2000000
namespace DL
open PySem PySem.Spec PyProof.Rows L2
end DL
set_option maxHeartbeats 200000
set_option Elab.async false
set_option linter.all false
set_option maxRecDepth 100000
set_option maxHeartbeats 2000000
namespace DL
open PySem PySem.Spec PyProof.Rows L2
end DL
set_option maxHeartbeats 200000
set_option Elab.async false
set_option linter.all false
set_option maxRecDepth 100000
set_option maxHeartbeats 2000000
namespace DL
open PySem PySem.Spec PyProof.Rows L2
end DL
set_option maxHeartbeats 200000
set_option Elab.async false
set_option linter.all false
set_option maxRecDepth 100000
set_option maxHeartbeats 2000000
namespace DL
open PySem PySem.Spec PyProof.Rows L2
end DL
set_option maxHeartbeats 200000
set_option Elab.async false
set_option linter.all false
set_option maxRecDepth 100000
set_option maxHeartbeats 2000000
namespace DL
open PySem PySem.Spec PyProof.Rows L2
end DL
set_option maxHeartbeats 200000
set_option Elab.async false
set_option linter.all false
set_option maxRecDepth 100000
set_option maxHeartbeats 2000000
namespace DL
open PySem PySem.Spec PyProof.Rows L2
end DL
set_option maxHeartbeats 200000
set_option Elab.async false
set_option linter.all false
set_option maxRecDepth 100000
set_option maxHeartbeats 2000000
namespace DL
open PySem PySem.Spec PyProof.Rows L2
end DL
set_option maxHeartbeats 200000
set_option Elab.async false
set_option linter.all false
set_option maxRecDepth 100000
set_option maxHeartbeats 2000000
namespace DL
open PySem PySem.Spec PyProof.Rows L2
def WOg (B : Bs) (c : Addr) (ts : TS) (δ : St') (R : List Str → List PyData → St' → Prop) : Prop := ∀ σ F H, Rep B δ σ F H → ∀ D : Ends, (∀ a dx us ns xs δ' σ' F' H', Same F F' → Rep B δ' σ' F' H' → B.H a = none → F' a = none → H' a = some (.ins c dx (ns.zip us)) → DqAll B.K F' us xs → R ns xs δ' → D.rt (.ref a) H') → ts D σ H
def DOg (B : B0) (X : Cx) (c : Addr) (sts : List Stmt) (δ : St') (R : List Str → List PyData → St' → Prop) : Prop := WOg (bs X B) c (wSs X sts) δ R
section
variable {B : B0} {X : Cx} {e : Expr} {es : List Expr} {st : Stmt} {rest : List Stmt} {δ : St'} {R Ψ : List Str → List PyData → St' → Prop} {p pos : Pos} {x : Str} {k k' : Nat} {ps : List Str} {c : Addr}
theorem DOb.of {te : TE} (p : PE X e te) (h : WOb (bs X B) c te δ R) : DOb B X c e δ R := fun σ F H r Q q pins s I => p.run pins s σ H Q I (h σ F H r Q q)
theorem DOg.of {sts : List Stmt} {ts : TS} (q : PSs X sts ts) (h : WOg (bs X B) c ts δ R) : DOg B X c sts δ R := fun σ F H r D z pins s I => q.run pins s σ H D I (h σ F H r D z)
end
end DL
set_option maxHeartbeats 200000
set_option Elab.async false
set_option linter.all false
set_option maxRecDepth 100000
set_option maxHeartbeats 1000000
set_option maxHeartbeats 200000
set_option Elab.async false
set_option linter.all false
set_option maxRecDepth 100000
set_option maxHeartbeats 1000000
namespace DL
open PySem PySem.Spec PyProof.Rows L2
open PySem.W (alike alikeAll dataLt dataLe AllAlike Sortable EachIs)
end DL
set_option maxHeartbeats 200000
set_option Elab.async false
set_option linter.all false
set_option maxRecDepth 100000
set_option maxHeartbeats 1000000
namespace DL
open PySem PySem.Spec PyProof.Rows L2
open PySem.W (alike alikeAll dataLt dataLe AllAlike Sortable EachIs)
abbrev TK := List L2.Key
abbrev EnT := TK × Addr × V
abbrev tkind (P : Program) (w : World) := tupleKind (mixKind P w)
def TdR : List EnT → List (TK × Addr × Value) → Prop := Paired fun p q => p.1 = q.1 ∧ p.2.1 = q.2.1 ∧ RelV p.2.2 q.2.2
def TdH (P : Program) (w : World) (a : Addr) (es : List EnT) (h : Heap) : Prop := (a == sysModules) = false ∧ ∃ xs, TdR es xs ∧ ∃ o ds ep, h.get? a = some o ∧ o.ExactDict ∧ o.data = .dict ds ep ∧ ds.toList = xs.map (entryOfKey (tkind P w)) ∧ (xs.map (·.1)).Nodup
def TdO (P : Program) (w : World) (a : Addr) (es : List EnT) : HO := .ext (TdH P w a es)
def KeysIn (H : Hp) (es : List EnT) : Prop := ∀ x ∈ es, H x.2.1 = some (.tup (x.1.map kV))
def valT (es : List EnT) (k : TK) : Option V := (es.find? fun x => decide (x.1 = k)).map (·.2.2)
def putT (es : List EnT) (k : TK) (b : Addr) (v : V) : List EnT := if (valT es k).isSome = true then es.map (fun x => if x.1 = k then (x.1, x.2.1, v) else x) else es ++ [(k, b, v)]
theorem td_ok {P : Program} {w : World} {H : Hp} {h : Heap} {a : Addr} {es : List EnT} (t : TdH P w a es h) : ObjOk P w H h a (TdO P w a es) := by
  refine ⟨t, ?_, fun h1 h2 p k => ?_⟩
  · obtain ⟨_, _, _, o, _, _, e, _⟩ := t
    exact ⟨o, e⟩
  · obtain ⟨z, xs, r, o, ds, ep, e, c⟩ := p
    exact ⟨z, xs, r, o, ds, ep, k _ e, c⟩
theorem TdR.keys : ∀ {es : List EnT} {xs : List (TK × Addr × Value)}, TdR es xs → xs.map (·.1) = es.map (·.1)
  | _, _, .nil => rfl
  | _, _, .cons h t => by rw [List.map_cons, List.map_cons, TdR.keys t, h.1]
theorem TdR.len {es : List EnT} {xs : List (TK × Addr × Value)} (r : TdR es xs) : es.length = xs.length := Paired.length r
theorem TdR.val {es : List EnT} {xs : List (TK × Addr × Value)} (r : TdR es xs) (k : TK) : RelO (valT es k) ((atKey xs k).map (·.2)) := by
  induction r with
  | nil => exact True.intro
  | @cons p q ps qs h t ih =>
    obtain ⟨h1, _, h2⟩ := h
    by_cases e : p.1 = k
    · have e' : q.1 = k := h1.symm.trans e
      have b : atKey (q :: qs) k = some q.2 := by simp [atKey, List.find?_cons, e']
      have c : valT (p :: ps) k = some p.2.2 := by simp [valT, List.find?_cons, e]
      rw [c, b]; exact h2
    · have e' : ¬ q.1 = k := fun z => e (h1.trans z)
      have b : atKey (q :: qs) k = atKey qs k := by simp [atKey, List.find?_cons, e']
      have c : valT (p :: ps) k = valT ps k := by simp [valT, List.find?_cons, e]
      rw [c, b]; exact ih
theorem TdR.put {es : List EnT} {xs : List (TK × Addr × Value)} (r : TdR es xs) (k : TK) {b : Addr} {y : V} {u : Value} (ry : RelV y u) : TdR (putT es k b y) (storedH xs k b u) := by
  unfold putT storedH
  rw [(r.val k).isSome_eq, Option.isSome_map]
  by_cases q : (atKey xs k).isSome = true
  · rw [if_pos q, if_pos q]
    clear q
    induction r with
    | nil => exact .nil
    | @cons p q ps qs h t ih =>
      rw [List.map_cons, List.map_cons]
      refine .cons ?_ ih
      obtain ⟨h1, h2, h3⟩ := h
      unfold putAt
      by_cases e : p.1 = k
      · rw [if_pos e, if_pos (h1.symm.trans e)]; exact ⟨h1, h2, ry⟩
      · rw [if_neg e, if_neg (fun z => e (h1.trans z))]; exact ⟨h1, h2, h3⟩
  · rw [if_neg q, if_neg q]; exact Paired.snoc r ⟨rfl, rfl, ry⟩
section
variable {X : Cx} {pins : List (Addr × Obj)} {σ : L2.St} {H : Hp} {s : Shared} {a b : Addr} {es : List EnT} {k : TK} {v : V} {u r : Value} {A : Around} {E : Value → Shared → Prop}
theorem td_at (I : Inv X pins σ H s) (e : H a = some (TdO X.prog X.w a es)) (hk : KeysIn H es) : (a == sysModules) = false ∧ ∃ xs, TdR es xs ∧ s.heap.DictOfH (tkind X.prog X.w) a xs := by
  obtain ⟨⟨z, xs, r, o, ds, ep, h1, h2, h3, h4, h5⟩, _⟩ := (show ObjOk X.prog X.w H s.heap a (TdO X.prog X.w a es) from I.hok a _ e)
  refine ⟨z, xs, r, o, ds, ep, h1, h2, h3, h4, fun x hx => ?_, h5⟩
  have all : ∀ {l : List EnT} {m : List (TK × Addr × Value)}, TdR l m → KeysIn H l → ∀ x ∈ m, (tkind X.prog X.w).is s.heap x.1 x.2.1 := by
    intro l m q
    induction q with
    | nil => intro _ x hx; exact nomatch hx
    | @cons p q ps qs hq t ih =>
      intro hkl x hx
      rcases List.mem_cons.mp hx with e | hx
      · subst e
        refine key_of I.hok ?_
        rw [← hq.1, ← hq.2.1]
        exact hkl p List.mem_cons_self
      · exact ih (fun y hy => hkl y (List.mem_cons_of_mem _ hy)) x hx
  exact all r hk x hx
theorem t_setItem {Q : Unit → Shared → Prop} (hu : A.units + 1 < cLine) (I : Inv X pins σ H s) (e : H a = some (TdO X.prog X.w a es)) (hk : KeysIn H es) (eb : H b = some (.tup (k.map kV))) (hl : es.length ≤ 1000) (rv : RelV v r) (h : ∀ s', Inv X pins σ (upd H a (TdO X.prog X.w a (putT es k b v))) s' → Q () s') :
    wpAny (model X.prog X.w) A (setItem (.ref a) (.ref b) r) Q E s := by
  obtain ⟨hd, xs, rel, dd⟩ := td_at I e hk
  have hz : xs.length ≤ sizeLine := by rw [← rel.len, sizeLine_eq]; omega
  refine wpAny_setItem_heap (hsz := hz) (tupleKind_room_in1 hu) (key_of I.hok eb) dd fun h' dd' hs => h _ ?_
  obtain ⟨q, ds, ep, hq, h2, h3, h4, _, h5⟩ := dd'
  exact d_write I (by rw [e]; exact True.intro) hs ⟨q, hq⟩ (td_ok ⟨hd, _, rel.put k rv, q, ds, ep, hq, h2, h3, h4, h5⟩)
end
def tTNew (P : Program) (w : World) : TE := fun _ H Q => ∀ p, H p = none → Q (.ref p) (upd H p (TdO P w p []))
def sTPut (P : Program) (w : World) (td ty tv : TE) : TS := fun D σ H => tv σ H fun v H1 => td σ H1 fun x H2 => ty σ H2 fun y H3 => ∃ a es b k, x = .ref a ∧ H3 a = some (TdO P w a es) ∧ KeysIn H3 es ∧ y = .ref b ∧ H3 b = some (.tup (k.map kV)) ∧ es.length ≤ 1000 ∧ D.nx σ (upd H3 a (TdO P w a (putT es k b v)))
section
variable {X : Cx} {o i e f value : Expr} {pos pos' tpos apos cpos : Pos} {td ty tv tx : TE}
theorem pe_tnew : PE X (.Dict [] [] pos) (tTNew X.prog X.w) := ⟨fun pins s σ H Q I h =>
  wpAny_Dict_empty ⟨.ref s.heap.objs.size, _, I.laid (a := s.heap.objs.size) (o := TdO X.prog X.w s.heap.objs.size []) (t' := s.toks) (fun _ _ q => Heap.get?_push_of_some _ q) (Nat.le_refl _)
    (td_ok ⟨beq_eq_false_iff_ne.mpr (Ne.symm (Nat.ne_of_lt I.big)), [], .nil, _, #[], 0, Heap.get?_push_size _ rfl, ⟨rfl, rfl, rfl⟩, rfl, rfl, List.nodup_nil⟩), rfl, h _ (I.hok.fresh (Nat.le_refl _))⟩⟩
theorem ps_tput (hu : X.A.units + 1 < cLine) (ho : PE X o td) (hi : PE X i ty) (hv : PE X value tv) (hs : swapsWith value (some (.Subscript o i pos')) pos.line X.env = pure false) :
    PS X (.Assign [.Subscript o i pos'] value pos) (sTPut X.prog X.w td ty tv) := by
  refine ⟨fun pins s σ H D I h => ?_⟩
  refine wpAny_Assign_Subscript (thn (hv.run pins s σ H _ I h) fun r s1 ⟨v, H1, I1, rv, q1⟩ => thn (ho.run pins s1 σ H1 _ I1 q1) fun u s2 ⟨x, H2, I2, rx, q2⟩ => thn (hi.run pins s2 σ H2 _ I2 q2) fun iv s3 ⟨y, H3, I3, ry, a, es, b, k, ex, g, gk, ey, eb, hl, q3⟩ => ?_) hs
  subst ex ey
  obtain rfl : u = Value.ref a := rx
  obtain rfl : iv = Value.ref b := ry
  exact t_setItem hu I3 g gk eb hl rv fun s4 I4 => ⟨σ, _, I4, q3⟩
end
end DL
set_option maxHeartbeats 200000
set_option Elab.async false
set_option linter.all false
set_option maxRecDepth 100000
set_option maxHeartbeats 1000000
namespace DL
open PySem PySem.Spec PyProof.Rows L2
abbrev KvT := List (TK × PyData)
def tkD (k : TK) : PyData := .tuple (k.map keyD)
def getT (kvs : KvT) (k : TK) : Option PyData := (kvs.find? fun kv => decide (kv.1 = k)).map (·.2)
def putTD (kvs : KvT) (k : TK) (x : PyData) : KvT := if (getT kvs k).isSome = true then kvs.map (fun kv => if kv.1 = k then (kv.1, x) else kv) else kvs ++ [(k, x)]
def adr : V → Addr
  | .ref b => b
  | _ => 0
def mkT (P : Program) (w : World) (a : Addr) (ks : List TK) (vs : List V) : HO := TdO P w a (ks.zip (((vs.take ks.length).map adr).zip (vs.drop ks.length)))
def tdC (P : Program) (w : World) (a : Addr) (kvs : KvT) : C := .gen (some a) (mkT P w a (kvs.map (·.1))) (kvs.map (fun kv => tkD kv.1) ++ kvs.map (·.2))
def EsOk (K : PySem.W.Frag) (F : Hp) : List EnT → KvT → Prop := Paired fun e kv => e.1 = kv.1 ∧ F e.2.1 = some (.tup (e.1.map kV)) ∧ Dq K F e.2.2 kv.2
theorem keyD_atom : ∀ k : L2.Key, atom (keyD k) = true
  | .inl _ => rfl
  | .inr _ => rfl
theorem toV_key : ∀ k : L2.Key, toV (keyD k) = kV k
  | .inl _ => rfl
  | .inr _ => rfl
theorem tk_v {K : PySem.W.Frag} {F : Hp} {v : V} {k : TK} (h : Dq K F v (tkD k)) : ∃ b, v = .ref b ∧ F b = some (.tup (k.map kV)) := by
  unfold tkD at h
  cases h with
  | tup hs ha hp =>
    have := atoms_v ha (by rw [List.all_map, List.all_eq_true]; exact fun x _ => keyD_atom x)
    rw [List.map_map] at this
    refine ⟨_, rfl, ?_⟩
    rw [hp, this]
    congr 2
    exact List.map_congr_left fun x _ => toV_key x
theorem keyDs_v {K : PySem.W.Frag} {F : Hp} : ∀ k : TK, DqAll K F (k.map kV) (k.map keyD)
  | [] => .nil
  | .inl i :: k => .cons (.int i) (keyDs_v k)
  | .inr x :: k => .cons (.str x) (keyDs_v k)
theorem v_tk {K : PySem.W.Frag} {F : Hp} {b : Addr} {k : TK} (h : F b = some (.tup (k.map kV))) : Dq K F (.ref b) (tkD k) := .tup (.inl (.inl h)) (keyDs_v k) h
theorem EsOk.mono {K : PySem.W.Frag} {F F' : Hp} (e : Same F F') : ∀ {es : List EnT} {kvs : KvT}, EsOk K F es kvs → EsOk K F' es kvs
  | _, _, .nil => .nil
  | _, _, .cons h t => .cons ⟨h.1, e _ _ h.2.1, dp_mono e _ _ h.2.2⟩ (EsOk.mono e t)
theorem EsOk.len {K : PySem.W.Frag} {F : Hp} {es : List EnT} {kvs : KvT} (h : EsOk K F es kvs) : es.length = kvs.length := Paired.length h
theorem EsOk.keys {K : PySem.W.Frag} {F : Hp} : ∀ {es : List EnT} {kvs : KvT}, EsOk K F es kvs → KeysIn F es
  | _, _, .nil => fun x hx => nomatch hx
  | _, _, .cons h t => fun x hx => by
    rcases List.mem_cons.mp hx with rfl | hx
    · exact h.2.1
    · exact EsOk.keys t x hx
theorem EsOk.val {K : PySem.W.Frag} {F : Hp} {k : TK} : ∀ {es : List EnT} {kvs : KvT}, EsOk K F es kvs → (∀ x, getT kvs k = some x → ∃ v, valT es k = some v ∧ Dq K F v x) ∧ (getT kvs k = none → valT es k = none)
  | _, _, .nil => ⟨fun x e => (by cases e), fun _ => rfl⟩
  | e :: es, kv :: kvs, .cons h t => by
    have ih := EsOk.val (k := k) t
    unfold getT valT at *
    rw [List.find?_cons, List.find?_cons, h.1]
    by_cases g : kv.1 = k
    · rw [decide_eq_true g]
      exact ⟨fun x hx => ⟨e.2.2, rfl, (by cases hx; exact h.2.2)⟩, fun z => (by cases z)⟩
    · rw [decide_eq_false g]
      exact ih
theorem EsOk.some? {K : PySem.W.Frag} {F : Hp} {k : TK} {es : List EnT} {kvs : KvT} (h : EsOk K F es kvs) : (valT es k).isSome = (getT kvs k).isSome := by
  obtain ⟨h1, h2⟩ := h.val (k := k)
  cases e : getT kvs k with
  | none => rw [h2 e]; rfl
  | some x =>
    obtain ⟨v, hv, _⟩ := h1 x e
    rw [hv]
    rfl
theorem EsOk.put {K : PySem.W.Frag} {F : Hp} {k : TK} {b : Addr} {v : V} {x : PyData} {es : List EnT} {kvs : KvT} (h : EsOk K F es kvs) (hb : F b = some (.tup (k.map kV))) (hv : Dq K F v x) : EsOk K F (putT es k b v) (putTD kvs k x) := by
  unfold putT putTD
  rw [h.some?]
  by_cases q : (getT kvs k).isSome = true
  · rw [if_pos q, if_pos q]
    clear q
    induction h with
    | nil => exact .nil
    | @cons e kv es kvs h t ih =>
      rw [List.map_cons, List.map_cons]
      refine .cons ?_ ih
      obtain ⟨h1, h2, h3⟩ := h
      by_cases g : e.1 = k
      · rw [if_pos g, if_pos (h1.symm.trans g)]; exact ⟨h1, h2, hv⟩
      · rw [if_neg g, if_neg (fun z => g (h1.trans z))]; exact ⟨h1, h2, h3⟩
  · rw [if_neg q, if_neg q]; exact Paired.snoc h ⟨rfl, hb, hv⟩
theorem es_zip {K : PySem.W.Frag} {F : Hp} : ∀ {kvs : KvT} {bs us : List V}, DqAll K F bs (kvs.map fun kv => tkD kv.1) → DqAll K F us (kvs.map (·.2)) → EsOk K F ((kvs.map (·.1)).zip ((bs.map adr).zip us)) kvs
  | [], _, _, h, h' => .nil
  | kv :: kvs, _, _, h, h' => by
    cases h with
    | cons h1 h2 =>
      cases h' with
      | cons h3 h4 =>
        obtain ⟨b, rfl, hb⟩ := tk_v h1
        exact .cons ⟨rfl, hb, h3⟩ (es_zip h2 h4)
theorem es_of {K : PySem.W.Frag} {F : Hp} {P : Program} {w : World} {a : Addr} {kvs : KvT} {vs : List V} (h : DqAll K F vs (kvs.map (fun kv => tkD kv.1) ++ kvs.map (·.2))) : ∃ es, EsOk K F es kvs ∧ mkT P w a (kvs.map (·.1)) vs = TdO P w a es := by
  have h1 := dpAll_take kvs.length h
  have h2 := dpAll_drop kvs.length h
  rw [List.take_left' (by rw [List.length_map])] at h1
  rw [List.drop_left' (by rw [List.length_map])] at h2
  refine ⟨_, es_zip h1 h2, ?_⟩
  unfold mkT
  rw [List.length_map]
theorem of_es {K : PySem.W.Frag} {F : Hp} {P : Program} {w : World} {a : Addr} {kvs : KvT} {es : List EnT} (h : EsOk K F es kvs) : ∃ vs, DqAll K F vs (kvs.map (fun kv => tkD kv.1) ++ kvs.map (·.2)) ∧ mkT P w a (kvs.map (·.1)) vs = TdO P w a es := by
  refine ⟨es.map (fun e => V.ref e.2.1) ++ es.map (·.2.2), ?_, ?_⟩
  · refine dpAll_app ?_ ?_
    · induction h with
      | nil => exact .nil
      | cons h t ih => exact .cons (by have := v_tk (K := K) h.2.1; rw [h.1] at this; exact this) ih
    · induction h with
      | nil => exact .nil
      | cons h t ih => exact .cons h.2.2 ih
  · unfold mkT
    have hl := h.len
    rw [List.length_map, List.take_left' (by rw [List.length_map]; exact hl), List.drop_left' (by rw [List.length_map]; exact hl)]
    congr 1
    clear hl
    induction h with
    | nil => rfl
    | @cons e kv es kvs h t ih =>
      simp only [List.map_cons, List.zip_cons_cons]
      rw [ih, ← h.1]
      rfl
section
variable {B : B0} {X : Cx} {e e2 f : Expr} {δ : St'} {N : St' → Prop} {Φ R : PE1} {pp pos pos' p2 apos : Pos} {pn x : Str} {kvs0 : KvT} {a0 : Addr}
theorem cell_td {B : Bs} {σ : List (Option V)} {F H : Hp} {i : Nat} {P : Program} {w : World} (r : Rep B δ σ F H) (hi : δ.s[i]? = some (some (tdC P w a0 kvs0))) : ∃ es, σ[i]? = some (some (.ref a0)) ∧ B.H a0 = none ∧ F a0 = none ∧ H a0 = some (TdO P w a0 es) ∧ EsOk B.K F es kvs0 ∧ KeysIn H es := by
  obtain ⟨u, hu, a, vs, rfl, hB, hF, hH, hpa, hd⟩ := r.cell i _ hi
  obtain rfl : a = a0 := hpa a0 rfl
  obtain ⟨es, h1, h2⟩ := es_of (P := P) (w := w) (a := a) hd
  exact ⟨es, hu, hB, hF, by rw [hH, h2], h1, fun x hx => r.ex _ _ (h1.keys x hx)⟩
theorem td_cell {B : Bs} {F H : Hp} {P : Program} {w : World} {a : Addr} {kvs : KvT} {es : List EnT} (hB : B.H a = none) (hF : F a = none) (hH : H a = some (TdO P w a es)) (h : EsOk B.K F es kvs) : CellOk B F H (tdC P w a kvs) (.ref a) := by
  obtain ⟨vs, h1, h2⟩ := of_es (P := P) (w := w) (a := a) h
  exact ⟨a, vs, rfl, hB, hF, by rw [hH, ← h2], fun p hp => by injection hp, h1⟩
/-- x = {} -/
theorem ds_tnew (i : Nat) (h : ∀ a, N (δ.put i (tdC X.prog X.w a []))) (hN : X.N.Nodup) (hi : X.N[i]? = some x := by rfl) (hx : Loc X.env.scope x := by first | exact .inl rfl | exact .inr rfl)
    (hs : swapsWith (.Dict [] [] p2) (some (.Name x pos')) pos.line X.env = pure false := by rfl) (hf : X.fn x = true ∨ X.env.scope.names.lookup x = some .local := by first | exact .inl rfl | exact .inr rfl) : DS B X (.Assign [.Name x pos'] (.Dict [] [] p2) pos) δ N R :=
  .of (ps_set hN hi hx pe_tnew hs hf) fun σ F H r D hn hr => fun p hp => by
    obtain ⟨j1, j2, j3, j4⟩ := r.fresh hp
    have r1 := r.side (o := TdO X.prog X.w p []) j2 j1 j4
    exact hn _ _ F _ (Same.refl F) (r1.putO i (c := tdC X.prog X.w p []) j4 (td_cell j1 j2 upd_same .nil)) (h p)
/-- d[e] = e2 -/
theorem ds_tput (i : Nat) (hu : X.A.units + 1 < cLine) (h : DE B X e2 δ fun x δ1 => DE B X e δ1 fun y δ2 => ∃ (a : Addr) (kvs : KvT) (k : TK), y = tkD k ∧ δ2.s[i]? = some (some (tdC X.prog X.w a kvs)) ∧ kvs.length ≤ 1000 ∧ N (δ2.put i (tdC X.prog X.w a (putTD kvs k x)))) (hi : δ.s[i]? = some (some (tdC X.prog X.w a0 kvs0)) := by rfl) (hN : X.N[i]? = some pn := by rfl)
    (hv : Vis X.env.scope pn := by first | exact Or.inl rfl | exact Or.inr (Or.inl rfl) | exact Or.inr (Or.inr rfl)) (hd : (pn == ("__debug__" : Str)) = false := by decide) (hcd : (pn == ("__classdict__" : Str)) = false := by decide) (hs : swapsWith e2 (some (.Subscript (.Name pn pp) e p2)) pos.line X.env = pure false := by rfl) :
    DS B X (.Assign [.Subscript (.Name pn pp) e p2] e2 pos) δ N R := .of (ps_tput hu (pe_var hN hv hd hcd) pe_w pe_w hs) fun σ F H r D hn hr => h σ F H r _ fun v x δ1 F1 H1 e1 r1 d p => by
  obtain ⟨es0, hu', hB, hF, hH, _, hK0⟩ := cell_td r hi
  refine ⟨.ref a0, hu', p σ F1 H1 r1 _ fun w y δ2 F2 H2 e2' r2 dw ⟨a, kvs, k, hy, hi2, hl, q⟩ => ?_⟩
  subst hy
  obtain ⟨es, hu2, hB2, hF2, hH2, hE, hK⟩ := cell_td r2 hi2
  rw [hu'] at hu2
  obtain rfl : a0 = a := by injection hu2 with h1; injection h1 with h1; injection h1
  obtain ⟨b, rfl, hb⟩ := tk_v dw
  refine ⟨a0, es, b, k, rfl, hH2, hK, rfl, r2.ex _ _ hb, by rw [hE.len]; exact hl, ?_⟩
  exact hn _ σ F2 _ (e1.trans e2') (r2.write (c2 := tdC X.prog X.w a0 (putTD kvs k x)) hi2 rfl hu' hB2 hF2 rfl (td_cell hB2 hF2 upd_same (hE.put hb (dp_mono e2' _ _ d)))) q
end
end DL
set_option maxHeartbeats 200000
set_option Elab.async false
set_option linter.all false
set_option maxRecDepth 100000
set_option maxHeartbeats 1000000
namespace DL
open PySem PySem.Spec PyProof.Rows L2
open PySem.W (alike alikeAll dataLt dataLe AllAlike Sortable EachIs)
abbrev InT (B : B0) (P : Program) (w : World) (K : PySem.W.Frag) (a : Addr) (kvs : KvT) : Prop := ∃ es, B.F a = some (TdO P w a es) ∧ EsOk K B.F es kvs
theorem InT.sub {B B' : B0} {P : Program} {w : World} {K : PySem.W.Frag} {a : Addr} {kvs : KvT} (h : InT B P w K a kvs) (s : Same B.F B'.F) : InT B' P w K a kvs := by
  obtain ⟨es, h1, h2⟩ := h
  exact ⟨es, s _ _ h1, h2.mono s⟩
end DL
set_option maxHeartbeats 200000
set_option Elab.async false
set_option linter.all false
set_option maxRecDepth 100000
set_option maxHeartbeats 1000000
namespace DL
open PySem PySem.Spec PyProof.Rows L2
end DL
set_option maxHeartbeats 200000
set_option Elab.async false
set_option linter.all false
set_option maxRecDepth 100000
set_option maxHeartbeats 1000000
namespace DL
open PySem PySem.Spec PyProof.Rows L2
end DL
set_option maxHeartbeats 200000
set_option Elab.async false
set_option linter.all false
set_option maxRecDepth 100000
set_option maxHeartbeats 4000000
namespace K3
open PySem PySem.Spec PyProof.Rows L2 DL
def topS (i : Nat) : Stmt := PySem.Challenge.pw_sayloom_k16_whole_least_ends.main.body.getD i (.Pass ⟨0, 0, 0, 0⟩)
abbrev s_is_name : Stmt := topS 6
abbrev n_is_name : List Str := ["thing"]
theorem sc_is_name : FnScope n_is_name ["thing"] (defScope s_is_name) := ⟨rfl, rfl, rfl, by decide +kernel, rfl, by decide +kernel, by decide +kernel⟩
abbrev s_is_tuple_of : Stmt := topS 7
abbrev n_is_tuple_of : List Str := ["thing", "least", "most"]
theorem sc_is_tuple_of : FnScope n_is_tuple_of ["thing", "least", "most"] (defScope s_is_tuple_of) := ⟨rfl, rfl, rfl, by decide +kernel, rfl, by decide +kernel, by decide +kernel⟩
abbrev s_is_end : Stmt := topS 11
abbrev n_is_end : List Str := ["thing"]
theorem sc_is_end : FnScope n_is_end ["thing"] (defScope s_is_end) := ⟨rfl, rfl, rfl, by decide +kernel, rfl, by decide +kernel, by decide +kernel⟩
abbrev s_is_end_among : Stmt := topS 12
abbrev n_is_end_among : List Str := ["thing", "hands", "hand", "states", "many", "known", "state", "last", "step", "kind", "other", "word", "then", "event"]
theorem sc_is_end_among : FnScope n_is_end_among ["thing", "hands"] (defScope s_is_end_among) := ⟨rfl, rfl, rfl, by decide +kernel, rfl, by decide +kernel, by decide +kernel⟩
abbrev s__is_new_event : Stmt := topS 13
abbrev n__is_new_event : List Str := ["event", "hand", "hands", "known"]
theorem sc__is_new_event : FnScope n__is_new_event ["event", "hand", "hands", "known"] (defScope s__is_new_event) := ⟨rfl, rfl, rfl, by decide +kernel, rfl, by decide +kernel, by decide +kernel⟩
abbrev s_is_event : Stmt := topS 14
abbrev n_is_event : List Str := ["thing", "kind", "other", "word"]
theorem sc_is_event : FnScope n_is_event ["thing"] (defScope s_is_event) := ⟨rfl, rfl, rfl, by decide +kernel, rfl, by decide +kernel, by decide +kernel⟩
abbrev s_check_end : Stmt := topS 15
abbrev n_check_end : List Str := ["end"]
theorem sc_check_end : FnScope n_check_end ["end"] (defScope s_check_end) := ⟨rfl, rfl, rfl, by decide +kernel, rfl, by decide +kernel, by decide +kernel⟩
abbrev s_least_end : Stmt := topS 16
abbrev n_least_end : List Str := ["end", "hand", "states", "kinds", "firsts", "at", "kind", "order", "told", "steps", "hears", "other", "word", "then"]
theorem sc_least_end : FnScope n_least_end ["end"] (defScope s_least_end) := ⟨rfl, rfl, rfl, by decide +kernel, rfl, by decide +kernel, by decide +kernel⟩
abbrev s_kinds_of : Stmt := topS 17
abbrev n_kinds_of : List Str := ["states", "kinds", "_", "many", "numbers", "parted", "at", "state", "told", "kind", "other", "word", "then"]
theorem sc_kinds_of : FnScope n_kinds_of ["states"] (defScope s_kinds_of) := ⟨rfl, rfl, rfl, by decide +kernel, rfl, by decide +kernel, by decide +kernel⟩
abbrev s__law_pot : Stmt := topS 19
abbrev n__law_pot : List Str := ["script", "k", "cell"]
theorem sc__law_pot : FnScope n__law_pot ["script", "k"] (defScope s__law_pot) := ⟨rfl, rfl, rfl, by decide +kernel, rfl, by decide +kernel, by decide +kernel⟩
abbrev s__law_take : Stmt := topS 20
abbrev n__law_take : List Str := ["pot", "many", "digit", "turn", "one", "two"]
theorem sc__law_take : FnScope n__law_take ["pot", "many"] (defScope s__law_take) := ⟨rfl, rfl, rfl, by decide +kernel, rfl, by decide +kernel, by decide +kernel⟩
abbrev s__law_names : Stmt := topS 21
abbrev n__law_names : List Str := ["pot", "many", "letters", "found", "k", "word", "turn", "at", "some", "sign", "one"]
theorem sc__law_names : FnScope n__law_names ["pot", "many"] (defScope s__law_names) := ⟨rfl, rfl, rfl, by decide +kernel, rfl, by decide +kernel, by decide +kernel⟩
abbrev s__law_row : Stmt := topS 22
abbrev n__law_row : List Str := ["pot", "others", "words", "many", "found", "turn", "kind", "word", "step", "one"]
theorem sc__law_row : FnScope n__law_row ["pot", "others", "words", "many"] (defScope s__law_row) := ⟨rfl, rfl, rfl, by decide +kernel, rfl, by decide +kernel, by decide +kernel⟩
abbrev s__law_end : Stmt := topS 23
abbrev n__law_end : List Str := ["pot", "hand", "others", "words", "many", "k"]
theorem sc__law_end : FnScope n__law_end ["pot", "hand", "others", "words"] (defScope s__law_end) := ⟨rfl, rfl, rfl, by decide +kernel, rfl, by decide +kernel, by decide +kernel⟩
abbrev s__law_then : Stmt := topS 24
abbrev n__law_then : List Str := ["states", "spot", "event", "step"]
theorem sc__law_then : FnScope n__law_then ["states", "spot", "event"] (defScope s__law_then) := ⟨rfl, rfl, rfl, by decide +kernel, rfl, by decide +kernel, by decide +kernel⟩
abbrev s__law_events : Stmt := topS 25
abbrev n__law_events : List Str := ["states", "spot", "step"]
theorem sc__law_events : FnScope n__law_events ["states", "spot"] (defScope s__law_events) := ⟨rfl, rfl, rfl, by decide +kernel, rfl, by decide +kernel, by decide +kernel⟩
abbrev s__law_do_alike : Stmt := topS 26
abbrev n__law_do_alike : List Str := ["states", "one", "others", "other", "met", "coming", "mine", "its", "event", "pair"]
theorem sc__law_do_alike : FnScope n__law_do_alike ["states", "one", "others", "other"] (defScope s__law_do_alike) := ⟨rfl, rfl, rfl, by decide +kernel, rfl, by decide +kernel, by decide +kernel⟩
abbrev s__law_copied : Stmt := topS 27
abbrev n__law_copied : List Str := ["pot", "own", "hand", "states", "many", "row", "spots", "at", "time", "left", "order", "turn", "found", "step", "then"]
theorem sc__law_copied : FnScope n__law_copied ["pot", "own"] (defScope s__law_copied) := ⟨rfl, rfl, rfl, by decide +kernel, rfl, by decide +kernel, by decide +kernel⟩
abbrev s__law_otherwise : Stmt := topS 28
abbrev n__law_otherwise : List Str := ["pot", "own", "others", "words", "hand", "states", "at", "row", "step", "way", "spot", "one"]
theorem sc__law_otherwise : FnScope n__law_otherwise ["pot", "own", "others", "words"] (defScope s__law_otherwise) := ⟨rfl, rfl, rfl, by decide +kernel, rfl, by decide +kernel, by decide +kernel⟩
abbrev s__law_in_a_row : Stmt := topS 29
abbrev n__law_in_a_row : List Str := ["pot", "hand", "other", "words", "word", "found", "k", "at"]
theorem sc__law_in_a_row : FnScope n__law_in_a_row ["pot", "hand", "other", "words"] (defScope s__law_in_a_row) := ⟨rfl, rfl, rfl, by decide +kernel, rfl, by decide +kernel, by decide +kernel⟩
abbrev s__law_first_comes : Stmt := topS 30
abbrev n__law_first_comes : List Str := ["states", "due", "at", "step"]
theorem sc__law_first_comes : FnScope n__law_first_comes ["states"] (defScope s__law_first_comes) := ⟨rfl, rfl, rfl, by decide +kernel, rfl, by decide +kernel, by decide +kernel⟩
abbrev s__law_least : Stmt := topS 31
abbrev n__law_least : List Str := ["own", "found", "states", "one", "other"]
theorem sc__law_least : FnScope n__law_least ["own", "found"] (defScope s__law_least) := ⟨rfl, rfl, rfl, by decide +kernel, rfl, by decide +kernel, by decide +kernel⟩
abbrev s__law_ring_right : Stmt := topS 32
abbrev n__law_ring_right : List Str := ["pot", "hand", "other", "word", "by", "ring", "k", "found", "at"]
theorem sc__law_ring_right : FnScope n__law_ring_right ["pot", "hand", "other", "word"] (defScope s__law_ring_right) := ⟨rfl, rfl, rfl, by decide +kernel, rfl, by decide +kernel, by decide +kernel⟩
abbrev s_law : Stmt := topS 33
abbrev n_law : List Str := ["script", "k", "pot", "names", "words", "own", "kept", "found", "twin", "turn", "other"]
theorem sc_law : FnScope n_law ["script"] (defScope s_law) := ⟨rfl, rfl, rfl, by decide +kernel, rfl, by decide +kernel, by decide +kernel⟩
/-- what the top has written: built-ins as they are, constants -/
structure Tx (mg : Str → Option Value) : Prop where
  isi : mg "isinstance" = none
  len : mg "len" = none
  all : mg "all" = none
  any : mg "any" = none
  tup : mg "tuple" = none
  str : mg "str" = none
  int : mg "int" = none
  bool : mg "bool" = none
  zip : mg "zip" = none
  sorted : mg "sorted" = none
  set : mg "set" = none
  list : mg "list" = none
  range : mg "range" = none
  enum : mg "enumerate" = none
  min : mg "min" = none
  max : mg "max" = none
  abs : mg "abs" = none
  repr : mg "repr" = none
  fault : ∃ t, mg "FAULT" = some (.str "!" t)
  mostL : ∃ t, mg "MOST_LETTERS" = some (.int 8 t)
end K3
set_option maxHeartbeats 200000
set_option Elab.async false
set_option linter.all false
set_option maxRecDepth 100000
set_option maxHeartbeats 4000000
namespace K3
open PySem PySem.Spec PyProof.Rows L2 DL
open PySem.W (alike alikeAll dataLt dataLe AllAlike Sortable EachIs keyToks keyToksAll lex_pre)
variable {P : Program} {w : World} {K : PySem.W.Frag} {mg : Str → Option Value} {base : Heap} {f : Addr} {fd : FuncData} {k : Nat}
def isTupM (d : PyData) (a b : Int) : Bool := match d with
  | .tuple xs => decide (a ≤ (xs.length : Int)) && decide ((xs.length : Int) ≤ b)
  | _ => false
def S_is_tuple_of : SpD := fun ds Φ => ∃ d a b, ds = [d, .int a, .int b] ∧ noD d = true ∧ Φ (.bool (isTupM d a b))
theorem ok_is_tuple_of (T : Tx mg) (F : Fd K "is_tuple_of" s_is_tuple_of [] [] f fd) : FnOk P w K mg base CX0 1 f fd ["thing", "least", "most"] (spD K S_is_tuple_of) := by
  refine fnD F sc_is_tuple_of (fun ds Φ h => by obtain ⟨d, a, b, rfl, _⟩ := h; rfl) (fun B cdv A outer s H E ds Φ hr hp hS => ?_)
  obtain ⟨d, a, b, rfl, hno, hΦ⟩ := hS
  refine ds_last (ds_ret (de_and (de_isi T.isi T.tup (.inl rfl) boot_tuple (de_nm 0 ⟨hno, _, rfl, ?_⟩))))
  cases d with
  | tuple xs =>
    refine iteT (de_one (de_chain op_le op_le (de_nm 1 (de_callB call_len T.len boot_len (da_cons (de_nm 0 (da_nil (rc_lenT rfl (rd_B0 ⟨_, rfl, ?_⟩)))))))))
    have e : isTupM (.tuple xs) a b = (decide (a ≤ (xs.length : Int)) && decide ((xs.length : Int) ≤ b)) := rfl
    rw [e] at hΦ
    refine ite2 (fun h => de_nm 2 (rd_B0 ?_)) (fun h => ?_)
    · rw [h] at hΦ
      exact hΦ
    · have h' : decide (a ≤ (xs.length : Int)) = false := by simpa using h
      rw [h'] at hΦ
      exact hΦ
  | _ => exact iteF hΦ
def natD (n : Nat) : PyData := .int (n : Nat)
def flt : Str := "!"
theorem onlyOwn_md {i j : Nat} {c : Option PyData} {r : List (Option C)} : onlyOwn i (c.map C.d :: r) j = onlyOwn i r (j + 1) := by cases c <;> rfl
structure IsNm (s : Str) : Prop where
  l1 : 1 ≤ s.length
  l2 : s.length ≤ 8
  cs : ∀ c ∈ s.cps.toList, 97 ≤ c ∧ c ≤ 122
def isNmB (s : Str) : Bool := decide (1 ≤ s.length) && decide (s.length ≤ 8) && s.cps.toList.all fun c => decide (97 ≤ c) && decide (c ≤ 122)
theorem isNmB_iff {s : Str} : isNmB s = true ↔ IsNm s := by
  unfold isNmB
  simp only [Bool.and_eq_true, decide_eq_true_eq, List.all_eq_true]
  exact ⟨fun ⟨⟨a, b⟩, c⟩ => ⟨a, b, c⟩, fun h => ⟨⟨h.l1, h.l2⟩, h.cs⟩⟩
def S_is_name : SpD := fun ds Φ => ∃ s, ds = [.str s] ∧ s.length ≤ 1000 ∧ Φ (.bool (isNmB s))
theorem ok_is_name (T : Tx mg) (F : Fd K "is_name" s_is_name [] [] f fd) : FnOk P w K mg base CX0 1 f fd ["thing"] (spD K S_is_name) := by
  refine fnD F sc_is_name (fun ds Φ h => by obtain ⟨s, rfl, _⟩ := h; rfl) (fun B cdv A outer s H E ds Φ hr hp hS => ?_)
  obtain ⟨x, rfl, hx, hΦ⟩ := hS
  have hz : x.length ≤ 100000 := by omega
  obtain ⟨t, ht⟩ := T.mostL
  refine ds_cons (ds_if (dt_pw (dw_or (dt_not (dt_val (de_isi T.isi T.str (.inr (.inl rfl)) boot_str (de_nm 0 ⟨rfl, _, rfl, ?_⟩)))))))
  refine iteF (dw_or1 (dt_cmp op_gt (de_callB call_len T.len boot_len (da_cons (de_nm 0 (da_nil (rc_lenS rfl hz (de_glob (v := .int 8) ht ⟨_, rfl⟩ (fun _ => .int _) (rd_B0 ⟨_, rfl, ?_⟩)))))))))
  have e2 : decide ((8 : Int) < (x.length : Nat)) = !decide (x.length ≤ 8) := by
    rw [← decide_not]
    exact decide_eq_decide.mpr (by omega)
  rw [e2]
  have sm := small_letters x
  by_cases h2 : x.length ≤ 8
  · have eq : isNmB x = (Txt.isascii x && (Txt.isalpha x && Txt.islower x)) := by
      unfold isNmB
      rw [sm, decide_eq_true h2, Bool.and_true]
    rw [eq] at hΦ
    rw [decide_eq_true h2]
    refine iteF (ds_nil (ds_last (ds_ret (de_and (de_isascii (de_nm 0 ⟨x, rfl, _, rfl, ?_⟩))))))
    cases h3 : Txt.isascii x with
    | false =>
      rw [h3] at hΦ
      exact iteF hΦ
    | true =>
      rw [h3] at hΦ
      refine iteT (de_and (de_isalpha (de_nm 0 ⟨x, rfl, _, rfl, ?_⟩)))
      cases h4 : Txt.isalpha x with
      | false =>
        rw [h4] at hΦ
        exact iteF hΦ
      | true =>
        rw [h4] at hΦ
        exact iteT (de_one (de_islower (de_nm 0 ⟨x, rfl, hΦ⟩)))
  · rw [decide_eq_false h2]
    refine iteT (ds_last (ds_ret (de_bl ?_)))
    have : isNmB x = false := by unfold isNmB; rw [decide_eq_false h2]; simp
    rw [this] at hΦ
    exact hΦ
theorem isTup_tup {l : List PyData} {a b : Int} (h1 : a ≤ (l.length : Int)) (h2 : (l.length : Int) ≤ b) : isTupM (.tuple l) a b = true := by
  show (decide (a ≤ (l.length : Int)) && decide ((l.length : Int) ≤ b)) = true
  rw [decide_eq_true h1, decide_eq_true h2]
  rfl
def forBv : Stmt → List Stmt
  | .For _ _ b _ _ => b
  | _ => []
abbrev St3 := Str × Str × Str
def s3D (t : St3) : PyData := .tuple [.str t.1, .str t.2.1, .str t.2.2]
theorem room1 {k : Nat} {A : Around} (r : Room k A) : A.units + 1 < cLine := by
  have := r.un
  omega
def rowD (r : St3 × Nat) : PyData := .tuple [.str r.1.1, .str r.1.2.1, .str r.1.2.2, natD r.2]
def stD (r : List (St3 × Nat)) : PyData := .tuple (r.map rowD)
def endD (h : Str) (sts : List (List (St3 × Nat))) : PyData := .tuple [.str h, .tuple (sts.map stD)]
end K3
set_option maxHeartbeats 200000
set_option Elab.async false
set_option linter.all false
set_option maxRecDepth 100000
set_option maxHeartbeats 1000000
namespace DL
open PySem PySem.Spec PyProof.Rows L2
section
variable {K : PySem.W.Frag} {x qual : Str} {params : Arguments} {body : List Stmt} {scope : Scope} {f : Addr} {fd : FuncData} {ps : List Str}
/-- f(k = v, ..): no defaults -/
theorem kbindsK (F : FunD K x qual params body scope [] [] f fd) (ks : List Str) (g : {α : Type} → List α → List α) (hrel : ∀ {zs : List V} {ws : List Value}, Vals zs ws → Vals (g zs) (g ws))
    (h : ∀ (kV doc pm : Value) (an : Option Addr) (cdv ct : Value) (ws : List Value), ws.length = ks.length → bindArgs (PySem.W.fnOf x qual params body scope .none kV doc pm an cdv ct) ⟨[], ks.zip ws⟩ = pure (ps.zip (g ws))) :
    KBn K fd ps 0 ks (fun _ ws => g ws) (fun _ zs => g zs) := by
  obtain ⟨oc, od, dV, kV, doc, pm, an, cdv, ct, osl, rfl, lk, hcd, hD, hK⟩ := F.ex
  rcases hD with ⟨_, rfl⟩ | ⟨e, _⟩
  · refine ⟨fun s us ws X l1 l2 => ?_, fun r1 r2 => hrel r2⟩
    obtain rfl : us = [] := List.eq_nil_of_length_eq_zero l1
    exact .of_eq (h kV doc pm an cdv ct ws l2)
  · exact absurd rfl e
end
section
variable {X : Cx} {CX : CXT} {k n : Nat} {f : Addr} {fd : FuncData} {ps ks : List Str} {sp : Sp} {E : XK} {x : Str} {p pos : Pos} {kws : List Keyword} {t tk : TA} {g : List Value → List Value → List Value} {gV : List V → List V → List V}
theorem pe_callN0 (F : FnOk X.prog X.w X.K X.mg X.base CX k f fd ps sp) (hr : Room k X.A) (hg : Gl X x) (hm : X.mg x = some (.ref f)) (hk : PySem.W.keepIn X.K (.ref f) = true) (hb : KBn X.K fd ps 0 ks g gV) (hx : Passes CX X E)
    (hkw : PK X kws tk) (hall : (backToKw pos (keywordEach kws X.env)).all (·.1.isSome) = true := by rfl) (hks : (backToKw pos (keywordEach kws X.env)).filterMap (·.1) = ks := by rfl)
    (hdb : (x == ("__debug__" : Str)) = false := by decide)
    (hpl : ((backTo pos (starEach [] X.env)).any (·.1) || (backToKw pos (keywordEach kws X.env)).any (·.1.isNone)) = false := by rfl) :
    PE X (.Call (.Name x p) [] kws pos) (fun σ H Q => tk σ H fun zs H2 => zs.length = ks.length ∧ sp (gV [] zs) H2 Q E) := by
  refine ⟨fun pins s σ H Q I h => ?_⟩
  refine wpAny_Call_Name_kw (ld_glob I hg hm ?_ hdb)
  refine PySem.W.callWith_KW0 (h₀ := X.base) I.ok.mod.kin hk hall (thn (hkw.run pos pins s σ H _ I h) fun ws s2 ⟨zs, H2, I2, rz, l2, q2⟩ => ⟨I2.kIn, ?_⟩) hpl
  rw [hks]
  exact run_fnN F hr hb hx I2 .nil rz rfl l2 q2
end
section
variable {B : B0} {X : Cx} {kws : List Keyword} {δ : St'} {Φ : PE1} {p pos : Pos} {k k' n : Nat} {ps ks : List Str} {x : Str} {gV : List V → List V → List V} {tk : TA}
theorem de_fKw0 {S : SpD} (gD : List PyData → List PyData) (G : FnKw X.prog X.w X.K X.mg X.base x k ps 0 ks gV (spD X.K S)) (hr : Room k' X.A) (hkw : PK X kws tk)
    (hg2 : ∀ {F : Hp} {zs : List V} {es : List PyData}, DqAll X.K F zs es → DqAll X.K F (gV [] zs) (gD es))
    (h : WA (bs X B) tk δ fun zs δ2 => zs.length = ks.length ∧ S (gD zs) fun y => Φ y δ2) (hk : k ≤ k' := by decide)
    (hg : Gl X x := by rfl) (hall : (backToKw pos (keywordEach kws X.env)).all (·.1.isSome) = true := by rfl) (hks : (backToKw pos (keywordEach kws X.env)).filterMap (·.1) = ks := by rfl)
    (hdb : (x == ("__debug__" : Str)) = false := by decide)
    (hpl : ((backTo pos (starEach [] X.env)).any (·.1) || (backToKw pos (keywordEach kws X.env)).any (·.1.isNone)) = false := by rfl) :
    DE B X (.Call (.Name x p) [] kws pos) δ Φ := by
  obtain ⟨f, fd, g, h1, h2, h3, h4⟩ := G.ex
  refine .of (pe_callN0 h4 (hr.mono hk) hg h1 h2 h3 pass0 hkw hall hks hdb hpl) fun σ F H r Q q => h σ F H r _ fun zs es' δ2 F2 H2 e2 r2 d2 ⟨l2, hS⟩ => ?_
  refine ⟨(dpAll_len d2).trans l2, F2, _, _, r2.ex, hg2 d2, hS, fun v y F3 H3 q1 q2 q3 q4 q5 q6 => ?_⟩
  exact q v y δ2 F3 H3 (e2.trans q1) (r2.called q1 q2 q3 q4) q5 q6
end
end DL
set_option maxHeartbeats 200000
set_option Elab.async false
set_option linter.all false
set_option maxRecDepth 100000
set_option maxHeartbeats 4000000
namespace K3
open PySem PySem.Spec PyProof.Rows L2 DL
open PySem.W (alike alikeAll dataLt dataLe AllAlike Sortable EachIs keyToks keyToksAll lex_pre)
variable {P : Program} {w : World} {K : PySem.W.Frag} {mg : Str → Option Value} {base : Heap} {f : Addr} {fd : FuncData} {k : Nat}
def lt3 (a b : St3) : Prop := dataLt (s3D a) (s3D b) = true
theorem lt3_irrefl (a : St3) : ¬ lt3 a a := fun h => by
  have : dataLt (s3D a) (s3D a) = false := lex_irrefl _
  unfold lt3 at h
  rw [this] at h
  cases h
theorem toks3 (a b c : Str) : keyToks (.tuple [.str a, .str b, .str c]) = [.inl 1, .inr a.cps.toList, .inl 1, .inr b.cps.toList, .inl 1, .inr c.cps.toList, .inl 0] := rfl
theorem lt3_total {a b : St3} (h : ¬ lt3 a b) (h' : ¬ lt3 b a) : a = b := by
  have e := lex_total (O := itemOrd) (keyToks (s3D a)) (keyToks (s3D b)) (by
    cases g : dataLt (s3D a) (s3D b) with
    | false => exact g
    | true => exact absurd g h) (by
    cases g : dataLt (s3D b) (s3D a) with
    | false => exact g
    | true => exact absurd g h')
  unfold s3D at e
  rw [toks3, toks3] at e
  simp only [List.cons.injEq, Sum.inr.injEq, and_true, true_and] at e
  exact Prod.ext (PySem.W.str_of_cps e.1) (Prod.ext (PySem.W.str_of_cps e.2.1) (PySem.W.str_of_cps e.2.2))
theorem alike3 (a b : St3) : alike (s3D a) (s3D b) = true := rfl
def tk3 (e : St3) : TK := [.inr e.1, .inr e.2.1, .inr e.2.2]
theorem tk3_inj {a b : St3} (h : tk3 a = tk3 b) : a = b := by
  unfold tk3 at h
  simp only [List.cons.injEq, Sum.inr.injEq, and_true] at h
  exact Prod.ext h.1 (Prod.ext h.2.1 h.2.2)
def kvL {α : Type} (g : α → PyData) (l : List (St3 × α)) : KvT := l.map fun r => (tk3 r.1, g r.2)
def look3 {α : Type} (l : List (St3 × α)) (e : St3) : Option α := (l.find? fun r => decide (r.1 = e)).map (·.2)
theorem kvL_get {α : Type} {g : α → PyData} {e : St3} : ∀ {l : List (St3 × α)}, getT (kvL g l) (tk3 e) = (look3 l e).map g
  | [] => rfl
  | r :: l => by
    have ih := kvL_get (g := g) (e := e) (l := l)
    unfold getT kvL look3 at *
    rw [List.map_cons, List.find?_cons, List.find?_cons]
    by_cases h : r.1 = e
    · rw [decide_eq_true (congrArg tk3 h), decide_eq_true h]; rfl
    · rw [decide_eq_false (fun z => h (tk3_inj z)), decide_eq_false h]; exact ih
theorem look3_in {α : Type} {e : St3} {x : α} : ∀ {l : List (St3 × α)}, (l.map (·.1)).Nodup → (e, x) ∈ l → look3 l e = some x
  | [], _, h => by cases h
  | r :: l, nd, h => by
    rw [List.map_cons, List.nodup_cons] at nd
    unfold look3
    rw [List.find?_cons]
    rcases List.mem_cons.mp h with h | h
    · rw [← h, decide_eq_true rfl]; rfl
    · have : ¬ r.1 = e := fun z => nd.1 (z ▸ List.mem_map.mpr ⟨_, h, rfl⟩)
      rw [decide_eq_false this]
      exact look3_in nd.2 h
theorem look3_some {α : Type} {e : St3} {x : α} {l : List (St3 × α)} (h : look3 l e = some x) : (e, x) ∈ l := by
  unfold look3 at h
  obtain ⟨r, h1, h2⟩ := Option.map_eq_some_iff.mp h
  have h3 := List.mem_of_find?_eq_some h1
  have h4 : r.1 = e := of_decide_eq_true (List.find?_some (p := fun r : St3 × α => decide (r.1 = e)) h1)
  rw [← h2, ← h4]
  exact h3
theorem look3_isSome {α : Type} {e : St3} {l : List (St3 × α)} (nd : (l.map (·.1)).Nodup) : (look3 l e).isSome = true ↔ e ∈ l.map (·.1) := by
  constructor
  · intro h
    obtain ⟨x, hx⟩ := Option.isSome_iff_exists.mp h
    exact List.mem_map.mpr ⟨_, look3_some hx, rfl⟩
  · intro h
    obtain ⟨r, hr, rfl⟩ := List.mem_map.mp h
    rw [look3_in nd (x := r.2) hr]
    rfl
theorem nm_S {cs : List Nat} (h1 : 1 ≤ cs.length) (h2 : cs.length ≤ 8) (hc : ∀ c ∈ cs, 97 ≤ c ∧ c ≤ 122) : IsNm (SX.S cs) where
  l1 := by rw [SX.S_len]; exact h1
  l2 := by rw [SX.S_len]; exact h2
  cs := by rw [show (SX.S cs).cps.toList = cs by simp [SX.S]]; exact hc
theorem cutS_upto {z : Str} {k : Nat} : cutS z none (some (k : Int)) = SX.S (z.cps.toList.take k) := by
  unfold cutS
  rw [HT.sIx_nat, HT.sIx_none, Nat.sub_zero, List.drop_zero]
  have e : z.length = z.cps.toList.length := (Array.length_toList (xs := z.cps)).symm
  rcases Nat.le_total k z.cps.toList.length with h | h
  · rw [Nat.min_eq_left (by omega)]
  · rw [Nat.min_eq_right (by omega), e, List.take_length, List.take_of_length_le h]
theorem one_S (c : Nat) : (⟨#[c]⟩ : Str) = SX.S [c] := rfl
def abc : Str := "abcdefghijklmnopqrstuvwxyz"
def lets : List Nat := abc.cps.toList
theorem lets_in : ∀ c ∈ lets, 97 ≤ c ∧ c ≤ 122 := by decide +kernel
theorem lets_len : lets.length = 26 := by decide +kernel
theorem pig {α : Type} [DecidableEq α] : ∀ (xs l : List α), xs.Nodup → (∀ x ∈ xs, x ∈ l) → xs.length ≤ l.length
  | [], l, _, _ => Nat.zero_le _
  | x :: xs, l, nd, h => by
    have h1 := List.nodup_cons.mp nd
    have h2 := pig xs (l.erase x) h1.2 fun y hy => (List.mem_erase_of_ne (fun (e : y = x) => h1.1 (e ▸ hy))).mpr (h y (List.mem_cons_of_mem _ hy))
    have hx : x ∈ l := h x List.mem_cons_self
    have h3 := List.length_erase_of_mem hx
    have h4 : 0 < l.length := List.length_pos_of_mem hx
    rw [List.length_cons]
    omega
def notD (l : List Str) : PyData → Bool
  | .str s => !decide (s ∈ l)
  | _ => false
theorem signs_abc : DL.signs abc = lets.map fun c => PyData.str ⟨#[c]⟩ := rfl
theorem filter_not (l : List Str) : ∀ xs : List Str, (xs.map PyData.str).filter (notD l) = (xs.filter fun x => !decide (x ∈ l)).map PyData.str := fun xs => by
  rw [List.filter_map]
  rfl
theorem flat_one : ∀ ys : List Str, (∀ y ∈ ys, ∃ c, y = (⟨#[c]⟩ : Str) ∧ 97 ≤ c ∧ c ≤ 122) → ∃ cs : List Nat, cs.length = ys.length ∧ (∀ c ∈ cs, 97 ≤ c ∧ c ≤ 122) ∧ ys = (cs.map fun c => [c]).map SX.S
  | [], _ => ⟨[], rfl, by simp, rfl⟩
  | y :: ys, h => by
    obtain ⟨c, rfl, hc⟩ := h y List.mem_cons_self
    obtain ⟨cs, h1, h2, h3⟩ := flat_one ys fun z hz => h z (List.mem_cons_of_mem _ hz)
    refine ⟨c :: cs, by simp [h1], fun d hd => ?_, by rw [h3]; rfl⟩
    rcases List.mem_cons.mp hd with rfl | hd
    · exact hc
    · exact h2 d hd
theorem flat_sing : ∀ cs : List Nat, (cs.map fun c => [c]).flatten = cs
  | [] => rfl
  | c :: cs => by rw [List.map_cons, List.flatten_cons, flat_sing cs]; rfl
theorem join_nm {ys : List Str} (h : ∀ y ∈ ys, ∃ c, y = (⟨#[c]⟩ : Str) ∧ 97 ≤ c ∧ c ≤ 122) (h1 : 1 ≤ ys.length) (h2 : ys.length ≤ 8) : IsNm (Txt.join (Str.ofString "") ys) := by
  obtain ⟨cs, e1, e2, rfl⟩ := flat_one ys h
  rw [show Str.ofString "" = SX.S [] from rfl, SX.join_S, joinL_nil, flat_sing]
  exact nm_S (by omega) (by omega) e2
theorem ones_len {ys : List Str} (h : ∀ y ∈ ys, ∃ c, y = (⟨#[c]⟩ : Str) ∧ 97 ≤ c ∧ c ≤ 122) : (ys.map (·.length)).sum = ys.length := by
  induction ys with
  | nil => rfl
  | cons y ys ih =>
    obtain ⟨c, rfl, _⟩ := h y List.mem_cons_self
    rw [List.map_cons, List.sum_cons, ih fun z hz => h z (List.mem_cons_of_mem _ hz), List.length_cons]
    show 1 + _ = _
    omega
def forB : Stmt → List Stmt
  | .For _ _ b _ _ => b
  | _ => []
theorem mod_in {a b : Int} (h : 0 < b) : 0 ≤ a % b ∧ a % b < b := ⟨Int.emod_nonneg _ (by omega), Int.emod_lt_of_pos _ h⟩
theorem boot_max : bootBuiltins "max" = some (.builtin "max") := by decide +kernel
theorem boot_min : bootBuiltins "min" = some (.builtin "min") := by decide +kernel
end K3
set_option maxHeartbeats 200000
set_option Elab.async false
set_option linter.all false
set_option maxRecDepth 100000
set_option maxHeartbeats 1000000
namespace DL
open PySem PySem.Spec PyProof.Rows L2
end DL
set_option maxHeartbeats 200000
set_option Elab.async false
set_option linter.all false
set_option maxRecDepth 100000
set_option maxHeartbeats 1000000
namespace DL
open PySem PySem.Spec PyProof.Rows L2
end DL
set_option maxHeartbeats 200000
set_option Elab.async false
set_option linter.all false
set_option maxRecDepth 100000
set_option maxHeartbeats 2000000
namespace DL
open PySem PySem.Spec PyProof.Rows L2
end DL
set_option maxHeartbeats 200000
set_option Elab.async false
set_option linter.all false
set_option maxRecDepth 100000
set_option maxHeartbeats 2000000
namespace DL
open PySem PySem.Spec PyProof.Rows L2
def WOo (B : Bs) (ts : TS) (δ : St') (R : Addr → List Str → List PyData → St' → Prop) : Prop := ∀ σ F H, Rep B δ σ F H → ∀ D : Ends, (∀ a c dx us ns xs δ' σ' F' H', Same F F' → Rep B δ' σ' F' H' → B.H a = none → F' a = none → H' a = some (.ins c dx (ns.zip us)) → DqAll B.K F' us xs → R c ns xs δ' → D.rt (.ref a) H') → ts D σ H
def DOo (B : B0) (X : Cx) (sts : List Stmt) (δ : St') (R : Addr → List Str → List PyData → St' → Prop) : Prop := WOo (bs X B) (wSs X sts) δ R
section
variable {B : B0} {X : Cx} {e : Expr} {st : Stmt} {rest : List Stmt} {δ : St'} {R : Addr → List Str → List PyData → St' → Prop} {pos : Pos}
theorem DOo.of {sts : List Stmt} {ts : TS} (q : PSs X sts ts) (h : WOo (bs X B) ts δ R) : DOo B X sts δ R := fun σ F H r D z pins s I => q.run pins s σ H D I (h σ F H r D z)
end
end DL
set_option maxHeartbeats 200000
set_option Elab.async false
set_option linter.all false
set_option maxRecDepth 100000
set_option maxHeartbeats 2000000
namespace DL
open PySem PySem.Spec PyProof.Rows L2
end DL
set_option maxHeartbeats 200000
set_option Elab.async false
set_option linter.all false
set_option maxRecDepth 100000
set_option maxHeartbeats 2000000
namespace DL
open PySem PySem.Spec PyProof.Rows L2
def rTNotIn (P : Program) (w : World) : R2 := fun x y H Q => ∃ a es b k, y = .ref a ∧ H a = some (TdO P w a es) ∧ KeysIn H es ∧ x = .ref b ∧ H b = some (.tup (k.map kV)) ∧ Q (.bl (!(valT es k).isSome)) H
theorem RelO.isSome_eq {o : Option V} {u : Option Value} (h : RelO o u) : o.isSome = u.isSome := by
  cases o <;> cases u <;> first | rfl | exact h.elim | cases h
section
variable {X : Cx} {ek ev : Expr} {tk tv : TE} {pos : Pos}
theorem op_tnotin (hu : X.A.units + 1 < cLine) : OpR X (compareOp .NotIn) (rTNotIn X.prog X.w) := by
  intro pins s σ H x y v u Q I rx ry h
  obtain ⟨a, es, b, k, rfl, g, gk, rfl, eb, q⟩ := h
  obtain rfl : u = Value.ref a := ry
  obtain rfl : v = Value.ref b := rx
  obtain ⟨hd, xs, rel, dd⟩ := td_at I g gk
  refine wpAny_notIn_heap (tupleKind_room_in1 hu) (key_of I.hok eb) hd dd ⟨_, H, I.tok _, ?_, q⟩
  have := RelO.isSome_eq (rel.val k)
  rw [Option.isSome_map] at this
  rw [this]
  rfl
theorem tPairs1 {tk tv : TE} {σ : L2.St} {H : Hp} {Q : List (V × V) → Hp → Prop} (h : tk σ H fun x H1 => tv σ H1 fun y H2 => Q [(x, y)] H2) : tPairs [(tk, tv)] σ H Q := h
/-- {k: v}, k a tuple -/
def tTDisp (P : Program) (w : World) (tk tv : TE) : TE := fun σ H Q => ∀ p, H p = none → tk σ (upd H p (TdO P w p [])) fun x H1 => tv σ H1 fun y H2 => ∃ b k y', [(x, y)] = [(V.ref b, y')] ∧ H2 b = some (.tup (k.map kV)) ∧ H2 p = some (TdO P w p []) ∧ Q (.ref p) (upd H2 p (TdO P w p [(k, b, y')]))
theorem pe_tdisp (hu : X.A.units + 1 < cLine) (hk : PE X ek tk) (hv : PE X ev tv) : PE X (.Dict [some ek] [ev] pos) (tTDisp X.prog X.w tk tv) := by
  refine ⟨fun pins s σ H Q I q => ?_⟩
  have hn := I.hok.fresh (Nat.le_refl s.heap.objs.size)
  have I1 := I.laid (a := s.heap.objs.size) (o := TdO X.prog X.w s.heap.objs.size []) (h' := s.heap.push { cls := .type "dict", data := .dict #[] }) (t' := s.toks) (fun _ _ q => Heap.get?_push_of_some _ q) (Nat.le_refl _)
    (td_ok ⟨beq_eq_false_iff_ne.mpr (Ne.symm (Nat.ne_of_lt I.big)), [], .nil, _, #[], 0, Heap.get?_push_size _ rfl, ⟨rfl, rfl, rfl⟩, rfl, rfl, List.nodup_nil⟩)
  have hn2 := pairTrees_length [some ek] [ev] X.env pos rfl rfl
  rw [arm_eval_Dict, zip_pairTrees [some ek] [ev] X.env pos rfl rfl, dictDisplay_pairs (pairTrees [some ek] [ev] X.env pos) (by intro e; rw [e] at hn2; cases hn2) (by rw [hn2]; show 1 < 17; decide)]
  refine wpAny_bind (wpAny_standAt (wpAny_bind (wpAny_subDictH (knd := tkind X.prog X.w) (Q := fun d s' => wpAny (model X.prog X.w) X.A (pure (Value.ref d)) _ X.xe s') (show (tkind X.prog X.w).room X.A from Nat.lt_of_succ_lt hu) (by rw [hn2]; show 1 ≤ 15; decide) ?_)))
  refine wpAny_mono ((pps_cons (pos := pos) hk hv pps_nil).run pins _ σ _ (fun ps H2 => ∃ b k y, ps = [(.ref b, y)] ∧ H2 b = some (.tup (k.map kV)) ∧ H2 s.heap.objs.size = some (TdO X.prog X.w s.heap.objs.size []) ∧ Q (.ref s.heap.objs.size) (upd H2 s.heap.objs.size (TdO X.prog X.w s.heap.objs.size [(k, b, y)]))) I1 ?_) (fun vs s2 hq => ?_) fun _ _ e => e
  · refine tPairs1 ?_
    exact q _ hn
  · obtain ⟨ps, H2, I2, rel, b, k, y, rfl, eb, ep, q2⟩ := hq
    cases rel with
    | cons r1 r2 =>
      cases r2
      rename_i pr
      obtain ⟨kv, vv⟩ := pr
      obtain ⟨rk, rv⟩ := r1
      obtain rfl : kv = Value.ref b := rk
      obtain ⟨hd, xs, rel, dd⟩ := td_at I2 ep (fun x hx => by cases hx)
      cases rel
      refine ⟨[(k, b, vv)], ⟨rfl, rfl, key_of I2.hok eb, trivial⟩, dd, fun h' tk' dd' hs => wpAny_pure ⟨.ref s.heap.objs.size, _, ?_, rfl, q2⟩⟩
      obtain ⟨q, ds, epp, hq, h2, h3, h4, _, h5⟩ := dd'
      exact d_write I2 (by rw [ep]; exact True.intro) hs ⟨q, hq⟩ (td_ok ⟨hd, _, .cons ⟨rfl, rfl, rv⟩ .nil, q, ds, epp, hq, h2, h3, h4, h5⟩)
end
structure PlainO (o : HO) : Prop where
  l : ∀ xs, o ≠ .lst xs
  t : ∀ xs, o ≠ .tup xs
  f : ∀ ob u, o ≠ .frz ob u
theorem rd_outX {F : Hp} {p a : Addr} {o0 : HO} (hp : F p = some o0) (hno : PlainO o0) {u : HO} (hu : (∃ xs, u = .lst xs) ∨ ∃ xs, u = .tup xs) (h : Rd F a u) : Rd (del F p) a u := by
  have ne : a ≠ p := fun z => by
    subst z
    rcases h with h | ⟨o, h⟩
    · rw [hp] at h
      injection h with h
      rcases hu with ⟨xs, rfl⟩ | ⟨xs, rfl⟩
      · exact hno.l xs h
      · exact hno.t xs h
    · rw [hp] at h
      injection h with h
      exact hno.f o u h
  rcases h with h | ⟨o, h⟩
  · exact .inl (by rw [del_ne ne]; exact h)
  · exact .inr ⟨o, by rw [del_ne ne]; exact h⟩
mutual
theorem dq_outX {K : PySem.W.Frag} {F : Hp} {p : Addr} {o0 : HO} (hp : F p = some o0) (hno : PlainO o0) : ∀ (d : PyData) (v : V), Dq K F v d → Dq K (del F p) v d
  | .none, _, h => by cases h; exact .non
  | .bool _, _, h => by cases h; exact .bl _
  | .int _, _, h => by cases h; exact .int _
  | .str _, _, h => by cases h; exact .str _
  | .list ds, _, h => by
    cases h with
    | lst hs ha =>
      refine .lst ?_ (dqs_outX hp hno ds _ ha)
      rcases hs with hs | hs
      · exact .inl (rd_outX hp hno (.inl ⟨_, rfl⟩) hs)
      · exact .inr hs
  | .tuple ds, _, h => by
    cases h with
    | tup hs ha hq =>
      refine .tup ?_ (dqs_outX hp hno ds _ ha) ?_
      · rcases hs with hs | hs
        · exact .inl (rd_outX hp hno (.inr ⟨_, rfl⟩) hs)
        · exact .inr hs
      · unfold del
        rw [if_neg (fun e => by rw [e, hp] at hq; injection hq with hq; exact hno.t _ hq)]
        exact hq
  | .dict _, _, h => by cases h; exact .hd _
theorem dqs_outX {K : PySem.W.Frag} {F : Hp} {p : Addr} {o0 : HO} (hp : F p = some o0) (hno : PlainO o0) : ∀ (ds : List PyData) (vs : List V), DqAll K F vs ds → DqAll K (del F p) vs ds
  | [], _, h => by cases h; exact .nil
  | d :: ds, _, h => by
    cases h with
    | cons h1 h2 => exact .cons (dq_outX hp hno d _ h1) (dqs_outX hp hno ds _ h2)
end
theorem Rep.outX {B : Bs} {δ : St'} {σ : List (Option V)} {F H : Hp} {p : Addr} {o0 : HO} (r : Rep B δ σ F H) (hp : F p = some o0) (hno : PlainO o0) (hB : B.F p = none) : Rep B δ σ (del F p) H := by
  have nn : ∀ {a : Addr}, F a = none → (del F p) a = none := fun {a} h => by
    by_cases e : a = p
    · rw [e, del_same]
    · rw [del_ne e]; exact h
  refine ⟨fun b u h => ?_, fun b u h => ?_, fun b h1 h2 => nn (r.fr b h1 h2), r.kp, r.pot, fun i c h => ?_, r.len, r.ap⟩
  · by_cases e : b = p
    · rw [e, del_same] at h; cases h
    · rw [del_ne e] at h; exact r.ex b u h
  · have e : b ≠ p := fun z => by rw [z, hB] at h; cases h
    rw [del_ne e]; exact r.f0 b u h
  · obtain ⟨v, hv, hc⟩ := r.cell i c h
    refine ⟨v, hv, ?_⟩
    cases c with
    | d x => exact dq_outX hp hno _ _ hc
    | own xs =>
      obtain ⟨a, vs, e, h1, h2, h3, h4⟩ := hc
      exact ⟨a, vs, e, h1, nn h2, h3, dqs_outX hp hno _ _ h4⟩
    | dct kvs =>
      obtain ⟨a, vs, e, h1, h2, h3, h4⟩ := hc
      exact ⟨a, vs, e, h1, nn h2, h3, dqs_outX hp hno _ _ h4⟩
    | gen pa mk kvs =>
      obtain ⟨a, vs, e, h1, h2, h3, h4, h5⟩ := hc
      exact ⟨a, vs, e, h1, nn h2, h3, h4, dqs_outX hp hno _ _ h5⟩
    | iset ns =>
      obtain ⟨a, e, h1, h2, h3⟩ := hc
      exact ⟨a, e, h1, nn h2, h3⟩
    | pot => exact hc
    | bor => exact hc
section
variable {B : B0} {X : Cx} {e ek ev : Expr} {δ : St'} {N : St' → Prop} {R : PE1} {pos pos' p2 pp : Pos} {x pn : Str} {kvs0 : KvT} {a0 : Addr}
/-- e not in d -/
theorem dt_tnotin (i : Nat) {Ψ : Bool → St' → Prop} (hu : X.A.units + 1 < cLine) (h : DE B X e δ fun y δ' => ∃ (a : Addr) (kvs : KvT) (k : TK), y = tkD k ∧ δ'.s[i]? = some (some (tdC X.prog X.w a kvs)) ∧ Ψ (!(getT kvs k).isSome) δ') (hi : δ.s[i]? = some (some (tdC X.prog X.w a0 kvs0)) := by rfl) (hN : X.N[i]? = some pn := by rfl)
    (hv : Vis X.env.scope pn := by first | exact Or.inl rfl | exact Or.inr (Or.inl rfl) | exact Or.inr (Or.inr rfl)) (hd : (pn == ("__debug__" : Str)) = false := by decide) (hcd : (pn == ("__classdict__" : Str)) = false := by decide) (hm : behindInMarks CmpOp.NotIn (.Name pn pp) = false := by rfl) :
    DT B X (.Compare e [.NotIn] [.Name pn pp] pos) δ Ψ := .of (pt_cmpR (op_tnotin hu) pe_w (pe_var hN hv hd hcd) hm) fun σ F H r Q q => by
  refine h σ F H r _ fun w y δ' F' H' e1 r' dw ⟨a, kvs', k, hy, hi2, p⟩ => ?_
  subst hy
  obtain ⟨es, hσ2, hB2, hF2, hH2, hE2, hK2⟩ := cell_td r' hi2
  obtain ⟨b, rfl, hb⟩ := tk_v dw
  refine ⟨.ref a, hσ2, a, es, b, k, rfl, hH2, hK2, rfl, r'.ex _ _ hb, !(valT es k).isSome, rfl, ?_⟩
  rw [hE2.some?]
  exact q _ δ' F' H' e1 r' p
/-- x = {ek: ev}, the key a tuple -/
theorem ds_setTd1 (i : Nat) (hu : X.A.units + 1 < cLine) (h : DE B X ek δ fun y δ1 => DE B X ev δ1 fun z δ2 => ∃ k : TK, y = tkD k ∧ ∀ a, N (δ2.put i (tdC X.prog X.w a [(k, z)]))) (hN : X.N.Nodup) (hi : X.N[i]? = some x := by rfl) (hx : Loc X.env.scope x := by first | exact .inl rfl | exact .inr rfl)
    (hs : swapsWith (.Dict [some ek] [ev] p2) (some (.Name x pos')) pos.line X.env = pure false := by rfl) (hf : X.fn x = true ∨ X.env.scope.names.lookup x = some .local := by first | exact .inl rfl | exact .inr rfl) : DS B X (.Assign [.Name x pos'] (.Dict [some ek] [ev] p2) pos) δ N R :=
  .of (ps_set hN hi hx (pe_tdisp hu pe_w pe_w) hs hf) fun σ F H r D hn hr => by
    intro p hp
    obtain ⟨hB, hF, _, _⟩ := r.fresh hp
    have hBF : B.F p = none := by
      cases e : B.F p with
      | none => rfl
      | some o => have := r.f0 p o e; rw [hF] at this; cases this
    have r1 := r.new hp (TdO X.prog X.w p [])
    refine h σ _ _ r1 _ fun v y δ1 F1 H1 e1 r1' d1 p1 => p1 σ F1 H1 r1' _ fun u z δ2 F2 H2 e2 r2 d2 ⟨k, hy, q⟩ => ?_
    subst hy
    have hF2 : F2 p = some (TdO X.prog X.w p []) := e2 _ _ (e1 _ _ upd_same)
    have hno : PlainO (TdO X.prog X.w p []) := ⟨fun _ z => (by cases z), fun _ z => (by cases z), fun _ _ z => (by cases z)⟩
    have r3 := r2.outX hF2 hno hBF
    obtain ⟨b, rfl, hb⟩ := tk_v d1
    have hb2 := e2 _ _ hb
    have hbp : b ≠ p := fun w => by rw [w, hF2] at hb2; cases hb2
    have hap : ∀ (j : Nat) (c : C), δ2.s[j]? = some (some c) → own? c = true → σ[j]? ≠ some (some (.ref p)) := fun j c hj ho hz => by
      obtain ⟨w, hw, hc⟩ := r2.cell j c hj
      rw [hz] at hw
      cases hw
      cases c with
      | d x => cases ho
      | pot => cases ho
      | bor => cases ho
      | own xs =>
        obtain ⟨a, vs, e, _, h2, _⟩ := hc
        cases e
        rw [hF2] at h2; cases h2
      | dct xs =>
        obtain ⟨a, vs, e, _, h2, _⟩ := hc
        cases e
        rw [hF2] at h2; cases h2
      | gen pa mk xs =>
        obtain ⟨a, vs, e, _, h2, _⟩ := hc
        cases e
        rw [hF2] at h2; cases h2
      | iset ns =>
        obtain ⟨a, e, _, h2, _⟩ := hc
        cases e
        rw [hF2] at h2; cases h2
    have r4 := r3.side (o := TdO X.prog X.w p [(k, b, u)]) del_same hB hap
    refine ⟨b, k, u, rfl, r2.ex _ _ hb2, r2.ex _ _ hF2, ?_⟩
    refine hn _ _ (del F2 p) _ (fun b o hb => ?_) (r4.putO i (c := tdC X.prog X.w p [(k, z)]) hap (td_cell (es := [(k, b, u)]) hB del_same upd_same (.cons ⟨rfl, by rw [del_ne hbp]; exact hb2, dq_outX hF2 hno _ _ d2⟩ .nil))) (q p)
    have ne : b ≠ p := fun w => by rw [w, hF] at hb; cases hb
    rw [del_ne ne]
    exact e2 _ _ (e1 _ _ (by rw [upd_ne ne]; exact hb))
end
end DL
set_option maxHeartbeats 200000
set_option Elab.async false
set_option linter.all false
set_option maxRecDepth 100000
set_option maxHeartbeats 2000000
namespace DL
open PySem PySem.Spec PyProof.Rows L2
end DL
set_option maxHeartbeats 200000
set_option Elab.async false
set_option linter.all false
set_option maxRecDepth 100000
set_option maxHeartbeats 2000000
namespace DL
open PySem PySem.Spec PyProof.Rows L2
end DL
set_option maxHeartbeats 200000
set_option Elab.async false
set_option linter.all false
set_option maxRecDepth 100000
set_option maxHeartbeats 2000000
namespace DL
open PySem PySem.Spec PyProof.Rows L2
section
variable {B : B0} {X : Cx} {elt tg iter : Expr} {scope : Scope} {δ : St'} {N : St' → Prop} {R : PE1} {pos spos py : Pos} {wi : TI} {g : TG} {y0 : Str} {Φ : List PyData → St' → Prop}
theorem wl_map (own : List (Str × Nat)) (h : WI (bs X B) wi δ fun xs δ1 => xs.length ≤ 100000 ∧ ∃ f : PyData → PyData,
      (∀ (B' : B0) y, Sub B B' → y ∈ xs → WG (bs X B') g (own.map (·.2)) y ⟨δ1.n, inn (own.map (·.2)) 0 δ1.s⟩ fun δ2 =>
        ∀ s0 H0 C cl fp, DE B' (X.blk s0 H0 scope (compEnvC scope cl C X.env) fp) elt δ2 fun z δ4 => z = f y ∧ δ4.n = δ1.n) ∧ Φ (xs.map f) δ1) : WL (bs X B) (tLc wi g tYes (bE X scope elt) (own.map (·.2))) δ Φ :=
  wl_lc (fun _ z => z) fun σ F H r R q => h σ F H r R fun J xs δ1 F' H' e r' w ⟨hz, f, h1, h2⟩ => q J xs δ1 F' H' e r' w ⟨hz, fun i acc n => acc = (xs.take i).map f ∧ n = δ1.n, by simp, fun B' i y acc n hp hy _ ⟨ha, hn⟩ => by
    subst ha hn
    intro σ F H r v d Q qq
    refine h1 B' y hp (List.mem_of_getElem? hy) σ F H r v d Q fun δ2 σ2 r2 k1 k2 p => qq δ2 σ2 r2 k1 k2 (tYes_of ?_)
    rw [if_pos rfl]
    refine WE.mono (bE_of p) fun z δ4 ⟨e1, e2⟩ => ⟨?_, e2⟩
    rw [take_snoc hy, List.map_append, e1]; rfl, fun acc n _ ⟨ha, hn⟩ => by
    subst ha hn
    rw [List.take_length]; exact h2⟩
end
end DL
set_option maxHeartbeats 200000
set_option Elab.async false
set_option linter.all false
set_option maxRecDepth 100000
set_option maxHeartbeats 2000000
namespace DL
open PySem PySem.Spec PyProof.Rows L2
abbrev SpT := KvT → List PyData → (PyData → KvT → Prop) → Prop
def spT (P : Program) (w : World) (K : PySem.W.Frag) (S : SpT) : Sp := fun vs H Q _ => ∃ F p vs' ds es kvs Φ, vs = vs' ++ [.ref p] ∧ Same F H ∧ F p = none ∧ H p = some (TdO P w p es) ∧ EsOk K F es kvs ∧ DqAll K F vs' ds ∧ S kvs ds Φ ∧
  ∀ v y es' kvs' F' H', Same F F' → Same F' H' → (∀ b, F b = none → H b ≠ none → F' b = none) → (∀ b o, H b = some o → b ≠ p → H' b = some o) → H' p = some (TdO P w p es') → EsOk K F' es' kvs' → Dq K F' v y → Φ y kvs' → Q v H'
theorem rep_iniT {P : Program} {w : World} {K : PySem.W.Frag} {N : List Str} {F H : Hp} {p : Addr} {vs : List V} {ds : List PyData} {es : List EnT} {kvs : KvT} (e : Same F H) (hp : F p = none) (hH : H p = some (TdO P w p es)) (hE : EsOk K F es kvs) (h : DqAll K F vs ds) :
    Rep ⟨⟨F, fun b => if b = p then none else H b, none, none⟩, w, K⟩ (ini N (ds.map C.d ++ [tdC P w p kvs]) 0) (L2.start N (vs ++ [.ref p])) F H := by
  have hl : (vs ++ [V.ref p]).length = (ds.map C.d ++ [tdC P w p kvs]).length := by simp [dpAll_len h]
  have hc : ∀ {i : Nat} {c' : C}, (ds.map C.d ++ [tdC P w p kvs])[i]? = some c' → (i = ds.length ∧ c' = tdC P w p kvs) ∨ ∃ d, i < ds.length ∧ ds[i]? = some d ∧ c' = .d d := fun {i c'} z => by
    by_cases hi : i < ds.length
    · rw [List.getElem?_append_left (by rw [List.length_map]; exact hi), List.getElem?_map, Option.map_eq_some_iff] at z
      obtain ⟨d, h1, h2⟩ := z
      exact .inr ⟨d, hi, h1, h2.symm⟩
    · rw [List.getElem?_append_right (by rw [List.length_map]; omega), List.length_map] at z
      have hz : i - ds.length = 0 := by
        have := (List.getElem?_eq_some_iff.mp z).1
        simp at this
        omega
      rw [hz] at z
      exact .inl ⟨by omega, (by simpa using z.symm)⟩
  refine ⟨e, Same.refl _, fun b z _ => z, fun b o z _ => ?_, fun a z => (by cases z), fun i c' hi => ?_, start_len hl, fun i j c1 c2 hij h1 h2 o1 o2 => ?_⟩
  · have z' : (if b = p then none else H b) = some o := z
    split at z'
    · cases z'
    · exact z'
  · obtain ⟨v, h1, h2, h3⟩ := start_get hl hi
    rcases hc h3 with ⟨rfl, rfl⟩ | ⟨d, hi', h4, rfl⟩
    · rw [List.getElem?_append_right (by rw [dpAll_len h]; exact Nat.le_refl _), dpAll_len h, Nat.sub_self] at h2
      simp at h2
      subst h2
      exact ⟨.ref p, h1, td_cell (if_pos rfl) hp hH hE⟩
    · obtain ⟨v', q1, q2⟩ := dpAll_get h h4
      rw [List.getElem?_append_left (by rw [dpAll_len h]; exact hi'), q1] at h2
      injection h2 with h2
      subst h2
      exact ⟨_, h1, q2⟩
  · obtain ⟨v1, _, _, q1⟩ := start_get hl h1
    obtain ⟨v2, _, _, q2⟩ := start_get hl h2
    rcases hc q1 with ⟨rfl, rfl⟩ | ⟨d1, _, _, rfl⟩
    · rcases hc q2 with ⟨rfl, rfl⟩ | ⟨d2, _, _, rfl⟩
      · exact absurd rfl hij
      · cases o2
    · cases o1
section
variable {P : Program} {w : World} {K : PySem.W.Frag} {mg : Str → Option Value} {base : Heap} {x qual : Str} {st : Stmt} {f : Addr} {fd : FuncData} {N ps : List Str} {k : Nat}
theorem fnT {S : SpT} {dvs : List V} {kws : List (Str × V)} (F : FunD K x qual (defArgs st) (defBody st) (defScope st) dvs kws f fd) (sc : FnScope N ps (defScope st)) (len : ∀ kvs ds Φ, S kvs ds Φ → ds.length + 1 = ps.length)
    (body : ∀ (B : B0) (cdv : Value) (A : Around) (outer : List Env) (s : Shared) (H : Hp) (E : XK) (p : Addr) (kvs : KvT) (ds : List PyData) (Φ : PyData → KvT → Prop), Room k (A.deeper (envOfC qual (defScope st) s.heap.objs.size f cdv)) → B.p = none → S kvs ds Φ →
      DSs B (bodyX P w K mg base N qual (defScope st) f cdv A outer s H E) (defBody st) (ini N (ds.map C.d ++ [tdC P w p kvs]) 0) (fun δ => ∃ kvs', δ.s[ds.length]? = some (some (tdC P w p kvs')) ∧ Φ .none kvs') fun x δ => ∃ kvs', δ.s[ds.length]? = some (some (tdC P w p kvs')) ∧ Φ x kvs') :
    FnOk P w K mg base CX0 (k + 1) f fd ps (spT P w K S) := by
  refine F.ok sc (fun vs H Q E h => ?_) (fun cdv A outer s H vs Q E hr h => ?_)
  · obtain ⟨F', p, vs', ds, es, kvs, Φ, rfl, _, _, _, _, hd, hS, _⟩ := h
    rw [List.length_append, dpAll_len hd]
    exact len kvs ds Φ hS
  · obtain ⟨F', p, vs', ds, es, kvs, Φ, rfl, e, hp, hH, hE, hd, hS, q⟩ := h
    refine ⟨_, PSs.nox pss_w, ?_⟩
    have fin : ∀ {δ' : St'} {σ' : List (Option V)} {F2 H2 : Hp} {v : V} {y : PyData}, Same F' F2 → Rep ⟨⟨F', fun b => if b = p then none else H b, none, none⟩, w, K⟩ δ' σ' F2 H2 → Dq K F2 v y → (∃ kvs', δ'.s[ds.length]? = some (some (tdC P w p kvs')) ∧ Φ y kvs') → Q v H2 := fun {δ' σ' F2 H2 v y} e2 r2 d2 ⟨kvs', hi, hΦ⟩ => by
      obtain ⟨es', _, _, hF2, hH2, hE2, _⟩ := cell_td r2 hi
      refine q v y es' kvs' F2 H2 e2 r2.ex (fun b h1 h2 => ?_) (fun b o z hb => r2.kp b o (by show (if b = p then none else H b) = some o; rw [if_neg hb]; exact z) (fun y => by cases y)) hH2 hE2 d2 hΦ
      by_cases hb : b = p
      · rw [hb]; exact hF2
      · exact r2.fr b h1 (by show (if b = p then none else H b) ≠ none; rw [if_neg hb]; exact h2)
    refine body ⟨F', fun b => if b = p then none else H b, none, none⟩ cdv A outer s H E p kvs ds Φ hr rfl hS (L2.start N (vs' ++ [V.ref p])) F' H (rep_iniT e hp hH hE hd) _ (fun δ' σ' F2 H2 e2 r2 n => fin e2 r2 .non n) fun v x δ' σ' F2 H2 e2 r2 d2 n => fin e2 r2 d2 n
end
theorem Rep.calledT {B : Bs} {δ : St'} {σ : List (Option V)} {F H F' H' : Hp} {i : Nat} {a : Addr} {P : Program} {w : World} {kvs kvs' : KvT} {es' : List EnT} (r : Rep B δ σ F H) (hi : δ.s[i]? = some (some (tdC P w a kvs))) (e1 : Same F F') (e2 : Same F' H') (fr : ∀ b, F b = none → H b ≠ none → F' b = none)
    (kp : ∀ b o, H b = some o → b ≠ a → H' b = some o) (hH' : H' a = some (TdO P w a es')) (hE : EsOk B.K F' es' kvs') : Rep B (δ.put i (tdC P w a kvs')) σ F' H' := by
  obtain ⟨es, hσ, hB, hF, hH, _, _⟩ := cell_td r hi
  have hF' : F' a = none := fr a hF (by rw [hH]; exact fun q => by cases q)
  have r1 : Rep B δ σ F' (upd H' a (TdO P w a es)) := r.called e1 (fun b o q => by
    have : b ≠ a := fun z => by rw [z, hF'] at q; cases q
    rw [upd_ne this]; exact e2 b o q) fr (fun b o q => by
    by_cases e : b = a
    · subst e
      rw [hH] at q
      rw [upd_same]; exact q
    · rw [upd_ne e]; exact kp b o q e)
  have r2 := r1.write (c2 := tdC P w a kvs') (o := TdO P w a es') hi rfl hσ hB hF' rfl (td_cell hB hF' upd_same hE)
  rw [upd_upd, upd_eq hH'] at r2
  exact r2
section
variable {B : B0} {X : Cx} {e : Expr} {es : List Expr} {δ : St'} {Ψ : PE1} {p pos : Pos} {k k' : Nat} {ps : List Str} {x : Str}
/-- f(e, .., known), known such a dict of our own -/
theorem de_fT {S : SpT} (j : Nat) (G : Fn X.prog X.w X.K X.mg X.base x k ps (spT X.prog X.w X.K S)) (hr : Room k' X.A) (h : DAL B X (e :: es) j δ fun ds δ' => ∃ a kvs, δ'.s[j]? = some (some (tdC X.prog X.w a kvs)) ∧ S kvs ds fun y kvs' => Ψ y (δ'.put j (tdC X.prog X.w a kvs'))) (hk : k ≤ k' := by decide)
    (hg : Gl X x := by rfl) (hdb : (x == ("__debug__" : Str)) = false := by decide) (he : starEach (e :: es) X.env = (false, eval e X.env) :: starEach es X.env := by rfl) (hpl : (backTo pos (starEach es X.env)).any (·.1) = false := by rfl) :
    DE B X (.Call (.Name x p) (e :: es) [] pos) δ Ψ := by
  obtain ⟨f, fd, h1, h2, h3, h4⟩ := G.ex
  refine .of (pe_call h4 (hr.mono hk) hg h1 h2 h3 .nil pass0 pa_w hdb he hpl) fun σ F H r Q q => h σ F H r _ fun vs u ds δ' F' H' e1 r' d hu ⟨a, kvs, hj, hS⟩ => ?_
  obtain ⟨es, hσ, hB, hF, hH, hE, hK⟩ := cell_td r' hj
  rw [hu] at hσ
  have : u = .ref a := by injection hσ with z; injection z
  subst this
  refine ⟨F', a, vs, ds, es, kvs, _, by simp, r'.ex, hF, hH, hE, d, hS, fun v y es' kvs' F2 H2 q1 q2 q3 q4 q5 q6 q7 q8 => ?_⟩
  exact q v y _ F2 H2 (e1.trans q1) (r'.calledT hj q1 q2 q3 q4 q5 q6) q7 q8
end
end DL
set_option maxHeartbeats 200000
set_option Elab.async false
set_option linter.all false
set_option maxRecDepth 100000
set_option maxHeartbeats 4000000
namespace K3
open PySem PySem.Spec PyProof.Rows L2 DL
open PySem.W (alike alikeAll dataLt dataLe AllAlike Sortable EachIs keyToks keyToksAll lex_pre)
variable {P : Program} {w : World} {K : PySem.W.Frag} {mg : Str → Option Value} {base : Heap} {f : Addr} {fd : FuncData} {k : Nat}
def isEvB : PyData → Bool
  | .tuple [.str k, .str o, .str wd] => if k = ("say" : Str) then isNmB o && isNmB wd else decide (k = ("hear" : Str)) && (isNmB o && (isNmB wd || decide (wd = flt)))
  | _ => false
structure AskE (d : PyData) : Prop where
  nd : noD d = true
  three : ∀ xs, d = .tuple xs → xs.length = 3 → ∃ a b c : Str, xs = [.str a, .str b, .str c] ∧ a.length ≤ 1000 ∧ b.length ≤ 1000 ∧ c.length ≤ 1000
def S_is_event : SpD := fun ds Φ => ∃ d, ds = [d] ∧ AskE d ∧ Φ (.bool (isEvB d))
theorem isEvB_no {d : PyData} (h : ∀ xs, d = .tuple xs → xs.length ≠ 3) : isEvB d = false := by
  unfold isEvB
  split
  · exact absurd rfl (h _ rfl)
  · rfl
theorem ok_is_event (T : Tx mg) (GN : Fn P w K mg base "is_name" 1 ["thing"] (spD K S_is_name)) (F : Fd K "is_event" s_is_event [] [] f fd) : FnOk P w K mg base CX0 2 f fd ["thing"] (spD K S_is_event) := by
  refine fnD F sc_is_event (fun ds Φ h => by obtain ⟨_, rfl, _⟩ := h; rfl) (fun B cdv A outer s H E ds Φ hr hp hS => ?_)
  obtain ⟨d, rfl, ha, hΦ⟩ := hS
  have nd := sc_is_event.nd
  obtain ⟨t, ht⟩ := T.fault
  refine ds_cons (ds_if (dt_pw (dw_or (dt_not (dt_val (de_isi T.isi T.tup (.inl rfl) (by decide +kernel) (de_nm 0 ⟨ha.nd, _, rfl, ?_⟩)))))))
  by_cases ht3 : ∃ xs, d = .tuple xs ∧ xs.length = 3
  · obtain ⟨xs, rfl, hl⟩ := ht3
    obtain ⟨a, b, c, rfl, h1, h2, h3⟩ := ha.three xs rfl hl
    refine iteF (dw_or1 (dt_cmp op_ne (de_callB call_len T.len boot_len (da_cons (de_nm 0 (da_nil (rc_lenT rfl (de_int (rd_neI ⟨_, rfl, ?_⟩)))))))))
    refine iteF (ds_nil ?_)
    refine ds_cons (ds_unpack [1, 2, 3] (pg_three 1 2 3 nd) (de_nm 0 (wg_tup (wgs_cons (wg_name (wgs_cons (wg_name (wgs_cons (wg_name (wgs_nil ?_))))))))))
    refine ds_cons (ds_if (dt_cmp op_eq (de_nm 1 (de_str (rd_eqS ⟨_, rfl, ?_⟩)))))
    have hv : isEvB (.tuple [.str a, .str b, .str c]) = if a = ("say" : Str) then isNmB b && isNmB c else decide (a = ("hear" : Str)) && (isNmB b && (isNmB c || decide (c = flt))) := rfl
    rw [hv] at hΦ
    by_cases e : a = ("say" : Str)
    · rw [decide_eq_true e]
      rw [if_pos e] at hΦ
      refine iteT (ds_last (ds_ret (de_and (de_f (k' := 1) GN hr (da_cons (de_nm 2 (da_nil ⟨b, rfl, h2, _, rfl, ?_⟩)))))))
      cases g : isNmB b with
      | false => rw [g] at hΦ; exact iteF hΦ
      | true => rw [g] at hΦ; exact iteT (de_one (de_f (k' := 1) GN hr (da_cons (de_nm 3 (da_nil ⟨c, rfl, h3, hΦ⟩)))))
    · rw [decide_eq_false e]
      rw [if_neg e] at hΦ
      refine iteF (ds_nil (ds_last (ds_ret (de_and (de_cmp op_eq (de_nm 1 (de_str (rd_eqS ⟨_, rfl, ?_⟩))))))))
      by_cases e2 : a = ("hear" : Str)
      · rw [decide_eq_true e2]
        rw [decide_eq_true e2] at hΦ
        refine iteT (de_and (de_f (k' := 1) GN hr (da_cons (de_nm 2 (da_nil ⟨b, rfl, h2, _, rfl, ?_⟩)))))
        cases g : isNmB b with
        | false => rw [g] at hΦ; exact iteF hΦ
        | true =>
          rw [g] at hΦ
          refine iteT (de_one (de_or (de_f (k' := 1) GN hr (da_cons (de_nm 3 (da_nil ⟨c, rfl, h3, _, rfl, ?_⟩))))))
          cases g2 : isNmB c with
          | true => rw [g2] at hΦ; exact iteT hΦ
          | false =>
            rw [g2] at hΦ
            exact iteF (de_one (de_cmp op_eq (de_nm 3 (de_glob (v := .str flt) ht ⟨_, rfl⟩ (fun _ => .str _) (rd_eqS hΦ)))))
      · rw [decide_eq_false e2]
        rw [decide_eq_false e2] at hΦ
        exact iteF hΦ
  · have hno := isEvB_no (d := d) fun xs h1 h2 => ht3 ⟨xs, h1, h2⟩
    rw [hno] at hΦ
    cases d with
    | tuple xs =>
      refine iteF (dw_or1 (dt_cmp op_ne (de_callB call_len T.len boot_len (da_cons (de_nm 0 (da_nil (rc_lenT rfl (de_int (rd_neI ⟨_, rfl, ?_⟩)))))))))
      have : ¬ ((xs.length : Nat) : Int) = 3 := fun z => ht3 ⟨xs, rfl, by omega⟩
      rw [decide_eq_false this]
      exact iteT (ds_last (ds_ret (de_bl hΦ)))
    | _ => exact iteT (ds_last (ds_ret (de_bl hΦ)))
def VwE (e : St3) : Prop := (e.1 = ("say" : Str) ∧ IsNm e.2.1 ∧ IsNm e.2.2) ∨ (e.1 = ("hear" : Str) ∧ IsNm e.2.1 ∧ (IsNm e.2.2 ∨ e.2.2 = flt))
theorem VwE.ev {e : St3} (h : VwE e) : isEvB (s3D e) = true := by
  show (if e.1 = ("say" : Str) then isNmB e.2.1 && isNmB e.2.2 else decide (e.1 = ("hear" : Str)) && (isNmB e.2.1 && (isNmB e.2.2 || decide (e.2.2 = flt)))) = true
  rcases h with ⟨h1, h2, h3⟩ | ⟨h1, h2, h3⟩
  · rw [if_pos h1, isNmB_iff.mpr h2, isNmB_iff.mpr h3]; rfl
  · rw [if_neg (by rw [h1]; decide), decide_eq_true h1, isNmB_iff.mpr h2]
    rcases h3 with h3 | h3
    · rw [isNmB_iff.mpr h3]; rfl
    · rw [decide_eq_true h3]; simp
theorem VwE.len {e : St3} (h : VwE e) : e.1.length ≤ 8 ∧ e.2.1.length ≤ 8 ∧ e.2.2.length ≤ 8 := by
  have h3 : IsNm e.2.2 ∨ e.2.2 = flt := by
    rcases h with ⟨_, _, h⟩ | ⟨_, _, h⟩
    · exact .inl h
    · exact h
  have l3 : e.2.2.length ≤ 8 := by
    rcases h3 with h3 | h3
    · exact h3.l2
    · rw [h3]; decide
  rcases h with ⟨h1, h2, _⟩ | ⟨h1, h2, _⟩
  · exact ⟨by rw [h1]; decide, h2.l2, l3⟩
  · exact ⟨by rw [h1]; decide, h2.l2, l3⟩
theorem VwE.ask {e : St3} (h : VwE e) : AskE (s3D e) := ⟨rfl, fun xs z _ => by
  cases z
  have := h.len
  exact ⟨e.1, e.2.1, e.2.2, rfl, by omega, by omega, by omega⟩⟩
def tBool : Bool → PyData := fun b => .bool b
def S_is_new_event : DL.SpT := fun kvs ds Φ => ∃ e h, ds = [s3D e, .str h, .none] ∧ VwE e ∧ e.2.1 ≠ h ∧ kvs.length ≤ 900 ∧ Φ (.bool true) (putTD kvs (tk3 e) (.bool true))
theorem ok__is_new_event (GE : Fn P w K mg base "is_event" 2 ["thing"] (spD K S_is_event)) (F : Fd K "_is_new_event" s__is_new_event [] [] f fd) : FnOk P w K mg base CX0 3 f fd ["event", "hand", "hands", "known"] (DL.spT P w K S_is_new_event) := by
  refine fnT F sc__is_new_event (fun kvs ds Φ h => by obtain ⟨_, _, rfl, _⟩ := h; rfl) (fun B cdv A outer s H E p kvs ds Φ hr hp hS => ?_)
  obtain ⟨e, h, rfl, he, hne, hl, hΦ⟩ := hS
  have hu := room1 hr
  refine ds_cons (ds_if (dt_pw (dw_or (dt_not (dt_val (de_f (k' := 2) GE hr (da_cons (de_nm 0 (da_nil ⟨s3D e, rfl, he.ask, _, rfl, ?_⟩)))))))))
  rw [he.ev]
  refine iteF (dw_or (dt_cmp op_eq (de_ix ix_tup (de_nm 0 (de_int (rd_ixT (z := .str e.2.1) rfl (de_nm 1 (rd_eqS ⟨_, rfl, ?_⟩))))))))
  rw [decide_eq_false hne]
  refine iteF (dw_or1 (dt_pw (dw_and (dt_cmp op_notN (de_nm 2 (de_non (rd_notN ⟨_, rfl, ?_⟩)))))))
  refine iteF (iteF (ds_nil ?_))
  refine ds_cons (ds_tput 3 hu (de_bl (de_nm 0 ⟨p, kvs, tk3 e, rfl, rfl, by omega, ?_⟩)))
  exact ds_last (ds_ret (de_bl ⟨_, rfl, hΦ⟩))
structure EndOk (h : Str) (sts : List (List (St3 × Nat))) (es : List St3) : Prop where
  hn : IsNm h
  l1 : 1 ≤ sts.length
  l2 : sts.length ≤ 100
  el : es.length ≤ 900
  rw : ∀ row ∈ sts, row.length ≤ 1000 ∧ (row.map (·.1)).Pairwise lt3 ∧ ∀ r ∈ row, VwE r.1 ∧ r.1.2.1 ≠ h ∧ r.2 < sts.length ∧ r.1 ∈ es
def knw (ks : List St3) : KvT := kvL tBool (ks.map fun e => (e, true))
theorem knw_has {ks : List St3} {e : St3} (nd : ks.Nodup) : (getT (knw ks) (tk3 e)).isSome = decide (e ∈ ks) := by
  unfold knw
  rw [kvL_get, Option.isSome_map]
  have hk : (ks.map fun e => (e, true)).map (·.1) = ks := by rw [List.map_map]; exact List.map_id _
  have := look3_isSome (l := ks.map fun e => (e, true)) (e := e) (by rw [hk]; exact nd)
  rw [hk] at this
  by_cases h : e ∈ ks
  · rw [decide_eq_true h]; exact this.mpr h
  · rw [decide_eq_false h]
    cases g : (look3 (ks.map fun e => (e, true)) e).isSome with
    | true => exact absurd (this.mp g) h
    | false => rfl
theorem knw_put {ks : List St3} {e : St3} (nd : ks.Nodup) (h : e ∉ ks) : putTD (knw ks) (tk3 e) (.bool true) = knw (ks ++ [e]) := by
  have hg : (getT (knw ks) (tk3 e)).isSome = false := by rw [knw_has nd, decide_eq_false h]
  unfold putTD
  rw [hg, if_neg (by decide)]
  unfold knw kvL
  rw [List.map_append, List.map_append]
  rfl
def lastE (row : List (St3 × Nat)) : PyData := match row.getLast? with
  | none => .tuple []
  | some r => s3D r.1
structure KsOk (es ks : List St3) : Prop where
  nd : ks.Nodup
  sub : ∀ e ∈ ks, e ∈ es
theorem KsOk.len {es ks : List St3} (h : KsOk es ks) : ks.length ≤ es.length := pig ks es h.nd h.sub
abbrev envX (P : Program) (w : World) (h : Str) (sts : List (List (St3 × Nat))) (a : Addr) (ks : List St3) (r : List (Option C)) : St' :=
  ⟨0, [some (.d (endD h sts)), some (.d .none), some (.d (.str h)), some (.d (.tuple (sts.map stD))), some (.d (natD sts.length)), some (tdC P w a (knw ks))] ++ r⟩
theorem last_lt {row : List (St3 × Nat)} {j : Nat} {r : St3 × Nat} (hr : (row.map (·.1)).Pairwise lt3) (hj : row[j]? = some r) : dataLt (lastE (row.take j)) (s3D r.1) = true ∧ alike (lastE (row.take j)) (s3D r.1) = true ∧ lastE (row.take j) ≠ .none ∧ (lastE (row.take j)).depth ≤ 60 ∧ noH (lastE (row.take j)) = true := by
  cases j with
  | zero =>
    refine ⟨?_, ?_, ?_, ?_, ?_⟩
    · show dataLt (.tuple []) (s3D r.1) = true
      rfl
    · show alike (.tuple []) (s3D r.1) = true
      rfl
    · intro z; cases z
    · show 1 ≤ 60
      decide
    · rfl
  | succ j =>
    have hlt := (List.getElem?_eq_some_iff.mp hj).1
    have hq : row[j]? = some row[j] := List.getElem?_eq_getElem (by omega)
    have e : lastE (row.take (j + 1)) = s3D row[j].1 := by
      unfold lastE
      rw [take_snoc hq, List.getLast?_append]
      rfl
    rw [e]
    have hp := List.pairwise_iff_getElem.mp hr j (j + 1) (by rw [List.length_map]; omega) (by rw [List.length_map]; exact hlt) (Nat.lt_succ_self j)
    rw [List.getElem_map, List.getElem_map] at hp
    have he : row[j + 1] = r := (List.getElem?_eq_some_iff.mp hj).2
    rw [he] at hp
    exact ⟨hp, alike3 _ _, (fun z => by cases z), (by show 1 ≤ 60; decide), rfl⟩
end K3
namespace DL
open PySem PySem.Spec PyProof.Rows L2
theorem pg_four {X : Cx} {x y z u : Str} {px py pz pu pos : Pos} {k : Nat} (i j l m : Nat) (nd : X.N.Nodup) (hc : X.calm = true := by rfl) (hi : X.N[i]? = some x := by rfl) (hx : Loc X.env.scope x := by first | exact .inl rfl | exact .inr rfl)
    (hf : X.fn x = true ∨ X.env.scope.names.lookup x = some .local := by first | exact .inl rfl | exact .inr rfl) (hj : X.N[j]? = some y := by rfl) (hy : Loc X.env.scope y := by first | exact .inl rfl | exact .inr rfl)
    (hg : X.fn y = true ∨ X.env.scope.names.lookup y = some .local := by first | exact .inl rfl | exact .inr rfl) (hl : X.N[l]? = some z := by rfl) (hz : Loc X.env.scope z := by first | exact .inl rfl | exact .inr rfl)
    (hh : X.fn z = true ∨ X.env.scope.names.lookup z = some .local := by first | exact .inl rfl | exact .inr rfl) (hm : X.N[m]? = some u := by rfl) (hu : Loc X.env.scope u := by first | exact .inl rfl | exact .inr rfl)
    (hq : X.fn u = true ∨ X.env.scope.names.lookup u = some .local := by first | exact .inl rfl | exact .inr rfl) : PG X (.Tuple [.Name x px, .Name y py, .Name z pz, .Name u pu] k pos) (gTup X.K 4 (gCons (gName i) (gCons (gName j) (gCons (gName l) (gCons (gName m) gNil))))) :=
  pg_tup hc (pgs_cons (pg_name nd hi hx hf) (pgs_cons (pg_name nd hj hy hg) (pgs_cons (pg_name nd hl hz hh) (pgs_cons (pg_name nd hm hu hq) pgs_nil))))
end DL
namespace K3
open PySem PySem.Spec PyProof.Rows L2 DL
variable {P : Program} {w : World} {K : PySem.W.Frag} {mg : Str → Option Value} {base : Heap} {f : Addr} {fd : FuncData} {k : Nat}
def S_is_end_among : SpD := fun ds Φ => ∃ h sts es, ds = [endD h sts, .none] ∧ EndOk h sts es ∧ Φ (.bool true)
theorem ok_is_end_among (T : Tx mg) (hME : ∃ t, mg "MOST_OF_END" = some (.int 100 t)) (GN : Fn P w K mg base "is_name" 1 ["thing"] (spD K S_is_name)) (GT : Fn P w K mg base "is_tuple_of" 1 ["thing", "least", "most"] (spD K S_is_tuple_of))
    (GE : Fn P w K mg base "_is_new_event" 3 ["event", "hand", "hands", "known"] (DL.spT P w K S_is_new_event)) (F : Fd K "is_end_among" s_is_end_among [] [] f fd) : FnOk P w K mg base CX0 4 f fd ["thing", "hands"] (spD K S_is_end_among) := by
  refine fnD F sc_is_end_among (fun ds Φ h => by obtain ⟨_, _, _, rfl, _⟩ := h; rfl) (fun B cdv A outer s H E ds Φ hr hp hS => ?_)
  obtain ⟨h, sts, es, rfl, hE, hΦ⟩ := hS
  obtain ⟨tE, hME⟩ := hME
  have nd := sc_is_end_among.nd
  have hu := room1 hr
  have hl1 := hE.l1
  have hl2 := hE.l2
  have hnl := hE.hn.l2
  refine ds_cons (ds_if (dt_pw (dw_or (dt_not (dt_val (de_isi T.isi T.tup (.inl rfl) boot_tuple (de_nm 0 ⟨rfl, _, rfl, ?_⟩)))))))
  refine iteF (dw_or1 (dt_cmp op_ne (de_callB call_len T.len boot_len (da_cons (de_nm 0 (da_nil (rc_lenT rfl (de_int (rd_neI ⟨_, rfl, ?_⟩)))))))))
  refine iteF (ds_nil ?_)
  refine ds_cons (ds_unpack [2, 3] (pg_two 2 3 nd) (de_nm 0 (wg_tup (wgs_cons (wg_name (wgs_cons (wg_name (wgs_nil ?_))))))))
  refine ds_cons (ds_if (dt_pw (dw_or (dt_not (dt_val (de_f (k' := 3) GN hr (da_cons (de_nm 2 (da_nil ⟨h, rfl, by omega, _, rfl, ?_⟩)))))))))
  rw [isNmB_iff.mpr hE.hn]
  refine iteF (dw_or1 (dt_not (dt_val (de_f (k' := 3) GT hr (da_cons (de_nm 3 (da_cons (de_int (da_cons (de_glob (v := .int 100) hME ⟨_, rfl⟩ (fun _ => .int _) (da_nil ⟨.tuple (sts.map stD), 1, 100, rfl, rfl, _, rfl, ?_⟩)))))))))))
  have e0 : isTupM (.tuple (sts.map stD)) 1 100 = true := isTup_tup (by rw [List.length_map]; omega) (by rw [List.length_map]; omega)
  rw [e0]
  refine iteF (ds_nil ?_)
  refine ds_cons (ds_set 4 (de_callB call_len T.len boot_len (da_cons (de_nm 3 (da_nil (rc_lenT rfl ?_))))) nd)
  refine ds_cons (ds_tnew 5 (fun a => ?_) nd)
  rw [List.length_map]
  refine ds_cons (ds_for [6] (pi_tup pe_w) (pg_name (i := 6) nd rfl (.inl rfl)) (wi_tup (de_nm 3 ⟨sts.map stD, rfl, fun i δ => ∃ ks c6 c7 c8 c9 c10 c11 c12 c13, δ = envX P w h sts a ks [c6, c7, c8, c9, c10, c11, c12, c13] ∧ KsOk es ks, ⟨[], none, none, none, none, none, none, none, none, rfl, ⟨List.nodup_nil, fun e he => by cases he⟩⟩, fun i y δ hy hI => ?_, fun δ hI => ?_⟩)))
  · obtain ⟨ks, c6, c7, c8, c9, c10, c11, c12, c13, rfl, hK⟩ := hI
    obtain ⟨row, hrow, rfl⟩ := List.mem_map.mp (List.mem_of_getElem? hy)
    obtain ⟨hrl, hrs, hrr⟩ := hE.rw row hrow
    refine wg_name ?_
    refine ds_cons (ds_if (dt_not (dt_val (de_isi T.isi T.tup (.inl rfl) boot_tuple (de_nm 6 ⟨rfl, _, rfl, ?_⟩)))))
    refine iteF (ds_nil ?_)
    refine ds_cons (ds_set 7 (de_tup (da_nil ⟨by simp, ?_⟩)) nd)
    refine ds_last (ds_for [8] (pi_tup pe_w) (pg_name (i := 8) nd rfl (.inl rfl)) (wi_tup (de_nm 6 ⟨row.map rowD, rfl, fun j δ => ∃ ks c8 c9 c10 c11 c12 c13, δ = envX P w h sts a ks [some (.d (stD row)), some (.d (lastE (row.take j))), c8, c9, c10, c11, c12, c13] ∧ KsOk es ks, ⟨ks, c8, c9, c10, c11, c12, c13, rfl, hK⟩, fun j y δ hy hJ => ?_, fun δ hJ => ?_⟩)))
    · obtain ⟨ks, c8, c9, c10, c11, c12, c13, rfl, hK⟩ := hJ
      rw [List.getElem?_map, Option.map_eq_some_iff] at hy
      obtain ⟨r, hj, rfl⟩ := hy
      obtain ⟨hv, hne, hnt, hes⟩ := hrr r (List.mem_of_getElem? hj)
      obtain ⟨l1, l2, l3, l4, l5⟩ := last_lt hrs hj
      have hkl := hK.len
      have hel := hE.el
      refine wg_name ?_
      refine ds_cons (ds_if (dt_pw (dw_or (dt_not (dt_val (de_isi T.isi T.tup (.inl rfl) boot_tuple (de_nm 8 ⟨rfl, _, rfl, ?_⟩)))))))
      refine iteF (dw_or1 (dt_cmp op_ne (de_callB call_len T.len boot_len (da_cons (de_nm 8 (da_nil (rc_lenT rfl (de_int (rd_neI ⟨_, rfl, ?_⟩)))))))))
      refine iteF (ds_nil ?_)
      refine ds_cons (ds_unpack [9, 10, 11, 12] (pg_four 9 10 11 12 nd) (de_nm 8 (wg_tup (wgs_cons (wg_name (wgs_cons (wg_name (wgs_cons (wg_name (wgs_cons (wg_name (wgs_nil ?_))))))))))))
      refine ds_cons (ds_if (dt_pw (dw_or (dt_not (dt_val (de_isi T.isi T.str (.inr (.inl rfl)) boot_str (de_nm 9 ⟨rfl, _, rfl, ?_⟩)))))))
      refine iteF (dw_or (dt_not (dt_val (de_isi T.isi T.str (.inr (.inl rfl)) boot_str (de_nm 10 ⟨rfl, _, rfl, ?_⟩)))))
      refine iteF (dw_or1 (dt_not (dt_val (de_isi T.isi T.str (.inr (.inl rfl)) boot_str (de_nm 11 ⟨rfl, _, rfl, ?_⟩)))))
      refine iteF (ds_nil ?_)
      refine ds_cons (ds_set 13 (de_tup (da_cons (de_nm 9 (da_cons (de_nm 10 (da_cons (de_nm 11 (da_nil ⟨by simp, ?_⟩)))))))) nd)
      have rest : ∀ ks' : List St3, KsOk es ks' → DSs B (bodyX P w K mg base n_is_end_among "is_end_among" (defScope s_is_end_among) f cdv A outer s H E) ((forBv ((forBv ((defBody s_is_end_among).getD 5 (.Pass ⟨0, 0, 0, 0⟩))).getD 2 (.Pass ⟨0, 0, 0, 0⟩))).drop 5)
          (envX P w h sts a ks' [some (.d (stD row)), some (.d (lastE (row.take j))), some (.d (rowD r)), some (.d (.str r.1.1)), some (.d (.str r.1.2.1)), some (.d (.str r.1.2.2)), some (.d (natD r.2)), some (.d (s3D r.1))])
          (fun δ => ∃ ks c8 c9 c10 c11 c12 c13, δ = envX P w h sts a ks [some (.d (stD row)), some (.d (lastE (row.take (j + 1)))), c8, c9, c10, c11, c12, c13] ∧ KsOk es ks) fun x _ => Φ x := fun ks' hK' => by
        refine ds_cons (ds_if (dt_pw (dw_or (dt_not (dt_val (de_isi T.isi T.int (.inr (.inr (.inl rfl))) boot_int (de_nm 12 ⟨rfl, _, rfl, ?_⟩)))))))
        refine iteF (dw_or (dt_cmp op_isBl1 (de_nm 12 (de_bl (rd_isBi ⟨_, rfl, ?_⟩)))))
        refine iteF (dw_or (dt_cmp op_isBl1 (de_nm 12 (de_bl (rd_isBi ⟨_, rfl, ?_⟩)))))
        refine iteF (dw_or1 (dt_not (dt_chain op_le op_lt (de_int (de_nm 12 (rd_B0 ⟨_, rfl, ?_⟩))))))
        rw [decide_eq_true (by omega)]
        refine iteT (de_nm 4 (rd_B0 ⟨_, rfl, ?_⟩))
        rw [decide_eq_true (by omega)]
        refine iteF (ds_nil ?_)
        refine ds_cons (ds_if (dt_not (dt_cmp (op_ltD hr.units) (de_nm 7 (de_nm 13 (rd_ltD l5 rfl l2 l3 l4 ⟨_, rfl, ?_⟩))))))
        rw [l1]
        refine iteF (ds_nil (ds_last (ds_set 7 (de_nm 13 ⟨ks', some (.d (rowD r)), some (.d (.str r.1.1)), some (.d (.str r.1.2.1)), some (.d (.str r.1.2.2)), some (.d (natD r.2)), some (.d (s3D r.1)), ?_, hK'⟩) nd)))
        have e : lastE (row.take (j + 1)) = s3D r.1 := by
          unfold lastE
          rw [take_snoc hj, List.getLast?_append]
          rfl
        rw [e]
        rfl
      refine ds_cons (ds_if (dt_pw (dw_and (dt_tnotin 5 hu (de_nm 13 ⟨a, knw ks, tk3 r.1, rfl, rfl, ?_⟩)))))
      rw [knw_has hK.nd]
      by_cases hin : r.1 ∈ ks
      · rw [decide_eq_true hin]
        exact iteF (iteF (ds_nil (rest ks hK)))
      · rw [decide_eq_false hin]
        refine iteT (dw_and1 (dt_not (dt_val (de_fT (k' := 3) 5 GE hr (dal_cons (de_nm 13 (dal_cons (de_nm 2 (dal_cons (de_nm 1 (dal_last ⟨a, knw ks, rfl, r.1, h, rfl, hv, hne, ?_, _, rfl, ?_⟩)))))))))))
        · unfold knw kvL
          rw [List.length_map, List.length_map]
          omega
        rw [knw_put hK.nd hin]
        refine iteF (ds_nil (rest (ks ++ [r.1]) ⟨?_, fun e he => ?_⟩))
        · exact List.nodup_append.mpr ⟨hK.nd, by simp, fun x hx y hy => by
            cases List.mem_singleton.mp hy
            exact fun z => hin (by rw [← z]; exact hx)⟩
        · rcases List.mem_append.mp he with he | he
          · exact hK.sub e he
          · cases List.mem_singleton.mp he
            exact hes
    · obtain ⟨ks, c8, c9, c10, c11, c12, c13, rfl, hK⟩ := hJ
      exact ⟨ks, some (.d (stD row)), _, _, _, _, _, _, _, rfl, hK⟩
  · obtain ⟨ks, c6, c7, c8, c9, c10, c11, c12, c13, rfl, hK⟩ := hI
    exact ds_last (ds_ret (de_bl hΦ))
def S_is_end : SpD := fun ds Φ => ∃ h sts es, ds = [endD h sts] ∧ EndOk h sts es ∧ Φ (.bool true)
theorem ok_is_end (G : Fn P w K mg base "is_end_among" 4 ["thing", "hands"] (spD K S_is_end_among)) (F : Fd K "is_end" s_is_end [] [] f fd) : FnOk P w K mg base CX0 5 f fd ["thing"] (spD K S_is_end) := by
  refine fnD F sc_is_end (fun ds Φ h => by obtain ⟨_, _, _, rfl, _⟩ := h; rfl) (fun B cdv A outer s H E ds Φ hr hp hS => ?_)
  obtain ⟨h, sts, es, rfl, hE, hΦ⟩ := hS
  exact ds_last (ds_ret (de_f (k' := 4) G hr (da_cons (de_nm 0 (da_cons (de_non (da_nil ⟨h, sts, es, rfl, hE, hΦ⟩)))))))
def S_check_end : SpD := fun ds Φ => ∃ h sts es, ds = [endD h sts] ∧ EndOk h sts es ∧ Φ .none
theorem ok_check_end (G : Fn P w K mg base "is_end" 5 ["thing"] (spD K S_is_end)) (F : Fd K "check_end" s_check_end [] [] f fd) : FnOk P w K mg base CX0 6 f fd ["end"] (spD K S_check_end) := by
  refine fnD F sc_check_end (fun ds Φ h => by obtain ⟨_, _, _, rfl, _⟩ := h; rfl) (fun B cdv A outer s H E ds Φ hr hp hS => ?_)
  obtain ⟨h, sts, es, rfl, hE, hΦ⟩ := hS
  refine ds_last (ds_if (dt_not (dt_val (de_f (k' := 5) G hr (da_cons (de_nm 0 (da_nil ⟨h, sts, es, rfl, hE, _, rfl, ?_⟩)))))))
  exact iteF (ds_nil hΦ)
end K3
set_option maxHeartbeats 200000
set_option Elab.async false
set_option linter.all false
set_option maxRecDepth 100000
set_option maxHeartbeats 4000000
namespace K3
open PySem PySem.Spec PyProof.Rows L2 DL
open PySem.W (alike alikeAll dataLt dataLe AllAlike Sortable EachIs keyToks keyToksAll lex_pre)
variable {P : Program} {w : World} {K : PySem.W.Frag} {mg : Str → Option Value} {base : Heap} {f : Addr} {fd : FuncData} {k : Nat}
def S_law_take : SpP := fun n ds Φ => ∃ many : Int, ds = [.int many] ∧ 0 < many ∧ many < 1073741824 ∧ n < 1099511627776 ∧ ∀ d : Int, 0 ≤ d → d < many → Φ (.int d) (n + 1)
theorem ok__law_take (F : Fd K "_law_take" s__law_take [] [] f fd) : FnOk P w K mg base CX0 1 f fd ["pot", "many"] (spP K S_law_take) := by
  refine fnP F sc__law_take (fun n ds Φ h => by obtain ⟨_, rfl, _⟩ := h; rfl) (fun B cdv A outer s H E n ds Φ hr hp hS => ?_)
  obtain ⟨many, rfl, hm, hm2, hn, hΦ⟩ := hS
  have nd := sc__law_take.nd
  refine ds_cons (ds_if (dt_cmp op_gt (de_pot0 0 fun v => de_int (rd_B0 ⟨_, rfl, ?_⟩))))
  by_cases hv : (0 : Int) < v
  · rw [decide_eq_true hv]
    refine iteT (ds_cons (ds_set 2 (de_bin op_mod (de_pot0 0 fun v1 => de_nm 1 (rd_I hm ?_))) nd))
    refine ds_cons (ds_pot0 0 (de_bin op_fdiv (de_pot0 0 fun v2 => de_nm 1 (rd_I ⟨hm, hm2⟩ ⟨_, rfl, rfl, ?_⟩))))
    refine dss_bump (n + 1) (Nat.le_succ n) (ds_last (ds_ret (de_nm 2 ?_)))
    exact hΦ _ (mod_in hm).1 (mod_in hm).2
  · rw [decide_eq_false hv]
    refine iteF (ds_nil ?_)
    refine ds_cons (ds_set 3 (de_bin op_add (de_pot2 0 fun z hz0 hz1 => de_int (rd_I0 ?_))) nd)
    have hz1 : z ≤ (n : Int) := hz1
    refine ds_cons (ds_pot2 0 (de_nm 3 ⟨z + 1, n + 1, rfl, rfl, by omega, by push_cast; omega, ?_⟩))
    refine ds_cons (ds_set 4 ?_ nd)
    refine de_bin op_mod (de_bin op_add (de_bin op_add (de_pot1 0 fun v1 => de_bin op_mul (de_bin op_mul (de_int (de_nm 3 (rd_I (.inl ⟨by decide, by decide⟩) (de_nm 3 (rd_I ?_ (rd_I0 (de_bin op_mul (de_int (de_nm 3 (rd_I (.inl ⟨by decide, by decide⟩) (rd_I0 (de_int (rd_I (by decide) ?_)))))))))))))))))
    · exact .inr ⟨by omega, by omega⟩
    generalize ho : (v1 + 48271 * (z + 1) * (z + 1) + 11 * (z + 1)) % 2147483587 = one
    have ho1 : 0 ≤ one ∧ one < 2147483587 := ho ▸ mod_in (by decide)
    refine ds_cons (ds_set 4 ?_ nd)
    refine de_bin op_mod (de_bin op_add (de_bin op_mul (de_nm 4 (de_nm 4 (rd_I ?_ (de_bin op_mul (de_int (de_nm 3 (rd_I (.inl ⟨by decide, by decide⟩) (rd_I0 (de_int (rd_I (by decide) ?_))))))))))))
    · exact .inl ⟨by omega, by omega⟩
    generalize ho2 : (one * one + 69621 * (z + 1)) % 2147483563 = one2
    have ho3 : 0 ≤ one2 ∧ one2 < 2147483563 := ho2 ▸ mod_in (by decide)
    refine ds_cons (ds_set 5 ?_ nd)
    refine de_bin op_mod (de_bin op_add (de_bin op_add (de_bin op_mul (de_nm 4 (de_nm 4 (rd_I ?_ (de_bin op_mul (de_int (de_nm 3 (rd_I (.inl ⟨by decide, by decide⟩) (rd_I0 (de_int (rd_I0 (de_int (rd_I (by decide) ?_)))))))))))))))
    · exact .inl ⟨by omega, by omega⟩
    generalize ht : (one2 * one2 + 40961 * (z + 1) + 5) % 2147483549 = two
    have ht1 : 0 ≤ two ∧ two < 2147483549 := ht ▸ mod_in (by decide)
    refine ds_last (ds_ret ?_)
    refine de_bin op_mod (de_bin op_fdiv (de_bin op_mod (de_bin op_mul (de_nm 5 (de_nm 5 (rd_I ?_ (de_int (rd_I (by decide) (de_int (rd_I ⟨by decide, by decide⟩ (de_nm 1 (rd_I hm ?_))))))))))))
    · exact .inl ⟨by omega, by omega⟩
    exact hΦ _ (mod_in hm).1 (mod_in hm).2
def S_law_pot : SpO := fun ds Φ => ∃ (ns : List Int) (j : Nat), ds = [.list (ns.map PyData.int), natD j] ∧ ∀ x y : Int, Φ [.int x, .int y, .int 0]
theorem ok__law_pot (T : Tx mg) (F : Fd K "_law_pot" s__law_pot [] [] f fd) : FnOk P w K mg base CX0 1 f fd ["script", "k"] (spO K S_law_pot) := by
  refine fnO F sc__law_pot (fun ds Φ h => by obtain ⟨_, _, rfl, _⟩ := h; rfl) (fun B cdv A outer s H E ds Φ hr hp hS => ?_)
  obtain ⟨ns, j, rfl, hΦ⟩ := hS
  have nd := sc__law_pot.nd
  have rest : ∀ c : Int, DOs B (bodyX P w K mg base n__law_pot "_law_pot" (defScope s__law_pot) f cdv A outer s H E) ((defBody s__law_pot).drop 2) ⟨0, [some (.d (.list (ns.map PyData.int))), some (.d (natD j)), some (.d (.int c))]⟩ fun x _ => Φ x := fun c => by
    refine dos_ret (dl_lst (da_cons (de_callB (call_max2 rfl) T.max boot_max (da_cons (de_int (da_cons (de_bin op_sub (de_nm 2 (de_bin op_pow (de_int (de_int (rd_I ⟨by decide, by decide, by decide⟩ (rd_I0 (da_nil (rc_int2 (da_cons ?_))))))))))))))))
    refine de_bin op_add (de_bin op_add (de_bin op_mod (de_nm 2 (de_int (rd_I (by decide) (de_bin op_mul (de_int (de_nm 1 (rd_I (.inl ⟨by decide, by decide⟩) (rd_I0 (de_int (rd_I0 (da_cons (de_int (da_nil ⟨by simp, hΦ _ _⟩)))))))))))))))
  refine dos_cons (ds_set 2 (de_int ?_) nd)
  refine dos_cons (ds_if (dt_cmp op_lt (de_nm 1 (de_callB call_len T.len boot_len (da_cons (de_nm 0 (da_nil (rc_lenL rfl (rd_B0 ⟨_, rfl, ?_⟩)))))))))
  rw [List.length_map]
  by_cases hj : j < ns.length
  · rw [decide_eq_true (by omega : ((j : Nat) : Int) < ((ns.length : Nat) : Int))]
    refine iteT (ds_last (ds_set 2 (de_ix ix_list (de_nm 0 (de_nm 1 (rd_ixL (z := .int ns[j]) ?_ (rest _))))) nd))
    rw [atI_nn (by omega), Int.toNat_natCast, List.getElem?_map, List.getElem?_eq_getElem hj]
    rfl
  · rw [decide_eq_false (by omega : ¬ ((j : Nat) : Int) < ((ns.length : Nat) : Int))]
    exact iteF (ds_nil (rest 0))
end K3
set_option maxHeartbeats 200000
set_option Elab.async false
set_option linter.all false
set_option maxRecDepth 100000
set_option maxHeartbeats 2000000
namespace DL
open PySem PySem.Spec PyProof.Rows L2
end DL
set_option maxHeartbeats 200000
set_option Elab.async false
set_option linter.all false
set_option maxRecDepth 100000
set_option maxHeartbeats 2000000
namespace DL
open PySem PySem.Spec PyProof.Rows L2
def unpot1 : Option C → Option C
  | some .pot => none | some .bor => none | c => c
def unpot (s : List (Option C)) : List (Option C) := s.map unpot1
theorem unpot_get {s : List (Option C)} {i : Nat} {c : C} (h : (unpot s)[i]? = some (some c)) : s[i]? = some (some c) ∧ c ≠ .pot ∧ c ≠ .bor := by
  unfold unpot at h
  rw [List.getElem?_map] at h
  cases q : s[i]? with
  | none => rw [q] at h; cases h
  | some z =>
    rw [q] at h
    injection h with h
    cases z with
    | none => cases h
    | some d =>
      cases d with
      | pot => cases h
      | bor => cases h
      | d x => cases h; exact ⟨rfl, (fun z => by cases z), fun z => by cases z⟩
      | own x => cases h; exact ⟨rfl, (fun z => by cases z), fun z => by cases z⟩
      | dct x => cases h; exact ⟨rfl, (fun z => by cases z), fun z => by cases z⟩
      | gen pa mk x => cases h; exact ⟨rfl, (fun z => by cases z), fun z => by cases z⟩
      | iset x => cases h; exact ⟨rfl, (fun z => by cases z), fun z => by cases z⟩
section
variable {B : B0} {X : Cx} {rest : List Stmt} {δ : St'} {N : St' → Prop} {R : PE1}
theorem dss_lend (i : Nat) {u v w : Int} (hBp : B.p = none) (hw : 0 ≤ w) (h : ∀ (B' : B0) (a : Addr), B'.p = some a → DSs B' X rest ⟨w.toNat, (inn [] 0 δ.s).set i (some .pot)⟩ (fun δ' => N ⟨δ.n, unpot δ'.s⟩) (fun x δ' => R x ⟨δ.n, unpot δ'.s⟩))
    (hi : δ.s[i]? = some (some (.own [.int u, .int v, .int w])) := by rfl) : DSs B X rest δ N R := fun σ F H r D hn hr => by
  obtain ⟨v0, hσ, a, us, rfl, hB, hF, hH, hd⟩ := r.cell i _ hi
  have hus : us = [.int u, .int v, .int w] := by
    cases hd with
    | cons d1 d2 => cases d2 with
      | cons d2 d3 => cases d3 with
        | cons d3 d4 => cases d4; cases d1; cases d2; cases d3; rfl
  subst hus
  have ri := r.inner []
  have hpot : PotAt none H a w.toNat := num_pot hH hw (by omega)
  have r2 : Rep ⟨⟨F, H, some a, none⟩, X.w, X.K⟩ ⟨w.toNat, (inn [] 0 δ.s).set i (some .pot)⟩ σ F H := by
    have noown : ∀ (j : Nat) (c : C), ((inn [] 0 δ.s).set i (some .pot))[j]? = some (some c) → own? c = true → False := fun j c hj ho => by
      by_cases e : i = j
      · subst e
        rw [List.getElem?_set_self' ] at hj
        cases q : (inn [] 0 δ.s)[i]? with
        | none => rw [q] at hj; cases hj
        | some z => rw [q] at hj; injection hj with hj; injection hj with hj; subst hj; cases ho
      · rw [List.getElem?_set_ne e] at hj
        obtain ⟨v, _, hc⟩ := ri.cell j c hj
        cases c with
        | d x => cases ho
        | pot => cases ho
        | bor => cases ho
        | own xs =>
          obtain ⟨b, vs, _, h1, _, h3, _⟩ := hc
          have h1' : H b = none := h1
          rw [h3] at h1'; cases h1'
        | dct xs =>
          obtain ⟨b, vs, _, h1, _, h3, _⟩ := hc
          have h1' : H b = none := h1
          rw [h3] at h1'; cases h1'
        | gen pa mk xs =>
          obtain ⟨b, vs, _, h1, _, h3, _⟩ := hc
          have h1' : H b = none := h1
          rw [h3] at h1'; cases h1'
        | iset xs =>
          obtain ⟨b, _, h1, _, h3⟩ := hc
          have h1' : H b = none := h1
          rw [h3] at h1'; cases h1'
    refine ⟨r.ex, Same.refl _, fun b h1 _ => h1, fun b o h _ => h, fun p h => ?_, fun j c hj => ?_, ?_, fun j j' c c' _ h1 _ o1 _ => (noown j c h1 o1).elim⟩
    · have h : some a = some p := h
      injection h with h
      subst h
      refine ⟨hF, ?_, hpot⟩
      show H a ≠ none
      rw [hH]
      exact fun z => by cases z
    · by_cases e : i = j
      · subst e
        rw [List.getElem?_set_self'] at hj
        cases q : (inn [] 0 δ.s)[i]? with
        | none => rw [q] at hj; cases hj
        | some z =>
          rw [q] at hj; injection hj with hj; injection hj with hj; subst hj
          exact ⟨.ref a, hσ, a, rfl, rfl, rfl⟩
      · have hj0 := hj
        rw [List.getElem?_set_ne e] at hj
        obtain ⟨v, hv, hc⟩ := ri.cell j c hj
        refine ⟨v, hv, ?_⟩
        cases c with
        | d x => exact hc
        | pot =>
          obtain ⟨b, _, h1, _⟩ := hc
          have h1 : B.p = some b := h1
          rw [hBp] at h1; cases h1
        | bor =>
          obtain ⟨b, _, h1, _⟩ := hc
          have h1 : B.p = some b := h1
          rw [hBp] at h1; cases h1
        | own xs => exact (noown j _ hj0 rfl).elim
        | dct xs => exact (noown j _ hj0 rfl).elim
        | gen pa mk xs => exact (noown j _ hj0 rfl).elim
        | iset xs => exact (noown j _ hj0 rfl).elim
    · rw [List.length_set, inn_len]; exact r.len
  have back : ∀ {δ' : St'} {σ' : List (Option V)} {F' H' : Hp}, Rep ⟨⟨F, H, some a, none⟩, X.w, X.K⟩ δ' σ' F' H' → Rep (bs X B) ⟨δ.n, unpot δ'.s⟩ σ' F' H' := fun {δ' σ' F' H'} r' => by
    have hBa : ∀ b o, B.H b = some o → b ≠ a := fun b o h1 z => by
      have h2 : B.H a = none := hB
      rw [← z, h1] at h2
      cases h2
    have hp : ∀ {b : Addr} {o : HO}, B.H b = some o → H b = some o := fun {b o} h1 => r.kp b o h1 (by
      show B.p ≠ some b
      rw [hBp]
      exact fun z => by cases z)
    refine ⟨r'.ex, r.f0.trans r'.f0, fun b h1 h2 => ?_, fun b o h1 h2 => ?_, fun p h => ?_, fun j c h => ?_, ?_, fun j j' c c' hne h1 h2 o1 o2 => ?_⟩
    · refine r'.fr b (r.fr b h1 h2) ?_
      show H b ≠ none
      cases q : B.H b with
      | none => exact absurd q h2
      | some o => rw [hp q]; exact fun z => by cases z
    · have h1 : B.H b = some o := h1
      exact r'.kp b o (hp h1) (fun z => hBa b o h1 (by injection z with z; exact z.symm))
    · have h : B.p = some p := h
      rw [hBp] at h; cases h
    · obtain ⟨h1, h2, h3⟩ := unpot_get h
      obtain ⟨v, hv, hc⟩ := r'.cell j c h1
      refine ⟨v, hv, ?_⟩
      have hnn : ∀ {b : Addr}, H b = none → B.H b = none := fun {b} h => by
        cases q : B.H b with
        | none => rfl
        | some o => rw [hp q] at h; cases h
      cases c with
      | d x => exact hc
      | pot => exact absurd rfl h2
      | bor => exact absurd rfl h3
      | own xs =>
        obtain ⟨b, vs, e, k1, k2⟩ := hc
        exact ⟨b, vs, e, hnn k1, k2⟩
      | dct xs =>
        obtain ⟨b, vs, e, k1, k2⟩ := hc
        exact ⟨b, vs, e, hnn k1, k2⟩
      | gen pa mk xs =>
        obtain ⟨b, vs, e, k1, k2⟩ := hc
        exact ⟨b, vs, e, hnn k1, k2⟩
      | iset xs =>
        obtain ⟨b, e, k1, k2⟩ := hc
        exact ⟨b, e, hnn k1, k2⟩
    · rw [r'.len]
      unfold unpot
      rw [List.length_map]
    · exact r'.ap j j' c c' hne (unpot_get h1).1 (unpot_get h2).1 o1 o2
  exact h ⟨F, H, some a, none⟩ a rfl σ F H r2 D (fun δ' σ' F' H' e' r' n => hn _ σ' F' H' e' (back r') n) fun v x δ' σ' F' H' e' r' d p => hr v x _ σ' F' H' e' (back r') d p
end
end DL
set_option maxHeartbeats 200000
set_option Elab.async false
set_option linter.all false
set_option maxRecDepth 100000
set_option maxHeartbeats 2000000
namespace DL
open PySem PySem.Spec PyProof.Rows L2
def WSF (B : Bs) (ts : TS) (δ : St') (N : St' → Hp → Prop) : Prop := ∀ σ F H, Rep B δ σ F H → ∀ D : Ends, (∀ δ' σ' F' H', Same F F' → Rep B δ' σ' F' H' → N δ' F' → D.nx σ' H') → ts D σ H
def DSF (B : B0) (X : Cx) (sts : List Stmt) (δ : St') (N : St' → Hp → Prop) : Prop := WSF (bs X B) (wSs X sts) δ N
section
variable {B : B0} {X : Cx} {st : Stmt} {rest : List Stmt} {δ : St'} {N : St' → Hp → Prop}
theorem DSF.of {sts : List Stmt} {ts : TS} (q : PSs X sts ts) (h : WSF (bs X B) ts δ N) : DSF B X sts δ N := fun σ F H r D z pins s I => q.run pins s σ H D I (h σ F H r D z)
end
def WOoI (B : Bs) (ts : TS) (δ : St') (R : Addr → List Str → List PyData → St' → Hp → Prop) : Prop := ∀ σ F H, Rep B δ σ F H → ∀ D : Ends, (∀ a c dx us ns xs δ' σ' F' H', Same F F' → Rep B δ' σ' F' H' → B.H a = none → F' a = none → H' a = some (.ins c dx (ns.zip us)) → DqAll B.K F' us xs → R c ns xs δ' F' → D.rt (.ref a) H') → ts D σ H
def DOoI (B : B0) (X : Cx) (sts : List Stmt) (δ : St') (R : Addr → List Str → List PyData → St' → Hp → Prop) : Prop := WOoI (bs X B) (wSs X sts) δ R
section
variable {B : B0} {X : Cx} {e : Expr} {st : Stmt} {rest : List Stmt} {δ : St'} {R : Addr → List Str → List PyData → St' → Hp → Prop} {pos : Pos}
theorem DOoI.of {sts : List Stmt} {ts : TS} (q : PSs X sts ts) (h : WOoI (bs X B) ts δ R) : DOoI B X sts δ R := fun σ F H r D z pins s I => q.run pins s σ H D I (h σ F H r D z)
end
end DL
set_option maxHeartbeats 200000
set_option Elab.async false
set_option linter.all false
set_option maxRecDepth 100000
set_option maxHeartbeats 4000000
namespace PySem
namespace XT
open PySem.W PySem.Calls PyProof.Rows PySem.HandSPX Builtin Builtin.ObjectAttr
/-- what is known of the built-in one: an own class over it is made, and its __init__ lays the arguments anew -/
structure BaseT (B new ini : String) (tl : List Value) : Prop where
  own : ∀ {prog : Program} {w : World} {A : Around} {R : Result → Shared → Prop} {h : Heap} {g : Array GenState} {d : Drawn} {t : Nat} {os : OsState} {nm q : Str} {C N : Addr} {bs : List Value} {sn : List Str} {sub : List Value} {ab : Bool} {col : Option Bool} {dd : Option Addr} {k0 k1 k2 k3 k5 : Option Value} {rest : List Value} {fI : Addr},
    h.get? C = some (excClassObj nm q C N bs tl true sn sub ab col dd k0 k1 k2 k3 k5 new) → W.Looks (model prog w) h (typeLookup (.ref C) "__init__") (some (.ref fI)) → (∀ self, W.Looks (model prog w) h (bindSpecial (.ref fI) self) (.ref fI, [self])) → rest.length ≤ sizeLine →
    codeAny (model prog w) (A.under (.builtin "type.__call__" ⟨.ref C :: rest, []⟩)) (.call (.ref fI) ⟨.ref (h.objs.size + 1) :: rest, []⟩) (W.InitBack (h.objs.size + 1) R) ⟨(h.push (W.kdv_tup rest)).push (excO C h.objs.size), g, d, t, os⟩ →
    codeAny (model prog w) A (.call (.ref C) ⟨rest, []⟩) R ⟨h, g, d, t, os⟩
  base : ∀ {prog : Program} {w : World} {A : Around} {R : Result → Shared → Prop} {h : Heap} {g : Array GenState} {d : Drawn} {t : Nat} {os : OsState} {nm q : Str} {C N : Addr} {bs : List Value} {sn : List Str} {sub : List Value} {ab : Bool} {col : Option Bool} {dd : Option Addr} {k0 k1 k2 k3 k5 : Option Value} {e t0 : Addr} {rest : List Value},
    h.get? C = some (excClassObj nm q C N bs tl true sn sub ab col dd k0 k1 k2 k3 k5 new) → h.get? e = some (excO C t0) → rest.length ≤ sizeLine →
    (∀ h' t1, (∀ b o, b ≠ e → h.get? b = some o → h'.get? b = some o) → h'.get? e = some (excO C t1) → R (.ok (.ret .none)) ⟨h', g, d, t, os⟩) → codeAny (model prog w) A (.call (.builtin ini) ⟨.ref e :: rest, []⟩) R ⟨h, g, d, t, os⟩
  st : StoreFacts B tl "object.__setattr__" "object"
  ty : typeOf (.type B) = pure (.type "type")
theorem BaseT.of {B new ini : String} {tl : List Value} (F : ExcBaseFacts B new ini tl) (st : StoreFacts B tl "object.__setattr__" "object") (ty : typeOf (.type B) = pure (.type "type")) : BaseT B new ini tl :=
  ⟨fun hC hi hb hr hq => call_own F (fun _ => rfl) hC hi hb hr hq, fun hC he hr hq => init_base F (fun _ => rfl) hC he hr hq, st, ty⟩
end XT
end PySem
namespace DL
open PySem PySem.Spec PyProof.Rows L2 PySem.XT
end DL
set_option maxHeartbeats 200000
set_option Elab.async false
set_option linter.all false
set_option maxRecDepth 100000
set_option maxHeartbeats 2000000
namespace DL
open PySem PySem.Spec PyProof.Rows L2 PySem.XT
structure FnShX (P : Program) (w : World) (K : PySem.W.Frag) (mg : Str → Option Value) (base : Heap) (CX : CXT) (k : Nat) (f : Addr) (fd : FuncData) (ps : List Str) (sp : Sp) : Prop where
  ln : ∀ xs H Q E, sp xs H Q E → xs.length = ps.length
  go : ∀ (A : Around) (out : List Env) (s : Shared) (H : Hp) (ar : Args) (us : List Value) (xs : List V) (Q : VK) (E : XK), A.guards = some [] → Room k A → Env0 P w K mg base A out s H →
    BindsTo s fd ar (ps.zip us) → Vals xs us → sp xs H Q E → codeAny (model P w) A (.call (.ref f) ar) (CR CX out P w H s Q E) s
section
variable {P : Program} {w : World} {K : PySem.W.Frag} {mg : Str → Option Value} {base : Heap} {CX : CXT} {x qual : Str} {st : Stmt} {f : Addr} {fd : FuncData} {N ps : List Str} {k : Nat} {sp : Sp}
theorem FnShX.of {dvs : List V} {kws : List (Str × V)} (F : FunD K x qual (defArgs st) (defBody st) (defScope st) dvs kws f fd) (sc : FnScope N ps (defScope st)) (ln : ∀ xs H Q E, sp xs H Q E → xs.length = ps.length)
    (bd : ∀ (cdv : Value) (A : Around) (out : List Env) (s : Shared) (H : Hp) (xs : List V) (Q : VK) (E : XK), A.guards = some [] → Room k (A.deeper (envOfC qual (defScope st) s.heap.objs.size f cdv)) → sp xs H Q E →
      ∃ t, PSs (cxOf CX P w K mg base N qual (defScope st) f cdv A out s H E) (defBody st) t ∧ t { nx := fun _ G => Q .non G, rt := Q } (L2.start N xs) H) : FnShX P w K mg base CX (k + 1) f fd ps sp := by
  obtain ⟨o1, o2, d1, d2, c1, c2, an, cdv, ct, sl, rfl, hlk, hcode, -, -⟩ := F.ex
  constructor
  · exact ln
  intro A out s H ar us xs Q E hgd rm ev hbd hv hp
  have long := ln xs H Q E hp
  have inK : K.In s.heap := ev.mod.kin.keeps fun a o e => (ev.bs a o e).1
  have nol : s.heap.NoLimit := ev.mod.nolimit.keeps fun a o e => (ev.bs a o e).1
  have kinds : ∀ y, y ∈ ps.zip us → (defScope st).names.lookup y.1 = some .local ∨ ((defScope st).names.lookup y.1 = some .cell ∧ ((cellsFrom (s.heap.objs.size + 1) (defScope st).names []).lookup y.1).isSome = true) := by
    intro y hy
    cases sc.par y.1 (List.of_mem_zip hy).1 with
    | inl h => exact .inl h
    | inr h => exact .inr ⟨h, PySem.W.cellsFrom_some _ _ _ (.inl h)⟩
  apply codeAny_call_function rm.depth (inK _ _ hlk) rfl sc.co sc.gen rfl (PySem.W.codeRec_of inK hcode)
  apply hbd
  apply wpAny_newFunctionEnv_cells sc.kind kinds
  intro env0 rfl s1 made
  constructor
  · exact nol.keeps made.toInCall.keep
  apply codeAny_func
  obtain ⟨t, run, now⟩ := bd cdv A out s H xs Q E hgd (rm.deeper _) hp
  have inv := inv_start (CX := CX) (E := E) sc rm.hd ev long hv made
  refine wpAny_mono (run.run [] s1 _ H _ inv now) ?_ fun _ _ z => z
  intro fl s2 hs
  cases fl with
  | brk => obtain ⟨_, _, _, z⟩ := hs; exact z.elim
  | cont => obtain ⟨_, _, _, z⟩ := hs; exact z.elim
  | next => obtain ⟨_, H2, J, z⟩ := hs; exact ⟨.non, H2, J.os, J.bare, J.base, J.hok, rfl, z⟩
  | ret u => obtain ⟨v, _, H2, J, rv, z⟩ := hs; exact ⟨v, H2, J.os, J.bare, J.base, J.hok, rv, z⟩
end
def TakesDP (B : B0) (X : Cx) (Ξ : Value → List (Str × PyData) → St' → Prop) : Prop := ∃ W : WX, Takes X W ∧ ∀ cls dd (ns : List Str) (us : List V) (xs : List PyData) δ σ F H, Rep (bs X B) δ σ F H → B.H dd = none → F dd = none → H dd = some (.xd (ns.zip us)) → DqAll X.K F us xs → Ξ cls (ns.zip xs) δ → W cls (some dd) σ H
theorem TakesDP.none {B : B0} {X : Cx} : TakesDP B X fun _ _ _ => False :=
  ⟨fun _ _ _ _ => False, fun u s' h => by
    obtain ⟨_, _, _, _, _, _, _, _, _, _, _, _, _, _, _, _, f⟩ := h
    exact f.elim, fun _ _ _ _ _ _ _ _ _ _ _ _ _ _ z => z⟩
end DL
set_option maxHeartbeats 200000
set_option Elab.async false
set_option linter.all false
set_option maxRecDepth 100000
set_option maxHeartbeats 2000000
namespace DL
open PySem PySem.Spec PyProof.Rows L2 PySem.XT
end DL
set_option maxHeartbeats 200000
set_option Elab.async false
set_option linter.all false
set_option maxRecDepth 100000
set_option maxHeartbeats 2000000
namespace DL
open PySem PySem.Spec PyProof.Rows L2
end DL
set_option maxHeartbeats 200000
set_option Elab.async false
set_option linter.all false
set_option maxRecDepth 100000
set_option maxHeartbeats 1000000
namespace DL
open PySem PySem.Spec PyProof.Rows L2
end DL
set_option maxHeartbeats 200000
set_option Elab.async false
set_option linter.all false
set_option maxRecDepth 100000
set_option maxHeartbeats 1000000
namespace DL
open PySem PySem.Spec PyProof.Rows L2 PySem.XT
end DL
set_option maxHeartbeats 200000
set_option Elab.async false
set_option linter.all false
set_option maxRecDepth 100000
set_option maxHeartbeats 1000000
namespace DL
open PySem PySem.Spec PyProof.Rows L2
section
variable {B : B0} {X : Cx} {δ : St'} {Φ : PE1} {Ψ : PL} {a b e : Expr} {p p2 pos pp : Pos} {x pn : Str}
def rgD (i j : Int) : List PyData := (List.range (j - i).toNat).map fun k => PyData.int (i + (k : Nat))
theorem rgD_v {K : PySem.W.Frag} {F : Hp} {i : Int} : ∀ l : List Nat, DqAll K F (l.map fun k => V.int (i + (k : Nat))) (l.map fun k => PyData.int (i + (k : Nat)))
  | [] => .nil
  | k :: l => .cons (.int _) (rgD_v l)
theorem dq_erase {K : PySem.W.Frag} {F : Hp} : ∀ {us : List V} {ds : List PyData} (k : Nat), DqAll K F us ds → DqAll K F (us.eraseIdx k) (ds.eraseIdx k)
  | _, _, _, .nil => .nil
  | _, _, 0, .cons _ h2 => h2
  | _, _, k + 1, .cons h1 h2 => .cons h1 (dq_erase k h2)
/-- xs.pop(e), xs a list of our own -/
theorem de_popAt (i : Nat) {xs0 : List PyData} {apos npos : Pos} (h : DE B X e δ fun y δ' => ∃ (xs : List PyData) (j : Nat) (z : PyData), y = .int (j : Int) ∧ δ'.s[i]? = some (some (.own xs)) ∧ xs[j]? = some z ∧ xs.length ≤ 100000 ∧ Φ z (δ'.put i (.own (xs.eraseIdx j)))) (hi : δ.s[i]? = some (some (.own xs0)) := by rfl)
    (hN : X.N[i]? = some x := by rfl) (hv : Vis X.env.scope x := by first | exact Or.inl rfl | exact Or.inr (Or.inl rfl) | exact Or.inr (Or.inr rfl)) (hd : (x == ("__debug__" : Str)) = false := by decide)
    (hcd : (x == ("__classdict__" : Str)) = false := by decide)
    (hbase : attributeBase (.Name x npos) "pop" X.env (eval (.Name x npos) X.env) = eval (.Name x npos) X.env := by rfl)
    (hfew : ((backTo p2 (starEach [e] X.env)).all (fun x => !x.1) && (backToKw p2 (keywordEach [] X.env)).all (fun x => x.1.isSome)
      && decide ([e].length + ([] : List Keyword).length + (if ([] : List Keyword).isEmpty then 0 else 1) < 30)) = true := by rfl)
    (hline : (apos.endLine == p2.line) = true := by rfl) (hs : starEach [e] X.env = (false, eval e X.env) :: starEach [] X.env := by rfl) (hplain : (backTo p2 (starEach [] X.env)).any (·.1) = false := by rfl) :
    DE B X (.Call (.Attribute (.Name x npos) "pop" apos) [e] [] p2) δ Φ := .of (pe_bm PySem.F.plainAttrs_list PySem.F.slot_list_pop PySem.F.type_list_pop mt_popAt (pe_var hN hv hd hcd) (pa_cons pe_w pa_nil hs) hbase hfew hline hs hplain) fun σ F H r Q q => by
  obtain ⟨u, hu, a, vs, rfl, hB, hF, hH, hdd⟩ := r.cell i _ hi
  refine ⟨.ref a, hu, .inl ⟨rfl, vs, .inl (.inl hH)⟩, ?_⟩
  refine h σ F H r _ fun v y δ' F' H' e r' d ⟨ys, j, z, hy, hi', hz, hl, p⟩ => ?_
  subst hy
  cases d
  obtain ⟨u', hu', a', vs', rfl, hB', hF', hH', hdd'⟩ := r'.cell i _ hi'
  rw [hu] at hu'
  injection hu' with hu'
  injection hu' with hu'
  injection hu' with hu'
  subst hu'
  have hlen := dpAll_len hdd'
  have hjl := (List.getElem?_eq_some_iff.mp hz).1
  obtain ⟨w, hw, dw⟩ : ∃ w, vs'[j]? = some w ∧ Dq X.K F' w z := by
    obtain ⟨w, h1, h2⟩ := atI_map (i := (j : Int)) hdd' (by rw [atI_nn (by omega), Int.toNat_natCast]; exact hz)
    exact ⟨w, by rw [atI_nn (by omega), Int.toNat_natCast] at h1; exact h1, h2⟩
  refine ⟨a, vs', (j : Int), j, w, rfl, rfl, hH', by omega, by omega, ?_, hw, ?_⟩
  · unfold seqIndex?
    simp
    omega
  · exact q w z _ F' _ e (r'.write (c2 := .own (ys.eraseIdx j)) hi' rfl hu hB' hF' rfl ⟨a, vs'.eraseIdx j, rfl, hB', hF', upd_same, dq_erase j hdd'⟩) dw p
end
end DL
set_option maxHeartbeats 200000
set_option Elab.async false
set_option linter.all false
set_option maxRecDepth 100000
set_option maxHeartbeats 1000000
namespace DL
open PySem PySem.Spec PyProof.Rows L2
section
variable {B : B0} {X : Cx} {elt tg iter : Expr} {scope : Scope} {δ : St'} {N : St' → Prop} {R : PE1} {pos py spos : Pos} {wi : TI} {g : TG} {y0 : Str}
/-- x = [elt for tg in iter], by what holds of what is gathered so far -/
theorem ds_setLcI (i : Nat) (own : List (Str × Nat)) (hN : X.N.Nodup) (hi : PI X tg iter wi) (ok : BlkOk X.N X.env.scope scope own)
    (hg : ∀ (s : Shared) (H : Hp) (C : Addr) (cl : List (Str × Addr)) (fp : List Addr), PG (X.blk s H scope (compEnvC scope cl C X.env) fp) tg g)
    (h : WI (bs X B) wi δ fun xs δ1 => xs.length ≤ 100000 ∧ ∃ I : Nat → List PyData → Nat → Prop, I 0 [] δ1.n ∧
      (∀ (B' : B0) i y acc n, Sub B B' → xs[i]? = some y → acc.length ≤ i → I i acc n → WG (bs X B') g (own.map (·.2)) y ⟨n, inn (own.map (·.2)) 0 δ1.s⟩ fun δ2 =>
        ∀ s0 H0 C cl fp, DE B' (X.blk s0 H0 scope (compEnvC scope cl C X.env) fp) elt δ2 fun z δ4 => I (i + 1) (acc ++ [z]) δ4.n) ∧
      ∀ acc n, acc.length ≤ xs.length → I xs.length acc n → N ((⟨n, δ1.s⟩ : St').put i (.d (.list acc))))
    (hy : X.N[i]? = some y0 := by rfl) (hyl : X.env.scope.names.lookup y0 = some .local := by rfl) (hsw : swapsWith (.ListComp elt [⟨tg, iter, [], 0⟩] scope pos) (some (.Name y0 py)) spos.line X.env = pure true := by exact sw_true rfl rfl rfl rfl)
    (hc : X.calm = true := by rfl) (hs : ∀ x, foldedSetIterable iter X.env x = pure x := by intro _; rfl) : DS B X (.Assign [.Name y0 py] (.ListComp elt [⟨tg, iter, [], 0⟩] scope pos) spos) δ N R :=
  ds_setLc0 i own hN hi ok hg (wl_lc (Φ := fun acc δ' => N (δ'.put i (.d (.list acc)))) (fun _ z => z) fun σ F H r R q => h σ F H r R fun J xs δ' F' H' e r' w ⟨hz, I, h0, h1, h2⟩ =>
    q J xs δ' F' H' e r' w ⟨hz, I, h0, fun B' i y acc n hp hy hl hi σ F H r v d Q qq => h1 B' i y acc n hp hy hl hi σ F H r v d Q fun δ2 σ2 r2 k1 k2 p => qq δ2 σ2 r2 k1 k2 (tYes_of (by
      rw [if_pos rfl]
      exact bE_of p)), h2⟩) hy hyl hsw hc hs
end
end DL
set_option maxHeartbeats 200000
set_option Elab.async false
set_option linter.all false
set_option maxRecDepth 100000
set_option maxHeartbeats 1000000
namespace DL
open PySem PySem.Spec PyProof.Rows L2
theorem inn_own {vs : List Nat} {s : List (Option C)} {k : Nat} {c : C} (h : (inn vs 0 s)[k]? = some (some c)) : k ∉ vs ∧ s[k]? = some (some c) ∧ own? c = false := by
  rw [inn_get, Option.map_eq_some_iff] at h
  obtain ⟨c0, h0, h1⟩ := h
  by_cases hv : vs.contains (0 + k)
  · rw [if_pos hv] at h1; cases h1
  · rw [if_neg hv] at h1
    have hni : k ∉ vs := fun z => hv (by rw [Nat.zero_add]; exact List.contains_iff_mem.mpr z)
    rcases c0 with _ | c0
    · cases h1
    · cases c0 <;> first | (cases h1; done) | (injection h1 with h1; subst h1; exact ⟨hni, h0, rfl⟩)
abbrev maskB (B : B0) (F H : Hp) (a : Addr) : B0 := ⟨F, fun b => if b = a then none else H b, B.p, B.m⟩
theorem Rep.innerO {B : Bs} {δ : St'} {σ : List (Option V)} {F H : Hp} (r : Rep B δ σ F H) (vs : List Nat) {io : Nat} {a : Addr} {us : List V} {ys : List PyData} (hio : io ∉ vs) (hσ : σ[io]? = some (some (.ref a))) (hB : B.H a = none) (hF : F a = none) (hH : H a = some (.lst us)) (hd : DqAll B.K F us ys) (hil : io < δ.s.length) : Rep ⟨maskB B.toB0 F H a, B.w, B.K⟩ ⟨δ.n, (inn vs 0 δ.s).set io (some (.own ys))⟩ (wipe σ vs) F H := by
  have ri := r.inner vs
  have hap : B.p ≠ some a := fun z => (r.pot a z).2.1 hB
  refine ⟨r.ex, Same.refl _, fun b h1 _ => h1, fun b o h _ => ?_, fun b h => ⟨r.potF h, ?_, (r.pot b h).2.2⟩, fun i c h => ?_, ?_, fun i j c c' hij h1 h2 o1 o2 => ?_⟩
  · have h' : (if b = a then none else H b) = some o := h
    by_cases e : b = a
    · rw [if_pos e] at h'; cases h'
    · rw [if_neg e] at h'; exact h'
  · show (if b = a then none else H b) ≠ none
    have e : b ≠ a := fun z => hap (z ▸ h)
    rw [if_neg e]
    obtain ⟨_, _, x, y, z, h3, _⟩ := r.pot b h
    rw [h3]; exact fun z => by cases z
  · have h' : ((inn vs 0 δ.s).set io (some (.own ys)))[i]? = some (some c) := h
    by_cases e : io = i
    · subst e
      rw [List.getElem?_set_self (by rw [inn_len]; exact hil)] at h'
      injection h' with h'
      injection h' with h'
      subst h'
      exact ⟨.ref a, by rw [wipe_out hio]; exact hσ, a, us, rfl, by show (if a = a then none else H a) = none; rw [if_pos rfl], hF, hH, hd⟩
    · rw [List.getElem?_set_ne e] at h'
      obtain ⟨v, hv, hc⟩ := ri.cell i c h'
      have ho := (inn_own h').2.2
      refine ⟨v, hv, ?_⟩
      cases c <;> first | exact hc | cases ho
  · show (wipe σ vs).length = ((inn vs 0 δ.s).set io (some (.own ys))).length
    rw [wipe_length, List.length_set, inn_len]; exact r.len
  · have h1' : ((inn vs 0 δ.s).set io (some (.own ys)))[i]? = some (some c) := h1
    have h2' : ((inn vs 0 δ.s).set io (some (.own ys)))[j]? = some (some c') := h2
    by_cases e : io = i
    · by_cases e2 : io = j
      · exact absurd (e.symm.trans e2) hij
      · rw [List.getElem?_set_ne e2] at h2'
        have := (inn_own h2').2.2
        rw [this] at o2; cases o2
    · rw [List.getElem?_set_ne e] at h1'
      have := (inn_own h1').2.2
      rw [this] at o1; cases o1
theorem Rep.outerO {B : Bs} {δ δ' : St'} {σ σ' : List (Option V)} {F H F' H' : Hp} (r : Rep B δ σ F H) {io : Nat} {a : Addr} {ys0 ys : List PyData} (hi : δ.s[io]? = some (some (.own ys0))) (hσ : σ[io]? = some (some (.ref a))) (hσ' : σ'[io]? = some (some (.ref a))) (hi' : δ'.s[io]? = some (some (.own ys))) (r' : Rep ⟨maskB B.toB0 F H a, B.w, B.K⟩ δ' σ' F' H') : Rep B ⟨δ'.n, δ.s.set io (some (.own ys))⟩ σ F' H' := by
  have kp' : ∀ b o, b ≠ a → H b = some o → B.p ≠ some b → H' b = some o := fun b o e h1 h2 => r'.kp b o (by show (if b = a then none else H b) = some o; rw [if_neg e]; exact h1) h2
  have fr' : ∀ b, b ≠ a → F b = none → H b ≠ none → F' b = none := fun b e h1 h2 => r'.fr b h1 (by show (if b = a then none else H b) ≠ none; rw [if_neg e]; exact h2)
  obtain ⟨v0, hv0, a0, vs0, e0, k1, k2, k3, k4⟩ := r.cell io _ hi
  rw [hσ] at hv0
  injection hv0 with hv0
  injection hv0 with hv0
  rw [← hv0] at e0
  injection e0 with e0
  subst e0
  obtain ⟨v1, hv1, a1, vs1, e1, m1, m2, m3, m4⟩ := r'.cell io _ hi'
  rw [hσ'] at hv1
  injection hv1 with hv1
  injection hv1 with hv1
  rw [← hv1] at e1
  injection e1 with e1
  subst e1
  have hp : ∀ {b : Addr} {o : HO}, B.H b = some o → H b ≠ none := fun {b o} h => by
    by_cases e : B.p = some b
    · obtain ⟨_, _, x, y, z, h3, _⟩ := r.pot b e
      rw [h3]; exact fun z => by cases z
    · rw [r.kp b o h e]; exact fun z => by cases z
  have nb : ∀ {b : Addr} {o : HO}, B.H b = some o → b ≠ a := fun {b o} h z => by rw [z, k1] at h; cases h
  refine ⟨r'.ex, r.f0.trans r'.f0, fun b h1 h2 => ?_, fun b o h1 h2 => kp' b o (nb h1) (r.kp b o h1 h2) h2, fun b h => ⟨(r.pot b h).1, (r.pot b h).2.1, (r'.pot b h).2.2⟩, fun i c h => ?_, ?_, fun i j c c' hij h1 h2 o1 o2 => ?_⟩
  · cases q : B.H b with
    | none => exact absurd q h2
    | some o => exact fr' b (nb q) (r.fr b h1 h2) (hp q)
  · have h' : (δ.s.set io (some (.own ys)))[i]? = some (some c) := h
    by_cases e : io = i
    · subst e
      rw [List.getElem?_set_self (List.getElem?_eq_some_iff.mp hi).1] at h'
      injection h' with h'
      injection h' with h'
      subst h'
      exact ⟨.ref a, hσ, a, vs1, rfl, k1, m2, m3, m4⟩
    · rw [List.getElem?_set_ne e] at h'
      obtain ⟨v, hv, hc⟩ := r.cell i c h'
      refine ⟨v, hv, ?_⟩
      have keep : ∀ {b : Addr} {o : HO}, b ≠ a → B.H b = none → H b = some o → H' b = some o := fun {b o} e h1 h2 => kp' b o e h2 fun z => (r.pot b z).2.1 h1
      have nea : ∀ {b : Addr}, v = .ref b → own? c = true → b ≠ a := fun {b} e1 ho z => r.ap io i _ c e hi h' rfl ho (by rw [hσ, hv, e1, z])
      cases c with
      | d x => exact dp_mono r'.f0 _ _ hc
      | own xs =>
        obtain ⟨b, vs, e, h1, h2, h3, h4⟩ := hc
        have := nea e rfl
        exact ⟨b, vs, e, h1, fr' b this h2 (by rw [h3]; exact fun z => by cases z), keep this h1 h3, dpAll_mono r'.f0 _ _ h4⟩
      | dct kvs =>
        obtain ⟨b, vs, e, h1, h2, h3, h4⟩ := hc
        have := nea e rfl
        exact ⟨b, vs, e, h1, fr' b this h2 (by rw [h3]; exact fun z => by cases z), keep this h1 h3, dpAll_mono r'.f0 _ _ h4⟩
      | gen pa mk kvs =>
        obtain ⟨b, vs, e, h1, h2, h3, h4, h5⟩ := hc
        have := nea e rfl
        exact ⟨b, vs, e, h1, fr' b this h2 (by rw [h3]; exact fun z => by cases z), keep this h1 h3, h4, dpAll_mono r'.f0 _ _ h5⟩
      | iset ns =>
        obtain ⟨b, e, h1, h2, h3⟩ := hc
        have := nea e rfl
        exact ⟨b, e, h1, fr' b this h2 (by rw [h3]; exact fun z => by cases z), keep this h1 h3⟩
      | pot => exact hc
      | bor => exact hc
  · show σ.length = (δ.s.set io (some (.own ys))).length
    rw [List.length_set]; exact r.len
  · have h1' : (δ.s.set io (some (.own ys)))[i]? = some (some c) := h1
    have h2' : (δ.s.set io (some (.own ys)))[j]? = some (some c') := h2
    by_cases e : io = i
    · subst e
      rw [List.getElem?_set_ne hij] at h2'
      exact r.ap io j _ c' hij hi h2' rfl o2
    · rw [List.getElem?_set_ne e] at h1'
      by_cases e2 : io = j
      · subst e2
        exact r.ap i io c _ hij h1' hi o1 rfl
      · rw [List.getElem?_set_ne e2] at h2'
        exact r.ap i j c c' hij h1' h2' o1 o2
theorem wl_lcO {B : Bs} {wi : TI} {g : TG} {te : TE} {vs ix : List Nat} {δ : St'} {Φ : List PyData → St' → Prop} (io : Nat) (hio : io ∉ vs) (hix : ∀ j ∈ ix, j ∈ vs)
    (h : WI B wi δ fun xs δ1 => xs.length ≤ 100000 ∧ ∃ ys0, δ1.s[io]? = some (some (.own ys0)) ∧ ∃ I : Nat → List PyData → List PyData → Nat → Prop, I 0 [] ys0 δ1.n ∧
      (∀ (B' : B0) i y acc ys n, B'.p = B.p → xs[i]? = some y → acc.length ≤ i → I i acc ys n → WG ⟨B', B.w, B.K⟩ g ix y ⟨n, (inn vs 0 δ1.s).set io (some (.own ys))⟩ fun δ2 =>
        WE ⟨B', B.w, B.K⟩ te δ2 fun z δ4 => ∃ ys', δ4.s[io]? = some (some (.own ys')) ∧ I (i + 1) (acc ++ [z]) ys' δ4.n) ∧
      ∀ acc ys n, acc.length ≤ xs.length → I xs.length acc ys n → Φ acc ⟨n, δ1.s.set io (some (.own ys))⟩) : WL B (tLc wi g tYes te vs) δ Φ := fun σ F H r Q q =>
  h σ F H r _ fun J xs δ1 F1 H1 e1 r1 w ⟨hz, ys0, hi0, I, h0, hs, hd⟩ D hD => by
    obtain ⟨hB, hF, hp, hap⟩ := r1.fresh hD
    have hil : io < δ1.s.length := (List.getElem?_eq_some_iff.mp hi0).1
    have hset0 : δ1.s.set io (some (.own ys0)) = δ1.s := by
      refine List.ext_getElem? fun j => ?_
      by_cases e : io = j
      · subst e
        rw [List.getElem?_set_self hil]
        exact hi0.symm
      · rw [List.getElem?_set_ne e]
    have ss : ∀ ys : List PyData, (δ1.s.set io (some (C.own ys)))[io]? = some (some (.own ys)) := fun ys => List.getElem?_set_self hil
    have ap' : ∀ (ys : List PyData) (i : Nat) (c : C), (δ1.s.set io (some (C.own ys)))[i]? = some (some c) → own? c = true → σ[i]? ≠ some (some (.ref D)) := fun ys i c hc ho => by
      by_cases e : io = i
      · subst e
        exact hap io _ hi0 rfl
      · rw [List.getElem?_set_ne e] at hc
        exact hap i c hc ho
    refine ⟨fun i m H2 => i + m = xs.length ∧ ∃ acc ys n F2 us, Same F1 F2 ∧ Rep B ⟨n, δ1.s.set io (some (.own ys))⟩ σ F2 H2 ∧ H2 D = some (.lst us) ∧ F2 D = none ∧ DqAll B.K F2 us acc ∧ acc.length ≤ i ∧ I i acc ys n,
      ⟨xs.length, by simp, [], ys0, δ1.n, F1, [], Same.refl _, by rw [hset0]; exact r1.side hF hB hap, upd_same, hF, .nil, Nat.le_refl _, h0⟩, fun i m H2 hW => ?_⟩
    obtain ⟨em, acc, ys, n, F2, us, e2, r2, hD2, hF2, hus, hl, hi⟩ := hW
    by_cases hlt : i < xs.length
    · refine .inr ⟨w.go i _ σ F2 H2 e2 r2 hlt, fun H' => ∃ acc ys n F3 us, Same F1 F3 ∧ Rep B ⟨n, δ1.s.set io (some (.own ys))⟩ σ F3 H' ∧ H' D = some (.lst us) ∧ F3 D = none ∧ DqAll B.K F3 us acc ∧ acc.length ≤ i + 1 ∧ I (i + 1) acc ys n, fun H' p => ⟨m - 1, by omega, by omega, p⟩, fun x H' hy => ?_⟩
      obtain ⟨F3, e3, r3, s3, f3, d3⟩ := w.yld i _ σ F2 H2 x H' xs[i] e2 r2 (List.getElem?_eq_getElem hlt) hy
      have hD3 : H' D = some (.lst us) := s3 _ _ hD2
      have hF3 : F3 D = none := f3 D hF2 (by rw [hD2]; exact fun z => by cases z)
      obtain ⟨v0, hv0, a, us0, ev, k1, k2, k3, k4⟩ := r3.cell io _ (ss ys)
      subst ev
      have hDa : D ≠ a := fun z => by
        rw [← z] at hv0
        exact hap io _ hi0 rfl hv0
      have ri := r3.innerO vs hio hv0 k1 k2 k3 k4 (by rw [List.length_set]; exact hil)
      have einn : (inn vs 0 (δ1.s.set io (some (C.own ys)))).set io (some (.own ys)) = (inn vs 0 δ1.s).set io (some (.own ys)) := by
        refine List.ext_getElem? fun j => ?_
        by_cases e : io = j
        · subst e
          rw [List.getElem?_set_self (by rw [inn_len, List.length_set]; exact hil), List.getElem?_set_self (by rw [inn_len]; exact hil)]
        · rw [List.getElem?_set_ne e, List.getElem?_set_ne e, inn_get, inn_get, List.getElem?_set_ne e]
      have ri' : Rep ⟨maskB B.toB0 F3 H' a, B.w, B.K⟩ ⟨n, (inn vs 0 δ1.s).set io (some (.own ys))⟩ (wipe σ vs) F3 H' := einn ▸ ri
      refine hs (maskB B.toB0 F3 H' a) i xs[i] acc ys n rfl (List.getElem?_eq_getElem hlt) hl hi (wipe σ vs) F3 H' ri' x d3 _ fun δ2 σ2 r4 c1 c2 p4 => ?_
      refine ⟨wipe_same (fun j hj => c1 j fun z => hj (hix j z)) c2, ?_⟩
      have hσ2 : σ2[io]? = some (some (.ref a)) := by
        rw [c1 io (fun z => hio (hix io z)), wipe_out hio]
        exact hv0
      refine (tYes_of (B := ⟨maskB B.toB0 F3 H' a, B.w, B.K⟩) (Φ := fun b δ3 => b = true ∧ δ3 = δ2) ⟨rfl, rfl⟩) σ2 F3 H' r4 _ fun b δ3 F5 H5 e5 r5 ⟨hb, hδ⟩ => ?_
      subst hb
      subst hδ
      refine iteT (p4 σ2 F5 H5 r5 _ fun v z δ6 F6 H6 e7 r6 d6 ⟨ys', hy', p6⟩ => ?_)
      have e6 := e5.trans e7
      have q1 := Rep.outerO (B := B) r3 (ss ys) hv0 hσ2 hy' r6
      rw [List.set_set] at q1
      have q2 : H6 D = some (.lst us) := r6.kp D _ (by show (if D = a then none else H' D) = _; rw [if_neg hDa]; exact hD3) hp
      have q3 : F6 D = none := r6.fr D hF3 (by show (if D = a then none else H' D) ≠ none; rw [if_neg hDa, hD3]; exact fun z => by cases z)
      exact ⟨us, q2, Nat.lt_of_lt_of_le (Nat.lt_of_le_of_lt (by rw [dpAll_len hus]; exact hl) hlt) (Nat.le_trans hz (by decide)), acc ++ [z], ys', δ6.n, F6, us ++ [v], (e2.trans e3).trans e6, q1.side q3 hB (ap' ys'), upd_same, q3, dpAll_app (dpAll_mono (e3.trans e6) _ _ hus) (.cons d6 .nil), by simp; omega, p6⟩
    · have : i = xs.length := by omega
      subst this
      exact .inl ⟨w.stop _ _ σ F2 H2 e2 r2 (Nat.le_refl _), q D us acc ⟨n, δ1.s.set io (some (.own ys))⟩ F2 H2 (e1.trans e2) r2 hB hF2 hD2 (ap' ys) hus (hd acc ys n hl hi)⟩
section
variable {B : B0} {X : Cx} {δ : St'} {tg iter elt : Expr} {scope : Scope} {pos : Pos} {wi : TI} {g : TG} {Φ : List PyData → St' → Prop}
/-- [elt for tg in iter], whose block changes the list of our own at io -/
theorem dl_lcO (io : Nat) (own : List (Str × Nat)) (hio : io ∉ own.map (·.2)) (hN : X.N.Nodup) (hi : PI X tg iter wi) (ok : BlkOk X.N X.env.scope scope own)
    (hg : ∀ (s : Shared) (H : Hp) (C : Addr) (cl : List (Str × Addr)) (fp : List Addr), PG (X.blk s H scope (compEnvC scope cl C X.env) fp) tg g)
    (h : WI (bs X B) wi δ fun xs δ1 => xs.length ≤ 100000 ∧ ∃ ys0, δ1.s[io]? = some (some (.own ys0)) ∧ ∃ I : Nat → List PyData → List PyData → Nat → Prop, I 0 [] ys0 δ1.n ∧
      (∀ (B' : B0) i y acc ys n, B'.p = B.p → xs[i]? = some y → acc.length ≤ i → I i acc ys n → WG (bs X B') g (own.map (·.2)) y ⟨n, (inn (own.map (·.2)) 0 δ1.s).set io (some (.own ys))⟩ fun δ2 =>
        ∀ s0 H0 C cl fp, DE B' (X.blk s0 H0 scope (compEnvC scope cl C X.env) fp) elt δ2 fun z δ4 => ∃ ys', δ4.s[io]? = some (some (.own ys')) ∧ I (i + 1) (acc ++ [z]) ys' δ4.n) ∧
      ∀ acc ys n, acc.length ≤ xs.length → I xs.length acc ys n → Φ acc ⟨n, δ1.s.set io (some (.own ys))⟩) (hc : X.calm = true := by rfl) (hs : ∀ x, foldedSetIterable iter X.env x = pure x := by intro _; rfl) : DLs B X (.ListComp elt [⟨tg, iter, [], 0⟩] scope pos) δ Φ :=
  .of (pe_lc (te := bE X scope elt) hc hN hi ok hg (fun _ _ _ _ _ => pts_nil) (fun s H C cl fp => ⟨fun pins s' σ H' Q I h => h s H C cl fp pins s' I⟩) hs) (wl_lcO io hio (fun _ z => z) fun σ F H r R q => h σ F H r R fun J xs δ' F' H' e r' w ⟨hz, ys0, hi0, I, h0, h1, h2⟩ =>
    q J xs δ' F' H' e r' w ⟨hz, ys0, hi0, I, h0, fun B' i y acc ys n hp hy hl hi σ F H r v d Q qq => h1 B' i y acc ys n hp hy hl hi σ F H r v d Q fun δ2 σ2 r2 k1 k2 p => qq δ2 σ2 r2 k1 k2 (bE_of p), h2⟩)
end
end DL
set_option maxHeartbeats 200000
set_option Elab.async false
set_option linter.all false
set_option maxRecDepth 100000
set_option maxHeartbeats 1000000
namespace DL
open PySem PySem.Spec PyProof.Rows L2
abbrev EnN := NestedKey × Addr × V
abbrev nkind (P : Program) (w : World) := nestedKind P w
def NdR : List EnN → List (NestedKey × Addr × Value) → Prop := Paired fun p q => p.1 = q.1 ∧ p.2.1 = q.2.1 ∧ RelV p.2.2 q.2.2
def NdH (P : Program) (w : World) (a : Addr) (es : List EnN) (h : Heap) : Prop := (a == sysModules) = false ∧ ∃ xs, NdR es xs ∧ ∃ o ds ep, h.get? a = some o ∧ o.ExactDict ∧ o.data = .dict ds ep ∧ ds.toList = xs.map (entryOfKey (nkind P w)) ∧ (xs.map (·.1)).Nodup
def NdO (P : Program) (w : World) (a : Addr) (es : List EnN) : HO := .ext (NdH P w a es)
abbrev NkAt (K : PySem.W.Frag) (H : Hp) (k : NestedKey) (b : Addr) : Prop := Dq K H (.ref b) k.data ∧ k.depth ≤ 8
def KeysN (K : PySem.W.Frag) (H : Hp) (es : List EnN) : Prop := ∀ x ∈ es, NkAt K H x.1 x.2.1
def valN (es : List EnN) (k : NestedKey) : Option V := (es.find? fun x => decide (x.1 = k)).map (·.2.2)
theorem nd_ok {P : Program} {w : World} {H : Hp} {h : Heap} {a : Addr} {es : List EnN} (t : NdH P w a es h) : ObjOk P w H h a (NdO P w a es) := by
  refine ⟨t, ?_, fun h1 h2 p k => ?_⟩
  · obtain ⟨_, _, _, o, _, _, e, _⟩ := t
    exact ⟨o, e⟩
  · obtain ⟨z, xs, r, o, ds, ep, e, c⟩ := p
    exact ⟨z, xs, r, o, ds, ep, k _ e, c⟩
theorem NdR.len {es : List EnN} {xs : List (NestedKey × Addr × Value)} (r : NdR es xs) : es.length = xs.length := Paired.length r
theorem NdR.val {es : List EnN} {xs : List (NestedKey × Addr × Value)} (r : NdR es xs) (k : NestedKey) : RelO (valN es k) ((atKey xs k).map (·.2)) := by
  induction r with
  | nil => exact True.intro
  | @cons p q ps qs h t ih =>
    obtain ⟨h1, _, h2⟩ := h
    by_cases e : p.1 = k
    · have e' : q.1 = k := h1.symm.trans e
      have b : atKey (q :: qs) k = some q.2 := by simp [atKey, List.find?_cons, e']
      have c : valN (p :: ps) k = some p.2.2 := by simp [valN, List.find?_cons, e]
      rw [c, b]; exact h2
    · have e' : ¬ q.1 = k := fun z => e (h1.trans z)
      have b : atKey (q :: qs) k = atKey qs k := by simp [atKey, List.find?_cons, e']
      have c : valN (p :: ps) k = valN ps k := by simp [valN, List.find?_cons, e]
      rw [c, b]; exact ih
mutual
theorem nest_of {X : Cx} {pins : List (Addr × Obj)} {σ : L2.St} {H : Hp} {s : Shared} (I : Inv X pins σ H s) : ∀ (k : NestedKey) (v : V) (u : Value), Dq X.K H v k.data → RelV v u → NestedIs s.heap k u
  | .none, v, u, h, r => by
    cases h
    obtain rfl : u = Value.none := r
    exact .none
  | .num i, v, u, h, r => by
    cases h
    obtain ⟨t, rfl⟩ := r
    exact .int i t
  | .text x, v, u, h, r => by
    cases h
    obtain ⟨t, rfl⟩ := r
    exact .text x t
  | .tup ks, v, u, h, r => by
    cases h with
    | @tup a xs ds hs ha hp =>
      obtain rfl : u = Value.ref a := r
      obtain ⟨_, its, rv, o, h1, h2, n, h3⟩ := (show ObjOk X.prog X.w H s.heap a (.tup xs) from I.hok a _ hp)
      exact .tup h1 h2 h3 (by simpa using nests_of I ks xs its ha rv)
theorem nests_of {X : Cx} {pins : List (Addr × Obj)} {σ : L2.St} {H : Hp} {s : Shared} (I : Inv X pins σ H s) : ∀ (ks : List NestedKey) (vs : List V) (us : List Value), DqAll X.K H vs (NestedKey.datas ks) → Vals vs us → NestedAll s.heap ks us
  | [], vs, us, h, r => by
    cases h
    cases r
    exact .nil
  | k :: ks, vs, us, h, r => by
    cases h with
    | cons h1 h2 =>
      cases r with
      | cons r1 r2 => exact .cons (nest_of I k _ _ h1 r1) (nests_of I ks _ _ h2 r2)
end
section
variable {X : Cx} {pins : List (Addr × Obj)} {σ : L2.St} {H : Hp} {s : Shared} {a b : Addr} {es : List EnN} {k : NestedKey} {v : V} {u r : Value} {A : Around} {E : Value → Shared → Prop}
theorem nkey_of (I : Inv X pins σ H s) (h : NkAt X.K H k b) : (nkind X.prog X.w).is s.heap k b := ⟨nest_of I k _ _ h.1 rfl, h.2⟩
theorem nd_at (I : Inv X pins σ H s) (e : H a = some (NdO X.prog X.w a es)) (hk : KeysN X.K H es) : (a == sysModules) = false ∧ ∃ xs, NdR es xs ∧ s.heap.DictOfH (nkind X.prog X.w) a xs := by
  obtain ⟨⟨z, xs, r, o, ds, ep, h1, h2, h3, h4, h5⟩, _⟩ := (show ObjOk X.prog X.w H s.heap a (NdO X.prog X.w a es) from I.hok a _ e)
  refine ⟨z, xs, r, o, ds, ep, h1, h2, h3, h4, fun x hx => ?_, h5⟩
  have all : ∀ {l : List EnN} {m : List (NestedKey × Addr × Value)}, NdR l m → KeysN X.K H l → ∀ x ∈ m, (nkind X.prog X.w).is s.heap x.1 x.2.1 := by
    intro l m q
    induction q with
    | nil => intro _ x hx; exact nomatch hx
    | @cons p q ps qs hq t ih =>
      intro hkl x hx
      rcases List.mem_cons.mp hx with e | hx
      · subst e
        refine nkey_of I ?_
        rw [← hq.1, ← hq.2.1]
        exact hkl p List.mem_cons_self
      · exact ih (fun y hy => hkl y (List.mem_cons_of_mem _ hy)) x hx
  exact all r hk x hx
theorem nd_type (I : Inv X pins σ H s) (e : H a = some (NdO X.prog X.w a es)) (hk : KeysN X.K H es) : s.TypeIs (.ref a) "dict" ∧ (∀ b, Value.ref a = .ref b → ∃ ob, s.heap.get? b = some ob ∧ ob.dict = none) := by
  obtain ⟨hd, xs, _, dd⟩ := nd_at I e hk
  refine ⟨dd.typeIs, fun b q => ?_⟩
  cases q
  obtain ⟨ob, _, _, h1, h2, _⟩ := dd
  exact ⟨ob, h1, h2.2.1⟩
theorem n_setd {z : V} {Q : Value → Shared → Prop} (hu : A.units + 9 < cLine) (I : Inv X pins σ H s) (e : H a = some (NdO X.prog X.w a es)) (hk : KeysN X.K H es) (eb : NkAt X.K H k b) (hl : es.length ≤ 1000) (rd : RelV z r)
    (h1 : ∀ v w' s', valN es k = some v → Inv X pins σ H s' → RelV v w' → Q w' s') (h2 : valN es k = none → ∀ s', Inv X pins σ (upd H a (NdO X.prog X.w a (es ++ [(k, b, z)]))) s' → Q r s') :
    wpAny (model X.prog X.w) A (call (.builtin "dict.setdefault") [.ref a, .ref b, r]) Q E s := by
  obtain ⟨hd, xs, rel, dd⟩ := nd_at I e hk
  have hz : xs.length ≤ sizeLine := by rw [← rel.len, sizeLine_eq]; omega
  have rv := rel.val k
  refine call_meetsIn PySem.F.slot_dict_setdefault dd.typeIs PySem.F.entry_dict_setdefault (PySem.F.args_dict_setdefault_3 _ _ _) (meetsH_dict_setdefault (nkind X.prog X.w) a b hd r) ⟨hu, k, xs, nkey_of I eb, dd, hz, fun p hp => ?_, fun hn h' dd' hs => ?_⟩
  · rw [hp] at rv
    cases q : valN es k with
    | none => rw [q] at rv; exact (show False from rv).elim
    | some v => rw [q] at rv; exact h1 v _ _ q (I.tok _) rv
  · rw [hn] at rv
    cases q : valN es k with
    | some v => rw [q] at rv; exact (show False from rv).elim
    | none =>
      rw [storedH_new hn] at dd'
      obtain ⟨o, ds, ep, g1, g2, g3, g4, _, g5⟩ := dd'
      exact h2 q _ (d_write I (by rw [e]; exact True.intro) hs ⟨o, g1⟩ (nd_ok ⟨hd, _, Paired.snoc rel ⟨rfl, rfl, rd⟩, o, ds, ep, g1, g2, g3, g4, g5⟩))
end
def tNNew (P : Program) (w : World) : TE := fun _ H Q => ∀ p, H p = none → Q (.ref p) (upd H p (NdO P w p []))
/-- d.setdefault(y, z) -/
def tNSetd (P : Program) (w : World) (K : PySem.W.Frag) (td ty tx : TE) : TE := fun σ H Q => td σ H fun x H1 => ∃ a es0, x = .ref a ∧ H1 a = some (NdO P w a es0) ∧ KeysN K H1 es0 ∧ ty σ H1 fun y H2 => tx σ H2 fun z H3 => ∃ es b k, H3 a = some (NdO P w a es) ∧ KeysN K H3 es ∧ y = .ref b ∧ NkAt K H3 k b ∧ es.length ≤ 1000 ∧
  (∀ v, valN es k = some v → Q v H3) ∧ (valN es k = none → Q z (upd H3 a (NdO P w a (es ++ [(k, b, z)]))))
section
variable {X : Cx} {o i e f value : Expr} {pos pos' tpos apos cpos : Pos} {td ty tv tx : TE}
theorem pe_nnew : PE X (.Dict [] [] pos) (tNNew X.prog X.w) := ⟨fun pins s σ H Q I h =>
  wpAny_Dict_empty ⟨.ref s.heap.objs.size, _, I.laid (a := s.heap.objs.size) (o := NdO X.prog X.w s.heap.objs.size []) (t' := s.toks) (fun _ _ q => Heap.get?_push_of_some _ q) (Nat.le_refl _)
    (nd_ok ⟨beq_eq_false_iff_ne.mpr (Ne.symm (Nat.ne_of_lt I.big)), [], .nil, _, #[], 0, Heap.get?_push_size _ rfl, ⟨rfl, rfl, rfl⟩, rfl, rfl, List.nodup_nil⟩), rfl, h _ (I.hok.fresh (Nat.le_refl _))⟩⟩
theorem pe_nsetd (hu : X.A.units + 9 < cLine) (ho : PE X o td) (he : PE X e ty) (hf : PE X f tx) (m : M2 X o "setdefault" apos e f cpos) : PE X (.Call (.Attribute o "setdefault" apos) [e, f] [] cpos) (tNSetd X.prog X.w X.K td ty tx) := by
  refine ⟨fun pins s σ H Q I h => ?_⟩
  refine wpAny_Call_method m.base m.few m.line PySem.F.plainAttrs_dict PySem.F.slot_dict_setdefault PySem.F.type_dict_setdefault (thn (ho.run pins s σ H _ I h) fun u s1 ⟨x, H1, I1, rx, a, es0, ex, g0, gk0, q1⟩ => ?_)
  subst ex
  obtain rfl : u = Value.ref a := rx
  obtain ⟨t1, t2⟩ := nd_type I1 g0 gk0
  refine ⟨t1, t2, ?_⟩
  rw [m.trees]
  refine Calls.callWith_builtin rfl (Calls.evalArgs_plain (Calls.spliced_cons (thn (he.run pins s1 σ H1 _ I1 q1) fun iv s2 ⟨y, H2, I2, ry, q2⟩ =>
    Calls.spliced_cons (thn (hf.run pins s2 σ H2 _ I2 q2) fun fv s3 ⟨z, H3, I3, rz, es, b, k, g, gk, ey, eb, hl, q3, q4⟩ => Calls.spliced_nil ?_))))
  subst ey
  obtain rfl : iv = Value.ref b := ry
  exact n_setd hu I3 g gk eb hl rz (fun v w' s4 hv I4 rw' => ⟨v, H3, I4, rw', q3 v hv⟩) fun hn s4 I4 => ⟨z, _, I4, rz, q4 hn⟩
/-- len(d) -/
theorem call_lenN : CallR X (.builtin "len") (fun xs H Q => ∃ a es, xs = [V.ref a] ∧ H a = some (NdO X.prog X.w a es) ∧ KeysN X.K H es ∧ es.length ≤ 1000 ∧ Q (.int es.length) H) := by
  intro pins s σ H xs us Q I r h
  obtain ⟨a, es, rfl, ha, hk, hl, q⟩ := h
  obtain ⟨u, rfl, ru⟩ := vals1 r
  cases ru
  obtain ⟨hd, xs, rel, dd⟩ := nd_at I ha hk
  have e := rel.len
  refine call_len_dictH hd dd (by omega) ?_
  rw [← e]
  exact ⟨.int es.length, H, I.tok _, ⟨_, rfl⟩, q⟩
end
end DL
set_option maxHeartbeats 200000
set_option Elab.async false
set_option linter.all false
set_option maxRecDepth 100000
set_option maxHeartbeats 1000000
namespace DL
open PySem PySem.Spec PyProof.Rows L2
abbrev KvN := List (NestedKey × PyData)
def getN (kvs : KvN) (k : NestedKey) : Option PyData := (kvs.find? fun kv => decide (kv.1 = k)).map (·.2)
structure NkOk (k : NestedKey) : Prop where
  tup : ∃ ks, k = .tup ks
  dep : k.depth ≤ 8
abbrev KvNOk (kvs : KvN) : Prop := ∀ kv ∈ kvs, NkOk kv.1
def mkN (P : Program) (w : World) (a : Addr) (ks : List NestedKey) (vs : List V) : HO := NdO P w a (ks.zip (((vs.take ks.length).map adr).zip (vs.drop ks.length)))
def ndC (P : Program) (w : World) (a : Addr) (kvs : KvN) : C := .gen (some a) (mkN P w a (kvs.map (·.1))) (kvs.map (fun kv => kv.1.data) ++ kvs.map (·.2))
def EsN (K : PySem.W.Frag) (F : Hp) : List EnN → KvN → Prop := Paired fun e kv => e.1 = kv.1 ∧ NkAt K F e.1 e.2.1 ∧ Dq K F e.2.2 kv.2
theorem nk_v {K : PySem.W.Frag} {F : Hp} {v : V} {k : NestedKey} (h : Dq K F v k.data) (hk : NkOk k) : ∃ b, v = .ref b ∧ NkAt K F k b := by
  obtain ⟨ks, rfl⟩ := hk.tup
  cases h with
  | tup hs ha hp => exact ⟨_, rfl, .tup hs ha hp, hk.dep⟩
theorem EsN.len {K : PySem.W.Frag} {F : Hp} {es : List EnN} {kvs : KvN} (h : EsN K F es kvs) : es.length = kvs.length := Paired.length h
theorem EsN.keys {K : PySem.W.Frag} {F : Hp} : ∀ {es : List EnN} {kvs : KvN}, EsN K F es kvs → KeysN K F es
  | _, _, .nil => fun x hx => nomatch hx
  | _, _, .cons h t => fun x hx => by
    rcases List.mem_cons.mp hx with rfl | hx
    · exact h.2.1
    · exact EsN.keys t x hx
theorem KeysN.mono {K : PySem.W.Frag} {F H : Hp} {es : List EnN} (e : Same F H) (h : KeysN K F es) : KeysN K H es := fun x hx => ⟨dp_mono e _ _ (h x hx).1, (h x hx).2⟩
theorem EsN.val {K : PySem.W.Frag} {F : Hp} {k : NestedKey} : ∀ {es : List EnN} {kvs : KvN}, EsN K F es kvs → (∀ v, valN es k = some v → ∃ x, getN kvs k = some x ∧ Dq K F v x) ∧ (valN es k = none → getN kvs k = none)
  | _, _, .nil => ⟨fun x e => (by cases e), fun _ => rfl⟩
  | e :: es, kv :: kvs, .cons h t => by
    have ih := EsN.val (k := k) t
    unfold getN valN at *
    rw [List.find?_cons, List.find?_cons, h.1]
    by_cases g : kv.1 = k
    · rw [decide_eq_true g]
      exact ⟨fun x hx => ⟨kv.2, rfl, (by cases hx; exact h.2.2)⟩, fun z => (by cases z)⟩
    · rw [decide_eq_false g]
      exact ih
theorem esn_zip {K : PySem.W.Frag} {F : Hp} : ∀ {kvs : KvN} {bs us : List V}, KvNOk kvs → DqAll K F bs (kvs.map fun kv => kv.1.data) → DqAll K F us (kvs.map (·.2)) → EsN K F ((kvs.map (·.1)).zip ((bs.map adr).zip us)) kvs
  | [], _, _, _, h, h' => .nil
  | kv :: kvs, _, _, hk, h, h' => by
    cases h with
    | cons h1 h2 =>
      cases h' with
      | cons h3 h4 =>
        obtain ⟨b, rfl, hb⟩ := nk_v h1 (hk kv List.mem_cons_self)
        exact .cons ⟨rfl, hb, h3⟩ (esn_zip (fun x hx => hk x (List.mem_cons_of_mem _ hx)) h2 h4)
theorem esn_of {K : PySem.W.Frag} {F : Hp} {P : Program} {w : World} {a : Addr} {kvs : KvN} {vs : List V} (hk : KvNOk kvs) (h : DqAll K F vs (kvs.map (fun kv => kv.1.data) ++ kvs.map (·.2))) : ∃ es, EsN K F es kvs ∧ mkN P w a (kvs.map (·.1)) vs = NdO P w a es := by
  have h1 := dpAll_take kvs.length h
  have h2 := dpAll_drop kvs.length h
  rw [List.take_left' (by rw [List.length_map])] at h1
  rw [List.drop_left' (by rw [List.length_map])] at h2
  refine ⟨_, esn_zip hk h1 h2, ?_⟩
  unfold mkN
  rw [List.length_map]
theorem of_esn {K : PySem.W.Frag} {F : Hp} {P : Program} {w : World} {a : Addr} {kvs : KvN} {es : List EnN} (h : EsN K F es kvs) : ∃ vs, DqAll K F vs (kvs.map (fun kv => kv.1.data) ++ kvs.map (·.2)) ∧ mkN P w a (kvs.map (·.1)) vs = NdO P w a es := by
  refine ⟨es.map (fun e => V.ref e.2.1) ++ es.map (·.2.2), ?_, ?_⟩
  · refine dpAll_app ?_ ?_
    · induction h with
      | nil => exact .nil
      | cons h t ih => exact .cons (by have := h.2.1.1; rw [h.1] at this; exact this) ih
    · induction h with
      | nil => exact .nil
      | cons h t ih => exact .cons h.2.2 ih
  · unfold mkN
    have hl := h.len
    rw [List.length_map, List.take_left' (by rw [List.length_map]; exact hl), List.drop_left' (by rw [List.length_map]; exact hl)]
    congr 1
    clear hl
    induction h with
    | nil => rfl
    | @cons e kv es kvs h t ih =>
      simp only [List.map_cons, List.zip_cons_cons]
      rw [ih, ← h.1]
      rfl
section
variable {B : B0} {X : Cx} {e e2 f : Expr} {δ : St'} {N : St' → Prop} {Φ R : PE1} {pp pos pos' p p2 apos : Pos} {pn x : Str} {kvs0 : KvN} {a0 : Addr}
theorem cell_nd {B : Bs} {σ : List (Option V)} {F H : Hp} {i : Nat} {P : Program} {w : World} (hk : KvNOk kvs0) (r : Rep B δ σ F H) (hi : δ.s[i]? = some (some (ndC P w a0 kvs0))) : ∃ es, σ[i]? = some (some (.ref a0)) ∧ B.H a0 = none ∧ F a0 = none ∧ H a0 = some (NdO P w a0 es) ∧ EsN B.K F es kvs0 ∧ KeysN B.K H es := by
  obtain ⟨u, hu, a, vs, rfl, hB, hF, hH, hpa, hd⟩ := r.cell i _ hi
  obtain rfl : a = a0 := hpa a0 rfl
  obtain ⟨es, h1, h2⟩ := esn_of (P := P) (w := w) (a := a) hk hd
  exact ⟨es, hu, hB, hF, by rw [hH, h2], h1, h1.keys.mono r.ex⟩
theorem nd_cell {B : Bs} {F H : Hp} {P : Program} {w : World} {a : Addr} {kvs : KvN} {es : List EnN} (hB : B.H a = none) (hF : F a = none) (hH : H a = some (NdO P w a es)) (h : EsN B.K F es kvs) : CellOk B F H (ndC P w a kvs) (.ref a) := by
  obtain ⟨vs, h1, h2⟩ := of_esn (P := P) (w := w) (a := a) h
  exact ⟨a, vs, rfl, hB, hF, by rw [hH, ← h2], fun p hp => by injection hp, h1⟩
/-- x = {} -/
theorem ds_nnew (i : Nat) (h : ∀ a, N (δ.put i (ndC X.prog X.w a []))) (hN : X.N.Nodup) (hi : X.N[i]? = some x := by rfl) (hx : Loc X.env.scope x := by first | exact .inl rfl | exact .inr rfl)
    (hs : swapsWith (.Dict [] [] p2) (some (.Name x pos')) pos.line X.env = pure false := by rfl) (hf : X.fn x = true ∨ X.env.scope.names.lookup x = some .local := by first | exact .inl rfl | exact .inr rfl) : DS B X (.Assign [.Name x pos'] (.Dict [] [] p2) pos) δ N R :=
  .of (ps_set hN hi hx pe_nnew hs hf) fun σ F H r D hn hr => fun p hp => by
    obtain ⟨j1, j2, j3, j4⟩ := r.fresh hp
    have r1 := r.side (o := NdO X.prog X.w p []) j2 j1 j4
    exact hn _ _ F _ (Same.refl F) (r1.putO i (c := ndC X.prog X.w p []) j4 (nd_cell j1 j2 upd_same .nil)) (h p)
/-- len(d) -/
theorem de_lenN (i : Nat) (hm : X.mg "len" = none) (hk : KvNOk kvs0) (hl : kvs0.length ≤ 1000) (h : Φ (.int (kvs0.length : Nat)) δ) (hi : δ.s[i]? = some (some (ndC X.prog X.w a0 kvs0)) := by rfl) (hN : X.N[i]? = some x := by rfl)
    (hv : Vis X.env.scope x := by first | exact Or.inl rfl | exact Or.inr (Or.inl rfl) | exact Or.inr (Or.inr rfl)) (hd : (x == ("__debug__" : Str)) = false := by decide) (hcd : (x == ("__classdict__" : Str)) = false := by decide)
    (hg : Gl X "len" := by rfl) (he : starEach [.Name x p2] X.env = (false, eval (.Name x p2) X.env) :: starEach [] X.env := by rfl) (hpl : (backTo pos (starEach [] X.env)).any (·.1) = false := by rfl) :
    DE B X (.Call (.Name "len" p) [.Name x p2] [] pos) δ Φ := .of (pe_callB call_lenN hg hm boot_len (pa_cons (pe_var hN hv hd hcd) pa_nil he) (by decide) (by decide) he hpl) fun σ F H r Q q => by
  obtain ⟨es, hu, hB, hF, hH, hE, hK⟩ := cell_nd hk r hi
  refine ⟨.ref a0, hu, a0, es, rfl, hH, hK, by rw [hE.len]; exact hl, ?_⟩
  rw [hE.len]
  exact q _ _ δ F H (Same.refl F) r (.int _) h
/-- d.setdefault(e, f) -/
theorem de_nsetd (i : Nat) (hu : X.A.units + 9 < cLine) (m : M2 X (.Name pn pp) "setdefault" apos e f p2) (hk0 : KvNOk kvs0) (h : DE B X e δ fun y δ1 => DE B X f δ1 fun z δ' => ∃ (a : Addr) (kvs : KvN) (k : NestedKey), y = k.data ∧ NkOk k ∧ KvNOk kvs ∧ δ'.s[i]? = some (some (ndC X.prog X.w a kvs)) ∧ kvs.length ≤ 1000 ∧
      (∀ x, getN kvs k = some x → Φ x δ') ∧ (getN kvs k = none → Φ z (δ'.put i (ndC X.prog X.w a (kvs ++ [(k, z)])))))
    (hi : δ.s[i]? = some (some (ndC X.prog X.w a0 kvs0)) := by rfl) (hN : X.N[i]? = some pn := by rfl)
    (hv : Vis X.env.scope pn := by first | exact Or.inl rfl | exact Or.inr (Or.inl rfl) | exact Or.inr (Or.inr rfl)) (hd : (pn == ("__debug__" : Str)) = false := by decide) (hcd : (pn == ("__classdict__" : Str)) = false := by decide) :
    DE B X (.Call (.Attribute (.Name pn pp) "setdefault" apos) [e, f] [] p2) δ Φ := .of (pe_nsetd hu (pe_var hN hv hd hcd) pe_w pe_w m) fun σ F H r Q q => by
  obtain ⟨es0, hu', hB, hF, hH, _, hK0⟩ := cell_nd hk0 r hi
  refine ⟨.ref a0, hu', a0, es0, rfl, hH, hK0, h σ F H r _ fun w y δ1 F1 H1 e1 r1 dw p1 => p1 σ F1 H1 r1 _ fun v z δ' F' H' e2 r' dz ⟨a, kvs, k, hy, hk, hks, hi2, hl, p, p'⟩ => ?_⟩
  subst hy
  obtain ⟨es, hu2, hB2, hF2, hH2, hE, hK⟩ := cell_nd hks r' hi2
  rw [hu'] at hu2
  obtain rfl : a0 = a := by injection hu2 with h1; injection h1 with h1; injection h1
  obtain ⟨b, rfl, hb⟩ := nk_v dw hk
  have hb' : NkAt X.K H' k b := ⟨dp_mono r'.ex _ _ (dp_mono e2 _ _ hb.1), hb.2⟩
  obtain ⟨g1, g2⟩ := hE.val (k := k)
  refine ⟨es, b, k, hH2, hK, rfl, hb', by rw [hE.len]; exact hl, fun u hu3 => ?_, fun hn => ?_⟩
  · obtain ⟨x, hx, dx⟩ := g1 u hu3
    exact q _ _ δ' F' H' (e1.trans e2) r' dx (p x hx)
  · refine q v z _ F' _ (e1.trans e2) (r'.write (c2 := ndC X.prog X.w a0 (kvs ++ [(k, z)])) hi2 rfl hu' hB2 hF2 rfl (nd_cell hB2 hF2 upd_same ?_)) dz (p' (g2 hn))
    exact Paired.snoc hE ⟨rfl, ⟨dp_mono e2 _ _ hb.1, hb.2⟩, dz⟩
end
end DL
set_option maxHeartbeats 200000
set_option Elab.async false
set_option linter.all false
set_option maxRecDepth 100000
set_option maxHeartbeats 2000000
namespace DL
open PySem PySem.Spec PyProof.Rows L2
end DL
set_option maxHeartbeats 200000
set_option Elab.async false
set_option linter.all false
set_option maxRecDepth 100000
set_option maxHeartbeats 2000000
namespace HotX
open PySem PySem.Spec PyProof.Rows
end HotX
namespace L2H
open PySem PySem.Spec PyProof.Rows L2 HotX
end L2H
namespace DL
open PySem PySem.Spec PyProof.Rows L2 L2H
end DL
set_option maxHeartbeats 200000
set_option Elab.async false
set_option linter.all false
set_option maxRecDepth 100000
set_option maxHeartbeats 2000000
namespace L2H
open PySem PySem.Spec PyProof.Rows L2 HotX
end L2H
set_option maxHeartbeats 200000
set_option Elab.async false
set_option linter.all false
set_option maxRecDepth 100000
set_option maxHeartbeats 2000000
namespace HotX
open PySem PySem.Spec PyProof.Rows
end HotX
namespace L2H
open PySem PySem.Spec PyProof.Rows L2 HotX
end L2H
namespace DL
open PySem PySem.Spec PyProof.Rows L2 L2H
end DL
set_option maxHeartbeats 200000
set_option Elab.async false
set_option linter.all false
set_option maxRecDepth 100000
set_option maxHeartbeats 2000000
namespace DL
open PySem PySem.Spec PyProof.Rows L2 L2H
end DL
set_option maxHeartbeats 200000
set_option Elab.async false
set_option linter.all false
set_option maxRecDepth 100000
set_option maxHeartbeats 2000000
namespace PySem.W
open PySem PySem.Spec PySem.Calls PyProof.Rows
end PySem.W
set_option maxHeartbeats 200000
set_option Elab.async false
set_option linter.all false
set_option maxRecDepth 100000
set_option maxHeartbeats 2000000
namespace DL
open PySem PySem.Spec PyProof.Rows L2 L2H
/-- what a def promises where p's object is pinned -/
structure FnQ (P : Program) (w : World) (K : PySem.W.Frag) (mg : Str → Option Value) (base : Heap) (k : Nat) (f : Addr) (fd : FuncData) (ps : List Str) (spp : Addr × Obj → Sp) : Prop where
  ln : ∀ p vs H Q E, spp p vs H Q E → vs.length = ps.length
  go : ∀ (A : Around) (out : List Env) (s : Shared) (H : Hp) (ar : Args) (us : List Value) (xs : List V) (Q : VK) (E : XK) (p : Addr × Obj), RoomH k A → PinOk out H s p → Env0 P w K mg base A out s H → BindsTo s fd ar (ps.zip us) → Vals xs us → spp p xs H Q E →
    codeAny (model P w) A (.call (.ref f) ar) (CR CX0 out P w H s Q E) s
section
variable {P : Program} {w : World} {K : PySem.W.Frag} {mg : Str → Option Value} {base : Heap} {x qual : Str} {st : Stmt} {f : Addr} {fd : FuncData} {N ps : List Str} {k : Nat} {spp : Addr × Obj → Sp}
theorem FnQ.of {dvs : List V} {kws : List (Str × V)} (F : FunD K x qual (defArgs st) (defBody st) (defScope st) dvs kws f fd) (sc : FnScope N ps (defScope st)) (ln : ∀ p xs H Q E, spp p xs H Q E → xs.length = ps.length)
    (bd : ∀ (cdv : Value) (A : Around) (out : List Env) (s : Shared) (H : Hp) (xs : List V) (Q : VK) (E : XK) (p : Addr × Obj), RoomH k (A.deeper (envOfC qual (defScope st) s.heap.objs.size f cdv)) → spp p xs H Q E →
      ∃ t, PSs (cxH CX0 P w K mg base N qual (defScope st) f cdv A out s H E p) (defBody st) t ∧ t { nx := fun _ G => Q .non G, rt := Q } (L2.start N xs) H) : FnQ P w K mg base (k + 1) f fd ps spp := by
  obtain ⟨o1, o2, d1, d2, c1, c2, an, cdv, ct, sl, rfl, hlk, hcode, -, -⟩ := F.ex
  constructor
  · exact ln
  intro A out s H ar us xs Q E p rm pin ev hbd hv hp
  have long := ln p xs H Q E hp
  have inK : K.In s.heap := ev.mod.kin.keeps fun a o e => (ev.bs a o e).1
  have nol : s.heap.NoLimit := ev.mod.nolimit.keeps fun a o e => (ev.bs a o e).1
  have kinds : ∀ y, y ∈ ps.zip us → (defScope st).names.lookup y.1 = some .local ∨ ((defScope st).names.lookup y.1 = some .cell ∧ ((cellsFrom (s.heap.objs.size + 1) (defScope st).names []).lookup y.1).isSome = true) := by
    intro y hy
    cases sc.par y.1 (List.of_mem_zip hy).1 with
    | inl h => exact .inl h
    | inr h => exact .inr ⟨h, PySem.W.cellsFrom_some _ _ _ (.inl h)⟩
  apply codeAny_call_function rm.depth (inK _ _ hlk) rfl sc.co sc.gen rfl (PySem.W.codeRec_of inK hcode)
  apply hbd
  apply wpAny_newFunctionEnv_cells sc.kind kinds
  intro env0 rfl s1 made
  constructor
  · exact nol.keeps made.toInCall.keep
  apply codeAny_func
  obtain ⟨t, run, now⟩ := bd cdv A out s H xs Q E p (rm.deeper _) hp
  have inv := inv_startH (CX := CX0) (E := E) sc pin ev long hv made
  refine wpAny_mono (run.run [] s1 _ H _ inv now) ?_ fun _ _ z => z
  intro fl s2 hs
  cases fl with
  | brk => obtain ⟨_, _, _, z⟩ := hs; exact z.elim
  | cont => obtain ⟨_, _, _, z⟩ := hs; exact z.elim
  | next => obtain ⟨_, H2, J, z⟩ := hs; exact ⟨.non, H2, J.os, J.bare, J.base, J.hok, rfl, z⟩
  | ret u => obtain ⟨v, _, H2, J, rv, z⟩ := hs; exact ⟨v, H2, J.os, J.bare, J.base, J.hok, rv, z⟩
end
/-- refusals of either kind, by their class -/
def TakesA (B : B0) (X : Cx) (Ξ : Value → St' → Prop) : Prop := ∃ W : WX, Takes X W ∧ (∀ cls δ σ F H, Rep (bs X B) δ σ F H → Ξ cls δ → W cls none σ H) ∧
  ∀ cls dd (ns : List Str) (us : List V) (xs : List PyData) δ σ F H, Rep (bs X B) δ σ F H → B.H dd = none → F dd = none → H dd = some (.xd (ns.zip us)) → DqAll X.K F us xs → Ξ cls δ → W cls (some dd) σ H
theorem TakesA.d {B : B0} {X : Cx} {Ξ : Value → St' → Prop} (h : TakesA B X Ξ) : TakesD B X Ξ := by
  obtain ⟨W, h1, h2, _⟩ := h
  exact ⟨W, h1, h2⟩
theorem TakesA.p {B : B0} {X : Cx} {Ξ : Value → St' → Prop} (h : TakesA B X Ξ) : TakesDP B X fun cls _ δ => Ξ cls δ := by
  obtain ⟨W, h1, _, h3⟩ := h
  exact ⟨W, h1, h3⟩
end DL
set_option maxHeartbeats 200000
set_option Elab.async false
set_option linter.all false
set_option maxRecDepth 100000
set_option maxHeartbeats 1000000
namespace DL
open PySem PySem.Spec PyProof.Rows L2
open PySem.W (Datum)
def rIdxD (α : Type) [DecidableEq α] [Datum α] (K : PySem.W.Frag) : V → List V → Hp → VK → Prop := fun x xs H Q => ∃ (a : Addr) (us : List V) (l : List α) (y : V) (z : α), x = .ref a ∧ xs = [y] ∧ SqL K H a us ∧ DpAll K H us (l.map Datum.toD) ∧ Dp K H y (Datum.toD z) ∧ z ∈ l ∧ Datum.depth α ≤ 60 ∧ Q (.int (l.idxOf z : Nat)) H
theorem mt_indexD {α : Type} [DecidableEq α] [Datum α] {X : Cx} (hu : X.A.units + 64 < cLine) : MtR X "list.index" (rIdxD α X.K) := by
  intro pins s σ H x xs v us' Q I rx rxs h
  obtain ⟨a, us, l, y, z, rfl, rfl, hS, hd, hy, hz, hdep, q⟩ := h
  cases rx
  obtain ⟨u, rfl, ru⟩ := rxs.one
  obtain ⟨its, rv, ⟨o, n, ho, hcl, hdn, hda⟩, hsz⟩ := I.list hS
  obtain ⟨as, r1⟩ := Dp.readsAll I _ _ its hd rv
  obtain ⟨bs, r2⟩ := Dp.reads I _ y u hy ru
  have hl : l.length = its.length := by
    have e1 := dp0_len hd
    rw [List.length_map] at e1
    rw [← e1]
    exact rv.length
  refine PySem.W.index_list_datum (α := α) (x := z) (xs := l) (vs := its) ⟨o, ho, hcl, n, hda⟩ ⟨as, r1⟩ ⟨bs, r2⟩ (by omega) (by rw [hl, ← rv.length]; exact hsz) hz ⟨.int _, H, I.tok _, ⟨_, rfl⟩, q⟩
section
variable {B : B0} {X : Cx} {e : Expr} {δ : St'} {Φ : PE1} {p2 : Pos}
theorem de_indexM (α : Type) [DecidableEq α] [Datum α] {o : Expr} {apos : Pos} (hu : X.A.units + 64 < cLine) (h : DE B X o δ fun x δ1 => ∃ l : List α, x = .list (l.map Datum.toD) ∧ DE B X e δ1 fun y δ2 => ∃ z : α, y = Datum.toD z ∧ z ∈ l ∧ Datum.depth α ≤ 60 ∧ Φ (.int (l.idxOf z : Nat)) δ2)
    (hbase : attributeBase o "index" X.env (eval o X.env) = eval o X.env := by rfl)
    (hfew : ((backTo p2 (starEach [e] X.env)).all (fun x => !x.1) && (backToKw p2 (keywordEach [] X.env)).all (fun x => x.1.isSome)
      && decide ([e].length + ([] : List Keyword).length + (if ([] : List Keyword).isEmpty then 0 else 1) < 30)) = true := by rfl)
    (hline : (apos.endLine == p2.line) = true := by rfl) (hs : starEach [e] X.env = (false, eval e X.env) :: starEach [] X.env := by rfl) (hplain : (backTo p2 (starEach [] X.env)).any (·.1) = false := by rfl) :
    DE B X (.Call (.Attribute o "index" apos) [e] [] p2) δ Φ := .of (pe_bm PySem.F.plainAttrs_list PySem.F.slot_list_index PySem.F.type_list_index (mt_indexD (α := α) hu) pe_w (pa_cons pe_w pa_nil hs) hbase hfew hline hs hplain) fun σ F H r Q q =>
  h σ F H r _ fun v x δ1 F1 H1 e1 r1 d1 ⟨l, hx, p1⟩ => by
    subst hx
    cases d1 with
    | lst hsq ha =>
      refine ⟨.inl ⟨rfl, _, r1.ex.seq hsq⟩, p1 σ F1 H1 r1 _ fun u y δ2 F2 H2 e2 r2 d2 ⟨z, h1, h2, h3, p2⟩ => ?_⟩
      subst h1
      exact ⟨_, _, l, u, z, rfl, rfl, (e2.trans r2.ex).seq hsq, dqs_dps _ _ (noHs_plain _ (PySem.W.plainAll_map l)) (dpAll_mono (e2.trans r2.ex) _ _ ha), dq_dp _ _ (noH_plain _ (Datum.plain z)) (dp_mono r2.ex _ _ d2), h2, h3, q _ _ δ2 F2 H2 (e1.trans e2) r2 (.int _) p2⟩
end
end DL
set_option maxHeartbeats 200000
set_option Elab.async false
set_option linter.all false
set_option maxRecDepth 100000
set_option maxHeartbeats 1000000
namespace DL
open PySem PySem.Spec PyProof.Rows L2
section
variable {B : B0} {X : Cx} {a b e f : Expr} {δ : St'} {Φ : PE1} {pp pos p p2 p3 apos q : Pos} {pn x : Str}
/-- d.setdefault(e, f), d a dict of our own -/
theorem de_dsetd (i : Nat) {kvs0 : List (L2.Key × PyData)} (m : M2 X (.Name pn pp) "setdefault" apos e f p2) (h : DE B X e δ fun y δ1 => DE B X f δ1 fun z δ' => ∃ (kvs : List (L2.Key × PyData)) (k : L2.Key), y = keyD k ∧ δ'.s[i]? = some (some (.dct kvs)) ∧ kvs.length ≤ 1000 ∧
      (∀ x, getD' kvs k = some x → Φ x δ') ∧ (getD' kvs k = none → Φ z (δ'.put i (.dct (putD kvs k z)))))
    (hi : δ.s[i]? = some (some (.dct kvs0)) := by rfl) (hN : X.N[i]? = some pn := by rfl)
    (hv : Vis X.env.scope pn := by first | exact Or.inl rfl | exact Or.inr (Or.inl rfl) | exact Or.inr (Or.inr rfl)) (hd : (pn == ("__debug__" : Str)) = false := by decide) (hcd : (pn == ("__classdict__" : Str)) = false := by decide) :
    DE B X (.Call (.Attribute (.Name pn pp) "setdefault" apos) [e, f] [] p2) δ Φ := .of (pe_dsetd (pe_var hN hv hd hcd) pe_w pe_w m) fun σ F H r Q q => by
  obtain ⟨u, hu', a, us, rfl, hB, hF, hH, hdd⟩ := r.cell i _ hi
  refine ⟨.ref a, hu', a, rfl, .inl ⟨_, .inl hH⟩, h σ F H r _ fun w y δ1 F1 H1 e1 r1 dw p1 => p1 σ F1 H1 r1 _ fun v z δ' F' H' e2 r' dz ⟨kvs, k, hy, hi2, hl, p, p'⟩ => ?_⟩
  subst hy
  obtain ⟨u2, hu2, a2, us2, rfl, hB2, hF2, hH2, hdd2⟩ := r'.cell i _ hi2
  rw [hu'] at hu2
  have : a = a2 := by injection hu2 with h1; injection h1 with h1; injection h1
  subst this
  obtain ⟨g1, g2⟩ := get_v hdd2 k
  refine ⟨_, k, hH2, keyD_v dw, ?_, fun u hu3 => ?_, fun hn => ?_⟩
  · rw [sizeLine_eq, List.length_zip, List.length_map]
    omega
  · cases eg : getD' kvs k with
    | none => rw [g2 eg] at hu3; cases hu3
    | some x =>
      obtain ⟨u4, h4, d4⟩ := g1 x eg
      rw [hu3] at h4
      injection h4 with h4
      subst h4
      exact q _ _ δ' F' H' (e1.trans e2) r' d4 (p x eg)
  · have eg : getD' kvs k = none := by
      cases eg : getD' kvs k with
      | none => rfl
      | some x =>
        obtain ⟨u4, h4, _⟩ := g1 x eg
        rw [hn] at h4; cases h4
    obtain ⟨vs', g3, g4⟩ := put_v (k := k) dz hdd2
    rw [g3]
    exact q v z _ F' _ (e1.trans e2) (r'.write (c2 := .dct (putD kvs k z)) hi2 rfl hu' hB2 hF2 rfl ⟨a, vs', rfl, hB2, hF2, upd_same, g4⟩) dz (p' eg)
/-- e not in x, e in x: x a list of our own of flat things -/
theorem dt_niO (i : Nat) {xs0 : List PyData} {Ψ : Bool → St' → Prop} (h : DE B X e δ fun y δ' => ∃ xs, δ'.s[i]? = some (some (.own xs)) ∧ atom y = true ∧ xs.all atom = true ∧ Ψ (!inV (toV y) (xs.map toV)) δ') (hi : δ.s[i]? = some (some (.own xs0)) := by rfl) (hN : X.N[i]? = some pn := by rfl)
    (hv : Vis X.env.scope pn := by first | exact Or.inl rfl | exact Or.inr (Or.inl rfl) | exact Or.inr (Or.inr rfl)) (hd : (pn == ("__debug__" : Str)) = false := by decide) (hcd : (pn == ("__classdict__" : Str)) = false := by decide) (hm : behindInMarks .NotIn (.Name pn pp) = false := by with_unfolding_all rfl) :
    DT B X (.Compare e [.NotIn] [.Name pn pp] pos) δ Ψ := .of (pt_cmpR op_notIn_seq pe_w (pe_var hN hv hd hcd) hm) fun σ F H r Q q =>
  h σ F H r _ fun v y δ' F' H' e' r' dd ⟨xs, hi2, ha, hb, ph⟩ => by
    obtain ⟨u, hu, a, vs, rfl, hB, hF, hH, hdd⟩ := r'.cell i _ hi2
    have e1 := atom_v dd ha
    have e2 := atoms_v hdd hb
    subst e1
    subst e2
    refine ⟨.ref a, hu, a, _, rfl, .inl (.inl (.inl hH)), flat_toV y, ?_, ⟨_, rfl, ?_⟩⟩
    · rw [List.all_map, List.all_eq_true]
      exact fun z _ => flat_toV z
    · exact q _ δ' F' H' e' r' ph
/-- x != [], x a list of our own -/
theorem dt_neNilO (i : Nat) {xs : List PyData} {Ψ : Bool → St' → Prop} (hu : X.A.units + 64 < cLine) (h : Ψ (!xs.isEmpty) δ) (hi : δ.s[i]? = some (some (.own xs)) := by rfl) (hN : X.N[i]? = some pn := by rfl)
    (hv : Vis X.env.scope pn := by first | exact Or.inl rfl | exact Or.inr (Or.inl rfl) | exact Or.inr (Or.inr rfl)) (hd : (pn == ("__debug__" : Str)) = false := by decide) (hcd : (pn == ("__classdict__" : Str)) = false := by decide) (hm : behindInMarks .NotEq (.List [] p2) = false := by first | exact nomark _ | with_unfolding_all rfl) :
    DT B X (.Compare (.Name pn pp) [.NotEq] [.List [] p2] pos) δ Ψ := .of (pt_cmpR (op_neNil hu) (pe_var hN hv hd hcd) (pe_w (e := .List [] p2)) hm) fun σ F H r Q q => by
  obtain ⟨u, hu2, a, vs, rfl, hB, hF, hH, hdd⟩ := r.cell i _ hi
  refine ⟨.ref a, hu2, (dl_lst (B := B) (X := X) (es := []) (δ := δ) (pos := p2) (Φ := fun ys δ' => ys = [] ∧ δ' = δ) (da_nil ⟨by decide, rfl, rfl⟩)) σ F H r _ fun b ws ys δ' F' H' e' r' hB' hF' hH' hap hd' ⟨hy, hδ⟩ => ?_⟩
  subst hy hδ
  cases hd'
  obtain ⟨u3, hu3, a3, vs3, e3, hB3, hF3, hH3, hdd3⟩ := r'.cell i _ hi
  rw [hu2] at hu3
  injection hu3 with hu3
  injection hu3 with hu3
  rw [← hu3] at e3
  injection e3 with e3
  subst e3
  refine ⟨a, b, vs3, rfl, rfl, .inl (.inl hH3), .inl (.inl hH'), ⟨_, rfl, ?_⟩⟩
  rw [isEmpty_dq hdd3]
  exact q _ _ F' H' e' r' h
/-- x.index(e), x a list of our own of numbers -/
theorem de_indexO (i : Nat) {xs0 : List PyData} (hu : X.A.units + 64 < cLine) (h : DE B X e δ fun y δ' => ∃ (l : List Int) (z : Int), δ'.s[i]? = some (some (.own (l.map PyData.int))) ∧ y = .int z ∧ z ∈ l ∧ Φ (.int (l.idxOf z : Nat)) δ') (hi : δ.s[i]? = some (some (.own xs0)) := by rfl) (hN : X.N[i]? = some pn := by rfl)
    (hv : Vis X.env.scope pn := by first | exact Or.inl rfl | exact Or.inr (Or.inl rfl) | exact Or.inr (Or.inr rfl)) (hd : (pn == ("__debug__" : Str)) = false := by decide) (hcd : (pn == ("__classdict__" : Str)) = false := by decide)
    (hbase : attributeBase (.Name pn pp) "index" X.env (eval (.Name pn pp) X.env) = eval (.Name pn pp) X.env := by rfl)
    (hfew : ((backTo p2 (starEach [e] X.env)).all (fun x => !x.1) && (backToKw p2 (keywordEach [] X.env)).all (fun x => x.1.isSome)
      && decide ([e].length + ([] : List Keyword).length + (if ([] : List Keyword).isEmpty then 0 else 1) < 30)) = true := by rfl)
    (hline : (apos.endLine == p2.line) = true := by rfl) (hs : starEach [e] X.env = (false, eval e X.env) :: starEach [] X.env := by rfl) (hplain : (backTo p2 (starEach [] X.env)).any (·.1) = false := by rfl) :
    DE B X (.Call (.Attribute (.Name pn pp) "index" apos) [e] [] p2) δ Φ := .of (pe_bm PySem.F.plainAttrs_list PySem.F.slot_list_index PySem.F.type_list_index (mt_indexD (α := Int) hu) (pe_var hN hv hd hcd) (pa_cons pe_w pa_nil hs) hbase hfew hline hs hplain) fun σ F H r Q q => by
  obtain ⟨u, hu1, a, vs, rfl, hB, hF, hH, hdd⟩ := r.cell i _ hi
  refine ⟨.ref a, hu1, .inl ⟨rfl, vs, .inl (.inl hH)⟩, ?_⟩
  refine h σ F H r _ fun v y δ' F' H' e1 r' d ⟨l, z, hi', hy, hz, p⟩ => ?_
  subst hy
  cases d
  obtain ⟨u', hu', a', vs', rfl, hB', hF', hH', hdd'⟩ := r'.cell i _ hi'
  rw [hu1] at hu'
  injection hu' with hu'
  injection hu' with hu'
  injection hu' with hu'
  subst hu'
  exact ⟨a, vs', l, .int z, z, rfl, rfl, .inl (.inl hH'), dqs_dps _ _ (by clear hdd' hH' p hi' hz; induction l with | nil => rfl | cons x l ih => exact ih) (dpAll_mono r'.ex _ _ hdd'), .int z, hz, by decide, q _ _ δ' F' H' e1 r' (.int _) p⟩
/-- list(range(e)) -/
theorem dl_listRg1 {Ψ : PL} (hl : X.mg "list" = none) (hrg : X.mg "range" = none) (h : DE B X b δ fun z δ2 => ∃ j : Int, z = .int j ∧ RgOk 0 j ∧ Ψ (rgD 0 j) δ2) (hc : X.calm = true := by rfl) (hg : Gl X "list" := by rfl) (hg2 : Gl X "range" := by rfl)
    (heb : starEach [b] X.env = (false, eval b X.env) :: starEach [] X.env := by rfl) (he2 : starEach [.Call (.Name "range" pp) [b] [] p2] X.env = (false, eval (.Call (.Name "range" pp) [b] [] p2) X.env) :: starEach [] X.env := by rfl) :
    DLs B X (.Call (.Name "list" p) [.Call (.Name "range" pp) [b] [] p2] [] pos) δ Ψ := .of (pe_listRg hc hg hl (prg_1 hg2 hrg pe_w (na := heb)) (na := he2)) fun σ F H r Q q => by
  refine h σ F H r _ fun u z δ2 F2 H2 e2 r2 d2 ⟨j, hz, hok, hΨ⟩ => ?_
  subst hz
  cases d2
  refine ⟨j, rfl, hok, fun p hp => ?_⟩
  obtain ⟨k1, k2, k3, k4⟩ := r2.newL hp (rgV 0 j)
  exact q p _ _ δ2 F2 _ e2 k1 k2 k3 upd_same k4 (rgD_v _) hΨ
/-- len(set(xs)), xs a list of ints -/
theorem de_lenSetI (hm : X.mg "len" = none) (hm2 : X.mg "set" = none) (h : DE B X a δ fun d δ' => ∃ ns : List Int, d = .list (ns.map PyData.int) ∧ ns.length ≤ 1000 ∧ ∀ ls : List Int, ls.Nodup → (∀ k, k ∈ ls ↔ k ∈ ns) → Φ (.int (ls.length : Nat)) δ')
    (hc : X.calm = true := by rfl) (hg : Gl X "len" := by rfl) (hg2 : Gl X "set" := by rfl) (he : starEach [a] X.env = (false, eval a X.env) :: starEach [] X.env := by rfl) (hpl : (backTo q (starEach [] X.env)).any (·.1) = false := by rfl)
    (he2 : starEach [.Call (.Name "set" p2) [a] [] q] X.env = (false, eval (.Call (.Name "set" p2) [a] [] q) X.env) :: starEach [] X.env := by rfl) (hpl2 : (backTo pos (starEach [] X.env)).any (·.1) = false := by rfl) :
    DE B X (.Call (.Name "len" p) [.Call (.Name "set" p2) [a] [] q] [] pos) δ Φ := .of (pe_callB cr_lenI hg hm boot_len (pa_cons (pe_callTy (cr_setLI hc) hg2 hm2 boot_set (pa_cons pe_w pa_nil he) (by decide) (by decide) he hpl) pa_nil he2) (by decide) (by decide) he2 hpl2) fun σ F H r Q qq =>
  h σ F H r _ fun v d δ' F' H' e' r' dd ⟨ns, hd, hl, pn⟩ => by
    subst hd
    cases dd with
    | lst hsq ha =>
      have hus := ints_v ha
      subst hus
      refine ⟨_, ns, rfl, r'.ex.seq hsq, hl, fun ls s hnd hls hq => ⟨s, _, _, rfl, upd_same, ?_⟩⟩
      obtain ⟨k1, k2, _, k4⟩ := r'.fresh hq
      exact qq _ _ δ' F' _ e' (r'.side (o := isetO X.w s ls) k2 k1 k4) (.int _) (pn ls hnd hls)
end
end DL
set_option maxHeartbeats 200000
set_option Elab.async false
set_option linter.all false
set_option maxRecDepth 100000
set_option maxHeartbeats 4000000
namespace K3
open PySem PySem.Spec PyProof.Rows L2 DL
open PySem.W (alike alikeAll dataLt dataLe AllAlike Sortable EachIs keyToks keyToksAll lex_pre)
variable {P : Program} {w : World} {K : PySem.W.Frag} {mg : Str → Option Value} {base : Heap} {f : Addr} {fd : FuncData} {k : Nat}
def ab2 : Str := "ab"
structure LtrOk (L : Str) : Prop where
  l1 : 1 ≤ L.length
  l2 : L.length ≤ 26
  cs : ∀ c ∈ L.cps.toList, 97 ≤ c ∧ c ≤ 122
theorem ltr_abc : LtrOk abc := ⟨by decide +kernel, by decide +kernel, by decide +kernel⟩
theorem ltr_ab2 : LtrOk ab2 := ⟨by decide +kernel, by decide +kernel, by decide +kernel⟩
theorem ltr_at {L : Str} (h : LtrOk L) {d : Int} (h0 : 0 ≤ d) (h1 : d < (L.length : Nat)) : ∃ c, atI L.cps.toList d = some c ∧ 97 ≤ c ∧ c ≤ 122 := by
  have hl : L.cps.toList.length = L.length := Array.length_toList
  rw [atI_nn h0, List.getElem?_eq_getElem (by omega)]
  exact ⟨_, rfl, h.cs _ (List.getElem_mem _)⟩
theorem cutS_from {z : Str} {k : Nat} (hk : k ≤ z.length) : cutS z (some (k : Int)) none = SX.S (z.cps.toList.drop k) := by
  unfold cutS
  rw [HT.sIx_nat, HT.sIx_none]
  have e : z.length = z.cps.toList.length := (Array.length_toList (xs := z.cps)).symm
  rw [Nat.min_eq_left (by omega)]
  rw [List.take_of_length_le (by rw [List.length_drop]; omega)]
def repN (wd : Str) (k c : Nat) : Str := SX.S (wd.cps.toList.take k ++ [c] ++ wd.cps.toList.drop (k + 1))
theorem rep_cat {wd : Str} {k c : Nat} (hk : k < wd.length) : cutS wd none (some (k : Int)) ++ (⟨#[c]⟩ : Str) ++ cutS wd (some ((k : Int) + 1)) none = repN wd k c := by
  rw [cutS_upto, show ((k : Int) + 1) = ((k + 1 : Nat) : Int) by omega, cutS_from (by omega), one_S, SX.S_cat, SX.S_cat]
  rfl
theorem rep_nm {wd : Str} {k c : Nat} (h : IsNm wd) (hk : k < wd.length) (hc : 97 ≤ c ∧ c ≤ 122) : IsNm (repN wd k c) := by
  have e : wd.length = wd.cps.toList.length := (Array.length_toList (xs := wd.cps)).symm
  have h1 := h.l1
  have h2 := h.l2
  refine nm_S ?_ ?_ fun x hx => ?_
  · rw [List.length_append, List.length_append, List.length_take, List.length_drop, List.length_singleton]; omega
  · rw [List.length_append, List.length_append, List.length_take, List.length_drop, List.length_singleton]; omega
  · rcases List.mem_append.mp hx with hx | hx
    · rcases List.mem_append.mp hx with hx | hx
      · exact h.cs x (List.mem_of_mem_take hx)
      · simp at hx
        subst hx
        exact hc
    · exact h.cs x (List.mem_of_mem_drop hx)
theorem rep_inj {wd : Str} {k c d : Nat} (h : repN wd k c = repN wd k d) : c = d := by
  have := congrArg (fun s : Str => s.cps.toList) h
  unfold repN at this
  simpa [SX.S] using this
theorem rep_nd (wd : Str) (k : Nat) : (lets.map (repN wd k)).Nodup := by
  unfold List.Nodup
  rw [List.pairwise_map]
  have : lets.Nodup := by decide +kernel
  exact this.imp fun {a b} hne z => hne (rep_inj z)
def someW (wd : Str) (k : Nat) : List Str := [wd] ++ lets.map (repN wd k)
theorem someW_nm {wd : Str} {k : Nat} (h : IsNm wd) (hk : k < wd.length) : ∀ x ∈ someW wd k, IsNm x := fun x hx => by
  rcases List.mem_append.mp hx with hx | hx
  · simp at hx
    subst hx
    exact h
  · obtain ⟨c, hc, rfl⟩ := List.mem_map.mp hx
    exact rep_nm h hk (lets_in c hc)
theorem someW_new {wd : Str} {k : Nat} {l : List Str} (h : l.length < 26) : ∃ x r, (someW wd k).filter (fun x => !decide (x ∈ l)) = x :: r := by
  cases e : (someW wd k).filter (fun x => !decide (x ∈ l)) with
  | cons x r => exact ⟨x, r, rfl⟩
  | nil =>
    rw [List.filter_eq_nil_iff] at e
    have := pig (lets.map (repN wd k)) l (rep_nd wd k) fun x hx => by
      have := e x (List.mem_append_right _ hx)
      simpa using this
    rw [List.length_map, lets_len] at this
    omega
def S_law_names : SpPO := fun n ds Φ => ∃ many : Nat, ds = [natD many] ∧ many ≤ 6 ∧ n + 100 < 1099511627776 ∧ ∀ (l : List Str), l.length = many → l.Nodup → (∀ x ∈ l, IsNm x) → Φ (l.map PyData.str) (n + 1 + 10 * many)
def envN (n : Nat) (many : Nat) (L : Str) (l : List Str) (c4 c5 c7 c8 : Option PyData) : St' := ⟨n, [some .pot, some (.d (natD many)), some (.d (.str L)), some (.own (l.map PyData.str)), c4.map C.d, c5.map C.d, none, c7.map C.d, c8.map C.d, none, none]⟩
theorem envN_own {n : Nat} {many : Nat} {L : Str} {l : List Str} {c4 c5 c7 c8 : Option PyData} : onlyOwn 3 (envN n many L l c4 c5 c7 c8).s 0 = true := by
  show (3 == 3 && onlyOwn 3 [c4.map C.d, c5.map C.d, none, c7.map C.d, c8.map C.d, none, none] 4) = true
  rw [onlyOwn_md, onlyOwn_md]
  show (true && onlyOwn 3 [c7.map C.d, c8.map C.d, none, none] 7) = true
  rw [onlyOwn_md, onlyOwn_md]
  rfl
def repD (wd : Str) (k : Nat) : PyData → PyData
  | .str s => .str (cutS wd none (some (k : Int)) ++ s ++ cutS wd (some ((k : Int) + 1)) none)
  | _ => .none
theorem ok__law_names (T : Tx mg) (GT : Fn P w K mg base "_law_take" 1 ["pot", "many"] (spP K S_law_take)) (F : Fd K "_law_names" s__law_names [] [] f fd) : FnOk P w K mg base CX0 2 f fd ["pot", "many"] (spPO K S_law_names) := by
  refine fnPO F sc__law_names (fun n ds Φ h => by obtain ⟨_, rfl, _⟩ := h; rfl) (fun B cdv A outer s H E n ds Φ hr hp hS => ?_)
  obtain ⟨many, rfl, hm, hn, hΦ⟩ := hS
  have nd := sc__law_names.nd
  refine dos_cons (ds_set 2 ?_ nd)
  refine de_ix ix_list (de_dl (dl_lst (da_cons (de_str (da_cons (de_str (da_nil ⟨by simp, de_fP (k' := 1) 0 GT hr (da_cons (de_int (da_nil ⟨2, rfl, by decide, by decide, by show n < _; omega, fun d h0 h1 => ?_⟩)))⟩)))))))
  obtain ⟨L, hL, hLi⟩ : ∃ L : Str, LtrOk L ∧ atI [PyData.str abc, .str ab2] d = some (.str L) := by
    have : d = 0 ∨ d = 1 := by omega
    rcases this with rfl | rfl
    · exact ⟨abc, ltr_abc, rfl⟩
    · exact ⟨ab2, ltr_ab2, rfl⟩
  refine rd_ixL hLi ?_
  have hL1 := hL.l1
  have hL2 := hL.l2
  refine dos_cons (ds_setO 3 (dl_lst (da_nil ⟨by decide, ?_⟩)) nd)
  refine dos_cons (ds_for [4] (pi_range1 rfl T.range pa_w) (pg_name (i := 4) nd rfl (.inl rfl)) (wi_rng1 (da_cons (de_nm 1 (da_nil ⟨_, rfl, ?_, ?_, ?_⟩)))))
  · omega
  · omega
  rw [Int.toNat_natCast]
  refine ⟨fun i δ => ∃ (l : List Str) (c4 c5 c7 c8 : Option PyData), δ = envN (n + 1 + 10 * i) many L l c4 c5 c7 c8 ∧ l.length = i ∧ l.Nodup ∧ ∀ x ∈ l, IsNm x, ⟨[], none, none, none, none, rfl, rfl, List.nodup_nil, by simp⟩, fun i y δ hy hI => ?_, fun δ hI => ?_⟩
  · obtain ⟨l, c4, c5, c7, c8, rfl, hl, hld, hln⟩ := hI
    obtain ⟨hi, rfl⟩ := rng_get hy
    refine wg_name ?_
    refine ds_cons (ds_set 5 ?_ nd)
    refine de_join (de_str ⟨_, rfl, de_dl (dl_lc [("turn", 6)] nd (pi_range1 rfl T.range pa_w) (blkOk_by (N := n__law_names) (sc := defScope s__law_names) (by decide +kernel)) (fun _ _ _ _ _ => pg_name (i := 6) nd rfl (Or.inl rfl)) (wi_rng1 (da_cons (de_bin op_add (de_int (de_fP (k' := 1) 0 GT hr (da_cons (de_int (da_nil ⟨8, rfl, by decide, by decide, ?_, fun d h0 h1 => rd_I0 (da_nil ⟨_, rfl, ?_, ?_, ?_⟩)⟩)))))))))⟩)
    · show n + 1 + 10 * i < _
      omega
    · omega
    · omega
    have hd : ((1 + d).toNat : Int) = 1 + d := by omega
    refine ⟨by rw [rng_len]; omega, fun j acc n2 => ∃ ys : List Str, acc = ys.map PyData.str ∧ ys.length = j ∧ (∀ y ∈ ys, ∃ c, y = (⟨#[c]⟩ : Str) ∧ 97 ≤ c ∧ c ≤ 122) ∧ n2 = n + 1 + 10 * i + 1 + j, ⟨[], rfl, rfl, by simp, rfl⟩, fun B' j y acc n2 hp' hy hac hI => wg_name ?_, fun acc n2 hac hI => ?_⟩
    · obtain ⟨ys, rfl, hys, hyc, rfl⟩ := hI
      have hj := (rng_get hy).1
      intro s0 H0 C cl fp
      refine de_ix ix_str (de_nm 2 (de_fP (k' := 1) 0 GT hr (da_cons (de_callB call_len T.len boot_len (da_cons (de_nm 2 (da_nil (rc_lenS rfl ?_ (da_nil ⟨_, rfl, ?_, ?_, ?_, fun d2 g0 g1 => ?_⟩)))))))))
      · omega
      · omega
      · omega
      · show n + 1 + 10 * i + 1 + j < _
        omega
      obtain ⟨c, hc1, hc2, hc3⟩ := ltr_at hL g0 g1
      refine rd_ixS (by omega) hc1 ⟨ys ++ [⟨#[c]⟩], by simp, by simp [hys], fun y hy => ?_, ?_⟩
      · rcases List.mem_append.mp hy with hy | hy
        · exact hyc y hy
        · simp at hy
          exact ⟨c, hy, hc2, hc3⟩
      · show n + 1 + 10 * i + 1 + j + 1 = _
        omega
    obtain ⟨ys, rfl, hys, hyc, rfl⟩ := hI
    rw [rng_len] at hys hac ⊢
    have hnm : IsNm (Txt.join (Str.ofString "") ys) := join_nm hyc (by omega) (by omega)
    refine ⟨ys, rfl, ?_, ?_⟩
    · rw [ones_len hyc]
      show ys.length + ys.length * 0 ≤ _
      omega
    generalize Txt.join (Str.ofString "") ys = wd at hnm
    have hw1 := hnm.l1
    have hw8 := hnm.l2
    refine ds_cons (ds_set 7 ?_ nd)
    refine de_fP (k' := 1) 0 GT hr (da_cons (de_callB call_len T.len boot_len (da_cons (de_nm 5 (da_nil (rc_lenS rfl ?_ (da_nil ⟨_, rfl, ?_, ?_, ?_, fun at' a0 a1 => ?_⟩)))))))
    · omega
    · omega
    · omega
    · show n + 1 + 10 * i + 1 + _ < _
      omega
    obtain ⟨k, rfl⟩ : ∃ k : Nat, at' = (k : Nat) := ⟨at'.toNat, by omega⟩
    have hk : k < wd.length := by omega
    refine dss_bump (n + 1 + 10 * (i + 1)) (by show n + 1 + 10 * i + 1 + _ + 1 ≤ _; omega) ?_
    refine ds_cons (ds_set 8 ?_ nd)
    refine de_dl (dl_cat (de_dl (dl_lst (da_cons (de_nm 5 (da_nil ⟨by simp, _, rfl, ?_⟩))))))
    refine de_dl (dl_map [("sign", 9)] nd (pi_str pe_w) (blkOk_by (N := n__law_names) (sc := defScope s__law_names) (by decide +kernel)) (fun _ _ _ _ _ => pg_name (i := 9) nd rfl (Or.inl rfl)) (wi_str (de_str ⟨abc, rfl, by decide +kernel, repD wd k, fun B' y hp' hy => wg_name ?_, _, rfl, by simp [signs_abc, lets_len], ?_⟩)))
    · rw [signs_abc] at hy
      obtain ⟨c, hc, rfl⟩ := List.mem_map.mp hy
      intro s0 H0 C cl fp
      refine de_bin op_add_str (de_bin op_add_str (de_slTo sl_str (de_nm 5 (de_nm 7 ⟨_, rfl, ru_slS ?_ (de_nm 9 (rd_addS ?_ (de_slFrom sl_str (de_nm 5 (de_bin op_add (de_nm 7 (de_int (rd_I0 ⟨_, rfl, ru_slS ?_ (rd_addS ?_ ⟨rfl, rfl⟩)⟩))))))))⟩))))
      · omega
      · have := cutS_length wd none (some (k : Int))
        show _ + 1 ≤ 100000
        omega
      · omega
      · have := cutS_length wd none (some (k : Int))
        have := cutS_length wd (some ((k : Int) + 1)) none
        show (cutS wd none (some (k : Int)) ++ (⟨#[c]⟩ : Str)).length + _ ≤ 100000
        have e : (cutS wd none (some (k : Int)) ++ (⟨#[c]⟩ : Str)).length = (cutS wd none (some (k : Int))).length + 1 := by
          show ((cutS wd none (some (k : Int))).cps ++ #[c]).size = _
          rw [Array.size_append]
          rfl
        omega
    have eS : [PyData.str wd] ++ (DL.signs abc).map (repD wd k) = (someW wd k).map PyData.str := by
      unfold someW
      rw [signs_abc, List.map_append, List.map_map, List.map_map]
      congr 1
      refine List.map_congr_left fun c _ => ?_
      show PyData.str (cutS wd none (some (k : Int)) ++ (⟨#[c]⟩ : Str) ++ cutS wd (some ((k : Int) + 1)) none) = _
      rw [rep_cat hk]
      rfl
    rw [eS]
    obtain ⟨x, r, hx⟩ := someW_new (wd := wd) (k := k) (l := l) (by omega)
    refine ds_last (ds_append 3 (de_peek 3 (xs := l.map PyData.str) (ho := envN_own (n := 0) (many := many) (L := L) (l := l) (c4 := some (.int (0 + (i : Nat)))) (c5 := some (.str wd)) (c7 := some (.int (k : Nat))) (c8 := some (.list ((someW wd k).map PyData.str)))) (de_ix ix_list (de_dl (dl_filt [("one", 10)] nd (pi_list pe_w) (blkOk_by (N := n__law_names) (sc := defScope s__law_names) (by decide +kernel)) (fun _ _ _ _ _ => pg_name (i := 10) nd rfl (Or.inl rfl))
      (wi_list (de_nm 8 ⟨_, rfl, ?_, notD l, id, fun B' y hp' hy => wg_name ?_, ?_⟩)))))))
    · rw [List.length_map]
      unfold someW
      simp [lets_len]
    · obtain ⟨z, hz, rfl⟩ := List.mem_map.mp hy
      intro s0 H0 C cl fp
      refine dt_cmp op_notIn_seq (de_nm 10 (de_nm 3 (rd_niStrL ⟨_, rfl, rfl, rfl, fun _ s1 H1 C1 cl1 fp1 => ?_⟩)))
      exact de_nm 10 ⟨rfl, rfl⟩
    rw [List.map_id, filter_not, hx]
    refine de_int (rd_ixL (z := .str x) (by rw [atI_nn (by decide)]; rfl) ⟨rfl, rfl, l.map PyData.str, rfl, by rw [List.length_map]; omega, ?_⟩)
    have hmm : x ∈ (someW wd k).filter (fun x => !decide (x ∈ l)) := by rw [hx]; exact List.mem_cons_self
    have hxl : x ∉ l := by simpa using (List.mem_filter.mp hmm).2
    have hxn := someW_nm hnm hk x (List.mem_filter.mp hmm).1
    refine ⟨l ++ [x], some (.int (0 + (i : Nat))), some (.str wd), some (.int (k : Nat)), some (.list ((someW wd k).map PyData.str)), ?_, by simp [hl], ?_, fun z hz => ?_⟩
    · unfold envN
      rw [List.map_append]
      rfl
    · rw [List.nodup_append]
      exact ⟨hld, by simp, fun a ha b hb => by simp at hb; subst hb; exact fun e => hxl (e ▸ ha)⟩
    · rcases List.mem_append.mp hz with hz | hz
      · exact hln z hz
      · simp at hz
        subst hz
        exact hxn
  · obtain ⟨l, c4, c5, c7, c8, rfl, hl, hld, hln⟩ := hI
    rw [rng_len] at hl ⊢
    exact dos_own 3 (hΦ l hl hld hln)
end K3
set_option maxHeartbeats 200000
set_option Elab.async false
set_option linter.all false
set_option maxRecDepth 100000
set_option maxHeartbeats 1000000
namespace DL
open PySem PySem.Spec PyProof.Rows L2
def inDt (x : PyData) (ys : List PyData) : Bool := ys.any fun y => PyData.eqv y x
section
variable {X : Cx}
def rInDt (K : PySem.W.Frag) (neg : Bool) : R2 := fun x y H Q => ∃ d ys, Dp K H x d ∧ (Dp K H y (.tuple ys) ∨ Dp K H y (.list ys)) ∧ d.plain = true ∧ PyData.plainAll ys = true ∧ d.depth ≤ 64 ∧ Q (.bl (if neg then !inDt d ys else inDt d ys)) H
theorem op_niDt (hu : X.A.units + 70 < cLine) : OpR X (compareOp .NotIn) (rInDt X.K true) := by
  intro pins s σ H x y v u Q I rx ry h
  obtain ⟨d, ys, hd, hy, pd, py, hdp, q⟩ := h
  obtain ⟨as, r1⟩ := Dp.reads I d x v hd rx
  have hm : X.A.units + 1 + min (PyData.depthAll ys) d.depth < cLine := by
    have := Nat.min_le_right (PyData.depthAll ys) d.depth
    omega
  rcases hy with hy | hy
  · obtain ⟨bs, r2⟩ := Dp.reads I _ y u hy ry
    exact SeqAt.notIn_tuple_data r2 r1 py pd hm ⟨.bl _, H, I, rfl, q⟩
  · obtain ⟨bs, r2⟩ := Dp.reads I _ y u hy ry
    exact SeqAt.notIn_list_data r2 r1 py pd hm ⟨.bl _, H, I, rfl, q⟩
end
section
variable {B : Bs} {δ : St'} {Φ : PE1}
theorem rd_inDl {neg : Bool} {x : PyData} {ys : List PyData} (hx : x.plain = true) (hy : PyData.plainAll ys = true) (hd : x.depth ≤ 64) (p : Φ (.bool (if neg then !inDt x ys else inDt x ys)) δ) : RD B (rInDt B.K neg) x (.list ys) δ Φ :=
  rd_pure (w := .bl (if neg then !inDt x ys else inDt x ys)) (fun _ => .bl _) (fun F H v u e d1 d2 Q q => ⟨x, ys, dq_dp _ _ (noH_plain _ hx) (dp_mono e _ _ d1), .inr (dq_dp _ _ (show noHs ys = true from noHs_plain ys hy) (dp_mono e _ _ d2)), hx, hy, hd, q⟩) p
end
/-- how many unlike ones among the first -/
def unl (ss : List Str) : Nat → Nat
  | 0 => 0
  | i + 1 => match ss[i]? with
    | some x => if (ss.take i).any (· == x) = true then unl ss i else unl ss i + 1
    | none => unl ss i
end DL
set_option maxHeartbeats 200000
set_option Elab.async false
set_option linter.all false
set_option maxRecDepth 100000
set_option maxHeartbeats 4000000
namespace K3
open PySem PySem.Spec PyProof.Rows L2 DL
open PySem.W (alike alikeAll dataLt dataLe AllAlike Sortable EachIs keyToks keyToksAll lex_pre)
variable {P : Program} {w : World} {K : PySem.W.Frag} {mg : Str → Option Value} {base : Heap} {f : Addr} {fd : FuncData} {k : Nat}
mutual
def solid : PyData → Bool
  | .none => true
  | .int _ => true
  | .str _ => true
  | .list xs => solids xs
  | .tuple xs => solids xs
  | _ => false
def solids : List PyData → Bool
  | [] => true
  | x :: xs => solid x && solids xs
end
mutual
theorem eqv_iff : ∀ x y : PyData, solid x = true → solid y = true → (PyData.eqv x y = true ↔ x = y)
  | .none, y, _, h => by cases y <;> simp [PyData.eqv]
  | .int i, y, _, h => by cases y <;> simp [PyData.eqv, solid] at h ⊢
  | .str s, y, _, h => by cases y <;> simp [PyData.eqv]
  | .list xs, y, hx, h => by
    cases y with
    | list ys =>
      show PyData.eqvAll xs ys = true ↔ _
      rw [eqvs_iff xs ys hx h]
      exact ⟨fun z => by rw [z], fun z => by injection z⟩
    | _ => simp [PyData.eqv]
  | .tuple xs, y, hx, h => by
    cases y with
    | tuple ys =>
      show PyData.eqvAll xs ys = true ↔ _
      rw [eqvs_iff xs ys hx h]
      exact ⟨fun z => by rw [z], fun z => by injection z⟩
    | _ => simp [PyData.eqv]
theorem eqvs_iff : ∀ xs ys : List PyData, solids xs = true → solids ys = true → (PyData.eqvAll xs ys = true ↔ xs = ys)
  | [], ys, _, _ => by cases ys <;> simp [PyData.eqvAll]
  | x :: xs, ys, hx, h => by
    cases ys with
    | nil => simp [PyData.eqvAll]
    | cons y ys =>
      have hx' : (solid x && solids xs) = true := hx
      have h' : (solid y && solids ys) = true := h
      rw [Bool.and_eq_true] at hx' h'
      show (PyData.eqv x y && PyData.eqvAll xs ys) = true ↔ _
      rw [Bool.and_eq_true, eqv_iff x y hx'.1 h'.1, eqvs_iff xs ys hx'.2 h'.2]
      exact ⟨fun ⟨a, b⟩ => by rw [a, b], fun z => by injection z with a b; exact ⟨a, b⟩⟩
end
theorem eqv_dec {x y : PyData} {p : Prop} [Decidable p] (hx : solid x = true) (hy : solid y = true) (h : x = y ↔ p) : PyData.eqv x y = decide p := by
  rw [Bool.eq_iff_iff, decide_eq_true_iff, eqv_iff x y hx hy, h]
theorem solids_map {α : Type} {f : α → PyData} (h : ∀ a, solid (f a) = true) : ∀ l : List α, solids (l.map f) = true
  | [] => rfl
  | a :: l => by
    show (solid (f a) && solids (l.map f)) = true
    rw [h a, solids_map h l]; rfl
def shp (n : Nat) (d : PyData) : Prop := d.canLay0 = true ∧ d.depth ≤ n
theorem shp_sh {n : Nat} {d : PyData} (h : shp n d) (hn : n ≤ 64) : SeqAt.shaped d = true := by
  unfold SeqAt.shaped
  rw [h.1, decide_eq_true (Nat.le_trans h.2 hn)]
  rfl
theorem shp_mono {m n : Nat} {d : PyData} (h : shp m d) (hn : m ≤ n) : shp n d := ⟨h.1, Nat.le_trans h.2 hn⟩
theorem shps {n : Nat} : ∀ {ds : List PyData}, (∀ d ∈ ds, shp n d) → PyData.canLayAll0 ds = true ∧ PyData.depthAll ds ≤ n
  | [], _ => ⟨rfl, Nat.zero_le _⟩
  | d :: ds, h => by
    have h1 := h d List.mem_cons_self
    have h2 := shps fun x hx => h x (List.mem_cons_of_mem _ hx)
    constructor
    · show (d.canLay0 && PyData.canLayAll0 ds) = true
      rw [h1.1, h2.1]; rfl
    · show max d.depth (PyData.depthAll ds) ≤ n
      have := h1.2
      have := h2.2
      omega
theorem shp_tup {n : Nat} {ds : List PyData} (h : ∀ d ∈ ds, shp n d) : shp (n + 1) (.tuple ds) := ⟨(shps h).1, by
  show PyData.depthAll ds + 1 ≤ n + 1
  have := (shps h).2
  omega⟩
theorem shp_lst {n : Nat} {ds : List PyData} (h : ∀ d ∈ ds, shp n d) : shp (n + 1) (.list ds) := ⟨(shps h).1, by
  show PyData.depthAll ds + 1 ≤ n + 1
  have := (shps h).2
  omega⟩
abbrev okS (s : Str) : Prop := PyData.strOk s = true
theorem shp_str {s : Str} (h : okS s) : shp 0 (.str s) := ⟨h, Nat.zero_le _⟩
theorem shp_nat {i : Int} : shp 0 (.int i) := ⟨rfl, Nat.zero_le _⟩
theorem IsNm.okS {s : Str} (h : IsNm s) : okS s := by
  show s.cps.all (· < 0x110000) = true
  rw [← Array.all_toList, List.all_eq_true]
  intro c hc
  have := h.cs c hc
  exact decide_eq_true (by omega)
structure OkE (e : St3) : Prop where
  a : okS e.1
  b : okS e.2.1
  c : okS e.2.2
theorem VwE.ok {e : St3} (h : VwE e) : OkE e := by
  rcases h with ⟨h1, h2, h3⟩ | ⟨h1, h2, h3⟩
  · exact ⟨by rw [h1]; decide +kernel, h2.okS, h3.okS⟩
  · refine ⟨by rw [h1]; decide +kernel, h2.okS, ?_⟩
    rcases h3 with h3 | h3
    · exact h3.okS
    · rw [h3]; decide +kernel
theorem shp_s3 {e : St3} (h : OkE e) : shp 1 (s3D e) := shp_tup (n := 0) fun d hd => by
  simp at hd
  rcases hd with rfl | rfl | rfl
  · exact shp_str h.a
  · exact shp_str h.b
  · exact shp_str h.c
theorem shp_row {r : St3 × Nat} (h : OkE r.1) : shp 1 (rowD r) := shp_tup (n := 0) fun d hd => by
  simp at hd
  rcases hd with rfl | rfl | rfl | rfl
  · exact shp_str h.a
  · exact shp_str h.b
  · exact shp_str h.c
  · exact shp_nat
theorem solid_s3 (e : St3) : solid (s3D e) = true := rfl
theorem solid_row (r : St3 × Nat) : solid (rowD r) = true := rfl
theorem solid_st (r : List (St3 × Nat)) : solid (stD r) = true := solids_map solid_row r
theorem s3D_inj {a b : St3} : s3D a = s3D b ↔ a = b := by
  constructor
  · intro h
    unfold s3D at h
    simp only [PyData.tuple.injEq, List.cons.injEq, PyData.str.injEq, and_true] at h
    exact Prod.ext h.1 (Prod.ext h.2.1 h.2.2)
  · intro h; rw [h]
theorem rowD_inj {a b : St3 × Nat} : rowD a = rowD b ↔ a = b := by
  constructor
  · intro h
    unfold rowD natD at h
    simp only [PyData.tuple.injEq, List.cons.injEq, PyData.str.injEq, PyData.int.injEq, and_true] at h
    exact Prod.ext (Prod.ext h.1 (Prod.ext h.2.1 h.2.2.1)) (by have := h.2.2.2; omega)
  · intro h; rw [h]
theorem map_inj' {α β : Type} {f : α → β} (h : ∀ {a b}, f a = f b → a = b) : ∀ {l m : List α}, l.map f = m.map f → l = m
  | [], [], _ => rfl
  | [], b :: m, e => by cases e
  | a :: l, [], e => by cases e
  | a :: l, b :: m, e => by
    injection e with e1 e2
    rw [h e1, map_inj' h e2]
theorem stD_inj {a b : List (St3 × Nat)} : stD a = stD b ↔ a = b :=
  ⟨fun h => map_inj' (fun z => rowD_inj.mp z) (PyData.tuple.inj h), fun h => by rw [h]⟩
theorem endD_inj {h h' : Str} {a b : List (List (St3 × Nat))} : endD h a = endD h' b ↔ h = h' ∧ a = b := by
  constructor
  · intro e
    unfold endD at e
    simp only [PyData.tuple.injEq, List.cons.injEq, PyData.str.injEq, and_true] at e
    exact ⟨e.1, map_inj' (fun z => stD_inj.mp z) e.2⟩
  · rintro ⟨rfl, rfl⟩; rfl
theorem solid_end {h : Str} {a : List (List (St3 × Nat))} : solid (endD h a) = true := by
  show (true && (solids (a.map stD) && true)) = true
  rw [solids_map solid_st]
  rfl
theorem eqv3 {a b : St3} : PyData.eqv (s3D a) (s3D b) = decide (a = b) := eqv_dec (solid_s3 a) (solid_s3 b) s3D_inj
theorem eqv3s {a b : List St3} : PyData.eqv (.list (a.map s3D)) (.list (b.map s3D)) = decide (a = b) :=
  eqv_dec (solids_map solid_s3 a) (solids_map solid_s3 b) ⟨fun h => map_inj' (fun z => s3D_inj.mp z) (PyData.list.inj h), fun h => by rw [h]⟩
theorem eqv_end {h h' : Str} {a b : List (List (St3 × Nat))} : PyData.eqv (endD h a) (endD h' b) = decide (h = h' ∧ a = b) := eqv_dec solid_end solid_end endD_inj
theorem in3 {e : St3} : ∀ {l : List St3}, inDt (s3D e) (l.map s3D) = decide (e ∈ l)
  | [] => rfl
  | a :: l => by
    have ih := in3 (e := e) (l := l)
    unfold inDt at ih ⊢
    rw [List.map_cons, List.any_cons, ih, eqv3, Bool.eq_iff_iff]
    simp only [Bool.or_eq_true, decide_eq_true_iff, List.mem_cons]
    exact ⟨fun z => z.elim (fun z => .inl z.symm) .inr, fun z => z.elim (fun z => .inl z.symm) .inr⟩
theorem room70 {k : Nat} {A : Around} (r : Room k A) : A.units + 70 < cLine := by
  have := r.un
  omega
theorem lex_ext : ∀ {p q : List (Int ⊕ List Nat)} {z : Int ⊕ List Nat} (s t : List (Int ⊕ List Nat)), p.length = q.length → PyProof.Rows.lexLt itemOrd (p ++ [z]) (q ++ [z]) = true → PyProof.Rows.lexLt itemOrd (p ++ s) (q ++ t) = true
  | [], [], z, s, t, _, h => by rw [lex_irrefl (O := itemOrd)] at h; cases h
  | [], _ :: _, _, _, _, e, _ => by cases e
  | _ :: _, [], _, _, _, e, _ => by cases e
  | x :: p, y :: q, z, s, t, e, h => by
    by_cases hxy : x = y
    · subst hxy
      have h' : PyProof.Rows.lexLt itemOrd (x :: (p ++ [z])) (x :: (q ++ [z])) = true := h
      rw [lex_self (O := itemOrd)] at h'
      show PyProof.Rows.lexLt itemOrd (x :: (p ++ s)) (x :: (q ++ t)) = true
      rw [lex_self (O := itemOrd)]
      exact lex_ext s t (by simpa using e) h'
    · have h' : PyProof.Rows.lexLt itemOrd (x :: (p ++ [z])) (y :: (q ++ [z])) = true := h
      rw [lex_diff (O := itemOrd) hxy] at h'
      show PyProof.Rows.lexLt itemOrd (x :: (p ++ s)) (y :: (q ++ t)) = true
      rw [lex_diff (O := itemOrd) hxy]
      exact h'
def evTok (e : St3) : List (Int ⊕ List Nat) := [.inl 1, .inr e.1.cps.toList, .inl 1, .inr e.2.1.cps.toList, .inl 1, .inr e.2.2.cps.toList]
theorem lt_row {a b : St3 × Nat} (h : lt3 a.1 b.1) : dataLt (rowD a) (rowD b) = true :=
  lex_ext (p := evTok a.1) (q := evTok b.1) (z := .inl 0) [.inl 1, .inl (a.2 : Nat), .inl 0] [.inl 1, .inl (b.2 : Nat), .inl 0] rfl h
theorem alikeR (a b : St3 × Nat) : alike (rowD a) (rowD b) = true := rfl
def sortR (l : List (St3 × Nat)) : List (St3 × Nat) := l.mergeSort (dataLe false rowD)
theorem sortD_R (l : List (St3 × Nat)) : sortD (l.map rowD) = (sortR l).map rowD := by
  unfold sortD sortR
  exact (List.map_mergeSort (r := dataLe false rowD) (s := dataLe false id) (f := rowD) fun a _ b _ => rfl).symm
theorem sortR_perm (l : List (St3 × Nat)) : (sortR l).Perm l := List.mergeSort_perm _ _
theorem sortR_rise {l : List (St3 × Nat)} (nd : (l.map (·.1)).Nodup) : ((sortR l).map (·.1)).Pairwise lt3 := by
  have h1 := PySem.W.sort_pairwise (PySem.W.sortLe_total (listOrd itemOrd) false fun b : St3 × Nat => keyToks (rowD b)) l
  have h2 : ((sortR l).map (·.1)).Nodup := ((sortR_perm l).map _).nodup_iff.mpr nd
  unfold List.Nodup at h2
  rw [List.pairwise_map] at h2 ⊢
  refine List.Pairwise.imp₂ (fun a b h3 h4 => ?_) h1 h2
  have h5 : ¬ lt3 b.1 a.1 := fun z => by
    have h3' : (!dataLt (rowD b) (rowD a)) = true := h3
    rw [lt_row z] at h3'
    cases h3'
  by_cases g : lt3 a.1 b.1
  · exact g
  · exact absurd (lt3_total g h5) h4
theorem allAlikeR (l : List (St3 × Nat)) : AllAlike (l.map rowD) := fun d hd d' hd' => by
  obtain ⟨a, _, rfl⟩ := List.mem_map.mp hd
  obtain ⟨b, _, rfl⟩ := List.mem_map.mp hd'
  exact alikeR a b
theorem sortableR (l : List (St3 × Nat)) : Sortable (l.map rowD) := .inl fun d hd => by
  obtain ⟨a, _, rfl⟩ := List.mem_map.mp hd
  exact ⟨_, _, rfl⟩
theorem noHs_rows : ∀ l : List (St3 × Nat), noHs (l.map rowD) = true
  | [] => rfl
  | _ :: l => noHs_rows l
theorem plain3s : ∀ l : List St3, PyData.plainAll (l.map s3D) = true
  | [] => rfl
  | _ :: l => plain3s l
structure EvOk (os ws : List Str) (e : St3) : Prop where
  o : e.2.1 ∈ os
  w : (e.1 = ("say" : Str) ∧ e.2.2 ∈ ws) ∨ (e.1 = ("hear" : Str) ∧ (e.2.2 ∈ ws ∨ e.2.2 = flt))
structure Nms (h : Str) (os ws : List Str) : Prop where
  hn : IsNm h
  on : ∀ o ∈ os, IsNm o ∧ o ≠ h
  wn : ∀ w ∈ ws, IsNm w
  o1 : 1 ≤ os.length
  o2 : os.length ≤ 6
  w1 : 1 ≤ ws.length
  w2 : ws.length ≤ 6
theorem EvOk.vw {h : Str} {os ws : List Str} {e : St3} (he : EvOk os ws e) (hN : Nms h os ws) : VwE e := by
  have ho := (hN.on _ he.o).1
  rcases he.w with ⟨h1, h2⟩ | ⟨h1, h2⟩
  · exact .inl ⟨h1, ho, hN.wn _ h2⟩
  · exact .inr ⟨h1, ho, h2.imp (hN.wn _) id⟩
/-- the steps of a state -/
structure RwOk (os ws : List Str) (many : Nat) (row : List (St3 × Nat)) : Prop where
  len : row.length ≤ 8
  ris : (row.map (·.1)).Pairwise lt3
  ev : ∀ r ∈ row, EvOk os ws r.1 ∧ r.2 < many
structure EnOk (h : Str) (os ws : List Str) (sts : List (List (St3 × Nat))) : Prop where
  nm : Nms h os ws
  l1 : 1 ≤ sts.length
  l2 : sts.length ≤ 100
  rw : ∀ row ∈ sts, RwOk os ws sts.length row
def evAll (os ws : List Str) : List St3 := os.flatMap fun o => ws.flatMap (fun w => [(("say" : Str), o, w), (("hear" : Str), o, w)]) ++ [(("hear" : Str), o, flt)]
theorem evAll_in {os ws : List Str} {e : St3} (h : EvOk os ws e) : e ∈ evAll os ws := by
  unfold evAll
  refine List.mem_flatMap.mpr ⟨e.2.1, h.o, ?_⟩
  obtain ⟨k, o, w⟩ := e
  rcases h.w with ⟨h1, h2⟩ | ⟨h1, h2 | h2⟩
  · have h1 : k = _ := h1
    subst h1
    exact List.mem_append.mpr (.inl (List.mem_flatMap.mpr ⟨w, h2, by simp⟩))
  · have h1 : k = _ := h1
    subst h1
    exact List.mem_append.mpr (.inl (List.mem_flatMap.mpr ⟨w, h2, by simp⟩))
  · have h1 : k = _ := h1
    have h2 : w = _ := h2
    subst h1 h2
    exact List.mem_append.mpr (.inr (by simp))
theorem flat_len {α β : Type} {f : α → List β} {n : Nat} (h : ∀ a, (f a).length = n) : ∀ l : List α, (l.flatMap f).length = l.length * n
  | [] => by simp
  | a :: l => by rw [List.flatMap_cons, List.length_append, h a, flat_len h l, List.length_cons, Nat.succ_mul, Nat.add_comm]
theorem evAll_len {os ws : List Str} (h1 : os.length ≤ 6) (h2 : ws.length ≤ 6) : (evAll os ws).length ≤ 900 := by
  unfold evAll
  rw [flat_len (n := ws.length * 2 + 1) (fun o => by
    rw [List.length_append, flat_len (n := 2) (fun w => rfl)]
    rfl)]
  have : os.length * (ws.length * 2 + 1) ≤ 6 * 13 := Nat.mul_le_mul h1 (by omega)
  omega
theorem EnOk.end' {h : Str} {os ws : List Str} {sts : List (List (St3 × Nat))} (hE : EnOk h os ws sts) : EndOk h sts (evAll os ws) where
  hn := hE.nm.hn
  l1 := hE.l1
  l2 := hE.l2
  el := evAll_len hE.nm.o2 hE.nm.w2
  rw := fun row hr => by
    have q := hE.rw row hr
    have := q.len
    exact ⟨by omega, q.ris, fun r hm => ⟨(q.ev r hm).1.vw hE.nm, (hE.nm.on _ (q.ev r hm).1.o).2, (q.ev r hm).2, evAll_in (q.ev r hm).1⟩⟩
theorem RwOk.nd {os ws : List Str} {many : Nat} {row : List (St3 × Nat)} (h : RwOk os ws many row) : (row.map (·.1)).Nodup := by
  unfold List.Nodup
  exact h.ris.imp fun {a b} hab z => by
    subst z
    exact lt3_irrefl _ hab
end K3
set_option maxHeartbeats 200000
set_option Elab.async false
set_option linter.all false
set_option maxRecDepth 100000
set_option maxHeartbeats 4000000
namespace K3
open PySem PySem.Spec PyProof.Rows L2 DL
open PySem.W (alike alikeAll dataLt dataLe AllAlike Sortable EachIs keyToks keyToksAll lex_pre)
variable {P : Program} {w : World} {K : PySem.W.Frag} {mg : Str → Option Value} {base : Heap} {f : Addr} {fd : FuncData} {k : Nat}
def cut3 : PyData → PyData
  | .tuple ds => .tuple (DL.cutD ds none (some 3))
  | _ => .none
theorem cut3_row {r : St3 × Nat} : cut3 (rowD r) = s3D r.1 := rfl
theorem cut3s (l : List (St3 × Nat)) : (l.map rowD).map cut3 = (l.map (·.1)).map s3D := by rw [List.map_map, List.map_map]; rfl
theorem atI_in {xs : List PyData} {d : Int} (h0 : 0 ≤ d) (h1 : d < (xs.length : Int)) : ∃ z, atI xs d = some z ∧ z ∈ xs := by
  have hl : d.toNat < xs.length := by omega
  exact ⟨xs[d.toNat], by rw [atI_nn h0]; exact List.getElem?_eq_getElem hl, List.getElem_mem hl⟩
theorem kind_at {d : Int} (h0 : 0 ≤ d) (h1 : d < 2) : ∃ kd : Str, (kd = ("say" : Str) ∨ kd = ("hear" : Str)) ∧ atI [PyData.str "say", .str "hear"] d = some (.str kd) := by
  have : d = 0 ∨ d = 1 := by omega
  rcases this with rfl | rfl
  · exact ⟨_, .inl rfl, rfl⟩
  · exact ⟨_, .inr rfl, rfl⟩
abbrev nmL (l : List Str) : PyData := .list (l.map PyData.str)
def S_law_row : SpP := fun n ds Φ => ∃ (h : Str) (os ws : List Str) (many : Nat), ds = [nmL os, nmL ws, natD many] ∧ Nms h os ws ∧ 1 ≤ many ∧ many ≤ 1000 ∧ n + 1000 < 1099511627776 ∧ ∀ row m, RwOk os ws many row → row.length ≤ 4 → n ≤ m → m ≤ n + 30 → Φ (stD row) m
abbrev envR (n : Nat) (os ws : List Str) (many : Nat) (l : List (St3 × Nat)) (c5 c6 c7 c8 : Option C) : St' := ⟨n, [some .pot, some (.d (nmL os)), some (.d (nmL ws)), some (.d (natD many)), some (.own (l.map rowD)), c5, c6, c7, c8, none]⟩
theorem ok__law_row (T : Tx mg) (GT : Fn P w K mg base "_law_take" 1 ["pot", "many"] (spP K S_law_take)) (F : Fd K "_law_row" s__law_row [] [] f fd) : FnOk P w K mg base CX0 2 f fd ["pot", "others", "words", "many"] (spP K S_law_row) := by
  refine fnP F sc__law_row (fun n ds Φ h => by obtain ⟨_, _, _, _, rfl, _⟩ := h; rfl) (fun B cdv A outer s H E n ds Φ hr hp hS => ?_)
  obtain ⟨h, os, ws, many, rfl, hN, hm1, hm2, hn, hΦ⟩ := hS
  have nd := sc__law_row.nd
  have o1 := hN.o1
  have o2 := hN.o2
  have w1 := hN.w1
  have w2 := hN.w2
  refine ds_cons (ds_setO 4 (dl_lst (da_nil ⟨by decide, ?_⟩)) nd)
  refine ds_cons (ds_for [5] (pi_range1 rfl T.range pa_w) (pg_name (i := 5) nd rfl (.inl rfl)) (wi_rng1 (da_cons (de_fP (k' := 1) 0 GT hr (da_cons (de_int (da_nil ⟨5, rfl, by decide, by decide, by show n < _; omega, fun d h0 h1 => da_nil ⟨_, rfl, by omega, by omega, ?_⟩⟩)))))))
  refine ⟨fun i δ => ∃ m l c5 c6 c7 c8, δ = envR m os ws many l c5 c6 c7 c8 ∧ n ≤ m ∧ m ≤ n + 1 + 5 * i ∧ l.length ≤ i ∧ (l.map (·.1)).Nodup ∧ ∀ r ∈ l, EvOk os ws r.1 ∧ r.2 < many, ⟨n + 1, [], none, none, none, none, rfl, by omega, by omega, Nat.le_refl _, List.nodup_nil, fun r hr => (by cases hr)⟩, fun i y δ hy hI => ?_, fun δ hI => ?_⟩
  · obtain ⟨m, l, c5, c6, c7, c8, rfl, hm3, hm4, hll, hnd, hev⟩ := hI
    obtain ⟨hi, rfl⟩ := rng_get hy
    refine wg_name ?_
    refine ds_cons (ds_set 6 ?_ nd)
    refine de_ix ix_list (de_dl (dl_lst (da_cons (de_str (da_cons (de_str (da_nil ⟨by simp, de_fP (k' := 1) 0 GT hr (da_cons (de_int (da_nil ⟨2, rfl, by decide, by decide, by show m < _; omega, fun d2 g0 g1 => ?_⟩)))⟩)))))))
    obtain ⟨kd, hkd, hki⟩ := kind_at g0 g1
    refine rd_ixL hki ?_
    refine ds_cons (ds_set 7 ?_ nd)
    refine de_ix ix_list (de_nm 2 (de_fP (k' := 1) 0 GT hr (da_cons (de_callB call_len T.len boot_len (da_cons (de_nm 2 (da_nil (rc_lenL rfl (da_nil ⟨_, rfl, ?_, ?_, ?_, fun d_wd g0_wd g1_wd => ?_⟩)))))))))
    · rw [List.length_map]; omega
    · rw [List.length_map]; omega
    · show m + 1 < _; omega
    obtain ⟨z_wd, hz_wd, hzm_wd⟩ := atI_in g0_wd g1_wd
    obtain ⟨wd, h_wd, rfl⟩ := List.mem_map.mp hzm_wd
    refine rd_ixL hz_wd ?_
    have rest : ∀ (m' : Nat) (wd' : Str), m + 2 ≤ m' → m' ≤ m + 3 → EvOk os ws (kd, os.headD "", wd') ∨ (kd = ("say" : Str) ∧ wd' ∈ ws) ∨ (kd = ("hear" : Str) ∧ (wd' ∈ ws ∨ wd' = flt)) → DSs B (bodyX P w K mg base n__law_row "_law_row" (defScope s__law_row) f cdv A outer s H E) ((forB ((defBody s__law_row).getD 1 (.Pass ⟨0, 0, 0, 0⟩))).drop 3)
        (envR m' os ws many l (some (.d (.int (0 + (i : Nat))))) (some (.d (.str kd))) (some (.d (.str wd'))) c8)
        (fun δ => ∃ m l c5 c6 c7 c8, δ = envR m os ws many l c5 c6 c7 c8 ∧ n ≤ m ∧ m ≤ n + 1 + 5 * (i + 1) ∧ l.length ≤ i + 1 ∧ (l.map (·.1)).Nodup ∧ ∀ r ∈ l, EvOk os ws r.1 ∧ r.2 < many) fun x δ => Φ x δ.n := fun m' wd' hm5 hm6 hw => by
      have hw' : (kd = ("say" : Str) ∧ wd' ∈ ws) ∨ (kd = ("hear" : Str) ∧ (wd' ∈ ws ∨ wd' = flt)) := hw.elim (fun z => z.w) id
      refine ds_cons (ds_set 8 ?_ nd)
      refine de_tup (da_cons (de_nm 6 (da_cons ?_)))
      refine de_ix ix_list (de_nm 1 (de_fP (k' := 1) 0 GT hr (da_cons (de_callB call_len T.len boot_len (da_cons (de_nm 1 (da_nil (rc_lenL rfl (da_nil ⟨_, rfl, ?_, ?_, ?_, fun d_ot g0_ot g1_ot => ?_⟩)))))))))
      · rw [List.length_map]; omega
      · rw [List.length_map]; omega
      · show m' < _; omega
      obtain ⟨z_ot, hz_ot, hzm_ot⟩ := atI_in g0_ot g1_ot
      obtain ⟨ot, h_ot, rfl⟩ := List.mem_map.mp hzm_ot
      refine rd_ixL hz_ot ?_
      refine da_cons (de_nm 7 (da_cons (de_fP (k' := 1) 0 GT hr (da_cons (de_nm 3 (da_nil ⟨many, rfl, by omega, by omega, by show m' + 1 < _; omega, fun t t0 t1 => da_nil ⟨by simp, ?_⟩⟩))))))
      obtain ⟨t, rfl⟩ : ∃ t' : Nat, t = (t' : Nat) := ⟨t.toNat, by omega⟩
      have ht : t < many := by omega
      have hE : EvOk os ws ((kd, ot, wd') : St3) := ⟨h_ot, hw'⟩
      refine ds_last (ds_if (dt_peek 4 (xs := l.map rowD) (dt_cmp (op_niDt (room70 hr)) (de_upto sl_tupA (de_nm 8 (ru_slT (de_dl (dl_map [("one", 9)] nd (pi_list pe_w) (blkOk_by (N := n__law_row) (sc := defScope s__law_row) (by decide +kernel)) (fun _ _ _ _ _ => pg_name (i := 9) nd rfl (Or.inl rfl)) (wi_list (de_nm 4 ⟨l.map rowD, rfl, ?_, cut3, fun B' y hp' hy => wg_name ?_, ?_⟩))))))))))
      · rw [List.length_map]; omega
      · obtain ⟨r, hr', rfl⟩ := List.mem_map.mp hy
        intro s0 H0 C cl fp
        exact de_upto sl_tupA (de_nm 9 (ru_slT ⟨rfl, rfl⟩))
      rw [cut3s]
      refine rd_inDl (neg := true) rfl (plain3s _) (by show 1 ≤ 64; decide) ⟨_, rfl, rfl, ?_⟩
      have e0 : inDt (.tuple (DL.cutD [PyData.str kd, .str ot, .str wd', .int (t : Nat)] none (some 3))) ((l.map (·.1)).map s3D) = decide (((kd, ot, wd') : St3) ∈ l.map (·.1)) := by
        show inDt (cut3 (rowD (((kd, ot, wd') : St3), t))) _ = _
        rw [cut3_row]
        exact in3
      rw [if_pos rfl, e0]
      by_cases hin : ((kd, ot, wd') : St3) ∈ l.map (·.1)
      · rw [decide_eq_true hin]
        exact iteF (ds_nil ⟨m' + 1 + 1, l, some (.d (.int (0 + (i : Nat)))), some (.d (.str kd)), some (.d (.str wd')), some (.d (.tuple [.str kd, .str ot, .str wd', .int (t : Nat)])), rfl, by omega, by omega, by omega, hnd, hev⟩)
      · rw [decide_eq_false hin]
        refine iteT (ds_last (ds_append 4 (de_nm 8 ⟨l.map rowD, rfl, by rw [List.length_map]; omega, ?_⟩)))
        refine ⟨m' + 1 + 1, l ++ [((kd, ot, wd'), t)], some (.d (.int (0 + (i : Nat)))), some (.d (.str kd)), some (.d (.str wd')), some (.d (.tuple [.str kd, .str ot, .str wd', .int (t : Nat)])), ?_, by omega, by omega, by rw [List.length_append, List.length_singleton]; omega, ?_, fun r hr => ?_⟩
        · show (_ : St') = envR _ _ _ _ _ _ _ _ _
          unfold envR
          rw [List.map_append]
          rfl
        · rw [List.map_append]
          exact List.nodup_append.mpr ⟨hnd, by simp, fun a ha b hb z => hin (by simp at hb; rw [← hb, ← z]; exact ha)⟩
        · rcases List.mem_append.mp hr with hr | hr
          · exact hev r hr
          · cases List.mem_singleton.mp hr
            exact ⟨hE, ht⟩
    refine ds_cons (ds_if (dt_pw (dw_and (dt_cmp op_eq (de_nm 6 (de_str (rd_eqS ⟨_, rfl, ?_⟩)))))))
    by_cases e : kd = ("hear" : Str)
    · rw [decide_eq_true e]
      refine iteT (dw_and1 (dt_cmp op_eq (de_fP (k' := 1) 0 GT hr (da_cons (de_int (da_nil ⟨5, rfl, by decide, by decide, by show m + 2 < _; omega, fun d5 f0 f1 => de_int (rd_eqI ⟨_, rfl, ?_⟩)⟩))))))
      by_cases e2 : d5 = 0
      · rw [decide_eq_true e2]
        exact iteT (ds_last (ds_set 7 (de_str (rest (m + 3) flt (by omega) (by omega) (.inr (.inr ⟨e, .inr rfl⟩)))) nd))
      · rw [decide_eq_false e2]
        exact iteF (ds_nil (rest (m + 3) wd (by omega) (by omega) (.inr (.inr ⟨e, .inl h_wd⟩))))
    · rw [decide_eq_false e]
      have hs : kd = ("say" : Str) := hkd.elim id fun z => absurd z e
      exact iteF (ds_nil (rest (m + 2) wd (by omega) (by omega) (.inr (.inl ⟨hs, h_wd⟩))))
  · obtain ⟨m, l, c5, c6, c7, c8, rfl, hm3, hm4, hll, hnd, hev⟩ := hI
    rw [rng_len] at hm4 hll
    refine dss_freeze 4 ?_
    refine ds_last (ds_ret (de_callTy call_tuple_of T.tup boot_tuple (da_cons (de_dl (dl_callB (cr_sortD (room70 hr)) T.sorted boot_sorted (wl_sorted (da_cons (de_nm 4 (da_nil ⟨l.map rowD, rfl, noHs_rows l, allAlikeR l, sortableR l, by rw [List.length_map]; omega, fun d hd => ?_, da_nil (rc_tupleL rfl ?_)⟩)))))))))
    · obtain ⟨r, _, rfl⟩ := List.mem_map.mp hd
      show 1 ≤ 60
      decide
    · rw [sortD_R]
      have hl2 : (sortR l).length = l.length := (sortR_perm l).length_eq
      exact hΦ (sortR l) m ⟨by rw [hl2]; omega, sortR_rise hnd, fun r hr => hev r ((sortR_perm l).mem_iff.mp hr)⟩ (by omega) hm3 (by omega)
def S_law_end : SpP := fun n ds Φ => ∃ (h : Str) (os ws : List Str), ds = [.str h, nmL os, nmL ws] ∧ Nms h os ws ∧ n + 2000 < 1099511627776 ∧ ∀ sts m, EnOk h os ws sts → sts.length ≤ 6 → (∀ row ∈ sts, row.length ≤ 4) → n ≤ m → m ≤ n + 200 → Φ (endD h sts) m
theorem ok__law_end (T : Tx mg) (GT : Fn P w K mg base "_law_take" 1 ["pot", "many"] (spP K S_law_take)) (GR : Fn P w K mg base "_law_row" 2 ["pot", "others", "words", "many"] (spP K S_law_row)) (F : Fd K "_law_end" s__law_end [] [] f fd) : FnOk P w K mg base CX0 3 f fd ["pot", "hand", "others", "words"] (spP K S_law_end) := by
  refine fnP F sc__law_end (fun n ds Φ h => by obtain ⟨_, _, _, rfl, _⟩ := h; rfl) (fun B cdv A outer s H E n ds Φ hr hp hS => ?_)
  obtain ⟨h, os, ws, rfl, hN, hn, hΦ⟩ := hS
  have nd := sc__law_end.nd
  refine ds_cons (ds_set 4 (de_bin op_add (de_int (de_fP (k' := 2) 0 GT hr (da_cons (de_int (da_nil ⟨6, rfl, by decide, by decide, by show n < _; omega, fun d h0 h1 => rd_I0 ?_⟩)))))) nd)
  obtain ⟨many, hmany⟩ : ∃ q : Nat, 1 + d = (q : Nat) := ⟨(1 + d).toNat, by omega⟩
  rw [hmany]
  have hm1 : 1 ≤ many := by omega
  have hm6 : many ≤ 6 := by omega
  refine ds_last (ds_ret (de_tup (da_cons (de_nm 1 (da_cons (de_callTy call_tuple_of T.tup boot_tuple (da_cons (de_dl (dl_lc [("k", 5)] nd (pi_range1 rfl T.range pa_w) (blkOk_by (N := n__law_end) (sc := defScope s__law_end) (by decide +kernel)) (fun _ _ _ _ _ => pg_name (i := 5) nd rfl (Or.inl rfl)) (wi_rng1 (da_cons (de_nm 4 (da_nil ⟨_, rfl, ?_, ?_, ?_⟩)))))))))))))
  · omega
  · omega
  rw [Int.toNat_natCast]
  refine ⟨by rw [rng_len]; omega, fun i acc m => ∃ sts : List (List (St3 × Nat)), acc = sts.map stD ∧ sts.length = i ∧ (∀ row ∈ sts, RwOk os ws many row ∧ row.length ≤ 4) ∧ n + 1 ≤ m ∧ m ≤ n + 1 + 30 * i, ⟨[], rfl, rfl, (fun row hr => by cases hr), Nat.le_refl _, Nat.le_refl _⟩, fun B' i y acc m hp' hy hl hI => wg_name ?_, fun acc m hl hI => ?_⟩
  · obtain ⟨sts, rfl, hsi, hsr, hm7, hm8⟩ := hI
    have hi := (rng_get hy).1
    intro s0 H0 C cl fp
    refine de_fP (k' := 2) 0 GR hr (da_cons (de_nm 2 (da_cons (de_nm 3 (da_cons (de_nm 4 (da_nil ⟨h, os, ws, many, rfl, hN, hm1, by omega, by show m + 1000 < _; omega, fun row m' hR hr4 hm9 hm10 => ?_⟩)))))))
    have hm9 : m ≤ m' := hm9
    have hm10 : m' ≤ m + 30 := hm10
    refine ⟨sts ++ [row], by rw [List.map_append]; rfl, by rw [List.length_append, hsi]; rfl, fun r hr => ?_, by show n + 1 ≤ m'; omega, by show m' ≤ _; omega⟩
    rcases List.mem_append.mp hr with hr | hr
    · exact hsr r hr
    · cases List.mem_singleton.mp hr
      exact ⟨hR, hr4⟩
  · obtain ⟨sts, rfl, hsi, hsr, hm7, hm8⟩ := hI
    rw [rng_len] at hsi hm8
    refine da_nil (rc_tupleL rfl (da_nil ⟨by simp, ?_⟩))
    subst hsi
    exact hΦ sts m ⟨hN, hm1, by omega, fun row hr => (hsr row hr).1⟩ hm6 (fun row hr => (hsr row hr).2) (by omega) (by show m ≤ _; omega)
end K3
set_option maxHeartbeats 200000
set_option Elab.async false
set_option linter.all false
namespace K3
section alk
variable {α : Type}
abbrev RwA (α : Type) := List (α × Nat)
def rowA (M : List (RwA α)) (s : Nat) : RwA α := M.getD s []
def evsA (r : RwA α) : List α := r.map (·.1)
def eqn (M N : List (RwA α)) : Nat → Nat → Nat → Prop
  | 0, _, _ => True
  | n + 1, s, t => evsA (rowA M s) = evsA (rowA N t) ∧ ∀ (i : Nat) (p q : α × Nat), (rowA M s)[i]? = some p → (rowA N t)[i]? = some q → eqn M N n p.2 q.2
def Alk (M N : List (RwA α)) (s t : Nat) : Prop := ∀ n, eqn M N n s t
variable {M N O : List (RwA α)}
theorem eqn_down : ∀ {n s t : Nat}, eqn M N (n + 1) s t → eqn M N n s t
  | 0, _, _, _ => trivial
  | n + 1, _, _, h => ⟨h.1, fun i p q hp hq => eqn_down (h.2 i p q hp hq)⟩
theorem eqn_refl : ∀ {n s : Nat}, eqn M M n s s
  | 0, _ => trivial
  | n + 1, _ => ⟨rfl, fun i p q hp hq => by rw [hp] at hq; cases hq; exact eqn_refl⟩
theorem eqn_symm : ∀ {n s t : Nat}, eqn M N n s t → eqn N M n t s
  | 0, _, _, _ => trivial
  | n + 1, _, _, h => ⟨h.1.symm, fun i p q hp hq => eqn_symm (h.2 i q p hq hp)⟩
theorem evs_len {r r' : RwA α} (h : evsA r = evsA r') : r.length = r'.length := by
  have := congrArg List.length h
  unfold evsA at this
  rwa [List.length_map, List.length_map] at this
theorem evs_get {r r' : RwA α} (h : evsA r = evsA r') {i : Nat} {p : α × Nat} (hp : r[i]? = some p) : ∃ q, r'[i]? = some q ∧ q.1 = p.1 := by
  have h1 : (evsA r)[i]? = some p.1 := by unfold evsA; rw [List.getElem?_map, hp]; rfl
  rw [h] at h1
  unfold evsA at h1
  rw [List.getElem?_map, Option.map_eq_some_iff] at h1
  obtain ⟨q, h2, h3⟩ := h1
  exact ⟨q, h2, h3⟩
theorem eqn_trans : ∀ {n s t u : Nat}, eqn M N n s t → eqn N O n t u → eqn M O n s u
  | 0, _, _, _, _, _ => trivial
  | n + 1, _, _, _, h, g => ⟨h.1.trans g.1, fun i p q hp hq => by
      obtain ⟨r, hr, _⟩ := evs_get h.1 hp
      exact eqn_trans (h.2 i p r hp hr) (g.2 i r q hr hq)⟩
theorem Alk.refl {s : Nat} : Alk M M s s := fun _ => eqn_refl
theorem Alk.symm {s t : Nat} (h : Alk M N s t) : Alk N M t s := fun n => eqn_symm (h n)
theorem Alk.trans {s t u : Nat} (h : Alk M N s t) (g : Alk N O t u) : Alk M O s u := fun n => eqn_trans (h n) (g n)
theorem Alk.evs {s t : Nat} (h : Alk M N s t) : evsA (rowA M s) = evsA (rowA N t) := (h 1).1
theorem Alk.next {s t : Nat} (h : Alk M N s t) {i : Nat} {p q : α × Nat} (hp : (rowA M s)[i]? = some p) (hq : (rowA N t)[i]? = some q) : Alk M N p.2 q.2 := fun n => (h (n + 1)).2 i p q hp hq
theorem alk_of (R : Nat → Nat → Prop) (h : ∀ s t, R s t → evsA (rowA M s) = evsA (rowA N t) ∧ ∀ (i : Nat) (p q : α × Nat), (rowA M s)[i]? = some p → (rowA N t)[i]? = some q → R p.2 q.2) {s t : Nat} (hr : R s t) : Alk M N s t := fun n => by
  induction n generalizing s t with
  | zero => trivial
  | succ n ih => exact ⟨(h s t hr).1, fun i p q hp hq => ih ((h s t hr).2 i p q hp hq)⟩
theorem rowA_get {s : Nat} {r : RwA α} (h : M[s]? = some r) : rowA M s = r := by
  unfold rowA
  rw [List.getD_eq_getElem?_getD, h]
  rfl
theorem rowA_out {s : Nat} (h : M.length ≤ s) : rowA M s = [] := by
  unfold rowA
  rw [List.getD_eq_getElem?_getD, List.getElem?_eq_none h]
  rfl
def numRow : Nat → List Nat → Option Nat
  | m, [] => some m
  | m, t :: ts => if t < m then numRow m ts else if t = m then numRow (m + 1) ts else none
def numRows : List (List Nat) → Nat → Nat → Option Nat
  | [], _, m => some m
  | r :: rs, i, m => if i < m then (numRow m r).bind (numRows rs (i + 1)) else none
theorem numRow_app : ∀ {ts us : List Nat} {m : Nat}, numRow m (ts ++ us) = (numRow m ts).bind fun m' => numRow m' us
  | [], _, _ => rfl
  | t :: ts, us, m => by
    show (if t < m then numRow m (ts ++ us) else if t = m then numRow (m + 1) (ts ++ us) else none) = (if t < m then numRow m ts else if t = m then numRow (m + 1) ts else none).bind _
    split
    · exact numRow_app
    · split
      · exact numRow_app
      · rfl
theorem numRows_app : ∀ {rs ss : List (List Nat)} {i m : Nat}, numRows (rs ++ ss) i m = (numRows rs i m).bind fun m' => numRows ss (i + rs.length) m'
  | [], _, _, _ => rfl
  | r :: rs, ss, i, m => by
    show (if i < m then (numRow m r).bind (numRows (rs ++ ss) (i + 1)) else none) = (if i < m then (numRow m r).bind (numRows rs (i + 1)) else none).bind _
    split
    · cases numRow m r with
      | none => rfl
      | some m1 =>
        show numRows (rs ++ ss) (i + 1) m1 = (numRows rs (i + 1) m1).bind _
        rw [numRows_app, List.length_cons]
        congr 1
        funext m'
        rw [show i + 1 + rs.length = i + (rs.length + 1) by omega]
    · rfl
theorem numRow_le : ∀ {ts : List Nat} {m m' : Nat}, numRow m ts = some m' → m ≤ m' ∧ ∀ t ∈ ts, t < m'
  | [], _, _, h => by cases h; exact ⟨Nat.le_refl _, fun t z => by cases z⟩
  | t :: ts, m, m', h => by
    have h' : (if t < m then numRow m ts else if t = m then numRow (m + 1) ts else none) = some m' := h
    split at h'
    · obtain ⟨h1, h2⟩ := numRow_le h'
      refine ⟨h1, fun u hu => ?_⟩
      rcases List.mem_cons.mp hu with rfl | hu
      · omega
      · exact h2 u hu
    · split at h'
      · obtain ⟨h1, h2⟩ := numRow_le h'
        refine ⟨by omega, fun u hu => ?_⟩
        rcases List.mem_cons.mp hu with rfl | hu
        · omega
        · exact h2 u hu
      · cases h'
theorem numRows_le : ∀ {rs : List (List Nat)} {i m m' : Nat}, numRows rs i m = some m' → m ≤ m'
  | [], _, _, _, h => by cases h; exact Nat.le_refl _
  | r :: rs, i, m, m', h => by
    have h' : (if i < m then (numRow m r).bind (numRows rs (i + 1)) else none) = some m' := h
    split at h'
    · rw [Option.bind_eq_some_iff] at h'
      obtain ⟨m1, h1, h2⟩ := h'
      have := (numRow_le h1).1
      have := numRows_le h2
      omega
    · cases h'
def thens (r : RwA α) : List Nat := r.map (·.2)
/-- no two of its states do alike -/
def Unl (M : List (RwA α)) : Prop := ∀ i j, i < M.length → j < M.length → Alk M M i j → i = j
structure Canon (M : List (RwA α)) : Prop where
  unl : Unl M
  num : numRows (M.map thens) 0 1 = some M.length
theorem row_one (uM : Unl M) (uN : Unl N) : ∀ {r r' : RwA α} {m m1 m1' : Nat}, evsA r = evsA r' → (∀ (i : Nat) (p q : α × Nat), r[i]? = some p → r'[i]? = some q → Alk M N p.2 q.2) → (∀ i, i < m → Alk M N i i) →
    numRow m (thens r) = some m1 → numRow m (thens r') = some m1' → m1 ≤ M.length → m1' ≤ N.length → r = r' ∧ m1 = m1' ∧ ∀ i, i < m1 → Alk M N i i
  | [], r', m, m1, m1', he, hs, ha, h1, h2, l1, l2 => by
    cases r' with
    | nil =>
      cases h1
      cases h2
      exact ⟨rfl, rfl, ha⟩
    | cons p r' => cases he
  | (e, t) :: r, r', m, m1, m1', he, hs, ha, h1, h2, l1, l2 => by
    cases r' with
    | nil => cases he
    | cons q r' =>
      obtain ⟨e', t'⟩ := q
      have he' : e :: evsA r = e' :: evsA r' := he
      injection he' with e1 e2
      subst e1
      have ht : Alk M N t t' := hs 0 (e, t) (e, t') rfl rfl
      have hs' : ∀ (i : Nat) (p q : α × Nat), r[i]? = some p → r'[i]? = some q → Alk M N p.2 q.2 := fun i p q hp hq => hs (i + 1) p q hp hq
      have h1' : (if t < m then numRow m (thens r) else if t = m then numRow (m + 1) (thens r) else none) = some m1 := h1
      have h2' : (if t' < m then numRow m (thens r') else if t' = m then numRow (m + 1) (thens r') else none) = some m1' := h2
      have b1 := (numRow_le h1).1
      have b2 := (numRow_le h2).1
      by_cases c : t < m
      · rw [if_pos c] at h1'
        have c2 : t' = t := by
          by_cases c2 : t' < m
          · exact (uN t t' (by omega) (by omega) ((ha t c).symm.trans ht)).symm
          · rw [if_neg c2] at h2'
            by_cases c3 : t' = m
            · rw [if_pos c3] at h2'
              have := (numRow_le h2').1
              exact (uN t t' (by omega) (by omega) ((ha t c).symm.trans ht)).symm
            · rw [if_neg c3] at h2'
              cases h2'
        subst c2
        rw [if_pos c] at h2'
        obtain ⟨q1, q2, q3⟩ := row_one uM uN e2 hs' ha h1' h2' l1 l2
        exact ⟨by rw [q1], q2, q3⟩
      · rw [if_neg c] at h1'
        by_cases c1 : t = m
        · rw [if_pos c1] at h1'
          have k1 := (numRow_le h1').1
          have c2 : ¬ t' < m := fun c2 => by
            have := uM t t' (by omega) (by omega) (ht.trans (ha t' c2).symm)
            omega
          rw [if_neg c2] at h2'
          by_cases c3 : t' = m
          · rw [if_pos c3] at h2'
            subst c1
            subst c3
            obtain ⟨q1, q2, q3⟩ := row_one uM uN e2 hs' (fun i hi => by
              by_cases z : i = t'
              · rw [z]; exact ht
              · exact ha i (by omega)) h1' h2' l1 l2
            exact ⟨by rw [q1], q2, q3⟩
          · rw [if_neg c3] at h2'
            cases h2'
        · rw [if_neg c1] at h1'
          cases h1'
theorem rows_one (uM : Unl M) (uN : Unl N) : ∀ {rs rs' : List (RwA α)} {i m : Nat}, M.drop i = rs → N.drop i = rs' → (∀ j, j < m → Alk M N j j) → numRows (rs.map thens) i m = some M.length → numRows (rs'.map thens) i m = some N.length → rs = rs'
  | [], rs', i, m, e1, e2, ha, h1, h2 => by
    cases rs' with
    | nil => rfl
    | cons r rs' =>
      have h1' : some m = some M.length := h1
      injection h1' with h1'
      have := congrArg List.length e1
      rw [List.length_drop] at this
      have h2' : (if i < m then _ else none) = some N.length := h2
      have k0 : M.length - i = 0 := this
      rw [if_neg (by omega)] at h2'
      cases h2'
  | r :: rs, rs', i, m, e1, e2, ha, h1, h2 => by
    have h1' : (if i < m then (numRow m (thens r)).bind (numRows (rs.map thens) (i + 1)) else none) = some M.length := h1
    by_cases c : i < m
    · cases rs' with
      | nil =>
        have h2' : some m = some N.length := h2
        injection h2' with h2'
        have := congrArg List.length e2
        rw [List.length_drop] at this
        have k0 : N.length - i = 0 := this
        omega
      | cons r' rs' =>
        have h2' : (if i < m then (numRow m (thens r')).bind (numRows (rs'.map thens) (i + 1)) else none) = some N.length := h2
        rw [if_pos c, Option.bind_eq_some_iff] at h1' h2'
        obtain ⟨m1, a1, b1⟩ := h1'
        obtain ⟨m1', a2, b2⟩ := h2'
        have g1 : rowA M i = r := rowA_get (by rw [← List.head?_drop, e1]; rfl)
        have g2 : rowA N i = r' := rowA_get (by rw [← List.head?_drop, e2]; rfl)
        have hi := ha i c
        have he := hi.evs
        rw [g1, g2] at he
        obtain ⟨q1, q2, q3⟩ := row_one uM uN he (fun j p q hp hq => hi.next (by rw [g1]; exact hp) (by rw [g2]; exact hq)) ha a1 a2 (numRows_le b1) (numRows_le b2)
        subst q2
        have := rows_one uM uN (i := i + 1) (by rw [← List.tail_drop, e1]; rfl) (by rw [← List.tail_drop, e2]; rfl) q3 b1 b2
        rw [q1, this]
    · rw [if_neg c] at h1'
      cases h1'
theorem Canon.one (hM : Canon M) (hN : Canon N) (h : Alk M N 0 0) : M = N :=
  rows_one hM.unl hN.unl (i := 0) (m := 1) rfl rfl (fun j hj => by
    have e : j = 0 := by omega
    rw [e]
    exact h) hM.num hN.num
/-- the states' kinds at a depth -/
structure KdAt (M : List (RwA α)) (k : Nat) (ks : List Nat) : Prop where
  len : ks.length = M.length
  iff : ∀ i j, i < M.length → j < M.length → (ks[i]? = ks[j]? ↔ eqn M M k i j)
def Wfm (M : List (RwA α)) : Prop := ∀ r ∈ M, ∀ p ∈ r, p.2 < M.length
theorem Wfm.at (h : Wfm M) {s i : Nat} {p : α × Nat} (hp : (rowA M s)[i]? = some p) : p.2 < M.length := by
  by_cases c : s < M.length
  · have e : M[s]? = some M[s] := List.getElem?_eq_getElem c
    rw [rowA_get e] at hp
    exact h _ (List.getElem_mem c) p (List.mem_of_getElem? hp)
  · rw [rowA_out (by omega)] at hp
    simp at hp
theorem kd_zero (M : List (RwA α)) : KdAt M 0 (List.replicate M.length 0) := ⟨List.length_replicate, fun i j hi hj => ⟨fun _ => trivial, fun _ => by
  rw [List.getElem?_replicate, List.getElem?_replicate, if_pos hi, if_pos hj]⟩⟩
/-- what is told of a state: its kind, its steps with the kinds behind -/
def toldA (ks : List Nat) (c : Nat) (r : RwA α) : Nat × List (α × Nat) := (c, r.map fun p => (p.1, ks.getD p.2 0))
theorem told_eq {k : Nat} {ks : List Nat} (hW : Wfm M) (h : KdAt M k ks) {i j : Nat} (hi : i < M.length) (hj : j < M.length) :
    toldA ks (ks.getD i 0) (rowA M i) = toldA ks (ks.getD j 0) (rowA M j) ↔ eqn M M (k + 1) i j := by
  have gd : ∀ {a : Nat}, a < M.length → ks[a]? = some (ks.getD a 0) := fun {a} ha => by
    rw [List.getD_eq_getElem?_getD, List.getElem?_eq_getElem (by rw [h.len]; exact ha)]
    rfl
  unfold toldA
  constructor
  · intro e
    injection e with e1 e2
    have hev : evsA (rowA M i) = evsA (rowA M j) := by
      have := congrArg (List.map (·.1)) e2
      rw [List.map_map, List.map_map] at this
      exact this
    refine ⟨hev, fun a p q hp hq => ?_⟩
    have := congrArg (fun l => l[a]?) e2
    simp only [List.getElem?_map, hp, hq, Option.map_some, Option.some.injEq, Prod.mk.injEq] at this
    refine (h.iff _ _ (hW.at hp) (hW.at hq)).mp ?_
    rw [gd (hW.at hp), gd (hW.at hq), this.2]
  · intro e
    have e1 := (h.iff i j hi hj).mpr (eqn_down e)
    rw [gd hi, gd hj] at e1
    injection e1 with e1
    rw [e1]
    congr 1
    refine List.ext_getElem? fun a => ?_
    rw [List.getElem?_map, List.getElem?_map]
    cases hp : (rowA M i)[a]? with
    | none =>
      have := evs_len e.1
      rw [List.getElem?_eq_none_iff] at hp
      rw [List.getElem?_eq_none (by omega)]
    | some p =>
      obtain ⟨q, hq, hpq⟩ := evs_get e.1 hp
      have := (h.iff _ _ (hW.at hp) (hW.at hq)).mpr (e.2 a p q hp hq)
      rw [gd (hW.at hp), gd (hW.at hq)] at this
      injection this with this
      rw [hq, Option.map_some, Option.map_some, hpq, this]
theorem kd_next {k : Nat} {ks ks' : List Nat} (hW : Wfm M) (h : KdAt M k ks) (hl : ks'.length = M.length) (he : ∀ i j, i < M.length → j < M.length → (ks'[i]? = ks'[j]? ↔ toldA ks (ks.getD i 0) (rowA M i) = toldA ks (ks.getD j 0) (rowA M j))) : KdAt M (k + 1) ks' :=
  ⟨hl, fun i j hi hj => (he i j hi hj).trans (told_eq hW h hi hj)⟩
theorem pigA {β : Type} : ∀ (l1 l2 : List β), l1.Nodup → (∀ x ∈ l1, x ∈ l2) → l1.length ≤ l2.length
  | [], _, _, _ => Nat.zero_le _
  | x :: l1, l2, nd, h => by
    obtain ⟨a, b, rfl⟩ := List.append_of_mem (h x (List.mem_cons_self))
    rw [List.nodup_cons] at nd
    have := pigA l1 (a ++ b) nd.2 (fun y hy => by
      have := h y (List.mem_cons_of_mem _ hy)
      rcases List.mem_append.mp this with q | q
      · exact List.mem_append.mpr (.inl q)
      · rcases List.mem_cons.mp q with rfl | q
        · exact absurd hy nd.1
        · exact List.mem_append.mpr (.inr q))
    simp only [List.length_append, List.length_cons] at this ⊢
    omega
/-- ls has just the things of ks, none twice -/
structure Dist {β : Type} (ls ks : List β) : Prop where
  nd : ls.Nodup
  iff : ∀ k, k ∈ ls ↔ k ∈ ks
/-- as many kinds as ahead: parted no further -/
theorem kd_same {k : Nat} {ks ks' ls ls' : List Nat} (h : KdAt M k ks) (h' : KdAt M (k + 1) ks') (d : Dist ls ks) (d' : Dist ls' ks') (hl : ls'.length ≤ ls.length) {i j : Nat} (hi : i < M.length) (hj : j < M.length) (e : eqn M M k i j) : eqn M M (k + 1) i j := by
  -- a place of each kind
  have hf : ∃ f : Nat → Nat, ∀ v ∈ ls, ks[f v]? = some v := by
    refine Classical.axiomOfChoice (r := fun v b => v ∈ ls → ks[b]? = some v) fun v => ?_
    by_cases c : v ∈ ls
    · obtain ⟨b, hb⟩ := List.getElem?_of_mem ((d.iff v).mp c)
      exact ⟨b, fun _ => hb⟩
    · exact ⟨0, fun z => absurd z c⟩
  obtain ⟨f, hf⟩ := hf
  have hfl : ∀ v ∈ ls, f v < M.length := fun v hv => by
    have := (List.getElem?_eq_some_iff.mp (hf v hv)).1
    rw [h.len] at this
    exact this
  have gd : ∀ {a : Nat}, a < M.length → ks'[a]? = some (ks'.getD a 0) := fun {a} ha => by
    rw [List.getD_eq_getElem?_getD, List.getElem?_eq_getElem (by rw [h'.len]; exact ha)]
    rfl
  have kk : ∀ {a b : Nat}, a < M.length → b < M.length → ks'.getD a 0 = ks'.getD b 0 → ks[a]? = ks[b]? := fun {a b} ha hb z =>
    (h.iff a b ha hb).mpr (eqn_down ((h'.iff a b ha hb).mp (by rw [gd ha, gd hb, z])))
  have nd : (ls.map fun v => ks'.getD (f v) 0).Nodup := by
    unfold List.Nodup
    rw [List.pairwise_map]
    refine List.Pairwise.imp_of_mem ?_ d.nd
    intro a b ha hb hne z
    have := kk (hfl a ha) (hfl b hb) z
    rw [hf a ha, hf b hb] at this
    injection this with this
    exact hne this
  have sub : ∀ x ∈ ls.map fun v => ks'.getD (f v) 0, x ∈ ls' := fun x hx => by
    obtain ⟨v, hv, rfl⟩ := List.mem_map.mp hx
    exact (d'.iff _).mpr (List.mem_of_getElem? (gd (hfl v hv)))
  have onto : ∀ x ∈ ls', x ∈ ls.map fun v => ks'.getD (f v) 0 := fun x hx => by
    by_cases c : x ∈ ls.map fun v => ks'.getD (f v) 0
    · exact c
    · have := pigA (x :: ls.map fun v => ks'.getD (f v) 0) ls' (List.nodup_cons.mpr ⟨c, nd⟩) (fun y hy => by
        rcases List.mem_cons.mp hy with rfl | hy
        · exact hx
        · exact sub y hy)
      rw [List.length_cons, List.length_map] at this
      omega
  have e0 := (h.iff i j hi hj).mpr e
  obtain ⟨v, hv, ev⟩ := List.mem_map.mp (onto _ ((d'.iff _).mpr (List.mem_of_getElem? (gd hi))))
  obtain ⟨u, hu, eu⟩ := List.mem_map.mp (onto _ ((d'.iff _).mpr (List.mem_of_getElem? (gd hj))))
  have a1 := kk (hfl v hv) hi ev
  have a2 := kk (hfl u hu) hj eu
  rw [hf v hv] at a1
  rw [hf u hu] at a2
  rw [← a1, ← a2] at e0
  injection e0 with e0
  subst e0
  exact (h'.iff i j hi hj).mp (by rw [gd hi, gd hj, ← ev, ← eu])
theorem kd_end {k : Nat} (hW : Wfm M) (st : ∀ i j, i < M.length → j < M.length → eqn M M k i j → eqn M M (k + 1) i j) : ∀ (n : Nat) {i j : Nat}, i < M.length → j < M.length → eqn M M k i j → eqn M M n i j := by
  have hR : ∀ {i j : Nat}, i < M.length → j < M.length → eqn M M k i j → Alk M M i j := fun {i j} hi hj h =>
    alk_of (fun s t => s < M.length ∧ t < M.length ∧ eqn M M k s t) (fun s t ⟨hs, ht, e⟩ => ⟨(st s t hs ht e).1, fun a p q hp hq => ⟨hW.at hp, hW.at hq, (st s t hs ht e).2 a p q hp hq⟩⟩) ⟨hi, hj, h⟩
  intro n i j hi hj h
  exact hR hi hj h n
/-- the kinds of a machine -/
structure Kinds (M : List (RwA α)) (ks : List Nat) : Prop where
  len : ks.length = M.length
  iff : ∀ i j, i < M.length → j < M.length → (ks[i]? = ks[j]? ↔ Alk M M i j)
theorem kinds_of {k : Nat} {ks ks' ls ls' : List Nat} (hW : Wfm M) (h : KdAt M k ks) (h' : KdAt M (k + 1) ks') (d : Dist ls ks) (d' : Dist ls' ks') (hl : ls'.length ≤ ls.length) : Kinds M ks' :=
  ⟨h'.len, fun i j hi hj => (h'.iff i j hi hj).trans ⟨fun e n => kd_end hW (fun a b ha hb g => kd_same h h' d d' hl ha hb g) n hi hj (eqn_down e), fun e => e _⟩⟩
/-- what stands once some of its rows are told -/
structure LeastAt (M : List (RwA α)) (ks order : List Nat) (told : List (RwA α)) : Prop where
  nd : order.Nodup
  sub : ∀ x ∈ order, x ∈ ks
  fst : order[0]? = ks[0]?
  le : told.length ≤ order.length
  num : numRows (told.map thens) 0 1 = some order.length
  row : ∀ (i : Nat) (r : RwA α), told[i]? = some r → ∃ c s, order[i]? = some c ∧ ks[s]? = some c ∧ evsA r = evsA (rowA M s) ∧ ∀ (j : Nat) (p q : α × Nat), r[j]? = some p → (rowA M s)[j]? = some q → order[p.2]? = ks[q.2]?
theorem LeastAt.sim {ks order : List Nat} {N : List (RwA α)} (h : LeastAt M ks order N) (hl : N.length = order.length) (hK : Kinds M ks) (hW : Wfm M) {s i : Nat} (hs : s < M.length) (hi : i < N.length) (e : ks[s]? = order[i]?) : Alk M N s i := by
  refine alk_of (fun s i => s < M.length ∧ i < N.length ∧ ks[s]? = order[i]?) (fun s i ⟨hs, hi, e⟩ => ?_) ⟨hs, hi, e⟩
  have hr : N[i]? = some N[i] := List.getElem?_eq_getElem hi
  obtain ⟨c, s', h1, h2, h3, h4⟩ := h.row i _ hr
  have hs' : s' < M.length := by
    have := (List.getElem?_eq_some_iff.mp h2).1
    rw [hK.len] at this
    exact this
  have al : Alk M M s s' := (hK.iff s s' hs hs').mp (by rw [e, h1, h2])
  rw [rowA_get hr]
  refine ⟨al.evs.trans h3.symm, fun a p q hp hq => ?_⟩
  obtain ⟨p', hp', _⟩ := evs_get h3 hq
  have b := hW.at hp
  have b' := hW.at hp'
  have e1 := (hK.iff _ _ b b').mpr (al.next hp hp')
  have e2 := h4 a q p' hq hp'
  have g : ∃ v, ks[p'.2]? = some v := ⟨_, List.getElem?_eq_getElem (by rw [hK.len]; exact b')⟩
  obtain ⟨v, g⟩ := g
  have hq2 := (List.getElem?_eq_some_iff.mp (e2.trans g)).1
  exact ⟨b, by omega, by rw [e1, e2]⟩
theorem LeastAt.canon {ks order : List Nat} {N : List (RwA α)} (h : LeastAt M ks order N) (hl : N.length = order.length) (hK : Kinds M ks) (hW : Wfm M) : Canon N := by
  refine ⟨fun i j hi hj al => ?_, by rw [hl]; exact h.num⟩
  have gi : order[i]? = some order[i] := List.getElem?_eq_getElem (by omega)
  have gj : order[j]? = some order[j] := List.getElem?_eq_getElem (by omega)
  obtain ⟨s, hs⟩ := List.getElem?_of_mem (h.sub _ (List.mem_of_getElem? gi))
  obtain ⟨t, ht⟩ := List.getElem?_of_mem (h.sub _ (List.mem_of_getElem? gj))
  have ls : s < M.length := by
    have := (List.getElem?_eq_some_iff.mp hs).1
    rw [hK.len] at this
    exact this
  have lt : t < M.length := by
    have := (List.getElem?_eq_some_iff.mp ht).1
    rw [hK.len] at this
    exact this
  have a1 := h.sim hl hK hW ls hi (hs.trans gi.symm)
  have a2 := h.sim hl hK hW lt hj (ht.trans gj.symm)
  have := (hK.iff s t ls lt).mpr ((a1.trans al).trans a2.symm)
  rw [hs, ht] at this
  injection this with this
  exact (List.getElem_inj h.nd).mp this
end alk
end K3
set_option maxHeartbeats 200000
set_option Elab.async false
set_option linter.all false
set_option maxRecDepth 100000
set_option maxHeartbeats 4000000
namespace K3
open PySem PySem.Spec PyProof.Rows L2 DL
open PySem.W (alike alikeAll dataLt dataLe AllAlike Sortable EachIs keyToks keyToksAll lex_pre)
variable {P : Program} {w : World} {K : PySem.W.Frag} {mg : Str → Option Value} {base : Heap} {f : Addr} {fd : FuncData} {k : Nat}
abbrev stsD (sts : List (List (St3 × Nat))) : PyData := .tuple (sts.map stD)
structure StsOk (sts : List (List (St3 × Nat))) : Prop where
  len : ∀ row ∈ sts, row.length ≤ 1000
  ok : ∀ row ∈ sts, ∀ r ∈ row, OkE r.1
  nd : ∀ row ∈ sts, (row.map (·.1)).Nodup
  wf : Wfm sts
theorem StsOk.at {sts : List (List (St3 × Nat))} (h : StsOk sts) (s : Nat) : (rowA sts s).length ≤ 1000 ∧ (∀ r ∈ rowA sts s, OkE r.1) ∧ ((rowA sts s).map (·.1)).Nodup := by
  by_cases c : s < sts.length
  · have e : sts[s]? = some sts[s] := List.getElem?_eq_getElem c
    rw [rowA_get e]
    have hm := List.getElem_mem c
    exact ⟨h.len _ hm, h.ok _ hm, h.nd _ hm⟩
  · rw [rowA_out (by omega)]
    exact ⟨Nat.zero_le _, fun r hr => (by cases hr), List.nodup_nil⟩
theorem EnOk.sts {h : Str} {os ws : List Str} {sts : List (List (St3 × Nat))} (hE : EnOk h os ws sts) : StsOk sts where
  len := fun row hr => by have := (hE.rw row hr).len; omega
  ok := fun row hr r hm => (((hE.rw row hr).ev r hm).1.vw hE.nm).ok
  nd := fun row hr => (hE.rw row hr).nd
  wf := fun row hr p hp => ((hE.rw row hr).ev p hp).2
theorem row_at {sts : List (List (St3 × Nat))} {s : Nat} (hs : s < sts.length) : atI (sts.map stD) ((s : Nat) : Int) = some (stD (rowA sts s)) := by
  rw [atI_nn (by omega), Int.toNat_natCast, List.getElem?_map, List.getElem?_eq_getElem hs]
  rw [rowA_get (List.getElem?_eq_getElem hs)]
  rfl
def thenE (row : List (St3 × Nat)) (e : St3) : Option Nat := (row.find? fun r => decide (r.1 = e)).map (·.2)
def optD : Option Nat → PyData
  | none => .none
  | some n => natD n
theorem thenE_at : ∀ {row : List (St3 × Nat)} {j : Nat} {p : St3 × Nat}, (row.map (·.1)).Nodup → row[j]? = some p → thenE row p.1 = some p.2
  | [], j, p, _, h => by simp at h
  | r :: row, j, p, nd, h => by
    rw [List.map_cons, List.nodup_cons] at nd
    unfold thenE
    rw [List.find?_cons]
    cases j with
    | zero =>
      simp at h
      subst h
      rw [decide_eq_true rfl]
      rfl
    | succ j =>
      have h' : row[j]? = some p := by simpa using h
      have : ¬ r.1 = p.1 := fun z => nd.1 (List.mem_map.mpr ⟨p, List.mem_of_getElem? h', z.symm⟩)
      rw [decide_eq_false this]
      exact thenE_at nd.2 h'
def S_law_then : SpD := fun ds Φ => ∃ (sts : List (List (St3 × Nat))) (s : Nat) (e : St3), ds = [stsD sts, natD s, s3D e] ∧ s < sts.length ∧ StsOk sts ∧ OkE e ∧ Φ (optD (thenE (rowA sts s) e))
theorem ok__law_then (F : Fd K "_law_then" s__law_then [] [] f fd) : FnOk P w K mg base CX0 1 f fd ["states", "spot", "event"] (spD K S_law_then) := by
  refine fnD F sc__law_then (fun ds Φ h => by obtain ⟨_, _, _, rfl, _⟩ := h; rfl) (fun B cdv A outer s0 H E ds Φ hr hp hS => ?_)
  obtain ⟨sts, s, e, rfl, hs, hok, he, hΦ⟩ := hS
  have nd := sc__law_then.nd
  obtain ⟨hl, hoe, _⟩ := hok.at s
  refine ds_cons (ds_for [3] (pi_tup pe_w) (pg_name (i := 3) nd rfl (.inl rfl)) (wi_tup (de_ix ix_tup (de_nm 0 (de_nm 1 (rd_ixT (row_at hs) ⟨(rowA sts s).map rowD, rfl, ?_⟩))))))
  refine ⟨fun i δ => ∃ c3, δ = ⟨0, [some (.d (stsD sts)), some (.d (natD s)), some (.d (s3D e)), c3]⟩ ∧ ∀ r ∈ (rowA sts s).take i, ¬ r.1 = e, ⟨none, rfl, fun r hr => by simp at hr⟩, fun i y δ hy hI => ?_, fun δ hI => ?_⟩
  · obtain ⟨c3, rfl, hno⟩ := hI
    rw [List.getElem?_map, Option.map_eq_some_iff] at hy
    obtain ⟨r, hr', rfl⟩ := hy
    refine wg_name ?_
    refine ds_last (ds_if (dt_cmp (op_eqD hr.units) (de_upto sl_tupA (de_nm 3 (ru_slT (de_nm 2 (rd_eqD (x := cut3 (rowD r)) ?_ (shp_sh (shp_s3 he) (by decide)) ⟨_, rfl, ?_⟩)))))))
    · rw [cut3_row]; exact shp_sh (shp_s3 (hoe r (List.mem_of_getElem? hr'))) (by decide)
    · rw [cut3_row, eqv3]
      by_cases g : r.1 = e
      · rw [decide_eq_true g]
        refine iteT (ds_last (ds_ret (de_ix ix_tup (de_nm 3 (de_int (rd_ixT (z := natD r.2) rfl ?_))))))
        have e1 : thenE (rowA sts s) e = some r.2 := by
          rw [← g]
          exact thenE_at (hok.at s).2.2 hr'
        rw [e1] at hΦ
        exact hΦ
      · rw [decide_eq_false g]
        refine iteF (ds_nil ⟨_, rfl, fun q hq => ?_⟩)
        rw [take_snoc hr'] at hq
        rcases List.mem_append.mp hq with hq | hq
        · exact hno q hq
        · cases List.mem_singleton.mp hq
          exact g
  · obtain ⟨c3, rfl, hno⟩ := hI
    rw [List.length_map, List.take_length] at hno
    refine ds_last (ds_ret (de_non ?_))
    have e1 : thenE (rowA sts s) e = none := by
      unfold thenE
      rw [List.find?_eq_none.mpr fun r hr => by simpa using hno r hr]
      rfl
    rw [e1] at hΦ
    exact hΦ
def S_law_events : SpD := fun ds Φ => ∃ (sts : List (List (St3 × Nat))) (s : Nat), ds = [stsD sts, natD s] ∧ s < sts.length ∧ StsOk sts ∧ Φ (.list ((evsA (rowA sts s)).map s3D))
theorem ok__law_events (F : Fd K "_law_events" s__law_events [] [] f fd) : FnOk P w K mg base CX0 1 f fd ["states", "spot"] (spD K S_law_events) := by
  refine fnD F sc__law_events (fun ds Φ h => by obtain ⟨_, _, rfl, _⟩ := h; rfl) (fun B cdv A outer s0 H E ds Φ hr hp hS => ?_)
  obtain ⟨sts, s, rfl, hs, hok, hΦ⟩ := hS
  have nd := sc__law_events.nd
  refine ds_last (ds_ret (de_dl (dl_map [("step", 2)] nd (pi_tup pe_w) (blkOk_by (N := n__law_events) (sc := defScope s__law_events) (by decide +kernel)) (fun _ _ _ _ _ => pg_name (i := 2) nd rfl (Or.inl rfl)) (wi_tup (de_ix ix_tup (de_nm 0 (de_nm 1 (rd_ixT (row_at hs) ⟨(rowA sts s).map rowD, rfl, ?_, cut3, fun B' y hp' hy => wg_name ?_, ?_⟩))))))))
  · rw [List.length_map]
    have := (hok.at s).1
    omega
  · obtain ⟨r, _, rfl⟩ := List.mem_map.mp hy
    intro s0 H0 C cl fp
    exact de_upto sl_tupA (de_nm 2 (ru_slT ⟨rfl, rfl⟩))
  · rw [cut3s]
    exact hΦ
abbrev Pr := Nat × Nat
def prD (p : Pr) : PyData := .tuple [natD p.1, natD p.2]
def tk2 (p : Pr) : TK := [.inl (p.1 : Nat), .inl (p.2 : Nat)]
theorem tk2_inj {p q : Pr} (h : tk2 p = tk2 q) : p = q := by
  unfold tk2 at h
  simp only [List.cons.injEq, Sum.inl.injEq, and_true] at h
  exact Prod.ext (by omega) (by omega)
def metK (ks : List Pr) : KvT := ks.map fun p => (tk2 p, .bool true)
theorem metK_has {p : Pr} : ∀ {ks : List Pr}, (getT (metK ks) (tk2 p)).isSome = decide (p ∈ ks)
  | [] => rfl
  | q :: ks => by
    have ih := metK_has (p := p) (ks := ks)
    unfold metK getT at ih ⊢
    rw [List.map_cons, List.find?_cons]
    by_cases g : q = p
    · subst g
      rw [decide_eq_true rfl, decide_eq_true List.mem_cons_self]
      rfl
    · rw [decide_eq_false (fun z => g (tk2_inj z))]
      rw [show (decide (p ∈ q :: ks)) = decide (p ∈ ks) from decide_eq_decide.mpr (by rw [List.mem_cons]; exact ⟨fun z => z.elim (fun z => absurd z.symm g) id, .inr⟩)]
      exact ih
theorem metK_put {p : Pr} {ks : List Pr} (h : p ∉ ks) : putTD (metK ks) (tk2 p) (.bool true) = metK (ks ++ [p]) := by
  unfold putTD
  rw [metK_has, decide_eq_false h, if_neg (by decide)]
  unfold metK
  rw [List.map_append]
  rfl
structure MetOk (M N : List (RwA St3)) (one other : Nat) (ks : List Pr) : Prop where
  nd : ks.Nodup
  lt : ∀ p ∈ ks, p.1 < M.length ∧ p.2 < N.length
  st : (one, other) ∈ ks
  al : Alk M N one other → ∀ p ∈ ks, Alk M N p.1 p.2
def Clsd (M N : List (RwA St3)) (ks : List Pr) (p : Pr) : Prop := evsA (rowA M p.1) = evsA (rowA N p.2) ∧ ∀ (i : Nat) (x y : St3 × Nat), (rowA M p.1)[i]? = some x → (rowA N p.2)[i]? = some y → (x.2, y.2) ∈ ks
theorem Clsd.mono {M N : List (RwA St3)} {ks ks' : List Pr} {p : Pr} (h : Clsd M N ks p) (s : ∀ q ∈ ks, q ∈ ks') : Clsd M N ks' p := ⟨h.1, fun i x y hx hy => s _ (h.2 i x y hx hy)⟩
theorem MetOk.len {M N : List (RwA St3)} {one other : Nat} {ks : List Pr} (h : MetOk M N one other ks) : ks.length ≤ M.length * N.length := by
  have := pigA ks ((List.range M.length).flatMap fun a => (List.range N.length).map fun b => (a, b)) h.nd fun p hp => by
    obtain ⟨a, b⟩ := p
    exact List.mem_flatMap.mpr ⟨a, List.mem_range.mpr (h.lt _ hp).1, List.mem_map.mpr ⟨b, List.mem_range.mpr (h.lt _ hp).2, rfl⟩⟩
  rw [flat_len (n := N.length) (fun a => by rw [List.length_map, List.length_range]), List.length_range] at this
  exact this
theorem MetOk.put {M N : List (RwA St3)} {one other : Nat} {ks : List Pr} (h : MetOk M N one other ks) {p : Pr} (hn : p ∉ ks) (hl : p.1 < M.length ∧ p.2 < N.length) (ha : Alk M N one other → Alk M N p.1 p.2) : MetOk M N one other (ks ++ [p]) where
  nd := List.nodup_append.mpr ⟨h.nd, by simp, fun a ha b hb z => hn (by simp at hb; rw [← hb, ← z]; exact ha)⟩
  lt := fun q hq => by
    rcases List.mem_append.mp hq with hq | hq
    · exact h.lt q hq
    · cases List.mem_singleton.mp hq
      exact hl
  st := List.mem_append.mpr (.inl h.st)
  al := fun a q hq => by
    rcases List.mem_append.mp hq with hq | hq
    · exact h.al a q hq
    · cases List.mem_singleton.mp hq
      exact ha a
def S_law_do_alike : SpD := fun ds Φ => ∃ (M N : List (List (St3 × Nat))) (one other : Nat), ds = [stsD M, natD one, stsD N, natD other] ∧ StsOk M ∧ StsOk N ∧ one < M.length ∧ other < N.length ∧ M.length * N.length ≤ 1000 ∧ ∀ b : Bool, (b = true ↔ Alk M N one other) → Φ (.bool b)
abbrev envA (P : Program) (w : World) (a : Addr) (M N : List (List (St3 × Nat))) (one other : Nat) (ks cs : List Pr) (r : List (Option C)) : St' := ⟨0, [some (.d (stsD M)), some (.d (natD one)), some (.d (stsD N)), some (.d (natD other)), some (tdC P w a (metK ks)), some (.own (cs.map prD))] ++ r⟩
theorem ok__law_do_alike (GE : Fn P w K mg base "_law_events" 1 ["states", "spot"] (spD K S_law_events)) (GT : Fn P w K mg base "_law_then" 1 ["states", "spot", "event"] (spD K S_law_then)) (F : Fd K "_law_do_alike" s__law_do_alike [] [] f fd) : FnOk P w K mg base CX0 2 f fd ["states", "one", "others", "other"] (spD K S_law_do_alike) := by
  refine fnD F sc__law_do_alike (fun ds Φ h => by obtain ⟨_, _, _, _, rfl, _⟩ := h; rfl) (fun B cdv A outer s0 H E ds Φ hr hp hS => ?_)
  obtain ⟨M, N, one, other, rfl, hM, hN, h1, h2, hMN, hΦ⟩ := hS
  have nd := sc__law_do_alike.nd
  have hu := room1 hr
  refine ds_cons (ds_setTd1 4 (hN := nd) hu (de_tup (da_cons (de_nm 1 (da_cons (de_nm 3 (da_nil ⟨by simp, de_bl ⟨tk2 (one, other), rfl, fun a => ?_⟩⟩)))))))
  refine ds_cons (ds_setO 5 (hN := nd) (dl_lst (da_cons (de_tup (da_cons (de_nm 1 (da_cons (de_nm 3 (da_nil ⟨by simp, da_nil ⟨by simp, ?_⟩⟩)))))))))
  refine ds_cons (ds_while (m0 := 2 * (M.length * N.length - 1) + 1) (fun m δ => ∃ ks cs c6 c7 c8 c9, δ = envA P w a M N one other ks cs [c6, c7, c8, c9] ∧ MetOk M N one other ks ∧ (∀ p ∈ cs, p ∈ ks) ∧ (∀ p ∈ ks, p ∉ cs → Clsd M N ks p) ∧ m ≤ 2000 ∧ m = 2 * (M.length * N.length - ks.length) + cs.length) ⟨[(one, other)], [(one, other)], none, none, none, none, rfl, ⟨by simp, fun p hp => by simp at hp; subst hp; exact ⟨h1, h2⟩, by simp, fun al p hp => by simp at hp; subst hp; exact al⟩, fun p hp => hp, fun p hp hn => absurd hp hn, by omega, rfl⟩ fun m δ hI => ?_)
  obtain ⟨ks, cs, c6, c7, c8, c9, rfl, hK, hcs, hcl, hbd, rfl⟩ := hI
  refine dt_neNilO 5 hr.units ?_
  have hcc : cs = [] ∨ ∃ d p, cs = d ++ [p] := by
    rcases List.eq_nil_or_concat cs with g | ⟨d, p, g⟩
    · exact .inl g
    · exact .inr ⟨d, p, by rw [g, List.concat_eq_append]⟩
  rcases hcc with rfl | ⟨cs, p, rfl⟩
  · refine iteF (ds_last (ds_ret (de_bl (hΦ true ⟨fun _ => ?_, fun _ => rfl⟩))))
    exact alk_of (fun s t => (s, t) ∈ ks) (fun s t hst => hcl (s, t) hst (by simp)) hK.st
  · rw [show (!((cs ++ [p]).map prD).isEmpty) = true by simp]
    refine iteT ?_
    have hpk : p ∈ ks := hcs p (by simp)
    obtain ⟨hp1, hp2⟩ := hK.lt p hpk
    refine ds_cons (ds_unpack [6, 7] (pg_two 6 7 nd) (de_pop 5 (xs := cs.map prD) (z := prD p) (hi := by show some (some (C.own ((cs ++ [p]).map prD))) = _; rw [List.map_append]; rfl) (wg_tup (wgs_cons (wg_name (wgs_cons (wg_name (wgs_nil ?_))))))))
    refine ds_cons (ds_if (dt_cmp (op_neD hr.units) (de_f (k' := 1) GE hr (da_cons (de_nm 0 (da_cons (de_nm 6 (da_nil ⟨M, p.1, rfl, hp1, hM, de_f (k' := 1) GE hr (da_cons (de_nm 2 (da_cons (de_nm 7 (da_nil ⟨N, p.2, rfl, hp2, hN, rd_neD ?_ ?_ ⟨_, rfl, ?_⟩⟩)))))⟩))))))))
    · exact shp_sh (shp_lst (n := 1) fun d hd => by
        obtain ⟨e, he, rfl⟩ := List.mem_map.mp hd
        obtain ⟨r, hr', rfl⟩ := List.mem_map.mp he
        exact shp_s3 ((hM.at p.1).2.1 r hr')) (by decide)
    · exact shp_sh (shp_lst (n := 1) fun d hd => by
        obtain ⟨e, he, rfl⟩ := List.mem_map.mp hd
        obtain ⟨r, hr', rfl⟩ := List.mem_map.mp he
        exact shp_s3 ((hN.at p.2).2.1 r hr')) (by decide)
    rw [eqv3s]
    by_cases hev : evsA (rowA M p.1) = evsA (rowA N p.2)
    · rw [decide_eq_true hev]
      refine iteF (ds_nil ?_)
      refine ds_last (ds_for [8] (pi_list pe_w) (pg_name (i := 8) nd rfl (.inl rfl)) (wi_list (de_f (k' := 1) GE hr (da_cons (de_nm 0 (da_cons (de_nm 6 (da_nil ⟨M, p.1, rfl, hp1, hM, _, rfl, ?_⟩))))))))
      refine ⟨fun j δ => ∃ ks' cs' c8 c9, δ = envA P w a M N one other ks' cs' [some (.d (natD p.1)), some (.d (natD p.2)), c8, c9] ∧ MetOk M N one other ks' ∧ (∀ q ∈ cs', q ∈ ks') ∧ (∀ q ∈ ks, q ∈ ks') ∧ (∀ q ∈ ks', q ∉ cs' → q ≠ p → Clsd M N ks' q) ∧ (∀ i x y, i < j → (rowA M p.1)[i]? = some x → (rowA N p.2)[i]? = some y → (x.2, y.2) ∈ ks') ∧ 2 * (M.length * N.length - ks'.length) + cs'.length + 1 ≤ 2 * (M.length * N.length - ks.length) + (cs ++ [p]).length, ⟨ks, cs, c8, c9, rfl, hK, fun q hq => hcs q (List.mem_append.mpr (.inl hq)), fun q hq => hq, fun q hq hn hne => hcl q hq (fun z => by
          rcases List.mem_append.mp z with z | z
          · exact hn z
          · exact hne (List.mem_singleton.mp z)), fun i x y hi => absurd hi (Nat.not_lt_zero _), by rw [List.length_append, List.length_singleton]; omega⟩, fun j y δ hy hJ => ?_, fun δ hJ => ?_⟩
      · obtain ⟨ks', cs', c8, c9, rfl, hK', hcs', hsub, hcl', hdone, hmes⟩ := hJ
        rw [List.getElem?_map, Option.map_eq_some_iff] at hy
        obtain ⟨e, hye, rfl⟩ := hy
        unfold evsA at hye
        rw [List.getElem?_map, Option.map_eq_some_iff] at hye
        obtain ⟨x, hx, rfl⟩ := hye
        obtain ⟨y, hy, hxy⟩ := evs_get hev hx
        have t1 : thenE (rowA M p.1) x.1 = some x.2 := thenE_at (hM.at p.1).2.2 hx
        have t2 : thenE (rowA N p.2) x.1 = some y.2 := by rw [← hxy]; exact thenE_at (hN.at p.2).2.2 hy
        have hox := (hM.at p.1).2.1 x (List.mem_of_getElem? hx)
        have hlt : x.2 < M.length ∧ y.2 < N.length := ⟨hM.wf.at hx, hN.wf.at hy⟩
        refine wg_name ?_
        refine ds_cons (ds_set 9 (hN := nd) (de_tup (da_cons (de_f (k' := 1) GT hr (da_cons (de_nm 0 (da_cons (de_nm 6 (da_cons (de_nm 8 (da_nil ⟨M, p.1, x.1, rfl, hp1, hM, hox, da_cons (de_f (k' := 1) GT hr (da_cons (de_nm 2 (da_cons (de_nm 7 (da_cons (de_nm 8 (da_nil ⟨N, p.2, x.1, rfl, hp2, hN, hox, da_nil ⟨by simp, ?_⟩⟩))))))))⟩)))))))))))
        rw [t1, t2]
        have hlen := hK'.len
        have fin : ∀ i u v, i < j + 1 → (rowA M p.1)[i]? = some u → (rowA N p.2)[i]? = some v → i < j ∨ (u = x ∧ v = y) := fun i u v hi hu' hv => by
          by_cases g : i < j
          · exact .inl g
          · have : i = j := by omega
            subst this
            rw [hx] at hu'
            rw [hy] at hv
            cases hu'
            cases hv
            exact .inr ⟨rfl, rfl⟩
        refine ds_last (ds_if (dt_tnotin 4 hu (de_nm 9 ⟨a, metK ks', tk2 (x.2, y.2), rfl, rfl, ?_⟩)) )
        rw [metK_has]
        by_cases hin : (x.2, y.2) ∈ ks'
        · rw [decide_eq_true hin]
          refine iteF (ds_nil ⟨ks', cs', some (.d (s3D x.1)), some (.d (prD (x.2, y.2))), rfl, hK', hcs', hsub, hcl', fun i u v hi hu' hv => ?_, hmes⟩)
          rcases fin i u v hi hu' hv with g | ⟨rfl, rfl⟩
          · exact hdone i u v g hu' hv
          · exact hin
        · rw [decide_eq_false hin]
          refine iteT (ds_cons (ds_tput 4 hu (de_bl (de_nm 9 ⟨a, metK ks', tk2 (x.2, y.2), rfl, rfl, ?_, ?_⟩))))
          · unfold metK; rw [List.length_map]; omega
          rw [metK_put hin]
          refine ds_last (ds_append 5 (de_nm 9 ⟨cs'.map prD, rfl, ?_, ?_⟩))
          · rw [List.length_map]
            omega
          have hK2 := hK'.put hin hlt fun al => (hK.al al p hpk).next hx hy
          have hlen2 := hK2.len
          rw [List.length_append, List.length_singleton] at hlen2
          refine ⟨ks' ++ [(x.2, y.2)], cs' ++ [(x.2, y.2)], some (.d (s3D x.1)), some (.d (prD (x.2, y.2))), ?_, hK2, fun q hq => ?_, fun q hq => List.mem_append.mpr (.inl (hsub q hq)), fun q hq hn hne => ?_, fun i u v hi hu' hv => ?_, ?_⟩
          · show (_ : St') = envA P w a M N one other _ _ _
            unfold envA
            rw [List.map_append (l₁ := cs')]
            rfl
          · rcases List.mem_append.mp hq with hq | hq
            · exact List.mem_append.mpr (.inl (hcs' q hq))
            · exact List.mem_append.mpr (.inr hq)
          · rcases List.mem_append.mp hq with hq | hq
            · exact (hcl' q hq (fun z => hn (List.mem_append.mpr (.inl z))) hne).mono fun z hz => List.mem_append.mpr (.inl hz)
            · exact absurd (List.mem_append.mpr (.inr hq)) hn
          · rcases fin i u v hi hu' hv with g | ⟨rfl, rfl⟩
            · exact List.mem_append.mpr (.inl (hdone i u v g hu' hv))
            · simp
          · rw [List.length_append, List.length_singleton, List.length_append, List.length_singleton]
            omega
      · obtain ⟨ks', cs', c8, c9, rfl, hK', hcs', hsub, hcl', hdone, hmes⟩ := hJ
        refine ⟨_, ?_, ks', cs', some (.d (natD p.1)), some (.d (natD p.2)), c8, c9, rfl, hK', hcs', fun q hq hn => ?_, ?_, rfl⟩
        · omega
        · by_cases g : q = p
          · subst g
            refine ⟨hev, fun i x y hx hy => hdone i x y ?_ hx hy⟩
            have := (List.getElem?_eq_some_iff.mp hx).1
            unfold evsA
            rw [List.length_map, List.length_map]
            exact this
          · exact hcl' q hq hn g
        · omega
    · rw [decide_eq_false hev]
      refine iteT (ds_last (ds_ret (de_bl (hΦ false ⟨fun z => (by cases z), fun al => absurd (hK.al al p hpk).evs hev⟩))))
end K3
set_option maxHeartbeats 200000
set_option Elab.async false
set_option linter.all false
set_option maxRecDepth 100000
set_option maxHeartbeats 4000000
namespace K3
open PySem PySem.Spec PyProof.Rows L2 DL
open PySem.W (alike alikeAll dataLt dataLe AllAlike Sortable EachIs keyToks keyToksAll lex_pre)
variable {P : Program} {w : World} {K : PySem.W.Frag} {mg : Str → Option Value} {base : Heap} {f : Addr} {fd : FuncData} {k : Nat}
section
variable {α : Type} [DecidableEq α]
def posA : List α → α → Nat
  | [], _ => 0
  | a :: l, t => if a = t then 0 else posA l t + 1
theorem posA_lt : ∀ {l : List α} {t : α}, t ∈ l → posA l t < l.length
  | [], t, h => by cases h
  | a :: l, t, h => by
    show (if a = t then 0 else posA l t + 1) < l.length + 1
    by_cases g : a = t
    · rw [if_pos g]; omega
    · rw [if_neg g]
      have := posA_lt ((List.mem_cons.mp h).resolve_left fun z => g z.symm)
      omega
theorem posA_get : ∀ {l : List α} {t : α}, t ∈ l → l[posA l t]? = some t
  | [], t, h => by cases h
  | a :: l, t, h => by
    show (a :: l)[if a = t then 0 else posA l t + 1]? = some t
    by_cases g : a = t
    · rw [if_pos g, g]; rfl
    · rw [if_neg g]
      have := posA_get ((List.mem_cons.mp h).resolve_left fun z => g z.symm)
      simpa using this
theorem posA_inj {l : List α} {t u : α} (ht : t ∈ l) (hu : u ∈ l) (h : posA l t = posA l u) : t = u := by
  have h1 := posA_get ht
  have h2 := posA_get hu
  rw [h, h2] at h1
  exact (Option.some.inj h1).symm
theorem posA_app : ∀ {l m : List α} {t : α}, t ∈ l → posA (l ++ m) t = posA l t
  | [], m, t, h => by cases h
  | a :: l, m, t, h => by
    show (if a = t then 0 else posA (l ++ m) t + 1) = (if a = t then 0 else posA l t + 1)
    by_cases g : a = t
    · rw [if_pos g, if_pos g]
    · rw [if_neg g, if_neg g, posA_app ((List.mem_cons.mp h).resolve_left fun z => g z.symm)]
theorem posA_new : ∀ {l : List α} {t : α}, t ∉ l → posA (l ++ [t]) t = l.length
  | [], t, h => by show (if t = t then 0 else _) = 0; rw [if_pos rfl]
  | a :: l, t, h => by
    show (if a = t then 0 else posA (l ++ [t]) t + 1) = l.length + 1
    have g : ¬ a = t := fun z => h (z ▸ List.mem_cons_self)
    rw [if_neg g, posA_new fun z => h (List.mem_cons_of_mem _ z)]
end
abbrev Tld := Nat × List (St3 × Nat)
def nkR (r : St3 × Nat) : NestedKey := .tup [.text r.1.1, .text r.1.2.1, .text r.1.2.2, .num (r.2 : Nat)]
def nkE (t : Tld) : NestedKey := .tup [.num (t.1 : Nat), .tup (t.2.map nkR)]
theorem datas_map {α : Type} {f : α → NestedKey} : ∀ l : List α, NestedKey.datas (l.map f) = l.map fun a => (f a).data
  | [] => rfl
  | a :: l => by
    show (f a).data :: NestedKey.datas (l.map f) = _
    rw [datas_map l]
    rfl
theorem nkE_data (t : Tld) : (nkE t).data = .tuple [natD t.1, stD t.2] := by
  show PyData.tuple [.int (t.1 : Nat), .tuple (NestedKey.datas (t.2.map nkR))] = _
  rw [datas_map]
  rfl
theorem nkR_inj {a b : St3 × Nat} (h : nkR a = nkR b) : a = b := by
  unfold nkR at h
  simp only [NestedKey.tup.injEq, List.cons.injEq, NestedKey.text.injEq, NestedKey.num.injEq, and_true] at h
  exact Prod.ext (Prod.ext h.1 (Prod.ext h.2.1 h.2.2.1)) (by have := h.2.2.2; omega)
theorem nkE_inj {a b : Tld} (h : nkE a = nkE b) : a = b := by
  unfold nkE at h
  simp only [NestedKey.tup.injEq, List.cons.injEq, NestedKey.num.injEq, and_true] at h
  exact Prod.ext (by have := h.1; omega) (map_inj' (fun z => nkR_inj z) h.2)
theorem nkE_ok (t : Tld) : NkOk (nkE t) := ⟨⟨_, rfl⟩, by
  have h : ∀ l : List (St3 × Nat), NestedKey.depthAll (l.map nkR) ≤ 1 := fun l => by
    induction l with
    | nil => exact Nat.zero_le _
    | cons a l ih =>
      show max 1 (NestedKey.depthAll (l.map nkR)) ≤ 1
      omega
  show max 0 (max (NestedKey.depthAll (t.2.map nkR) + 1) 0) + 1 ≤ 8
  have := h t.2
  omega⟩
def numK (n : Nat) (ts : List Tld) : KvN := (ts.zipIdx n).map fun q => (nkE q.1, natD q.2)
theorem numK_ok {n : Nat} {ts : List Tld} : KvNOk (numK n ts) := fun kv h => by
  obtain ⟨q, _, rfl⟩ := List.mem_map.mp h
  exact nkE_ok _
theorem numK_len {n : Nat} {ts : List Tld} : (numK n ts).length = ts.length := by unfold numK; rw [List.length_map, List.length_zipIdx]
theorem numK_app {ts : List Tld} {t : Tld} : numK 0 (ts ++ [t]) = numK 0 ts ++ [(nkE t, natD ts.length)] := by
  unfold numK
  rw [List.zipIdx_append, List.map_append]
  simp
theorem numK_get {t : Tld} : ∀ {ts : List Tld} {n : Nat}, getN (numK n ts) (nkE t) = if t ∈ ts then some (natD (n + posA ts t)) else none
  | [], n => rfl
  | a :: ts, n => by
    have ih := numK_get (t := t) (ts := ts) (n := n + 1)
    unfold numK getN at ih ⊢
    rw [List.zipIdx_cons, List.map_cons, List.find?_cons]
    by_cases g : a = t
    · subst g
      rw [decide_eq_true rfl, if_pos List.mem_cons_self]
      show some (natD n) = some (natD (n + if a = a then 0 else _))
      rw [if_pos rfl]
      rfl
    · rw [decide_eq_false (fun z => g (nkE_inj z)), ih]
      by_cases q : t ∈ ts
      · rw [if_pos q, if_pos (List.mem_cons_of_mem _ q)]
        show _ = some (natD (n + if a = t then 0 else posA ts t + 1))
        rw [if_neg g]
        congr 2
        omega
      · rw [if_neg q, if_neg (fun z => (List.mem_cons.mp z).elim (fun z => g z.symm) q)]
theorem dist_nat {ls : List Int} {ks : List Nat} (nd : ls.Nodup) (h : ∀ k, k ∈ ls ↔ k ∈ ks.map fun k => ((k : Nat) : Int)) : ∃ ls' : List Nat, Dist ls' ks ∧ ls'.length = ls.length := by
  have nn : ∀ k ∈ ls, ∃ j : Nat, k = (j : Int) := fun k hk => by
    obtain ⟨j, _, rfl⟩ := List.mem_map.mp ((h k).mp hk)
    exact ⟨j, rfl⟩
  refine ⟨ls.map Int.toNat, ⟨?_, fun k => ?_⟩, List.length_map _⟩
  · unfold List.Nodup
    rw [List.pairwise_map]
    refine List.Pairwise.imp_of_mem (fun {a b} ha hb hne z => hne ?_) nd
    obtain ⟨i, rfl⟩ := nn a ha
    obtain ⟨j, rfl⟩ := nn b hb
    have : i = j := by simpa using z
    rw [this]
  · rw [List.mem_map]
    constructor
    · rintro ⟨a, ha, rfl⟩
      obtain ⟨j, hj, rfl⟩ := List.mem_map.mp ((h a).mp ha)
      exact hj
    · intro hk
      exact ⟨(k : Nat), (h _).mpr (List.mem_map.mpr ⟨k, hk, rfl⟩), rfl⟩
theorem Dist.same {β : Type} {l m ks : List β} (h : Dist l ks) (h' : Dist m ks) : l.length = m.length :=
  Nat.le_antisymm (pigA l m h.nd fun x hx => (h'.iff x).mpr ((h.iff x).mp hx)) (pigA m l h'.nd fun x hx => (h.iff x).mpr ((h'.iff x).mp hx))
theorem Dist.le {β : Type} {l ks : List β} (h : Dist l ks) : l.length ≤ ks.length := pigA l ks h.nd fun x hx => (h.iff x).mp hx
abbrev ksD (ks : List Nat) : PyData := .list (ks.map natD)
theorem ksD_int (ks : List Nat) : ksD ks = .list ((ks.map fun k => ((k : Nat) : Int)).map PyData.int) := by
  show PyData.list _ = _
  rw [List.map_map]
  rfl
def tlA (M : List (List (St3 × Nat))) (ks : List Nat) (i : Nat) : Tld := toldA ks (ks.getD i 0) (rowA M i)
def kindD (ks : List Nat) : PyData → PyData
  | .tuple [.str a, .str b, .str c, .int t] => .tuple [.str a, .str b, .str c, natD (ks.getD t.toNat 0)]
  | _ => .none
theorem kindD_rows (ks : List Nat) (row : List (St3 × Nat)) : (row.map rowD).map (kindD ks) = (row.map fun p => (p.1, ks.getD p.2 0)).map rowD := by
  rw [List.map_map, List.map_map]
  rfl
theorem ks_at {ks : List Nat} {i : Nat} (h : i < ks.length) : atI (ks.map natD) ((i : Nat) : Int) = some (natD (ks.getD i 0)) := by
  rw [atI_nn (by omega), Int.toNat_natCast, List.getElem?_map, List.getElem?_eq_getElem h, List.getD_eq_getElem?_getD, List.getElem?_eq_getElem h]
  rfl
theorem room9 {k : Nat} {A : Around} (r : Room k A) : A.units + 9 < cLine := by
  have := r.un
  omega
def S_kinds_of : SpD := fun ds Φ => ∃ M : List (List (St3 × Nat)), ds = [stsD M] ∧ StsOk M ∧ 1 ≤ M.length ∧ M.length ≤ 100 ∧ ∀ ks, Kinds M ks → Φ (ksD ks)
abbrev envQ (M : List (List (St3 × Nat))) (ks : List Nat) (many : Nat) (c2 : Option C) (r : List (Option C)) : St' := ⟨0, [some (.d (stsD M)), some (.d (ksD ks)), c2, some (.d (natD many))] ++ r⟩
theorem ok_kinds_of (T : Tx mg) (F : Fd K "kinds_of" s_kinds_of [] [] f fd) : FnOk P w K mg base CX0 1 f fd ["states"] (spD K S_kinds_of) := by
  refine fnD F sc_kinds_of (fun ds Φ h => by obtain ⟨_, rfl, _⟩ := h; rfl) (fun B cdv A outer s0 H E ds Φ hr hp hS => ?_)
  obtain ⟨M, rfl, hM, l1, l2, hΦ⟩ := hS
  have nd := sc_kinds_of.nd
  have hu := room9 hr
  refine ds_cons (ds_set 1 (hN := nd) (de_dl (dl_map [("_", 2)] nd (pi_tup pe_w) (blkOk_by (N := n_kinds_of) (sc := defScope s_kinds_of) (by decide +kernel)) (fun _ _ _ _ _ => pg_name (i := 2) nd rfl (Or.inl rfl)) (wi_tup (de_nm 0 ⟨M.map stD, rfl, ?_, fun _ => natD 0, fun B' y hp' hy => wg_name ?_, ?_⟩)))))
  · rw [List.length_map]; omega
  · intro s0 H0 C cl fp
    exact de_int ⟨rfl, rfl⟩
  have e0 : (M.map stD).map (fun _ => natD 0) = (List.replicate M.length 0).map natD := by
    rw [List.map_map, List.map_replicate]
    exact List.map_const' ..
  rw [e0]
  refine ds_cons (ds_set 3 (de_int ?_) nd)
  refine ds_cons (ds_while (m0 := M.length + 1) (fun m δ => ∃ k ks many c2 r, δ = envQ M ks many c2 r ∧ r.length = 9 ∧ KdAt M k ks ∧ (many = 0 ∨ ∃ k0 ks0 ls0, k = k0 + 1 ∧ KdAt M k0 ks0 ∧ Dist ls0 ks0 ∧ many = ls0.length) ∧ many ≤ M.length ∧ m = M.length + 1 - many) ⟨0, List.replicate M.length 0, 0, none, List.replicate 9 none, rfl, rfl, kd_zero M, .inl rfl, by omega, rfl⟩ fun m δ hI => ?_)
  obtain ⟨k, ks, many, c2, r, rfl, hr9, hK, hmany, hml, rfl⟩ := hI
  have hkl := hK.len
  refine dt_cmp op_gt (de_lenSetI T.len T.set (de_nm 1 ⟨_, ksD_int ks, ?_, fun ls hnd hls => de_nm 3 (rd_B0 ⟨_, rfl, ?_⟩)⟩))
  · rw [List.length_map]; omega
  obtain ⟨ls1, hd1, hl1⟩ := dist_nat hnd hls
  rw [← hl1]
  by_cases hgt : many < ls1.length
  · rw [decide_eq_true (by omega : ((many : Nat) : Int) < ((ls1.length : Nat) : Int))]
    obtain ⟨c4, c5, c6, c7, c8, c9, c10, c11, c12, rfl⟩ : ∃ c4 c5 c6 c7 c8 c9 c10 c11 c12, r = [c4, c5, c6, c7, c8, c9, c10, c11, c12] := by
      match r, hr9 with
      | [c4, c5, c6, c7, c8, c9, c10, c11, c12], _ => exact ⟨_, _, _, _, _, _, _, _, _, rfl⟩
    refine iteT (ds_cons (ds_set 3 (hN := nd) (de_lenSetI T.len T.set (de_nm 1 ⟨_, ksD_int ks, ?_, fun ls' hnd' hls' => ?_⟩))))
    · rw [List.length_map]; omega
    obtain ⟨ls2, hd2, hl2⟩ := dist_nat hnd' hls'
    rw [← hl2]
    have hll := hd1.same hd2
    have hle := hd2.le
    refine ds_cons (ds_nnew 4 (fun a => ?_) nd)
    refine ds_cons (ds_setO 5 (dl_lst (da_nil ⟨by decide, ?_⟩)) nd)
    refine ds_cons (ds_for [6, 7] (pi_enumT T.enum pa_w) (pg_two 6 7 nd) (wi_enumT (da_cons (de_nm 0 (da_nil ⟨_, rfl, ?_⟩)))))
    refine ⟨fun i δ => ∃ ts c6 c7 c8 c9 c10 c11 c12, δ = envQ M ks ls2.length c2 [some (ndC P w a (numK 0 ts)), some (.own (((List.range i).map fun j => posA ts (tlA M ks j)).map natD)), c6, c7, c8, c9, c10, c11, c12] ∧ ts.length ≤ i ∧ ∀ j, j < i → tlA M ks j ∈ ts, ⟨[], c6, c7, c8, c9, c10, c11, c12, rfl, Nat.le_refl _, fun j hj => absurd hj (Nat.not_lt_zero _)⟩, fun i y δ hy hI => ?_, fun δ hI => ?_⟩
    · obtain ⟨ts, c6, c7, c8, c9, c10, c11, c12, rfl, htl, hts⟩ := hI
      obtain ⟨x, hx, rfl⟩ := enum_get hy
      rw [List.getElem?_map, Option.map_eq_some_iff] at hx
      obtain ⟨row, hrow, rfl⟩ := hx
      have hi := (List.getElem?_eq_some_iff.mp hrow).1
      have erow : rowA M i = row := rowA_get hrow
      have hrl := (hM.at i).1
      rw [erow] at hrl
      refine wg_tup (wgs_cons (wg_name (wgs_cons (wg_name (wgs_nil ?_)))))
      refine ds_cons (ds_set 8 (hN := nd) (de_tup (da_cons (de_ix ix_list (de_nm 1 (de_nm 6 (rd_ixL (ks_at (ks := ks) (i := i) (by omega)) (da_cons (de_callTy call_tuple_of T.tup boot_tuple (da_cons (de_dl (dl_map (g := gTup K 4 (gCons (gName 9) (gCons (gName 10) (gCons (gName 11) (gCons (gName 12) gNil))))) [("kind", 9), ("other", 10), ("word", 11), ("then", 12)] nd (pi_tup pe_w) (blkOk_by (N := n_kinds_of) (sc := defScope s_kinds_of) (by decide +kernel)) (fun _ _ _ _ _ => pg_four 9 10 11 12 nd) (wi_tup (de_nm 7 ⟨row.map rowD, rfl, ?_, kindD ks, fun B' y hp' hy => ?_, da_nil (rc_tupleL rfl (da_nil ⟨by simp, ?_⟩))⟩))))))))))))))
      · rw [List.length_map]; omega
      · obtain ⟨r, hr', rfl⟩ := List.mem_map.mp hy
        have hlt : r.2 < M.length := hM.wf row (List.mem_of_getElem? hrow) r hr'
        refine wg_tup (wgs_cons (wg_name (wgs_cons (wg_name (wgs_cons (wg_name (wgs_cons (wg_name (wgs_nil ?_)))))))))
        intro s0 H0 C cl fp
        exact de_tup (da_cons (de_nm 9 (da_cons (de_nm 10 (da_cons (de_nm 11 (da_cons (de_ix ix_list (de_nm 1 (de_nm 12 (rd_ixL (ks_at (ks := ks) (i := r.2) (by omega)) (da_nil ⟨by simp, rfl, rfl⟩))))))))))))
      rw [kindD_rows]
      have et : PyData.tuple [natD (ks.getD i 0), .tuple ((row.map fun p => (p.1, ks.getD p.2 0)).map rowD)] = (nkE (tlA M ks i)).data := by
        rw [nkE_data]
        unfold tlA toldA
        rw [erow]
        rfl
      rw [et]
      refine ds_last (ds_append 5 (de_nsetd 4 hu ⟨rfl, rfl, rfl, rfl⟩ numK_ok (de_nm 8 (de_lenN 4 T.len numK_ok ?_ ⟨a, numK 0 ts, nkE (tlA M ks i), rfl, nkE_ok _, numK_ok, rfl, ?_, fun x hx => ?_, fun hn => ?_⟩))))
      · rw [numK_len]; omega
      · rw [numK_len]; omega
      · rw [numK_get] at hx
        by_cases hin : tlA M ks i ∈ ts
        · rw [if_pos hin, Nat.zero_add] at hx
          injection hx with hx
          subst hx
          refine ⟨_, rfl, by rw [List.length_map, List.length_map, List.length_range]; omega, ts, some (.d (natD i)), some (.d (stD row)), some (.d (nkE (tlA M ks i)).data), c9, c10, c11, c12, ?_, by omega, fun j hj => ?_⟩
          · rw [List.range_succ, List.map_append, List.map_append]
            rfl
          · by_cases g : j < i
            · exact hts j g
            · have : j = i := by omega
              rw [this]; exact hin
        · rw [if_neg hin] at hx; cases hx
      · rw [numK_get] at hn
        have hin : tlA M ks i ∉ ts := fun z => by rw [if_pos z] at hn; cases hn
        rw [numK_len]
        have ek : numK 0 ts ++ [(nkE (tlA M ks i), .int ((ts.length : Nat) : Int))] = numK 0 (ts ++ [tlA M ks i]) := numK_app.symm
        refine ⟨((List.range i).map fun j => posA ts (tlA M ks j)).map natD, rfl, by rw [List.length_map, List.length_map, List.length_range]; omega, ts ++ [tlA M ks i], some (.d (natD i)), some (.d (stD row)), some (.d (nkE (tlA M ks i)).data), c9, c10, c11, c12, ?_, by rw [List.length_append, List.length_singleton]; omega, fun j hj => ?_⟩
        · rw [ek, List.range_succ, List.map_append, List.map_append]
          have e1 : ((List.range i).map fun j => posA (ts ++ [tlA M ks i]) (tlA M ks j)) = (List.range i).map fun j => posA ts (tlA M ks j) := List.map_congr_left fun j hj => posA_app (hts j (List.mem_range.mp hj))
          rw [e1]
          have e2 : [i].map (fun j => posA (ts ++ [tlA M ks i]) (tlA M ks j)) = [ts.length] := by
            show [posA (ts ++ [tlA M ks i]) (tlA M ks i)] = _
            rw [posA_new hin]
          rw [e2]
          rfl
        · by_cases g : j < i
          · exact List.mem_append.mpr (.inl (hts j g))
          · have : j = i := by omega
            rw [this]; simp
    · obtain ⟨ts, c6, c7, c8, c9, c10, c11, c12, rfl, htl, hts⟩ := hI
      rw [enum_len, List.length_map] at htl hts
      rw [enum_len, List.length_map]
      refine dss_freeze 5 ?_
      refine ds_last (ds_set 1 (de_nm 5 ?_) nd)
      have hkd : KdAt M (k + 1) ((List.range M.length).map fun j => posA ts (tlA M ks j)) := by
        refine kd_next hM.wf hK (by rw [List.length_map, List.length_range]) fun i j hi hj => ?_
        rw [List.getElem?_map, List.getElem?_map, List.getElem?_range hi, List.getElem?_range hj, Option.map_some, Option.map_some, Option.some.injEq]
        exact ⟨fun z => posA_inj (hts i hi) (hts j hj) z, fun z => by show posA ts (tlA M ks i) = posA ts (tlA M ks j); unfold tlA; rw [z]⟩
      refine ⟨M.length + 1 - ls2.length, by omega, k + 1, _, ls2.length, c2, _, rfl, rfl, hkd, .inr ⟨k, ks, ls2, rfl, hK, hd2, rfl⟩, by omega, rfl⟩
  · rw [decide_eq_false (by omega : ¬ ((many : Nat) : Int) < ((ls1.length : Nat) : Int))]
    refine iteF (ds_last (ds_ret (de_nm 1 (hΦ ks ?_))))
    rcases hmany with rfl | ⟨k0, ks0, ls0, rfl, hK0, hd0, rfl⟩
    · exfalso
      have h0 : ks[0]? = some ks[0] := List.getElem?_eq_getElem (by omega)
      have := (hd1.iff _).mpr (List.mem_of_getElem? h0)
      have := List.length_pos_of_mem this
      omega
    · exact kinds_of hM.wf hK0 hK hd0 hd1 (by omega)
end K3
set_option maxHeartbeats 200000
set_option Elab.async false
set_option linter.all false
set_option maxRecDepth 100000
set_option maxHeartbeats 1000000
namespace DL
open PySem PySem.Spec PyProof.Rows L2
section
variable {B : B0} {X : Cx} {δ : St'} {N : St' → Prop} {R : PE1} {pos pos' p2 : Pos} {x : Str}
/-- x = {}, keys that are no tuples -/
theorem ds_dnew (i : Nat) (h : N (δ.put i (.dct []))) (hN : X.N.Nodup) (hi : X.N[i]? = some x := by rfl) (hx : Loc X.env.scope x := by first | exact .inl rfl | exact .inr rfl)
    (hs : swapsWith (.Dict [] [] p2) (some (.Name x pos')) pos.line X.env = pure false := by rfl) (hf : X.fn x = true ∨ X.env.scope.names.lookup x = some .local := by first | exact .inl rfl | exact .inr rfl) : DS B X (.Assign [.Name x pos'] (.Dict [] [] p2) pos) δ N R :=
  .of (ps_set hN hi hx pe_dnewK hs hf) fun σ F H r D hn hr => fun p hp => by
    obtain ⟨j1, j2, j3, j4⟩ := r.fresh hp
    have r1 := r.side (o := .dK []) j2 j1 j4
    exact hn _ _ F _ (Same.refl F) (r1.putO i (c := .dct []) j4 ⟨p, [], rfl, j1, j2, upd_same, .nil⟩) h
/-- numbers in a list of numbers -/
theorem inV_nats {c : Nat} : ∀ {l : List Nat}, inV (toV (.int (c : Nat))) ((l.map fun k => PyData.int (k : Nat)).map toV) = decide (c ∈ l)
  | [] => rfl
  | a :: l => by
    have ih := inV_nats (c := c) (l := l)
    unfold inV at ih ⊢
    rw [List.map_cons, List.map_cons, List.any_cons, ih]
    by_cases e : a = c
    · subst e
      rw [decide_eq_true List.mem_cons_self]
      have : eqV (toV (.int (a : Nat))) (toV (.int (a : Nat))) = true := by
        show ((a : Int) == (a : Int)) = true
        simp
      rw [this]; rfl
    · have h1 : eqV (toV (.int (a : Nat))) (toV (.int (c : Nat))) = false := by
        show ((a : Int) == (c : Int)) = false
        refine beq_eq_false_iff_ne.mpr fun z => e (by omega)
      rw [h1, Bool.false_or]
      exact decide_eq_decide.mpr ⟨List.mem_cons_of_mem _, fun z => (List.mem_cons.mp z).resolve_left fun y => e y.symm⟩
end
end DL
namespace DL
open PySem PySem.Spec PyProof.Rows L2
section
variable {B : B0} {X : Cx} {a : Expr} {δ : St'} {pos p2 p3 : Pos} {k1 : Nat}
/-- a[:j], a list -/
theorem dl_upto {i : Int} {Ψ : PL} (h : DE B X a δ fun x δ1 => ∃ ds, x = .list ds ∧ Ψ (cutD ds none (some i)) δ1) : DLs B X (.Subscript a (.Slice none (some (.Constant (.int i) k1 p3)) none p2) pos) δ Ψ :=
  .of (pe_slice sl_list pe_w po_none (po_some pe_int)) (wl_sl (lo := none) (hi := some i) (fun _ _ _ q => q) (fun _ _ _ q => ⟨i, rfl, q⟩) h)
end
end DL
set_option maxHeartbeats 200000
set_option Elab.async false
set_option linter.all false
set_option maxRecDepth 100000
set_option maxHeartbeats 4000000
namespace K3
open PySem PySem.Spec PyProof.Rows L2 DL
open PySem.W (alike alikeAll dataLt dataLe AllAlike Sortable EachIs keyToks keyToksAll lex_pre)
variable {P : Program} {w : World} {K : PySem.W.Frag} {mg : Str → Option Value} {base : Heap} {f : Addr} {fd : FuncData} {k : Nat}
theorem kvN_get? {fs : List (Nat × Nat)} {k : Nat} (nd : (fs.map (·.1)).Nodup) : (k ∈ fs.map (·.1) → ∃ a, (k, a) ∈ fs ∧ getD' (kvN natD fs) (.inl (k : Int)) = some (natD a)) := fun h => by
  obtain ⟨r, hr, rfl⟩ := List.mem_map.mp h
  exact ⟨r.2, hr, kvN_in nd hr⟩
structure FstOk (ks : List Nat) (i : Nat) (fs : List (Nat × Nat)) : Prop where
  nd : (fs.map (·.1)).Nodup
  at' : ∀ r ∈ fs, ks[r.2]? = some r.1
  all : ∀ j c, j < i → ks[j]? = some c → c ∈ fs.map (·.1)
  len : fs.length ≤ i
theorem idxOf_nat {c : Nat} : ∀ {l : List Nat}, (l.map fun k => ((k : Nat) : Int)).idxOf (c : Int) = posA l c
  | [] => rfl
  | a :: l => by
    rw [List.map_cons, List.idxOf_cons, idxOf_nat]
    show _ = if a = c then 0 else posA l c + 1
    by_cases g : a = c
    · subst g
      simp
    · have : ((a : Int) == (c : Int)) = false := beq_eq_false_iff_ne.mpr fun z => g (by omega)
      rw [this, if_neg g]
      rfl
theorem numRow_one {m t : Nat} : t < m → numRow m [t] = some m := fun h => by show (if t < m then some m else _) = _; rw [if_pos h]
theorem numRow_new {m : Nat} : numRow m [m] = some (m + 1) := by show (if m < m then _ else if m = m then some (m + 1) else none) = _; rw [if_neg (by omega), if_pos rfl]
theorem thens_app {r s : List (St3 × Nat)} : thens (r ++ s) = thens r ++ thens s := List.map_append
/-- what stands while a row is told -/
structure StepAt (M : List (List (St3 × Nat))) (ks order : List Nat) (row : List (St3 × Nat)) (j : Nat) (order' : List Nat) (st : List (St3 × Nat)) : Prop where
  ext : ∃ e, order' = order ++ e
  nd : order'.Nodup
  sub : ∀ x ∈ order', x ∈ ks
  num : numRow order.length (thens st) = some order'.length
  ev : evsA st = evsA (row.take j)
  nx : ∀ (i : Nat) (p q : St3 × Nat), i < j → st[i]? = some p → row[i]? = some q → order'[p.2]? = ks[q.2]? ∧ p.2 < order'.length
theorem StepAt.begin {M : List (List (St3 × Nat))} {ks order : List Nat} {told : List (RwA St3)} (h : LeastAt M ks order told) (row : List (St3 × Nat)) : StepAt M ks order row 0 order [] :=
  ⟨⟨[], by simp⟩, h.nd, h.sub, rfl, by simp [evsA], fun i p q hi => absurd hi (Nat.not_lt_zero _)⟩
theorem StepAt.step {M : List (List (St3 × Nat))} {ks order order' : List Nat} {row st : List (St3 × Nat)} {j : Nat} {q : St3 × Nat} {c : Nat} (h : StepAt M ks order row j order' st) (hq : row[j]? = some q) (hc : ks[q.2]? = some c) (order2 : List Nat)
    (h2 : (c ∈ order' ∧ order2 = order') ∨ (c ∉ order' ∧ order2 = order' ++ [c])) : StepAt M ks order row (j + 1) order2 (st ++ [(q.1, posA order2 c)]) := by
  have hl : st.length = j := by
    have := evs_len (h.ev)
    rw [this, List.length_take]
    have := (List.getElem?_eq_some_iff.mp hq).1
    omega
  have mem2 : c ∈ order2 := by rcases h2 with ⟨h2, rfl⟩ | ⟨h2, rfl⟩; exact h2; simp
  have sub2 : ∃ e, order2 = order' ++ e := by rcases h2 with ⟨h2, rfl⟩ | ⟨h2, rfl⟩; exact ⟨[], by simp⟩; exact ⟨_, rfl⟩
  obtain ⟨e, he⟩ := sub2
  refine ⟨?_, ?_, ?_, ?_, ?_, ?_⟩
  · obtain ⟨e0, h0⟩ := h.ext
    exact ⟨e0 ++ e, by rw [he, h0, List.append_assoc]⟩
  · rcases h2 with ⟨h2, rfl⟩ | ⟨h2, rfl⟩
    · exact h.nd
    · exact List.nodup_append.mpr ⟨h.nd, by simp, fun a ha b hb z => h2 (by simp at hb; rw [← hb, ← z]; exact ha)⟩
  · rcases h2 with ⟨h2, rfl⟩ | ⟨h2, rfl⟩
    · exact h.sub
    · intro x hx
      rcases List.mem_append.mp hx with hx | hx
      · exact h.sub x hx
      · simp at hx
        subst hx
        exact List.mem_of_getElem? hc
  · rw [thens_app, numRow_app, h.num]
    show numRow order'.length [posA order2 c] = _
    rcases h2 with ⟨h2, rfl⟩ | ⟨h2, rfl⟩
    · exact numRow_one (posA_lt h2)
    · rw [posA_new h2, numRow_new, List.length_append, List.length_singleton]
  · have hev := h.ev
    rw [take_snoc hq]
    unfold evsA at hev ⊢
    rw [List.map_append, List.map_append, hev]
    rfl
  · intro i p r hi hp hr
    by_cases g : i < j
    · rw [List.getElem?_append_left (by omega)] at hp
      obtain ⟨n1, n2⟩ := h.nx i p r g hp hr
      rw [he, List.getElem?_append_left n2, List.length_append]
      exact ⟨n1, by omega⟩
    · have : i = j := by omega
      subst this
      rw [List.getElem?_append_right (by omega), hl, Nat.sub_self] at hp
      simp at hp
      subst hp
      rw [hq] at hr
      cases hr
      exact ⟨by rw [posA_get mem2, hc], posA_lt mem2⟩
theorem LeastAt.next {M : List (List (St3 × Nat))} {ks order order' : List Nat} {told : List (RwA St3)} {s c : Nat} {st : List (St3 × Nat)} (h : LeastAt M ks order told) (hlt : told.length < order.length) (ho : order[told.length]? = some c) (hs : ks[s]? = some c)
    (hS : StepAt M ks order (rowA M s) (rowA M s).length order' st) : LeastAt M ks order' (told ++ [st]) := by
  obtain ⟨e, he⟩ := hS.ext
  have up : ∀ {i : Nat} {v : Nat}, order[i]? = some v → order'[i]? = some v := fun {i v} hv => by
    rw [he, List.getElem?_append_left (List.getElem?_eq_some_iff.mp hv).1]
    exact hv
  have hlen : order.length ≤ order'.length := by rw [he, List.length_append]; omega
  refine ⟨hS.nd, hS.sub, ?_, ?_, ?_, ?_⟩
  · rw [he, List.getElem?_append_left (by omega)]
    exact h.fst
  · rw [List.length_append, List.length_singleton]; omega
  · rw [List.map_append, numRows_app, h.num]
    show numRows [thens st] (0 + (told.map thens).length) order.length = _
    show (if 0 + (told.map thens).length < order.length then (numRow order.length (thens st)).bind (numRows [] _) else none) = _
    rw [List.length_map, if_pos (by omega), hS.num]
    rfl
  · intro i r hr
    by_cases g : i < told.length
    · rw [List.getElem?_append_left g] at hr
      obtain ⟨c', s', h1, h2, h3, h4⟩ := h.row i r hr
      refine ⟨c', s', up h1, h2, h3, fun j p q hp hq => ?_⟩
      have e1 := h4 j p q hp hq
      by_cases z : p.2 < order.length
      · rw [he, List.getElem?_append_left z]
        exact e1
      · exfalso
        have hm : r ∈ told := List.mem_of_getElem? hr
        obtain ⟨a, b, hab⟩ := List.append_of_mem hm
        have hn := h.num
        rw [hab, List.map_append, numRows_app, Option.bind_eq_some_iff] at hn
        obtain ⟨m1, _, hn⟩ := hn
        have hn' : (if 0 + (a.map thens).length < m1 then (numRow m1 (thens r)).bind (numRows (b.map thens) (0 + (a.map thens).length + 1)) else none) = some order.length := hn
        split at hn'
        · rw [Option.bind_eq_some_iff] at hn'
          obtain ⟨m2, hm2, hn2⟩ := hn'
          have b1 := (numRow_le hm2).2 p.2 (List.mem_map.mpr ⟨p, List.mem_of_getElem? hp, rfl⟩)
          have b2 := numRows_le hn2
          omega
        · cases hn'
    · have hi : i = told.length := by
        have := (List.getElem?_eq_some_iff.mp hr).1
        rw [List.length_append, List.length_singleton] at this
        omega
      subst hi
      rw [List.getElem?_append_right (Nat.le_refl _), Nat.sub_self] at hr
      simp at hr
      subst hr
      refine ⟨c, s, up ho, hs, ?_, fun j p q hp hq => ?_⟩
      · rw [hS.ev, List.take_length]
      · exact (hS.nx j p q (List.getElem?_eq_some_iff.mp hq).1 hp hq).1
theorem LeastAt.bound {M : List (List (St3 × Nat))} {ks order : List Nat} {N : List (RwA St3)} (h : LeastAt M ks order N) : ∀ r ∈ N, ∀ p ∈ r, p.2 < order.length := fun r hm p hp => by
  obtain ⟨a, b, hab⟩ := List.append_of_mem hm
  have hn := h.num
  rw [hab, List.map_append, numRows_app, Option.bind_eq_some_iff] at hn
  obtain ⟨m1, _, hn⟩ := hn
  have hn' : (if 0 + (a.map thens).length < m1 then (numRow m1 (thens r)).bind (numRows (b.map thens) (0 + (a.map thens).length + 1)) else none) = some order.length := hn
  split at hn'
  · rw [Option.bind_eq_some_iff] at hn'
    obtain ⟨m2, hm2, hn2⟩ := hn'
    have b1 := (numRow_le hm2).2 p.2 (List.mem_map.mpr ⟨p, hp, rfl⟩)
    have b2 := numRows_le hn2
    omega
  · cases hn'
theorem LeastAt.en {h : Str} {os ws : List Str} {M N : List (List (St3 × Nat))} {ks order : List Nat} (hL : LeastAt M ks order N) (hl : N.length = order.length) (hK : Kinds M ks) (hE : EnOk h os ws M) : EnOk h os ws N := by
  have hol : order.length ≤ M.length := by
    have := pigA order ks hL.nd hL.sub
    rw [hK.len] at this
    exact this
  have h0 : 1 ≤ order.length := by
    have hk0 : ∃ v, ks[0]? = some v := ⟨_, List.getElem?_eq_getElem (by rw [hK.len]; exact hE.l1)⟩
    obtain ⟨v, hv⟩ := hk0
    exact (List.getElem?_eq_some_iff.mp (hL.fst.trans hv)).1
  refine ⟨hE.nm, by omega, by have := hE.l2; omega, fun r hr => ?_⟩
  obtain ⟨i, hi⟩ := List.getElem?_of_mem hr
  obtain ⟨c, s, h1, h2, h3, _⟩ := hL.row i r hi
  have hs : s < M.length := by
    have := (List.getElem?_eq_some_iff.mp h2).1
    rw [hK.len] at this
    exact this
  have hM := hE.rw (rowA M s) (by rw [rowA_get (List.getElem?_eq_getElem hs)]; exact List.getElem_mem hs)
  have h3' : r.map (·.1) = (rowA M s).map (·.1) := h3
  refine ⟨by rw [evs_len h3]; exact hM.len, by rw [h3']; exact hM.ris, fun q hq => ⟨?_, by rw [hl]; exact hL.bound r hr q hq⟩⟩
  have : q.1 ∈ (rowA M s).map (·.1) := by rw [← h3']; exact List.mem_map.mpr ⟨q, hq, rfl⟩
  obtain ⟨q', hq', e⟩ := List.mem_map.mp this
  rw [← e]
  exact (hM.ev q' hq').1
def whileBv : Stmt → List Stmt
  | .While _ b _ _ => b
  | _ => []
def S_least_end : SpD := fun ds Φ => ∃ (h : Str) (os ws : List Str) (M : List (List (St3 × Nat))), ds = [endD h M] ∧ EnOk h os ws M ∧ ∀ N, EnOk h os ws N → Canon N → Alk M N 0 0 → N.length ≤ M.length → Φ (endD h N)
abbrev envL (h : Str) (M : List (List (St3 × Nat))) (ks : List Nat) (fs : List (Nat × Nat)) (c5 c6 : Option C) (order : List Nat) (told : List (RwA St3)) (r : List (Option C)) : St' :=
  ⟨0, [some (.d (endD h M)), some (.d (.str h)), some (.d (stsD M)), some (.d (ksD ks)), some (.dct (kvN natD fs)), c5, c6, some (.own (order.map natD)), some (.own (told.map stD))] ++ r⟩
theorem all_atom (l : List Nat) : (l.map natD).all atom = true := by rw [List.all_map, List.all_eq_true]; exact fun x _ => rfl
theorem ok_least_end (T : Tx mg) (hB : ∃ t, mg "BEGIN" = some (.int 0 t)) (GC : Fn P w K mg base "check_end" 6 ["end"] (spD K S_check_end)) (GK : Fn P w K mg base "kinds_of" 1 ["states"] (spD K S_kinds_of)) (F : Fd K "least_end" s_least_end [] [] f fd) : FnOk P w K mg base CX0 7 f fd ["end"] (spD K S_least_end) := by
  refine fnD F sc_least_end (fun ds Φ h => by obtain ⟨_, _, _, _, rfl, _⟩ := h; rfl) (fun B cdv A outer s0 H E ds Φ hr hp hS => ?_)
  obtain ⟨h, os, ws, M, rfl, hE, hΦ⟩ := hS
  obtain ⟨tB, hB⟩ := hB
  have nd := sc_least_end.nd
  have hu := room1 hr
  have l1 := hE.l1
  have l2 := hE.l2
  have hM := hE.sts
  refine ds_cons (ds_expr (de_f (k' := 6) GC hr (da_cons (de_nm 0 (da_nil ⟨h, M, _, rfl, hE.end', ?_⟩)))))
  refine ds_cons (ds_unpack [1, 2] (pg_two 1 2 nd) (de_nm 0 (wg_tup (wgs_cons (wg_name (wgs_cons (wg_name (wgs_nil ?_))))))))
  refine ds_cons (ds_set 3 (hN := nd) (de_f (k' := 6) GK hr (da_cons (de_nm 2 (da_nil ⟨M, rfl, hM, l1, l2, fun ks hK => ?_⟩)))))
  have hkl := hK.len
  refine ds_cons (ds_dnew 4 ?_ nd)
  refine ds_cons (ds_for [5, 6] (pi_enum rfl T.enum pa_w) (pg_two 5 6 nd) (wi_enum (da_cons (de_nm 3 (da_nil ⟨_, rfl, ?_⟩)))))
  refine ⟨fun i δ => ∃ fs c5 c6, δ = ⟨0, [some (.d (endD h M)), some (.d (.str h)), some (.d (stsD M)), some (.d (ksD ks)), some (.dct (kvN natD fs)), c5, c6, none, none, none, none, none, none, none]⟩ ∧ FstOk ks i fs, ⟨[], none, none, rfl, List.nodup_nil, fun r hr => (by cases hr), fun j c hj => absurd hj (Nat.not_lt_zero _), Nat.le_refl _⟩, fun i y δ hy hI => ?_, fun δ hI => ?_⟩
  · obtain ⟨fs, c5, c6, rfl, hF⟩ := hI
    obtain ⟨x, hx, rfl⟩ := enum_get hy
    rw [List.getElem?_map, Option.map_eq_some_iff] at hx
    obtain ⟨c, hc, rfl⟩ := hx
    have hi := (List.getElem?_eq_some_iff.mp hc).1
    have hfl := hF.len
    have more : ∀ {fs' : List (Nat × Nat)}, (∀ k ∈ fs.map (·.1), k ∈ fs'.map (·.1)) → c ∈ fs'.map (·.1) → ∀ j c', j < i + 1 → ks[j]? = some c' → c' ∈ fs'.map (·.1) := fun {fs'} h1 h2 j c' hj hc' => by
      by_cases g : j < i
      · exact h1 _ (hF.all j c' g hc')
      · have : j = i := by omega
        subst this
        rw [hc] at hc'
        cases hc'
        exact h2
    refine wg_tup (wgs_cons (wg_name (wgs_cons (wg_name (wgs_nil ?_)))))
    refine ds_last (ds_expr (de_dsetd 4 ⟨rfl, rfl, rfl, rfl⟩ (de_nm 6 (de_nm 5 ⟨kvN natD fs, .inl (c : Int), rfl, rfl, by rw [kvN_len]; omega, fun x hx => ?_, fun hn => ?_⟩))))
    · by_cases hin : c ∈ fs.map (·.1)
      · exact ⟨fs, some (.d (natD i)), some (.d (natD c)), rfl, hF.nd, hF.at', more (fun k hk => hk) hin, by omega⟩
      · rw [kvN_no hin] at hx; cases hx
    · have hin : c ∉ fs.map (·.1) := fun z => by
        obtain ⟨a, _, h2⟩ := kvN_get? hF.nd z
        rw [h2] at hn; cases hn
      have e1 : putD (kvN natD fs) (.inl (c : Int)) (.int (i : Nat)) = kvN natD (fs ++ [(c, i)]) := kvN_put (f := natD) hin
      rw [e1]
      refine ⟨fs ++ [(c, i)], some (.d (natD i)), some (.d (natD c)), rfl, ?_, fun r hr => ?_, more (fun k hk => ?_) ?_, ?_⟩
      · rw [List.map_append]
        exact List.nodup_append.mpr ⟨hF.nd, by simp, fun a ha b hb z => hin (by simp at hb; rw [← hb, ← z]; exact ha)⟩
      · rcases List.mem_append.mp hr with hr | hr
        · exact hF.at' r hr
        · cases List.mem_singleton.mp hr
          exact hc
      · rw [List.map_append]; exact List.mem_append.mpr (.inl hk)
      · rw [List.map_append]; exact List.mem_append.mpr (.inr (by simp))
      · rw [List.length_append, List.length_singleton]; omega
  · obtain ⟨fs, c5, c6, rfl, hF⟩ := hI
    rw [enum_len, List.length_map] at hF
    have hfl := hF.len
    refine ds_cons (ds_setO 7 (hN := nd) (dl_lst (da_cons (de_ix ix_list (de_nm 3 (de_glob (v := .int 0) hB ⟨_, rfl⟩ (fun _ => .int _) (rd_ixL (ks_at (ks := ks) (i := 0) (by omega)) (da_nil ⟨by simp, ?_⟩))))))))
    refine ds_cons (ds_setO 8 (dl_lst (da_nil ⟨by decide, ?_⟩)) nd)
    have h0 : ks[0]? = some (ks.getD 0 0) := by rw [List.getD_eq_getElem?_getD, List.getElem?_eq_getElem (by omega)]; rfl
    refine ds_cons (ds_while (m0 := M.length + 1) (fun m δ => ∃ order told r, δ = envL h M ks fs c5 c6 order told r ∧ r.length = 5 ∧ LeastAt M ks order told ∧ m = M.length + 1 - told.length) ⟨[ks.getD 0 0], [], List.replicate 5 none, rfl, rfl, ⟨by simp, fun x hx => by simp at hx; rw [hx]; exact List.mem_of_getElem? h0, by rw [h0]; rfl, by simp, rfl, fun i r hr => by simp at hr⟩, rfl⟩ fun m δ hI => ?_)
    obtain ⟨order, told, r, rfl, hr5, hL, rfl⟩ := hI
    have hol : order.length ≤ M.length := by
      have := pigA order ks hL.nd hL.sub
      omega
    have htl := hL.le
    refine dt_cmp op_lt (de_lenO 8 T.len (de_lenO 7 T.len (rd_B0 ⟨_, rfl, ?_⟩)))
    rw [List.length_map, List.length_map]
    by_cases hlt : told.length < order.length
    · rw [decide_eq_true (by omega : ((told.length : Nat) : Int) < ((order.length : Nat) : Int))]
      obtain ⟨c9, c10, c11, c12, c13, rfl⟩ : ∃ c9 c10 c11 c12 c13, r = [c9, c10, c11, c12, c13] := by
        match r, hr5 with
        | [c9, c10, c11, c12, c13], _ => exact ⟨_, _, _, _, _, rfl⟩
      refine iteT (ds_cons (ds_setO 9 (dl_lst (da_nil ⟨by decide, ?_⟩)) nd))
      have ho : order[told.length]? = some order[told.length] := List.getElem?_eq_getElem hlt
      generalize order[told.length] = c at ho
      obtain ⟨j0, hj0⟩ := List.getElem?_of_mem (hL.sub c (List.mem_of_getElem? ho))
      have hcf := hF.all j0 c (List.getElem?_eq_some_iff.mp hj0).1 hj0
      obtain ⟨s, hs, hget⟩ := kvN_get? hF.nd hcf
      have hks : ks[s]? = some c := hF.at' _ hs
      have hsl : s < M.length := by
        have := (List.getElem?_eq_some_iff.mp hks).1
        omega
      have hrl := (hM.at s).1
      refine ds_cons (ds_for (g := gTup K 4 (gCons (gName 10) (gCons (gName 11) (gCons (gName 12) (gCons (gName 13) gNil))))) [10, 11, 12, 13] (pi_tup pe_w) (pg_four 10 11 12 13 nd) (wi_tup (de_ix ix_tup (de_nm 2 (de_dget 4 hu (de_ixO 7 (de_lenO 8 T.len ⟨order.map natD, _, natD c, rfl, rfl, ?_, kvN natD fs, .inl (c : Int), natD s, rfl, rfl, hget, rd_ixT (row_at hsl) ⟨(rowA M s).map rowD, rfl, ?_⟩⟩)))))))
      · rw [List.length_map, atI_nn (by omega), Int.toNat_natCast, List.getElem?_map, ho]
        rfl
      refine ⟨fun j δ => ∃ order' st c10 c11 c12 c13, δ = envL h M ks fs c5 c6 order' told [some (.own (st.map rowD)), c10, c11, c12, c13] ∧ StepAt M ks order (rowA M s) j order' st, ⟨order, [], c10, c11, c12, c13, rfl, StepAt.begin hL _⟩, fun j y δ hy hJ => ?_, fun δ hJ => ?_⟩
      · obtain ⟨order', st, c10, c11, c12, c13, rfl, hS⟩ := hJ
        rw [List.getElem?_map, Option.map_eq_some_iff] at hy
        obtain ⟨q, hq, rfl⟩ := hy
        have hjl := (List.getElem?_eq_some_iff.mp hq).1
        have hql : q.2 < M.length := hM.wf.at hq
        have hkq : ks[q.2]? = some (ks.getD q.2 0) := by rw [List.getD_eq_getElem?_getD, List.getElem?_eq_getElem (by omega)]; rfl
        have hstl : st.length = j := by
          have := evs_len hS.ev
          rw [this, List.length_take]
          omega
        have ho'l : order'.length ≤ M.length := by
          have := pigA order' ks hS.nd hS.sub
          omega
        refine wg_tup (wgs_cons (wg_name (wgs_cons (wg_name (wgs_cons (wg_name (wgs_cons (wg_name (wgs_nil ?_)))))))))
        have rest : ∀ order2 : List Nat, (ks.getD q.2 0 ∈ order' ∧ order2 = order') ∨ (ks.getD q.2 0 ∉ order' ∧ order2 = order' ++ [ks.getD q.2 0]) → DSs B (bodyX P w K mg base n_least_end "least_end" (defScope s_least_end) f cdv A outer s0 H E) ((forBv ((whileBv ((defBody s_least_end).getD 7 (.Pass ⟨0, 0, 0, 0⟩))).getD 1 (.Pass ⟨0, 0, 0, 0⟩))).drop 1)
            (envL h M ks fs c5 c6 order2 told [some (.own (st.map rowD)), some (.d (.str q.1.1)), some (.d (.str q.1.2.1)), some (.d (.str q.1.2.2)), some (.d (natD q.2))])
            (fun δ => ∃ order' st c10 c11 c12 c13, δ = envL h M ks fs c5 c6 order' told [some (.own (st.map rowD)), c10, c11, c12, c13] ∧ StepAt M ks order (rowA M s) (j + 1) order' st) fun x _ => Φ x := fun order2 h2 => by
          have hS2 := hS.step hq hkq order2 h2
          have mem2 : ks.getD q.2 0 ∈ order2 := by rcases h2 with ⟨h2, rfl⟩ | ⟨h2, rfl⟩; exact h2; simp
          refine ds_last (ds_append 9 (de_tup (da_cons (de_nm 10 (da_cons (de_nm 11 (da_cons (de_nm 12 (da_cons (de_indexO 7 (hr.units) (de_ix ix_list (de_nm 3 (de_nm 13 (rd_ixL (ks_at (ks := ks) (i := q.2) (by omega)) ⟨order2.map fun k => ((k : Nat) : Int), ((ks.getD q.2 0 : Nat) : Int), ?_, rfl, List.mem_map.mpr ⟨_, mem2, rfl⟩, da_nil ⟨by simp, st.map rowD, rfl, ?_, ?_⟩⟩))))))))))))))
          · show some (some (C.own (order2.map natD))) = _
            rw [List.map_map]
            rfl
          · rw [List.length_map]; omega
          · rw [idxOf_nat]
            refine ⟨order2, st ++ [(q.1, posA order2 (ks.getD q.2 0))], some (.d (.str q.1.1)), some (.d (.str q.1.2.1)), some (.d (.str q.1.2.2)), some (.d (natD q.2)), ?_, hS2⟩
            show (_ : St') = envL h M ks fs c5 c6 order2 told _
            unfold envL
            rw [List.map_append]
            rfl
        refine ds_cons (ds_if (dt_niO 7 (de_ix ix_list (de_nm 3 (de_nm 13 (rd_ixL (ks_at (ks := ks) (i := q.2) (by omega)) ⟨order'.map natD, rfl, rfl, all_atom _, ?_⟩))))))
        have ei : inV (toV (natD (ks.getD q.2 0))) ((order'.map natD).map toV) = decide (ks.getD q.2 0 ∈ order') := inV_nats
        rw [ei]
        by_cases hin : ks.getD q.2 0 ∈ order'
        · rw [decide_eq_true hin]
          exact iteF (ds_nil (rest order' (.inl ⟨hin, rfl⟩)))
        · rw [decide_eq_false hin]
          refine iteT (ds_last (ds_append 7 (de_ix ix_list (de_nm 3 (de_nm 13 (rd_ixL (ks_at (ks := ks) (i := q.2) (by omega)) ⟨order'.map natD, rfl, by rw [List.length_map]; omega, ?_⟩))))))
          have := rest (order' ++ [ks.getD q.2 0]) (.inr ⟨hin, rfl⟩)
          unfold envL at this
          rw [List.map_append] at this
          exact this
      · obtain ⟨order', st, c10, c11, c12, c13, rfl, hS⟩ := hJ
        rw [List.length_map] at hS
        refine dss_freeze 9 ?_
        refine ds_last (ds_append 8 (de_callTy call_tuple_of T.tup boot_tuple (da_cons (de_nm 9 (da_nil (rc_tupleL rfl ⟨told.map stD, rfl, by rw [List.length_map]; omega, M.length + 1 - (told ++ [st]).length, by rw [List.length_append, List.length_singleton]; omega, order', told ++ [st], [some (.d (.list (st.map rowD))), c10, c11, c12, c13], ?_, rfl, hL.next hlt ho hks hS, rfl⟩))))))
        show (_ : St') = envL h M ks fs c5 c6 order' (told ++ [st]) _
        unfold envL
        rw [List.map_append]
        rfl
    · rw [decide_eq_false (by omega : ¬ ((told.length : Nat) : Int) < ((order.length : Nat) : Int))]
      have hl : told.length = order.length := by omega
      refine iteF (dss_freeze 8 ?_)
      refine ds_last (ds_ret (de_tup (da_cons (de_nm 1 (da_cons (de_callTy call_tuple_of T.tup boot_tuple (da_cons (de_nm 8 (da_nil (rc_tupleL rfl (da_nil ⟨by simp, ?_⟩)))))))))))
      exact hΦ told (hL.en hl hK hE) (hL.canon hl hK hM.wf) (hL.sim hl hK hM.wf l1 (by have := hL.fst; rw [h0] at this; have := (List.getElem?_eq_some_iff.mp this).1; omega) hL.fst.symm) (by omega)
end K3
set_option maxHeartbeats 200000
set_option Elab.async false
set_option linter.all false
set_option maxRecDepth 100000
set_option maxHeartbeats 4000000
namespace K3
open PySem PySem.Spec PyProof.Rows L2 DL
open PySem.W (alike alikeAll dataLt dataLe AllAlike Sortable EachIs keyToks keyToksAll lex_pre)
variable {P : Program} {w : World} {K : PySem.W.Frag} {mg : Str → Option Value} {base : Heap} {f : Addr} {fd : FuncData} {k : Nat}
def cps (ms : List Nat) (n : Nat) : List Pr := (List.range n).flatMap fun a => (List.range (ms.getD a 0)).map fun t => (a, t)
theorem cps_succ (ms : List Nat) (n : Nat) : cps ms (n + 1) = cps ms n ++ (List.range (ms.getD n 0)).map fun t => (n, t) := by
  unfold cps
  rw [List.range_succ, List.flatMap_append]
  simp
theorem cps_mem {ms : List Nat} {n : Nat} {p : Pr} : p ∈ cps ms n ↔ p.1 < n ∧ p.2 < ms.getD p.1 0 := by
  unfold cps
  rw [List.mem_flatMap]
  constructor
  · rintro ⟨a, ha, hp⟩
    obtain ⟨t, ht, rfl⟩ := List.mem_map.mp hp
    exact ⟨List.mem_range.mp ha, List.mem_range.mp ht⟩
  · rintro ⟨h1, h2⟩
    exact ⟨p.1, List.mem_range.mpr h1, List.mem_map.mpr ⟨p.2, List.mem_range.mpr h2, rfl⟩⟩
theorem cps_nd (ms : List Nat) : ∀ n : Nat, (cps ms n).Nodup
  | 0 => List.nodup_nil
  | n + 1 => by
    rw [cps_succ, List.nodup_append]
    refine ⟨cps_nd ms n, ?_, fun a ha b hb z => ?_⟩
    · unfold List.Nodup
      rw [List.pairwise_map]
      exact List.nodup_range.imp fun {a b} hne z => hne (by injection z)
    · obtain ⟨t, _, rfl⟩ := List.mem_map.mp hb
      rw [z] at ha
      have := (cps_mem.mp ha).1
      omega
theorem cps_len {ms : List Nat} : ∀ {n : Nat}, (∀ a, ms.getD a 0 ≤ 2) → (cps ms n).length ≤ 2 * n
  | 0, _ => Nat.le_refl _
  | n + 1, h => by
    rw [cps_succ, List.length_append, List.length_map, List.length_range]
    have := cps_len (n := n) h
    have := h n
    omega
/-- what is told of the rows of a copy -/
structure CpAt (M : List (List (St3 × Nat))) (order : List Pr) (N : List (List (St3 × Nat))) : Prop where
  row : ∀ (i : Nat) (r : List (St3 × Nat)), N[i]? = some r → ∃ p, order[i]? = some p ∧ evsA r = evsA (rowA M p.1) ∧ ∀ (j : Nat) (x y : St3 × Nat), r[j]? = some x → (rowA M p.1)[j]? = some y → ∃ t, order[x.2]? = some (y.2, t)
theorem CpAt.alk {M N : List (List (St3 × Nat))} {order : List Pr} (h : CpAt M order N) (hl : N.length = order.length) {s i t : Nat} (ho : order[i]? = some (s, t)) : Alk M N s i := by
  refine alk_of (fun s i => ∃ t, order[i]? = some (s, t)) (fun s i ⟨t, ho⟩ => ?_) ⟨t, ho⟩
  have hi : i < N.length := by
    have := (List.getElem?_eq_some_iff.mp ho).1
    omega
  have hr : N[i]? = some N[i] := List.getElem?_eq_getElem hi
  obtain ⟨p, h1, h2, h3⟩ := h.row i _ hr
  rw [ho] at h1
  cases h1
  rw [rowA_get hr]
  exact ⟨h2.symm, fun j y x hy hx => h3 j x y hx hy⟩
structure CpOk (h : Str) (os ws : List Str) (M : List (List (St3 × Nat))) (N : List (List (St3 × Nat))) : Prop where
  en : EnOk h os ws N
  al : Alk M N 0 0
  ln : N.length ≤ 2 * M.length
  rl : ∀ row ∈ N, ∃ row' ∈ M, row.length = row'.length
theorem CpAt.ok {h : Str} {os ws : List Str} {M N : List (List (St3 × Nat))} {order : List Pr} (hC : CpAt M order N) (hl : N.length = order.length) (hE : EnOk h os ws M) (h0 : order[0]? = some (0, 0)) (hlt : ∀ p ∈ order, p.1 < M.length) (hle : order.length ≤ 2 * M.length) (hM : M.length ≤ 50) : CpOk h os ws M N := by
  have hrow : ∀ r ∈ N, ∃ row ∈ M, evsA r = evsA row ∧ (∀ x ∈ r, x.2 < N.length) := fun r hr => by
    obtain ⟨i, hi⟩ := List.getElem?_of_mem hr
    obtain ⟨p, h1, h2, h3⟩ := hC.row i r hi
    have hp := hlt p (List.mem_of_getElem? h1)
    refine ⟨rowA M p.1, by rw [rowA_get (List.getElem?_eq_getElem hp)]; exact List.getElem_mem hp, h2, fun x hx => ?_⟩
    obtain ⟨j, hj⟩ := List.getElem?_of_mem hx
    obtain ⟨y, hy, _⟩ := evs_get h2 hj
    obtain ⟨t, ht⟩ := h3 j x y hj hy
    rw [hl]
    exact (List.getElem?_eq_some_iff.mp ht).1
  refine ⟨⟨hE.nm, ?_, by omega, fun r hr => ?_⟩, hC.alk hl h0, by omega, fun r hr => ?_⟩
  · have := (List.getElem?_eq_some_iff.mp h0).1
    omega
  · obtain ⟨row, hm, he, hx⟩ := hrow r hr
    have hR := hE.rw row hm
    have he' : r.map (·.1) = row.map (·.1) := he
    refine ⟨by rw [evs_len he]; exact hR.len, by rw [he']; exact hR.ris, fun x hx' => ⟨?_, hx x hx'⟩⟩
    have : x.1 ∈ row.map (·.1) := by rw [← he']; exact List.mem_map.mpr ⟨x, hx', rfl⟩
    obtain ⟨y, hy, e⟩ := List.mem_map.mp this
    rw [← e]
    exact (hR.ev y hy).1
  · obtain ⟨row, hm, he, _⟩ := hrow r hr
    exact ⟨row, hm, evs_len he⟩
theorem map_eraseIdx' {α β : Type} {f : α → β} : ∀ {l : List α} {n : Nat}, (l.map f).eraseIdx n = (l.eraseIdx n).map f
  | [], n => rfl
  | a :: l, 0 => rfl
  | a :: l, n + 1 => by rw [List.map_cons, List.eraseIdx_cons_succ, List.eraseIdx_cons_succ, List.map_cons, map_eraseIdx']
def S_law_copied : SpP := fun n ds Φ => ∃ (h : Str) (os ws : List Str) (M : List (List (St3 × Nat))), ds = [endD h M] ∧ EnOk h os ws M ∧ M.length ≤ 50 ∧ n + 5000 < 1099511627776 ∧ ∀ N m, CpOk h os ws M N → n ≤ m → m ≤ n + 2000 → Φ (endD h N) m
def int2 (p : Pr) : Int × Int := ((p.1 : Nat), (p.2 : Nat))
theorem int2_D (l : List Pr) : l.map prD = (l.map int2).map PySem.W.Datum.toD := by rw [List.map_map]; rfl
theorem int2_inj {a b : Pr} (z : int2 a = int2 b) : a = b := by
  unfold int2 at z
  injection z with z1 z2
  exact Prod.ext (by omega) (by omega)
theorem idx_gen {α β : Type} [DecidableEq α] [DecidableEq β] {f : α → β} (hf : ∀ {a b}, f a = f b → a = b) {p : α} : ∀ {l : List α}, (l.map f).idxOf (f p) = posA l p
  | [] => rfl
  | a :: l => by
    rw [List.map_cons, List.idxOf_cons, idx_gen hf]
    show _ = if a = p then 0 else posA l p + 1
    by_cases g : a = p
    · subst g
      simp
    · have : (f a == f p) = false := beq_eq_false_iff_ne.mpr fun z => g (hf z)
      rw [this, if_neg g]
      rfl
abbrev envC (n : Nat) (h : Str) (M : List (List (St3 × Nat))) (r : List (Option C)) : St' := ⟨n, [some .pot, some (.d (endD h M)), some (.d (.str h)), some (.d (stsD M))] ++ r⟩
theorem ok__law_copied (T : Tx mg) (GT : Fn P w K mg base "_law_take" 1 ["pot", "many"] (spP K S_law_take)) (F : Fd K "_law_copied" s__law_copied [] [] f fd) : FnOk P w K mg base CX0 2 f fd ["pot", "own"] (spP K S_law_copied) := by
  refine fnP F sc__law_copied (fun n ds Φ h => by obtain ⟨_, _, _, _, rfl, _⟩ := h; rfl) (fun B cdv A outer s0 H E n ds Φ hr hp hS => ?_)
  obtain ⟨h, os, ws, M, rfl, hE, hM50, hn, hΦ⟩ := hS
  have nd := sc__law_copied.nd
  have l1 := hE.l1
  have hM := hE.sts
  refine ds_cons (ds_unpack [2, 3] (pg_two 2 3 nd) (de_nm 1 (wg_tup (wgs_cons (wg_name (wgs_cons (wg_name (wgs_nil ?_))))))))
  -- how often each stands
  refine ds_cons (ds_setLcI 4 [("row", 5)] nd (pi_tup pe_w) (blkOk_by (N := n__law_copied) (sc := defScope s__law_copied) (by decide +kernel)) (fun _ _ _ _ _ => pg_name (i := 5) nd rfl (Or.inl rfl)) (wi_tup (de_nm 3 ⟨M.map stD, rfl, ?_⟩)))
  refine ⟨by rw [List.length_map]; omega, fun i acc m => ∃ ms : List Nat, acc = ms.map natD ∧ ms.length = i ∧ (∀ x ∈ ms, 1 ≤ x ∧ x ≤ 2) ∧ m = n + i, ⟨[], rfl, rfl, (fun x hx => by cases hx), rfl⟩, fun B' i y acc m hp' hy hl hI => wg_name ?_, fun acc m hl hI => ?_⟩
  · obtain ⟨ms, rfl, hmi, hm12, rfl⟩ := hI
    have hi := (List.getElem?_eq_some_iff.mp hy).1
    rw [List.length_map] at hi
    intro s0 H0 C cl fp
    refine de_bin op_add (de_int (de_fP (k' := 1) 0 GT hr (da_cons (de_int (da_nil ⟨2, rfl, by decide, by decide, by show n + i < _; omega, fun d g0 g1 => rd_I0 ?_⟩)))))
    obtain ⟨x, hx⟩ : ∃ x : Nat, 1 + d = (x : Nat) := ⟨(1 + d).toNat, by omega⟩
    rw [hx]
    refine ⟨ms ++ [x], by rw [List.map_append]; rfl, by rw [List.length_append, hmi]; rfl, fun y hy => ?_, rfl⟩
    rcases List.mem_append.mp hy with hy | hy
    · exact hm12 y hy
    · cases List.mem_singleton.mp hy
      omega
  obtain ⟨ms, rfl, hmi, hm12, rfl⟩ := hI
  rw [List.length_map] at hmi ⊢
  have ms2 : ∀ a, ms.getD a 0 ≤ 2 := fun a => by
    rw [List.getD_eq_getElem?_getD]
    cases g : ms[a]? with
    | none => exact Nat.zero_le _
    | some x => exact (hm12 x (List.mem_of_getElem? g)).2
  have ms1 : ∀ a, a < M.length → 1 ≤ ms.getD a 0 := fun a ha => by
    rw [List.getD_eq_getElem?_getD, List.getElem?_eq_getElem (by omega)]
    exact (hm12 _ (List.getElem_mem _)).1
  refine ds_cons (ds_set 6 (de_dl (dl_lst (da_nil ⟨by decide, ?_⟩))) nd)
  refine ds_cons (ds_for [7] (pi_range1 rfl T.range pa_w) (pg_name (i := 7) nd rfl (.inr rfl)) (wi_rng1 (da_cons (de_callB call_len T.len boot_len (da_cons (de_nm 3 (da_nil (rc_lenT rfl (da_nil ⟨_, rfl, ?_, ?_, ?_⟩)))))))))
  · rw [List.length_map]; omega
  · rw [List.length_map]; omega
  rw [List.length_map, Int.toNat_natCast]
  refine ⟨fun i δ => ∃ c5 c7 r, δ = envC (n + M.length) h M ([some (.d (.list (ms.map natD))), c5, some (.d (.list ((cps ms i).map prD))), c7, none, none, none, none, none, none, none]) ∧ r = (0 : Nat), ⟨_, none, 0, rfl, rfl⟩, fun i y δ hy hI => ?_, fun δ hI => ?_⟩
  · obtain ⟨c5, c7, _, rfl, _⟩ := hI
    obtain ⟨hi, rfl⟩ := rng_get hy
    have hcl := cps_len (n := i) ms2
    have hm2 := ms2 i
    refine wg_name ?_
    refine ds_last (ds_set 6 (hN := nd) (de_dl (dl_cat (de_nm 6 ⟨_, rfl, de_dl (dl_map [("time", 8)] nd (pi_range1 rfl T.range pa_w) (blkOk_by (N := n__law_copied) (sc := defScope s__law_copied) (by decide +kernel)) (fun _ _ _ _ _ => pg_name (i := 8) nd rfl (Or.inl rfl)) (wi_rng1 (da_cons (de_ix ix_list (de_nm 4 (de_nm 7 (rd_ixL (z := natD (ms.getD i 0)) ?_ (da_nil ⟨_, rfl, ?_, ?_, ?_⟩))))))))⟩))))
    · rw [show (0 + (i : Nat) : Int) = (i : Nat) by omega]
      exact ks_at (ks := ms) (i := i) (by omega)
    · omega
    · omega
    rw [Int.toNat_natCast]
    refine ⟨by rw [rng_len]; omega, fun d => .tuple [natD i, d], fun B' y hp' hy => wg_name ?_, _, rfl, ?_, ?_⟩
    · intro s0 H0 C cl fp
      refine de_tup (da_cons (de_nm 7 (da_cons (de_nm 8 (da_nil ⟨by simp, ?_, rfl⟩)))))
      show PyData.tuple [.int (0 + (i : Nat)), y] = .tuple [natD i, y]
      rw [show (0 + (i : Nat) : Int) = (i : Nat) by omega]
      rfl
    · rw [List.length_map, List.length_map, rng_len]; omega
    · refine ⟨c5, some (.d (.int (0 + (i : Nat)))), 0, ?_, rfl⟩
      have e1 : (cps ms i).map prD ++ (rng 0 (ms.getD i 0)).map (fun d => PyData.tuple [natD i, d]) = (cps ms (i + 1)).map prD := by
        rw [cps_succ, List.map_append, List.map_map]
        congr 1
        unfold rng
        rw [List.map_map]
        refine List.map_congr_left fun t _ => ?_
        show PyData.tuple [natD i, .int (0 + (t : Nat))] = .tuple [natD i, natD t]
        rw [show (0 + (t : Nat) : Int) = (t : Nat) by omega]
        rfl
      rw [e1]
      rfl
  obtain ⟨c5, c7, _, rfl, _⟩ := hI
  rw [rng_len]
  have hcl := cps_len (n := M.length) ms2
  have hcn := cps_nd ms M.length
  generalize hcp : cps ms M.length = cp at hcl hcn
  have hc0 : (0, 0) ∈ cp := by rw [← hcp]; exact cps_mem.mpr ⟨by show 0 < M.length; omega, ms1 0 (by omega)⟩
  have hcm : ∀ p ∈ cp, p.1 < M.length ∧ p.2 < ms.getD p.1 0 := fun p hp => by rw [← hcp] at hp; exact cps_mem.mp hp
  have hc0' : cp[0]? = some (0, 0) := by
    rw [← hcp]
    obtain ⟨k, hk⟩ : ∃ k, M.length = k + 1 := ⟨M.length - 1, by omega⟩
    rw [hk]
    clear hcp hk
    induction k with
    | zero =>
      rw [cps_succ]
      have h1 := ms1 0 (by omega)
      obtain ⟨q, hq⟩ : ∃ q, ms.getD 0 0 = q + 1 := ⟨ms.getD 0 0 - 1, by omega⟩
      rw [hq, List.range_succ_eq_map]
      rfl
    | succ k ih =>
      rw [cps_succ, List.getElem?_append_left (List.getElem?_eq_some_iff.mp ih).1]
      exact ih
  refine ds_cons (ds_setO 9 (hN := nd) (dl_from (de_nm 6 ⟨_, rfl, ?_⟩)))
  rw [cutD_from1, ← List.map_drop]
  have hcpl : 1 ≤ cp.length := (List.getElem?_eq_some_iff.mp hc0').1
  refine ds_cons (ds_set 10 (hN := nd) (de_dl (dl_cat (de_dl (dl_upto (de_nm 6 ⟨_, rfl, _, rfl, ?_⟩))))))
  refine de_dl (dl_lcO 9 [("turn", 11)] (by decide) nd (pi_range1 rfl T.range pa_w) (blkOk_by (N := n__law_copied) (sc := defScope s__law_copied) (by decide +kernel)) (fun _ _ _ _ _ => pg_name (i := 11) nd rfl (Or.inl rfl)) (wi_rng1 (da_cons (de_lenO 9 T.len (da_nil ⟨_, rfl, ?_, ?_, ?_⟩)))))
  · rw [List.length_map, List.length_drop]; omega
  · rw [List.length_map, List.length_drop]; omega
  rw [List.length_map, List.length_drop, Int.toNat_natCast]
  refine ⟨by rw [rng_len]; omega, _, rfl, fun i acc ys m => ∃ as bs : List Pr, acc = as.map prD ∧ ys = bs.map prD ∧ as.length = i ∧ (as ++ bs).Perm (cp.drop 1) ∧ m = n + M.length + i, ⟨[], cp.drop 1, rfl, rfl, rfl, List.Perm.refl _, rfl⟩, fun B' i y acc ys m hp' hy hl hI => wg_name ?_, fun acc ys m hl hI => ?_⟩
  · obtain ⟨as, bs, rfl, rfl, hai, hpm, rfl⟩ := hI
    have hi := (rng_get hy).1
    have hpl := hpm.length_eq
    rw [List.length_append, List.length_drop] at hpl
    intro s0 H0 C cl fp
    refine de_popAt 9 (de_fP (k' := 1) 0 GT hr (da_cons (de_lenO 9 T.len (da_nil ⟨_, rfl, ?_, ?_, ?_, fun d g0 g1 => ?_⟩))))
    · rw [List.length_map]; omega
    · rw [List.length_map]; omega
    · show n + M.length + i < _; omega
    rw [List.length_map] at g1
    have hd : d.toNat < bs.length := by omega
    refine ⟨bs.map prD, d.toNat, prD bs[d.toNat], by rw [Int.toNat_of_nonneg g0], rfl, by rw [List.getElem?_map, List.getElem?_eq_getElem hd]; rfl, by rw [List.length_map]; omega, (bs.eraseIdx d.toNat).map prD, ?_, as ++ [bs[d.toNat]], bs.eraseIdx d.toNat, by rw [List.map_append]; rfl, rfl, by rw [List.length_append, hai]; rfl, ?_, rfl⟩
    · rw [map_eraseIdx']
      rfl
    · refine List.Perm.trans ?_ hpm
      rw [List.append_assoc]
      refine List.Perm.append_left _ ?_
      have := List.eraseIdx_eq_take_drop_succ bs d.toNat
      rw [this]
      have e2 : bs = bs.take d.toNat ++ (bs[d.toNat] :: bs.drop (d.toNat + 1)) := by
        rw [List.getElem_cons_drop, List.take_append_drop]
      conv => rhs; rw [e2]
      show (bs[d.toNat] :: (bs.take d.toNat ++ bs.drop (d.toNat + 1))).Perm _
      exact List.perm_middle.symm
  obtain ⟨as, bs, rfl, rfl, hai, hpm, rfl⟩ := hI
  rw [rng_len] at hai ⊢
  have hpl := hpm.length_eq
  rw [List.length_append, List.length_drop] at hpl
  obtain rfl : bs = [] := List.length_eq_zero_iff.mp (by omega)
  rw [List.append_nil] at hpm
  have etk : cutD (cp.map prD) none (some 1) = [prD (0, 0)] := by
    rw [show ((1 : Int)) = ((1 : Nat) : Int) from rfl, cutD_upto, ← List.map_take]
    cases cp with
    | nil => cases hc0'
    | cons c cs =>
      have : c = (0, 0) := by simpa using hc0'
      subst this
      rfl
  rw [etk]
  refine ⟨_, rfl, by rw [List.length_map]; simp; omega, ?_⟩
  generalize hor : (0, 0) :: as = order
  have eord : [prD (0, 0)] ++ as.map prD = order.map prD := by rw [← hor]; rfl
  rw [eord]
  have hop : order.Perm cp := by
    rw [← hor]
    cases cp with
    | nil => cases hc0'
    | cons c cs =>
      have : c = (0, 0) := by simpa using hc0'
      subst this
      exact List.Perm.cons _ hpm
  have hol : order.length ≤ 2 * M.length := by rw [hop.length_eq]; exact hcl
  have ho0 : order[0]? = some (0, 0) := by rw [← hor]; rfl
  have hom : ∀ p ∈ order, p.1 < M.length ∧ p.2 < ms.getD p.1 0 := fun p hp => hcm p (hop.mem_iff.mp hp)
  have hin : ∀ a t, a < M.length → t < ms.getD a 0 → (a, t) ∈ order := fun a t ha ht => hop.mem_iff.mpr (by rw [← hcp]; exact cps_mem.mpr ⟨ha, ht⟩)
  refine ds_cons (ds_setO 12 (dl_lst (da_nil ⟨by decide, ?_⟩)) nd)
  refine ds_cons (ds_for [7, 8] (pi_list pe_w) (pg_two 7 8 nd) (wi_list (de_nm 10 ⟨order.map prD, rfl, ?_⟩)))
  refine ⟨fun i δ => ∃ m found c5 c7 c8 c13 c14, δ = envC m h M [some (.d (.list (ms.map natD))), c5, some (.d (.list (cp.map prD))), c7, c8, some (.own []), some (.d (.list (order.map prD))), none, some (.own (found.map stD)), c13, c14] ∧ found.length = i ∧ CpAt M order found ∧ n ≤ m ∧ m ≤ n + M.length + (cp.length - 1) + 8 * i, ⟨n + M.length + (cp.length - 1), [], c5, _, none, none, none, rfl, rfl, ⟨fun i r hr => by simp at hr⟩, by omega, Nat.le_refl _⟩, fun i y δ hy hI => ?_, fun δ hI => ?_⟩
  · obtain ⟨m, found, c5, c7, c8, c13, c14, rfl, hfi, hC, hm1, hm2⟩ := hI
    rw [List.getElem?_map, Option.map_eq_some_iff] at hy
    obtain ⟨p, hpo, rfl⟩ := hy
    have hio := (List.getElem?_eq_some_iff.mp hpo).1
    obtain ⟨hp1, hp2⟩ := hom p (List.mem_of_getElem? hpo)
    have hR := hE.rw (rowA M p.1) (by rw [rowA_get (List.getElem?_eq_getElem hp1)]; exact List.getElem_mem hp1)
    have hrl := hR.len
    refine wg_tup (wgs_cons (wg_name (wgs_cons (wg_name (wgs_nil ?_)))))
    refine ds_cons (ds_setO 5 (dl_lst (da_nil ⟨by decide, ?_⟩)) nd)
    refine ds_cons (ds_for [13] (pi_tup pe_w) (pg_name (i := 13) nd rfl (.inl rfl)) (wi_tup (de_ix ix_tup (de_nm 3 (de_nm 7 (rd_ixT (row_at hp1) ⟨(rowA M p.1).map rowD, rfl, ?_⟩))))))
    refine ⟨fun j δ => ∃ m' st c13 c14, δ = envC m' h M [some (.d (.list (ms.map natD))), some (.own (st.map rowD)), some (.d (.list (cp.map prD))), some (.d (natD p.1)), some (.d (natD p.2)), some (.own []), some (.d (.list (order.map prD))), none, some (.own (found.map stD)), c13, c14] ∧ evsA st = evsA ((rowA M p.1).take j) ∧ (∀ (k : Nat) (x y : St3 × Nat), st[k]? = some x → (rowA M p.1)[k]? = some y → ∃ t, order[x.2]? = some (y.2, t)) ∧ m ≤ m' ∧ m' ≤ m + j, ⟨m, [], c13, c14, rfl, by simp [evsA], fun k x y hx => by simp at hx, Nat.le_refl _, Nat.le_refl _⟩, fun j y δ hy hJ => ?_, fun δ hJ => ?_⟩
    · obtain ⟨m', st, c13, c14, rfl, hev, hnx, hm3, hm4⟩ := hJ
      rw [List.getElem?_map, Option.map_eq_some_iff] at hy
      obtain ⟨q, hq, rfl⟩ := hy
      have hjl := (List.getElem?_eq_some_iff.mp hq).1
      have hql : q.2 < M.length := hM.wf.at hq
      have hq1 := ms1 q.2 hql
      have hq2 := ms2 q.2
      have hstl : st.length = j := by
        rw [evs_len hev, List.length_take]
        omega
      refine wg_name ?_
      refine ds_cons (ds_set 14 (hN := nd) (de_tup (da_cons (de_ix ix_tup (de_nm 13 (de_int (rd_ixT (z := natD q.2) rfl (da_cons (de_fP (k' := 1) 0 GT hr (da_cons (de_ix ix_list (de_nm 4 (de_ix ix_tup (de_nm 13 (de_int (rd_ixT (z := natD q.2) rfl (rd_ixL (ks_at (ks := ms) (i := q.2) (by omega)) (da_nil ⟨_, rfl, ?_, ?_, ?_, fun t t0 t1 => da_nil ⟨by simp, ?_⟩⟩))))))))))))))))))
      · omega
      · omega
      · show m' < _; omega
      obtain ⟨t, rfl⟩ : ∃ t' : Nat, t = (t' : Nat) := ⟨t.toNat, by omega⟩
      have hmem : (q.2, t) ∈ order := hin q.2 t hql (by omega)
      refine ds_last (ds_append 5 (de_bin op_catA (de_upto sl_tupA (de_nm 13 (ru_slT (de_tup (da_cons (de_indexM (Int × Int) hr.units (de_nm 10 ⟨order.map int2, congrArg PyData.list (int2_D order), de_nm 14 ⟨int2 (q.2, t), rfl, List.mem_map.mpr ⟨_, hmem, rfl⟩, by decide, da_nil ⟨by simp, rd_catT ?_ ⟨st.map rowD, rfl, ?_, ?_⟩⟩⟩⟩)))))))))
      · show 3 + 1 ≤ 100000
        decide
      · rw [List.length_map]; omega
      · rw [idx_gen (f := int2) (fun z => int2_inj z)]
        refine ⟨m' + 1, st ++ [(q.1, posA order (q.2, t))], some (.d (rowD q)), some (.d (.tuple [natD q.2, .int (t : Nat)])), ?_, ?_, fun k x y hx hy => ?_, by omega, by omega⟩
        · show (_ : St') = envC _ h M _
          unfold envC
          rw [List.map_append]
          rfl
        · rw [take_snoc hq]
          unfold evsA at hev ⊢
          rw [List.map_append, List.map_append, hev]
          rfl
        · by_cases g : k < st.length
          · rw [List.getElem?_append_left g] at hx
            exact hnx k x y hx hy
          · have hk : k = j := by
              have := (List.getElem?_eq_some_iff.mp hx).1
              rw [List.length_append, List.length_singleton] at this
              omega
            subst hk
            rw [List.getElem?_append_right (by omega), hstl, Nat.sub_self] at hx
            simp at hx
            subst hx
            rw [hq] at hy
            cases hy
            exact ⟨t, posA_get hmem⟩
    · obtain ⟨m', st, c13, c14, rfl, hev, hnx, hm3, hm4⟩ := hJ
      rw [List.length_map] at hm4 hev
      rw [List.take_length] at hev
      refine dss_freeze 5 ?_
      refine ds_last (ds_append 12 (de_callTy call_tuple_of T.tup boot_tuple (da_cons (de_nm 5 (da_nil (rc_tupleL rfl ⟨found.map stD, rfl, by rw [List.length_map]; omega, ?_⟩))))))
      refine ⟨m', found ++ [st], some (.d (.list (st.map rowD))), some (.d (natD p.1)), some (.d (natD p.2)), c13, c14, ?_, by rw [List.length_append, hfi]; rfl, ⟨fun k r hr => ?_⟩, by omega, by omega⟩
      · show (_ : St') = envC _ h M _
        unfold envC
        rw [List.map_append (l₁ := found)]
        rfl
      · by_cases g : k < found.length
        · rw [List.getElem?_append_left g] at hr
          exact hC.row k r hr
        · have hk : k = i := by
            have := (List.getElem?_eq_some_iff.mp hr).1
            rw [List.length_append, List.length_singleton] at this
            omega
          subst hk
          rw [List.getElem?_append_right (by omega), hfi, Nat.sub_self] at hr
          simp at hr
          subst hr
          exact ⟨p, hpo, hev, hnx⟩
  · obtain ⟨m, found, c5, c7, c8, c13, c14, rfl, hfi, hC, hm1, hm2⟩ := hI
    rw [List.length_map] at hfi hm2
    refine dss_freeze 12 ?_
    refine ds_last (ds_ret (de_tup (da_cons (de_nm 2 (da_cons (de_callTy call_tuple_of T.tup boot_tuple (da_cons (de_nm 12 (da_nil (rc_tupleL rfl (da_nil ⟨by simp, ?_⟩)))))))))))
    exact hΦ found m (hC.ok hfi hE ho0 (fun p hp => (hom p hp).1) hol hM50) hm1 (by omega)
end K3
set_option maxHeartbeats 200000
set_option Elab.async false
set_option linter.all false
set_option maxRecDepth 100000
set_option maxHeartbeats 4000000
namespace K3
open PySem PySem.Spec PyProof.Rows L2 DL
open PySem.W (alike alikeAll dataLt dataLe AllAlike Sortable EachIs keyToks keyToksAll lex_pre)
variable {P : Program} {w : World} {K : PySem.W.Frag} {mg : Str → Option Value} {base : Heap} {f : Addr} {fd : FuncData} {k : Nat}
theorem RwOk.erase {os ws : List Str} {many : Nat} {l : List (St3 × Nat)} (h : RwOk os ws many l) (k : Nat) : RwOk os ws many (l.eraseIdx k) :=
  ⟨Nat.le_trans (List.eraseIdx_sublist l k).length_le h.len, h.ris.sublist ((List.eraseIdx_sublist l k).map _), fun r hr => h.ev r (List.mem_of_mem_eraseIdx hr)⟩
theorem RwOk.set {os ws : List Str} {many : Nat} {l : List (St3 × Nat)} (h : RwOk os ws many l) {k t : Nat} {r : St3 × Nat} (hk : l[k]? = some r) (ht : t < many) : RwOk os ws many (l.set k (r.1, t)) := by
  have e : (l.set k (r.1, t)).map (·.1) = l.map (·.1) := by
    rw [List.map_set]
    refine List.ext_getElem? fun j => ?_
    by_cases g : k = j
    · subst g
      rw [List.getElem?_set_self (by rw [List.length_map]; exact (List.getElem?_eq_some_iff.mp hk).1), List.getElem?_map, hk]
      rfl
    · rw [List.getElem?_set_ne g]
  refine ⟨by rw [List.length_set]; exact h.len, by rw [e]; exact h.ris, fun q hq => ?_⟩
  rcases List.mem_or_eq_of_mem_set hq with hq | rfl
  · exact h.ev q hq
  · exact ⟨(h.ev r (List.mem_of_getElem? hk)).1, ht⟩
theorem RwOk.more {os ws : List Str} {many : Nat} {l : List (St3 × Nat)} (h : RwOk os ws many l) {e : St3} {t : Nat} (hl : l.length ≤ 7) (he : EvOk os ws e) (hn : e ∉ l.map (·.1)) (ht : t < many) : RwOk os ws many (sortR (l ++ [(e, t)])) := by
  have nd : ((l ++ [(e, t)]).map (·.1)).Nodup := by
    rw [List.map_append]
    exact List.nodup_append.mpr ⟨h.nd, by simp, fun a ha b hb z => hn (by simp at hb; rw [← hb, ← z]; exact ha)⟩
  refine ⟨by rw [(sortR_perm _).length_eq, List.length_append, List.length_singleton]; omega, sortR_rise nd, fun r hr => ?_⟩
  rcases List.mem_append.mp ((sortR_perm _).mem_iff.mp hr) with hr | hr
  · exact h.ev r hr
  · cases List.mem_singleton.mp hr
    exact ⟨he, ht⟩
def S_law_otherwise : SpP := fun n ds Φ => ∃ (h : Str) (os ws : List Str) (M : List (List (St3 × Nat))), ds = [endD h M, nmL os, nmL ws] ∧ EnOk h os ws M ∧ (∀ row ∈ M, row.length ≤ 7) ∧ n + 1000 < 1099511627776 ∧ ∀ N m, EnOk h os ws N → N.length = M.length → n ≤ m → m ≤ n + 20 → Φ (endD h N) m
abbrev envO (n : Nat) (h : Str) (os ws : List Str) (M : List (List (St3 × Nat))) (at' : Nat) (r : List (Option C)) : St' := ⟨n, [some .pot, some (.d (endD h M)), some (.d (nmL os)), some (.d (nmL ws)), some (.d (.str h)), some (.d (stsD M)), some (.d (natD at'))] ++ r⟩
theorem EnOk.set {h : Str} {os ws : List Str} {M : List (List (St3 × Nat))} (hE : EnOk h os ws M) (k : Nat) {l : List (St3 × Nat)} (hl : RwOk os ws M.length l) : EnOk h os ws (M.set k l) :=
  ⟨hE.nm, by rw [List.length_set]; exact hE.l1, by rw [List.length_set]; exact hE.l2, fun row hr => by
    rw [List.length_set]
    rcases List.mem_or_eq_of_mem_set hr with hr | rfl
    · exact hE.rw row hr
    · exact hl⟩
theorem cut_set {M : List (List (St3 × Nat))} {k : Nat} {l : List (St3 × Nat)} (hk : k < M.length) : (M.map stD).take k ++ [stD l] ++ (M.map stD).drop (k + 1) = (M.set k l).map stD := by
  rw [List.map_set, List.set_eq_take_append_cons_drop, if_pos (by rw [List.length_map]; exact hk)]
  simp
theorem cutD_from {ds : List PyData} {k : Nat} (hk : k ≤ ds.length) : DL.cutD ds (some (k : Int)) none = ds.drop k := by
  unfold DL.cutD
  rw [HT.sIx_nat, HT.sIx_none, Nat.min_eq_left hk]
  exact List.take_of_length_le (by rw [List.length_drop]; omega)
theorem ok__law_otherwise (T : Tx mg) (GT : Fn P w K mg base "_law_take" 1 ["pot", "many"] (spP K S_law_take)) (F : Fd K "_law_otherwise" s__law_otherwise [] [] f fd) : FnOk P w K mg base CX0 2 f fd ["pot", "own", "others", "words"] (spP K S_law_otherwise) := by
  refine fnP F sc__law_otherwise (fun n ds Φ h => by obtain ⟨_, _, _, _, rfl, _⟩ := h; rfl) (fun B cdv A outer s0 H E n ds Φ hr hp hS => ?_)
  obtain ⟨h, os, ws, M, rfl, hE, hM7, hn, hΦ⟩ := hS
  have nd := sc__law_otherwise.nd
  have l1 := hE.l1
  have l2 := hE.l2
  have o1 := hE.nm.o1
  have o2 := hE.nm.o2
  have w1 := hE.nm.w1
  have w2 := hE.nm.w2
  refine ds_cons (ds_unpack [4, 5] (pg_two 4 5 nd) (de_nm 1 (wg_tup (wgs_cons (wg_name (wgs_cons (wg_name (wgs_nil ?_))))))))
  refine ds_cons (ds_set 6 (hN := nd) (de_fP (k' := 1) 0 GT hr (da_cons (de_callB call_len T.len boot_len (da_cons (de_nm 5 (da_nil (rc_lenT rfl (da_nil ⟨_, rfl, ?_, ?_, ?_, fun at' a0 a1 => ?_⟩)))))))))
  · rw [List.length_map]; omega
  · rw [List.length_map]; omega
  · show n < _; omega
  rw [List.length_map] at a1
  obtain ⟨at', rfl⟩ : ∃ t' : Nat, at' = (t' : Nat) := ⟨at'.toNat, by omega⟩
  have hat : at' < M.length := by omega
  have hRm : rowA M at' ∈ M := by rw [rowA_get (List.getElem?_eq_getElem hat)]; exact List.getElem_mem hat
  have hR := hE.rw _ hRm
  have hR7 := hM7 _ hRm
  refine ds_cons (ds_setO 7 (hN := nd) (dl_callTy call_list_of T.list boot_list (wl_list rfl (da_cons (de_ix ix_tup (de_nm 5 (de_nm 6 (rd_ixT (row_at hat) (da_nil ⟨(rowA M at').map rowD, .inr rfl, ?_⟩)))))))))
  refine ds_cons (ds_set 8 (hN := nd) (de_tup (da_cons (de_ix ix_list (de_dl (dl_lst (da_cons (de_str (da_cons (de_str (da_nil ⟨by simp, de_fP (k' := 1) 0 GT hr (da_cons (de_int (da_nil ⟨2, rfl, by decide, by decide, by show n + 1 < _; omega, fun d2 g0 g1 => ?_⟩)))⟩)))))))))))
  obtain ⟨kd, hkd, hki⟩ := kind_at g0 g1
  refine rd_ixL hki (da_cons ?_)
  refine de_ix ix_list (de_nm 2 (de_fP (k' := 1) 0 GT hr (da_cons (de_callB call_len T.len boot_len (da_cons (de_nm 2 (da_nil (rc_lenL rfl (da_nil ⟨_, rfl, ?_, ?_, ?_, fun d_ot g0_ot g1_ot => ?_⟩)))))))))
  · rw [List.length_map]; omega
  · rw [List.length_map]; omega
  · show n + 1 + 1 < _; omega
  obtain ⟨z_ot, hz_ot, hzm_ot⟩ := atI_in g0_ot g1_ot
  obtain ⟨ot, h_ot, rfl⟩ := List.mem_map.mp hzm_ot
  refine rd_ixL hz_ot ?_
  refine da_cons ?_
  refine de_ix ix_list (de_nm 3 (de_fP (k' := 1) 0 GT hr (da_cons (de_callB call_len T.len boot_len (da_cons (de_nm 3 (da_nil (rc_lenL rfl (da_nil ⟨_, rfl, ?_, ?_, ?_, fun d_wd g0_wd g1_wd => ?_⟩)))))))))
  · rw [List.length_map]; omega
  · rw [List.length_map]; omega
  · show n + 1 + 1 + 1 < _; omega
  obtain ⟨z_wd, hz_wd, hzm_wd⟩ := atI_in g0_wd g1_wd
  obtain ⟨wd, h_wd, rfl⟩ := List.mem_map.mp hzm_wd
  refine rd_ixL hz_wd ?_
  refine da_cons (de_fP (k' := 1) 0 GT hr (da_cons (de_callB call_len T.len boot_len (da_cons (de_nm 5 (da_nil (rc_lenT rfl (da_nil ⟨_, rfl, ?_, ?_, ?_, fun t t0 t1 => da_nil ⟨by simp, ?_⟩⟩))))))))
  · rw [List.length_map]; omega
  · rw [List.length_map]; omega
  · show n + 1 + 1 + 1 + 1 < _; omega
  rw [List.length_map] at t1
  obtain ⟨t, rfl⟩ : ∃ t' : Nat, t = (t' : Nat) := ⟨t.toNat, by omega⟩
  have ht : t < M.length := by omega
  have hEv : EvOk os ws ((kd, ot, wd) : St3) := ⟨h_ot, hkd.elim (fun z => .inl ⟨z, h_wd⟩) (fun z => .inr ⟨z, .inl h_wd⟩)⟩
  refine ds_cons (ds_set 9 (hN := nd) (de_fP (k' := 1) 0 GT hr (da_cons (de_int (da_nil ⟨3, rfl, by decide, by decide, by show n + 1 + 1 + 1 + 1 + 1 < _; omega, fun way v0 v1 => ?_⟩)))))
  have fin : ∀ (m : Nat) (l : List (St3 × Nat)) (c8 c9 c10 : Option C), RwOk os ws M.length l → n ≤ m → m ≤ n + 10 → DSs B (bodyX P w K mg base n__law_otherwise "_law_otherwise" (defScope s__law_otherwise) f cdv A outer s0 H E) ((defBody s__law_otherwise).drop 8) (envO m h os ws M at' [some (.own (l.map rowD)), c8, c9, c10, none]) (fun δ => Φ .none δ.n) fun x δ => Φ x δ.n := fun m l c8 c9 c10 hl hm1 hm2 => by
    refine dss_freeze 7 ?_
    refine ds_last (ds_ret (de_tup (da_cons (de_nm 4 (da_cons (de_bin op_catA (de_bin op_catA (de_slTo sl_tupA (de_nm 5 (de_nm 6 ⟨_, rfl, ru_slT (de_tup (da_cons (de_callTy call_tuple_of T.tup boot_tuple (da_cons (de_nm 7 (da_nil (rc_tupleL rfl (da_nil ⟨by simp, rd_catT ?_ (de_slFrom sl_tupA (de_nm 5 (de_bin op_add (de_nm 6 (de_int (rd_I0 ⟨_, rfl, ru_slT (rd_catT ?_ (da_nil ⟨by simp, ?_⟩))⟩))))))⟩))))))))⟩))))))))))
    · rw [cutD_upto, List.length_take, List.length_map]
      simp
      omega
    · rw [cutD_upto, show ((at' : Nat) : Int) + 1 = ((at' + 1 : Nat) : Int) by omega, cutD_from (by rw [List.length_map]; omega), List.length_append, List.length_take, List.length_drop, List.length_map]
      simp
      omega
    · rw [cutD_upto, show ((at' : Nat) : Int) + 1 = ((at' + 1 : Nat) : Int) by omega, cutD_from (by rw [List.length_map]; omega)]
      have e := cut_set (l := l) hat
      have e' : (M.map stD).take at' ++ [PyData.tuple (l.map rowD)] ++ (M.map stD).drop (at' + 1) = (M.set at' l).map stD := e
      rw [e']
      exact hΦ (M.set at' l) m (hE.set at' hl) List.length_set hm1 (by omega)
  have third : ∀ (m : Nat) (l : List (St3 × Nat)) (c10 : Option PyData), RwOk os ws M.length l → l.length ≤ 7 → n ≤ m → m ≤ n + 10 → DSs B (bodyX P w K mg base n__law_otherwise "_law_otherwise" (defScope s__law_otherwise) f cdv A outer s0 H E) ((defBody s__law_otherwise).drop 7) (envO m h os ws M at' [some (.own (l.map rowD)), some (.d (.tuple [.str kd, .str ot, .str wd, .int (t : Nat)])), some (.d (.int way)), c10.map C.d, none]) (fun δ => Φ .none δ.n) fun x δ => Φ x δ.n := fun m l c10 hl hl7 hm1 hm2 => by
    refine ds_cons (ds_if (dt_pw (dw_and (dt_cmp op_eq (de_nm 9 (de_int (rd_eqI ⟨_, rfl, ?_⟩)))))))
    by_cases e : way = 2
    · rw [decide_eq_true e]
      refine iteT (dw_and1 (dt_peek 7 (xs := l.map rowD) (ho := by cases c10 <;> rfl) (dt_cmp (op_niDt (room70 hr)) (de_upto sl_tupA (de_nm 8 (ru_slT (de_dl (dl_map [("one", 11)] nd (pi_list pe_w) (blkOk_by (N := n__law_otherwise) (sc := defScope s__law_otherwise) (by decide +kernel)) (fun _ _ _ _ _ => pg_name (i := 11) nd rfl (Or.inl rfl)) (wi_list (de_nm 7 ⟨l.map rowD, rfl, ?_, cut3, fun B' y hp' hy => wg_name ?_, ?_⟩))))))))))
      · rw [List.length_map]; omega
      · obtain ⟨r, hr', rfl⟩ := List.mem_map.mp hy
        intro s0 H0 C cl fp
        exact de_upto sl_tupA (de_nm 11 (ru_slT ⟨rfl, rfl⟩))
      rw [cut3s]
      refine rd_inDl (neg := true) rfl (plain3s _) (by show 1 ≤ 64; decide) ⟨_, rfl, rfl, ?_⟩
      have e0 : inDt (.tuple (DL.cutD [PyData.str kd, .str ot, .str wd, .int (t : Nat)] none (some 3))) ((l.map (·.1)).map s3D) = decide (((kd, ot, wd) : St3) ∈ l.map (·.1)) := by
        show inDt (cut3 (rowD (((kd, ot, wd) : St3), t))) _ = _
        rw [cut3_row]
        exact in3
      rw [if_pos rfl, e0]
      by_cases hin : ((kd, ot, wd) : St3) ∈ l.map (·.1)
      · rw [decide_eq_true hin]
        exact iteF (ds_nil (fin m l _ _ _ hl hm1 hm2))
      · rw [decide_eq_false hin]
        refine iteT (dss_freeze 7 ?_)
        refine ds_last (ds_setO 7 (hN := nd) (dl_callB (cr_sortD (room70 hr)) T.sorted boot_sorted (wl_sorted (da_cons (de_dl (dl_cat (de_nm 7 ⟨_, rfl, de_dl (dl_lst (da_cons (de_nm 8 (da_nil ⟨by simp, _, rfl, ?_, da_nil ⟨(l ++ [(((kd, ot, wd) : St3), t)]).map rowD, by rw [List.map_append]; rfl, noHs_rows _, allAlikeR _, sortableR _, ?_, fun d hd => ?_, ?_⟩⟩))))⟩)))))))
        · rw [List.length_map]; simp; omega
        · rw [List.length_map, List.length_append]; simp; omega
        · obtain ⟨r, _, rfl⟩ := List.mem_map.mp hd
          show 1 ≤ 60
          decide
        · rw [sortD_R]
          exact fin m _ _ _ _ (hl.more hl7 hEv hin ht) hm1 hm2
    · rw [decide_eq_false e]
      exact iteF (ds_nil (fin m l _ _ _ hl hm1 hm2))
  have second : ∀ (m : Nat) (l : List (St3 × Nat)), RwOk os ws M.length l → l.length ≤ 7 → n ≤ m → m ≤ n + 7 → DSs B (bodyX P w K mg base n__law_otherwise "_law_otherwise" (defScope s__law_otherwise) f cdv A outer s0 H E) ((defBody s__law_otherwise).drop 6) (envO m h os ws M at' [some (.own (l.map rowD)), some (.d (.tuple [.str kd, .str ot, .str wd, .int (t : Nat)])), some (.d (.int way)), none, none]) (fun δ => Φ .none δ.n) fun x δ => Φ x δ.n := fun m l hl hl7 hm1 hm2 => by
    refine ds_cons (ds_if (dt_pw (dw_and (dt_cmp op_eq (de_nm 9 (de_int (rd_eqI ⟨_, rfl, ?_⟩)))))))
    by_cases e : way = 1
    · rw [decide_eq_true e]
      refine iteT (dw_and1 (dt_neNilO 7 hr.units ?_))
      cases l with
      | nil => exact iteF (ds_nil (third m [] none hl hl7 hm1 (by omega)))
      | cons r0 l0 =>
        refine iteT ?_
        generalize hll : r0 :: l0 = l at hl hl7 ⊢
        have hlp : 1 ≤ l.length := by rw [← hll, List.length_cons]; omega
        refine (ds_cons (ds_set 10 (hN := nd) (de_fP (k' := 1) 0 GT hr (da_cons (de_lenO 7 T.len (da_nil ⟨_, rfl, ?_, ?_, ?_, fun sp p0 p1 => ?_⟩))))))
        · rw [List.length_map]; omega
        · rw [List.length_map]; omega
        · show m < _; omega
        rw [List.length_map] at p1
        obtain ⟨sp, rfl⟩ : ∃ t' : Nat, sp = (t' : Nat) := ⟨sp.toNat, by omega⟩
        have hsp : sp < l.length := by omega
        have hg : l[sp]? = some l[sp] := List.getElem?_eq_getElem hsp
        generalize l[sp] = r at hg
        refine ds_last (ds_setIx 7 (xs := l.map rowD) (de_bin op_catA (de_upto sl_tupA (de_ixO 7 (de_nm 10 ⟨l.map rowD, _, rowD r, rfl, rfl, ?_, ru_slT (de_tup (da_cons (de_fP (k' := 1) 0 GT hr (da_cons (de_callB call_len T.len boot_len (da_cons (de_nm 5 (da_nil (rc_lenT rfl (da_nil ⟨_, rfl, ?_, ?_, ?_, fun t2 q0 q1 => da_nil ⟨by simp, rd_catT ?_ (de_nm 10 ⟨l.map rowD, _, sp, rfl, rfl, ?_, ?_⟩)⟩⟩))))))))))⟩)))))
        · rw [atI_nn (by omega), Int.toNat_natCast, List.getElem?_map, hg]
          rfl
        · rw [List.length_map]; omega
        · rw [List.length_map]; omega
        · show m + 1 < _; omega
        · show 3 + 1 ≤ 100000
          decide
        · rw [List.length_map]
          exact ixN_nn (by omega) (by omega)
        · rw [List.length_map] at q1
          obtain ⟨t2, rfl⟩ : ∃ t' : Nat, t2 = (t' : Nat) := ⟨t2.toNat, by omega⟩
          have e1 : (l.map rowD).set sp (.tuple (DL.cutD [PyData.str r.1.1, .str r.1.2.1, .str r.1.2.2, natD r.2] none (some 3) ++ [.int (t2 : Nat)])) = (l.set sp (r.1, t2)).map rowD := by
            rw [List.map_set]
            rfl
          have := third (m + 1 + 1) (l.set sp (r.1, t2)) (some (.int (sp : Nat))) (hl.set hg (by omega)) (by rw [List.length_set]; exact hl7) (by omega) (by omega)
          rw [← e1] at this
          exact this
    · rw [decide_eq_false e]
      exact iteF (ds_nil (third m l none hl hl7 hm1 (by omega)))
  refine ds_cons (ds_if (dt_pw (dw_and (dt_cmp op_eq (de_nm 9 (de_int (rd_eqI ⟨_, rfl, ?_⟩)))))))
  by_cases e : way = 0
  · rw [decide_eq_true e]
    refine iteT (dw_and1 (dt_neNilO 7 hr.units ?_))
    generalize hl0 : rowA M at' = l at hR hR7
    cases l with
    | nil => exact iteF (ds_nil (second _ [] hR hR7 (by show n ≤ n + 1 + 1 + 1 + 1 + 1 + 1; omega) (by show n + 1 + 1 + 1 + 1 + 1 + 1 ≤ _; omega)))
    | cons r0 l0 =>
      refine iteT ?_
      generalize hll : r0 :: l0 = l at hR hR7 ⊢
      have hlp : 1 ≤ l.length := by rw [← hll, List.length_cons]; omega
      refine (ds_last (ds_expr (de_popAt 7 (de_fP (k' := 1) 0 GT hr (da_cons (de_lenO 7 T.len (da_nil ⟨_, rfl, ?_, ?_, ?_, fun sp p0 p1 => ?_⟩)))))))
      · rw [List.length_map]; omega
      · rw [List.length_map]; omega
      · show n + 1 + 1 + 1 + 1 + 1 + 1 < _; omega
      rw [List.length_map] at p1
      have hsp : sp.toNat < l.length := by omega
      refine ⟨l.map rowD, sp.toNat, rowD l[sp.toNat], by rw [Int.toNat_of_nonneg p0], rfl, by rw [List.getElem?_map, List.getElem?_eq_getElem hsp]; rfl, by rw [List.length_map]; omega, ?_⟩
      rw [map_eraseIdx']
      have hle := (List.eraseIdx_sublist l sp.toNat).length_le
      exact second _ (l.eraseIdx sp.toNat) (hR.erase _) (by omega) (by show n ≤ n + 1 + 1 + 1 + 1 + 1 + 1 + 1; omega) (by show n + 1 + 1 + 1 + 1 + 1 + 1 + 1 ≤ _; omega)
  · rw [decide_eq_false e]
    exact iteF (ds_nil (second _ (rowA M at') hR hR7 (by show n ≤ n + 1 + 1 + 1 + 1 + 1 + 1; omega) (by show n + 1 + 1 + 1 + 1 + 1 + 1 ≤ _; omega)))
end K3
set_option maxHeartbeats 200000
set_option Elab.async false
set_option linter.all false
set_option maxRecDepth 100000
set_option maxHeartbeats 4000000
namespace K3
open PySem PySem.Spec PyProof.Rows L2 DL
open PySem.W (alike alikeAll dataLt dataLe AllAlike Sortable EachIs keyToks keyToksAll lex_pre)
variable {P : Program} {w : World} {K : PySem.W.Frag} {mg : Str → Option Value} {base : Heap} {f : Addr} {fd : FuncData} {k : Nat}
theorem hear_say (o w o' w' : Str) : lt3 (("hear" : Str), o, w) (("say" : Str), o', w') := by
  show PyProof.Rows.lexLt itemOrd (keyToks (.tuple [.str "hear", .str o, .str w])) (keyToks (.tuple [.str "say", .str o', .str w'])) = true
  rw [toks3, toks3, lex_self (O := itemOrd), lex_diff (O := itemOrd) (by decide +kernel)]
  decide +kernel
def hearR (o w : Str) (k : Nat) : List (St3 × Nat) := [((("hear" : Str), o, w), k + 1)]
def twoR (o w : Str) (k s : Nat) : List (St3 × Nat) := [((("hear" : Str), o, w), k + 1), ((("say" : Str), o, w), s)]
def rowM (o w : Str) (n : Nat) : List (List (St3 × Nat)) := (List.range n).map (hearR o w) ++ [[]]
theorem rowM_len {o w : Str} {n : Nat} : (rowM o w n).length = n + 1 := by unfold rowM; rw [List.length_append, List.length_map, List.length_range]; rfl
theorem rowM_en {h o w : Str} {os ws : List Str} {n k s : Nat} (hN : Nms h os ws) (ho : o ∈ os) (hw : w ∈ ws) (hn : n ≤ 99) (hk : k < n) (hs : s < n + 1) : EnOk h os ws ((rowM o w n).set k (twoR o w k s)) := by
  have e1 : EvOk os ws (("hear" : Str), o, w) := ⟨ho, .inr ⟨rfl, .inl hw⟩⟩
  have e2 : EvOk os ws (("say" : Str), o, w) := ⟨ho, .inl ⟨rfl, hw⟩⟩
  have hl : ((rowM o w n).set k (twoR o w k s)).length = n + 1 := by rw [List.length_set, rowM_len]
  refine ⟨hN, by omega, by omega, fun row hr => ?_⟩
  rw [hl]
  rcases List.mem_or_eq_of_mem_set hr with hr | rfl
  · rcases List.mem_append.mp hr with hr | hr
    · obtain ⟨j, hj, rfl⟩ := List.mem_map.mp hr
      have := List.mem_range.mp hj
      refine ⟨by show 1 ≤ 8; decide, List.pairwise_singleton _ _, fun r hr => ?_⟩
      cases List.mem_singleton.mp hr
      exact ⟨e1, by show j + 1 < n + 1; omega⟩
    · cases List.mem_singleton.mp hr
      exact ⟨Nat.zero_le _, .nil, fun r hr => by cases hr⟩
  · refine ⟨by show 2 ≤ 8; decide, ?_, fun r hr => ?_⟩
    · show [_, _].Pairwise lt3
      exact List.pairwise_cons.mpr ⟨fun b hb => by cases List.mem_singleton.mp hb; exact hear_say o w o w, List.pairwise_singleton _ _⟩
    · rcases List.mem_cons.mp hr with rfl | hr
      · exact ⟨e1, by show k + 1 < n + 1; omega⟩
      · cases List.mem_singleton.mp hr
        exact ⟨e2, by show s < n + 1; omega⟩
def S_law_in_a_row : SpP := fun n ds Φ => ∃ (h o : Str) (os ws : List Str), ds = [.str h, .str o, nmL ws] ∧ Nms h os ws ∧ o ∈ os ∧ n + 100 < 1099511627776 ∧ ∀ N m, EnOk h os ws N → N.length = 20 → (∀ row ∈ N, row.length ≤ 2) → n ≤ m → m ≤ n + 10 → Φ (endD h N) m
theorem hear_data (o w : Str) (n : Nat) (g : PyData → PyData) (hg : ∀ k : Nat, g (.int (0 + (k : Nat))) = stD (hearR o w k)) : (rng 0 n).map g = ((List.range n).map (hearR o w)).map stD := by
  unfold rng
  rw [List.map_map, List.map_map]
  exact List.map_congr_left fun k _ => hg k
def hearD (o w : Str) : PyData → PyData
  | .int i => .tuple [.tuple [.str "hear", .str o, .str w, .int (i + 1)]]
  | _ => .none
theorem hearD_eq (o w : Str) (k : Nat) : hearD o w (.int (0 + (k : Nat))) = stD (hearR o w k) := by
  show PyData.tuple [.tuple [.str "hear", .str o, .str w, .int (0 + (k : Nat) + 1)]] = .tuple [.tuple [.str "hear", .str o, .str w, .int ((k + 1 : Nat) : Int)]]
  rw [show (0 + (k : Nat) + 1 : Int) = ((k + 1 : Nat) : Int) by omega]
theorem ok__law_in_a_row (T : Tx mg) (GT : Fn P w K mg base "_law_take" 1 ["pot", "many"] (spP K S_law_take)) (F : Fd K "_law_in_a_row" s__law_in_a_row [] [] f fd) : FnOk P w K mg base CX0 2 f fd ["pot", "hand", "other", "words"] (spP K S_law_in_a_row) := by
  refine fnP F sc__law_in_a_row (fun n ds Φ h => by obtain ⟨_, _, _, _, rfl, _⟩ := h; rfl) (fun B cdv A outer s0 H E n ds Φ hr hp hS => ?_)
  obtain ⟨h, o, os, ws, rfl, hN, ho, hn, hΦ⟩ := hS
  have nd := sc__law_in_a_row.nd
  have w1 := hN.w1
  have w2 := hN.w2
  refine ds_cons (ds_set 4 (hN := nd) ?_)
  refine de_ix ix_list (de_nm 3 (de_fP (k' := 1) 0 GT hr (da_cons (de_callB call_len T.len boot_len (da_cons (de_nm 3 (da_nil (rc_lenL rfl (da_nil ⟨_, rfl, ?_, ?_, ?_, fun d_wd g0_wd g1_wd => ?_⟩)))))))))
  · rw [List.length_map]; omega
  · rw [List.length_map]; omega
  · show n < _; omega
  obtain ⟨z_wd, hz_wd, hzm_wd⟩ := atI_in g0_wd g1_wd
  obtain ⟨wd, h_wd, rfl⟩ := List.mem_map.mp hzm_wd
  refine rd_ixL hz_wd ?_
  refine ds_cons (ds_setLcO 5 [("k", 6)] nd (pi_range1 rfl T.range pa_w) (blkOk_by (N := n__law_in_a_row) (sc := defScope s__law_in_a_row) (by decide +kernel)) (fun _ _ _ _ _ => pg_name (i := 6) nd rfl (Or.inl rfl)) (wl_map [("k", 6)] (wi_rng1 (da_cons (de_int (da_nil ⟨_, rfl, by decide, by decide, ?_⟩))))))
  refine ⟨by rw [rng_len]; decide, hearD o wd, fun B' y hp' hy => wg_name ?_, ?_⟩
  · obtain ⟨k, hk⟩ := List.getElem?_of_mem hy
    obtain ⟨_, rfl⟩ := rng_get hk
    intro s0 H0 C cl fp
    exact de_tup (da_cons (de_tup (da_cons (de_str (da_cons (de_nm 2 (da_cons (de_nm 4 (da_cons (de_bin op_add (de_nm 6 (de_int (rd_I0 (da_nil ⟨by simp, da_nil ⟨by simp, rfl, rfl⟩⟩))))))))))))))
  rw [hear_data o wd _ (hearD o wd) (hearD_eq o wd)]
  refine ds_cons (ds_append 5 (de_tup (da_nil ⟨by decide, _, rfl, ?_, ?_⟩)))
  · rw [List.length_map, List.length_map, List.length_range]
    decide
  have e0 : ((List.range (Int.toNat 19)).map (hearR o wd)).map stD ++ [PyData.tuple []] = (rowM o wd 19).map stD := by
    unfold rowM
    rw [List.map_append]
    rfl
  rw [e0]
  refine ds_cons (ds_set 7 (hN := nd) (de_fP (k' := 1) 0 GT hr (da_cons (de_int (da_nil ⟨19, rfl, by decide, by decide, by show n + 1 < _; omega, fun at' a0 a1 => ?_⟩)))))
  obtain ⟨at', rfl⟩ : ∃ t' : Nat, at' = (t' : Nat) := ⟨at'.toNat, by omega⟩
  refine ds_cons (ds_setIx 5 (xs := (rowM o wd 19).map stD) (de_tup (da_cons (de_tup (da_cons (de_str (da_cons (de_nm 2 (da_cons (de_nm 4 (da_cons (de_bin op_add (de_nm 7 (de_int (rd_I0 (da_nil ⟨by simp, da_cons ?_⟩))))))))))))))))
  refine de_tup (da_cons (de_str (da_cons (de_nm 2 (da_cons (de_nm 4 (da_cons (de_ix ix_list (de_dl (dl_lst (da_cons (de_nm 7 (da_cons (de_int (da_nil ⟨by simp, de_fP (k' := 1) 0 GT hr (da_cons (de_int (da_nil ⟨2, rfl, by decide, by decide, by show n + 1 + 1 < _; omega, fun d2 g0 g1 => ?_⟩)))⟩)))))))))))))))
  obtain ⟨s, hs, hsi⟩ : ∃ s : Nat, s < 20 ∧ atI [PyData.int (at' : Nat), .int 19] d2 = some (natD s) := by
    have : d2 = 0 ∨ d2 = 1 := by omega
    rcases this with rfl | rfl
    · exact ⟨at', by omega, rfl⟩
    · exact ⟨19, by decide, rfl⟩
  refine rd_ixL hsi (da_nil ⟨by simp, da_nil ⟨by simp, de_nm 7 ⟨_, _, at', rfl, rfl, ?_, ?_⟩⟩⟩)
  · rw [List.length_map, rowM_len]
    exact ixN_nn (by omega) (by omega)
  have e1 : ((rowM o wd 19).map stD).set at' (.tuple [.tuple [.str "hear", .str o, .str wd, .int ((at' : Nat) + 1)], .tuple [.str "say", .str o, .str wd, natD s]]) = ((rowM o wd 19).set at' (twoR o wd at' s)).map stD := by
    rw [List.map_set]
    rfl
  rw [e1]
  refine dss_freeze 5 ?_
  refine ds_last (ds_ret (de_tup (da_cons (de_nm 1 (da_cons (de_callTy call_tuple_of T.tup boot_tuple (da_cons (de_nm 5 (da_nil (rc_tupleL rfl (da_nil ⟨by simp, ?_⟩)))))))))))
  refine hΦ _ _ (rowM_en hN ho h_wd (by decide) (by omega) (by omega)) (by rw [List.length_set, rowM_len]) (fun row hr => ?_) (by show n ≤ n + 1 + 1 + 1; omega) (by show n + 1 + 1 + 1 ≤ _; omega)
  rcases List.mem_or_eq_of_mem_set hr with hr | rfl
  · rcases List.mem_append.mp hr with hr | hr
    · obtain ⟨j, _, rfl⟩ := List.mem_map.mp hr
      show 1 ≤ 2
      decide
    · cases List.mem_singleton.mp hr
      exact Nat.zero_le _
  · exact Nat.le_refl 2
theorem numRows_at {N : List (RwA St3)} {m : Nat} (h : numRows (N.map thens) 0 1 = some m) {i : Nat} {r : RwA St3} (hi : N[i]? = some r) : ∃ mi mi', numRows ((N.take i).map thens) 0 1 = some mi ∧ i < mi ∧ numRow mi (thens r) = some mi' ∧ numRows ((N.take (i + 1)).map thens) 0 1 = some mi' ∧ mi' ≤ m := by
  have hlt := (List.getElem?_eq_some_iff.mp hi).1
  have e : N = N.take i ++ (r :: N.drop (i + 1)) := by
    rw [← (List.getElem?_eq_some_iff.mp hi).2, List.getElem_cons_drop, List.take_append_drop]
  have ht : (N.take i).length = i := by rw [List.length_take]; omega
  have h1 := h
  rw [e, List.map_append, numRows_app, Option.bind_eq_some_iff] at h1
  obtain ⟨mi, h2, h3⟩ := h1
  rw [List.length_map, ht, Nat.zero_add] at h3
  have h4 : (if i < mi then (numRow mi (thens r)).bind (numRows ((N.drop (i + 1)).map thens) (i + 1)) else none) = some m := h3
  by_cases c : i < mi
  · rw [if_pos c, Option.bind_eq_some_iff] at h4
    obtain ⟨mi', h5, h6⟩ := h4
    refine ⟨mi, mi', h2, c, h5, ?_, numRows_le h6⟩
    rw [take_snoc hi, List.map_append, numRows_app, h2]
    show numRows [thens r] (0 + ((N.take i).map thens).length) mi = _
    show (if 0 + ((N.take i).map thens).length < mi then (numRow mi (thens r)).bind (numRows [] _) else none) = _
    rw [List.length_map, ht, Nat.zero_add, if_pos c, h5]
    rfl
  · rw [if_neg c] at h4; cases h4
theorem numRow_at {ts : List Nat} {m m' : Nat} (h : numRow m ts = some m') {j t : Nat} (hj : ts[j]? = some t) : ∃ mj, numRow m (ts.take j) = some mj ∧ t ≤ mj ∧ numRow m (ts.take (j + 1)) = some (if t < mj then mj else mj + 1) := by
  have e : ts = ts.take j ++ (t :: ts.drop (j + 1)) := by
    rw [← (List.getElem?_eq_some_iff.mp hj).2, List.getElem_cons_drop, List.take_append_drop]
  have h1 := h
  rw [e, numRow_app, Option.bind_eq_some_iff] at h1
  obtain ⟨mj, h2, h3⟩ := h1
  have h4 : (if t < mj then numRow mj (ts.drop (j + 1)) else if t = mj then numRow (mj + 1) (ts.drop (j + 1)) else none) = some m' := h3
  refine ⟨mj, h2, ?_, ?_⟩
  · by_cases c : t < mj
    · omega
    · rw [if_neg c] at h4
      by_cases c2 : t = mj
      · omega
      · rw [if_neg c2] at h4; cases h4
  · rw [take_snoc hj, numRow_app, h2]
    show (if t < mj then numRow mj [] else if t = mj then numRow (mj + 1) [] else none) = _
    by_cases c : t < mj
    · rw [if_pos c, if_pos c]; rfl
    · rw [if_neg c] at h4 ⊢
      rw [if_neg c]
      by_cases c2 : t = mj
      · rw [if_pos c2]; rfl
      · rw [if_neg c2] at h4; cases h4
def S_law_first_comes : SpD := fun ds Φ => ∃ (N : List (List (St3 × Nat))), ds = [stsD N] ∧ Canon N ∧ StsOk N ∧ N.length ≤ 100 ∧ Φ (.bool true)
abbrev rgN (m : Nat) : List PyData := (List.range m).map natD
theorem rgD_rg (m : Nat) : rgD 0 ((m : Nat) : Int) = rgN m := by
  unfold rgD rgN
  rw [show ((m : Int) - 0).toNat = m by omega]
  refine List.map_congr_left fun k _ => ?_
  show PyData.int (0 + (k : Nat)) = .int (k : Nat)
  rw [show (0 + (k : Nat) : Int) = (k : Nat) by omega]
theorem ok__law_first_comes (T : Tx mg) (F : Fd K "_law_first_comes" s__law_first_comes [] [] f fd) : FnOk P w K mg base CX0 1 f fd ["states"] (spD K S_law_first_comes) := by
  refine fnD F sc__law_first_comes (fun ds Φ h => by obtain ⟨_, rfl, _⟩ := h; rfl) (fun B cdv A outer s0 H E ds Φ hr hp hS => ?_)
  obtain ⟨N, rfl, hC, hN, l2, hΦ⟩ := hS
  have nd := sc__law_first_comes.nd
  refine ds_cons (ds_setO 1 (hN := nd) (dl_lst (da_cons (de_int (da_nil ⟨by simp, ?_⟩)))))
  refine ds_cons (ds_for [2] (pi_range1 rfl T.range pa_w) (pg_name (i := 2) nd rfl (.inl rfl)) (wi_rng1 (da_cons (de_callB call_len T.len boot_len (da_cons (de_nm 0 (da_nil (rc_lenT rfl (da_nil ⟨_, rfl, ?_, ?_, ?_⟩)))))))))
  · rw [List.length_map]; omega
  · rw [List.length_map]; omega
  rw [List.length_map, Int.toNat_natCast]
  refine ⟨fun i δ => ∃ m c2 c3, δ = ⟨0, [some (.d (stsD N)), some (.own (rgN m)), c2, c3]⟩ ∧ numRows ((N.take i).map thens) 0 1 = some m, ⟨1, none, none, rfl, rfl⟩, fun i y δ hy hI => ?_, fun δ hI => ?_⟩
  · obtain ⟨m, c2, c3, rfl, hm⟩ := hI
    obtain ⟨hi, rfl⟩ := rng_get hy
    have hgi : N[i]? = some N[i] := List.getElem?_eq_getElem hi
    obtain ⟨mi, mi', h1, h2, h3, h4, h5⟩ := numRows_at hC.num hgi
    rw [hm] at h1
    cases h1
    have hml : m ≤ N.length := Nat.le_trans (numRow_le h3).1 h5
    refine wg_name ?_
    rw [show (0 + (i : Nat) : Int) = (i : Nat) by omega]
    refine ds_last (ds_if (dt_cmp op_lt (de_nm 2 (de_lenO 1 T.len (rd_B0 ⟨_, rfl, ?_⟩)))))
    rw [List.length_map, List.length_range, decide_eq_true (by omega : ((i : Nat) : Int) < ((m : Nat) : Int))]
    refine iteT (ds_last (ds_for [3] (pi_tup pe_w) (pg_name (i := 3) nd rfl (.inl rfl)) (wi_tup (de_ix ix_tup (de_nm 0 (de_ixO 1 (de_nm 2 ⟨_, _, natD i, rfl, rfl, ?_, rd_ixT (row_at hi) ⟨(rowA N i).map rowD, rfl, ?_⟩⟩)))))))
    · rw [atI_nn (by omega), Int.toNat_natCast, List.getElem?_map, List.getElem?_range (by omega)]
      rfl
    rw [rowA_get hgi]
    refine ⟨fun j δ => ∃ mj c3, δ = ⟨0, [some (.d (stsD N)), some (.own (rgN mj)), some (.d (.int (i : Nat))), c3]⟩ ∧ numRow m ((thens N[i]).take j) = some mj, ⟨m, c3, rfl, rfl⟩, fun j y δ hy hJ => ?_, fun δ hJ => ?_⟩
    · obtain ⟨mj, c3, rfl, hmj⟩ := hJ
      rw [List.getElem?_map, Option.map_eq_some_iff] at hy
      obtain ⟨q, hq, rfl⟩ := hy
      have hqt : (thens N[i])[j]? = some q.2 := by unfold thens; rw [List.getElem?_map, hq]; rfl
      obtain ⟨mk, k1, k2, k3⟩ := numRow_at h3 hqt
      rw [hmj] at k1
      cases k1
      have hql : q.2 < N.length := hN.wf _ (List.mem_of_getElem? hgi) q (List.mem_of_getElem? hq)
      refine wg_name ?_
      refine ds_last (ds_if (dt_niO 1 (de_ix ix_tup (de_nm 3 (de_int (rd_ixT (z := natD q.2) rfl ⟨_, rfl, rfl, all_atom _, ?_⟩))))))
      have ei : inV (toV (natD q.2)) ((rgN mj).map toV) = decide (q.2 ∈ List.range mj) := inV_nats
      rw [ei]
      by_cases c : q.2 < mj
      · rw [decide_eq_true (List.mem_range.mpr c)]
        rw [if_pos c] at k3
        exact iteF (ds_nil ⟨mj, some (.d (rowD q)), rfl, k3⟩)
      · rw [decide_eq_false (fun z => c (List.mem_range.mp z))]
        rw [if_neg c] at k3
        have hqm : q.2 = mj := by omega
        refine iteT (ds_last (ds_append 1 (de_ix ix_tup (de_nm 3 (de_int (rd_ixT (z := natD q.2) rfl ⟨_, rfl, by rw [List.length_map, List.length_range]; omega, mj + 1, some (.d (rowD q)), ?_, k3⟩))))))
        rw [hqm]
        show (_ : St') = ⟨0, [_, some (.own (rgN (mj + 1))), _, _]⟩
        unfold rgN
        rw [List.range_succ, List.map_append]
        rfl
    · obtain ⟨mj, c3, rfl, hmj⟩ := hJ
      rw [List.length_map, List.take_of_length_le (by unfold thens; rw [List.length_map]; exact Nat.le_refl _)] at hmj
      rw [h3] at hmj
      cases hmj
      exact ⟨mi', _, _, rfl, h4⟩
  · obtain ⟨m, c2, c3, rfl, hm⟩ := hI
    rw [rng_len, List.take_length, hC.num] at hm
    cases hm
    refine dss_freeze 1 ?_
    refine ds_last (ds_ret (de_cmp (op_eqD hr.units) (de_nm 1 (de_dl (dl_listRg1 T.list T.range (de_callB call_len T.len boot_len (da_cons (de_nm 0 (da_nil (rc_lenT rfl ⟨_, rfl, RgOk.of_le (by decide) ?_ (by decide) ?_, rd_eqD ?_ ?_ ?_⟩))))))))))
    · rw [List.length_map]; omega
    · omega
    · exact shp_sh (shp_lst (n := 0) fun d hd => by
        obtain ⟨k, _, rfl⟩ := List.mem_map.mp hd
        exact shp_nat) (by decide)
    · rw [List.length_map, rgD_rg]
      exact shp_sh (shp_lst (n := 0) fun d hd => by
        obtain ⟨k, _, rfl⟩ := List.mem_map.mp hd
        exact shp_nat) (by decide)
    · rw [List.length_map, rgD_rg]
      have e : PyData.eqv (.list (rgN N.length)) (.list (rgN N.length)) = true := by
        have s1 : solid (.list (rgN N.length)) = true := solids_map (f := natD) (fun _ => rfl) _
        exact (eqv_iff _ _ s1 s1).mpr rfl
      rw [e]
      exact hΦ
def S_law_least : SpD := fun ds Φ => ∃ (h : Str) (os ws : List Str) (M N : List (List (St3 × Nat))), ds = [endD h M, endD h N] ∧ EnOk h os ws M ∧ EnOk h os ws N ∧ Canon N ∧ Alk M N 0 0 ∧ M.length * N.length ≤ 1000 ∧ N.length * N.length ≤ 1000 ∧ Φ (.bool true)
theorem ok__law_least (T : Tx mg) (GI : Fn P w K mg base "is_end" 5 ["thing"] (spD K S_is_end)) (GA : Fn P w K mg base "_law_do_alike" 2 ["states", "one", "others", "other"] (spD K S_law_do_alike)) (GF : Fn P w K mg base "_law_first_comes" 1 ["states"] (spD K S_law_first_comes)) (F : Fd K "_law_least" s__law_least [] [] f fd) : FnOk P w K mg base CX0 6 f fd ["own", "found"] (spD K S_law_least) := by
  refine fnD F sc__law_least (fun ds Φ h => by obtain ⟨_, _, _, _, _, rfl, _⟩ := h; rfl) (fun B cdv A outer s0 H E ds Φ hr hp hS => ?_)
  obtain ⟨h, os, ws, M, N, rfl, hM, hN, hC, hA, hMN, hNN, hΦ⟩ := hS
  have nd := sc__law_least.nd
  have m1 := hM.l1
  have n1 := hN.l1
  have n2 := hN.l2
  refine ds_cons (ds_if (dt_pw (dw_or (dt_not (dt_val (de_f (k' := 5) GI hr (da_cons (de_nm 1 (da_nil ⟨h, N, _, rfl, hN.end', _, rfl, ?_⟩)))))))))
  refine iteF (dw_or (dt_cmp op_ne (de_ix ix_tup (de_nm 1 (de_int (rd_ixT (z := .str h) rfl (de_ix ix_tup (de_nm 0 (de_int (rd_ixT (z := .str h) rfl (rd_neS ⟨_, rfl, ?_⟩)))))))))))
  rw [decide_eq_true rfl]
  refine iteF (dw_or1 (dt_not (dt_val (de_f (k' := 5) GA hr (da_cons (de_ix ix_tup (de_nm 0 (de_int (rd_ixT (z := stsD M) rfl (da_cons (de_int (da_cons (de_ix ix_tup (de_nm 1 (de_int (rd_ixT (z := stsD N) rfl (da_cons (de_int (da_nil ⟨M, N, 0, 0, rfl, hM.sts, hN.sts, m1, n1, hMN, fun b hb => ⟨_, rfl, ?_⟩⟩)))))))))))))))))))
  rw [hb.mpr hA]
  refine iteF (ds_nil ?_)
  refine ds_cons (ds_set 2 (hN := nd) (de_ix ix_tup (de_nm 1 (de_int (rd_ixT (z := stsD N) rfl ?_)))))
  refine ds_cons (ds_for [3] (pi_range1 rfl T.range pa_w) (pg_name (i := 3) nd rfl (.inr rfl)) (wi_rng1 (da_cons (de_callB call_len T.len boot_len (da_cons (de_nm 2 (da_nil (rc_lenT rfl (da_nil ⟨_, rfl, ?_, ?_, ?_⟩)))))))))
  · rw [List.length_map]; omega
  · rw [List.length_map]; omega
  rw [List.length_map, Int.toNat_natCast]
  refine ⟨fun i δ => ∃ c3, δ = ⟨0, [some (.d (endD h M)), some (.d (endD h N)), some (.d (stsD N)), c3, none]⟩, ⟨none, rfl⟩, fun i y δ hy hI => ?_, fun δ hI => ?_⟩
  · obtain ⟨c3, rfl⟩ := hI
    obtain ⟨hi, rfl⟩ := rng_get hy
    refine wg_name ?_
    rw [show (0 + (i : Nat) : Int) = (i : Nat) by omega]
    refine ds_last (ds_if (dt_cmp (op_neNil hr.units) (de_dl (dl_lcIf [("other", 4)] nd (pi_range1 rfl T.range pa_w) (blkOk_by (N := n__law_least) (sc := defScope s__law_least) (by decide +kernel)) (fun _ _ _ _ _ => pg_name (i := 4) nd rfl (Or.inl rfl)) (wi_rng1 (da_cons (de_nm 3 (da_nil ⟨_, rfl, ?_, ?_, ?_⟩))))))))
    · omega
    · omega
    rw [Int.toNat_natCast]
    refine ⟨by rw [rng_len]; omega, fun j acc m => acc = [] ∧ m = 0, ⟨rfl, rfl⟩, fun B' j y acc m hp' hy hl hJ => wg_name ?_, fun acc m hl hJ => ?_⟩
    · obtain ⟨rfl, rfl⟩ := hJ
      obtain ⟨hj, rfl⟩ := rng_get hy
      rw [show (0 + (j : Nat) : Int) = (j : Nat) by omega]
      intro s0 H0 C cl fp
      refine dt_val (de_f (k' := 5) GA hr (da_cons (de_nm 2 (da_cons (de_nm 3 (da_cons (de_nm 2 (da_cons (de_nm 4 (da_nil ⟨N, N, i, j, rfl, hN.sts, hN.sts, hi, by omega, hNN, fun b hb => ⟨_, rfl, ?_⟩⟩))))))))))
      have hf : b = false := by
        cases b with
        | false => rfl
        | true =>
          have := hC.unl i j hi (by omega) (hb.mp rfl)
          omega
      rw [hf]
      exact iteF ⟨rfl, rfl⟩
    · obtain ⟨rfl, rfl⟩ := hJ
      refine de_dl (dl_lst (da_nil ⟨by decide, rd_neNil ⟨_, rfl, ?_⟩⟩))
      exact iteF (ds_nil ⟨_, rfl⟩)
  · obtain ⟨c3, rfl⟩ := hI
    exact ds_last (ds_ret (de_f (k' := 5) GF hr (da_cons (de_nm 2 (da_nil ⟨N, rfl, hC, hN.sts, n2, hΦ⟩)))))
end K3
set_option maxHeartbeats 200000
set_option Elab.async false
set_option linter.all false
set_option maxRecDepth 100000
set_option maxHeartbeats 4000000
namespace K3
open PySem PySem.Spec PyProof.Rows L2 DL
open PySem.W (alike alikeAll dataLt dataLe AllAlike Sortable EachIs keyToks keyToksAll lex_pre)
variable {P : Program} {w : World} {K : PySem.W.Frag} {mg : Str → Option Value} {base : Heap} {f : Addr} {fd : FuncData} {k : Nat}
def ringR (o w : Str) (b k : Nat) : List (St3 × Nat) := [((("say" : Str), o, w), (k + b) % 100)]
def ringM (o w : Str) (b : Nat) : List (List (St3 × Nat)) := (List.range 100).map (ringR o w b)
def oneM (o w : Str) : List (List (St3 × Nat)) := [[((("say" : Str), o, w), 0)]]
theorem ring_en {h o w : Str} {os ws : List Str} {b : Nat} (hN : Nms h os ws) (ho : o ∈ os) (hw : w ∈ ws) : EnOk h os ws (ringM o w b) := by
  have hl : (ringM o w b).length = 100 := by unfold ringM; rw [List.length_map, List.length_range]
  refine ⟨hN, by omega, by omega, fun row hr => ?_⟩
  rw [hl]
  obtain ⟨k, _, rfl⟩ := List.mem_map.mp hr
  refine ⟨by show 1 ≤ 8; decide, List.pairwise_singleton _ _, fun r hr => ?_⟩
  cases List.mem_singleton.mp hr
  exact ⟨⟨ho, .inl ⟨rfl, hw⟩⟩, Nat.mod_lt _ (by decide)⟩
theorem ring_at {o w : Str} {b s : Nat} (hs : s < 100) : rowA (ringM o w b) s = ringR o w b s := rowA_get (by unfold ringM; rw [List.getElem?_map, List.getElem?_range hs]; rfl)
theorem ring_one {o w : Str} {b : Nat} : Alk (ringM o w b) (oneM o w) 0 0 := by
  refine alk_of (fun s t => s < 100 ∧ t = 0) (fun s t ⟨hs, ht⟩ => ?_) ⟨by decide, rfl⟩
  subst ht
  rw [ring_at hs]
  refine ⟨rfl, fun i p q hp hq => ?_⟩
  cases i with
  | zero =>
    have hp' : p = ((("say" : Str), o, w), (s + b) % 100) := by simpa [ringR] using hp.symm
    have hq' : q = ((("say" : Str), o, w), 0) := by simpa [oneM, rowA] using hq.symm
    subst hp' hq'
    exact ⟨Nat.mod_lt _ (by decide), rfl⟩
  | succ i => simp [ringR] at hp
theorem one_canon {o w : Str} : Canon (oneM o w) := ⟨fun i j hi hj _ => by
  have hi' : i < 1 := hi
  have hj' : j < 1 := hj
  omega, rfl⟩
def chnM (o w : Str) (a : Nat) : List (List (St3 × Nat)) := (rowM o w 99).set a (twoR o w a a)
theorem chn_len {o w : Str} {a : Nat} : (chnM o w a).length = 100 := by unfold chnM; rw [List.length_set, rowM_len]
theorem chn_num0 : ∀ a ∈ List.range 99, numRows (((List.range 99).map (fun k => [k + 1]) ++ [[]]).set a [a + 1, a]) 0 1 = some 100 := by decide +kernel
theorem chn_thens {o w : Str} {a : Nat} : (chnM o w a).map thens = ((List.range 99).map (fun k => [k + 1]) ++ [[]]).set a [a + 1, a] := by
  unfold chnM rowM
  rw [List.map_set, List.map_append, List.map_map]
  rfl
theorem chn_at {o w : Str} {a k : Nat} (hk : k < 99) : ∃ r, rowA (chnM o w a) k = ((("hear" : Str), o, w), k + 1) :: r := by
  by_cases g : a = k
  · subst g
    exact ⟨[((("say" : Str), o, w), a)], rowA_get (by
      unfold chnM
      rw [List.getElem?_set_self (by rw [rowM_len]; omega)]
      rfl)⟩
  · refine ⟨[], rowA_get ?_⟩
    unfold chnM
    rw [List.getElem?_set_ne g]
    unfold rowM
    rw [List.getElem?_append_left (by rw [List.length_map, List.length_range]; exact hk), List.getElem?_map, List.getElem?_range hk]
    rfl
theorem chn_end {o w : Str} {a : Nat} (ha : a < 99) : rowA (chnM o w a) 99 = [] := rowA_get (by
  unfold chnM
  rw [List.getElem?_set_ne (by omega)]
  unfold rowM
  rw [List.getElem?_append_right (by rw [List.length_map, List.length_range]; exact Nat.le_refl _), List.length_map, List.length_range]
  rfl)
theorem chn_unl {o w : Str} {a : Nat} (ha : a < 99) : ∀ d i j : Nat, i < j → j + d = 99 → ¬ Alk (chnM o w a) (chnM o w a) i j
  | 0, i, j, hij, hj, h => by
    have : j = 99 := by omega
    subst this
    obtain ⟨r, hr⟩ := chn_at (o := o) (w := w) (a := a) hij
    have e := h.evs
    rw [hr, chn_end ha] at e
    cases e
  | d + 1, i, j, hij, hj, h => by
    obtain ⟨r, hr⟩ := chn_at (o := o) (w := w) (a := a) (k := i) (by omega)
    obtain ⟨r', hr'⟩ := chn_at (o := o) (w := w) (a := a) (k := j) (by omega)
    exact chn_unl ha d (i + 1) (j + 1) (by omega) (by omega) (h.next (i := 0) (p := ((("hear" : Str), o, w), i + 1)) (q := ((("hear" : Str), o, w), j + 1)) (by rw [hr]; rfl) (by rw [hr']; rfl))
theorem chn_canon {o w : Str} {a : Nat} (ha : a < 99) : Canon (chnM o w a) := by
  refine ⟨fun i j hi hj h => ?_, ?_⟩
  · rw [chn_len] at hi hj
    rcases Nat.lt_trichotomy i j with g | g | g
    · exact absurd h (chn_unl ha (99 - j) i j g (by omega))
    · exact g
    · exact absurd h.symm (chn_unl ha (99 - i) j i g (by omega))
  · rw [chn_thens, chn_num0 a (List.mem_range.mpr ha), chn_len]
theorem EnOk.shp {h : Str} {os ws : List Str} {M : List (List (St3 × Nat))} (hE : EnOk h os ws M) : SeqAt.shaped (endD h M) = true := shp_sh (n := 4) (shp_tup (n := 3) fun d hd => by
  have hd' : d = .str h ∨ d = stsD M := by simpa using hd
  rcases hd' with rfl | rfl
  · exact shp_mono (shp_str hE.nm.hn.okS) (by decide)
  · refine shp_tup (n := 2) fun d hd => ?_
    obtain ⟨row, hr, rfl⟩ := List.mem_map.mp hd
    refine shp_tup (n := 1) fun d hd => ?_
    obtain ⟨r, hm, rfl⟩ := List.mem_map.mp hd
    exact shp_row (hE.sts.ok row hr r hm)) (by decide)
def ringD (o w : Str) (b : Nat) : PyData → PyData
  | .int i => .tuple [.tuple [.str "say", .str o, .str w, .int ((i + (b : Nat)) % 100)]]
  | _ => .none
theorem ring_data (o w : Str) (b n : Nat) : (rng 0 n).map (ringD o w b) = ((List.range n).map (ringR o w b)).map stD := by
  unfold rng
  rw [List.map_map, List.map_map]
  refine List.map_congr_left fun k _ => ?_
  show PyData.tuple [.tuple [.str "say", .str o, .str w, .int ((0 + (k : Nat) + (b : Nat)) % 100)]] = .tuple [.tuple [.str "say", .str o, .str w, .int (((k + b) % 100 : Nat) : Int)]]
  rw [show ((0 + (k : Nat) + (b : Nat)) % 100 : Int) = (((k + b) % 100 : Nat) : Int) by omega]
def S_law_ring_right : SpP := fun n ds Φ => ∃ (h o w : Str) (os ws : List Str), ds = [.str h, .str o, .str w] ∧ Nms h os ws ∧ o ∈ os ∧ w ∈ ws ∧ n + 100 < 1099511627776 ∧ ∀ m, n ≤ m → m ≤ n + 5 → Φ (.bool true) m
theorem ok__law_ring_right (T : Tx mg) (GT : Fn P w K mg base "_law_take" 1 ["pot", "many"] (spP K S_law_take)) (GL : Fn P w K mg base "least_end" 7 ["end"] (spD K S_least_end)) (F : Fd K "_law_ring_right" s__law_ring_right [] [] f fd) : FnOk P w K mg base CX0 8 f fd ["pot", "hand", "other", "word"] (spP K S_law_ring_right) := by
  refine fnP F sc__law_ring_right (fun n ds Φ h => by obtain ⟨_, _, _, _, _, rfl, _⟩ := h; rfl) (fun B cdv A outer s0 H E n ds Φ hr hp hS => ?_)
  obtain ⟨h, o, wd, os, ws, rfl, hN, ho, hw, hn, hΦ⟩ := hS
  have nd := sc__law_ring_right.nd
  refine ds_cons (ds_set 4 (hN := nd) (de_ix ix_list (de_dl (dl_lst (da_cons (de_int (da_cons (de_int (da_cons (de_int (da_cons (de_int (da_nil ⟨by simp, de_fP (k' := 7) 0 GT hr (da_cons (de_int (da_nil ⟨4, rfl, by decide, by decide, by show n < _; omega, fun d g0 g1 => ?_⟩)))⟩)))))))))))))
  obtain ⟨b, hb⟩ : ∃ b : Nat, atI [PyData.int 1, .int 3, .int 7, .int 99] d = some (natD b) := by
    have : d = 0 ∨ d = 1 ∨ d = 2 ∨ d = 3 := by omega
    rcases this with rfl | rfl | rfl | rfl
    · exact ⟨1, rfl⟩
    · exact ⟨3, rfl⟩
    · exact ⟨7, rfl⟩
    · exact ⟨99, rfl⟩
  refine rd_ixL hb ?_
  refine ds_cons (ds_set 5 (hN := nd) (de_callTy call_tuple_of T.tup boot_tuple (da_cons (de_dl (dl_map [("k", 6)] nd (pi_range1 rfl T.range pa_w) (blkOk_by (N := n__law_ring_right) (sc := defScope s__law_ring_right) (by decide +kernel)) (fun _ _ _ _ _ => pg_name (i := 6) nd rfl (Or.inl rfl)) (wi_rng1 (da_cons (de_int (da_nil ⟨_, rfl, by decide, by decide, ?_⟩)))))))))
  refine ⟨by rw [rng_len]; decide, ringD o wd b, fun B' y hp' hy => wg_name ?_, da_nil (rc_tupleL rfl ?_)⟩
  · obtain ⟨k, hk⟩ := List.getElem?_of_mem hy
    obtain ⟨_, rfl⟩ := rng_get hk
    intro s0 H0 C cl fp
    exact de_tup (da_cons (de_tup (da_cons (de_str (da_cons (de_nm 2 (da_cons (de_nm 3 (da_cons (de_bin op_mod (de_bin op_add (de_nm 6 (de_nm 4 (rd_I0 (de_int (rd_I (by decide) (da_nil ⟨by simp, da_nil ⟨by simp, rfl, rfl⟩⟩)))))))))))))))))
  rw [ring_data]
  refine ds_cons (ds_if (dt_cmp (op_neD hr.units) (de_f (k' := 7) GL hr (da_cons (de_tup (da_cons (de_nm 1 (da_cons (de_nm 5 (da_nil ⟨by simp, da_nil ⟨h, os, ws, ringM o wd b, rfl, ring_en hN ho hw, fun N hEN hCN hAN _ => ?_⟩⟩))))))))))
  have e1 : N = oneM o wd := hCN.one one_canon (hAN.symm.trans ring_one)
  subst e1
  refine de_tup (da_cons (de_nm 1 (da_cons (de_tup (da_cons (de_tup (da_cons (de_tup (da_cons (de_str (da_cons (de_nm 2 (da_cons (de_nm 3 (da_cons (de_int (da_nil ⟨by simp, da_nil ⟨by simp, da_nil ⟨by simp, da_nil ⟨by simp, rd_neD (y := endD h (oneM o wd)) hEN.shp hEN.shp ⟨_, rfl, ?_⟩⟩⟩⟩⟩)))))))))))))))))
  rw [eqv_end, decide_eq_true ⟨rfl, rfl⟩]
  refine iteF (ds_nil ?_)
  refine ds_cons (ds_setO 7 (hN := nd) (dl_cat (de_dl (dl_map [("k", 6)] nd (pi_range1 rfl T.range pa_w) (blkOk_by (N := n__law_ring_right) (sc := defScope s__law_ring_right) (by decide +kernel)) (fun _ _ _ _ _ => pg_name (i := 6) nd rfl (Or.inl rfl)) (wi_rng1 (da_cons (de_int (da_nil ⟨_, rfl, by decide, by decide, ?_⟩))))))))
  refine ⟨by rw [rng_len]; decide, hearD o wd, fun B' y hp' hy => wg_name ?_, _, rfl, de_dl (dl_lst (da_cons (de_tup (da_nil ⟨by decide, da_nil ⟨by simp, _, rfl, ?_, ?_⟩⟩))))⟩
  · obtain ⟨k, hk⟩ := List.getElem?_of_mem hy
    obtain ⟨_, rfl⟩ := rng_get hk
    intro s0 H0 C cl fp
    exact de_tup (da_cons (de_tup (da_cons (de_str (da_cons (de_nm 2 (da_cons (de_nm 3 (da_cons (de_bin op_add (de_nm 6 (de_int (rd_I0 (da_nil ⟨by simp, da_nil ⟨by simp, rfl, rfl⟩⟩))))))))))))))
  · rw [List.length_map, rng_len]
    decide
  rw [hear_data o wd _ (hearD o wd) (hearD_eq o wd)]
  have e0 : ((List.range (Int.toNat 99)).map (hearR o wd)).map stD ++ [PyData.tuple []] = (rowM o wd 99).map stD := by
    unfold rowM
    rw [List.map_append]
    rfl
  rw [e0]
  refine ds_cons (ds_set 8 (hN := nd) (de_ix ix_list (de_dl (dl_lst (da_cons (de_int (da_cons (de_fP (k' := 7) 0 GT hr (da_cons (de_int (da_nil ⟨99, rfl, by decide, by decide, by show n + 1 < _; omega, fun a0 p0 p1 => da_nil ⟨by simp, de_fP (k' := 7) 0 GT hr (da_cons (de_int (da_nil ⟨2, rfl, by decide, by decide, by show n + 1 + 1 < _; omega, fun d2 q0 q1 => ?_⟩)))⟩⟩)))))))))))
  obtain ⟨a, ha, hai⟩ : ∃ a : Nat, a < 99 ∧ atI [PyData.int 98, .int a0] d2 = some (natD a) := by
    have : d2 = 0 ∨ d2 = 1 := by omega
    rcases this with rfl | rfl
    · exact ⟨98, by decide, rfl⟩
    · refine ⟨a0.toNat, by omega, ?_⟩
      show some (PyData.int a0) = some (.int ((a0.toNat : Nat) : Int))
      rw [Int.toNat_of_nonneg p0]
  refine rd_ixL hai ?_
  refine ds_cons (ds_setIx 7 (xs := (rowM o wd 99).map stD) (de_tup (da_cons (de_tup (da_cons (de_str (da_cons (de_nm 2 (da_cons (de_nm 3 (da_cons (de_bin op_add (de_nm 8 (de_int (rd_I0 (da_nil ⟨by simp, da_cons ?_⟩))))))))))))))))
  refine de_tup (da_cons (de_str (da_cons (de_nm 2 (da_cons (de_nm 3 (da_cons (de_nm 8 (da_nil ⟨by simp, da_nil ⟨by simp, de_nm 8 ⟨_, _, a, rfl, rfl, ?_, ?_⟩⟩⟩)))))))))
  · rw [List.length_map, rowM_len]
    exact ixN_nn (by omega) (by omega)
  have e1 : ((rowM o wd 99).map stD).set a (.tuple [.tuple [.str "hear", .str o, .str wd, .int ((a : Nat) + 1)], .tuple [.str "say", .str o, .str wd, natD a]]) = (chnM o wd a).map stD := by
    unfold chnM
    rw [List.map_set]
    rfl
  rw [e1]
  have hEc : EnOk h os ws (chnM o wd a) := rowM_en hN ho hw (by decide) ha (by omega)
  refine dss_freeze 7 ?_
  refine ds_last (ds_ret (de_cmp (op_eqD hr.units) (de_f (k' := 7) GL hr (da_cons (de_tup (da_cons (de_nm 1 (da_cons (de_callTy call_tuple_of T.tup boot_tuple (da_cons (de_nm 7 (da_nil (rc_tupleL rfl (da_nil ⟨by simp, da_nil ⟨h, os, ws, chnM o wd a, rfl, hEc, fun N hEN hCN hAN _ => ?_⟩⟩))))))))))))))
  have e2 : N = chnM o wd a := hCN.one (chn_canon ha) hAN.symm
  subst e2
  refine de_tup (da_cons (de_nm 1 (da_cons (de_callTy call_tuple_of T.tup boot_tuple (da_cons (de_nm 7 (da_nil (rc_tupleL rfl (da_nil ⟨by simp, rd_eqD (x := endD h (chnM o wd a)) (y := endD h (chnM o wd a)) hEc.shp hEc.shp ?_⟩)))))))))
  rw [eqv_end, decide_eq_true ⟨rfl, rfl⟩]
  exact hΦ _ (by show n ≤ n + 1 + 1 + 1; omega) (by show n + 1 + 1 + 1 ≤ _; omega)
end K3
set_option maxHeartbeats 200000
set_option Elab.async false
set_option linter.all false
set_option maxRecDepth 100000
set_option maxHeartbeats 4000000
namespace K3
open PySem PySem.Spec PyProof.Rows L2 DL
open PySem.W (alike alikeAll dataLt dataLe AllAlike Sortable EachIs keyToks keyToksAll lex_pre)
variable {P : Program} {w : World} {K : PySem.W.Frag} {mg : Str → Option Value} {base : Heap} {f : Addr} {fd : FuncData} {k : Nat}
theorem sm_str {s : Str} (h : IsNm s ∨ s = flt) : Sm (.str s) 8 0 := by
  have hc : ∀ c ∈ s.cps.toList, c < 16 ^ 8 := by
    rcases h with h | h
    · intro c hc
      have := h.cs c hc
      omega
    · subst h; decide
  have hl : s.cps.size ≤ 8 := by
    rcases h with h | h
    · exact h.l2
    · subst h; decide
  refine ⟨rfl, rfl, Nat.le_refl _, hl, ?_, rfl⟩
  simp only [PyData.leavesShort, List.all_eq_true, decide_eq_true_eq]
  exact hc
theorem fit_tup {xs : List PyData} {wt dp : Nat} (h : Sm (.tuple xs) wt dp) (h1 : wt ≤ 1048576) (h2 : dp ≤ 60) : Fit (.tuple xs) :=
  ⟨h.sh, h.nd, Nat.le_trans h.dp h2, PyData.shown_fits (B := 13) (by decide) (by decide) h.ls (Nat.le_trans h.wt (by simpa using h1)), h.nh, xs, .inl rfl⟩
def smNat2 (j : Nat) : Bool := (natD j).showable && !(natD j).hasDict && decide ((natD j).depth = 0) && decide ((natD j).weight ≤ 7) && (natD j).leavesShort 13 && noH (natD j)
theorem smNat2_all : ∀ j ∈ List.range 128, smNat2 j = true := by decide +kernel
theorem sm_nat2 {j : Nat} (h : j < 128) : Sm (natD j) 7 0 := by
  have := smNat2_all j (List.mem_range.mpr h)
  unfold smNat2 at this
  simp only [Bool.and_eq_true, Bool.not_eq_true', decide_eq_true_eq] at this
  obtain ⟨⟨⟨⟨⟨h1, h2⟩, h3⟩, h4⟩, h5⟩, h6⟩ := this
  exact ⟨h1, h2, by omega, by omega, h5, h6⟩
theorem sm_tupW {xs : List PyData} {W dp : Nat} (h : ∀ x ∈ xs, ∃ wt, Sm x wt dp) (hw : PyData.weightAll xs ≤ W) : Sm (.tuple xs) W (dp + 1) := by
  refine ⟨?_, ?_, ?_, ?_, ?_, ?_⟩
  · simp only [PyData.showable]; exact showAll fun x hx => (h x hx).choose_spec.sh
  · simp only [PyData.hasDict]; exact noDictAll fun x hx => (h x hx).choose_spec.nd
  · have := deepAll fun x hx => (h x hx).choose_spec.dp
    simp only [PyData.depth]
    omega
  · simp only [PyData.weight]
    exact hw
  · simp only [PyData.leavesShort]; exact shortAll fun x hx => (h x hx).choose_spec.ls
  · show noHs xs = true
    exact noHsAll fun x hx => (h x hx).choose_spec.nh
theorem sm_kind {s : Str} (h : s = "say" ∨ s = "hear") : Sm (.str s) 4 0 := by
  rcases h with rfl | rfl <;> exact ⟨rfl, rfl, by decide, by decide, by decide, rfl⟩
structure RowOk (r : St3 × Nat) : Prop where
  kd : r.1.1 = "say" ∨ r.1.1 = "hear"
  ot : IsNm r.1.2.1
  wd : IsNm r.1.2.2 ∨ r.1.2.2 = flt
  nr : r.2 < 128
theorem sm_row {r : St3 × Nat} (h : RowOk r) : Sm (rowD r) 31 1 := by
  have h1 := sm_kind h.kd
  have h2 := sm_str (.inl h.ot)
  have h3 := sm_str h.wd
  have h4 := sm_nat2 h.nr
  refine sm_tupW (fun x hx => ?_) ?_
  · simp only [List.mem_cons, List.not_mem_nil, or_false] at hx
    rcases hx with rfl | rfl | rfl | rfl
    · exact ⟨_, h1⟩
    · exact ⟨_, h2⟩
    · exact ⟨_, h3⟩
    · exact ⟨_, h4⟩
  · have a1 := h1.wt
    have a2 := h2.wt
    have a3 := h3.wt
    have a4 := h4.wt
    simp only [PyData.weightAll]
    omega
theorem sm_state {row : List (St3 × Nat)} (hl : row.length ≤ 320) (h : ∀ r ∈ row, RowOk r) : Sm (stD row) 10240 2 :=
  (Sm.tup (wt := 31) (m := 320) (fun x hx => by
    obtain ⟨r, hr, rfl⟩ := List.mem_map.mp hx
    exact sm_row (h r hr)) (by rw [List.length_map]; exact hl))
theorem fit_end {h : Str} {sts : List (List (St3 × Nat))} (hh : IsNm h) (hl : sts.length ≤ 100) (hr : ∀ row ∈ sts, row.length ≤ 320 ∧ ∀ r ∈ row, RowOk r) : Fit (endD h sts) := by
  have h1 : Sm (.tuple (sts.map stD)) 1024100 3 := Sm.tup (wt := 10240) (m := 100) (fun x hx => by
    obtain ⟨row, hm, rfl⟩ := List.mem_map.mp hx
    exact sm_state (hr row hm).1 (hr row hm).2) (by rw [List.length_map]; exact hl)
  have h2 := sm_str (.inl hh)
  have h3 : Sm (endD h sts) 1024110 4 := sm_tupW (fun x hx => by
    simp only [List.mem_cons, List.not_mem_nil, or_false] at hx
    rcases hx with rfl | rfl
    · exact ⟨_, h2.mono (Nat.le_refl _) (by decide)⟩
    · exact ⟨_, h1⟩) (by
    have a1 := h1.wt
    have a2 := h2.wt
    simp only [PyData.weightAll]
    omega)
  exact fit_tup h3 (by decide) (by decide)
theorem EnOk.fit {h : Str} {os ws : List Str} {M : List (List (St3 × Nat))} (hE : EnOk h os ws M) : Fit (endD h M) := fit_end hE.nm.hn hE.l2 fun row hr => by
  have hR := hE.rw row hr
  have h1 := hR.len
  have h2 := hE.l2
  refine ⟨by omega, fun r hm => ?_⟩
  obtain ⟨he, hlt⟩ := hR.ev r hm
  have hv := he.vw hE.nm
  refine ⟨?_, (hE.nm.on _ he.o).1, ?_, by omega⟩
  · exact he.w.elim (fun z => .inl z.1) (fun z => .inr z.1)
  · exact he.w.elim (fun z => .inl (hE.nm.wn _ z.2)) (fun z => z.2.imp (hE.nm.wn _) id)
def S_law : SpD := fun ds Φ => ∃ ns : List Int, ds = [.list (ns.map PyData.int)] ∧ ns.length ≤ 63 ∧ Φ (.bool true)
abbrev envW (m : Nat) (ns : List Int) (i : Nat) (l ws : List Str) (r : List (Option C)) : St' := ⟨m, [some (.d (.list (ns.map PyData.int))), some (.d (.int (i : Nat))), some .pot, some (.d (nmL l)), some (.d (nmL ws))] ++ r⟩
theorem ok_law (T : Tx mg) (GT : Fn P w K mg base "_law_take" 1 ["pot", "many"] (spP K S_law_take)) (GP : Fn P w K mg base "_law_pot" 1 ["script", "k"] (spO K S_law_pot)) (GN : Fn P w K mg base "_law_names" 2 ["pot", "many"] (spPO K S_law_names))
    (GE : Fn P w K mg base "_law_end" 3 ["pot", "hand", "others", "words"] (spP K S_law_end)) (GI : Fn P w K mg base "_law_in_a_row" 2 ["pot", "hand", "other", "words"] (spP K S_law_in_a_row)) (GR : Fn P w K mg base "_law_ring_right" 8 ["pot", "hand", "other", "word"] (spP K S_law_ring_right))
    (GL : Fn P w K mg base "least_end" 7 ["end"] (spD K S_least_end)) (GK : FnKw P w K mg base "least_end" 7 ["end"] 0 ["end"] (fun _ zs => zs) (spD K S_least_end)) (GLe : Fn P w K mg base "_law_least" 6 ["own", "found"] (spD K S_law_least))
    (GC : Fn P w K mg base "_law_copied" 2 ["pot", "own"] (spP K S_law_copied)) (GO : Fn P w K mg base "_law_otherwise" 2 ["pot", "own", "others", "words"] (spP K S_law_otherwise)) (GA : Fn P w K mg base "_law_do_alike" 2 ["states", "one", "others", "other"] (spD K S_law_do_alike))
    (F : Fd K "law" s_law [] [] f fd) : FnSh P w K mg base 12 f fd ["script"] (spD K S_law) := by
  refine fnDSh F sc_law (fun ds Φ h => by obtain ⟨_, rfl, _⟩ := h; rfl) (fun B cdv A outer s0 H E ds Φ hgd hr hp hS => ?_)
  obtain ⟨ns, rfl, hns, hΦ⟩ := hS
  have nd := sc_law.nd
  refine ds_cons (ds_for [1] (pi_range1 rfl T.range pa_w) (pg_name (i := 1) nd rfl (.inl rfl)) (wi_rng1 (da_cons (de_callB (call_max2 rfl) T.max boot_max (da_cons (de_int (da_cons (de_callB (call_min2 rfl) T.min boot_min (da_cons (de_int (da_cons (de_callB call_len T.len boot_len (da_cons (de_nm 0 (da_nil (rc_lenL rfl (da_nil (rc_int2 (da_nil (rc_int2 (da_nil ⟨_, rfl, ?_, ?_, ?_⟩)))))))))))))))))))))
  · rw [List.length_map]; split <;> (try split) <;> omega
  · rw [List.length_map]; split <;> (try split) <;> omega
  refine ⟨fun i δ => ∃ r : List (Option C), r.length = 10 ∧ δ = ⟨0, some (.d (.list (ns.map PyData.int))) :: r⟩, ⟨List.replicate 10 none, rfl, rfl⟩, fun i y δ hy hI => ?_, fun δ hI => ?_⟩
  · obtain ⟨r, hr10, rfl⟩ := hI
    obtain ⟨_, rfl⟩ := rng_get hy
    obtain ⟨c1, c2, c3, c4, c5, c6, c7, c8, c9, c10, rfl⟩ : ∃ c1 c2 c3 c4 c5 c6 c7 c8 c9 c10, r = [c1, c2, c3, c4, c5, c6, c7, c8, c9, c10] := by
      match r, hr10 with
      | [c1, c2, c3, c4, c5, c6, c7, c8, c9, c10], _ => exact ⟨_, _, _, _, _, _, _, _, _, _, rfl⟩
    refine wg_name ?_
    rw [show (0 + (i : Nat) : Int) = (i : Nat) by omega]
    refine ds_cons (ds_setO 2 (dl_f (k' := 11) GP hr (da_cons (de_nm 0 (da_cons (de_nm 1 (da_nil ⟨ns, i, rfl, fun x y => ?_⟩)))))) nd)
    refine dss_lend 2 (u := x) (v := y) (w := 0) hp (by decide) (fun B' ap hap => ?_)
    have hp' : B'.p ≠ none := by rw [hap]; exact fun z => by cases z
    -- names, words
    refine ds_cons (ds_set 3 (hN := nd) (de_dl (dl_fP (k' := 11) 2 GN hr (da_cons (de_bin op_add (de_int (de_fP (k' := 11) 2 GT hr (da_cons (de_int (da_nil ⟨3, rfl, by decide, by decide, by show 0 < _; decide, fun d g0 g1 => rd_I0 (da_nil ⟨(2 + d).toNat, ?_, ?_, by show 0 + 1 + 100 < _; decide, fun l hl hld hln => ?_⟩)⟩))))))))))
    · show [PyData.int (2 + d)] = [.int (((2 + d).toNat : Nat) : Int)]
      rw [Int.toNat_of_nonneg (by omega)]
    · omega
    refine dss_bump 60 (by show 0 + 1 + 1 + 10 * (2 + d).toNat ≤ 60; omega) ?_
    obtain ⟨h, os, rfl⟩ : ∃ h os, l = h :: os := by
      cases l with
      | nil => simp at hl; omega
      | cons h os => exact ⟨h, os, rfl⟩
    have hol : 1 ≤ os.length ∧ os.length ≤ 3 := by rw [List.length_cons] at hl; omega
    refine ds_cons (ds_set 4 (hN := nd) (de_dl (dl_fP (k' := 11) 2 GN hr (da_cons (de_bin op_add (de_int (de_fP (k' := 11) 2 GT hr (da_cons (de_int (da_nil ⟨3, rfl, by decide, by decide, by show 60 < _; decide, fun d2 g2 g3 => rd_I0 (da_nil ⟨(1 + d2).toNat, ?_, ?_, by show 60 + 1 + 100 < _; decide, fun ws hwl hwd hwn => ?_⟩)⟩))))))))))
    · show [PyData.int (1 + d2)] = [.int (((1 + d2).toNat : Nat) : Int)]
      rw [Int.toNat_of_nonneg (by omega)]
    · omega
    refine dss_bump 100 (by show 60 + 1 + 1 + 10 * (1 + d2).toNat ≤ 100; omega) ?_
    have hNm : Nms h os ws := ⟨hln h List.mem_cons_self, fun o ho => ⟨hln o (List.mem_cons_of_mem _ ho), fun z => (List.nodup_cons.mp hld).1 (z ▸ ho)⟩, hwn, hol.1, by omega, by omega, by omega⟩
    have at0 : atI ((h :: os).map PyData.str) 0 = some (.str h) := by rw [atI_nn (by decide)]; rfl
    obtain ⟨o, os', hos⟩ : ∃ o os', os = o :: os' := by
      cases os with
      | nil => simp at hol
      | cons o os' => exact ⟨o, os', rfl⟩
    have hoo : o ∈ os := by rw [hos]; exact List.mem_cons_self
    have at1 : atI ((h :: os).map PyData.str) 1 = some (.str o) := by rw [hos, atI_nn (by decide)]; rfl
    obtain ⟨wd, ws', hws⟩ : ∃ w ws', ws = w :: ws' := by
      cases ws with
      | nil => simp at hwl; omega
      | cons w ws' => exact ⟨w, ws', rfl⟩
    have hww : wd ∈ ws := by rw [hws]; exact List.mem_cons_self
    have atw : atI (ws.map PyData.str) 0 = some (.str wd) := by rw [hws, atI_nn (by decide)]; rfl
    have cut1 : DL.cutD ((h :: os).map PyData.str) (some 1) none = os.map PyData.str := by rw [cutD_from1]; rfl
    -- from the end drawn on
    have rest6 : ∀ (m : Nat) (M : List (List (St3 × Nat))), EnOk h os ws M → M.length ≤ 20 → (∀ row ∈ M, row.length ≤ 4) → m ≤ 1000 → DSs B' (bodyX P w K mg base n_law "law" (defScope s_law) f cdv A outer s0 H E) ((forBv ((defBody s_law).getD 0 (.Pass ⟨0, 0, 0, 0⟩))).drop 6) (envW m ns i (h :: os) ws [some (.d (endD h M)), strip c6, strip c7, strip c8, strip c9, strip c10])
        (fun δ => ∃ r : List (Option C), r.length = 10 ∧ (⟨0, unpot δ.s⟩ : St') = ⟨0, some (.d (.list (ns.map PyData.int))) :: r⟩) fun x _ => Φ x := fun m M hM hM20 hM4 hm => by
      have m1 := hM.l1
      refine ds_cons (ds_set 6 (hN := nd) (de_callB (cr_repr hgd (room70 hr)) T.repr boot_repr (da_cons (de_nm 5 (da_nil (rc_show hM.fit ?_))))))
      refine ds_cons (ds_set 7 (hN := nd) (de_f (k' := 11) GL hr (da_cons (de_nm 5 (da_nil ⟨h, os, ws, M, rfl, hM, fun N hN hC hA hle => ?_⟩)))))
      have n20 : N.length ≤ 20 := by omega
      have n1 := hN.l1
      have hMN : M.length * N.length ≤ 1000 := Nat.le_trans (Nat.mul_le_mul hM20 n20) (by decide)
      have hNN : N.length * N.length ≤ 1000 := Nat.le_trans (Nat.mul_le_mul n20 n20) (by decide)
      refine ds_cons (ds_if (dt_pw (dw_or (dt_not (dt_val (de_f (k' := 11) GLe hr (da_cons (de_nm 5 (da_cons (de_nm 7 (da_nil ⟨h, os, ws, M, N, rfl, hM, hN, hC, hA, hMN, hNN, _, rfl, ?_⟩)))))))))))
      refine iteF (dw_or (dt_cmp op_ne (de_callB (cr_repr hgd (room70 hr)) T.repr boot_repr (da_cons (de_fKw0 (k' := 11) (fun zs => zs) GK hr (pk_cons pe_w pk_nil) (fun q => q) (wa_cons (de_nm 5 (wa_nil ⟨rfl, h, os, ws, M, rfl, hM, fun N1 hN1 hC1 hA1 _ => ?_⟩))))))))
      have e1 : N1 = N := hC1.one hC (hA1.symm.trans hA)
      subst e1
      refine da_nil (rc_show hN1.fit (de_callB (cr_repr hgd (room70 hr)) T.repr boot_repr (da_cons (de_nm 7 (da_nil (rc_show hN1.fit (rd_neS ⟨_, rfl, ?_⟩)))))))
      rw [decide_eq_true rfl]
      refine iteF (dw_or1 (dt_cmp op_ne (de_callB (cr_repr hgd (room70 hr)) T.repr boot_repr (da_cons (de_nm 5 (da_nil (rc_show hM.fit (de_nm 6 (rd_neS ⟨_, rfl, ?_⟩)))))))))
      rw [decide_eq_true rfl]
      refine iteF (ds_nil ?_)
      refine ds_cons (ds_set 8 (hN := nd) (de_fP (k' := 11) 2 GC hr (da_cons (de_nm 5 (da_nil ⟨h, os, ws, M, rfl, hM, by omega, by show m + 5000 < _; omega, fun tw m2 hT hm1 hm2 => ?_⟩)))))
      have hm1' : m ≤ m2 := hm1
      have hm2' : m2 ≤ m + 2000 := hm2
      have t1 := hT.en.l1
      have tln := hT.ln
      have trl : ∀ row ∈ tw, row.length ≤ 7 := fun row hrow => by
        obtain ⟨row', hm', e⟩ := hT.rl row hrow
        have := hM4 row' hm'
        omega
      refine ds_cons (ds_if (dt_pw (dw_or (dt_cmp (op_neD hr.units) (de_f (k' := 11) GL hr (da_cons (de_nm 8 (da_nil ⟨h, os, ws, tw, rfl, hT.en, fun N3 hN3 hC3 hA3 _ => de_nm 7 (rd_neD hN3.shp hN1.shp ⟨_, rfl, ?_⟩)⟩))))))))
      have e3 : N3 = N1 := hC3.one hC ((hA3.symm.trans hT.al.symm).trans hA)
      rw [eqv_end, decide_eq_true ⟨rfl, e3⟩]
      refine iteF (dw_or1 (dt_cmp (op_neD hr.units) (de_f (k' := 11) GL hr (da_cons (de_nm 7 (da_nil ⟨h, os, ws, N1, rfl, hN1, fun N4 hN4 hC4 hA4 _ => de_nm 7 (rd_neD hN4.shp hN1.shp ⟨_, rfl, ?_⟩)⟩))))))
      have e4 : N4 = N1 := hC4.one hC hA4.symm
      rw [eqv_end, decide_eq_true ⟨rfl, e4⟩]
      refine iteF (ds_nil ?_)
      refine ds_last (ds_for [9] (pi_range1 rfl T.range pa_w) (pg_name (i := 9) nd rfl (.inl rfl)) (wi_rng1 (da_cons (de_int (da_nil ⟨_, rfl, by decide, by decide, ?_⟩)))))
      refine ⟨fun j δ => ∃ m3 c9 c10, δ = envW m3 ns i (h :: os) ws [some (.d (endD h M)), some (.d (.str (endD h M).shown)), some (.d (endD h N1)), some (.d (endD h tw)), c9, c10] ∧ m3 ≤ 4000 + 20 * j, ⟨m2, strip c9, strip c10, rfl, by omega⟩, fun j y δ hy hJ => ?_, fun δ hJ => ?_⟩
      · obtain ⟨m3, c9, c10, rfl, hm3⟩ := hJ
        obtain ⟨hj, rfl⟩ := rng_get hy
        have hj3 : j < 3 := hj
        refine wg_name ?_
        refine ds_cons (ds_set 10 (hN := nd) (de_fP (k' := 11) 2 GO hr (da_cons (de_nm 8 (da_cons (de_dl (dl_from (de_nm 3 ⟨_, rfl, da_cons (de_nm 4 (da_nil ⟨h, os, ws, tw, ?_, hT.en, trl, by show m3 + 1000 < _; omega, fun N5 m4 hN5 hl5 hm5 hm6 => ?_⟩))⟩))))))))
        · rw [cut1]
        have hm5' : m3 ≤ m4 := hm5
        have hm6' : m4 ≤ m3 + 20 := hm6
        have n5 := hN5.l1
        have hM5 : M.length * N5.length ≤ 1000 := Nat.le_trans (Nat.mul_le_mul hM20 (show N5.length ≤ 40 by omega)) (by decide)
        refine ds_last (ds_if (dt_cmp op_ne (de_cmp (op_eqD hr.units) (de_f (k' := 11) GL hr (da_cons (de_nm 10 (da_nil ⟨h, os, ws, N5, rfl, hN5, fun N6 hN6 hC6 hA6 _ => de_nm 7 (rd_eqD hN6.shp hN1.shp ?_)⟩)))))))
        refine de_f (k' := 11) GA hr (da_cons (de_ix ix_tup (de_nm 5 (de_int (rd_ixT (z := stsD M) rfl (da_cons (de_int (da_cons (de_ix ix_tup (de_nm 10 (de_int (rd_ixT (z := stsD N5) rfl (da_cons (de_int (da_nil ⟨M, N5, 0, 0, rfl, hM.sts, hN5.sts, m1, n5, hM5, fun b hb => rd_neA rfl rfl rfl ⟨_, rfl, ?_⟩⟩)))))))))))))))
        have eb : PyData.eqv (endD h N6) (endD h N1) = b := by
          rw [eqv_end, Bool.eq_iff_iff, decide_eq_true_iff, hb]
          constructor
          · rintro ⟨_, rfl⟩
            exact hA.trans hA6.symm
          · intro al
            exact ⟨rfl, hC6.one hC ((hA6.symm.trans al.symm).trans hA)⟩
        rw [eb, decide_eq_true rfl]
        exact iteF (ds_nil ⟨m4, _, _, rfl, by omega⟩)
      · obtain ⟨m3, c9, c10, rfl, hm3⟩ := hJ
        exact ⟨_, rfl, rfl⟩
    have rest5 : ∀ (m : Nat) (M : List (List (St3 × Nat))), EnOk h os ws M → M.length ≤ 20 → (∀ row ∈ M, row.length ≤ 4) → m ≤ 900 → DSs B' (bodyX P w K mg base n_law "law" (defScope s_law) f cdv A outer s0 H E) ((forBv ((defBody s_law).getD 0 (.Pass ⟨0, 0, 0, 0⟩))).drop 5) (envW m ns i (h :: os) ws [some (.d (endD h M)), strip c6, strip c7, strip c8, strip c9, strip c10])
        (fun δ => ∃ r : List (Option C), r.length = 10 ∧ (⟨0, unpot δ.s⟩ : St') = ⟨0, some (.d (.list (ns.map PyData.int))) :: r⟩) fun x _ => Φ x := fun m M hM hM20 hM4 hm => by
      refine ds_cons (ds_if (dt_pw (dw_and (dt_cmp op_eq (de_nm 1 (de_int (rd_eqI ⟨_, rfl, ?_⟩)))))))
      cases decide (((i : Nat) : Int) = 0) with
      | false => exact iteF (ds_nil (rest6 m M hM hM20 hM4 (by omega)))
      | true =>
        refine iteT (dw_and1 (dt_not (dt_val (de_fP (k' := 11) 2 GR hr (da_cons (de_ix ix_list (de_nm 3 (de_int (rd_ixL at0 (da_cons (de_ix ix_list (de_nm 3 (de_int (rd_ixL at1 (da_cons (de_ix ix_list (de_nm 4 (de_int (rd_ixL atw (da_nil ⟨h, o, wd, os, ws, rfl, hNm, hoo, hww, by show m + 100 < _; omega, fun m2 hm1 hm2 => ⟨_, rfl, ?_⟩⟩))))))))))))))))))))
        have hm2' : m2 ≤ m + 5 := hm2
        exact iteF (ds_nil (rest6 m2 M hM hM20 hM4 (by omega)))
    refine ds_cons (ds_set 5 (hN := nd) (de_fP (k' := 11) 2 GE hr (da_cons (de_ix ix_list (de_nm 3 (de_int (rd_ixL at0 (da_cons (de_dl (dl_from (de_nm 3 ⟨_, rfl, da_cons (de_nm 4 (da_nil ⟨h, os, ws, ?_, hNm, by show 100 + 2000 < _; decide, fun M m hM hM6 hM4 hm1 hm2 => ?_⟩))⟩)))))))))))
    · rw [cut1]
    have hm2' : m ≤ 100 + 200 := hm2
    refine ds_cons (ds_if (dt_pw (dw_and (dt_cmp op_eq (de_nm 1 (de_int (rd_eqI ⟨_, rfl, ?_⟩)))))))
    cases decide (((i : Nat) : Int) = 0) with
    | false => exact iteF (ds_nil (rest5 m M hM (by omega) hM4 (by omega)))
    | true =>
      refine iteT (dw_and1 (dt_cmp op_eq (de_fP (k' := 11) 2 GT hr (da_cons (de_int (da_nil ⟨2, rfl, by decide, by decide, by show m < _; omega, fun d3 p0 p1 => de_int (rd_eqI ⟨_, rfl, ?_⟩)⟩))))))
      cases decide (d3 = 0) with
      | false => exact iteF (ds_nil (rest5 (m + 1) M hM (by omega) hM4 (by omega)))
      | true =>
        refine iteT (ds_last (ds_set 5 (hN := nd) (de_fP (k' := 11) 2 GI hr (da_cons (de_ix ix_list (de_nm 3 (de_int (rd_ixL at0 (da_cons (de_ix ix_list (de_nm 3 (de_int (rd_ixL at1 (da_cons (de_nm 4 (da_nil ⟨h, o, os, ws, rfl, hNm, hoo, by show m + 1 + 100 < _; omega, fun M2 m2 hM2 hl2 hr2 hm3 hm4 => ?_⟩))))))))))))))))
        have hm4' : m2 ≤ m + 1 + 10 := hm4
        exact rest5 m2 M2 hM2 (by omega) (fun row hrow => by have := hr2 row hrow; omega) (by omega)
  · obtain ⟨r, _, rfl⟩ := hI
    exact ds_last (ds_ret (de_bl hΦ))
end K3
set_option maxHeartbeats 200000
set_option Elab.async false
set_option linter.all false
set_option maxRecDepth 100000
set_option maxHeartbeats 0
namespace K3
open PySem PySem.Spec PyProof.Rows L2 DL
def dd_is_name : He.DefD := ⟨("is_name", none), "is_name", "is_name", defArgs s_is_name, defBody s_is_name, defScope s_is_name, [], []⟩
def dd_is_tuple_of : He.DefD := ⟨("is_tuple_of", none), "is_tuple_of", "is_tuple_of", defArgs s_is_tuple_of, defBody s_is_tuple_of, defScope s_is_tuple_of, [], []⟩
def dd_is_end : He.DefD := ⟨("is_end", none), "is_end", "is_end", defArgs s_is_end, defBody s_is_end, defScope s_is_end, [], []⟩
def dd_is_end_among : He.DefD := ⟨("is_end_among", none), "is_end_among", "is_end_among", defArgs s_is_end_among, defBody s_is_end_among, defScope s_is_end_among, [], []⟩
def dd__is_new_event : He.DefD := ⟨("_is_new_event", none), "_is_new_event", "_is_new_event", defArgs s__is_new_event, defBody s__is_new_event, defScope s__is_new_event, [], []⟩
def dd_is_event : He.DefD := ⟨("is_event", none), "is_event", "is_event", defArgs s_is_event, defBody s_is_event, defScope s_is_event, [], []⟩
def dd_check_end : He.DefD := ⟨("check_end", none), "check_end", "check_end", defArgs s_check_end, defBody s_check_end, defScope s_check_end, [], []⟩
def dd_least_end : He.DefD := ⟨("least_end", none), "least_end", "least_end", defArgs s_least_end, defBody s_least_end, defScope s_least_end, [], []⟩
def dd_kinds_of : He.DefD := ⟨("kinds_of", none), "kinds_of", "kinds_of", defArgs s_kinds_of, defBody s_kinds_of, defScope s_kinds_of, [], []⟩
def dd__law_pot : He.DefD := ⟨("_law_pot", none), "_law_pot", "_law_pot", defArgs s__law_pot, defBody s__law_pot, defScope s__law_pot, [], []⟩
def dd__law_take : He.DefD := ⟨("_law_take", none), "_law_take", "_law_take", defArgs s__law_take, defBody s__law_take, defScope s__law_take, [], []⟩
def dd__law_names : He.DefD := ⟨("_law_names", none), "_law_names", "_law_names", defArgs s__law_names, defBody s__law_names, defScope s__law_names, [], []⟩
def dd__law_row : He.DefD := ⟨("_law_row", none), "_law_row", "_law_row", defArgs s__law_row, defBody s__law_row, defScope s__law_row, [], []⟩
def dd__law_end : He.DefD := ⟨("_law_end", none), "_law_end", "_law_end", defArgs s__law_end, defBody s__law_end, defScope s__law_end, [], []⟩
def dd__law_then : He.DefD := ⟨("_law_then", none), "_law_then", "_law_then", defArgs s__law_then, defBody s__law_then, defScope s__law_then, [], []⟩
def dd__law_events : He.DefD := ⟨("_law_events", none), "_law_events", "_law_events", defArgs s__law_events, defBody s__law_events, defScope s__law_events, [], []⟩
def dd__law_do_alike : He.DefD := ⟨("_law_do_alike", none), "_law_do_alike", "_law_do_alike", defArgs s__law_do_alike, defBody s__law_do_alike, defScope s__law_do_alike, [], []⟩
def dd__law_copied : He.DefD := ⟨("_law_copied", none), "_law_copied", "_law_copied", defArgs s__law_copied, defBody s__law_copied, defScope s__law_copied, [], []⟩
def dd__law_otherwise : He.DefD := ⟨("_law_otherwise", none), "_law_otherwise", "_law_otherwise", defArgs s__law_otherwise, defBody s__law_otherwise, defScope s__law_otherwise, [], []⟩
def dd__law_in_a_row : He.DefD := ⟨("_law_in_a_row", none), "_law_in_a_row", "_law_in_a_row", defArgs s__law_in_a_row, defBody s__law_in_a_row, defScope s__law_in_a_row, [], []⟩
def dd__law_first_comes : He.DefD := ⟨("_law_first_comes", none), "_law_first_comes", "_law_first_comes", defArgs s__law_first_comes, defBody s__law_first_comes, defScope s__law_first_comes, [], []⟩
def dd__law_least : He.DefD := ⟨("_law_least", none), "_law_least", "_law_least", defArgs s__law_least, defBody s__law_least, defScope s__law_least, [], []⟩
def dd__law_ring_right : He.DefD := ⟨("_law_ring_right", none), "_law_ring_right", "_law_ring_right", defArgs s__law_ring_right, defBody s__law_ring_right, defScope s__law_ring_right, [], []⟩
def dd_law : He.DefD := ⟨("law", none), "law", "law", defArgs s_law, defBody s_law, defScope s_law, [], []⟩
def hfn : List He.DefD := [dd_is_name, dd_is_tuple_of, dd_is_end, dd_is_end_among, dd__is_new_event, dd_is_event, dd_check_end, dd_least_end, dd_kinds_of, dd__law_pot, dd__law_take, dd__law_names, dd__law_row, dd__law_end, dd__law_then, dd__law_events, dd__law_do_alike, dd__law_copied, dd__law_otherwise, dd__law_in_a_row, dd__law_first_comes, dd__law_least, dd__law_ring_right, dd_law]
def hfa : List He.Fa := ([.glo "is_name", .glo "is_tuple_of", .glo "is_end", .glo "is_end_among", .glo "_is_new_event", .glo "is_event", .glo "check_end", .glo "least_end", .glo "kinds_of", .glo "_law_pot", .glo "_law_take", .glo "_law_names", .glo "_law_row", .glo "_law_end", .glo "_law_then", .glo "_law_events", .glo "_law_do_alike", .glo "_law_copied", .glo "_law_otherwise", .glo "_law_in_a_row"] : List He.Fa) ++ ([.glo "_law_first_comes", .glo "_law_least", .glo "_law_ring_right", .glo "law", .free "isinstance", .free "len", .free "all", .free "any", .free "tuple", .free "str", .free "int", .free "bool", .free "zip", .free "sorted", .free "set", .free "list", .free "range", .free "enumerate", .free "min", .free "max"] : List He.Fa) ++ ([.free "abs", .free "repr", .str "FAULT" "!", .int "MOST_LETTERS" 8, .int "MOST_OF_END" 100, .int "BEGIN" 0] : List He.Fa)
def hlo : List PySem.Str := ([("LoomError" : PySem.Str), ("NoEnd" : PySem.Str), ("FAULT" : PySem.Str), ("MOST_LETTERS" : PySem.Str), ("is_name" : PySem.Str), ("is_tuple_of" : PySem.Str), ("BEGIN" : PySem.Str), ("MOST_OF_END" : PySem.Str), ("is_end" : PySem.Str), ("is_end_among" : PySem.Str), ("_is_new_event" : PySem.Str), ("is_event" : PySem.Str), ("check_end" : PySem.Str), ("least_end" : PySem.Str), ("kinds_of" : PySem.Str), ("_law_pot" : PySem.Str), ("_law_take" : PySem.Str), ("_law_names" : PySem.Str), ("_law_row" : PySem.Str), ("_law_end" : PySem.Str)] : List PySem.Str) ++ ([("_law_then" : PySem.Str), ("_law_events" : PySem.Str), ("_law_do_alike" : PySem.Str), ("_law_copied" : PySem.Str), ("_law_otherwise" : PySem.Str), ("_law_in_a_row" : PySem.Str), ("_law_first_comes" : PySem.Str), ("_law_least" : PySem.Str), ("_law_ring_right" : PySem.Str)] : List PySem.Str)
abbrev hR : PySem.W.OpenRow := PySem.W.OpenLaw.row PySem.Challenge.rw_sayloom_k16_whole_least_ends
abbrev hhk : PySem.W.Hook := He.hookD 4 hfa hfn
def hob (s : PySem.W.SharedT) : He.AlD := He.obsDG 4 hfa hfn (HandSHeadRun.getT s)
theorem hob_eq (s : PySem.W.SharedT) : hob s = hhk.obs s.abs := He.obsDG_eq (HandSHeadRun.getT_eq s)
theorem hrun (w : World) : HandSHeadRun.RunEq hR (PySem.W.view hR.prog [33]) hhk hob 4000 hlo w := by
  intro os
  kernel_rfl
end K3
set_option maxHeartbeats 200000
set_option Elab.async false
set_option linter.all false
set_option maxRecDepth 100000
set_option maxHeartbeats 4000000
namespace K3
open PySem PySem.Spec PyProof.Rows L2 DL
theorem facts {P : Program} {w : World} {K : PySem.W.Frag} {h : Heap} {mg : Str → Option Value} {f : Addr} (X : K.In h) (G : h.Ns mainGlobals mg) (hfa' : mg ("law" : Str) = some (.ref f)) (c : He.SaysD hfa hfn K) :
    ∃ fd : FuncData, (∀ (s : Shared) (v : Value), BindsTo s fd ⟨[v], []⟩ [("script", v)]) ∧ ∀ base : Heap, K.In base → base.Ns mainGlobals mg → FnSh P w K mg base 12 f fd ["script"] (spD K S_law) := by
  obtain ⟨fd_is_name, F_is_name⟩ := c.def_ 0 (d := dd_is_name) rfl
  have g_is_name : mg "is_name" = some (.ref (He.ga K "is_name")) := He.glo_ok X G (c.fact 0 (f := .glo "is_name") rfl)
  obtain ⟨fd_is_tuple_of, F_is_tuple_of⟩ := c.def_ 1 (d := dd_is_tuple_of) rfl
  have g_is_tuple_of : mg "is_tuple_of" = some (.ref (He.ga K "is_tuple_of")) := He.glo_ok X G (c.fact 1 (f := .glo "is_tuple_of") rfl)
  obtain ⟨fd_is_end, F_is_end⟩ := c.def_ 2 (d := dd_is_end) rfl
  have g_is_end : mg "is_end" = some (.ref (He.ga K "is_end")) := He.glo_ok X G (c.fact 2 (f := .glo "is_end") rfl)
  obtain ⟨fd_is_end_among, F_is_end_among⟩ := c.def_ 3 (d := dd_is_end_among) rfl
  have g_is_end_among : mg "is_end_among" = some (.ref (He.ga K "is_end_among")) := He.glo_ok X G (c.fact 3 (f := .glo "is_end_among") rfl)
  obtain ⟨fd__is_new_event, F__is_new_event⟩ := c.def_ 4 (d := dd__is_new_event) rfl
  have g__is_new_event : mg "_is_new_event" = some (.ref (He.ga K "_is_new_event")) := He.glo_ok X G (c.fact 4 (f := .glo "_is_new_event") rfl)
  obtain ⟨fd_is_event, F_is_event⟩ := c.def_ 5 (d := dd_is_event) rfl
  have g_is_event : mg "is_event" = some (.ref (He.ga K "is_event")) := He.glo_ok X G (c.fact 5 (f := .glo "is_event") rfl)
  obtain ⟨fd_check_end, F_check_end⟩ := c.def_ 6 (d := dd_check_end) rfl
  have g_check_end : mg "check_end" = some (.ref (He.ga K "check_end")) := He.glo_ok X G (c.fact 6 (f := .glo "check_end") rfl)
  obtain ⟨fd_least_end, F_least_end⟩ := c.def_ 7 (d := dd_least_end) rfl
  have g_least_end : mg "least_end" = some (.ref (He.ga K "least_end")) := He.glo_ok X G (c.fact 7 (f := .glo "least_end") rfl)
  obtain ⟨fd_kinds_of, F_kinds_of⟩ := c.def_ 8 (d := dd_kinds_of) rfl
  have g_kinds_of : mg "kinds_of" = some (.ref (He.ga K "kinds_of")) := He.glo_ok X G (c.fact 8 (f := .glo "kinds_of") rfl)
  obtain ⟨fd__law_pot, F__law_pot⟩ := c.def_ 9 (d := dd__law_pot) rfl
  have g__law_pot : mg "_law_pot" = some (.ref (He.ga K "_law_pot")) := He.glo_ok X G (c.fact 9 (f := .glo "_law_pot") rfl)
  obtain ⟨fd__law_take, F__law_take⟩ := c.def_ 10 (d := dd__law_take) rfl
  have g__law_take : mg "_law_take" = some (.ref (He.ga K "_law_take")) := He.glo_ok X G (c.fact 10 (f := .glo "_law_take") rfl)
  obtain ⟨fd__law_names, F__law_names⟩ := c.def_ 11 (d := dd__law_names) rfl
  have g__law_names : mg "_law_names" = some (.ref (He.ga K "_law_names")) := He.glo_ok X G (c.fact 11 (f := .glo "_law_names") rfl)
  obtain ⟨fd__law_row, F__law_row⟩ := c.def_ 12 (d := dd__law_row) rfl
  have g__law_row : mg "_law_row" = some (.ref (He.ga K "_law_row")) := He.glo_ok X G (c.fact 12 (f := .glo "_law_row") rfl)
  obtain ⟨fd__law_end, F__law_end⟩ := c.def_ 13 (d := dd__law_end) rfl
  have g__law_end : mg "_law_end" = some (.ref (He.ga K "_law_end")) := He.glo_ok X G (c.fact 13 (f := .glo "_law_end") rfl)
  obtain ⟨fd__law_then, F__law_then⟩ := c.def_ 14 (d := dd__law_then) rfl
  have g__law_then : mg "_law_then" = some (.ref (He.ga K "_law_then")) := He.glo_ok X G (c.fact 14 (f := .glo "_law_then") rfl)
  obtain ⟨fd__law_events, F__law_events⟩ := c.def_ 15 (d := dd__law_events) rfl
  have g__law_events : mg "_law_events" = some (.ref (He.ga K "_law_events")) := He.glo_ok X G (c.fact 15 (f := .glo "_law_events") rfl)
  obtain ⟨fd__law_do_alike, F__law_do_alike⟩ := c.def_ 16 (d := dd__law_do_alike) rfl
  have g__law_do_alike : mg "_law_do_alike" = some (.ref (He.ga K "_law_do_alike")) := He.glo_ok X G (c.fact 16 (f := .glo "_law_do_alike") rfl)
  obtain ⟨fd__law_copied, F__law_copied⟩ := c.def_ 17 (d := dd__law_copied) rfl
  have g__law_copied : mg "_law_copied" = some (.ref (He.ga K "_law_copied")) := He.glo_ok X G (c.fact 17 (f := .glo "_law_copied") rfl)
  obtain ⟨fd__law_otherwise, F__law_otherwise⟩ := c.def_ 18 (d := dd__law_otherwise) rfl
  have g__law_otherwise : mg "_law_otherwise" = some (.ref (He.ga K "_law_otherwise")) := He.glo_ok X G (c.fact 18 (f := .glo "_law_otherwise") rfl)
  obtain ⟨fd__law_in_a_row, F__law_in_a_row⟩ := c.def_ 19 (d := dd__law_in_a_row) rfl
  have g__law_in_a_row : mg "_law_in_a_row" = some (.ref (He.ga K "_law_in_a_row")) := He.glo_ok X G (c.fact 19 (f := .glo "_law_in_a_row") rfl)
  obtain ⟨fd__law_first_comes, F__law_first_comes⟩ := c.def_ 20 (d := dd__law_first_comes) rfl
  have g__law_first_comes : mg "_law_first_comes" = some (.ref (He.ga K "_law_first_comes")) := He.glo_ok X G (c.fact 20 (f := .glo "_law_first_comes") rfl)
  obtain ⟨fd__law_least, F__law_least⟩ := c.def_ 21 (d := dd__law_least) rfl
  have g__law_least : mg "_law_least" = some (.ref (He.ga K "_law_least")) := He.glo_ok X G (c.fact 21 (f := .glo "_law_least") rfl)
  obtain ⟨fd__law_ring_right, F__law_ring_right⟩ := c.def_ 22 (d := dd__law_ring_right) rfl
  have g__law_ring_right : mg "_law_ring_right" = some (.ref (He.ga K "_law_ring_right")) := He.glo_ok X G (c.fact 22 (f := .glo "_law_ring_right") rfl)
  obtain ⟨fd_law, F_law⟩ := c.def_ 23 (d := dd_law) rfl
  have e := hfa'.symm.trans (He.glo_ok X G (c.fact 23 (f := .glo "law") rfl))
  cases e
  have T : Tx mg := ⟨He.free_ok X G (c.fact 24 (f := .free "isinstance") rfl), He.free_ok X G (c.fact 25 (f := .free "len") rfl), He.free_ok X G (c.fact 26 (f := .free "all") rfl), He.free_ok X G (c.fact 27 (f := .free "any") rfl), He.free_ok X G (c.fact 28 (f := .free "tuple") rfl), He.free_ok X G (c.fact 29 (f := .free "str") rfl), He.free_ok X G (c.fact 30 (f := .free "int") rfl), He.free_ok X G (c.fact 31 (f := .free "bool") rfl), He.free_ok X G (c.fact 32 (f := .free "zip") rfl), He.free_ok X G (c.fact 33 (f := .free "sorted") rfl), He.free_ok X G (c.fact 34 (f := .free "set") rfl), He.free_ok X G (c.fact 35 (f := .free "list") rfl), He.free_ok X G (c.fact 36 (f := .free "range") rfl), He.free_ok X G (c.fact 37 (f := .free "enumerate") rfl), He.free_ok X G (c.fact 38 (f := .free "min") rfl), He.free_ok X G (c.fact 39 (f := .free "max") rfl), He.free_ok X G (c.fact 40 (f := .free "abs") rfl), He.free_ok X G (c.fact 41 (f := .free "repr") rfl), He.str_ok X G (c.fact 42 (f := .str "FAULT" "!") rfl), He.int_ok X G (c.fact 43 (f := .int "MOST_LETTERS" 8) rfl)⟩
  have bl := FunD.bindsA (ps := ["script"]) F_law fun _ _ _ _ _ _ us hl => match us, hl with | [_], _ => rfl
  refine ⟨fd_law, fun s v => bl s [v] rfl, fun base _ _ => ?_⟩
  have int_MOST_OF_END : ∃ t, mg "MOST_OF_END" = some (.int 100 t) := He.int_ok X G (c.fact 44 (f := .int "MOST_OF_END" 100) rfl)
  have int_BEGIN : ∃ t, mg "BEGIN" = some (.int 0 t) := He.int_ok X G (c.fact 45 (f := .int "BEGIN" 0) rfl)
  have G_is_tuple_of : Fn P w K mg base "is_tuple_of" 1 ["thing", "least", "most"] (spD K S_is_tuple_of) := ⟨_, _, g_is_tuple_of, F_is_tuple_of.kp, FunD.bindsN F_is_tuple_of (fun _ _ _ _ _ _ us hl => match us, hl with | [_, _, _], _ => rfl), ok_is_tuple_of T F_is_tuple_of⟩
  have G_is_name : Fn P w K mg base "is_name" 1 ["thing"] (spD K S_is_name) := ⟨_, _, g_is_name, F_is_name.kp, FunD.bindsN F_is_name (fun _ _ _ _ _ _ us hl => match us, hl with | [_], _ => rfl), ok_is_name T F_is_name⟩
  have G_is_event : Fn P w K mg base "is_event" 2 ["thing"] (spD K S_is_event) := ⟨_, _, g_is_event, F_is_event.kp, FunD.bindsN F_is_event (fun _ _ _ _ _ _ us hl => match us, hl with | [_], _ => rfl), ok_is_event T G_is_name F_is_event⟩
  have G__is_new_event : Fn P w K mg base "_is_new_event" 3 ["event", "hand", "hands", "known"] (DL.spT P w K S_is_new_event) := ⟨_, _, g__is_new_event, F__is_new_event.kp, FunD.bindsN F__is_new_event (fun _ _ _ _ _ _ us hl => match us, hl with | [_, _, _, _], _ => rfl), ok__is_new_event G_is_event F__is_new_event⟩
  have G_is_end_among : Fn P w K mg base "is_end_among" 4 ["thing", "hands"] (spD K S_is_end_among) := ⟨_, _, g_is_end_among, F_is_end_among.kp, FunD.bindsN F_is_end_among (fun _ _ _ _ _ _ us hl => match us, hl with | [_, _], _ => rfl), ok_is_end_among T int_MOST_OF_END G_is_name G_is_tuple_of G__is_new_event F_is_end_among⟩
  have G_is_end : Fn P w K mg base "is_end" 5 ["thing"] (spD K S_is_end) := ⟨_, _, g_is_end, F_is_end.kp, FunD.bindsN F_is_end (fun _ _ _ _ _ _ us hl => match us, hl with | [_], _ => rfl), ok_is_end G_is_end_among F_is_end⟩
  have G_check_end : Fn P w K mg base "check_end" 6 ["end"] (spD K S_check_end) := ⟨_, _, g_check_end, F_check_end.kp, FunD.bindsN F_check_end (fun _ _ _ _ _ _ us hl => match us, hl with | [_], _ => rfl), ok_check_end G_is_end F_check_end⟩
  have G_kinds_of : Fn P w K mg base "kinds_of" 1 ["states"] (spD K S_kinds_of) := ⟨_, _, g_kinds_of, F_kinds_of.kp, FunD.bindsN F_kinds_of (fun _ _ _ _ _ _ us hl => match us, hl with | [_], _ => rfl), ok_kinds_of T F_kinds_of⟩
  have G_least_end : Fn P w K mg base "least_end" 7 ["end"] (spD K S_least_end) := ⟨_, _, g_least_end, F_least_end.kp, FunD.bindsN F_least_end (fun _ _ _ _ _ _ us hl => match us, hl with | [_], _ => rfl), ok_least_end T int_BEGIN G_check_end G_kinds_of F_least_end⟩
  have GK : FnKw P w K mg base "least_end" 7 ["end"] 0 ["end"] (fun _ zs => zs) (spD K S_least_end) := ⟨_, _, _, g_least_end, F_least_end.kp, kbindsK F_least_end ["end"] (fun l => l) (fun q => q) (fun _ _ _ _ _ _ ws hl => match ws, hl with | [_], _ => rfl), ok_least_end T int_BEGIN G_check_end G_kinds_of F_least_end⟩
  have G__law_take : Fn P w K mg base "_law_take" 1 ["pot", "many"] (spP K S_law_take) := ⟨_, _, g__law_take, F__law_take.kp, FunD.bindsN F__law_take (fun _ _ _ _ _ _ us hl => match us, hl with | [_, _], _ => rfl), ok__law_take  F__law_take⟩
  have G__law_pot : Fn P w K mg base "_law_pot" 1 ["script", "k"] (spO K S_law_pot) := ⟨_, _, g__law_pot, F__law_pot.kp, FunD.bindsN F__law_pot (fun _ _ _ _ _ _ us hl => match us, hl with | [_, _], _ => rfl), ok__law_pot T F__law_pot⟩
  have G__law_names : Fn P w K mg base "_law_names" 2 ["pot", "many"] (spPO K S_law_names) := ⟨_, _, g__law_names, F__law_names.kp, FunD.bindsN F__law_names (fun _ _ _ _ _ _ us hl => match us, hl with | [_, _], _ => rfl), ok__law_names T G__law_take F__law_names⟩
  have G__law_row : Fn P w K mg base "_law_row" 2 ["pot", "others", "words", "many"] (spP K S_law_row) := ⟨_, _, g__law_row, F__law_row.kp, FunD.bindsN F__law_row (fun _ _ _ _ _ _ us hl => match us, hl with | [_, _, _, _], _ => rfl), ok__law_row T G__law_take F__law_row⟩
  have G__law_end : Fn P w K mg base "_law_end" 3 ["pot", "hand", "others", "words"] (spP K S_law_end) := ⟨_, _, g__law_end, F__law_end.kp, FunD.bindsN F__law_end (fun _ _ _ _ _ _ us hl => match us, hl with | [_, _, _, _], _ => rfl), ok__law_end T G__law_take G__law_row F__law_end⟩
  have G__law_then : Fn P w K mg base "_law_then" 1 ["states", "spot", "event"] (spD K S_law_then) := ⟨_, _, g__law_then, F__law_then.kp, FunD.bindsN F__law_then (fun _ _ _ _ _ _ us hl => match us, hl with | [_, _, _], _ => rfl), ok__law_then  F__law_then⟩
  have G__law_events : Fn P w K mg base "_law_events" 1 ["states", "spot"] (spD K S_law_events) := ⟨_, _, g__law_events, F__law_events.kp, FunD.bindsN F__law_events (fun _ _ _ _ _ _ us hl => match us, hl with | [_, _], _ => rfl), ok__law_events  F__law_events⟩
  have G__law_do_alike : Fn P w K mg base "_law_do_alike" 2 ["states", "one", "others", "other"] (spD K S_law_do_alike) := ⟨_, _, g__law_do_alike, F__law_do_alike.kp, FunD.bindsN F__law_do_alike (fun _ _ _ _ _ _ us hl => match us, hl with | [_, _, _, _], _ => rfl), ok__law_do_alike G__law_events G__law_then F__law_do_alike⟩
  have G__law_copied : Fn P w K mg base "_law_copied" 2 ["pot", "own"] (spP K S_law_copied) := ⟨_, _, g__law_copied, F__law_copied.kp, FunD.bindsN F__law_copied (fun _ _ _ _ _ _ us hl => match us, hl with | [_, _], _ => rfl), ok__law_copied T G__law_take F__law_copied⟩
  have G__law_otherwise : Fn P w K mg base "_law_otherwise" 2 ["pot", "own", "others", "words"] (spP K S_law_otherwise) := ⟨_, _, g__law_otherwise, F__law_otherwise.kp, FunD.bindsN F__law_otherwise (fun _ _ _ _ _ _ us hl => match us, hl with | [_, _, _, _], _ => rfl), ok__law_otherwise T G__law_take F__law_otherwise⟩
  have G__law_in_a_row : Fn P w K mg base "_law_in_a_row" 2 ["pot", "hand", "other", "words"] (spP K S_law_in_a_row) := ⟨_, _, g__law_in_a_row, F__law_in_a_row.kp, FunD.bindsN F__law_in_a_row (fun _ _ _ _ _ _ us hl => match us, hl with | [_, _, _, _], _ => rfl), ok__law_in_a_row T G__law_take F__law_in_a_row⟩
  have G__law_first_comes : Fn P w K mg base "_law_first_comes" 1 ["states"] (spD K S_law_first_comes) := ⟨_, _, g__law_first_comes, F__law_first_comes.kp, FunD.bindsN F__law_first_comes (fun _ _ _ _ _ _ us hl => match us, hl with | [_], _ => rfl), ok__law_first_comes T F__law_first_comes⟩
  have G__law_least : Fn P w K mg base "_law_least" 6 ["own", "found"] (spD K S_law_least) := ⟨_, _, g__law_least, F__law_least.kp, FunD.bindsN F__law_least (fun _ _ _ _ _ _ us hl => match us, hl with | [_, _], _ => rfl), ok__law_least T G_is_end G__law_do_alike G__law_first_comes F__law_least⟩
  have G__law_ring_right : Fn P w K mg base "_law_ring_right" 8 ["pot", "hand", "other", "word"] (spP K S_law_ring_right) := ⟨_, _, g__law_ring_right, F__law_ring_right.kp, FunD.bindsN F__law_ring_right (fun _ _ _ _ _ _ us hl => match us, hl with | [_, _, _, _], _ => rfl), ok__law_ring_right T G__law_take G_least_end F__law_ring_right⟩
  exact ok_law T G__law_take G__law_pot G__law_names G__law_end G__law_in_a_row G__law_ring_right G_least_end GK G__law_least G__law_copied G__law_otherwise G__law_do_alike F_law
end K3
set_option maxHeartbeats 200000
set_option Elab.async false
set_option linter.all false
open PySem PySem.W PySem.Calls PyProof.Rows
set_option maxRecDepth 100000 in
set_option maxHeartbeats 0 in
theorem PySem.Challenge.cw_sayloom_k16_whole_least_ends_holds : PySem.Challenge.rw_sayloom_k16_whole_least_ends.Holds := by
  w_on; o_law
  refine HandSHeadRun.head_any (r := OpenLaw.row PySem.Challenge.rw_sayloom_k16_whole_least_ends) (q := view (OpenLaw.row PySem.Challenge.rw_sayloom_k16_whole_least_ends).prog [33]) (H := K3.hhk) (ob := K3.hob) (M := 4000) (loose := K3.hlo) (d := HandSHeadRun.topDef (OpenLaw.row PySem.Challenge.rw_sayloom_k16_whole_least_ends).prog 33) (kwd := []) K3.hob_eq
    (by kernel_rfl) (fun s => by kernel_rfl) K3.hrun (by kernel_rfl) (by kernel_rfl) (by kernel_rfl) (by rfl) (by first | assumption | decide +kernel) (by decide +kernel) ⟨rfl, rfl, rfl, rfl, rfl, by decide +kernel⟩ ?hw ?hc
  case hw => w_witness2
  case hc =>
    refine DL.walkSh (l := PySem.Challenge.rw_sayloom_k16_whole_least_ends) (n := 63) (k := 12) (x := "script") rfl (by decide) (by kernel_rfl) ⟨rfl, by decide, by decide⟩ ?F
    intro w mg fa h Y G hmg0
    obtain ⟨K, KX, c⟩ := Y
    have hmg : mg ("law" : PySem.Str) = some (.ref fa) := by
      have e : (HandSHeadRun.topDef (OpenLaw.row PySem.Challenge.rw_sayloom_k16_whole_least_ends).prog 33).name = ("law" : PySem.Str) := by kernel_rfl
      rw [← e]
      exact hmg0
    obtain ⟨fd, hb, hF⟩ := K3.facts (P := (PySem.Challenge.rw_sayloom_k16_whole_least_ends).prog) (w := w) KX G hmg c
    refine ⟨K, fd, DL.spD K K3.S_law, KX, hb, fun H a ns hl _ hS => ?_, hF⟩
    refine ⟨H, [.list (ns.map PyData.int)], fun x => x = .bool true, fun _ _ z => z, .cons (.lst hS ?_) .nil, ⟨ns, rfl, hl, rfl⟩, fun v x F' H' _ _ _ _ hd hx => ?_⟩
    · clear hl hS
      induction ns with
      | nil => exact .nil
      | cons n ns ih => exact .cons (.int n) ih
    · subst hx
      cases hd
      rfl

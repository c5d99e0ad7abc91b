import PyProof.Rows.All
import Wide.All
import OpenK.AllK
import Wide.FinOn
import KE.KStateDown
import HandS.Head0
import HandS.Head1
import HandS.Head2
import HandS.HeadEnd
import HandS.HeadHook1
import HandS.HeadHook2
import HandS.ForMost
import HandS.TupAny
import HandS.IsInst
import HandS.Strs
import HandS.Zip
import HandS.Flow
import HandS.Defaults
import HandS.SortInts
import HandS.SetFor
import KE.SortData
import KE.LtData
import KE.DataFind
import HandS.Set
import HandS.Codes
import HandS.NoneIn
import HandS.ExcInit
import HandS.TryOnly
import HandS.ExcOwn
import HandS.Dict
import HandS.StrMore
import HandS.Text
import KE.GoesEnum
import KE.GoesMore
import HandS.SetBool
import HandS.DictComp
import HandS.Finally
import HandS.More
import KE.KDictList
import HandS.Iter
import HandS.Walk
import HandS.WideBits
import HandS.Style
import HandS.DictTup
import HandS.Conv
import KE.KDictSum
import OpenK.KMore
import HandS.ReplaceLit
import HandS.ReplaceList
import HandS.FStr
import KE.KDictDisplayH
import HandS.ExcIs
import HandS.DeepEq
import KE.KExcInit
import HandS.ExcField
import HandS.WordsDict
import HandS.TupLen
import KE.KeyNested
import KE.KTupTabMore
import HandS.HotCalls
import PyProof.Rows.CatchTuple
import HandS.Comp
import KE.DatumIndex
import HandS.SetKeys
import KE.DataEq
import HandS.Nested
import HandS.FStrTup
import HandS.EndTab
import HandS.TupMul
import HandS.HeadHook4
import HandS.HeadHook3
import PySem.Challenge.RW_sayloom_k15_rows_of_events_done
set_option maxHeartbeats 200000
set_option Elab.async false
set_option linter.all false
set_option maxRecDepth 100000
namespace DL
open PySem PySem.Spec PyProof.Rows L2
/-- this very object, whatever stands there -/
def hdD (a : Addr) : PyData := .dict [(.int (a : Nat), .none)]
/-- the object at c is a code object of the name q -/
def CodH (c : Addr) (q : Str) : HO := .ext fun h => ∃ (oc : Obj) (vs : Array Value) (t : Tok), h.get? c = some oc ∧ oc.data = .fields vs ∧ vs[1]? = some (.str q t)
mutual
/-- v reads as d, handles among it -/
inductive Dq (K : PySem.W.Frag) (H : Hp) : V → PyData → Prop
  | non : Dq K H .non .none
  | bl (b : Bool) : Dq K H (.bl b) (.bool b)
  | int (i : Int) : Dq K H (.int i) (.int i)
  | str (x : Str) : Dq K H (.str x) (.str x)
  | lst {a : Addr} {xs : List V} {ds : List PyData} : SqL K H a xs → DqAll K H xs ds → Dq K H (.ref a) (.list ds)
  | tup {a : Addr} {xs : List V} {ds : List PyData} : SqT K H a xs → DqAll K H xs ds → H a = some (.tup xs) → Dq K H (.ref a) (.tuple ds)
  | hd (a : Addr) : Dq K H (.ref a) (.dict [(.int (a : Nat), .none)])
  | cod {a : Addr} {q : Str} : H a = some (CodH a q) → Dq K H (.ref a) (.dict [(.str q, .none)])
  | emp {a : Addr} {o : Obj} : H a = some (.frz o (.dK [])) → Dq K H (.ref a) (.dict [])
inductive DqAll (K : PySem.W.Frag) (H : Hp) : List V → List PyData → Prop
  | nil : DqAll K H [] []
  | cons {v : V} {vs : List V} {d : PyData} {ds : List PyData} : Dq K H v d → DqAll K H vs ds → DqAll K H (v :: vs) (d :: ds)
end
mutual
/-- no handle is in it -/
def noH : PyData → Bool
  | .dict _ => false
  | .list xs => noHs xs
  | .tuple xs => noHs xs
  | _ => true
def noHs : List PyData → Bool
  | [] => true
  | x :: xs => noH x && noHs xs
end
mutual
theorem dq_dp {K : PySem.W.Frag} {H : Hp} : ∀ (d : PyData) (v : V), noH d = true → Dq K H v d → Dp K H v d
  | .none, _, _, h => by cases h; exact .non
  | .bool _, _, _, h => by cases h; exact .bl _
  | .int _, _, _, h => by cases h; exact .int _
  | .str _, _, _, h => by cases h; exact .str _
  | .list ds, _, n, h => by
    cases h with
    | lst hs ha => exact .lst hs (dqs_dps ds _ n ha)
  | .tuple ds, _, n, h => by
    cases h with
    | tup hs ha => exact .tup hs (dqs_dps ds _ n ha)
  | .dict _, _, n, _ => by cases n
theorem dqs_dps {K : PySem.W.Frag} {H : Hp} : ∀ (ds : List PyData) (vs : List V), noHs ds = true → DqAll K H vs ds → DpAll K H vs ds
  | [], _, _, h => by cases h; exact .nil
  | d :: ds, _, n, h => by
    cases h with
    | cons h1 h2 =>
      have n' : (noH d && noHs ds) = true := n
      rw [Bool.and_eq_true] at n'
      exact .cons (dq_dp d _ n'.1 h1) (dqs_dps ds _ n'.2 h2)
end
theorem seqT {K : PySem.W.Frag} {H H' : Hp} {a : Addr} {xs : List V} (e : Same H H') (h : SqT K H a xs) : SqT K H' a xs := by
  rcases h with (h | ⟨o, h⟩) | h
  · exact .inl (.inl (e _ _ h))
  · exact .inl (.inr ⟨o, e _ _ h⟩)
  · exact .inr h
mutual
theorem dp_mono {K : PySem.W.Frag} {H H' : Hp} (e : Same H H') : ∀ (d : PyData) (v : V), Dq K H v d → Dq K H' v d
  | .none, _, h => by cases h; exact .non
  | .bool _, _, h => by cases h; exact .bl _
  | .int _, _, h => by cases h; exact .int _
  | .str _, _, h => by cases h; exact .str _
  | .list ds, _, h => by
    cases h with
    | lst hs ha => exact .lst (e.seq hs) (dpAll_mono e ds _ ha)
  | .tuple ds, _, h => by
    cases h with
    | tup hs ha hp => exact .tup (seqT e hs) (dpAll_mono e ds _ ha) (e _ _ hp)
  | .dict _, _, h => by
    cases h with
    | hd => exact .hd _
    | cod z => exact .cod (e _ _ z)
    | emp z => exact .emp (e _ _ z)
theorem dpAll_mono {K : PySem.W.Frag} {H H' : Hp} (e : Same H H') : ∀ (ds : List PyData) (vs : List V), DqAll K H vs ds → DqAll K H' vs ds
  | [], _, h => by cases h; exact .nil
  | d :: ds, _, h => by
    cases h with
    | cons h1 h2 => exact .cons (dp_mono e d _ h1) (dpAll_mono e ds _ h2)
end
theorem dpAll_len {K : PySem.W.Frag} {H : Hp} : ∀ {vs : List V} {ds : List PyData}, DqAll K H vs ds → vs.length = ds.length
  | _, [], h => by cases h; rfl
  | _, _ :: _, h => by
    cases h with
    | cons _ h2 => simp [dpAll_len h2]
theorem dpAll_get {K : PySem.W.Frag} {H : Hp} : ∀ {vs : List V} {ds : List PyData} {i : Nat} {d : PyData}, DqAll K H vs ds → ds[i]? = some d → ∃ v, vs[i]? = some v ∧ Dq K H v d
  | _, [], i, d, h, e => by simp at e
  | _, _ :: _, 0, d, h, e => by
    cases h with
    | cons h1 h2 => simp at e; subst e; exact ⟨_, rfl, h1⟩
  | _, _ :: _, i + 1, d, h, e => by
    cases h with
    | cons h1 h2 =>
      obtain ⟨v, e1, e2⟩ := dpAll_get (i := i) h2 (by simpa using e)
      exact ⟨v, by simpa using e1, e2⟩
theorem dpAll_app {K : PySem.W.Frag} {H : Hp} : ∀ {vs us : List V} {ds es : List PyData}, DqAll K H vs ds → DqAll K H us es → DqAll K H (vs ++ us) (ds ++ es)
  | _, us, [], es, h, q => by cases h; exact q
  | _, us, _ :: _, es, h, q => by
    cases h with
    | cons h1 h2 => exact .cons h1 (dpAll_app h2 q)
theorem dpAll_take {K : PySem.W.Frag} {H : Hp} : ∀ (n : Nat) {vs : List V} {ds : List PyData}, DqAll K H vs ds → DqAll K H (vs.take n) (ds.take n)
  | 0, _, _, h => .nil
  | n + 1, _, [], h => by cases h; exact .nil
  | n + 1, _, _ :: _, h => by
    cases h with
    | cons h1 h2 => exact .cons h1 (dpAll_take n h2)
theorem dpAll_drop {K : PySem.W.Frag} {H : Hp} : ∀ (n : Nat) {vs : List V} {ds : List PyData}, DqAll K H vs ds → DqAll K H (vs.drop n) (ds.drop n)
  | 0, _, _, h => h
  | n + 1, _, [], h => by cases h; exact .nil
  | n + 1, _, _ :: _, h => by
    cases h with
    | cons h1 h2 => exact dpAll_drop n h2
/-- data that no heap is needed for -/
def atom : PyData → Bool
  | .none => true | .bool _ => true | .int _ => true | .str _ => true
  | _ => false
def toV : PyData → V
  | .none => .non | .bool b => .bl b | .int i => .int i | .str s => .str s
  | _ => .non
theorem atom_v {K : PySem.W.Frag} {H : Hp} {v : V} {d : PyData} (h : Dq K H v d) (a : atom d = true) : v = toV d := by
  cases h <;> first | rfl | cases a
theorem atom_dp {K : PySem.W.Frag} {H H' : Hp} {v : V} {d : PyData} (h : Dq K H v d) (a : atom d = true) : Dq K H' v d := by
  cases h <;> first | exact .non | exact .bl _ | exact .int _ | exact .str _ | cases a
theorem atoms_v {K : PySem.W.Frag} {H : Hp} : ∀ {vs : List V} {ds : List PyData}, DqAll K H vs ds → ds.all atom = true → vs = ds.map toV
  | _, [], h, _ => by cases h; rfl
  | _, d :: ds, h, a => by
    cases h with
    | cons h1 h2 =>
      simp only [List.all_cons, Bool.and_eq_true] at a
      rw [atom_v h1 a.1, atoms_v h2 a.2]
      rfl
inductive C where
  | d (x : PyData)
  | own (xs : List PyData)
  | dct (kvs : List (L2.Key × PyData))
  | gen (pa : Option Addr) (mk : List V → HO) (xs : List PyData)
  | iset (ns : List Int)
  | pot
  | bor
structure St' where
  n : Nat
  s : List (Option C)
/-- what others hand us that we may change: the pot, three ints, the third one a count that is not great; or a dict of truths, whose keys are such, and that has such -/
abbrev PotK := (L2.Key → Prop) × (L2.Key → Prop)
inductive PotC where
  | num (i : Int)
  | dict (kvs : List (L2.Key × V))
def potO : PotC → Int → Int → HO
  | .num x, y, z => .lst [.int x, .int y, .int z]
  | .dict kvs, _, _ => .dK kvs
def PotM : Option PotK → PotC → Nat → Prop
  | none, .num _, _ => True
  | some P, .dict kvs, n => kvs.length ≤ n ∧ (∀ kv ∈ kvs, P.1 kv.1 ∧ kv.2 = .bl true) ∧ ∀ k, P.2 k → ∃ kv ∈ kvs, kv.1 = k
  | _, _, _ => False
def PotAt (m : Option PotK) (H : Hp) (a : Addr) (n : Nat) : Prop := ∃ (x : PotC) (y z : Int), H a = some (potO x y z) ∧ 0 ≤ z ∧ z ≤ (n : Int) ∧ PotM m x n
theorem pot_num {H : Hp} {a : Addr} {n : Nat} (h : PotAt none H a n) : ∃ x y z : Int, H a = some (.lst [.int x, .int y, .int z]) ∧ 0 ≤ z ∧ z ≤ (n : Int) := by
  obtain ⟨x, y, z, h1, h2, h3, h4⟩ := h
  cases x with
  | num x => exact ⟨x, y, z, h1, h2, h3⟩
  | dict kvs => cases h4
theorem num_pot {H : Hp} {a : Addr} {n : Nat} {x y z : Int} (h1 : H a = some (.lst [.int x, .int y, .int z])) (h2 : 0 ≤ z) (h3 : z ≤ (n : Int)) : PotAt none H a n := ⟨.num x, y, z, h1, h2, h3, trivial⟩
theorem pot_more {m : Option PotK} {x : PotC} {n n' : Nat} (h : PotM m x n) (hn : n ≤ n') : PotM m x n' := by
  cases m <;> cases x <;> first | exact h | exact ⟨Nat.le_trans h.1 hn, h.2⟩
structure B0 where
  F : Hp
  H : Hp
  p : Option Addr
  m : Option PotK
structure Bs extends B0 where
  w : World
  K : PySem.W.Frag
def isetO (w : World) (a : Addr) (ns : List Int) : HO := SetO w a (fun k => decide (k ∈ ns)) ns.length
def CellOk (B : Bs) (F H : Hp) : C → V → Prop
  | .d x, v => Dq B.K F v x
  | .own xs, v => ∃ a vs, v = .ref a ∧ B.H a = none ∧ F a = none ∧ H a = some (.lst vs) ∧ DqAll B.K F vs xs
  | .dct kvs, v => ∃ a vs, v = .ref a ∧ B.H a = none ∧ F a = none ∧ H a = some (.dK ((kvs.map (·.1)).zip vs)) ∧ DqAll B.K F vs (kvs.map (·.2))
  | .gen pa mk xs, v => ∃ a vs, v = .ref a ∧ B.H a = none ∧ F a = none ∧ H a = some (mk vs) ∧ (∀ p, pa = some p → a = p) ∧ DqAll B.K F vs xs
  | .iset ns, v => ∃ a, v = .ref a ∧ B.H a = none ∧ F a = none ∧ H a = some (isetO B.w a ns)
  | .pot, v => ∃ a, v = .ref a ∧ B.p = some a ∧ B.m = none
  | .bor, v => ∃ a, v = .ref a ∧ B.p = some a ∧ B.m ≠ none
def own? : C → Bool
  | .own _ => true | .dct _ => true | .gen _ _ _ => true | .iset _ => true | _ => false
structure Rep (B : Bs) (δ : St') (σ : List (Option V)) (F H : Hp) : Prop where
  ex : Same F H
  f0 : Same B.F F
  fr : ∀ b, B.F b = none → B.H b ≠ none → F b = none
  kp : ∀ b o, B.H b = some o → B.p ≠ some b → H b = some o
  pot : ∀ a, B.p = some a → B.F a = none ∧ B.H a ≠ none ∧ PotAt B.m H a δ.n
  cell : ∀ (i : Nat) (c : C), δ.s[i]? = some (some c) → ∃ v, σ[i]? = some (some v) ∧ CellOk B F H c v
  len : σ.length = δ.s.length
  ap : ∀ (i j : Nat) (c c' : C), i ≠ j → δ.s[i]? = some (some c) → δ.s[j]? = some (some c') → own? c = true → own? c' = true → σ[i]? ≠ σ[j]?
theorem Rep.potF {B : Bs} {δ : St'} {σ : List (Option V)} {F H : Hp} (r : Rep B δ σ F H) {a : Addr} (h : B.p = some a) : F a = none := r.fr a (r.pot a h).1 (r.pot a h).2.1
/-- a new thing, told as data -/
theorem Rep.new {B : Bs} {δ : St'} {σ : List (Option V)} {F H : Hp} (r : Rep B δ σ F H) {p : Addr} (hp : H p = none) (o : HO) : Rep B δ σ (upd F p o) (upd H p o) := by
  have hF : F p = none := r.ex.free hp
  have ne : ∀ {b : Addr} {u : HO}, H b = some u → b ≠ p := fun h => ne_of_none h hp
  refine ⟨fun b u h => ?_, fun b u h => ?_, fun b h1 h2 => ?_, fun b u h1 h2 => ?_, fun a h => ?_, fun i c h => ?_, r.len, r.ap⟩
  · by_cases e : b = p
    · subst e; rw [upd_same] at h ⊢; exact h
    · rw [upd_ne e] at h ⊢; exact r.ex b u h
  · rw [upd_ne (ne_of_none (r.f0 b u h) hF)]; exact r.f0 b u h
  · have hb : b ≠ p := by
      rintro rfl
      by_cases e : B.p = some b
      · obtain ⟨_, _, _, _, _, h3, _⟩ := r.pot b e
        rw [hp] at h3; cases h3
      · cases q : B.H b with
        | none => exact h2 q
        | some u => rw [r.kp b u q e] at hp; cases hp
    rw [upd_ne hb]; exact r.fr b h1 h2
  · have := r.kp b u h1 h2
    rw [upd_ne (ne this)]; exact this
  · obtain ⟨h1, h2, x, y, z, h3, h4⟩ := r.pot a h
    exact ⟨h1, h2, x, y, z, by rw [upd_ne (ne h3)]; exact h3, h4⟩
  · obtain ⟨v, hv, hc⟩ := r.cell i c h
    refine ⟨v, hv, ?_⟩
    cases c with
    | d x => exact dp_mono (fun b u q => by rw [upd_ne (ne_of_none q hF)]; exact q) _ _ hc
    | own xs =>
      obtain ⟨a, vs, e, h1, h2, h3, h4⟩ := hc
      exact ⟨a, vs, e, h1, by rw [upd_ne (ne h3)]; exact h2, by rw [upd_ne (ne h3)]; exact h3, dpAll_mono (fun b u q => by rw [upd_ne (ne_of_none q hF)]; exact q) _ _ h4⟩
    | dct kvs =>
      obtain ⟨a, vs, e, h1, h2, h3, h4⟩ := hc
      exact ⟨a, vs, e, h1, by rw [upd_ne (ne h3)]; exact h2, by rw [upd_ne (ne h3)]; exact h3, dpAll_mono (fun b u q => by rw [upd_ne (ne_of_none q hF)]; exact q) _ _ h4⟩
    | gen pa mk kvs =>
      obtain ⟨a, vs, e, h1, h2, h3, h4, h5⟩ := hc
      exact ⟨a, vs, e, h1, by rw [upd_ne (ne h3)]; exact h2, by rw [upd_ne (ne h3)]; exact h3, h4, dpAll_mono (fun b u q => by rw [upd_ne (ne_of_none q hF)]; exact q) _ _ h5⟩
    | iset ns =>
      obtain ⟨a, e, h1, h2, h3⟩ := hc
      exact ⟨a, e, h1, by rw [upd_ne (ne h3)]; exact h2, by rw [upd_ne (ne h3)]; exact h3⟩
    | pot => exact hc
    | bor => exact hc
theorem same_upd {H : Hp} {p : Addr} {o : HO} (h : H p = none) : Same H (upd H p o) := fun b x e => by
  rw [upd_ne (ne_of_none e h)]
  exact e
abbrev PE1 := PyData → St' → Prop
def WE (B : Bs) (te : TE) (δ : St') (Φ : PE1) : Prop := ∀ σ F H, Rep B δ σ F H → ∀ Q : VK, (∀ v x δ' F' H', Same F F' → Rep B δ' σ F' H' → Dq B.K F' v x → Φ x δ' → Q v H') → te σ H Q
def WT (B : Bs) (tt : TT) (δ : St') (Φ : Bool → St' → Prop) : Prop := ∀ σ F H, Rep B δ σ F H → ∀ Q : Bool → Hp → Prop, (∀ b δ' F' H', Same F F' → Rep B δ' σ F' H' → Φ b δ' → Q b H') → tt σ H Q
def WA (B : Bs) (ta : TA) (δ : St') (Φ : List PyData → St' → Prop) : Prop := ∀ σ F H, Rep B δ σ F H → ∀ Q : List V → Hp → Prop, (∀ vs xs δ' F' H', Same F F' → Rep B δ' σ F' H' → DqAll B.K F' vs xs → Φ xs δ' → Q vs H') → ta σ H Q
/-- a new list, that nobody else has -/
def WL (B : Bs) (te : TE) (δ : St') (Φ : List PyData → St' → Prop) : Prop := ∀ σ F H, Rep B δ σ F H → ∀ Q : VK, (∀ a vs xs δ' F' H', Same F F' → Rep B δ' σ F' H' → B.H a = none → F' a = none → H' a = some (.lst vs) →
  (∀ (i : Nat) (c : C), δ'.s[i]? = some (some c) → own? c = true → σ[i]? ≠ some (some (.ref a))) → DqAll B.K F' vs xs → Φ xs δ' → Q (.ref a) H') → te σ H Q
def WS (B : Bs) (ts : TS) (δ : St') (N : St' → Prop) (R : PE1) : Prop := ∀ σ F H, Rep B δ σ F H → ∀ D : Ends, (∀ δ' σ' F' H', Same F F' → Rep B δ' σ' F' H' → N δ' → D.nx σ' H') → (∀ v x δ' σ' F' H', Same F F' → Rep B δ' σ' F' H' → Dq B.K F' v x → R x δ' → D.rt v H') → ts D σ H
/-- values, by two things, by one, by a list of things -/
def RD (B : Bs) (r : R2) (x y : PyData) (δ : St') (Φ : PE1) : Prop := ∀ σ F H, Rep B δ σ F H → ∀ v u, Dq B.K F v x → Dq B.K F u y → ∀ Q : VK, (∀ v x δ' F' H', Same F F' → Rep B δ' σ F' H' → Dq B.K F' v x → Φ x δ' → Q v H') → r v u H Q
def RU (B : Bs) (r : V → Hp → VK → Prop) (x : PyData) (δ : St') (Φ : PE1) : Prop := ∀ σ F H, Rep B δ σ F H → ∀ v, Dq B.K F v x → ∀ Q : VK, (∀ v x δ' F' H', Same F F' → Rep B δ' σ F' H' → Dq B.K F' v x → Φ x δ' → Q v H') → r v H Q
def RC (B : Bs) (r : List V → Hp → VK → Prop) (xs : List PyData) (δ : St') (Φ : PE1) : Prop := ∀ σ F H, Rep B δ σ F H → ∀ vs, DqAll B.K F vs xs → ∀ Q : VK, (∀ v x δ' F' H', Same F F' → Rep B δ' σ F' H' → Dq B.K F' v x → Φ x δ' → Q v H') → r vs H Q
section
variable {B : Bs} {te ta tb tx : TE} {tt tu : TT} {δ : St'} {Φ Ψ : PE1}
theorem WE.mono (h : WE B te δ Φ) (f : ∀ x δ', Φ x δ' → Ψ x δ') : WE B te δ Ψ := fun σ F H r Q q => h σ F H r Q fun v x δ' F' H' e r' d p => q v x δ' F' H' e r' d (f x δ' p)
theorem WT.mono {Φ Ψ : Bool → St' → Prop} (h : WT B tt δ Φ) (f : ∀ x δ', Φ x δ' → Ψ x δ') : WT B tt δ Ψ := fun σ F H r Q q => h σ F H r Q fun b δ' F' H' e r' p => q b δ' F' H' e r' (f b δ' p)
theorem we_var {i : Nat} {x : PyData} (h : δ.s[i]? = some (some (.d x))) (p : Φ x δ) : WE B (tVar i) δ Φ := fun σ F H r Q q => by
  obtain ⟨v, hv, hc⟩ := r.cell i _ h
  exact ⟨v, hv, q v x δ F H (Same.refl F) r hc p⟩
theorem we_c {v : V} {x : PyData} (h : ∀ F, Dq B.K F v x) (p : Φ x δ) : WE B (tC v) δ Φ := fun σ F H r Q q => q v x δ F H (Same.refl F) r (h F) p
theorem we_int {i : Int} (p : Φ (.int i) δ) : WE B (tC (.int i)) δ Φ := we_c (fun _ => .int i) p
theorem we_bl {i : Bool} (p : Φ (.bool i) δ) : WE B (tC (.bl i)) δ Φ := we_c (fun _ => .bl i) p
theorem we_str {i : Str} (p : Φ (.str i) δ) : WE B (tC (.str i)) δ Φ := we_c (fun _ => .str i) p
theorem we_non (p : Φ .none δ) : WE B (tC .non) δ Φ := we_c (fun _ => .non) p
theorem we_op {r : R2} (h : WE B ta δ fun x δ1 => WE B tb δ1 fun y δ2 => RD B r x y δ2 Φ) : WE B (tOp r ta tb) δ Φ := fun σ F H rp Q q =>
  h σ F H rp _ fun v x δ1 F1 H1 e1 r1 d1 p1 => p1 σ F1 H1 r1 _ fun u y δ2 F2 H2 e2 r2 d2 p2 => p2 σ F2 H2 r2 v u (dp_mono e2 _ _ d1) d2 Q fun v' x' δ' F' H' e' r' d' p' => q v' x' δ' F' H' ((e1.trans e2).trans e') r' d' p'
theorem we_cb {r : List V → Hp → VK → Prop} {ta : TA} (h : WA B ta δ fun xs δ1 => RC B r xs δ1 Φ) : WE B (tCB r ta) δ Φ := fun σ F H rp Q q =>
  h σ F H rp _ fun v x δ1 F1 H1 e1 r1 d1 p1 => p1 σ F1 H1 r1 v d1 Q fun v' x' δ' F' H' e' r' d' p' => q v' x' δ' F' H' (e1.trans e') r' d' p'
theorem wa_nil {Φ : List PyData → St' → Prop} (p : Φ [] δ) : WA B tNil δ Φ := fun σ F H r Q q => q [] [] δ F H (Same.refl F) r .nil p
theorem wa_cons {tr : TA} {Φ : List PyData → St' → Prop} (h : WE B ta δ fun x δ1 => WA B tr δ1 fun xs δ2 => Φ (x :: xs) δ2) : WA B (tCons ta tr) δ Φ := fun σ F H r Q q =>
  h σ F H r _ fun v x δ1 F1 H1 e1 r1 d1 p1 => p1 σ F1 H1 r1 _ fun vs xs δ2 F2 H2 e2 r2 d2 p2 => q (v :: vs) (x :: xs) δ2 F2 H2 (e1.trans e2) r2 (.cons (dp_mono e2 _ _ d1) d2) p2
/-- a new tuple of told things -/
theorem we_tup {ta : TA} (h : WA B ta δ fun xs δ1 => xs.length ≤ 100000 ∧ Φ (.tuple xs) δ1) : WE B (tTup ta) δ Φ := fun σ F H r Q q =>
  h σ F H r _ fun vs xs δ1 F1 H1 e1 r1 d1 ⟨hz, p1⟩ => ⟨Nat.le_trans (by rw [dpAll_len d1]; exact hz) (by decide), fun p hp => by
    have hF : F1 p = none := r1.ex.free hp
    exact q _ _ δ1 _ _ (e1.trans (same_upd hF)) (r1.new hp (.tup vs)) (.tup (.inl (.inl upd_same)) (dpAll_mono (same_upd hF) _ _ d1) upd_same) p1⟩
/-- tests -/
theorem wt_test (h : WE B te δ fun x δ' => ∃ b, x = .bool b ∧ Φ' b δ') : WT B (tTest te) δ Φ' := fun σ F H r Q q => h σ F H r _ fun v x δ' F' H' e r' d ⟨b, hb, p⟩ => by
  subst hb
  cases d
  exact ⟨b, rfl, q b δ' F' H' e r' p⟩
theorem wt_B (h : WE B te δ fun x δ' => ∃ b, x = .bool b ∧ Φ' b δ') : WT B (tB te) δ Φ' := fun σ F H r Q q => h σ F H r _ fun v x δ' F' H' e r' d ⟨b, hb, p⟩ => by
  subst hb
  cases d
  exact ⟨b, rfl, q b δ' F' H' e r' p⟩
theorem wt_not (h : WT B tt δ fun b δ' => Φ' (!b) δ') : WT B (tNot tt) δ Φ' := fun σ F H r Q q => h σ F H r _ fun b δ' F' H' e r' p => q (!b) δ' F' H' e r' p
theorem wt_and (h : WT B tt δ fun b δ' => if b = true then WT B tu δ' Φ' else Φ' false δ') : WT B (tAnd tt tu) δ Φ' := fun σ F H r Q q => h σ F H r _ fun b δ' F' H' e r' p => by
  cases b with
  | true => exact iteT ((show WT B tu δ' Φ' from p) σ F' H' r' Q fun b δ2 F2 H2 e2 r2 p2 => q b δ2 F2 H2 (e.trans e2) r2 p2)
  | false => exact iteF (q false δ' F' H' e r' p)
theorem wt_or (h : WT B tt δ fun b δ' => if b = true then Φ' true δ' else WT B tu δ' Φ') : WT B (tOr tt tu) δ Φ' := fun σ F H r Q q => h σ F H r _ fun b δ' F' H' e r' p => by
  cases b with
  | true => exact iteT (q true δ' F' H' e r' p)
  | false => exact iteF ((show WT B tu δ' Φ' from p) σ F' H' r' Q fun b δ2 F2 H2 e2 r2 p2 => q b δ2 F2 H2 (e.trans e2) r2 p2)
theorem we_if (h : WT B tt δ fun b δ' => if b = true then WE B ta δ' Φ else WE B tb δ' Φ) : WE B (tIf tt ta tb) δ Φ := fun σ F H r Q q => h σ F H r _ fun b δ' F' H' e r' p => by
  cases b with
  | true => exact iteT ((show WE B ta δ' Φ from p) σ F' H' r' Q fun v x δ2 F2 H2 e2 r2 d2 p2 => q v x δ2 F2 H2 (e.trans e2) r2 d2 p2)
  | false => exact iteF ((show WE B tb δ' Φ from p) σ F' H' r' Q fun v x δ2 F2 H2 e2 r2 d2 p2 => q v x δ2 F2 H2 (e.trans e2) r2 d2 p2)
/-- a new list becomes data -/
theorem we_wl (h : WL B te δ fun xs δ' => Φ (.list xs) δ') : WE B te δ Φ := fun σ F H r Q q => h σ F H r Q fun a vs xs δ' F' H' e r' hB hF hH hap d p => by
  have e2 : Same F' (upd F' a (.lst vs)) := same_upd hF
  refine q _ _ δ' (upd F' a (.lst vs)) H' (e.trans e2) ⟨fun b u h => ?_, r'.f0.trans e2, fun b h1 h2 => ?_, r'.kp, r'.pot, fun i c h => ?_, r'.len, r'.ap⟩ (.lst (.inl (.inl upd_same)) (dpAll_mono e2 _ _ d)) p
  · by_cases hb : b = a
    · subst hb; rw [upd_same] at h; cases h; exact hH
    · rw [upd_ne hb] at h; exact r'.ex b u h
  · have hb : b ≠ a := fun z => h2 (z ▸ hB)
    rw [upd_ne hb]; exact r'.fr b h1 h2
  · obtain ⟨v, hv, hc⟩ := r'.cell i c h
    refine ⟨v, hv, ?_⟩
    cases c with
    | d x => exact dp_mono e2 _ _ hc
    | own ys =>
      obtain ⟨a', vs', e', h1, h2, h3, h4⟩ := hc
      subst e'
      have hne : a' ≠ a := fun z => hap i _ h rfl (z ▸ hv)
      exact ⟨a', vs', rfl, h1, by rw [upd_ne hne]; exact h2, h3, dpAll_mono e2 _ _ h4⟩
    | dct kvs =>
      obtain ⟨a', vs', e', h1, h2, h3, h4⟩ := hc
      subst e'
      have hne : a' ≠ a := fun z => hap i _ h rfl (z ▸ hv)
      exact ⟨a', vs', rfl, h1, by rw [upd_ne hne]; exact h2, h3, dpAll_mono e2 _ _ h4⟩
    | gen pa mk kvs =>
      obtain ⟨a', vs', e', h1, h2, h3, h4, h5⟩ := hc
      subst e'
      have hne : a' ≠ a := fun z => hap i _ h rfl (z ▸ hv)
      exact ⟨a', vs', rfl, h1, by rw [upd_ne hne]; exact h2, h3, h4, dpAll_mono e2 _ _ h5⟩
    | iset ns =>
      obtain ⟨a', e', h1, h2, h3⟩ := hc
      subst e'
      have hne : a' ≠ a := fun z => hap i _ h rfl (z ▸ hv)
      exact ⟨a', rfl, h1, by rw [upd_ne hne]; exact h2, h3⟩
    | pot => exact hc
    | bor => exact hc
end
end DL
set_option maxHeartbeats 200000
set_option Elab.async false
set_option linter.all false
set_option maxRecDepth 100000
namespace DL
open PySem PySem.Spec PyProof.Rows L2
section
variable (X : Cx)
def wE (e : Expr) : TE := fun σ H Q => ∀ pins s, Inv X pins σ H s → wpAny (model X.prog X.w) X.A (eval e X.env) (EP X pins σ Q) X.xe s
def wT (e : Expr) : TT := fun σ H Q => ∀ pins s, Inv X pins σ H s → wpAny (model X.prog X.w) X.A (isTrue e X.env (eval e X.env)) (TP X pins σ Q) X.xe s
def wW (e : Expr) : TT := fun σ H Q => ∀ whole pins s, Inv X pins σ H s → wpAny (model X.prog X.w) X.A (isTrue e X.env whole) (TP X pins σ Q) X.xe s
def wA (es : List Expr) : TA := fun σ H Q => ∀ pos pins s, Inv X pins σ H s → wpAny (model X.prog X.w) X.A (spliced (backTo pos (starEach es X.env))) (AP X pins σ Q) X.xe s
def wS (st : Stmt) : TS := fun D σ H => ∀ pins s, Inv X pins σ H s → wpAny (model X.prog X.w) X.A (exec st X.env) (SP X pins D) X.xe s
def wSs (st : List Stmt) : TS := fun D σ H => ∀ pins s, Inv X pins σ H s → wpAny (model X.prog X.w) X.A (execs st X.env) (SP X pins D) X.xe s
end
section
variable {X : Cx} {e : Expr} {es : List Expr} {st : Stmt} {sts : List Stmt}
theorem pe_w : PE X e (wE X e) := ⟨fun pins s _ _ _ I h => h pins s I⟩
theorem pt_w : PT X e (wT X e) := ⟨fun pins s _ _ _ I h => h pins s I⟩
theorem pw_w : PW X e (wW X e) := ⟨fun wh pins s _ _ _ I h => h wh pins s I⟩
theorem pa_w : PA X es (wA X es) := ⟨fun pos pins s _ _ _ I h => h pos pins s I⟩
theorem ps_w : PS X st (wS X st) := ⟨fun pins s _ _ _ I h => h pins s I⟩
theorem pss_w : PSs X sts (wSs X sts) := ⟨fun pins s _ _ _ I h => h pins s I⟩
end
abbrev bs (X : Cx) (B : B0) : Bs := ⟨B, X.w, X.K⟩
def DE (B : B0) (X : Cx) (e : Expr) (δ : St') (Φ : PE1) : Prop := WE (bs X B) (wE X e) δ Φ
def DT (B : B0) (X : Cx) (e : Expr) (δ : St') (Φ : Bool → St' → Prop) : Prop := WT (bs X B) (wT X e) δ Φ
def DW (B : B0) (X : Cx) (e : Expr) (δ : St') (Φ : Bool → St' → Prop) : Prop := WT (bs X B) (wW X e) δ Φ
def DA (B : B0) (X : Cx) (es : List Expr) (δ : St') (Φ : List PyData → St' → Prop) : Prop := WA (bs X B) (wA X es) δ Φ
def DLs (B : B0) (X : Cx) (e : Expr) (δ : St') (Φ : List PyData → St' → Prop) : Prop := WL (bs X B) (wE X e) δ Φ
def DS (B : B0) (X : Cx) (st : Stmt) (δ : St') (N : St' → Prop) (R : PE1) : Prop := WS (bs X B) (wS X st) δ N R
def DSs (B : B0) (X : Cx) (sts : List Stmt) (δ : St') (N : St' → Prop) (R : PE1) : Prop := WS (bs X B) (wSs X sts) δ N R
section
variable {B : B0} {X : Cx} {e : Expr} {es : List Expr} {st : Stmt} {sts : List Stmt} {δ : St'} {Φ Ψ : PE1} {te : TE} {tt : TT} {ta : TA} {ts : TS}
theorem DE.of (p : PE X e te) (h : WE (bs X B) te δ Φ) : DE B X e δ Φ := fun σ F H r Q q pins s I => p.run pins s σ H Q I (h σ F H r Q q)
theorem DT.of {Φ : Bool → St' → Prop} (p : PT X e tt) (h : WT (bs X B) tt δ Φ) : DT B X e δ Φ := fun σ F H r Q q pins s I => p.run pins s σ H Q I (h σ F H r Q q)
theorem DW.of {Φ : Bool → St' → Prop} (p : PW X e tt) (h : WT (bs X B) tt δ Φ) : DW B X e δ Φ := fun σ F H r Q q wh pins s I => p.run wh pins s σ H Q I (h σ F H r Q q)
theorem DA.of {Φ : List PyData → St' → Prop} (p : PA X es ta) (h : WA (bs X B) ta δ Φ) : DA B X es δ Φ := fun σ F H r Q q pos pins s I => p.run pos pins s σ H Q I (h σ F H r Q q)
theorem DLs.of {Φ : List PyData → St' → Prop} (p : PE X e te) (h : WL (bs X B) te δ Φ) : DLs B X e δ Φ := fun σ F H r Q q pins s I => p.run pins s σ H Q I (h σ F H r Q q)
theorem DS.of {N : St' → Prop} (p : PS X st ts) (h : WS (bs X B) ts δ N Φ) : DS B X st δ N Φ := fun σ F H r D n q pins s I => p.run pins s σ H D I (h σ F H r D n q)
theorem DSs.of {N : St' → Prop} (p : PSs X sts ts) (h : WS (bs X B) ts δ N Φ) : DSs B X sts δ N Φ := fun σ F H r D n q pins s I => p.run pins s σ H D I (h σ F H r D n q)
theorem DE.mono (h : DE B X e δ Φ) (f : ∀ x δ', Φ x δ' → Ψ x δ') : DE B X e δ Ψ := WE.mono h f
theorem DT.mono {Φ Ψ : Bool → St' → Prop} (h : DT B X e δ Φ) (f : ∀ x δ', Φ x δ' → Ψ x δ') : DT B X e δ Ψ := WT.mono h f
end
section
variable {B : B0} {X : Cx} {a b c : Expr} {es : List Expr} {δ : St'} {Φ : PE1} {pos p2 p3 : Pos}
theorem de_int {i : Int} {k} (p : Φ (.int i) δ) : DE B X (.Constant (.int i) k pos) δ Φ := .of pe_int (we_int p)
theorem de_bl {i : Bool} {k} (p : Φ (.bool i) δ) : DE B X (.Constant (.bool i) k pos) δ Φ := .of pe_bl (we_bl p)
theorem de_str {i : Str} {k} (p : Φ (.str i) δ) : DE B X (.Constant (.str i) k pos) δ Φ := .of pe_str (we_str p)
theorem de_non {k} (p : Φ .none δ) : DE B X (.Constant .none k pos) δ Φ := .of pe_non (we_non p)
theorem de_nm (i : Nat) {x : Str} {d : PyData} (p : Φ d δ) (h : δ.s[i]? = some (some (.d d)) := by rfl) (hN : X.N[i]? = some x := by rfl)
    (hv : Vis X.env.scope x := by first | exact Or.inl rfl | exact Or.inr (Or.inl rfl) | exact Or.inr (Or.inr rfl)) (hd : (x == ("__debug__" : Str)) = false := by decide)
    (hcd : (x == ("__classdict__" : Str)) = false := by decide) : DE B X (.Name x pos) δ Φ := .of (pe_var hN hv hd hcd) (we_var h p)
/-- a constant of the module -/
theorem de_glob {x : Str} {v : V} {u : Value} {d : PyData} (hm : X.mg x = some u) (r : RelV v u) (hd' : ∀ F, Dq X.K F v d) (p : Φ d δ) (hg : Gl X x := by rfl) (hd : (x == ("__debug__" : Str)) = false := by decide) : DE B X (.Name x pos) δ Φ :=
  .of (pe_glob hg hm r hd) (we_c hd' p)
theorem de_bin {op : Operator} {r : R2} (ho : OpR X (binaryOp op) r) (h : DE B X a δ fun x δ1 => DE B X b δ1 fun y δ2 => RD (bs X B) r x y δ2 Φ) : DE B X (.BinOp a op b pos) δ Φ := .of (pe_op ho pe_w pe_w) (we_op h)
theorem de_cmp {op : CmpOp} {r : R2} (ho : OpR X (compareOp op) r) (h : DE B X a δ fun x δ1 => DE B X b δ1 fun y δ2 => RD (bs X B) r x y δ2 Φ) (hm : behindInMarks op b = false := by first | exact nomark _ | with_unfolding_all rfl) : DE B X (.Compare a [op] [b] pos) δ Φ := .of (pe_cmpR ho pe_w pe_w hm) (we_op h)
theorem de_ix {r : R2} (ho : IxR X r) (h : DE B X a δ fun x δ1 => DE B X b δ1 fun y δ2 => RD (bs X B) r x y δ2 Φ) (hs : PlainIx b := by exact fun _ _ => rfl) : DE B X (.Subscript a b pos) δ Φ := .of (pe_ix ho pe_w pe_w hs) (we_op h)
theorem da_nil {Φ : List PyData → St' → Prop} (p : Φ [] δ) : DA B X [] δ Φ := .of pa_nil (wa_nil p)
theorem da_cons {Φ : List PyData → St' → Prop} (h : DE B X a δ fun x δ1 => DA B X es δ1 fun xs δ2 => Φ (x :: xs) δ2) (hs : starEach (a :: es) X.env = (false, eval a X.env) :: starEach es X.env := by rfl) : DA B X (a :: es) δ Φ := .of (pa_cons pe_w pa_w hs) (wa_cons h)
theorem de_tup {k} (h : DA B X es δ fun xs δ1 => xs.length ≤ 100000 ∧ Φ (.tuple xs) δ1) : DE B X (.Tuple es k pos) δ Φ := .of (pe_tup pa_w) (we_tup h)
/-- a new list of told things -/
theorem wl_lst {ta : TA} {B : Bs} {Φ : List PyData → St' → Prop} (h : WA B ta δ fun xs δ1 => xs.length ≤ 100000 ∧ Φ xs δ1) : WL B (tLst ta) δ Φ := fun σ F H r Q q =>
  h σ F H r _ fun vs xs δ1 F1 H1 e1 r1 d1 ⟨hz, p1⟩ => ⟨Nat.le_trans (by rw [dpAll_len d1]; exact hz) (by decide), fun p hp => by
    have hF : F1 p = none := r1.ex.free hp
    have hB : B.H p = none := by
      cases e : B.H p with
      | none => rfl
      | some o =>
        by_cases z : B.p = some p
        · obtain ⟨_, _, _, _, _, h3, _⟩ := r1.pot p z
          rw [hp] at h3; cases h3
        · rw [r1.kp p o e z] at hp; cases hp
    refine q p vs xs δ1 F1 (upd H1 p (.lst vs)) e1 ⟨fun b u h => ?_, r1.f0, r1.fr, fun b u h1 h2 => ?_, fun a h => ?_, fun i c h => ?_, r1.len, r1.ap⟩ hB hF upd_same (fun i c h ho => ?_) d1 p1
    · have := r1.ex b u h
      rw [upd_ne (ne_of_none this hp)]; exact this
    · have := r1.kp b u h1 h2
      rw [upd_ne (ne_of_none this hp)]; exact this
    · obtain ⟨h1, h2, x, y, z, h3, h4⟩ := r1.pot a h
      exact ⟨h1, h2, x, y, z, by rw [upd_ne (ne_of_none h3 hp)]; exact h3, h4⟩
    · obtain ⟨v, hv, hc⟩ := r1.cell i c h
      refine ⟨v, hv, ?_⟩
      cases c with
      | d x => exact hc
      | own xs =>
        obtain ⟨a, vs, e, h1, h2, h3, h4⟩ := hc
        exact ⟨a, vs, e, h1, h2, by rw [upd_ne (ne_of_none h3 hp)]; exact h3, h4⟩
      | dct kvs =>
        obtain ⟨a, vs, e, h1, h2, h3, h4⟩ := hc
        exact ⟨a, vs, e, h1, h2, by rw [upd_ne (ne_of_none h3 hp)]; exact h3, h4⟩
      | gen pa mk kvs =>
        obtain ⟨a, vs, e, h1, h2, h3, h4, h5⟩ := hc
        exact ⟨a, vs, e, h1, h2, by rw [upd_ne (ne_of_none h3 hp)]; exact h3, h4, h5⟩
      | iset ns =>
        obtain ⟨a, e, h1, h2, h3⟩ := hc
        exact ⟨a, e, h1, h2, by rw [upd_ne (ne_of_none h3 hp)]; exact h3⟩
      | pot => exact hc
      | bor => exact hc
    · intro hs
      obtain ⟨v, hv, hc⟩ := r1.cell i c h
      rw [hv] at hs
      cases hs
      cases c with
      | d x => cases ho
      | pot => cases ho
      | bor => cases ho
      | own xs =>
        obtain ⟨a, vs, e, _, _, h3, _⟩ := hc
        cases e
        rw [hp] at h3; cases h3
      | dct kvs =>
        obtain ⟨a, vs, e, _, _, h3, _⟩ := hc
        cases e
        rw [hp] at h3; cases h3
      | gen pa mk kvs =>
        obtain ⟨a, vs, e, _, _, h3, _⟩ := hc
        cases e
        rw [hp] at h3; cases h3
      | iset ns =>
        obtain ⟨a, e, _, _, h3⟩ := hc
        cases e
        rw [hp] at h3; cases h3⟩
theorem dl_lst {Φ : List PyData → St' → Prop} (h : DA B X es δ fun xs δ1 => xs.length ≤ 100000 ∧ Φ xs δ1) : DLs B X (.List es pos) δ Φ := .of (pe_lst pa_w) (wl_lst h)
theorem de_dl (h : DLs B X a δ fun xs δ' => Φ (.list xs) δ') : DE B X a δ Φ := we_wl h
theorem de_if (h : DT B X c δ fun b' δ' => if b' = true then DE B X a δ' Φ else DE B X b δ' Φ) : DE B X (.IfExp c a b pos) δ Φ := .of (pe_ifExp pt_w pe_w pe_w) (we_if h)
/-- tests -/
theorem dt_cmp {op : CmpOp} {r : R2} {Φ : Bool → St' → Prop} (ho : OpR X (compareOp op) r) (h : DE B X a δ fun x δ1 => DE B X b δ1 fun y δ2 => RD (bs X B) r x y δ2 fun z δ3 => ∃ b', z = .bool b' ∧ Φ b' δ3) (hm : behindInMarks op b = false := by first | exact nomark _ | with_unfolding_all rfl) : DT B X (.Compare a [op] [b] pos) δ Φ :=
  .of (pt_cmpR ho pe_w pe_w hm) (wt_test (we_op h))
theorem dt_val {Φ : Bool → St' → Prop} (h : DE B X a δ fun x δ1 => ∃ b', x = .bool b' ∧ Φ b' δ1) (he : ∀ whole, isTrue a X.env whole = (do let v ← whole; standAt a.pos; holding [v] (truthy v)) := by intro _; rfl) : DT B X a δ Φ := .of (pt_val pe_w he) (wt_B h)
theorem dt_pw {Φ : Bool → St' → Prop} (h : DW B X a δ Φ) : DT B X a δ Φ := .of (PW.pt pw_w) h
theorem dw_and1 {Φ : Bool → St' → Prop} (h : DT B X a δ Φ) : DW B X (.BoolOp .And [a] pos) δ Φ := .of (pw_and1 pt_w) h
theorem dw_or1 {Φ : Bool → St' → Prop} (h : DT B X a δ Φ) : DW B X (.BoolOp .Or [a] pos) δ Φ := .of (pw_or1 pt_w) h
theorem dw_and {Φ : Bool → St' → Prop} {rest : List Expr} (h : DT B X a δ fun k δ' => if k = true then DW B X (.BoolOp .And (b :: rest) pos) δ' Φ else Φ false δ') : DW B X (.BoolOp .And (a :: b :: rest) pos) δ Φ := .of (pw_and pt_w pw_w) (wt_and h)
theorem dw_or {Φ : Bool → St' → Prop} {rest : List Expr} (h : DT B X a δ fun k δ' => if k = true then Φ true δ' else DW B X (.BoolOp .Or (b :: rest) pos) δ' Φ) : DW B X (.BoolOp .Or (a :: b :: rest) pos) δ Φ := .of (pw_or pt_w pw_w) (wt_or h)
end
end DL
set_option maxHeartbeats 200000
set_option Elab.async false
set_option linter.all false
set_option maxRecDepth 100000
namespace DL
open PySem PySem.Spec PyProof.Rows L2
section
variable {B : B0} {X : Cx} {a b c : Expr} {es rest : List Expr} {δ : St'} {Φ : PE1} {pos p2 p3 : Pos}
theorem we_andV {B : Bs} {ta tb : TE} (h : WE B ta δ fun x δ' => ∃ k, x = .bool k ∧ if k = true then WE B tb δ' Φ else Φ (.bool false) δ') : WE B (tAndV ta tb) δ Φ := fun σ F H r Q q => h σ F H r _ fun v x δ' F' H' e r' d ⟨k, hk, p⟩ => by
  subst hk
  cases d
  refine ⟨k, rfl, ?_⟩
  cases k with
  | true => exact iteT ((show WE B tb δ' Φ from p) σ F' H' r' Q fun v x δ2 F2 H2 e2 r2 d2 p2 => q v x δ2 F2 H2 (e.trans e2) r2 d2 p2)
  | false => exact iteF (q (.bl false) _ δ' F' H' e r' (.bl _) p)
theorem we_orV {B : Bs} {ta tb : TE} (h : WE B ta δ fun x δ' => ∃ k, x = .bool k ∧ if k = true then Φ (.bool true) δ' else WE B tb δ' Φ) : WE B (tOrV ta tb) δ Φ := fun σ F H r Q q => h σ F H r _ fun v x δ' F' H' e r' d ⟨k, hk, p⟩ => by
  subst hk
  cases d
  refine ⟨k, rfl, ?_⟩
  cases k with
  | true => exact iteT (q (.bl true) _ δ' F' H' e r' (.bl _) p)
  | false => exact iteF ((show WE B tb δ' Φ from p) σ F' H' r' Q fun v x δ2 F2 H2 e2 r2 d2 p2 => q v x δ2 F2 H2 (e.trans e2) r2 d2 p2)
theorem de_one {op} (h : DE B X a δ Φ) : DE B X (.BoolOp op [a] pos) δ Φ := .of (pe_one pe_w) h
theorem de_and (h : DE B X a δ fun x δ' => ∃ k, x = .bool k ∧ if k = true then DE B X (.BoolOp .And (b :: rest) pos) δ' Φ else Φ (.bool false) δ') : DE B X (.BoolOp .And (a :: b :: rest) pos) δ Φ := .of (pe_and pe_w pe_w) (we_andV h)
theorem de_or (h : DE B X a δ fun x δ' => ∃ k, x = .bool k ∧ if k = true then Φ (.bool true) δ' else DE B X (.BoolOp .Or (b :: rest) pos) δ' Φ) : DE B X (.BoolOp .Or (a :: b :: rest) pos) δ Φ := .of (pe_or pe_w pe_w) (we_orV h)
theorem dt_not {Φ : Bool → St' → Prop} (h : DT B X a δ fun k δ' => Φ (!k) δ') : DT B X (.UnaryOp .Not a pos) δ Φ := .of (pt_not pt_w) (wt_not h)
theorem we_chain {B : Bs} {r r' : R2} {ta tb tc : TE} (h : WE B ta δ fun x δ1 => WE B tb δ1 fun y δ2 => RD B r x y δ2 fun z δ3 => ∃ k, z = .bool k ∧ if k = true then WE B tc δ3 fun u δ4 => RD B r' y u δ4 Φ else Φ (.bool false) δ3) : WE B (tChain r r' ta tb tc) δ Φ := fun σ F H rp Q q =>
  h σ F H rp _ fun v x δ1 F1 H1 e1 r1 d1 p1 => p1 σ F1 H1 r1 _ fun u y δ2 F2 H2 e2 r2 d2 p2 => p2 σ F2 H2 r2 v u (dp_mono e2 _ _ d1) d2 _ fun z z' δ3 F3 H3 e3 r3 d3 ⟨k, hk, p3⟩ => by
    subst hk
    cases d3
    refine ⟨k, rfl, ?_⟩
    cases k with
    | true => exact iteT ((show WE B tc δ3 _ from p3) σ F3 H3 r3 _ fun w' u' δ4 F4 H4 e4 r4 d4 p4 => p4 σ F4 H4 r4 u w' (dp_mono (e3.trans e4) _ _ d2) d4 Q fun v' x' δ' F' H' e' r' d' p' => q v' x' δ' F' H' ((((e1.trans e2).trans e3).trans e4).trans e') r' d' p')
    | false => exact iteF (q _ _ δ3 F3 H3 ((e1.trans e2).trans e3) r3 (.bl _) p3)
theorem de_chain {op op' : CmpOp} {r r' : R2} (ho : OpR X (compareOp op) r) (ho' : OpR X (compareOp op') r')
    (h : DE B X a δ fun x δ1 => DE B X b δ1 fun y δ2 => RD (bs X B) r x y δ2 fun z δ3 => ∃ k, z = .bool k ∧ if k = true then DE B X c δ3 fun u δ4 => RD (bs X B) r' y u δ4 Φ else Φ (.bool false) δ3)
    (hm : lastMarks [op, op'] [b, c] = false := by with_unfolding_all rfl) : DE B X (.Compare a [op, op'] [b, c] pos) δ Φ := .of (pe_chain ho ho' pe_w pe_w pe_w hm) (we_chain h)
theorem dt_chain {op op' : CmpOp} {r r' : R2} {Φ : Bool → St' → Prop} (ho : OpR X (compareOp op) r) (ho' : OpR X (compareOp op') r')
    (h : DE B X a δ fun x δ1 => DE B X b δ1 fun y δ2 => RD (bs X B) r x y δ2 fun z δ3 => ∃ k, z = .bool k ∧ if k = true then DE B X c δ3 fun u δ4 => RD (bs X B) r' y u δ4 fun z' δ5 => ∃ k', z' = .bool k' ∧ Φ k' δ5 else Φ false δ3)
    (hm : lastMarks [op, op'] [b, c] = false := by with_unfolding_all rfl) : DT B X (.Compare a [op, op'] [b, c] pos) δ Φ := .of (pt_chain ho ho' pe_w pe_w pe_w hm) (wt_test (we_chain (WE.mono h fun x δ1 h1 => WE.mono h1 fun y δ2 h2 σ F H r v u d1 d2 Q q => h2 σ F H r v u d1 d2 Q fun v x δ' F' H' e r' d ⟨k, hk, p⟩ => q v x δ' F' H' e r' d ⟨k, hk, by
      cases k with
      | true => exact iteT (show WE _ _ _ _ from p)
      | false => exact iteF ⟨false, rfl, p⟩⟩)))
end
section
variable {B : Bs} {δ : St'} {Φ : PE1}
/-- what needs no heap and tells an atom -/
theorem rd_pure {r : R2} {x y z : PyData} {w : V} (hz : ∀ F, Dq B.K F w z) (h : ∀ F H v u, Same F H → Dq B.K F v x → Dq B.K F u y → ∀ Q : VK, Q w H → r v u H Q) (p : Φ z δ) : RD B r x y δ Φ := fun σ F H rp v u d1 d2 Q q =>
  h F H v u rp.ex d1 d2 Q (q w z δ F H (Same.refl F) rp (hz F) p)
theorem rd_item {r : R2} {x y z : PyData} (h : ∀ F H v u, Same F H → Dq B.K F v x → Dq B.K F u y → ∃ w, Dq B.K F w z ∧ ∀ Q : VK, Q w H → r v u H Q) (p : Φ z δ) : RD B r x y δ Φ := fun σ F H rp v u d1 d2 Q q => by
  obtain ⟨w, hw, hq⟩ := h F H v u rp.ex d1 d2
  exact hq Q (q w z δ F H (Same.refl F) rp hw p)
theorem ru_pure {r : V → Hp → VK → Prop} {x z : PyData} {w : V} (hz : ∀ F, Dq B.K F w z) (h : ∀ F H v, Same F H → Dq B.K F v x → ∀ Q : VK, Q w H → r v H Q) (p : Φ z δ) : RU B r x δ Φ := fun σ F H rp v d1 Q q =>
  h F H v rp.ex d1 Q (q w z δ F H (Same.refl F) rp (hz F) p)
theorem rc_pure {r : List V → Hp → VK → Prop} {xs : List PyData} {z : PyData} {w : V} (hz : ∀ F, Dq B.K F w z) (h : ∀ F H vs, Same F H → DqAll B.K F vs xs → ∀ Q : VK, Q w H → r vs H Q) (p : Φ z δ) : RC B r xs δ Φ := fun σ F H rp vs d1 Q q =>
  h F H vs rp.ex d1 Q (q w z δ F H (Same.refl F) rp (hz F) p)
theorem rd_I0 {g : Int → Int → Int} {i j : Int} (p : Φ (.int (g i j)) δ) : RD B (rI0 fun i j => .int (g i j)) (.int i) (.int j) δ Φ :=
  rd_pure (w := .int (g i j)) (fun _ => .int _) (fun F H v u e d1 d2 Q q => by cases d1; cases d2; exact ⟨i, j, rfl, rfl, q⟩) p
theorem rd_B0 {g : Int → Int → Bool} {i j : Int} (p : Φ (.bool (g i j)) δ) : RD B (rI0 fun i j => .bl (g i j)) (.int i) (.int j) δ Φ :=
  rd_pure (w := .bl (g i j)) (fun _ => .bl _) (fun F H v u e d1 d2 Q q => by cases d1; cases d2; exact ⟨i, j, rfl, rfl, q⟩) p
theorem rd_I {C : Int → Int → Prop} {g : Int → Int → Int} {i j : Int} (hc : C i j) (p : Φ (.int (g i j)) δ) : RD B (rI C fun i j => .int (g i j)) (.int i) (.int j) δ Φ :=
  rd_pure (w := .int (g i j)) (fun _ => .int _) (fun F H v u e d1 d2 Q q => by cases d1; cases d2; exact ⟨i, j, rfl, rfl, hc, q⟩) p
theorem rd_eqA {x y : PyData} (hx : atom x = true) (hy : atom y = true) (hs : scal (toV x) (toV y) = true) (p : Φ (.bool (decide (toV x = toV y))) δ) : RD B rEq x y δ Φ :=
  rd_pure (w := .bl (decide (toV x = toV y))) (fun _ => .bl _) (fun F H v u e d1 d2 Q q => by rw [atom_v d1 hx, atom_v d2 hy]; exact ⟨hs, q⟩) p
theorem rd_neA {x y : PyData} (hx : atom x = true) (hy : atom y = true) (hs : scal (toV x) (toV y) = true) (p : Φ (.bool (!decide (toV x = toV y))) δ) : RD B rNe x y δ Φ :=
  rd_pure (w := .bl (!decide (toV x = toV y))) (fun _ => .bl _) (fun F H v u e d1 d2 Q q => by rw [atom_v d1 hx, atom_v d2 hy]; exact ⟨hs, q⟩) p
theorem rd_eqS {x y : Str} (p : Φ (.bool (decide (x = y))) δ) : RD B rEq (.str x) (.str y) δ Φ := rd_eqA rfl rfl rfl (by
  have e : decide (toV (.str x) = toV (.str y)) = decide (x = y) := by
    by_cases h : x = y
    · subst h; simp
    · have : ¬ (toV (.str x) = toV (.str y)) := fun z => h (V.str.inj z)
      rw [decide_eq_false h, decide_eq_false this]
  rw [e]; exact p)
theorem rd_neS {x y : Str} (p : Φ (.bool (!decide (x = y))) δ) : RD B rNe (.str x) (.str y) δ Φ := rd_neA rfl rfl rfl (by
  have e : decide (toV (.str x) = toV (.str y)) = decide (x = y) := by
    by_cases h : x = y
    · subst h; simp
    · have : ¬ (toV (.str x) = toV (.str y)) := fun z => h (V.str.inj z)
      rw [decide_eq_false h, decide_eq_false this]
  rw [e]; exact p)
theorem rd_eqI {x y : Int} (p : Φ (.bool (decide (x = y))) δ) : RD B rEq (.int x) (.int y) δ Φ := rd_eqA rfl rfl rfl (by
  have e : decide (toV (.int x) = toV (.int y)) = decide (x = y) := by
    by_cases h : x = y
    · subst h; simp
    · have : ¬ (toV (.int x) = toV (.int y)) := fun z => h (V.int.inj z)
      rw [decide_eq_false h, decide_eq_false this]
  rw [e]; exact p)
theorem rd_neI {x y : Int} (p : Φ (.bool (!decide (x = y))) δ) : RD B rNe (.int x) (.int y) δ Φ := rd_neA rfl rfl rfl (by
  have e : decide (toV (.int x) = toV (.int y)) = decide (x = y) := by
    by_cases h : x = y
    · subst h; simp
    · have : ¬ (toV (.int x) = toV (.int y)) := fun z => h (V.int.inj z)
      rw [decide_eq_false h, decide_eq_false this]
  rw [e]; exact p)
mutual
theorem noH_lay : ∀ d : PyData, d.canLay0 = true → noH d = true
  | .none, _ => rfl
  | .bool _, _ => rfl
  | .int _, _ => rfl
  | .str _, _ => rfl
  | .list ds, h => noHs_lay ds h
  | .tuple ds, h => noHs_lay ds h
  | .dict _, h => by cases h
theorem noHs_lay : ∀ ds : List PyData, PyData.canLayAll0 ds = true → noHs ds = true
  | [], _ => rfl
  | d :: ds, h => by
    have h' : (d.canLay0 && PyData.canLayAll0 ds) = true := h
    rw [Bool.and_eq_true] at h'
    show (noH d && noHs ds) = true
    rw [noH_lay d h'.1, noHs_lay ds h'.2]
    rfl
end
theorem noH_shaped {d : PyData} (h : SeqAt.shaped d = true) : noH d = true := noH_lay d (SeqAt.canLay_of_shaped h)
theorem rd_eqD {x y : PyData} (hx : SeqAt.shaped x = true) (hy : SeqAt.shaped y = true) (p : Φ (.bool (PyData.eqv x y)) δ) : RD B (rEqD B.K) x y δ Φ :=
  rd_pure (w := .bl (PyData.eqv x y)) (fun _ => .bl _) (fun F H v u e d1 d2 Q q => ⟨x, y, dq_dp _ _ (noH_shaped hx) (dp_mono e _ _ d1), dq_dp _ _ (noH_shaped hy) (dp_mono e _ _ d2), hx, hy, q⟩) p
theorem rd_neD {x y : PyData} (hx : SeqAt.shaped x = true) (hy : SeqAt.shaped y = true) (p : Φ (.bool (!PyData.eqv x y)) δ) : RD B (rNeD B.K) x y δ Φ :=
  rd_pure (w := .bl (!PyData.eqv x y)) (fun _ => .bl _) (fun F H v u e d1 d2 Q q => ⟨x, y, dq_dp _ _ (noH_shaped hx) (dp_mono e _ _ d1), dq_dp _ _ (noH_shaped hy) (dp_mono e _ _ d2), hx, hy, q⟩) p
def isNone : PyData → Bool | .none => true | _ => false
theorem isN_iff {K : PySem.W.Frag} {H : Hp} {v : V} {d : PyData} (h : Dq K H v d) : decide (v = V.non) = isNone d := by
  cases h <;> first | rfl | exact decide_eq_false (fun z => by cases z)
theorem rd_isN {x : PyData} (p : Φ (.bool (isNone x)) δ) : RD B (fun x y H Q => y = .non ∧ Q (.bl (decide (x = .non))) H) x .none δ Φ :=
  rd_pure (w := .bl (isNone x)) (fun _ => .bl _) (fun F H v u e d1 d2 Q q => by cases d2; refine ⟨rfl, ?_⟩; rw [isN_iff d1]; exact q) p
theorem rd_notN {x : PyData} (p : Φ (.bool (!isNone x)) δ) : RD B (fun x y H Q => y = .non ∧ Q (.bl (!decide (x = .non))) H) x .none δ Φ :=
  rd_pure (w := .bl (!isNone x)) (fun _ => .bl _) (fun F H v u e d1 d2 Q q => by cases d2; refine ⟨rfl, ?_⟩; rw [isN_iff d1]; exact q) p
/-- items -/
theorem atI_map {K : PySem.W.Frag} {F : Hp} {vs : List V} {ds : List PyData} {i : Int} {d : PyData} (h : DqAll K F vs ds) (e : atI ds i = some d) : ∃ v, atI vs i = some v ∧ Dq K F v d := by
  unfold atI at e ⊢
  rw [dpAll_len h]
  cases hx : ixN ds.length i with
  | none => rw [hx] at e; cases e
  | some j =>
    rw [hx] at e
    exact dpAll_get h e
theorem rd_ixT {xs : List PyData} {i : Int} {z : PyData} (h : atI xs i = some z) (p : Φ z δ) : RD B (rIxT B.K) (.tuple xs) (.int i) δ Φ := rd_item (fun F H v u e d1 d2 => by
  cases d1 with
  | tup hs ha =>
    cases d2
    obtain ⟨w, hw, dw⟩ := atI_map ha h
    exact ⟨w, dw, fun Q q => ⟨_, _, i, w, rfl, rfl, seqT e hs, hw, q⟩⟩) p
theorem rd_ixL {xs : List PyData} {i : Int} {z : PyData} (h : atI xs i = some z) (p : Φ z δ) : RD B (rIxL B.K) (.list xs) (.int i) δ Φ := rd_item (fun F H v u e d1 d2 => by
  cases d1 with
  | lst hs ha =>
    cases d2
    obtain ⟨w, hw, dw⟩ := atI_map ha h
    exact ⟨w, dw, fun Q q => ⟨_, _, i, w, rfl, rfl, e.seq hs, hw, q⟩⟩) p
theorem rd_ixS {s : Str} {i : Int} {c : Nat} (hz : s.length ≤ 100000) (h : atI s.cps.toList i = some c) (p : Φ (.str ⟨#[c]⟩) δ) : RD B rIxS (.str s) (.int i) δ Φ :=
  rd_pure (w := .str ⟨#[c]⟩) (fun _ => .str _) (fun F H v u e d1 d2 Q q => by cases d1; cases d2; exact ⟨s, i, c, rfl, rfl, Nat.le_trans hz (by decide), h, q⟩) p
theorem eqD_dec (neg : Bool) {K : PySem.W.Frag} {F : Hp} {v : V} {x : PyData} {vs : List V} {ys : List PyData} (h : Dq K F v x) (ha : atom x = true) (hs : DqAll K F vs ys) (hb : ys.all atom = true) :
    (if neg then !inV v vs else inV v vs) = (if neg then !inV (toV x) (ys.map toV) else inV (toV x) (ys.map toV)) := by
  rw [atom_v h ha, atoms_v hs hb]
theorem flat_toV (x : PyData) : flatV (toV x) = true := by cases x <;> rfl
theorem rd_inL {neg : Bool} {x : PyData} {ys : List PyData} (ha : atom x = true) (hb : ys.all atom = true) (p : Φ (.bool (if neg then !inV (toV x) (ys.map toV) else inV (toV x) (ys.map toV))) δ) : RD B (rIn B.K neg) x (.list ys) δ Φ :=
  rd_pure (w := .bl (if neg then !inV (toV x) (ys.map toV) else inV (toV x) (ys.map toV))) (fun _ => .bl _) (fun F H v u e d1 d2 Q q => by
    cases d2 with
    | lst hs hal =>
      refine ⟨_, _, rfl, .inl (e.seq hs), ?_, ?_, ?_⟩
      · rw [atom_v d1 ha]; exact flat_toV x
      · rw [atoms_v hal hb]; simp [flat_toV]
      · rw [eqD_dec neg d1 ha hal hb]; exact q) p
/-- texts -/
theorem rd_addS {x y : Str} (hz : x.length + y.length ≤ 100000) (p : Φ (.str (x ++ y)) δ) : RD B (fun x y H Q => ∃ i j, x = .str i ∧ y = .str j ∧ i.length + j.length ≤ sizeLine ∧ Q (.str (i ++ j)) H) (.str x) (.str y) δ Φ :=
  rd_pure (w := .str (x ++ y)) (fun _ => .str _) (fun F H v u e d1 d2 Q q => by cases d1; cases d2; exact ⟨x, y, rfl, rfl, Nat.le_trans hz (by decide), q⟩) p
end
section
variable {B : Bs} {δ : St'} {Φ : PE1}
theorem rc_lenT {K} (hK : K = B.K) {xs : List PyData} (p : Φ (.int xs.length) δ) : RC B (fun xs H Q => ∃ x n, xs = [x] ∧ LenV K x H n ∧ Q (.int n) H) [.tuple xs] δ Φ := rc_pure (w := .int xs.length) (fun _ => .int _) (fun F H vs e d1 Q q => by
  subst hK
  cases d1 with
  | cons h1 h2 =>
    cases h2
    cases h1 with
    | tup hs ha =>
      refine ⟨_, xs.length, rfl, ?_, q⟩
      unfold LenV
      refine .inr ⟨_, seqT e hs, ?_⟩
      rw [dpAll_len ha]) p
theorem rc_lenL {K} (hK : K = B.K) {xs : List PyData} (p : Φ (.int xs.length) δ) : RC B (fun xs H Q => ∃ x n, xs = [x] ∧ LenV K x H n ∧ Q (.int n) H) [.list xs] δ Φ := rc_pure (w := .int xs.length) (fun _ => .int _) (fun F H vs e d1 Q q => by
  subst hK
  cases d1 with
  | cons h1 h2 =>
    cases h2
    cases h1 with
    | lst hs ha =>
      refine ⟨_, xs.length, rfl, ?_, q⟩
      unfold LenV
      refine .inl ⟨_, e.seq hs, ?_⟩
      rw [dpAll_len ha]) p
theorem rc_lenS {K} (hK : K = B.K) {x : Str} (hz : x.length ≤ 100000) (p : Φ (.int x.length) δ) : RC B (fun xs H Q => ∃ x n, xs = [x] ∧ LenV K x H n ∧ Q (.int n) H) [.str x] δ Φ := rc_pure (w := .int x.length) (fun _ => .int _) (fun F H vs e d1 Q q => by
  subst hK
  cases d1 with
  | cons h1 h2 =>
    cases h2
    cases h1
    refine ⟨_, x.length, rfl, ?_, q⟩
    unfold LenV
    exact ⟨Nat.le_trans hz (by decide), rfl⟩) p
theorem bools_v {K : PySem.W.Frag} {F : Hp} {bs : List Bool} {vs : List V} (h : DqAll K F vs (bs.map PyData.bool)) : vs = bs.map V.bl := by
  rw [atoms_v h (by simp [atom]), List.map_map]
  rfl
theorem rc_all {bs : List Bool} (p : Φ (.bool (bs.all id)) δ) : RC B (rAll B.K) [.list (bs.map PyData.bool)] δ Φ := rc_pure (w := .bl (bs.all id)) (fun _ => .bl _) (fun F H vs e d1 Q q => by
  cases d1 with
  | cons h1 h2 =>
    cases h2
    cases h1 with
    | lst hs ha =>
      refine ⟨_, bs, rfl, ?_, q⟩
      rw [bools_v ha] at hs
      exact e.seq hs) p
end
section
variable {B : B0} {X : Cx} {a b c : Expr} {es rest : List Expr} {δ : St'} {Φ : PE1} {pos p p2 p3 : Pos}
theorem de_callB {x : Str} {id : String} {r : List V → Hp → VK → Prop} (hc : CallR X (.builtin id) r) (hm : X.mg x = none) (hv : bootBuiltins x = some (.builtin id)) (h : DA B X (a :: es) δ fun xs δ' => RC (bs X B) r xs δ' Φ)
    (hg : Gl X x := by rfl) (hn : x ≠ "__name__" := by decide) (hdb : (x == ("__debug__" : Str)) = false := by decide)
    (he : starEach (a :: es) X.env = (false, eval a X.env) :: starEach es X.env := by rfl) (hpl : (backTo pos (starEach es X.env)).any (·.1) = false := by rfl) : DE B X (.Call (.Name x p) (a :: es) [] pos) δ Φ := .of (pe_callB hc hg hm hv pa_w hn hdb he hpl) (we_cb h)
theorem de_callTy {x : Str} {id : String} {r : List V → Hp → VK → Prop} (hc : CallR X (.type id) r) (hm : X.mg x = none) (hv : bootBuiltins x = some (.type id)) (h : DA B X (a :: es) δ fun xs δ' => RC (bs X B) r xs δ' Φ)
    (hg : Gl X x := by rfl) (hn : x ≠ "__name__" := by decide) (hdb : (x == ("__debug__" : Str)) = false := by decide)
    (he : starEach (a :: es) X.env = (false, eval a X.env) :: starEach es X.env := by rfl) (hpl : (backTo pos (starEach es X.env)).any (·.1) = false := by rfl) : DE B X (.Call (.Name x p) (a :: es) [] pos) δ Φ := .of (pe_callTy hc hg hm hv pa_w hn hdb he hpl) (we_cb h)
theorem dl_callTy {x : Str} {id : String} {r : List V → Hp → VK → Prop} {Φ : List PyData → St' → Prop} (hc : CallR X (.type id) r) (hm : X.mg x = none) (hv : bootBuiltins x = some (.type id)) (h : WL (bs X B) (tCB r (wA X (a :: es))) δ Φ)
    (hg : Gl X x := by rfl) (hn : x ≠ "__name__" := by decide) (hdb : (x == ("__debug__" : Str)) = false := by decide)
    (he : starEach (a :: es) X.env = (false, eval a X.env) :: starEach es X.env := by rfl) (hpl : (backTo pos (starEach es X.env)).any (·.1) = false := by rfl) : DLs B X (.Call (.Name x p) (a :: es) [] pos) δ Φ := .of (pe_callTy hc hg hm hv pa_w hn hdb he hpl) h
theorem dl_callB {x : Str} {id : String} {r : List V → Hp → VK → Prop} {Φ : List PyData → St' → Prop} (hc : CallR X (.builtin id) r) (hm : X.mg x = none) (hv : bootBuiltins x = some (.builtin id)) (h : WL (bs X B) (tCB r (wA X (a :: es))) δ Φ)
    (hg : Gl X x := by rfl) (hn : x ≠ "__name__" := by decide) (hdb : (x == ("__debug__" : Str)) = false := by decide)
    (he : starEach (a :: es) X.env = (false, eval a X.env) :: starEach es X.env := by rfl) (hpl : (backTo pos (starEach es X.env)).any (·.1) = false := by rfl) : DLs B X (.Call (.Name x p) (a :: es) [] pos) δ Φ := .of (pe_callB hc hg hm hv pa_w hn hdb he hpl) h
end
end DL
set_option maxHeartbeats 200000
set_option Elab.async false
set_option linter.all false
set_option maxRecDepth 100000
namespace DL
open PySem PySem.Spec PyProof.Rows L2
def St'.put (δ : St') (i : Nat) (c : C) : St' := ⟨δ.n, δ.s.set i (some c)⟩
theorem put_get {δ : St'} {i j : Nat} {c c' : C} (h : (δ.put i c).s[j]? = some (some c')) : (j = i ∧ c' = c ∧ i < δ.s.length) ∨ (j ≠ i ∧ δ.s[j]? = some (some c')) := by
  have h' : (δ.s.set i (some c))[j]? = some (some c') := h
  rw [List.getElem?_set] at h'
  by_cases e : i = j
  · subst e
    rw [if_pos rfl] at h'
    by_cases hl : i < δ.s.length
    · rw [if_pos hl] at h'
      injection h' with h'
      injection h' with h'
      exact .inl ⟨rfl, h'.symm, hl⟩
    · rw [if_neg hl] at h'; cases h'
  · rw [if_neg e] at h'
    exact .inr ⟨fun z => e z.symm, h'⟩
section
variable {B : Bs} {δ δ' : St'} {σ : List (Option V)} {F F' H H' : Hp}
theorem Rep.putD (r : Rep B δ σ F H) (i : Nat) {v : V} {x : PyData} (h : Dq B.K F v x) : Rep B (δ.put i (.d x)) (σ.set i (some v)) F H := by
  refine ⟨r.ex, r.f0, r.fr, r.kp, r.pot, fun j c e => ?_, by simp [St'.put, r.len], fun j k c c' hjk e1 e2 o1 o2 => ?_⟩
  · rcases put_get e with ⟨rfl, rfl, hl⟩ | ⟨hne, e⟩
    · exact ⟨v, by rw [List.getElem?_set, if_pos rfl, if_pos (by rw [r.len]; exact hl)], h⟩
    · obtain ⟨u, hu, hc⟩ := r.cell j c e
      exact ⟨u, by rw [List.getElem?_set_ne (fun z => hne z.symm)]; exact hu, hc⟩
  · rcases put_get e1 with ⟨rfl, rfl, _⟩ | ⟨n1, e1⟩
    · cases o1
    · rcases put_get e2 with ⟨rfl, rfl, _⟩ | ⟨n2, e2⟩
      · cases o2
      · rw [List.getElem?_set_ne (fun z => n1 z.symm), List.getElem?_set_ne (fun z => n2 z.symm)]
        exact r.ap j k c c' hjk e1 e2 o1 o2
/-- an own thing goes to a slot -/
theorem Rep.putO (r : Rep B δ σ F H) (i : Nat) {a : Addr} {c : C} (hap : ∀ (j : Nat) (c : C), δ.s[j]? = some (some c) → own? c = true → σ[j]? ≠ some (some (.ref a))) (hc : CellOk B F H c (.ref a)) : Rep B (δ.put i c) (σ.set i (some (.ref a))) F H := by
  refine ⟨r.ex, r.f0, r.fr, r.kp, r.pot, fun j c e => ?_, by simp [St'.put, r.len], fun j k c c' hjk e1 e2 o1 o2 => ?_⟩
  · rcases put_get e with ⟨rfl, rfl, hl⟩ | ⟨hne, e⟩
    · exact ⟨_, by rw [List.getElem?_set, if_pos rfl, if_pos (by rw [r.len]; exact hl)], hc⟩
    · obtain ⟨u, hu, hc⟩ := r.cell j c e
      exact ⟨u, by rw [List.getElem?_set_ne (fun z => hne z.symm)]; exact hu, hc⟩
  · rcases put_get e1 with ⟨rfl, rfl, l1⟩ | ⟨n1, e1⟩
    · rcases put_get e2 with ⟨rfl, rfl, _⟩ | ⟨n2, e2⟩
      · exact absurd rfl hjk
      · rw [List.getElem?_set, if_pos rfl, if_pos (by rw [r.len]; exact l1), List.getElem?_set_ne (fun z => n2 z.symm)]
        exact fun z => hap k c' e2 o2 z.symm
    · rcases put_get e2 with ⟨rfl, rfl, l2⟩ | ⟨n2, e2⟩
      · rw [List.getElem?_set, if_neg (fun z => n1 z.symm), List.getElem?_set, if_pos rfl, if_pos (by rw [r.len]; exact l2)]
        exact hap j c (by assumption) o1
      · rw [List.getElem?_set_ne (fun z => n1 z.symm), List.getElem?_set_ne (fun z => n2 z.symm)]
        exact r.ap j k c c' hjk e1 e2 o1 o2
/-- an own thing is changed where it stands -/
theorem Rep.write (r : Rep B δ σ F H) {i : Nat} {a : Addr} {c c2 : C} {o : HO} (hi : δ.s[i]? = some (some c)) (ho : own? c = true) (hσ : σ[i]? = some (some (.ref a))) (hB : B.H a = none) (hF : F a = none) (ho2 : own? c2 = true)
    (hc : CellOk B F (upd H a o) c2 (.ref a)) : Rep B (δ.put i c2) σ F (upd H a o) := by
  have nB : ∀ {b : Addr} {u : HO}, B.H b = some u → b ≠ a := fun h z => by rw [z, hB] at h; cases h
  refine ⟨fun b u h => ?_, r.f0, r.fr, fun b u h1 h2 => ?_, fun p h => ?_, fun j c' e => ?_, by simp [St'.put, r.len], fun j k c c' hjk e1 e2 o1 o2 => ?_⟩
  · have hb : b ≠ a := fun z => by rw [z, hF] at h; cases h
    rw [upd_ne hb]; exact r.ex b u h
  · rw [upd_ne (nB h1)]; exact r.kp b u h1 h2
  · obtain ⟨h1, h2, x, y, z, h3, h4⟩ := r.pot p h
    have hb : p ≠ a := fun q => h2 (q ▸ hB)
    exact ⟨h1, h2, x, y, z, by rw [upd_ne hb]; exact h3, h4⟩
  · rcases put_get e with ⟨rfl, rfl, hl⟩ | ⟨hne, e⟩
    · exact ⟨_, hσ, hc⟩
    · obtain ⟨u, hu, hc'⟩ := r.cell j c' e
      refine ⟨u, hu, ?_⟩
      have hna : own? c' = true → ∀ b, u = .ref b → b ≠ a := fun oc b hb q => r.ap j i c' c hne e hi oc ho (by rw [hu, hσ, hb, q])
      cases c' with
      | d x => exact hc'
      | own xs =>
        obtain ⟨b, vs, e1, h1, h2, h3, h4⟩ := hc'
        exact ⟨b, vs, e1, h1, h2, by rw [upd_ne (hna rfl b e1)]; exact h3, h4⟩
      | dct kvs =>
        obtain ⟨b, vs, e1, h1, h2, h3, h4⟩ := hc'
        exact ⟨b, vs, e1, h1, h2, by rw [upd_ne (hna rfl b e1)]; exact h3, h4⟩
      | gen pa mk kvs =>
        obtain ⟨b, vs, e1, h1, h2, h3, h4, h5⟩ := hc'
        exact ⟨b, vs, e1, h1, h2, by rw [upd_ne (hna rfl b e1)]; exact h3, h4, h5⟩
      | iset ns =>
        obtain ⟨b, e1, h1, h2, h3⟩ := hc'
        exact ⟨b, e1, h1, h2, by rw [upd_ne (hna rfl b e1)]; exact h3⟩
      | pot => exact hc'
      | bor => exact hc'
  · have g1 : ∃ d, δ.s[j]? = some (some d) ∧ own? d = true := by
      rcases put_get e1 with ⟨rfl, rfl, _⟩ | ⟨_, e⟩
      · exact ⟨_, hi, ho⟩
      · exact ⟨_, e, o1⟩
    have g2 : ∃ d, δ.s[k]? = some (some d) ∧ own? d = true := by
      rcases put_get e2 with ⟨rfl, rfl, _⟩ | ⟨_, e⟩
      · exact ⟨_, hi, ho⟩
      · exact ⟨_, e, o2⟩
    obtain ⟨d1, q1, w1⟩ := g1
    obtain ⟨d2, q2, w2⟩ := g2
    exact r.ap j k d1 d2 hjk q1 q2 w1 w2
/-- an own list is told as data from here on -/
theorem Rep.freeze (r : Rep B δ σ F H) {i : Nat} {xs : List PyData} (hi : δ.s[i]? = some (some (.own xs))) : ∃ a vs, σ[i]? = some (some (.ref a)) ∧ F a = none ∧ B.H a = none ∧ H a = some (.lst vs) ∧ DqAll B.K F vs xs ∧
    Rep B (δ.put i (.d (.list xs))) σ (upd F a (.lst vs)) H := by
  obtain ⟨u, hu, a, vs, rfl, hB, hF, hH, hd⟩ := r.cell i _ hi
  have e2 : Same F (upd F a (.lst vs)) := same_upd hF
  refine ⟨a, vs, hu, hF, hB, hH, hd, fun b u h => ?_, r.f0.trans e2, fun b h1 h2 => ?_, r.kp, r.pot, fun j c h => ?_, by simp [St'.put, r.len], fun j k c c' hjk q1 q2 o1 o2 => ?_⟩
  · by_cases hb : b = a
    · subst hb; rw [upd_same] at h; cases h; exact hH
    · rw [upd_ne hb] at h; exact r.ex b u h
  · have hb : b ≠ a := fun z => h2 (z ▸ hB)
    rw [upd_ne hb]; exact r.fr b h1 h2
  · rcases put_get h with ⟨rfl, rfl, hl⟩ | ⟨hne, h⟩
    · exact ⟨_, hu, .lst (.inl (.inl upd_same)) (dpAll_mono e2 _ _ hd)⟩
    · obtain ⟨v, hv, hc⟩ := r.cell j c h
      refine ⟨v, hv, ?_⟩
      have hna : own? c = true → ∀ b, v = .ref b → b ≠ a := fun oc b hb q => r.ap j i c _ hne h hi oc rfl (by rw [hv, hu, hb, q])
      cases c with
      | d x => exact dp_mono e2 _ _ hc
      | own ys =>
        obtain ⟨a', vs', e', h1, h2, h3, h4⟩ := hc
        exact ⟨a', vs', e', h1, by rw [upd_ne (hna rfl a' e')]; exact h2, h3, dpAll_mono e2 _ _ h4⟩
      | dct kvs =>
        obtain ⟨a', vs', e', h1, h2, h3, h4⟩ := hc
        exact ⟨a', vs', e', h1, by rw [upd_ne (hna rfl a' e')]; exact h2, h3, dpAll_mono e2 _ _ h4⟩
      | gen pa mk kvs =>
        obtain ⟨a', vs', e', h1, h2, h3, h4, h5⟩ := hc
        exact ⟨a', vs', e', h1, by rw [upd_ne (hna rfl a' e')]; exact h2, h3, h4, dpAll_mono e2 _ _ h5⟩
      | iset ns =>
        obtain ⟨a', e', h1, h2, h3⟩ := hc
        exact ⟨a', e', h1, by rw [upd_ne (hna rfl a' e')]; exact h2, h3⟩
      | pot => exact hc
      | bor => exact hc
  · rcases put_get q1 with ⟨rfl, rfl, _⟩ | ⟨_, q1⟩
    · cases o1
    · rcases put_get q2 with ⟨rfl, rfl, _⟩ | ⟨_, q2⟩
      · cases o2
      · exact r.ap j k c c' hjk q1 q2 o1 o2
/-- no own list but at i -/
def onlyOwn (i : Nat) : List (Option C) → Nat → Bool
  | [], _ => true
  | some (.own _) :: r, j => j == i && onlyOwn i r (j + 1)
  | some (.dct _) :: r, j => false && onlyOwn i r (j + 1)
  | some (.gen _ _ _) :: r, j => false && onlyOwn i r (j + 1)
  | _ :: r, j => onlyOwn i r (j + 1)
theorem onlyOwn_get {i : Nat} : ∀ (l : List (Option C)) (j k : Nat) (ys : List PyData), onlyOwn i l j = true → l[k]? = some (some (.own ys)) → j + k = i
  | [], j, k, ys, _, h => by simp at h
  | c :: r, j, 0, ys, ho, h => by
    simp at h
    subst h
    simp [onlyOwn] at ho
    omega
  | c :: r, j, k + 1, ys, ho, h => by
    have h' : r[k]? = some (some (.own ys)) := by simpa using h
    have ho' : onlyOwn i r (j + 1) = true := by
      rcases c with _ | c
      · exact ho
      · cases c <;> first | exact ho | (simp [onlyOwn] at ho; done) | (simp [onlyOwn] at ho; exact ho.2)
    have := onlyOwn_get r (j + 1) k ys ho' h'
    omega
theorem onlyOwn_dct {i : Nat} : ∀ (l : List (Option C)) (j k : Nat) (kvs : List (L2.Key × PyData)), onlyOwn i l j = true → l[k]? = some (some (.dct kvs)) → False
  | [], j, k, kvs, _, h => by simp at h
  | c :: r, j, 0, kvs, ho, h => by
    simp at h
    subst h
    simp [onlyOwn] at ho
  | c :: r, j, k + 1, kvs, ho, h => by
    have h' : r[k]? = some (some (.dct kvs)) := by simpa using h
    have ho' : onlyOwn i r (j + 1) = true := by
      rcases c with _ | c
      · exact ho
      · cases c <;> first | exact ho | (simp [onlyOwn] at ho; done) | (simp [onlyOwn] at ho; exact ho.2)
    exact onlyOwn_dct r (j + 1) k kvs ho' h'
theorem onlyOwn_gen {i : Nat} : ∀ (l : List (Option C)) (j k : Nat) (pa : Option Addr) (mk : List V → HO) (kvs : List PyData), onlyOwn i l j = true → l[k]? = some (some (.gen pa mk kvs)) → False
  | [], j, k, pa, mk, kvs, _, h => by simp at h
  | c :: r, j, 0, pa, mk, kvs, ho, h => by
    simp at h
    subst h
    simp [onlyOwn] at ho
  | c :: r, j, k + 1, pa, mk, kvs, ho, h => by
    have h' : r[k]? = some (some (.gen pa mk kvs)) := by simpa using h
    have ho' : onlyOwn i r (j + 1) = true := by
      rcases c with _ | c
      · exact ho
      · cases c <;> first | exact ho | (simp [onlyOwn] at ho; done) | (simp [onlyOwn] at ho; exact ho.2)
    exact onlyOwn_gen r (j + 1) k pa mk kvs ho' h'
/-- the state ahead, the heap behind, where the cells are the same -/
theorem Rep.thaw (r : Rep B δ σ F H) {i : Nat} {xs : List PyData} (hi : δ.s[i]? = some (some (.own xs))) (ho : onlyOwn i δ.s 0 = true) {a : Addr} {vs : List V} (hσ : σ[i]? = some (some (.ref a))) (hd : DqAll B.K F vs xs) (hF : F a = none) (hB : B.H a = none) (ex : Same F H')
    (hl : H' a = some (.lst vs)) (r' : Rep B δ' σ F' H') (hs : δ'.s = (δ.put i (.d (.list xs))).s) : Rep B ⟨δ'.n, δ.s⟩ σ F H' := by
  refine ⟨ex, r.f0, r.fr, r'.kp, fun p h => ⟨(r.pot p h).1, (r.pot p h).2.1, (r'.pot p h).2.2⟩, fun j c h => ?_, r.len, r.ap⟩
  obtain ⟨v, hv, hc⟩ := r.cell j c h
  refine ⟨v, hv, ?_⟩
  by_cases e : j = i
  · subst e
    rw [hi] at h; cases h
    rw [hσ] at hv
    injection hv with hv
    injection hv with hv
    subst hv
    exact ⟨a, vs, rfl, hB, hF, hl, hd⟩
  · have h' : δ'.s[j]? = some (some c) := by
      rw [hs]
      show (δ.s.set i _)[j]? = _
      rw [List.getElem?_set_ne (fun z => e z.symm)]
      exact h
    obtain ⟨v', hv', hc'⟩ := r'.cell j c h'
    rw [hv] at hv'
    injection hv' with hv'
    injection hv' with hv'
    subst hv'
    cases c with
    | d x => exact hc
    | own ys =>
      have := onlyOwn_get δ.s 0 j ys ho h
      exact absurd (by omega) e
    | dct kvs => exact (onlyOwn_dct δ.s 0 j kvs ho h).elim
    | gen pa mk kvs => exact (onlyOwn_gen δ.s 0 j pa mk kvs ho h).elim
    | iset ns =>
      obtain ⟨b, q1, q2, q3, q4⟩ := hc
      obtain ⟨b', q1', q2', q3', q4'⟩ := hc'
      refine ⟨b, q1, q2, q3, ?_⟩
      rw [q1] at q1'; injection q1' with q1'; subst q1'; exact q4'
    | pot => exact hc
    | bor => exact hc
end
section
variable {B : Bs} {te : TE} {tt : TT} {t u : TS} {δ : St'} {Φ R : PE1} {N : St' → Prop}
theorem ws_set {i : Nat} (h : WE B te δ fun x δ' => N (δ'.put i (.d x))) : WS B (tAsg te (gName i)) δ N R := fun σ F H r D hn hr => h σ F H r _ fun v x δ' F' H' e r' d p => hn _ _ F' H' e (r'.putD i d) p
theorem ws_setO {i : Nat} (h : WL B te δ fun xs δ' => N (δ'.put i (.own xs))) : WS B (tAsg te (gName i)) δ N R := fun σ F H r D hn hr => h σ F H r _ fun a vs xs δ' F' H' e r' hB hF hH hap d p =>
  hn _ _ F' H' e (r'.putO i (c := .own xs) hap ⟨a, vs, rfl, hB, hF, hH, d⟩) p
theorem ws_ret (h : WE B te δ R) : WS B (tRet te) δ N R := fun σ F H r D hn hr => h σ F H r _ fun v x δ' F' H' e r' d p => hr v x δ' σ F' H' e r' d p
theorem ws_drop (h : WE B te δ fun _ δ' => N δ') : WS B (tDrop te) δ N R := fun σ F H r D hn hr => h σ F H r _ fun v x δ' F' H' e r' d p => hn δ' σ F' H' e r' p
theorem WS.cat (e : WS B t δ (fun δ' => WS B u δ' N R) R) : WS B (tSeq t u) δ N R := fun σ F H r D hn hr =>
  e σ F H r { D with nx := u D } (fun δ' σ' F' H' e1 r1 w => w σ' F' H' r1 D (fun δ2 σ2 F2 H2 e2 r2 n => hn δ2 σ2 F2 H2 (e1.trans e2) r2 n) fun v x δ2 σ2 F2 H2 e2 r2 d2 p2 => hr v x δ2 σ2 F2 H2 (e1.trans e2) r2 d2 p2) hr
theorem ws_next (p : N δ) : WS B tNext δ N R := fun σ F H r D hn hr => hn δ σ F H (Same.refl F) r p
theorem ws_if (h : WT B tt δ fun b δ' => if b = true then WS B t δ' N R else WS B u δ' N R) : WS B (tIfS tt t u) δ N R := fun σ F H r D hn hr => h σ F H r _ fun b δ' F' H' e r' p => by
  cases b with
  | true => exact iteT ((show WS B t δ' N R from p) σ F' H' r' D (fun δ2 σ2 F2 H2 e2 r2 n => hn δ2 σ2 F2 H2 (e.trans e2) r2 n) fun v x δ2 σ2 F2 H2 e2 r2 d2 p2 => hr v x δ2 σ2 F2 H2 (e.trans e2) r2 d2 p2)
  | false => exact iteF ((show WS B u δ' N R from p) σ F' H' r' D (fun δ2 σ2 F2 H2 e2 r2 n => hn δ2 σ2 F2 H2 (e.trans e2) r2 n) fun v x δ2 σ2 F2 H2 e2 r2 d2 p2 => hr v x δ2 σ2 F2 H2 (e.trans e2) r2 d2 p2)
theorem WS.mono {N' : St' → Prop} {R' : PE1} (h : WS B t δ N R) (f : ∀ δ', N δ' → N' δ') (g : ∀ x δ', R x δ' → R' x δ') : WS B t δ N' R' := fun σ F H r D hn hr =>
  h σ F H r D (fun δ' σ' F' H' e r' n => hn δ' σ' F' H' e r' (f δ' n)) fun v x δ' σ' F' H' e r' d p => hr v x δ' σ' F' H' e r' d (g x δ' p)
end
section
variable {B : B0} {X : Cx} {a b c e : Expr} {es : List Expr} {st : Stmt} {rest bd : List Stmt} {δ : St'} {N : St' → Prop} {Φ R : PE1} {pos p2 p3 : Pos}
theorem ds_nil (p : N δ) : DSs B X [] δ N R := .of pss_nil (ws_next p)
theorem ds_cons (h : DS B X st δ (fun δ' => DSs B X rest δ' N R) R) : DSs B X (st :: rest) δ N R := .of (pss_cons ps_w pss_w) (WS.cat h)
theorem ds_last (h : DS B X st δ N R) : DSs B X [st] δ N R := .of (pss_one ps_w) h
theorem ds_set (i : Nat) {x : Str} {pos' : Pos} (h : DE B X e δ fun d δ' => N (δ'.put i (.d d))) (hN : X.N.Nodup) (hi : X.N[i]? = some x := by rfl) (hx : Loc X.env.scope x := by first | exact .inl rfl | exact .inr rfl)
    (hs : swapsWith e (some (.Name x pos')) pos.line X.env = pure false := by rfl) (hf : X.fn x = true ∨ X.env.scope.names.lookup x = some .local := by first | exact .inl rfl | exact .inr rfl) : DS B X (.Assign [.Name x pos'] e pos) δ N R := .of (ps_set hN hi hx pe_w hs hf) (ws_set h)
theorem ds_setO (i : Nat) {x : Str} {pos' : Pos} (h : DLs B X e δ fun xs δ' => N (δ'.put i (.own xs))) (hN : X.N.Nodup) (hi : X.N[i]? = some x := by rfl) (hx : Loc X.env.scope x := by first | exact .inl rfl | exact .inr rfl)
    (hs : swapsWith e (some (.Name x pos')) pos.line X.env = pure false := by rfl) (hf : X.fn x = true ∨ X.env.scope.names.lookup x = some .local := by first | exact .inl rfl | exact .inr rfl) : DS B X (.Assign [.Name x pos'] e pos) δ N R := .of (ps_set hN hi hx pe_w hs hf) (ws_setO h)
theorem ds_ret (h : DE B X e δ R) : DS B X (.Return (some e) pos) δ N R := .of (ps_ret pe_w) (ws_ret h)
theorem ds_if (h : DT B X c δ fun k δ' => if k = true then DSs B X bd δ' N R else DSs B X rest δ' N R) : DS B X (.If c bd rest pos) δ N R := .of (ps_if pt_w pss_w pss_w) (ws_if h)
theorem ds_expr (h : DE B X e δ fun _ δ' => N δ') (hs : swapsWith e none pos.line X.env = pure false := by rfl) : DS B X (.Expr e pos) δ N R := .of (ps_expr pe_w hs) (ws_drop h)
theorem DSs.mono {N' : St' → Prop} {R' : PE1} (h : DSs B X rest δ N R) (f : ∀ δ', N δ' → N' δ') (g : ∀ x δ', R x δ' → R' x δ') : DSs B X rest δ N' R' := WS.mono h f g
theorem de_peek (i : Nat) {xs : List PyData} (h : DE B X e (δ.put i (.d (.list xs))) fun x δ' => atom x = true ∧ δ'.s = (δ.put i (.d (.list xs))).s ∧ Φ x ⟨δ'.n, δ.s⟩) (hi : δ.s[i]? = some (some (.own xs)) := by rfl) (ho : onlyOwn i δ.s 0 = true := by rfl) : DE B X e δ Φ := fun σ F H r Q q => by
  obtain ⟨a, vs, hσ, hF, hB, hH, hd, r2⟩ := r.freeze hi
  refine h σ _ H r2 Q fun v x δ' F' H' e r' d ⟨ha, hs, p⟩ => ?_
  have e1 : Same F F' := (same_upd hF).trans e
  exact q v x ⟨δ'.n, δ.s⟩ F H' (Same.refl F) (r.thaw hi ho hσ hd hF hB (e1.trans r'.ex) (r'.ex _ _ (e _ _ upd_same)) r' hs) (atom_dp d ha) p
theorem dt_peek (i : Nat) {xs : List PyData} {Φ : Bool → St' → Prop} (h : DT B X e (δ.put i (.d (.list xs))) fun x δ' => δ'.s = (δ.put i (.d (.list xs))).s ∧ Φ x ⟨δ'.n, δ.s⟩) (hi : δ.s[i]? = some (some (.own xs)) := by rfl) (ho : onlyOwn i δ.s 0 = true := by rfl) : DT B X e δ Φ := fun σ F H r Q q => by
  obtain ⟨a, vs, hσ, hF, hB, hH, hd, r2⟩ := r.freeze hi
  refine h σ _ H r2 Q fun b δ' F' H' e r' ⟨hs, p⟩ => ?_
  have e1 : Same F F' := (same_upd hF).trans e
  exact q b ⟨δ'.n, δ.s⟩ F H' (Same.refl F) (r.thaw hi ho hσ hd hF hB (e1.trans r'.ex) (r'.ex _ _ (e _ _ upd_same)) r' hs) p
theorem dss_freeze (i : Nat) {xs : List PyData} (h : DSs B X rest (δ.put i (.d (.list xs))) N R) (hi : δ.s[i]? = some (some (.own xs)) := by rfl) : DSs B X rest δ N R := fun σ F H r D hn hr => by
  obtain ⟨a, vs, hσ, hF, hB, hH, hd, r2⟩ := r.freeze hi
  exact h σ _ H r2 D (fun δ' σ' F' H' e r' n => hn δ' σ' F' H' ((same_upd hF).trans e) r' n) fun v x δ' σ' F' H' e r' d p => hr v x δ' σ' F' H' ((same_upd hF).trans e) r' d p
/-- xs.append(e) -/
theorem ds_append (i : Nat) {x : Str} {xs : List PyData} {apos npos : Pos} (h : DE B X e δ fun y δ' => ∃ xs, δ'.s[i]? = some (some (.own xs)) ∧ xs.length < 100000 ∧ N (δ'.put i (.own (xs ++ [y])))) (hi : δ.s[i]? = some (some (.own xs)) := by rfl)
    (hN : X.N[i]? = some x := by rfl) (hv : Vis X.env.scope x := by first | exact Or.inl rfl | exact Or.inr (Or.inl rfl) | exact Or.inr (Or.inr rfl)) (hd : (x == ("__debug__" : Str)) = false := by decide)
    (hcd : (x == ("__classdict__" : Str)) = false := by decide)
    (hbase : attributeBase (.Name x npos) "append" X.env (eval (.Name x npos) X.env) = eval (.Name x npos) X.env := by rfl)
    (hfew : ((backTo p2 (starEach [e] X.env)).all (fun x => !x.1) && (backToKw p2 (keywordEach [] X.env)).all (fun x => x.1.isSome)
      && decide ([e].length + ([] : List Keyword).length + (if ([] : List Keyword).isEmpty then 0 else 1) < 30)) = true := by rfl)
    (hline : (apos.endLine == p2.line) = true := by rfl) (hs : starEach [e] X.env = (false, eval e X.env) :: starEach [] X.env := by rfl) (hplain : (backTo p2 (starEach [] X.env)).any (·.1) = false := by rfl)
    (hsw : swapsWith (.Call (.Attribute (.Name x npos) "append" apos) [e] [] p2) none pos.line X.env = pure false := by rfl) :
    DS B X (.Expr (.Call (.Attribute (.Name x npos) "append" apos) [e] [] p2) pos) δ N R := .of (ps_expr (pe_bm PySem.F.plainAttrs_list PySem.F.slot_list_append PySem.F.type_list_append mt_append (pe_var hN hv hd hcd) (pa_cons pe_w pa_nil hs) hbase hfew hline hs hplain) hsw) fun σ F H r D hn hr => by
  obtain ⟨u, hu, a, vs, rfl, hB, hF, hH, hdd⟩ := r.cell i _ hi
  refine ⟨.ref a, hu, .inl ⟨rfl, vs, .inl (.inl hH)⟩, ?_⟩
  refine h σ F H r _ fun v y δ' F' H' e r' d ⟨ys, hi', hz, p⟩ => ?_
  obtain ⟨u', hu', a', vs', rfl, hB', hF', hH', hdd'⟩ := r'.cell i _ hi'
  rw [hu] at hu'
  injection hu' with hu'
  injection hu' with hu'
  injection hu' with hu'
  subst hu'
  refine ⟨a, vs', v, rfl, rfl, hH', Nat.lt_of_lt_of_le (by rw [dpAll_len hdd']; exact hz) (by decide), ?_⟩
  refine hn _ σ F' _ e (r'.write (c2 := .own (ys ++ [y])) hi' rfl hu hB' hF' rfl ⟨a, vs' ++ [v], rfl, hB', hF', upd_same, ?_⟩) p
  exact dpAll_app hdd' (.cons d .nil)
end
end DL
set_option maxHeartbeats 200000
set_option Elab.async false
set_option linter.all false
set_option maxRecDepth 100000
namespace DL
open PySem PySem.Spec PyProof.Rows L2
/-- J walks the things xs -/
structure Wk (w : World) (K : PySem.W.Frag) (J : It) (xs : List PyData) (F : Hp) : Prop where
  stop : ∀ (B : Bs) i δ σ F' H, B.w = w → B.K = K → Same F F' → Rep B δ σ F' H → xs.length ≤ i → J.stop i H
  go : ∀ (B : Bs) i δ σ F' H, B.w = w → B.K = K → Same F F' → Rep B δ σ F' H → i < xs.length → J.go i H
  yld : ∀ (B : Bs) i δ σ F' H v H' y, B.w = w → B.K = K → Same F F' → Rep B δ σ F' H → xs[i]? = some y → J.yld i H v H' →
    ∃ F2, Same F' F2 ∧ Rep B δ σ F2 H' ∧ Same H H' ∧ (∀ b, F' b = none → H b ≠ none → F2 b = none) ∧ Dq K F2 v y
structure WkB (B : Bs) (J : It) (xs : List PyData) (F : Hp) : Prop where
  stop : ∀ i δ σ F' H, Same F F' → Rep B δ σ F' H → xs.length ≤ i → J.stop i H
  go : ∀ i δ σ F' H, Same F F' → Rep B δ σ F' H → i < xs.length → J.go i H
  yld : ∀ i δ σ F' H v H' y, Same F F' → Rep B δ σ F' H → xs[i]? = some y → J.yld i H v H' →
    ∃ F2, Same F' F2 ∧ Rep B δ σ F2 H' ∧ Same H H' ∧ (∀ b, F' b = none → H b ≠ none → F2 b = none) ∧ Dq B.K F2 v y
theorem Wk.at {B : Bs} {J : It} {xs : List PyData} {F : Hp} (w : Wk B.w B.K J xs F) : WkB B J xs F :=
  ⟨fun i δ σ F' H e r h => w.stop B i δ σ F' H rfl rfl e r h, fun i δ σ F' H e r h => w.go B i δ σ F' H rfl rfl e r h, fun i δ σ F' H v H' y e r h hy => w.yld B i δ σ F' H v H' y rfl rfl e r h hy⟩
def WI (B : Bs) (wi : TI) (δ : St') (Ψ : List PyData → St' → Prop) : Prop := ∀ σ F H, Rep B δ σ F H → ∀ R : It → Hp → Prop, (∀ J xs δ' F' H', Same F F' → Rep B δ' σ F' H' → WkB B J xs F' → Ψ xs δ' → R J H') → wi σ H R
theorem wk_list {w : World} {K : PySem.W.Frag} {a : Addr} {vs : List V} {xs : List PyData} {F : Hp} (hs : SqL K F a vs) (ha : DqAll K F vs xs) : Wk w K (Itl K a) xs F where
  stop := fun B i δ σ F' H _ _ e r h => ⟨vs, (e.trans r.ex).seq hs, by rw [dpAll_len ha]; exact h⟩
  go := fun B i δ σ F' H _ _ e r h => by
    obtain ⟨v, hv, _⟩ := dpAll_get ha (List.getElem?_eq_getElem h)
    exact ⟨vs, v, (e.trans r.ex).seq hs, hv⟩
  yld := fun B i δ σ F' H v H' y _ _ e r h hy => by
    obtain ⟨e1, e2⟩ := hy
    subst e1
    obtain ⟨v', hv, hd⟩ := dpAll_get ha h
    have q := e2 vs ((e.trans r.ex).seq hs)
    rw [hv] at q
    injection q with q
    subst q
    exact ⟨F', Same.refl _, r, Same.refl _, fun b z _ => z, dp_mono e _ _ hd⟩
theorem wk_tup {w : World} {K : PySem.W.Frag} {a : Addr} {vs : List V} {xs : List PyData} {F : Hp} (hs : SqT K F a vs) (ha : DqAll K F vs xs) : Wk w K (Itt K a) xs F where
  stop := fun B i δ σ F' H _ _ e r h => ⟨vs, seqT (e.trans r.ex) hs, by rw [dpAll_len ha]; exact h⟩
  go := fun B i δ σ F' H _ _ e r h => by
    obtain ⟨v, hv, _⟩ := dpAll_get ha (List.getElem?_eq_getElem h)
    exact ⟨vs, v, seqT (e.trans r.ex) hs, hv⟩
  yld := fun B i δ σ F' H v H' y _ _ e r h hy => by
    obtain ⟨e1, e2⟩ := hy
    subst e1
    obtain ⟨v', hv, hd⟩ := dpAll_get ha h
    have q := e2 vs (seqT (e.trans r.ex) hs)
    rw [hv] at q
    injection q with q
    subst q
    exact ⟨F', Same.refl _, r, Same.refl _, fun b z _ => z, dp_mono e _ _ hd⟩
/-- lo, lo + 1, .. -/
def rng (lo : Int) (n : Nat) : List PyData := (List.range n).map fun i => PyData.int (lo + (i : Nat))
theorem rng_len {lo : Int} {n : Nat} : (rng lo n).length = n := by simp [rng]
theorem rng_get {lo : Int} {n i : Nat} {y : PyData} (h : (rng lo n)[i]? = some y) : i < n ∧ y = .int (lo + (i : Nat)) := by
  have hl : i < n := by
    have := (List.getElem?_eq_some_iff.mp h).1
    rwa [rng_len] at this
  refine ⟨hl, ?_⟩
  simp [rng, hl] at h
  exact h.symm
theorem wk_rng {w : World} {K : PySem.W.Frag} {lo : Int} {n : Nat} {F : Hp} : Wk w K (Itr lo n) (rng lo n) F where
  stop := fun B i δ σ F' H _ _ e r h => by rw [rng_len] at h; exact h
  go := fun B i δ σ F' H _ _ e r h => by rw [rng_len] at h; exact h
  yld := fun B i δ σ F' H v H' y _ _ e r h hy => by
    obtain ⟨e1, e2⟩ := hy
    subst e1 e2
    obtain ⟨_, rfl⟩ := rng_get h
    exact ⟨F', Same.refl _, r, Same.refl _, fun b z _ => z, .int _⟩
/-- a new tuple at each turn -/
theorem Rep.newT {B : Bs} {δ : St'} {σ : List (Option V)} {F H : Hp} (r : Rep B δ σ F H) {T : Addr} (hT : H T = none) {vs : List V} {ds : List PyData} (hd : DqAll B.K F vs ds) : ∃ F2, Same F F2 ∧ Rep B δ σ F2 (upd H T (.tup vs)) ∧ Same H (upd H T (.tup vs)) ∧
    (∀ b, F b = none → H b ≠ none → F2 b = none) ∧ Dq B.K F2 (.ref T) (.tuple ds) := by
  have hF : F T = none := r.ex.free hT
  refine ⟨upd F T (.tup vs), same_upd hF, r.new hT _, same_upd hT, fun b h1 h2 => ?_, .tup (.inl (.inl upd_same)) (dpAll_mono (same_upd hF) _ _ hd) upd_same⟩
  have hb : b ≠ T := fun z => h2 (by rw [z]; exact hT)
  rw [upd_ne hb]
  exact h1
def enumD (xs : List PyData) : List PyData := xs.zipIdx.map fun p => PyData.tuple [.int (p.2 : Nat), p.1]
theorem enum_len {xs : List PyData} : (enumD xs).length = xs.length := by simp [enumD]
theorem enum_get {xs : List PyData} {i : Nat} {y : PyData} (h : (enumD xs)[i]? = some y) : ∃ x, xs[i]? = some x ∧ y = .tuple [.int (i : Nat), x] := by
  simp only [enumD, List.getElem?_map, List.getElem?_zipIdx, Option.map_eq_some_iff] at h
  obtain ⟨p, ⟨x, hx, rfl⟩, rfl⟩ := h
  exact ⟨x, hx, by simp⟩
section
variable {B : Bs} {te : TE} {ta : TA} {δ : St'} {Ψ : List PyData → St' → Prop}
theorem wi_list (h : WE B te δ fun x δ' => ∃ xs, x = .list xs ∧ Ψ xs δ') : WI B (iList B.K te) δ Ψ := fun σ F H r R q => h σ F H r _ fun v x δ' F' H' e r' d ⟨xs, hx, p⟩ => by
  subst hx
  cases d with
  | lst hs ha => exact ⟨_, rfl, ⟨_, r'.ex.seq hs⟩, q _ xs δ' F' H' e r' (Wk.at (wk_list hs ha)) p⟩
theorem wi_tup (h : WE B te δ fun x δ' => ∃ xs, x = .tuple xs ∧ Ψ xs δ') : WI B (iTup B.K te) δ Ψ := fun σ F H r R q => h σ F H r _ fun v x δ' F' H' e r' d ⟨xs, hx, p⟩ => by
  subst hx
  cases d with
  | tup hs ha => exact ⟨_, rfl, ⟨_, seqT r'.ex hs⟩, q _ xs δ' F' H' e r' (Wk.at (wk_tup hs ha)) p⟩
theorem wi_rng1 (h : WA B ta δ fun ds δ' => ∃ j : Int, ds = [.int j] ∧ -(2 ^ 62) ≤ j ∧ j < 2 ^ 62 ∧ Ψ (rng 0 j.toNat) δ') : WI B (iRng1 ta) δ Ψ := fun σ F H r R q => h σ F H r _ fun vs x δ' F' H' e r' d ⟨j, hx, h1, h2, p⟩ => by
  subst hx
  cases d with
  | cons d1 d2 =>
    cases d2
    cases d1
    exact ⟨j, rfl, h1, h2, q _ _ δ' F' H' e r' (Wk.at wk_rng) p⟩
end
def WG (B : Bs) (g : TG) (ix : List Nat) (y : PyData) (δ : St') (K : St' → Prop) : Prop := ∀ σ F H, Rep B δ σ F H → ∀ v, Dq B.K F v y → ∀ Q : List (Option V) → Hp → Prop,
  (∀ δ' σ', Rep B δ' σ' F H → (∀ j, j ∉ ix → σ'[j]? = σ[j]?) → σ'.length = σ.length → K δ' → Q σ' H) → g v σ H Q
def WGs (B : Bs) (g : TGs) (ix : List Nat) (ys : List PyData) (δ : St') (K : St' → Prop) : Prop := ∀ σ F H, Rep B δ σ F H → ∀ vs, DqAll B.K F vs ys → ∀ Q : List (Option V) → Hp → Prop,
  (∀ δ' σ', Rep B δ' σ' F H → (∀ j, j ∉ ix → σ'[j]? = σ[j]?) → σ'.length = σ.length → K δ' → Q σ' H) → g vs σ H Q
section
variable {B : Bs} {δ : St'} {K : St' → Prop} {y : PyData} {ys : List PyData} {ix : List Nat}
theorem wg_name {i : Nat} (p : K (δ.put i (.d y))) (hi : i ∈ ix := by decide) : WG B (gName i) ix y δ K := fun σ F H r v d Q q =>
  q _ _ (r.putD i d) (fun j hj => List.getElem?_set_ne (fun z : i = j => hj (by rw [← z]; exact hi))) (by simp) p
theorem wgs_nil (p : K δ) : WGs B gNil ix [] δ K := fun σ F H r vs d Q q => by
  cases d
  exact ⟨rfl, q δ σ r (fun _ _ => rfl) rfl p⟩
theorem wgs_cons {g : TG} {u : TGs} (h : WG B g ix y δ fun δ' => WGs B u ix ys δ' K) : WGs B (gCons g u) ix (y :: ys) δ K := fun σ F H r vs d Q q => by
  cases d with
  | cons d1 d2 =>
    exact ⟨_, _, rfl, h σ F H r _ d1 _ fun δ' σ' r' h1 h2 p => p σ' F H r' _ d2 Q fun δ2 σ2 r2 k1 k2 p2 => q δ2 σ2 r2 (fun j hj => (k1 j hj).trans (h1 j hj)) (k2.trans h2) p2⟩
theorem wg_tup {n : Nat} {u : TGs} (h : WGs B u ix ys δ K) (hn : ys.length = n := by rfl) : WG B (gTup B.K n u) ix (.tuple ys) δ K := fun σ F H r v d Q q => by
  cases d with
  | tup hs ha => exact ⟨_, _, rfl, seqT r.ex hs, by rw [dpAll_len ha]; exact hn, h σ F H r _ ha Q q⟩
end
section
variable {B : Bs} {wi : TI} {g : TG} {tb : TS} {tt : TT} {δ : St'} {N : St' → Prop} {R : PE1} {ix : List Nat}
theorem ws_for (h : WI B wi δ fun xs δ1 => ∃ I : Nat → St' → Prop, I 0 δ1 ∧ (∀ i y δ2, xs[i]? = some y → I i δ2 → WG B g ix y δ2 fun δ3 => WS B tb δ3 (I (i + 1)) R) ∧ ∀ δ2, I xs.length δ2 → N δ2) : WS B (tFor wi g tb) δ N R := fun σ F H r D hn hr =>
  h σ F H r _ fun J xs δ1 F1 H1 e1 r1 w ⟨I, h0, hs, hd⟩ => by
    refine ⟨fun i m σ' H' => i + m = xs.length ∧ ∃ δ2 F2, Same F1 F2 ∧ Rep B δ2 σ' F2 H' ∧ I i δ2, ⟨xs.length, by simp, δ1, F1, Same.refl _, r1, h0⟩, fun i m σ2 H2 hW => ?_⟩
    obtain ⟨em, δ2, F2, e2, r2, hi⟩ := hW
    by_cases hlt : i < xs.length
    · refine .inr ⟨w.go i δ2 σ2 F2 H2 e2 r2 hlt, fun σ' H' => ∃ δ3 F3, Same F1 F3 ∧ Rep B δ3 σ' F3 H' ∧ I (i + 1) δ3, fun σ' H' q => ⟨m - 1, by omega, by omega, q⟩, fun x H' hy => ?_⟩
      obtain ⟨F3, e3, r3, _, _, d3⟩ := w.yld i δ2 σ2 F2 H2 x H' xs[i] e2 r2 (List.getElem?_eq_getElem hlt) hy
      refine hs i xs[i] δ2 (List.getElem?_eq_getElem hlt) hi σ2 F3 H' r3 x d3 _ fun δ4 σ4 r4 _ _ p4 => ?_
      exact p4 σ4 F3 H' r4 _ (fun δ5 σ5 F5 H5 e5 r5 p5 => ⟨δ5, F5, (e2.trans e3).trans e5, r5, p5⟩) fun v z δ5 σ5 F5 H5 e5 r5 d5 p5 => hr v z δ5 σ5 F5 H5 (((e1.trans e2).trans e3).trans e5) r5 d5 p5
    · have : i = xs.length := by omega
      subst this
      exact .inl ⟨w.stop _ δ2 σ2 F2 H2 e2 r2 (Nat.le_refl _), hn δ2 σ2 F2 H2 (e1.trans e2) r2 (hd δ2 hi)⟩
end
section
variable {B : B0} {X : Cx} {a b c e tg iter : Expr} {es : List Expr} {st : Stmt} {rest body : List Stmt} {δ : St'} {N : St' → Prop} {Φ R : PE1} {pos p2 p3 : Pos} {wi : TI} {g : TG} {ix : List Nat}
theorem ds_for (ix : List Nat) (hi : PI X tg iter wi) (hg : PG X tg g) (h : WI (bs X B) wi δ fun xs δ1 => ∃ I : Nat → St' → Prop, I 0 δ1 ∧ (∀ i y δ2, xs[i]? = some y → I i δ2 → WG (bs X B) g ix y δ2 fun δ3 => DSs B X body δ3 (I (i + 1)) R) ∧ ∀ δ2, I xs.length δ2 → N δ2)
    (hc : X.calm = true := by rfl) (hp : PassesOwn (model X.prog X.w) X.A X.env X.xe := by exact PassesOwn.never) (hs : ∀ x, foldedSetIterable iter X.env x = pure x := by intro _; rfl) : DS B X (.For tg iter body [] pos) δ N R := .of (ps_for hp hc hi hg pss_w hs) (ws_for h)
/-- a, b, .. = e -/
theorem ds_unpack (ix : List Nat) (hg : PG X tg g) (h : DE B X e δ fun d δ' => WG (bs X B) g ix d δ' N) (hs : swapsWithSole [tg] e pos.line X.env = pure false := by rfl) (hw : swappedStores [tg] e X.env = pure none := by rfl)
    (h1 : (assignEach [tg] X.env).map (·.2) = [assign tg X.env] := by rfl) : DS B X (.Assign [tg] e pos) δ N R := .of (ps_asg pe_w hg hs hw h1) fun σ F H r D hn hr =>
  h σ F H r _ fun v x δ' F' H' e r' d p => p σ F' H' r' v d _ fun δ2 σ2 r2 _ _ p2 => hn δ2 σ2 F' H' e r2 p2
/-- the truth of a thing -/
def truD : PyData → Option Bool
  | .none => some false
  | .bool b => some b
  | .int i => some (i != 0)
  | .list xs => some (!xs.isEmpty)
  | .tuple xs => some (!xs.isEmpty)
  | _ => none
theorem isEmpty_dp {K : PySem.W.Frag} {F : Hp} {vs : List V} {ds : List PyData} (h : DqAll K F vs ds) : vs.isEmpty = ds.isEmpty := by
  cases h <;> rfl
end
end DL
set_option maxHeartbeats 200000
set_option Elab.async false
set_option linter.all false
set_option maxRecDepth 100000
namespace DL
open PySem PySem.Spec PyProof.Rows L2
def strip : Option C → Option C
  | some (.own _) => none | some (.dct _) => none | some (.gen _ _ _) => none | some (.iset _) => none | c => c
def inn (vs : List Nat) : Nat → List (Option C) → List (Option C)
  | _, [] => []
  | j, c :: r => (if vs.contains j then none else strip c) :: inn vs (j + 1) r
theorem inn_get {vs : List Nat} : ∀ {s : List (Option C)} {j k : Nat}, (inn vs j s)[k]? = (s[k]?).map fun c => if vs.contains (j + k) then none else strip c
  | [], j, k => by simp [inn]
  | c :: r, j, 0 => by simp [inn]
  | c :: r, j, k + 1 => by
    have := inn_get (vs := vs) (s := r) (j := j + 1) (k := k)
    simp only [inn, List.getElem?_cons_succ, this]
    rw [show j + 1 + k = j + (k + 1) by omega]
theorem inn_len {vs : List Nat} : ∀ {s : List (Option C)} {j : Nat}, (inn vs j s).length = s.length
  | [], j => rfl
  | c :: r, j => by simp [inn, inn_len]
theorem wipe_out {σ : List (Option V)} {j : Nat} : ∀ {vs : List Nat}, j ∉ vs → (wipe σ vs)[j]? = σ[j]?
  | [], _ => rfl
  | v :: vs, h => by
    unfold wipe
    rw [List.getElem?_set_ne (fun z => h (by simp [z]))]
    exact wipe_out fun z => h (List.mem_cons_of_mem _ z)
theorem wipe_in {σ : List (Option V)} {j : Nat} : ∀ {vs : List Nat}, j ∈ vs → j < σ.length → (wipe σ vs)[j]? = some none
  | [], h, _ => by simp at h
  | v :: vs, h, hl => by
    unfold wipe
    by_cases e : v = j
    · subst e
      rw [List.getElem?_set, if_pos rfl, if_pos (by rw [wipe_length]; exact hl)]
    · rw [List.getElem?_set_ne e]
      rcases List.mem_cons.mp h with z | z
      · exact absurd z.symm e
      · exact wipe_in z hl
theorem wipe_same {σ σ' : List (Option V)} {vs : List Nat} (h : ∀ j, j ∉ vs → σ'[j]? = (wipe σ vs)[j]?) (hl : σ'.length = (wipe σ vs).length) : wipe σ' vs = wipe σ vs := by
  apply List.ext_getElem?
  intro j
  by_cases e : j ∈ vs
  · by_cases hj : j < σ.length
    · rw [wipe_in e (by rw [hl, wipe_length]; exact hj), wipe_in e hj]
    · rw [List.getElem?_eq_none (by rw [wipe_length, hl, wipe_length]; omega), List.getElem?_eq_none (by rw [wipe_length]; omega)]
  · rw [wipe_out e, h j e, wipe_out e]
/-- within a call, a block: all that stands is kept -/
theorem Rep.inner {B : Bs} {δ : St'} {σ : List (Option V)} {F H : Hp} (r : Rep B δ σ F H) (vs : List Nat) : Rep ⟨⟨F, H, B.p, B.m⟩, B.w, B.K⟩ ⟨δ.n, inn vs 0 δ.s⟩ (wipe σ vs) F H := by
  refine ⟨r.ex, Same.refl _, fun b h1 _ => h1, fun b o h _ => h, fun a h => ⟨r.potF h, ?_, (r.pot a h).2.2⟩, fun i c h => ?_, ?_, fun i j c c' hij h1 h2 o1 o2 => ?_⟩
  · obtain ⟨_, _, x, y, z, h3, _⟩ := r.pot a h
    show H a ≠ none
    rw [h3]; exact fun z => by cases z
  · have h' : (inn vs 0 δ.s)[i]? = some (some c) := h
    rw [inn_get] at h'
    rw [Option.map_eq_some_iff] at h'
    obtain ⟨c0, h0, h1⟩ := h'
    by_cases hv : vs.contains (0 + i)
    · rw [if_pos hv] at h1; cases h1
    · rw [if_neg hv] at h1
      have hni : i ∉ vs := fun z => hv (by rw [Nat.zero_add]; exact List.contains_iff_mem.mpr z)
      rcases c0 with _ | c0
      · cases h1
      · cases c0 with
        | own _ => cases h1
        | dct _ => cases h1
        | gen pa mk _ => cases h1
        | iset _ => cases h1
        | d x =>
          injection h1 with h1
          subst h1
          obtain ⟨v, hv, hc⟩ := r.cell i _ h0
          exact ⟨v, by rw [wipe_out hni]; exact hv, hc⟩
        | pot =>
          injection h1 with h1
          subst h1
          obtain ⟨v, hv, hc⟩ := r.cell i _ h0
          exact ⟨v, by rw [wipe_out hni]; exact hv, hc⟩
        | bor =>
          injection h1 with h1
          subst h1
          obtain ⟨v, hv, hc⟩ := r.cell i _ h0
          exact ⟨v, by rw [wipe_out hni]; exact hv, hc⟩
  · rw [wipe_length, inn_len]; exact r.len
  · have h' : (inn vs 0 δ.s)[i]? = some (some c) := h1
    rw [inn_get, Option.map_eq_some_iff] at h'
    obtain ⟨c0, _, e⟩ := h'
    by_cases hv : vs.contains (0 + i)
    · rw [if_pos hv] at e; cases e
    · rw [if_neg hv] at e
      rcases c0 with _ | c0
      · cases e
      · cases c0 <;> simp [strip] at e <;> (subst e; cases o1)
/-- .. and behind it -/
theorem Rep.outer {B : Bs} {δ δ' : St'} {σ σ' : List (Option V)} {F H F' H' : Hp} (r : Rep B δ σ F H) (r' : Rep ⟨⟨F, H, B.p, B.m⟩, B.w, B.K⟩ δ' σ' F' H') : Rep B ⟨δ'.n, δ.s⟩ σ F' H' := by
  have hp : ∀ {b : Addr} {o : HO}, B.H b = some o → H b ≠ none := fun {b o} h => by
    by_cases e : B.p = some b
    · obtain ⟨_, _, x, y, z, h3, _⟩ := r.pot b e
      rw [h3]; exact fun z => by cases z
    · rw [r.kp b o h e]; exact fun z => by cases z
  refine ⟨r'.ex, r.f0.trans r'.f0, fun b h1 h2 => ?_, fun b o h1 h2 => r'.kp b o (r.kp b o h1 h2) h2, fun a h => ⟨(r.pot a h).1, (r.pot a h).2.1, (r'.pot a h).2.2⟩, fun i c h => ?_, r.len, r.ap⟩
  · cases q : B.H b with
    | none => exact absurd q h2
    | some o => exact r'.fr b (r.fr b h1 h2) (hp q)
  · obtain ⟨v, hv, hc⟩ := r.cell i c h
    refine ⟨v, hv, ?_⟩
    have keep : ∀ {a : Addr} {o : HO}, B.H a = none → H a = some o → H' a = some o := fun {a o} h1 h2 => r'.kp a o h2 fun z => (r.pot a z).2.1 h1
    cases c with
    | d x => exact dp_mono r'.f0 _ _ hc
    | own xs =>
      obtain ⟨a, vs, e, h1, h2, h3, h4⟩ := hc
      exact ⟨a, vs, e, h1, r'.fr a h2 (by show H a ≠ none; rw [h3]; exact fun z => by cases z), keep h1 h3, dpAll_mono r'.f0 _ _ h4⟩
    | dct kvs =>
      obtain ⟨a, vs, e, h1, h2, h3, h4⟩ := hc
      exact ⟨a, vs, e, h1, r'.fr a h2 (by show H a ≠ none; rw [h3]; exact fun z => by cases z), keep h1 h3, dpAll_mono r'.f0 _ _ h4⟩
    | gen pa mk kvs =>
      obtain ⟨a, vs, e, h1, h2, h3, h4, h5⟩ := hc
      exact ⟨a, vs, e, h1, r'.fr a h2 (by show H a ≠ none; rw [h3]; exact fun z => by cases z), keep h1 h3, h4, dpAll_mono r'.f0 _ _ h5⟩
    | iset ns =>
      obtain ⟨a, e, h1, h2, h3⟩ := hc
      exact ⟨a, e, h1, r'.fr a h2 (by show H a ≠ none; rw [h3]; exact fun z => by cases z), keep h1 h3⟩
    | pot => exact hc
    | bor => exact hc
theorem Rep.fresh {B : Bs} {δ : St'} {σ : List (Option V)} {F H : Hp} (r : Rep B δ σ F H) {a : Addr} (h : H a = none) : B.H a = none ∧ F a = none ∧ B.p ≠ some a ∧ ∀ (i : Nat) (c : C), δ.s[i]? = some (some c) → own? c = true → σ[i]? ≠ some (some (.ref a)) := by
  have hB : B.p ≠ some a := fun z => by
    obtain ⟨_, _, _, _, _, h3, _⟩ := r.pot a z
    rw [h] at h3; cases h3
  refine ⟨?_, r.ex.free h, hB, fun i c hi ho hs => ?_⟩
  · cases e : B.H a with
    | none => rfl
    | some o => rw [r.kp a o e hB] at h; cases h
  · obtain ⟨v, hv, hc⟩ := r.cell i c hi
    rw [hv] at hs
    cases hs
    cases c with
    | d x => cases ho
    | pot => cases ho
    | bor => cases ho
    | own xs =>
      obtain ⟨b, vs, e, _, _, h3, _⟩ := hc
      cases e
      rw [h] at h3; cases h3
    | dct kvs =>
      obtain ⟨b, vs, e, _, _, h3, _⟩ := hc
      cases e
      rw [h] at h3; cases h3
    | gen pa mk kvs =>
      obtain ⟨b, vs, e, _, _, h3, _⟩ := hc
      cases e
      rw [h] at h3; cases h3
    | iset ns =>
      obtain ⟨b, e, _, _, h3⟩ := hc
      cases e
      rw [h] at h3; cases h3
/-- an object that nobody tells of changes, or comes -/
theorem Rep.side {B : Bs} {δ : St'} {σ : List (Option V)} {F H : Hp} (r : Rep B δ σ F H) {a : Addr} {o : HO} (hF : F a = none) (hB : B.H a = none) (hap : ∀ (i : Nat) (c : C), δ.s[i]? = some (some c) → own? c = true → σ[i]? ≠ some (some (.ref a))) : Rep B δ σ F (upd H a o) := by
  refine ⟨fun b u h => ?_, r.f0, r.fr, fun b u h1 h2 => ?_, fun p h => ?_, fun i c h => ?_, r.len, r.ap⟩
  · have hb : b ≠ a := fun z => by rw [z, hF] at h; cases h
    rw [upd_ne hb]; exact r.ex b u h
  · have hb : b ≠ a := fun z => by rw [z, hB] at h1; cases h1
    rw [upd_ne hb]; exact r.kp b u h1 h2
  · obtain ⟨h1, h2, x, y, z, h3, h4⟩ := r.pot p h
    have hb : p ≠ a := fun q => h2 (by rw [q]; exact hB)
    exact ⟨h1, h2, x, y, z, by rw [upd_ne hb]; exact h3, h4⟩
  · obtain ⟨v, hv, hc⟩ := r.cell i c h
    refine ⟨v, hv, ?_⟩
    cases c with
    | d x => exact hc
    | own xs =>
      obtain ⟨b, vs, e, h1, h2, h3, h4⟩ := hc
      subst e
      have hb : b ≠ a := fun q => hap i _ h rfl (by rw [hv, q])
      exact ⟨b, vs, rfl, h1, h2, by rw [upd_ne hb]; exact h3, h4⟩
    | dct kvs =>
      obtain ⟨b, vs, e, h1, h2, h3, h4⟩ := hc
      subst e
      have hb : b ≠ a := fun q => hap i _ h rfl (by rw [hv, q])
      exact ⟨b, vs, rfl, h1, h2, by rw [upd_ne hb]; exact h3, h4⟩
    | gen pa mk kvs =>
      obtain ⟨b, vs, e, h1, h2, h3, h4, h5⟩ := hc
      subst e
      have hb : b ≠ a := fun q => hap i _ h rfl (by rw [hv, q])
      exact ⟨b, vs, rfl, h1, h2, by rw [upd_ne hb]; exact h3, h4, h5⟩
    | iset ns =>
      obtain ⟨b, e, h1, h2, h3⟩ := hc
      subst e
      have hb : b ≠ a := fun q => hap i _ h rfl (by rw [hv, q])
      exact ⟨b, rfl, h1, h2, by rw [upd_ne hb]; exact h3⟩
    | pot => exact hc
    | bor => exact hc
/-- what a block's begin knows of the begin outside -/
def Sub (B B' : B0) : Prop := B'.p = B.p ∧ Same B.F B'.F ∧ (∀ b, B.F b = none → B.H b ≠ none → B'.F b = none) ∧ ∀ b o, B.H b = some o → B.p ≠ some b → B'.H b = some o
theorem wl_lc {B : Bs} {wi : TI} {g : TG} {tt : TT} {te : TE} {vs ix : List Nat} {δ : St'} {Φ : List PyData → St' → Prop} (hix : ∀ j ∈ ix, j ∈ vs)
    (h : WI B wi δ fun xs δ1 => xs.length ≤ 100000 ∧ ∃ I : Nat → List PyData → Nat → Prop, I 0 [] δ1.n ∧
      (∀ (B' : B0) i y acc n, Sub B.toB0 B' → xs[i]? = some y → acc.length ≤ i → I i acc n → WG ⟨B', B.w, B.K⟩ g ix y ⟨n, inn vs 0 δ1.s⟩ fun δ2 => WT ⟨B', B.w, B.K⟩ tt δ2 fun b δ3 =>
        if b = true then WE ⟨B', B.w, B.K⟩ te δ3 fun z δ4 => I (i + 1) (acc ++ [z]) δ4.n else I (i + 1) acc δ3.n) ∧
      ∀ acc n, acc.length ≤ xs.length → I xs.length acc n → Φ acc ⟨n, δ1.s⟩) : WL B (tLc wi g tt te vs) δ Φ := fun σ F H r Q q =>
  h σ F H r _ fun J xs δ1 F1 H1 e1 r1 w ⟨hz, I, h0, hs, hd⟩ D hD => by
    obtain ⟨hB, hF, hp, hap⟩ := r1.fresh hD
    refine ⟨fun i m H2 => i + m = xs.length ∧ ∃ acc n F2 us, Same F1 F2 ∧ Rep B ⟨n, δ1.s⟩ σ F2 H2 ∧ H2 D = some (.lst us) ∧ F2 D = none ∧ DqAll B.K F2 us acc ∧ acc.length ≤ i ∧ I i acc n,
      ⟨xs.length, by simp, [], δ1.n, F1, [], Same.refl _, r1.side hF hB hap, upd_same, hF, .nil, Nat.le_refl _, h0⟩, fun i m H2 hW => ?_⟩
    obtain ⟨em, acc, n, F2, us, e2, r2, hD2, hF2, hus, hl, hi⟩ := hW
    by_cases hlt : i < xs.length
    · refine .inr ⟨w.go i _ σ F2 H2 e2 r2 hlt, fun H' => ∃ acc n F3 us, Same F1 F3 ∧ Rep B ⟨n, δ1.s⟩ σ F3 H' ∧ H' D = some (.lst us) ∧ F3 D = none ∧ DqAll B.K F3 us acc ∧ acc.length ≤ i + 1 ∧ I (i + 1) acc n, fun H' p => ⟨m - 1, by omega, by omega, p⟩, fun x H' hy => ?_⟩
      obtain ⟨F3, e3, r3, s3, f3, d3⟩ := w.yld i _ σ F2 H2 x H' xs[i] e2 r2 (List.getElem?_eq_getElem hlt) hy
      have hD3 : H' D = some (.lst us) := s3 _ _ hD2
      have hF3 : F3 D = none := f3 D hF2 (by rw [hD2]; exact fun z => by cases z)
      have ri := r3.inner vs
      refine hs ⟨F3, H', B.p, B.m⟩ i xs[i] acc n ⟨rfl, r3.f0, r3.fr, r3.kp⟩ (List.getElem?_eq_getElem hlt) hl hi (wipe σ vs) F3 H' ri x d3 _ fun δ2 σ2 r4 k1 k2 p4 => ?_
      refine ⟨wipe_same (fun j hj => k1 j fun z => hj (hix j z)) k2, ?_⟩
      refine p4 σ2 F3 H' r4 _ fun b δ3 F5 H5 e5 r5 p5 => ?_
      have fin : ∀ {δ6 : St'} {F6 H6 : Hp}, Same F3 F6 → Rep ⟨⟨F3, H', B.p, B.m⟩, B.w, B.K⟩ δ6 σ2 F6 H6 → Rep B ⟨δ6.n, δ1.s⟩ σ F6 H6 ∧ H6 D = some (.lst us) ∧ F6 D = none := fun {δ6 F6 H6} e6 r6 =>
        ⟨r3.outer r6, r6.kp D _ hD3 hp, r6.fr D hF3 (by show H' D ≠ none; rw [hD3]; exact fun z => by cases z)⟩
      cases b with
      | true =>
        refine iteT ((show WE _ te δ3 _ from p5) σ2 F5 H5 r5 _ fun v z δ6 F6 H6 e6 r6 d6 p6 => ?_)
        obtain ⟨q1, q2, q3⟩ := fin (e5.trans e6) r6
        refine ⟨us, q2, Nat.lt_of_lt_of_le (Nat.lt_of_le_of_lt (by rw [dpAll_len hus]; exact hl) hlt) (Nat.le_trans hz (by decide)), acc ++ [z], δ6.n, F6, us ++ [v], ((e2.trans e3).trans e5).trans e6, q1.side q3 hB hap, upd_same, q3, dpAll_app (dpAll_mono ((e3.trans e5).trans e6) _ _ hus) (.cons d6 .nil), by simp; omega, p6⟩
      | false =>
        obtain ⟨q1, q2, q3⟩ := fin e5 r5
        exact iteF ⟨acc, δ3.n, F5, us, (e2.trans e3).trans e5, q1, q2, q3, dpAll_mono (e3.trans e5) _ _ hus, by omega, p5⟩
    · have : i = xs.length := by omega
      subst this
      exact .inl ⟨w.stop _ _ σ F2 H2 e2 r2 (Nat.le_refl _), q D us acc ⟨n, δ1.s⟩ F2 H2 (e1.trans e2) r2 hB hF2 hD2 hap hus (hd acc n hl hi)⟩
/-- within a comprehension's block -/
def bE (X : Cx) (scope : Scope) (e : Expr) : TE := fun σ H Q => ∀ s0 H0 C cl fp, wE (X.blk s0 H0 scope (compEnvC scope cl C X.env) fp) e σ H Q
def bT (X : Cx) (scope : Scope) (e : Expr) : TT := fun σ H Q => ∀ s0 H0 C cl fp, wT (X.blk s0 H0 scope (compEnvC scope cl C X.env) fp) e σ H Q
theorem bE_of {B : B0} {X : Cx} {scope : Scope} {e : Expr} {δ : St'} {Φ : PE1} (h : ∀ s0 H0 C cl fp, DE B (X.blk s0 H0 scope (compEnvC scope cl C X.env) fp) e δ Φ) : WE (bs X B) (bE X scope e) δ Φ := fun σ F H r Q q s0 H0 C cl fp => h s0 H0 C cl fp σ F H r Q q
theorem bT_of {B : B0} {X : Cx} {scope : Scope} {e : Expr} {δ : St'} {Φ : Bool → St' → Prop} (h : ∀ s0 H0 C cl fp, DT B (X.blk s0 H0 scope (compEnvC scope cl C X.env) fp) e δ Φ) : WT (bs X B) (bT X scope e) δ Φ := fun σ F H r Q q s0 H0 C cl fp => h s0 H0 C cl fp σ F H r Q q
theorem tYes_of {B : Bs} {δ : St'} {Φ : Bool → St' → Prop} (h : Φ true δ) : WT B tYes δ Φ := fun σ F H r Q q => q true δ F H (Same.refl F) r h
section
variable {B : B0} {X : Cx} {elt cnd tg iter : Expr} {scope : Scope} {own : List (Str × Nat)} {δ : St'} {Φ : List PyData → St' → Prop} {pos : Pos} {wi : TI} {g : TG}
/-- [elt for tg in iter] -/
theorem dl_lc (own : List (Str × Nat)) (hN : X.N.Nodup) (hi : PI X tg iter wi) (ok : BlkOk X.N X.env.scope scope own)
    (hg : ∀ (s : Shared) (H : Hp) (C : Addr) (cl : List (Str × Addr)) (fp : List Addr), PG (X.blk s H scope (compEnvC scope cl C X.env) fp) tg g)
    (h : WI (bs X B) wi δ fun xs δ1 => xs.length ≤ 100000 ∧ ∃ I : Nat → List PyData → Nat → Prop, I 0 [] δ1.n ∧
      (∀ (B' : B0) i y acc n, Sub B B' → xs[i]? = some y → acc.length ≤ i → I i acc n → WG (bs X B') g (own.map (·.2)) y ⟨n, inn (own.map (·.2)) 0 δ1.s⟩ fun δ2 =>
        ∀ s0 H0 C cl fp, DE B' (X.blk s0 H0 scope (compEnvC scope cl C X.env) fp) elt δ2 fun z δ4 => I (i + 1) (acc ++ [z]) δ4.n) ∧
      ∀ acc n, acc.length ≤ xs.length → I xs.length acc n → Φ acc ⟨n, δ1.s⟩) (hc : X.calm = true := by rfl) (hs : ∀ x, foldedSetIterable iter X.env x = pure x := by intro _; rfl) : DLs B X (.ListComp elt [⟨tg, iter, [], 0⟩] scope pos) δ Φ :=
  .of (pe_lc (te := bE X scope elt) hc hN hi ok hg (fun _ _ _ _ _ => pts_nil) (fun s H C cl fp => ⟨fun pins s' σ H' Q I h => h s H C cl fp pins s' I⟩) hs) (wl_lc (fun _ z => z) fun σ F H r R q => h σ F H r R fun J xs δ' F' H' e r' w ⟨hz, I, h0, h1, h2⟩ =>
    q J xs δ' F' H' e r' w ⟨hz, I, h0, fun B' i y acc n hp hy hl hi σ F H r v d Q qq => h1 B' i y acc n hp hy hl hi σ F H r v d Q fun δ2 σ2 r2 k1 k2 p => qq δ2 σ2 r2 k1 k2 (tYes_of (by
      rw [if_pos rfl]
      exact bE_of p)), h2⟩)
/-- [elt for tg in iter if cnd] -/
theorem dl_lcIf (own : List (Str × Nat)) (hN : X.N.Nodup) (hi : PI X tg iter wi) (ok : BlkOk X.N X.env.scope scope own)
    (hg : ∀ (s : Shared) (H : Hp) (C : Addr) (cl : List (Str × Addr)) (fp : List Addr), PG (X.blk s H scope (compEnvC scope cl C X.env) fp) tg g)
    (h : WI (bs X B) wi δ fun xs δ1 => xs.length ≤ 100000 ∧ ∃ I : Nat → List PyData → Nat → Prop, I 0 [] δ1.n ∧
      (∀ (B' : B0) i y acc n, Sub B B' → xs[i]? = some y → acc.length ≤ i → I i acc n → WG (bs X B') g (own.map (·.2)) y ⟨n, inn (own.map (·.2)) 0 δ1.s⟩ fun δ2 =>
        ∀ s0 H0 C cl fp, DT B' (X.blk s0 H0 scope (compEnvC scope cl C X.env) fp) cnd δ2 fun b δ3 => if b = true then ∀ s0 H0 C cl fp, DE B' (X.blk s0 H0 scope (compEnvC scope cl C X.env) fp) elt δ3 fun z δ4 => I (i + 1) (acc ++ [z]) δ4.n else I (i + 1) acc δ3.n) ∧
      ∀ acc n, acc.length ≤ xs.length → I xs.length acc n → Φ acc ⟨n, δ1.s⟩) (hc : X.calm = true := by rfl) (hs : ∀ x, foldedSetIterable iter X.env x = pure x := by intro _; rfl) : DLs B X (.ListComp elt [⟨tg, iter, [cnd], 0⟩] scope pos) δ Φ :=
  .of (pe_lc (te := bE X scope elt) hc hN hi ok hg (fun s H C cl fp => pts_one (t := bT X scope cnd) ⟨fun pins s' σ H' Q I h => h s H C cl fp pins s' I⟩) (fun s H C cl fp => ⟨fun pins s' σ H' Q I h => h s H C cl fp pins s' I⟩) hs) (wl_lc (fun _ z => z) fun σ F H r R q => h σ F H r R fun J xs δ' F' H' e r' w ⟨hz, I, h0, h1, h2⟩ =>
    q J xs δ' F' H' e r' w ⟨hz, I, h0, fun B' i y acc n hp hy hl hi σ F H r v d Q qq => h1 B' i y acc n hp hy hl hi σ F H r v d Q fun δ2 σ2 r2 k1 k2 p => qq δ2 σ2 r2 k1 k2 (WT.mono (bT_of p) fun b δ3 pb => by
      cases b with
      | true =>
        rw [if_pos rfl] at pb ⊢
        exact bE_of pb
      | false =>
        rw [if_neg Bool.false_ne_true] at pb ⊢
        exact pb), h2⟩)
end
end DL
set_option maxHeartbeats 200000
set_option Elab.async false
set_option linter.all false
set_option maxRecDepth 100000
namespace DL
open PySem PySem.Spec PyProof.Rows L2
/-- a def without a pot: from these things to something of which Φ holds -/
abbrev SpD := List PyData → (PyData → Prop) → Prop
/-- a def that is handed the pot ahead -/
abbrev SpP := Nat → List PyData → (PyData → Nat → Prop) → Prop
def spD (K : PySem.W.Frag) (S : SpD) : Sp := fun vs H Q _ => ∃ F ds Φ, Same F H ∧ DqAll K F vs ds ∧ S ds Φ ∧
  ∀ v x F' H', Same F F' → Same F' H' → (∀ b, F b = none → H b ≠ none → F' b = none) → (∀ b o, H b = some o → H' b = some o) → Dq K F' v x → Φ x → Q v H'
def spP (K : PySem.W.Frag) (S : SpP) : Sp := fun vs H Q _ => ∃ F p vs' ds n Φ, vs = .ref p :: vs' ∧ Same F H ∧ F p = none ∧ PotAt none H p n ∧ DqAll K F vs' ds ∧ S n ds Φ ∧
  ∀ v x n' F' H', Same F F' → Same F' H' → (∀ b, F b = none → H b ≠ none → F' b = none) → (∀ b o, H b = some o → b ≠ p → H' b = some o) → PotAt none H' p n' → Dq K F' v x → Φ x n' → Q v H'
/-- the state at a def's begin -/
def ini (N : List Str) (cs : List C) (n : Nat) : St' := ⟨n, cs.map some ++ List.replicate (N.length - cs.length) none⟩
theorem start_get {N : List Str} {vs : List V} {cs : List C} {i : Nat} {c : C} (hl : vs.length = cs.length) (h : (ini N cs n).s[i]? = some (some c)) : ∃ v, (L2.start N vs)[i]? = some (some v) ∧ vs[i]? = some v ∧ cs[i]? = some c := by
  have h' : (cs.map some ++ List.replicate (N.length - cs.length) none)[i]? = some (some c) := h
  by_cases hi : i < cs.length
  · rw [List.getElem?_append_left (by simpa using hi), List.getElem?_map, Option.map_eq_some_iff] at h'
    obtain ⟨c', h1, h2⟩ := h'
    injection h2 with h2
    subst h2
    have hv : i < vs.length := by omega
    refine ⟨vs[i], ?_, List.getElem?_eq_getElem hv, h1⟩
    unfold L2.start
    rw [List.getElem?_append_left (by simpa using hv), List.getElem?_map, List.getElem?_eq_getElem hv]
    rfl
  · rw [List.getElem?_append_right (by simpa using hi), List.getElem?_replicate] at h'
    split at h' <;> cases h'
theorem start_len {N : List Str} {vs : List V} {cs : List C} {n : Nat} (hl : vs.length = cs.length) : (L2.start N vs).length = (ini N cs n).s.length := by
  simp [L2.start, ini, hl]
section
variable {K : PySem.W.Frag} {w : World}
theorem rep_iniD {N : List Str} {F H : Hp} {vs : List V} {ds : List PyData} (e : Same F H) (h : DqAll K F vs ds) : Rep ⟨⟨F, H, none, none⟩, w, K⟩ (ini N (ds.map C.d) 0) (L2.start N vs) F H := by
  have hl : vs.length = (ds.map C.d).length := by rw [dpAll_len h]; simp
  refine ⟨e, Same.refl _, fun b z _ => z, fun b o z _ => z, fun a z => (by cases z), fun i c hi => ?_, start_len hl, fun i j c c' hij h1 h2 o1 o2 => ?_⟩
  · obtain ⟨v, h1, h2, h3⟩ := start_get hl hi
    rw [List.getElem?_map, Option.map_eq_some_iff] at h3
    obtain ⟨d, h4, h5⟩ := h3
    subst h5
    obtain ⟨v', q1, q2⟩ := dpAll_get h h4
    rw [h2] at q1
    injection q1 with q1
    subst q1
    exact ⟨v, h1, q2⟩
  · obtain ⟨v, _, _, q⟩ := start_get hl h1
    rw [List.getElem?_map, Option.map_eq_some_iff] at q
    obtain ⟨d, _, e⟩ := q
    subst e
    cases o1
theorem rep_iniP {N : List Str} {F H : Hp} {p : Addr} {vs : List V} {ds : List PyData} {n : Nat} (e : Same F H) (hp : F p = none) (pot : PotAt none H p n) (h : DqAll K F vs ds) : Rep ⟨⟨F, H, some p, none⟩, w, K⟩ (ini N (.pot :: ds.map C.d) n) (L2.start N (.ref p :: vs)) F H := by
  have hl : (V.ref p :: vs).length = (C.pot :: ds.map C.d).length := by simp [dpAll_len h]
  have hc : ∀ {i : Nat} {c : C}, (C.pot :: ds.map C.d)[i]? = some c → (i = 0 ∧ c = .pot) ∨ ∃ j d, i = j + 1 ∧ ds[j]? = some d ∧ c = .d d := fun {i c} z => by
    cases i with
    | zero => simp at z; exact .inl ⟨rfl, z.symm⟩
    | succ j =>
      simp only [List.getElem?_cons_succ, List.getElem?_map, Option.map_eq_some_iff] at z
      obtain ⟨d, h1, h2⟩ := z
      exact .inr ⟨j, d, rfl, h1, h2.symm⟩
  refine ⟨e, Same.refl _, fun b z _ => z, fun b o z _ => z, fun a z => ?_, fun i c hi => ?_, start_len hl, fun i j c c' hij h1 h2 o1 o2 => ?_⟩
  · injection z with z
    subst z
    refine ⟨hp, ?_, pot⟩
    obtain ⟨x, y, z, h3, _⟩ := pot
    show H p ≠ none
    rw [h3]; exact fun q => by cases q
  · obtain ⟨v, h1, h2, h3⟩ := start_get hl hi
    rcases hc h3 with ⟨rfl, rfl⟩ | ⟨j, d, rfl, h4, rfl⟩
    · simp at h2
      subst h2
      exact ⟨_, h1, p, rfl, rfl, rfl⟩
    · obtain ⟨v', q1, q2⟩ := dpAll_get h h4
      rw [List.getElem?_cons_succ, q1] at h2
      injection h2 with h2
      subst h2
      exact ⟨_, h1, q2⟩
  · obtain ⟨v, _, _, q⟩ := start_get hl h1
    rcases hc q with ⟨_, rfl⟩ | ⟨_, _, _, _, rfl⟩ <;> cases o1
end
abbrev bodyX (P : Program) (w : World) (K : PySem.W.Frag) (mg : Str → Option Value) (base : Heap) (N : List Str) (qual : Str) (sc : Scope) (f : Addr) (cdv : Value) (A : Around) (outer : List Env) (s : Shared) (H : Hp) (E : XK) : Cx := (cxOf CX0 P w K mg base N qual sc f cdv A outer s H E).nox
section
variable {P : Program} {w : World} {K : PySem.W.Frag} {mg : Str → Option Value} {base : Heap} {x qual : Str} {st : Stmt} {f : Addr} {fd : FuncData} {N ps : List Str} {k : Nat}
theorem fnD {S : SpD} {dvs : List V} {kws : List (Str × V)} (F : FunD K x qual (defArgs st) (defBody st) (defScope st) dvs kws f fd) (sc : FnScope N ps (defScope st)) (len : ∀ ds Φ, S ds Φ → ds.length = ps.length)
    (body : ∀ (B : B0) (cdv : Value) (A : Around) (outer : List Env) (s : Shared) (H : Hp) (E : XK) (ds : List PyData) (Φ : PyData → Prop), Room k (A.deeper (envOfC qual (defScope st) s.heap.objs.size f cdv)) → B.p = none → S ds Φ →
      DSs B (bodyX P w K mg base N qual (defScope st) f cdv A outer s H E) (defBody st) (ini N (ds.map C.d) 0) (fun _ => Φ .none) fun x _ => Φ x) : FnOk P w K mg base CX0 (k + 1) f fd ps (spD K S) := by
  refine F.ok sc (fun vs H Q E h => ?_) (fun cdv A outer s H vs Q E hr h => ?_)
  · obtain ⟨F', ds, Φ, _, hd, hS, _⟩ := h
    rw [dpAll_len hd]; exact len ds Φ hS
  · obtain ⟨F', ds, Φ, e, hd, hS, q⟩ := h
    refine ⟨_, PSs.nox pss_w, ?_⟩
    refine body ⟨F', H, none, none⟩ cdv A outer s H E ds Φ hr rfl hS (L2.start N vs) F' H (rep_iniD e hd) _ (fun δ' σ' F2 H2 e2 r2 p => ?_) fun v x δ' σ' F2 H2 e2 r2 d2 p => ?_
    · exact q .non .none F2 H2 e2 r2.ex r2.fr (fun b o z => r2.kp b o z (fun y => by cases y)) .non p
    · exact q v x F2 H2 e2 r2.ex r2.fr (fun b o z => r2.kp b o z (fun y => by cases y)) d2 p
theorem fnP {S : SpP} {dvs : List V} {kws : List (Str × V)} (F : FunD K x qual (defArgs st) (defBody st) (defScope st) dvs kws f fd) (sc : FnScope N ps (defScope st)) (len : ∀ n ds Φ, S n ds Φ → ds.length + 1 = ps.length)
    (body : ∀ (B : B0) (cdv : Value) (A : Around) (outer : List Env) (s : Shared) (H : Hp) (E : XK) (n : Nat) (ds : List PyData) (Φ : PyData → Nat → Prop), Room k (A.deeper (envOfC qual (defScope st) s.heap.objs.size f cdv)) → B.p ≠ none → S n ds Φ →
      DSs B (bodyX P w K mg base N qual (defScope st) f cdv A outer s H E) (defBody st) (ini N (.pot :: ds.map C.d) n) (fun δ => Φ .none δ.n) fun x δ => Φ x δ.n) : FnOk P w K mg base CX0 (k + 1) f fd ps (spP K S) := by
  refine F.ok sc (fun vs H Q E h => ?_) (fun cdv A outer s H vs Q E hr h => ?_)
  · obtain ⟨F', p, vs', ds, n, Φ, rfl, _, _, _, hd, hS, _⟩ := h
    rw [List.length_cons, dpAll_len hd]; exact len n ds Φ hS
  · obtain ⟨F', p, vs', ds, n, Φ, rfl, e, hp, hpot, hd, hS, q⟩ := h
    refine ⟨_, PSs.nox pss_w, ?_⟩
    refine body ⟨F', H, some p, none⟩ cdv A outer s H E n ds Φ hr (fun z => by cases z) hS (L2.start N (.ref p :: vs')) F' H (rep_iniP e hp hpot hd) _ (fun δ' σ' F2 H2 e2 r2 z => ?_) fun v x δ' σ' F2 H2 e2 r2 d2 z => ?_
    · exact q .non .none δ'.n F2 H2 e2 r2.ex r2.fr (fun b o h1 h2 => r2.kp b o h1 fun y => h2 (by injection y with y; exact y.symm)) (r2.pot p rfl).2.2 .non z
    · exact q v x δ'.n F2 H2 e2 r2.ex r2.fr (fun b o h1 h2 => r2.kp b o h1 fun y => h2 (by injection y with y; exact y.symm)) (r2.pot p rfl).2.2 d2 z
end
/-- a def of the text, with what stands for the arguments that aren't written -/
abbrev Fd (K : PySem.W.Frag) (x : Str) (st : Stmt) (dvs : List V) (kws : List (Str × V)) (f : Addr) (fd : FuncData) : Prop := FunD K x x (defArgs st) (defBody st) (defScope st) dvs kws f fd
theorem Rep.potH {B : Bs} {δ : St'} {σ : List (Option V)} {F H : Hp} (r : Rep B δ σ F H) {a : Addr} (h : B.p = some a) : H a ≠ none := by
  obtain ⟨_, _, x, y, z, h3, _⟩ := r.pot a h
  rw [h3]
  exact fun q => by cases q
/-- behind a call -/
theorem Rep.called {B : Bs} {δ : St'} {σ : List (Option V)} {F H F' H' : Hp} (r : Rep B δ σ F H) (e1 : Same F F') (e2 : Same F' H') (fr : ∀ b, F b = none → H b ≠ none → F' b = none) (kp : ∀ b o, H b = some o → H' b = some o) : Rep B δ σ F' H' := by
  have ri : Rep ⟨⟨F, H, B.p, B.m⟩, B.w, B.K⟩ ⟨δ.n, []⟩ [] F' H' := ⟨e2, e1, fr, fun b o h _ => kp b o h, fun a h => ⟨r.potF h, (r.potH h), (by
    obtain ⟨_, _, x, y, z, h3, h4⟩ := r.pot a h
    exact ⟨x, y, z, kp _ _ h3, h4⟩)⟩, fun i c h => by simp at h, rfl, fun i j c c' _ h => by simp at h⟩
  exact r.outer (δ' := ⟨_, []⟩) ri
theorem Rep.calledP {B : Bs} {δ : St'} {σ : List (Option V)} {F H F' H' : Hp} {p : Addr} {n' : Nat} (r : Rep B δ σ F H) (hp : B.p = some p) (e1 : Same F F') (e2 : Same F' H') (fr : ∀ b, F b = none → H b ≠ none → F' b = none) (kp : ∀ b o, H b = some o → b ≠ p → H' b = some o) (pot : PotAt B.m H' p n') : Rep B ⟨n', δ.s⟩ σ F' H' := by
  have ri : Rep ⟨⟨F, H, B.p, B.m⟩, B.w, B.K⟩ ⟨n', []⟩ [] F' H' := ⟨e2, e1, fr, fun b o h q => kp b o h fun z => q (by rw [z]; exact hp), fun a h => ⟨r.potF h, (r.potH h), (by
    have : a = p := by
      have h' : B.p = some a := h
      rw [hp] at h'
      injection h' with h'
      exact h'.symm
    rw [this]
    exact pot)⟩, fun i c h => by simp at h, rfl, fun i j c c' _ h => by simp at h⟩
  exact r.outer (δ' := ⟨_, []⟩) ri
section
variable {B : B0} {X : Cx} {e : Expr} {es : List Expr} {kws : List Keyword} {δ : St'} {Φ : PE1} {p pos pp : Pos} {k : Nat} {f : Addr} {fd : FuncData} {ps ks : List Str} {x pn : Str} {dvs : List V} {dds : List Value} {dd : List PyData}
theorem we_callD {ta : TA} {S : SpD} (hd : ∀ F, DqAll X.K F dvs dd) (h : WA (bs X B) ta δ fun ds δ' => S (ds ++ dd) fun y => Φ y δ') : WE (bs X B) (tCall (spD X.K S) dvs E0 ta) δ Φ := fun σ F H r Q q =>
  h σ F H r _ fun vs ds δ' F' H' e1 r' d hS => ⟨F', ds ++ dd, _, r'.ex, dpAll_app d (hd F'), hS, fun v y F2 H2 q1 q2 q3 q4 q5 q6 => q v y δ' F2 H2 (e1.trans q1) (r'.called q1 q2 q3 q4) q5 q6⟩
theorem we_callP {ta : TA} {S : SpP} {i : Nat} (hi : δ.s[i]? = some (some .pot)) (hd : ∀ F, DqAll X.K F dvs dd) (h : WA (bs X B) ta δ fun ds δ' => S δ'.n (ds ++ dd) fun y n' => Φ y ⟨n', δ'.s⟩) : WE (bs X B) (tCall (spP X.K S) dvs E0 (tCons (tVar i) ta)) δ Φ := fun σ F H r Q q => by
  obtain ⟨v, hv, a, rfl, hp, hm⟩ := r.cell i _ hi
  refine ⟨.ref a, hv, h σ F H r _ fun vs ds δ' F' H' e1 r' d hS => ?_⟩
  exact ⟨F', a, vs ++ dvs, ds ++ dd, δ'.n, _, rfl, r'.ex, r'.potF hp, hm ▸ (r'.pot a hp).2.2, dpAll_app d (hd F'), hS, fun v y n' F2 H2 q1 q2 q3 q4 q5 q6 q7 => q v y ⟨n', δ'.s⟩ F2 H2 (e1.trans q1) (r'.calledP hp q1 q2 q3 q4 (hm ▸ q5)) q6 q7⟩
/-- f(e, ..) -/
theorem de_call {S : SpD} (G : FnOk X.prog X.w X.K X.mg X.base CX0 k f fd ps (spD X.K S)) (hr : Room k X.A) (hm : X.mg x = some (.ref f)) (hk : PySem.W.keepIn X.K (.ref f) = true) (hb : Binds X.K fd ps [])
    (h : DA B X (e :: es) δ fun ds δ' => S ds fun y => Φ y δ') (hg : Gl X x := by rfl) (hdb : (x == ("__debug__" : Str)) = false := by decide) (he : starEach (e :: es) X.env = (false, eval e X.env) :: starEach es X.env := by rfl) (hpl : (backTo pos (starEach es X.env)).any (·.1) = false := by rfl) :
    DE B X (.Call (.Name x p) (e :: es) [] pos) δ Φ := .of (pe_call G hr hg hm hk hb .nil pass0 pa_w hdb he hpl) (we_callD (dd := []) (fun _ => .nil) fun σ F H r Q q => h σ F H r Q fun vs ds δ' F' H' e1 r1 d p => q vs ds δ' F' H' e1 r1 d (by
    dsimp only
    rw [List.append_nil]; exact p))
/-- f(e, ..), the rest by defaults -/
theorem de_callDf {S : SpD} (G : FnOk X.prog X.w X.K X.mg X.base CX0 k f fd ps (spD X.K S)) (hr : Room k X.A) (hm : X.mg x = some (.ref f)) (hk : PySem.W.keepIn X.K (.ref f) = true) (hb : ∃ us, Vals dvs us ∧ Binds X.K fd ps us) (hd : ∀ F, DqAll X.K F dvs dd)
    (h : DA B X (e :: es) δ fun ds δ' => S (ds ++ dd) fun y => Φ y δ') (hg : Gl X x := by rfl) (hdb : (x == ("__debug__" : Str)) = false := by decide) (he : starEach (e :: es) X.env = (false, eval e X.env) :: starEach es X.env := by rfl) (hpl : (backTo pos (starEach es X.env)).any (·.1) = false := by rfl) :
    DE B X (.Call (.Name x p) (e :: es) [] pos) δ Φ := by
  obtain ⟨us, h1, h2⟩ := hb
  exact .of (pe_call G hr hg hm hk h2 h1 pass0 pa_w hdb he hpl) (we_callD hd h)
/-- f(pot, e, ..) -/
theorem de_callP {S : SpP} (i : Nat) (G : FnOk X.prog X.w X.K X.mg X.base CX0 k f fd ps (spP X.K S)) (hr : Room k X.A) (hm : X.mg x = some (.ref f)) (hk : PySem.W.keepIn X.K (.ref f) = true) (hb : Binds X.K fd ps [])
    (h : DA B X es δ fun ds δ' => S δ'.n ds fun y n' => Φ y ⟨n', δ'.s⟩) (hi : δ.s[i]? = some (some .pot) := by rfl) (hN : X.N[i]? = some pn := by rfl)
    (hv : Vis X.env.scope pn := by first | exact Or.inl rfl | exact Or.inr (Or.inl rfl) | exact Or.inr (Or.inr rfl)) (hd : (pn == ("__debug__" : Str)) = false := by decide)
    (hcd : (pn == ("__classdict__" : Str)) = false := by decide) (hg : Gl X x := by rfl) (hdb : (x == ("__debug__" : Str)) = false := by decide) (he : starEach (.Name pn pp :: es) X.env = (false, eval (.Name pn pp) X.env) :: starEach es X.env := by rfl) (hpl : (backTo pos (starEach es X.env)).any (·.1) = false := by rfl) :
    DE B X (.Call (.Name x p) (.Name pn pp :: es) [] pos) δ Φ := .of (pe_call G hr hg hm hk hb .nil pass0 (pa_cons (pe_var hN hv hd hcd) pa_w he) hdb he hpl) (we_callP hi (dd := []) (fun _ => .nil) fun σ F H r Q q => h σ F H r Q fun vs ds δ' F' H' e1 r1 d p => q vs ds δ' F' H' e1 r1 d (by
    dsimp only
    rw [List.append_nil]; exact p))
end
end DL
set_option maxHeartbeats 200000
set_option Elab.async false
set_option linter.all false
set_option maxRecDepth 100000
namespace DL
open PySem PySem.Spec PyProof.Rows L2
structure Fn (P : Program) (w : World) (K : PySem.W.Frag) (mg : Str → Option Value) (base : Heap) (x : Str) (k : Nat) (ps : List Str) (sp : Sp) : Prop where
  ex : ∃ f fd, mg x = some (.ref f) ∧ PySem.W.keepIn K (.ref f) = true ∧ Binds K fd ps [] ∧ FnOk P w K mg base CX0 k f fd ps sp
section
variable {P : Program} {w : World} {K : PySem.W.Frag} {mg : Str → Option Value} {base : Heap} {x : Str} {ps : List Str} {sp : Sp}
theorem Fn.mono {j k : Nat} (h : Fn P w K mg base x j ps sp) (hk : j ≤ k) : Fn P w K mg base x k ps sp := by
  obtain ⟨f, fd, h1, h2, h3, h4⟩ := h.ex
  exact ⟨f, fd, h1, h2, h3, h4.mono hk⟩
end
section
variable {B : B0} {X : Cx} {a b c e : Expr} {es : List Expr} {δ : St'} {Φ : PE1} {p pos pp p2 : Pos} {k k' : Nat} {ps : List Str} {x pn : Str}
theorem de_f {S : SpD} (G : Fn X.prog X.w X.K X.mg X.base x k ps (spD X.K S)) (hr : Room k' X.A) (h : DA B X (e :: es) δ fun ds δ' => S ds fun y => Φ y δ') (hk : k ≤ k' := by decide)
    (hg : Gl X x := by rfl) (hdb : (x == ("__debug__" : Str)) = false := by decide) (he : starEach (e :: es) X.env = (false, eval e X.env) :: starEach es X.env := by rfl) (hpl : (backTo pos (starEach es X.env)).any (·.1) = false := by rfl) :
    DE B X (.Call (.Name x p) (e :: es) [] pos) δ Φ := by
  obtain ⟨f, fd, h1, h2, h3, h4⟩ := G.ex
  exact de_call h4 (hr.mono hk) h1 h2 h3 h hg hdb he hpl
theorem de_fP {S : SpP} (i : Nat) (G : Fn X.prog X.w X.K X.mg X.base x k ps (spP X.K S)) (hr : Room k' X.A) (h : DA B X es δ fun ds δ' => S δ'.n ds fun y n' => Φ y ⟨n', δ'.s⟩) (hk : k ≤ k' := by decide) (hi : δ.s[i]? = some (some .pot) := by rfl) (hN : X.N[i]? = some pn := by rfl)
    (hv : Vis X.env.scope pn := by first | exact Or.inl rfl | exact Or.inr (Or.inl rfl) | exact Or.inr (Or.inr rfl)) (hd : (pn == ("__debug__" : Str)) = false := by decide)
    (hcd : (pn == ("__classdict__" : Str)) = false := by decide) (hg : Gl X x := by rfl) (hdb : (x == ("__debug__" : Str)) = false := by decide) (he : starEach (.Name pn pp :: es) X.env = (false, eval (.Name pn pp) X.env) :: starEach es X.env := by rfl) (hpl : (backTo pos (starEach es X.env)).any (·.1) = false := by rfl) :
    DE B X (.Call (.Name x p) (.Name pn pp :: es) [] pos) δ Φ := by
  obtain ⟨f, fd, h1, h2, h3, h4⟩ := G.ex
  exact de_callP i h4 (hr.mono hk) h1 h2 h3 h hi hN hv hd hcd hg hdb he hpl
end
/-- a def of the text that may be called with its defaults left out -/
structure FnDf (P : Program) (w : World) (K : PySem.W.Frag) (mg : Str → Option Value) (base : Heap) (x : Str) (k : Nat) (ps : List Str) (dvs : List V) (sp : Sp) : Prop where
  ex : ∃ f fd, mg x = some (.ref f) ∧ PySem.W.keepIn K (.ref f) = true ∧ (∃ us, Vals dvs us ∧ Binds K fd ps us) ∧ FnOk P w K mg base CX0 k f fd ps sp
section
variable {B : B0} {X : Cx} {a b c e : Expr} {es : List Expr} {δ : St'} {Φ : PE1} {p pos pp p2 : Pos} {k k' : Nat} {ps : List Str} {x pn : Str} {dvs : List V}
theorem de_fDf {S : SpD} (dd : List PyData) (G : FnDf X.prog X.w X.K X.mg X.base x k ps dvs (spD X.K S)) (hr : Room k' X.A) (hd : ∀ F, DqAll X.K F dvs dd) (h : DA B X (e :: es) δ fun ds δ' => S (ds ++ dd) fun y => Φ y δ') (hk : k ≤ k' := by decide)
    (hg : Gl X x := by rfl) (hdb : (x == ("__debug__" : Str)) = false := by decide) (he : starEach (e :: es) X.env = (false, eval e X.env) :: starEach es X.env := by rfl) (hpl : (backTo pos (starEach es X.env)).any (·.1) = false := by rfl) :
    DE B X (.Call (.Name x p) (e :: es) [] pos) δ Φ := by
  obtain ⟨f, fd, h1, h2, h3, h4⟩ := G.ex
  exact de_callDf h4 (hr.mono hk) h1 h2 h3 hd h hg hdb he hpl
end
def noD : PyData → Bool
  | .dict _ => false
  | _ => true
def tyN : PyData → String
  | .none => "NoneType" | .bool _ => "bool" | .int _ => "int" | .str _ => "str" | .list _ => "list" | .tuple _ => "tuple" | .dict _ => "dict"
theorem tyX_dp {K : PySem.W.Frag} {H : Hp} {v : V} {d : PyData} (nd : ∀ kv, d ≠ .dict kv) (h : Dq K H v d) : TyX K H v (.type (tyN d)) := by
  cases h with
  | non => exact .base .non
  | bl b => exact .base (.bl b)
  | int i => exact .base (.int i)
  | str s => exact .base (.str s)
  | lst hs ha =>
    rcases hs with (h | ⟨o, h⟩) | ⟨o, its, n, h, c, _⟩
    · exact .base (.lst h)
    · exact .base (.frz h)
    · exact .kList h c
  | tup hs ha =>
    rcases hs with (h | ⟨o, h⟩) | ⟨o, its, n, h, c, _⟩
    · exact .base (.tup h)
    · exact .fTuple h
    · exact .kTuple h c
  | hd a => exact absurd rfl (nd _)
  | cod z => exact absurd rfl (nd _)
  | emp z => exact absurd rfl (nd _)
/-- isinstance(x, T), T a built-in class -/
def isT (T : String) (d : PyData) : Bool := match T, d with
  | "tuple", .tuple _ => true
  | "list", .list _ => true
  | "str", .str _ => true
  | "int", .int _ => true
  | "int", .bool _ => true
  | "bool", .bool _ => true
  | _, _ => false
def isTs (T ty : String) : Bool := (T == ty) || (T == "int" && ty == "bool")
theorem kit_tab : ∀ T ∈ ["tuple", "str", "int", "bool"], ∀ ty ∈ ["NoneType", "bool", "int", "str", "list", "tuple"], kitB ty T = some (isTs T ty) := by decide +kernel
theorem isT_tab : ∀ T ∈ ["tuple", "str", "int", "bool"], isTs T "NoneType" = false ∧ isTs T "list" = false ∧ isTs T "bool" = isT T (.bool true) ∧ isTs T "int" = isT T (.int 0) ∧ isTs T "str" = isT T (.str Str.empty) ∧ isTs T "tuple" = isT T (.tuple []) := by decide +kernel
theorem isT_same {T : String} (hT : T = "tuple" ∨ T = "str" ∨ T = "int" ∨ T = "bool") {d : PyData} (hd : ∀ kv, d ≠ .dict kv) : isTs T (tyN d) = isT T d := by
  have hm : T ∈ ["tuple", "str", "int", "bool"] := by rcases hT with rfl | rfl | rfl | rfl <;> simp
  obtain ⟨h1, h2, h3, h4, h5, h6⟩ := isT_tab T hm
  rcases hT with rfl | rfl | rfl | rfl <;> cases d <;> first | exact h1 | exact h2 | exact h3 | exact h4 | exact h5 | exact h6 | exact absurd rfl (hd _)
theorem kit_isT {T : String} (hT : T = "tuple" ∨ T = "str" ∨ T = "int" ∨ T = "bool") {d : PyData} (hd : ∀ kv, d ≠ .dict kv) : kitB (tyN d) T = some (isT T d) := by
  have hm : T ∈ ["tuple", "str", "int", "bool"] := by rcases hT with rfl | rfl | rfl | rfl <;> simp
  rw [← isT_same hT hd]
  refine kit_tab T hm (tyN d) ?_
  cases d <;> first | (simp [tyN]; done) | exact absurd rfl (hd _)
theorem de_isi {B : B0} {X : Cx} {a : Expr} {δ : St'} {Φ : PE1} {p p2 pos : Pos} {T : String} {tn : Str} (hm : X.mg "isinstance" = none) (hmT : X.mg tn = none) (hT : T = "tuple" ∨ T = "str" ∨ T = "int" ∨ T = "bool") (hv : bootBuiltins tn = some (.type T))
    (h : DE B X a δ fun d δ' => noD d = true ∧ Φ (.bool (isT T d)) δ') (hg : Gl X "isinstance" := by rfl) (hgT : Gl X tn := by rfl) (hn : tn ≠ "__name__" := by decide) (hdb : (tn == ("__debug__" : Str)) = false := by decide)
    (he : starEach [a, .Name tn p2] X.env = (false, eval a X.env) :: starEach [.Name tn p2] X.env := by rfl) (he2 : starEach [.Name tn p2] X.env = (false, eval (.Name tn p2) X.env) :: starEach [] X.env := by rfl) (hpl : (backTo pos (starEach [.Name tn p2] X.env)).any (·.1) = false := by rfl) :
    DE B X (.Call (.Name "isinstance" p) [a, .Name tn p2] [] pos) δ Φ :=
  .of (pe_callB call_isi hg hm (by decide +kernel) (pa_cons pe_w (pa_cons (pe_bltn (v := .ty T) hgT hmT hv rfl hn hdb) pa_nil he2) he) (by decide) (by decide) he hpl) fun σ F H r Q q => h σ F H r _ fun v d δ' F' H' e r' dd ⟨hn', p⟩ => by
    have nd : ∀ kv, d ≠ .dict kv := fun kv z => by subst z; cases hn'
    exact ⟨v, .ty T, .type (tyN d), .type T, isT T d, rfl, .ty T, tyX_dp nd (dp_mono r'.ex _ _ dd), kit_ty (kit_isT hT nd), q _ _ δ' F' H' e r' (.bl _) p⟩
end DL
set_option maxHeartbeats 200000
set_option Elab.async false
set_option linter.all false
set_option maxRecDepth 100000
namespace DL
open PySem PySem.Spec PyProof.Rows L2
def signs (s : Str) : List PyData := s.cps.toList.map fun c => PyData.str ⟨#[c]⟩
theorem signs_len {s : Str} : (signs s).length = s.cps.size := by simp [signs]
theorem wk_str {w : World} {K : PySem.W.Frag} {s : Str} {F : Hp} : Wk w K (Its s) (signs s) F where
  stop := fun B i δ σ F' H _ _ e r h => by rw [signs_len] at h; exact h
  go := fun B i δ σ F' H _ _ e r h => by rw [signs_len] at h; exact h
  yld := fun B i δ σ F' H v H' y _ _ e r h hy => by
    obtain ⟨e1, c, hc, rfl⟩ := hy
    subst e1
    simp only [signs, List.getElem?_map, Option.map_eq_some_iff] at h
    obtain ⟨c', h1, rfl⟩ := h
    have : s.cps.toList[i]? = some c := by rw [Array.getElem?_toList]; exact hc
    rw [this] at h1
    injection h1 with h1
    subst h1
    exact ⟨F', Same.refl _, r, Same.refl _, fun b z _ => z, .str _⟩
theorem wi_str {B : Bs} {te : TE} {δ : St'} {Ψ : List PyData → St' → Prop} (h : WE B te δ fun x δ' => ∃ s, x = .str s ∧ Ψ (signs s) δ') : WI B (iStr te) δ Ψ := fun σ F H r R q => h σ F H r _ fun v x δ' F' H' e r' d ⟨s, hx, p⟩ => by
  subst hx
  cases d
  exact ⟨s, rfl, q _ _ δ' F' H' e r' (Wk.at wk_str) p⟩
section
variable {B : B0} {X : Cx} {elt cnd tg iter : Expr} {scope : Scope} {δ : St'} {Φ : List PyData → St' → Prop} {pos : Pos} {wi : TI} {g : TG}
theorem take_snoc {α : Type} {l : List α} {i : Nat} {x : α} (h : l[i]? = some x) : l.take (i + 1) = l.take i ++ [x] := by
  rw [List.take_add_one, h]; rfl
theorem dl_map (own : List (Str × Nat)) (hN : X.N.Nodup) (hi : PI X tg iter wi) (ok : BlkOk X.N X.env.scope scope own)
    (hg : ∀ (s : Shared) (H : Hp) (C : Addr) (cl : List (Str × Addr)) (fp : List Addr), PG (X.blk s H scope (compEnvC scope cl C X.env) fp) tg g)
    (h : WI (bs X B) wi δ fun xs δ1 => xs.length ≤ 100000 ∧ ∃ f : PyData → PyData,
      (∀ (B' : B0) y, Sub B B' → y ∈ xs → WG (bs X B') g (own.map (·.2)) y ⟨δ1.n, inn (own.map (·.2)) 0 δ1.s⟩ fun δ2 =>
        ∀ s0 H0 C cl fp, DE B' (X.blk s0 H0 scope (compEnvC scope cl C X.env) fp) elt δ2 fun z δ4 => z = f y ∧ δ4.n = δ1.n) ∧ Φ (xs.map f) δ1) (hc : X.calm = true := by rfl) (hs : ∀ x, foldedSetIterable iter X.env x = pure x := by intro _; rfl) : DLs B X (.ListComp elt [⟨tg, iter, [], 0⟩] scope pos) δ Φ :=
  dl_lc own hN hi ok hg (fun σ F H r R q => h σ F H r R fun J xs δ1 F' H' e r' w ⟨hz, f, h1, h2⟩ => q J xs δ1 F' H' e r' w ⟨hz, fun i acc n => acc = (xs.take i).map f ∧ n = δ1.n, by simp, fun B' i y acc n hp hy _ ⟨ha, hn⟩ => by
    subst ha hn
    intro σ F H r v d Q qq
    refine h1 B' y hp (List.mem_of_getElem? hy) σ F H r v d Q fun δ2 σ2 r2 k1 k2 p => qq δ2 σ2 r2 k1 k2 fun s0 H0 C cl fp => DE.mono (p s0 H0 C cl fp) fun z δ4 ⟨e1, e2⟩ => ⟨?_, e2⟩
    rw [take_snoc hy, List.map_append, e1]; rfl, fun acc n _ ⟨ha, hn⟩ => by
    subst ha hn
    rw [List.take_length]; exact h2⟩) hc hs
theorem dl_filt (own : List (Str × Nat)) (hN : X.N.Nodup) (hi : PI X tg iter wi) (ok : BlkOk X.N X.env.scope scope own)
    (hg : ∀ (s : Shared) (H : Hp) (C : Addr) (cl : List (Str × Addr)) (fp : List Addr), PG (X.blk s H scope (compEnvC scope cl C X.env) fp) tg g)
    (h : WI (bs X B) wi δ fun xs δ1 => xs.length ≤ 100000 ∧ ∃ (keep : PyData → Bool) (f : PyData → PyData),
      (∀ (B' : B0) y, Sub B B' → y ∈ xs → WG (bs X B') g (own.map (·.2)) y ⟨δ1.n, inn (own.map (·.2)) 0 δ1.s⟩ fun δ2 =>
        ∀ s0 H0 C cl fp, DT B' (X.blk s0 H0 scope (compEnvC scope cl C X.env) fp) cnd δ2 fun b δ3 => b = keep y ∧ δ3.n = δ1.n ∧ (keep y = true → ∀ s0 H0 C cl fp, DE B' (X.blk s0 H0 scope (compEnvC scope cl C X.env) fp) elt δ3 fun z δ4 => z = f y ∧ δ4.n = δ1.n)) ∧ Φ ((xs.filter keep).map f) δ1) (hc : X.calm = true := by rfl) (hs : ∀ x, foldedSetIterable iter X.env x = pure x := by intro _; rfl) : DLs B X (.ListComp elt [⟨tg, iter, [cnd], 0⟩] scope pos) δ Φ :=
  dl_lcIf own hN hi ok hg (fun σ F H r R q => h σ F H r R fun J xs δ1 F' H' e r' w ⟨hz, keep, f, h1, h2⟩ => q J xs δ1 F' H' e r' w ⟨hz, fun i acc n => acc = ((xs.take i).filter keep).map f ∧ n = δ1.n, by simp, fun B' i y acc n hp hy _ ⟨ha, hn⟩ => by
    subst ha hn
    intro σ F H r v d Q qq
    refine h1 B' y hp (List.mem_of_getElem? hy) σ F H r v d Q fun δ2 σ2 r2 k1 k2 p => qq δ2 σ2 r2 k1 k2 fun s0 H0 C cl fp => DT.mono (p s0 H0 C cl fp) fun b δ3 ⟨e1, e2, e3⟩ => ?_
    subst e1
    cases hk : keep y with
    | true =>
      rw [if_pos rfl]
      intro s1 H1 C1 cl1 fp1
      refine DE.mono (e3 hk s1 H1 C1 cl1 fp1) fun z δ4 ⟨q1, q2⟩ => ⟨?_, q2⟩
      rw [take_snoc hy, List.filter_append, List.map_append, q1]
      simp [hk]
    | false =>
      rw [if_neg Bool.false_ne_true]
      refine ⟨?_, e2⟩
      rw [take_snoc hy, List.filter_append]
      simp [hk], fun acc n _ ⟨ha, hn⟩ => by
    subst ha hn
    rw [List.take_length]; exact h2⟩) hc hs
end
section
variable {B : Bs} {δ : St'} {Φ : PE1}
theorem map_bool {xs : List PyData} {f : PyData → Bool} : xs.map (fun y => PyData.bool (f y)) = (xs.map f).map PyData.bool := by simp
theorem rc_allF {xs : List PyData} {f : PyData → Bool} (p : Φ (.bool (xs.all f)) δ) : RC B (rAll B.K) [.list (xs.map fun y => PyData.bool (f y))] δ Φ := by
  rw [map_bool]
  refine rc_all ?_
  have : (xs.map f).all id = xs.all f := by simp
  rw [this]; exact p
end
end DL
set_option maxHeartbeats 200000
set_option maxHeartbeats 200000
set_option Elab.async false
set_option linter.all false
set_option maxRecDepth 100000
set_option maxHeartbeats 200000
set_option Elab.async false
set_option linter.all false
set_option maxRecDepth 100000
set_option maxHeartbeats 200000
set_option Elab.async false
set_option linter.all false
set_option maxRecDepth 100000
set_option maxHeartbeats 200000
set_option Elab.async false
set_option linter.all false
set_option maxRecDepth 100000
namespace DL
open PySem PySem.Spec PyProof.Rows L2
end DL
set_option maxHeartbeats 200000
set_option Elab.async false
set_option linter.all false
set_option maxRecDepth 100000
set_option maxHeartbeats 1000000
namespace DL
open PySem PySem.Spec PyProof.Rows L2
open PySem.W (alike alikeAll dataLt dataLe AllAlike Sortable EachIs)
open PySem.AutoSeq1 (wpAny_loadPart') in
theorem meets_cat (l : Addr) (items : Array Value) (n : Nat) (dd : Option Addr) (sl : Array (Option Value)) (b : Addr) (items2 : Array Value) (n2 : Nat) (dd2 : Option Addr) (sl2 : Array (Option Value)) (hz : items.size + items2.size ≤ sizeLine) :
    Meets (Builtin.«list.__add__» ⟨[.ref l, .ref b], []⟩) (fun _ R s => s.heap.get? l = some { cls := .type "list", dict := dd, data := .seq items n, slots := sl } ∧ s.heap.get? b = some { cls := .type "list", dict := dd2, data := .seq items2 n2, slots := sl2 } ∧
      R (.ok (.ret (Value.ref s.heap.objs.size))) { s with heap := s.heap.push { cls := Value.type "list", data := Data.seq (items ++ items2) } }) :=
  .of_wp fun prog w A R s h => by
    obtain ⟨hp, g, d, tk, os⟩ := s
    obtain ⟨h1, h2, h⟩ := h
    have f1 := AutoSeq1.idx_int
    have f2 := AutoSeq1.sub_tuple_tuple
    have f3 := AutoSeq1.sub_list_list
    have f4 := AutoSeq1.sub_tuple_list
    have f5 := AutoSeq1.sub_list_tuple
    wp_walk using wpAny_loadPart' h1, wpAny_loadPart' h2
    exact ⟨_, rfl, h⟩
section
variable {X : Cx}
def rCatL (K : PySem.W.Frag) : R2 := fun x y H Q => ∃ l b xs zs, x = .ref l ∧ y = .ref b ∧ SqL K H l xs ∧ SqL K H b zs ∧ xs.length + zs.length ≤ 100000 ∧ ∀ p, H p = none → Q (.ref p) (upd H p (.lst (xs ++ zs)))
theorem op_catL : OpR X (binaryOp .Add) (rCatL X.K) := by
  intro pins s σ H x y v u Q I rx ry h
  obtain ⟨l, b, xs, zs, rfl, rfl, h1, h2, hz, q⟩ := h
  cases rx
  cases ry
  obtain ⟨its, r1, ⟨⟨c1, d1, da1, sl1⟩, n1, o1, e1, e2, e3⟩, _⟩ := I.list h1
  obtain ⟨its2, r2, ⟨⟨c2, d2, da2, sl2⟩, n2, o2, k1, k2, k3⟩, _⟩ := I.list h2
  simp only at e1 e2 e3 k1 k2 k3
  subst e1 e3 k1 k3
  have l1 := r1.length
  have l2 := r2.length
  have hzz : its.toArray.size + its2.toArray.size ≤ sizeLine := Nat.le_trans (by rw [List.size_toArray, List.size_toArray]; omega) (by decide : 100000 ≤ sizeLine)
  refine concat_meets ⟨_, o1, rfl⟩ ⟨_, o2, rfl⟩ noFill_list_add seq_list_add F.slot_list_add F.entry_list_add (F.args_list_add_2 _ _) (meets_cat l its.toArray n1 d1 sl1 b its2.toArray n2 d2 sl2 hzz) ⟨o1, o2, ?_⟩
  have ea : its.toArray ++ its2.toArray = (its ++ its2).toArray := by simp
  rw [ea]
  exact ⟨.ref _, _, I.lnew (t' := s.toks) (r1.append r2) (Nat.le_trans (by rw [List.length_append]; omega) (by decide : 100000 ≤ sizeLine)), rfl, q _ I.fresh⟩
theorem dp0_len {K : PySem.W.Frag} {H : Hp} : ∀ {vs : List V} {ds : List PyData}, DpAll K H vs ds → vs.length = ds.length
  | _, [], h => by cases h; rfl
  | _, _ :: _, h => by
    cases h with
    | cons _ h2 => simp [dp0_len h2]
def rLtD (K : PySem.W.Frag) : R2 := fun x y H Q => ∃ d e, Dp K H x d ∧ Dp K H y e ∧ alike d e = true ∧ d ≠ .none ∧ d.depth ≤ 60 ∧ Q (.bl (dataLt d e)) H
theorem op_ltD (hu : X.A.units + 64 < cLine) : OpR X (compareOp .Lt) (rLtD X.K) := by
  intro pins s σ H x y v u Q I rx ry h
  obtain ⟨d, e, h1, h2, ha, hn, hd, q⟩ := h
  obtain ⟨as, r1⟩ := Dp.reads I d x v h1 rx
  obtain ⟨bs, r2⟩ := Dp.reads I e y u h2 ry
  exact PySem.W.rcLt_alike d e X.A s v u as bs r1 r2 ha hn (by have : min d.depth e.depth ≤ d.depth := Nat.min_le_left _ _; omega) X.prog X.w X.xe _ ⟨.bl (dataLt d e), H, I, rfl, q⟩
theorem each_zip {H : Hp} {pins : List (Addr × Obj)} {σ : List (Option V)} {s : Shared} (I : Inv X pins σ H s) : ∀ {us : List V} {ds : List PyData} {its : List Value}, Vals us its → DpAll X.K H us ds →
    EachIs (fun (v : Value) (b : V × PyData) => RelV b.1 v) its (us.zip ds) ∧ EachIs (fun v (b : V × PyData) => ∃ as, Reads s.heap v b.2 as) its (us.zip ds)
  | _, [], _, r, h => by
    cases h
    cases r
    exact ⟨.nil, .nil⟩
  | _, d :: ds, _, r, h => by
    cases h with
    | cons h1 h2 =>
      cases r with
      | cons r1 r2 =>
        obtain ⟨a1, a2⟩ := each_zip I r2 h2
        obtain ⟨as, q⟩ := Dp.reads I d _ _ h1 r1
        exact ⟨.cons r1 a1, .cons ⟨as, q⟩ a2⟩
theorem vals_each : ∀ {out : List Value} {ps : List (V × PyData)}, EachIs (fun (v : Value) (b : V × PyData) => RelV b.1 v) out ps → Vals (ps.map (·.1)) out
  | _, _, .nil => .nil
  | _, _, .cons r t => .cons r (vals_each t)
def rSortD (K : PySem.W.Frag) : List V → Hp → VK → Prop := fun vs H Q => ∃ a us ds, vs = [V.ref a] ∧ SqL K H a us ∧ DpAll K H us ds ∧ AllAlike ds ∧ Sortable ds ∧ ds.length ≤ 100000 ∧ (∀ d ∈ ds, d.depth ≤ 60) ∧
  ∀ p, H p = none → Q (.ref p) (upd H p (.lst (((us.zip ds).mergeSort (dataLe false (·.2))).map (·.1))))
theorem zip_snd {us : List V} {ds : List PyData} (h : us.length = ds.length) : (us.zip ds).map (·.2) = ds := by
  exact List.map_snd_zip (by omega)
theorem cr_sortD (hu : X.A.units + 70 < cLine) : CallR X (.builtin "sorted") (rSortD X.K) := by
  intro pins s σ H vs us' Q I r h
  obtain ⟨a, us, ds, rfl, hS, hd, hal, hso, hl, hdep, q⟩ := h
  obtain ⟨its, rv, ⟨o, n, ho, hcl, hdn, hda⟩, hz⟩ := I.list hS
  obtain ⟨u, rfl, ru⟩ := vals1 r
  cases ru
  have hlen := dp0_len hd
  have hsnd : (us.zip ds).map (fun b : V × PyData => b.2) = ds := zip_snd hlen
  obtain ⟨e1, e2⟩ := each_zip I rv hd
  have hbl : (us.zip ds).length = ds.length := by simp; omega
  refine PySem.W.sorted_data (s := s) (vs := its) (bs := us.zip ds) (R := fun v b => RelV b.1 v) (enc := fun b : V × PyData => b.2) ⟨o, ho, hcl, n, hda⟩ e1 e2 (by rw [hsnd]; exact hal) (by rw [hsnd]; exact hso)
    (Nat.le_trans (by rw [hbl]; exact hl) (by decide : 100000 ≤ sizeLine)) (fun b hb => ?_) fun out hol hout => ?_
  · have : b.2 ∈ ds := by rw [← hsnd]; exact List.mem_map_of_mem hb
    have := hdep _ this
    omega
  · obtain ⟨c, hc⟩ := sortedAll_at s.heap its out.toArray
    have hp : s.heap.objs.size ≤ s.heap.objs.size + 1 := Nat.le_succ _
    have hn : H (s.heap.objs.size + 1) = none := I.hok.fresh hp
    have hv := vals_each hout
    refine ⟨.ref _, _, I.laid (t' := s.toks) (o := .lst (((us.zip ds).mergeSort (dataLe false (·.2))).map (·.1))) (fun b u e => sortedAll_old e) hp ⟨?_, out, c, hv, hc⟩, rfl, q _ hn⟩
    rw [hv.length, hol, hbl]
    exact Nat.le_trans hl (by decide : 100000 ≤ sizeLine)
end
end DL
set_option maxHeartbeats 200000
set_option Elab.async false
set_option linter.all false
set_option maxRecDepth 100000
set_option maxHeartbeats 1000000
namespace DL
open PySem PySem.Spec PyProof.Rows L2
open PySem.W (alike alikeAll dataLt dataLe AllAlike Sortable EachIs)
section
variable {B : Bs} {δ : St'} {σ : List (Option V)} {F H : Hp} {Φ : PE1} {te ta tb : TE}
theorem Rep.newL (r : Rep B δ σ F H) {p : Addr} (hp : H p = none) (us : List V) : Rep B δ σ F (upd H p (.lst us)) ∧ B.H p = none ∧ F p = none ∧ ∀ (i : Nat) (c : C), δ.s[i]? = some (some c) → own? c = true → σ[i]? ≠ some (some (.ref p)) := by
  obtain ⟨h1, h2, _, h4⟩ := r.fresh hp
  exact ⟨r.side h2 h1 h4, h1, h2, h4⟩
abbrev PL := List PyData → St' → Prop
theorem wl_cat {Ψ : PL} (h : WE B ta δ fun x δ1 => ∃ xs, x = .list xs ∧ WE B tb δ1 fun y δ2 => ∃ ys, y = .list ys ∧ xs.length + ys.length ≤ 100000 ∧ Ψ (xs ++ ys) δ2) : WL B (tOp (rCatL B.K) ta tb) δ Ψ := fun σ F H r Q q =>
  h σ F H r _ fun v x δ1 F1 H1 e1 r1 d1 ⟨xs, hx, p1⟩ => p1 σ F1 H1 r1 _ fun u y δ2 F2 H2 e2 r2 d2 ⟨ys, hy, hz, p2⟩ => by
    subst hx hy
    cases d1 with
    | lst hs ha =>
      cases d2 with
      | lst hs2 ha2 =>
        refine ⟨_, _, _, _, rfl, rfl, (e2.trans r2.ex).seq hs, r2.ex.seq hs2, by rw [dpAll_len ha, dpAll_len ha2]; exact hz, fun p hp => ?_⟩
        obtain ⟨k1, k2, k3, k4⟩ := r2.newL hp (_ ++ _)
        exact q p _ _ δ2 F2 _ (e1.trans e2) k1 k2 k3 upd_same k4 (dpAll_app (dpAll_mono e2 _ _ ha) ha2) p2
theorem sort_snd {us : List V} {ds : List PyData} (h : us.length = ds.length) : ((us.zip ds).mergeSort (dataLe false (·.2))).map (·.2) = ds.mergeSort (dataLe false id) := by
  have := List.map_mergeSort (r := dataLe false (fun b : V × PyData => b.2)) (s := dataLe false id) (f := fun b : V × PyData => b.2) (l := us.zip ds) (fun a _ b _ => rfl)
  rw [this]
  congr 1
  exact zip_snd h
theorem dpAll_mem {K : PySem.W.Frag} {F : Hp} : ∀ {us : List V} {ds : List PyData}, DqAll K F us ds → ∀ p ∈ us.zip ds, Dq K F p.1 p.2
  | _, [], h, p, hp => by cases h; simp at hp
  | _, _ :: _, h, p, hp => by
    cases h with
    | cons h1 h2 =>
      simp only [List.zip_cons_cons, List.mem_cons] at hp
      rcases hp with rfl | hp
      · exact h1
      · exact dpAll_mem h2 p hp
theorem dpAll_of {K : PySem.W.Frag} {F : Hp} : ∀ {ps : List (V × PyData)}, (∀ p ∈ ps, Dq K F p.1 p.2) → DqAll K F (ps.map (·.1)) (ps.map (·.2))
  | [], _ => .nil
  | p :: ps, h => .cons (h p List.mem_cons_self) (dpAll_of fun q hq => h q (List.mem_cons_of_mem _ hq))
def sortD (ds : List PyData) : List PyData := ds.mergeSort (dataLe false id)
theorem wl_sorted {ta : TA} {Ψ : PL} (h : WA B ta δ fun xs δ1 => ∃ ds, xs = [.list ds] ∧ noHs ds = true ∧ AllAlike ds ∧ Sortable ds ∧ ds.length ≤ 100000 ∧ (∀ d ∈ ds, d.depth ≤ 60) ∧ Ψ (sortD ds) δ1) : WL B (tCB (rSortD B.K) ta) δ Ψ := fun σ F H r Q q =>
  h σ F H r _ fun vs xs δ1 F1 H1 e1 r1 d1 ⟨ds, hx, h0, h1, h2, h3, h4, p1⟩ => by
    subst hx
    cases d1 with
    | cons d1 d2 =>
      cases d2
      cases d1 with
      | lst hs ha =>
        rename_i us
        refine ⟨_, us, ds, rfl, r1.ex.seq hs, dqs_dps _ _ h0 (dpAll_mono r1.ex _ _ ha), h1, h2, h3, h4, fun p hp => ?_⟩
        obtain ⟨k1, k2, k3, k4⟩ := r1.newL hp (((us.zip ds).mergeSort (dataLe false (·.2))).map (·.1))
        have hd : DqAll B.K F1 (((us.zip ds).mergeSort (dataLe false (·.2))).map (·.1)) (sortD ds) := by
          unfold sortD
          rw [← sort_snd (dpAll_len ha)]
          exact dpAll_of fun p hp => dpAll_mem ha p ((List.mergeSort_perm _ _).mem_iff.mp hp)
        exact q p _ _ δ1 F1 _ e1 k1 k2 k3 upd_same k4 hd p1
/-- list(x) -/
theorem wl_list {ta : TA} {Ψ : PL} {K} (hK : K = B.K) (h : WA B ta δ fun xs δ1 => ∃ ds, (xs = [.list ds] ∨ xs = [.tuple ds]) ∧ Ψ ds δ1) : WL B (tCB (fun xs H Q => ∃ p ys, xs = [.ref p] ∧ (SqL K H p ys ∨ SqT K H p ys) ∧ ∀ l, H l = none → Q (.ref l) (upd H l (.lst ys))) ta) δ Ψ := fun σ F H r Q q =>
  h σ F H r _ fun vs xs δ1 F1 H1 e1 r1 d1 ⟨ds, hx, p1⟩ => by
    subst hK
    rcases hx with rfl | rfl
    · cases d1 with
      | cons d1 d2 =>
        cases d2
        cases d1 with
        | lst hs ha =>
          refine ⟨_, _, rfl, .inl (r1.ex.seq hs), fun p hp => ?_⟩
          obtain ⟨k1, k2, k3, k4⟩ := r1.newL hp _
          exact q p _ _ δ1 F1 _ e1 k1 k2 k3 upd_same k4 ha p1
    · cases d1 with
      | cons d1 d2 =>
        cases d2
        cases d1 with
        | tup hs ha =>
          refine ⟨_, _, rfl, .inr (seqT r1.ex hs), fun p hp => ?_⟩
          obtain ⟨k1, k2, k3, k4⟩ := r1.newL hp _
          exact q p _ _ δ1 F1 _ e1 k1 k2 k3 upd_same k4 ha p1
/-- tuple(xs) -/
theorem rc_tupleL {K} (hK : K = B.K) {ds : List PyData} (p : Φ (.tuple ds) δ) : RC B (fun xs H Q => ∃ p ys, xs = [.ref p] ∧ ((SqL K H p ys ∧ ∀ l, H l = none → Q (.ref l) (upd H l (.tup ys))) ∨ (SqT K H p ys ∧ Q (.ref p) H))) [.list ds] δ Φ := fun σ F H r vs d1 Q q => by
  subst hK
  cases d1 with
  | cons d1 d2 =>
    cases d2
    cases d1 with
    | lst hs ha =>
      refine ⟨_, _, rfl, .inl ⟨r.ex.seq hs, fun l hl => ?_⟩⟩
      obtain ⟨F2, k1, k2, _, _, k5⟩ := r.newT hl ha
      exact q _ _ δ F2 _ k1 k2 k5 p
/-- slices -/
theorem we_sl {r : V → Option Int → Option Int → Hp → VK → Prop} {lo hi : Option Int} {tl th : TO} (hl : ∀ σ H (Q : Option Int → Hp → Prop), Q lo H → tl σ H Q) (hh : ∀ σ H (Q : Option Int → Hp → Prop), Q hi H → th σ H Q)
    (h : WE B te δ fun x δ1 => RU B (fun v H Q => r v lo hi H Q) x δ1 Φ) : WE B (tSl r te tl th) δ Φ := fun σ F H rp Q q =>
  h σ F H rp _ fun v x δ1 F1 H1 e1 r1 d1 p1 => hl σ H1 _ (hh σ H1 _ (p1 σ F1 H1 r1 v d1 Q fun v' x' δ' F' H' e' r' d' p' => q v' x' δ' F' H' (e1.trans e') r' d' p'))
theorem ru_slS {lo hi : Option Int} {x : Str} (hz : x.length ≤ 100000) (p : Φ (.str (cutS x lo hi)) δ) : RU B (fun v H Q => rSlS v lo hi H Q) (.str x) δ Φ := ru_pure (w := .str (cutS x lo hi)) (fun _ => .str _) (fun F H v e d1 Q q => by cases d1; exact ⟨x, rfl, Nat.le_trans hz (by decide), q⟩) p
theorem cutV_dp {K : PySem.W.Frag} {us : List V} {ds : List PyData} {lo hi : Option Int} (h : DqAll K F us ds) : DqAll K F (cutV us lo hi) ((ds.drop (HT.sIx ds.length 0 lo)).take (HT.sIx ds.length ds.length hi - HT.sIx ds.length 0 lo)) := by
  unfold cutV
  rw [dpAll_len h]
  exact dpAll_take _ (dpAll_drop _ h)
def cutD (ds : List PyData) (lo hi : Option Int) : List PyData := (ds.drop (HT.sIx ds.length 0 lo)).take (HT.sIx ds.length ds.length hi - HT.sIx ds.length 0 lo)
theorem ru_slT {lo hi : Option Int} {ds : List PyData} (p : Φ (.tuple (cutD ds lo hi)) δ) : RU B (fun v H Q => rSlA B.K v lo hi H Q) (.tuple ds) δ Φ := fun σ F H r v d1 Q q => by
  cases d1 with
  | tup hs ha hp =>
    refine ⟨_, _, rfl, seqT r.ex hs, fun hw => ?_, fun hw l hl => ?_⟩
    · refine q _ _ δ F H (Same.refl F) r (.tup hs ?_ hp) p
      have := cutV_dp (lo := lo) (hi := hi) ha
      have e : cutD ds lo hi = ds := by
        unfold cutD
        rw [← dpAll_len ha, hw.1, hw.2, List.drop_zero, Nat.sub_zero, dpAll_len ha, List.take_length]
      rw [e]
      exact ha
    · obtain ⟨F2, k1, k2, _, _, k5⟩ := r.newT hl (cutV_dp (lo := lo) (hi := hi) ha)
      exact q _ _ δ F2 _ k1 k2 k5 p
theorem wl_sl {lo hi : Option Int} {tl th : TO} {Ψ : PL} (hl : ∀ σ H (Q : Option Int → Hp → Prop), Q lo H → tl σ H Q) (hh : ∀ σ H (Q : Option Int → Hp → Prop), Q hi H → th σ H Q)
    (h : WE B te δ fun x δ1 => ∃ ds, x = .list ds ∧ Ψ (cutD ds lo hi) δ1) : WL B (tSl (rSlL B.K) te tl th) δ Ψ := fun σ F H rp Q q =>
  h σ F H rp _ fun v x δ1 F1 H1 e1 r1 d1 ⟨ds, hx, p1⟩ => hl σ H1 _ (hh σ H1 _ (by
    subst hx
    cases d1 with
    | lst hs ha =>
      refine ⟨_, _, rfl, r1.ex.seq hs, fun p hp => ?_⟩
      obtain ⟨k1, k2, k3, k4⟩ := r1.newL hp (cutV _ lo hi)
      exact q p _ _ δ1 F1 _ e1 k1 k2 k3 upd_same k4 (cutV_dp ha) p1))
/-- a new list is told as data -/
theorem Rep.frzL (r : Rep B δ σ F H) {a : Addr} {vs : List V} (hB : B.H a = none) (hF : F a = none) (hH : H a = some (.lst vs)) (hap : ∀ (i : Nat) (c : C), δ.s[i]? = some (some c) → own? c = true → σ[i]? ≠ some (some (.ref a))) : Rep B δ σ (upd F a (.lst vs)) H := by
  have e2 : Same F (upd F a (.lst vs)) := same_upd hF
  refine ⟨fun b u h => ?_, r.f0.trans e2, fun b h1 h2 => ?_, r.kp, r.pot, fun i c h => ?_, r.len, r.ap⟩
  · by_cases hb : b = a
    · subst hb; rw [upd_same] at h; cases h; exact hH
    · rw [upd_ne hb] at h; exact r.ex b u h
  · have hb : b ≠ a := fun z => h2 (z ▸ hB)
    rw [upd_ne hb]; exact r.fr b h1 h2
  · obtain ⟨v, hv, hc⟩ := r.cell i c h
    refine ⟨v, hv, ?_⟩
    cases c with
    | d x => exact dp_mono e2 _ _ hc
    | own ys =>
      obtain ⟨a', vs', e', h1, h2, h3, h4⟩ := hc
      subst e'
      have hne : a' ≠ a := fun z => hap i _ h rfl (z ▸ hv)
      exact ⟨a', vs', rfl, h1, by rw [upd_ne hne]; exact h2, h3, dpAll_mono e2 _ _ h4⟩
    | dct kvs =>
      obtain ⟨a', vs', e', h1, h2, h3, h4⟩ := hc
      subst e'
      have hne : a' ≠ a := fun z => hap i _ h rfl (z ▸ hv)
      exact ⟨a', vs', rfl, h1, by rw [upd_ne hne]; exact h2, h3, dpAll_mono e2 _ _ h4⟩
    | gen pa mk kvs =>
      obtain ⟨a', vs', e', h1, h2, h3, h4, h5⟩ := hc
      subst e'
      have hne : a' ≠ a := fun z => hap i _ h rfl (z ▸ hv)
      exact ⟨a', vs', rfl, h1, by rw [upd_ne hne]; exact h2, h3, h4, dpAll_mono e2 _ _ h5⟩
    | iset ns =>
      obtain ⟨a', e', h1, h2, h3⟩ := hc
      subst e'
      have hne : a' ≠ a := fun z => hap i _ h rfl (z ▸ hv)
      exact ⟨a', rfl, h1, by rw [upd_ne hne]; exact h2, h3⟩
    | pot => exact hc
    | bor => exact hc
theorem dpAll_rep {K : PySem.W.Frag} {us : List V} {ds : List PyData} (h : DqAll K F us ds) : ∀ n : Nat, DqAll K F (List.replicate n us).flatten (List.replicate n ds).flatten
  | 0 => .nil
  | n + 1 => by
    rw [List.replicate_succ, List.replicate_succ, List.flatten_cons, List.flatten_cons]
    exact dpAll_app h (dpAll_rep h n)
/-- a list n times -/
theorem wl_rep {Ψ : PL} (h : WL B ta δ fun xs δ1 => WE B tb δ1 fun y δ2 => ∃ n : Nat, y = .int (n : Nat) ∧ n ≤ 1000 ∧ xs.length ≤ 100 ∧ Ψ (List.replicate n xs).flatten δ2) : WL B (tOp rRep ta tb) δ Ψ := fun σ F H rp Q q =>
  h σ F H rp _ fun a vs xs δ1 F1 H1 e1 r1 hB hF hH hap hd p1 => by
    refine p1 σ _ H1 (r1.frzL hB hF hH hap) _ fun u y δ2 F2 H2 e2 r2 d2 ⟨n, hy, hn, hl, p2⟩ => ?_
    subst hy
    cases d2
    have hv := dpAll_len hd
    refine ⟨a, (n : Int), vs, rfl, rfl, r2.ex _ _ (e2 _ _ upd_same), by omega, by omega, ?_, fun p hp => ?_⟩
    · rw [Int.toNat_natCast, hv]
      exact Nat.le_trans (Nat.mul_le_mul hl hn) (by decide)
    · rw [Int.toNat_natCast]
      obtain ⟨k1, k2, k3, k4⟩ := r2.newL hp (List.replicate n vs).flatten
      exact q p _ _ δ2 F2 _ ((e1.trans (same_upd hF)).trans e2) k1 k2 k3 upd_same k4 (dpAll_rep (dpAll_mono ((same_upd hF).trans e2) _ _ hd) n) p2
/-- less, of data that are alike -/
theorem rd_ltD {x y : PyData} (hx : noH x = true) (hy : noH y = true) (ha : alike x y = true) (hn : x ≠ .none) (hd : x.depth ≤ 60) (p : Φ (.bool (dataLt x y)) δ) : RD B (rLtD B.K) x y δ Φ :=
  rd_pure (w := .bl (dataLt x y)) (fun _ => .bl _) (fun F H v u e d1 d2 Q q => ⟨x, y, dq_dp _ _ hx (dp_mono e _ _ d1), dq_dp _ _ hy (dp_mono e _ _ d2), ha, hn, hd, q⟩) p
end
end DL
set_option maxHeartbeats 200000
set_option Elab.async false
set_option linter.all false
set_option maxRecDepth 100000
set_option maxHeartbeats 1000000
namespace DL
open PySem PySem.Spec PyProof.Rows L2
open PySem.W (alike alikeAll dataLt dataLe AllAlike Sortable EachIs)
end DL
set_option maxHeartbeats 200000
set_option Elab.async false
set_option linter.all false
set_option maxRecDepth 100000
set_option maxHeartbeats 1000000
namespace DL
open PySem PySem.Spec PyProof.Rows L2 RZ
theorem WG.mono {B : Bs} {g : TG} {ix : List Nat} {y : PyData} {δ : St'} {K K' : St' → Prop} (h : WG B g ix y δ K) (f : ∀ δ', K δ' → K' δ') : WG B g ix y δ K' := fun σ F H r v d Q q => h σ F H r v d Q fun δ' σ' r' h1 h2 p => q δ' σ' r' h1 h2 (f δ' p)
section
variable {B : B0} {X : Cx} {a : Expr} {δ : St'} {Φ : PE1} {pos p2 p3 p4 : Pos} {k1 k2 : Nat}
theorem de_upto {r : V → Option Int → Option Int → Hp → VK → Prop} {i : Int} (hr : SlR X r) (h : DE B X a δ fun x δ1 => RU (bs X B) (fun v H Q => r v none (some i) H Q) x δ1 Φ) : DE B X (.Subscript a (.Slice none (some (.Constant (.int i) k1 p3)) none p2) pos) δ Φ :=
  .of (pe_slice hr pe_w po_none (po_some pe_int)) (we_sl (lo := none) (hi := some i) (fun _ _ _ q => q) (fun _ _ _ q => ⟨i, rfl, q⟩) h)
theorem dl_from {i : Int} {Ψ : PL} (h : DE B X a δ fun x δ1 => ∃ ds, x = .list ds ∧ Ψ (cutD ds (some i) none) δ1) : DLs B X (.Subscript a (.Slice (some (.Constant (.int i) k1 p3)) none none p2) pos) δ Ψ :=
  .of (pe_slice sl_list pe_w (po_some pe_int) po_none) (wl_sl (lo := some i) (hi := none) (fun _ _ _ q => ⟨i, rfl, q⟩) (fun _ _ _ q => q) h)
end
/-- a, b and a, b, c as targets -/
theorem pg_two {X : Cx} {x y : Str} {px py pos : Pos} {k : Nat} (i j : Nat) (nd : X.N.Nodup) (hc : X.calm = true := by rfl) (hi : X.N[i]? = some x := by rfl) (hx : Loc X.env.scope x := by first | exact .inl rfl | exact .inr rfl)
    (hf : X.fn x = true ∨ X.env.scope.names.lookup x = some .local := by first | exact .inl rfl | exact .inr rfl) (hj : X.N[j]? = some y := by rfl) (hy : Loc X.env.scope y := by first | exact .inl rfl | exact .inr rfl)
    (hg : X.fn y = true ∨ X.env.scope.names.lookup y = some .local := by first | exact .inl rfl | exact .inr rfl) : PG X (.Tuple [.Name x px, .Name y py] k pos) (gTup X.K 2 (gCons (gName i) (gCons (gName j) gNil))) :=
  pg_tup hc (pgs_cons (pg_name nd hi hx hf) (pgs_cons (pg_name nd hj hy hg) pgs_nil))
theorem pg_three {X : Cx} {x y z : Str} {px py pz pos : Pos} {k : Nat} (i j l : Nat) (nd : X.N.Nodup) (hc : X.calm = true := by rfl) (hi : X.N[i]? = some x := by rfl) (hx : Loc X.env.scope x := by first | exact .inl rfl | exact .inr rfl)
    (hf : X.fn x = true ∨ X.env.scope.names.lookup x = some .local := by first | exact .inl rfl | exact .inr rfl) (hj : X.N[j]? = some y := by rfl) (hy : Loc X.env.scope y := by first | exact .inl rfl | exact .inr rfl)
    (hg : X.fn y = true ∨ X.env.scope.names.lookup y = some .local := by first | exact .inl rfl | exact .inr rfl) (hl : X.N[l]? = some z := by rfl) (hz : Loc X.env.scope z := by first | exact .inl rfl | exact .inr rfl)
    (hh : X.fn z = true ∨ X.env.scope.names.lookup z = some .local := by first | exact .inl rfl | exact .inr rfl) : PG X (.Tuple [.Name x px, .Name y py, .Name z pz] k pos) (gTup X.K 3 (gCons (gName i) (gCons (gName j) (gCons (gName l) gNil)))) :=
  pg_tup hc (pgs_cons (pg_name nd hi hx hf) (pgs_cons (pg_name nd hj hy hg) (pgs_cons (pg_name nd hl hz hh) pgs_nil)))
theorem cutD_from1 {ds : List PyData} : cutD ds (some 1) none = ds.drop 1 := by
  unfold cutD
  rw [show HT.sIx ds.length 0 (some 1) = min 1 ds.length from HT.sIx_nat ds.length 0 1, HT.sIx_none]
  cases ds with
  | nil => rfl
  | cons x r =>
    rw [show min 1 (x :: r).length = 1 by rw [List.length_cons]; omega]
    show List.take ((x :: r).length - 1) r = r
    rw [List.length_cons, Nat.add_sub_cancel, List.take_length]
theorem cutD_upto {ds : List PyData} {k : Nat} : cutD ds none (some (k : Int)) = ds.take k := by
  unfold cutD
  rw [HT.sIx_nat, HT.sIx_none, Nat.sub_zero, List.drop_zero]
  rcases Nat.le_total k ds.length with h | h
  · rw [Nat.min_eq_left h]
  · rw [Nat.min_eq_right h, List.take_length, List.take_of_length_le h]
end DL
set_option maxHeartbeats 200000
set_option Elab.async false
set_option linter.all false
set_option maxRecDepth 100000
set_option maxHeartbeats 1000000
namespace DL
open PySem PySem.Spec PyProof.Rows L2
section
variable {B : B0} {X : Cx} {a e : Expr} {δ : St'} {N : St' → Prop} {Φ R : PE1} {pos p p2 p3 : Pos}
mutual
theorem noH_plain : ∀ d : PyData, d.plain = true → noH d = true
  | .none, _ => rfl
  | .bool _, _ => rfl
  | .int _, _ => rfl
  | .str _, _ => rfl
  | .list ds, h => noHs_plain ds h
  | .tuple ds, h => noHs_plain ds h
  | .dict _, h => by cases h
theorem noHs_plain : ∀ ds : List PyData, PyData.plainAll ds = true → noHs ds = true
  | [], _ => rfl
  | d :: ds, h => by
    have h' : (d.plain && PyData.plainAll ds) = true := h
    rw [Bool.and_eq_true] at h'
    show (noH d && noHs ds) = true
    rw [noH_plain d h'.1, noHs_plain ds h'.2]
    rfl
end
end
theorem rc_intB {B : Bs} {δ : St'} {Φ : PE1} {k : Bool} (p : Φ (.int (if k = true then 1 else 0)) δ) : RC B (fun xs H Q => (∃ i, xs = [.int i] ∧ Q (.int i) H) ∨ ∃ k, xs = [.bl k] ∧ Q (.int (if k = true then 1 else 0)) H) [.bool k] δ Φ := rc_pure (w := .int (if k = true then 1 else 0)) (fun _ => .int _) (fun F H vs e d1 Q q => by
  cases d1 with
  | cons h1 h2 =>
    cases h2
    cases h1
    exact .inr ⟨k, rfl, q⟩) p
theorem inV_strs {s : Str} {l : List Str} : inV (toV (.str s)) ((l.map PyData.str).map toV) = decide (s ∈ l) := by
  unfold inV
  induction l with
  | nil => simp
  | cons x r ih =>
    simp only [List.map_cons, List.any_cons, ih]
    by_cases e : x = s
    · subst e
      simp [toV, eqV]
    · have h1 : eqV (toV (.str x)) (toV (.str s)) = false := by
        show (x == s) = false
        exact beq_eq_false_iff_ne.mpr e
      rw [h1, Bool.false_or]
      have h2 : decide (s ∈ x :: r) = decide (s ∈ r) := by
        by_cases hr : s ∈ r
        · rw [decide_eq_true hr, decide_eq_true (List.mem_cons_of_mem _ hr)]
        · rw [decide_eq_false hr, decide_eq_false fun z => (List.mem_cons.mp z).elim (fun q => e q.symm) hr]
      rw [h2]
theorem rd_niStrL {B : Bs} {δ : St'} {Φ : PE1} {s : Str} {l : List Str} (p : Φ (.bool (!decide (s ∈ l))) δ) : RD B (rIn B.K true) (.str s) (.list (l.map PyData.str)) δ Φ := rd_inL rfl (by simp [atom]) (by
  rw [inV_strs]; exact p)
end DL
set_option maxHeartbeats 200000
set_option Elab.async false
set_option linter.all false
set_option maxRecDepth 100000
namespace DL
open PySem PySem.Spec PyProof.Rows L2
section
variable {B : B0} {X : Cx} {a b c e : Expr} {es : List Expr} {rest : List Stmt} {δ : St'} {Φ : PE1} {N : St' → Prop} {R : PE1} {p pos pp p2 p3 : Pos} {x pn : Str}
theorem Rep.potSet {B : Bs} {δ : St'} {σ : List (Option V)} {F H : Hp} {a : Addr} {n' : Nat} (r : Rep B δ σ F H) (hp : B.p = some a) {o : HO} (h : PotAt B.m (upd H a o) a n') : Rep B ⟨n', δ.s⟩ σ F (upd H a o) :=
  r.calledP hp (Same.refl F) (fun b z e => by
    have : b ≠ a := fun q => by
      rw [q, r.potF hp] at e
      cases e
    rw [upd_ne this]
    exact r.ex b z e) (fun b h1 _ => h1) (fun b z h1 h2 => by rw [upd_ne h2]; exact h1) h
theorem Rep.bump {B : Bs} {δ : St'} {σ : List (Option V)} {F H : Hp} {n' : Nat} (r : Rep B δ σ F H) (h : δ.n ≤ n') : Rep B ⟨n', δ.s⟩ σ F H :=
  ⟨r.ex, r.f0, r.fr, r.kp, fun a ha => by
    obtain ⟨h1, h2, x, y, z, h3, h4, h5, h6⟩ := r.pot a ha
    exact ⟨h1, h2, x, y, z, h3, h4, by show z ≤ ((n' : Nat) : Int); omega, pot_more h6 h⟩, r.cell, r.len, r.ap⟩
theorem dss_bump (n' : Nat) (h : δ.n ≤ n') (q : DSs B X rest ⟨n', δ.s⟩ N R) : DSs B X rest δ N R := fun σ F H r D hn hr => q σ F H (r.bump h) D hn hr
theorem de_pot0 (i : Nat) {k0} (h : ∀ v : Int, Φ (.int v) δ) (hi : δ.s[i]? = some (some .pot) := by rfl) (hN : X.N[i]? = some pn := by rfl)
    (hv : Vis X.env.scope pn := by first | exact Or.inl rfl | exact Or.inr (Or.inl rfl) | exact Or.inr (Or.inr rfl)) (hd : (pn == ("__debug__" : Str)) = false := by decide)
    (hcd : (pn == ("__classdict__" : Str)) = false := by decide) : DE B X (.Subscript (.Name pn pp) (.Constant (.int 0) k0 p2) pos) δ Φ :=
  .of (pe_ix ix_list (pe_var hN hv hd hcd) pe_int (fun _ _ => rfl)) fun σ F H r Q q => by
    obtain ⟨v, hv, a, rfl, hp, hm⟩ := r.cell i _ hi
    obtain ⟨x, y, z, h3, h4, h5⟩ := pot_num (hm ▸ (r.pot a hp).2.2)
    exact ⟨.ref a, hv, a, _, 0, .int x, rfl, rfl, .inl (.inl h3), rfl, q (.int x) (.int x) δ F H (Same.refl F) r (.int x) (h x)⟩
theorem de_pot1 (i : Nat) {k0} (h : ∀ v : Int, Φ (.int v) δ) (hi : δ.s[i]? = some (some .pot) := by rfl) (hN : X.N[i]? = some pn := by rfl)
    (hv : Vis X.env.scope pn := by first | exact Or.inl rfl | exact Or.inr (Or.inl rfl) | exact Or.inr (Or.inr rfl)) (hd : (pn == ("__debug__" : Str)) = false := by decide)
    (hcd : (pn == ("__classdict__" : Str)) = false := by decide) : DE B X (.Subscript (.Name pn pp) (.Constant (.int 1) k0 p2) pos) δ Φ :=
  .of (pe_ix ix_list (pe_var hN hv hd hcd) pe_int (fun _ _ => rfl)) fun σ F H r Q q => by
    obtain ⟨v, hv, a, rfl, hp, hm⟩ := r.cell i _ hi
    obtain ⟨x, y, z, h3, h4, h5⟩ := pot_num (hm ▸ (r.pot a hp).2.2)
    exact ⟨.ref a, hv, a, _, 1, .int y, rfl, rfl, .inl (.inl h3), rfl, q (.int y) (.int y) δ F H (Same.refl F) r (.int y) (h y)⟩
theorem de_pot2 (i : Nat) {k0} (h : ∀ v : Int, 0 ≤ v → v ≤ (δ.n : Int) → Φ (.int v) δ) (hi : δ.s[i]? = some (some .pot) := by rfl) (hN : X.N[i]? = some pn := by rfl)
    (hv : Vis X.env.scope pn := by first | exact Or.inl rfl | exact Or.inr (Or.inl rfl) | exact Or.inr (Or.inr rfl)) (hd : (pn == ("__debug__" : Str)) = false := by decide)
    (hcd : (pn == ("__classdict__" : Str)) = false := by decide) : DE B X (.Subscript (.Name pn pp) (.Constant (.int 2) k0 p2) pos) δ Φ :=
  .of (pe_ix ix_list (pe_var hN hv hd hcd) pe_int (fun _ _ => rfl)) fun σ F H r Q q => by
    obtain ⟨v, hv, a, rfl, hp, hm⟩ := r.cell i _ hi
    obtain ⟨x, y, z, h3, h4, h5⟩ := pot_num (hm ▸ (r.pot a hp).2.2)
    exact ⟨.ref a, hv, a, _, 2, .int z, rfl, rfl, .inl (.inl h3), rfl, q (.int z) (.int z) δ F H (Same.refl F) r (.int z) (h z h4 h5)⟩
/-- pot[0] = e -/
theorem ds_pot0 (i : Nat) {k0} (h : DE B X e δ fun d δ' => ∃ v : Int, d = .int v ∧ δ'.s[i]? = some (some .pot) ∧ N δ') (hN : X.N[i]? = some pn := by rfl)
    (hv : Vis X.env.scope pn := by first | exact Or.inl rfl | exact Or.inr (Or.inl rfl) | exact Or.inr (Or.inr rfl)) (hd : (pn == ("__debug__" : Str)) = false := by decide)
    (hcd : (pn == ("__classdict__" : Str)) = false := by decide) (hs : swapsWithSole [Expr.Subscript (.Name pn pp) (.Constant (.int 0) k0 p2) p3] e pos.line X.env = pure false := by rfl)
    (hw : swappedStores [Expr.Subscript (.Name pn pp) (.Constant (.int 0) k0 p2) p3] e X.env = pure none := by rfl) : DS B X (.Assign [.Subscript (.Name pn pp) (.Constant (.int 0) k0 p2) p3] e pos) δ N R :=
  .of (ps_asg pe_w (pg_sub (pe_var hN hv hd hcd) pe_int set_list) hs hw) fun σ F H r D hn hr => h σ F H r _ fun v x δ' F' H' e' r' d ⟨j, hx, hi, p⟩ => by
    subst hx
    cases d
    obtain ⟨u, hu, a, rfl, hp, hm⟩ := r'.cell i _ hi
    obtain ⟨x, y, z, h3, h4, h5⟩ := pot_num (hm ▸ (r'.pot a hp).2.2)
    exact ⟨.ref a, hu, a, _, 0, 0, rfl, rfl, h3, rfl, hn δ' σ F' _ e' (r'.potSet hp (n' := δ'.n) (hm ▸ num_pot (x := j) (y := y) (z := z) upd_same h4 h5)) p⟩
/-- pot[2] = e -/
theorem ds_pot2 (i : Nat) {k0} (h : DE B X e δ fun d δ' => ∃ (v : Int) (n' : Nat), d = .int v ∧ δ'.s[i]? = some (some .pot) ∧ 0 ≤ v ∧ v ≤ (n' : Int) ∧ N ⟨n', δ'.s⟩) (hN : X.N[i]? = some pn := by rfl)
    (hv : Vis X.env.scope pn := by first | exact Or.inl rfl | exact Or.inr (Or.inl rfl) | exact Or.inr (Or.inr rfl)) (hd : (pn == ("__debug__" : Str)) = false := by decide)
    (hcd : (pn == ("__classdict__" : Str)) = false := by decide) (hs : swapsWithSole [Expr.Subscript (.Name pn pp) (.Constant (.int 2) k0 p2) p3] e pos.line X.env = pure false := by rfl)
    (hw : swappedStores [Expr.Subscript (.Name pn pp) (.Constant (.int 2) k0 p2) p3] e X.env = pure none := by rfl) : DS B X (.Assign [.Subscript (.Name pn pp) (.Constant (.int 2) k0 p2) p3] e pos) δ N R :=
  .of (ps_asg pe_w (pg_sub (pe_var hN hv hd hcd) pe_int set_list) hs hw) fun σ F H r D hn hr => h σ F H r _ fun v x δ' F' H' e' r' d ⟨j, n', hx, hi, h6, h7, p⟩ => by
    subst hx
    cases d
    obtain ⟨u, hu, a, rfl, hp, hm⟩ := r'.cell i _ hi
    obtain ⟨x, y, z, h3, h4, h5⟩ := pot_num (hm ▸ (r'.pot a hp).2.2)
    exact ⟨.ref a, hu, a, _, 2, 2, rfl, rfl, h3, rfl, hn ⟨n', δ'.s⟩ σ F' _ e' (r'.potSet hp (n' := n') (hm ▸ num_pot (x := x) (y := y) (z := j) upd_same h6 h7)) p⟩
end
end DL
set_option maxHeartbeats 200000
set_option Elab.async false
set_option linter.all false
set_option maxRecDepth 100000
namespace DL
open PySem PySem.Spec PyProof.Rows L2
abbrev SpO := List PyData → (List PyData → Prop) → Prop
def spO (K : PySem.W.Frag) (S : SpO) : Sp := fun vs H Q _ => ∃ F ds Φ, Same F H ∧ DqAll K F vs ds ∧ S ds Φ ∧
  ∀ a us xs F' H', Same F F' → Same F' H' → (∀ b, F b = none → H b ≠ none → F' b = none) → (∀ b o, H b = some o → H' b = some o) → H a = none → F' a = none → H' a = some (.lst us) → DqAll K F' us xs → Φ xs → Q (.ref a) H'
/-- the same, that is handed the pot ahead -/
abbrev SpPO := Nat → List PyData → (List PyData → Nat → Prop) → Prop
def spPO (K : PySem.W.Frag) (S : SpPO) : Sp := fun vs H Q _ => ∃ F p vs' ds n Φ, vs = .ref p :: vs' ∧ Same F H ∧ F p = none ∧ PotAt none H p n ∧ DqAll K F vs' ds ∧ S n ds Φ ∧
  ∀ a us xs n' F' H', Same F F' → Same F' H' → (∀ b, F b = none → H b ≠ none → F' b = none) → (∀ b o, H b = some o → b ≠ p → H' b = some o) → PotAt none H' p n' → H a = none → F' a = none → H' a = some (.lst us) → DqAll K F' us xs → Φ xs n' → Q (.ref a) H'
/-- statements that end by telling a list of their own -/
def WO (B : Bs) (ts : TS) (δ : St') (R : List PyData → St' → Prop) : Prop := ∀ σ F H, Rep B δ σ F H → ∀ D : Ends, (∀ a us xs δ' σ' F' H', Same F F' → Rep B δ' σ' F' H' → B.H a = none → F' a = none → H' a = some (.lst us) → DqAll B.K F' us xs → R xs δ' → D.rt (.ref a) H') → ts D σ H
def DOs (B : B0) (X : Cx) (sts : List Stmt) (δ : St') (R : List PyData → St' → Prop) : Prop := WO (bs X B) (wSs X sts) δ R
section
variable {B : B0} {X : Cx} {a b c e : Expr} {es : List Expr} {st : Stmt} {rest : List Stmt} {δ : St'} {Φ : PE1} {R : List PyData → St' → Prop} {p pos pp p2 p3 : Pos} {x pn : Str}
theorem DOs.of {sts : List Stmt} {ts : TS} (q : PSs X sts ts) (h : WO (bs X B) ts δ R) : DOs B X sts δ R := fun σ F H r D z pins s I => q.run pins s σ H D I (h σ F H r D z)
theorem dos_cons (h : DS B X st δ (fun δ' => DOs B X rest δ' R) fun _ _ => False) : DOs B X (st :: rest) δ R := .of (pss_cons ps_w pss_w) fun σ F H r D z =>
  h σ F H r _ (fun δ' σ' F' H' e' r' q => q σ' F' H' r' D fun a us xs δ2 σ2 F2 H2 e2 => z a us xs δ2 σ2 F2 H2 (e'.trans e2)) fun v x δ' σ' F' H' e' r' d q => q.elim
theorem dos_ret (h : DLs B X e δ R) : DOs B X [.Return (some e) pos] δ R := .of (pss_one (ps_ret pe_w)) fun σ F H r D z =>
  h σ F H r _ fun a us xs δ' F' H' e' r' k1 k2 k3 k4 k5 k6 => z a us xs δ' σ F' H' e' r' k1 k2 k3 k5 k6
theorem dos_own (i : Nat) {xs : List PyData} (h : R xs δ) (hi : δ.s[i]? = some (some (.own xs)) := by rfl) (hN : X.N[i]? = some pn := by rfl)
    (hv : Vis X.env.scope pn := by first | exact Or.inl rfl | exact Or.inr (Or.inl rfl) | exact Or.inr (Or.inr rfl)) (hd : (pn == ("__debug__" : Str)) = false := by decide)
    (hcd : (pn == ("__classdict__" : Str)) = false := by decide) : DOs B X [.Return (some (.Name pn pp)) pos] δ R := .of (pss_one (ps_ret (pe_var hN hv hd hcd))) fun σ F H r D z => by
  obtain ⟨v, h1, a, us, rfl, h2, h3, h4, h5⟩ := r.cell i _ hi
  exact ⟨.ref a, h1, z a us xs δ σ F H (Same.refl F) r h2 h3 h4 h5 h⟩
end
section
variable {P : Program} {w : World} {K : PySem.W.Frag} {mg : Str → Option Value} {base : Heap} {x qual : Str} {st : Stmt} {f : Addr} {fd : FuncData} {N ps : List Str} {k : Nat}
theorem fnO {S : SpO} {dvs : List V} {kws : List (Str × V)} (F : FunD K x qual (defArgs st) (defBody st) (defScope st) dvs kws f fd) (sc : FnScope N ps (defScope st)) (len : ∀ ds Φ, S ds Φ → ds.length = ps.length)
    (body : ∀ (B : B0) (cdv : Value) (A : Around) (outer : List Env) (s : Shared) (H : Hp) (E : XK) (ds : List PyData) (Φ : List PyData → Prop), Room k (A.deeper (envOfC qual (defScope st) s.heap.objs.size f cdv)) → B.p = none → S ds Φ →
      DOs B (bodyX P w K mg base N qual (defScope st) f cdv A outer s H E) (defBody st) (ini N (ds.map C.d) 0) fun x _ => Φ x) : FnOk P w K mg base CX0 (k + 1) f fd ps (spO K S) := by
  refine F.ok sc (fun vs H Q E h => ?_) (fun cdv A outer s H vs Q E hr h => ?_)
  · obtain ⟨F', ds, Φ, _, hd, hS, _⟩ := h
    rw [dpAll_len hd]; exact len ds Φ hS
  · obtain ⟨F', ds, Φ, e, hd, hS, q⟩ := h
    refine ⟨_, PSs.nox pss_w, ?_⟩
    refine body ⟨F', H, none, none⟩ cdv A outer s H E ds Φ hr rfl hS (L2.start N vs) F' H (rep_iniD e hd) _ fun a us xs δ' σ' F2 H2 e2 r2 k1 k2 k3 k5 k6 => ?_
    exact q a us xs F2 H2 e2 r2.ex r2.fr (fun b o z => r2.kp b o z (fun y => by cases y)) k1 k2 k3 k5 k6
theorem fnPO {S : SpPO} {dvs : List V} {kws : List (Str × V)} (F : FunD K x qual (defArgs st) (defBody st) (defScope st) dvs kws f fd) (sc : FnScope N ps (defScope st)) (len : ∀ n ds Φ, S n ds Φ → ds.length + 1 = ps.length)
    (body : ∀ (B : B0) (cdv : Value) (A : Around) (outer : List Env) (s : Shared) (H : Hp) (E : XK) (n : Nat) (ds : List PyData) (Φ : List PyData → Nat → Prop), Room k (A.deeper (envOfC qual (defScope st) s.heap.objs.size f cdv)) → B.p ≠ none → S n ds Φ →
      DOs B (bodyX P w K mg base N qual (defScope st) f cdv A outer s H E) (defBody st) (ini N (.pot :: ds.map C.d) n) fun x δ => Φ x δ.n) : FnOk P w K mg base CX0 (k + 1) f fd ps (spPO K S) := by
  refine F.ok sc (fun vs H Q E h => ?_) (fun cdv A outer s H vs Q E hr h => ?_)
  · obtain ⟨F', p, vs', ds, n, Φ, rfl, _, _, _, hd, hS, _⟩ := h
    rw [List.length_cons, dpAll_len hd]; exact len n ds Φ hS
  · obtain ⟨F', p, vs', ds, n, Φ, rfl, e, hp, hpot, hd, hS, q⟩ := h
    refine ⟨_, PSs.nox pss_w, ?_⟩
    refine body ⟨F', H, some p, none⟩ cdv A outer s H E n ds Φ hr (fun z => by cases z) hS (L2.start N (.ref p :: vs')) F' H (rep_iniP e hp hpot hd) _ fun a us xs δ' σ' F2 H2 e2 r2 k1 k2 k3 k5 k6 => ?_
    exact q a us xs δ'.n F2 H2 e2 r2.ex r2.fr (fun b o h1 h2 => r2.kp b o h1 fun y => h2 (by injection y with y; exact y.symm)) (r2.pot p rfl).2.2 k1 k2 k3 k5 k6
end
section
variable {B : B0} {X : Cx} {e : Expr} {es : List Expr} {δ : St'} {Φ : PE1} {Ψ : List PyData → St' → Prop} {p pos pp : Pos} {k k' : Nat} {ps : List Str} {x pn : Str}
/-- f(e, ..) where f tells a list of its own -/
theorem dl_f {S : SpO} (G : Fn X.prog X.w X.K X.mg X.base x k ps (spO X.K S)) (hr : Room k' X.A) (h : DA B X (e :: es) δ fun ds δ' => S ds fun y => Ψ y δ') (hk : k ≤ k' := by decide)
    (hg : Gl X x := by rfl) (hdb : (x == ("__debug__" : Str)) = false := by decide) (he : starEach (e :: es) X.env = (false, eval e X.env) :: starEach es X.env := by rfl) (hpl : (backTo pos (starEach es X.env)).any (·.1) = false := by rfl) :
    DLs B X (.Call (.Name x p) (e :: es) [] pos) δ Ψ := by
  obtain ⟨f, fd, h1, h2, h3, h4⟩ := G.ex
  refine .of (pe_call h4 (hr.mono hk) hg h1 h2 h3 .nil pass0 pa_w hdb he hpl) fun σ F H r Q q => h σ F H r _ fun vs ds δ' F' H' e1 r' d hS => ⟨F', ds, _, r'.ex, (by rw [List.append_nil]; exact d), hS, fun a us xs F2 H2 q1 q2 q3 q4 q5 q6 q7 q8 q9 => ?_⟩
  obtain ⟨j1, j2, j3, j4⟩ := r'.fresh q5
  exact q a us xs δ' F2 H2 (e1.trans q1) (r'.called q1 q2 q3 q4) j1 q6 q7 j4 q8 q9
theorem upd_eq {H : Hp} {a : Addr} {o : HO} (h : H a = some o) : upd H a o = H := by
  funext b
  by_cases e : b = a
  · rw [e, upd_same, h]
  · rw [upd_ne e]
/-- behind a call that was handed a list of our own as its pot -/
theorem Rep.calledO {B : Bs} {δ : St'} {σ : List (Option V)} {F H F' H' : Hp} {i : Nat} {xs : List PyData} {a : Addr} {n' : Nat} (r : Rep B δ σ F H) (hi : δ.s[i]? = some (some (.own xs))) (hσ : σ[i]? = some (some (.ref a))) (e1 : Same F F') (e2 : Same F' H') (fr : ∀ b, F b = none → H b ≠ none → F' b = none)
    (kp : ∀ b o, H b = some o → b ≠ a → H' b = some o) (pot : PotAt none H' a n') : ∃ x y z : Int, 0 ≤ z ∧ z ≤ (n' : Int) ∧ Rep B (δ.put i (.own [.int x, .int y, .int z])) σ F' H' := by
  obtain ⟨v, h1, a', us, rfl, h2, h3, h4, h5⟩ := r.cell i _ hi
  rw [hσ] at h1
  have : a = a' := by injection h1 with h1; injection h1 with h1; injection h1
  subst this
  obtain ⟨x, y, z, h6, h7, h8⟩ := pot_num pot
  have hF' : F' a = none := fr a h3 (by rw [h4]; exact fun q => by cases q)
  have r1 : Rep B δ σ F' (upd H' a (.lst us)) := r.called e1 (fun b o q => by
    have : b ≠ a := fun z => by rw [z, hF'] at q; cases q
    rw [upd_ne this]; exact e2 b o q) fr (fun b o q => by
    by_cases e : b = a
    · subst e
      rw [h4] at q
      rw [upd_same]; exact q
    · rw [upd_ne e]; exact kp b o q e)
  have r2 := r1.write (c2 := .own [.int x, .int y, .int z]) (o := .lst [.int x, .int y, .int z]) hi rfl hσ h2 hF' rfl ⟨a, _, rfl, h2, hF', upd_same, .cons (.int _) (.cons (.int _) (.cons (.int _) .nil))⟩
  rw [upd_upd, upd_eq h6] at r2
  exact ⟨x, y, z, h7, h8, r2⟩
end
end DL
set_option maxHeartbeats 200000
set_option Elab.async false
set_option linter.all false
set_option maxRecDepth 100000
namespace DL
open PySem PySem.Spec PyProof.Rows L2
section
variable {B : B0} {X : Cx} {a b c e ix : Expr} {es : List Expr} {st : Stmt} {rest : List Stmt} {δ : St'} {Φ : PE1} {N : St' → Prop} {R : PE1} {p pos pp p2 p3 : Pos} {x pn : Str}
theorem rc_int2 {B : Bs} {δ : St'} {Φ : PE1} {f : Int → Int → Int} {i j : Int} (p : Φ (.int (f i j)) δ) : RC B (fun xs H Q => ∃ i j, xs = [V.int i, .int j] ∧ Q (.int (f i j)) H) [.int i, .int j] δ Φ := rc_pure (w := .int (f i j)) (fun _ => .int _) (fun F H vs e d1 Q q => by
  cases d1 with
  | cons d1 d2 => cases d2 with
    | cons d2 d3 => cases d3; cases d1; cases d2; exact ⟨i, j, rfl, q⟩) p
theorem dl_rep {Ψ : PL} (h : DLs B X a δ fun xs δ1 => DE B X b δ1 fun y δ2 => ∃ n : Nat, y = .int (n : Nat) ∧ n ≤ 1000 ∧ xs.length ≤ 100 ∧ Ψ (List.replicate n xs).flatten δ2) : DLs B X (.BinOp a .Mult b pos) δ Ψ := .of (pe_op op_rep pe_w pe_w) (wl_rep h)
end
theorem atI_nn {α : Type} {xs : List α} {k : Int} (h0 : 0 ≤ k) : atI xs k = xs[k.toNat]? := by
  unfold atI ixN
  rw [if_pos h0]
  split
  · rfl
  · rw [List.getElem?_eq_none (by omega)]; rfl
end DL
set_option maxHeartbeats 200000
set_option Elab.async false
set_option linter.all false
set_option maxRecDepth 100000
namespace DL
open PySem PySem.Spec PyProof.Rows L2
section
variable {B : B0} {X : Cx} {a b c e o : Expr} {δ : St'} {Φ : PE1} {p pos pp p2 p3 : Pos}
theorem strs_v {K : PySem.W.Frag} {F : Hp} {us : List V} {ys : List Str} (h : DqAll K F us (ys.map PyData.str)) : us = ys.map V.str := by
  rw [atoms_v h (by simp [atom]), List.map_map]
  rfl
/-- x.join(a list of texts) -/
theorem de_join {apos : Pos} (h : DE B X o δ fun x δ1 => ∃ a, x = .str a ∧ DE B X e δ1 fun y δ2 => ∃ ys : List Str, y = .list (ys.map PyData.str) ∧ (ys.map (·.length)).sum + ys.length * a.length ≤ 16777216 ∧ Φ (.str (Txt.join a ys)) δ2)
    (hs : starEach [e] X.env = [(false, eval e X.env)] := by rfl) (hbase : attributeBase o "join" X.env (eval o X.env) = eval o X.env := by rfl) (hline : (apos.endLine == pos.line) = true := by rfl) :
    DE B X (.Call (.Attribute o "join" apos) [e] [] pos) δ Φ := .of (pe_join pe_w pe_w hs hbase hline) fun σ F H r Q q => h σ F H r _ fun v x δ1 F1 H1 e1 r1 d1 ⟨a, hx, p1⟩ => by
  subst hx
  cases d1
  refine ⟨⟨a, rfl⟩, p1 σ F1 H1 r1 _ fun u y δ2 F2 H2 e2 r2 d2 ⟨ys, hy, hz, p2⟩ => ?_⟩
  subst hy
  cases d2 with
  | lst hsq ha =>
    rw [strs_v ha] at hsq
    exact ⟨a, _, ys, rfl, rfl, .inl (r2.ex.seq hsq), hz, q _ _ δ2 F2 H2 (e1.trans e2) r2 (.str _) p2⟩
theorem dl_cat {Ψ : PL} (h : DE B X a δ fun x δ1 => ∃ xs, x = .list xs ∧ DE B X b δ1 fun y δ2 => ∃ ys, y = .list ys ∧ xs.length + ys.length ≤ 100000 ∧ Ψ (xs ++ ys) δ2) : DLs B X (.BinOp a .Add b pos) δ Ψ := .of (pe_op op_catL pe_w pe_w) (wl_cat h)
end
theorem joinL_nil : ∀ ps : List (List Nat), TL.joinL [] ps = ps.flatten
  | [] => rfl
  | [p] => by simp [TL.joinL]
  | p :: q :: r => by
    show p ++ ([] ++ TL.joinL [] (q :: r)) = _
    rw [joinL_nil (q :: r)]
    simp
end DL
set_option maxHeartbeats 200000
set_option Elab.async false
set_option linter.all false
set_option maxRecDepth 100000
namespace DL
open PySem PySem.Spec PyProof.Rows L2
section
variable {K : PySem.W.Frag} {x qual : Str} {params : Arguments} {body : List Stmt} {scope : Scope} {kws : List (Str × V)} {f : Addr} {fd : FuncData} {ps : List Str}
/-- keyword-only defaults, no others: f(e, .., k = v, ..); ms: those that lack -/
theorem kbinds0 (F : FunD K x qual params body scope [] kws f fd) (n : Nat) (ks : List Str) (ms : List (Str × V)) (g : {α : Type} → List α → List α → List α → List α) (hk : kws ≠ []) (hms : ∀ q ∈ ms, q ∈ kws)
    (hrel : ∀ {vs mz zs : List V} {us mv ws : List Value}, Vals vs us → Vals mz mv → Vals zs ws → Vals (g vs mz zs) (g us mv ws))
    (h : ∀ (D : Addr) (doc pm : Value) (an : Option Addr) (cdv ct : Value) (us mv ws : List Value), us.length = n → mv.length = ms.length → ws.length = ks.length →
      KwChain D ((ms.map (·.1)).zip mv) (bindArgs (PySem.W.fnOf x qual params body scope .none (.ref D) doc pm an cdv ct) ⟨us, ks.zip ws⟩) (ps.zip (g us mv ws))) :
    ∃ mv : List Value, KBn K fd ps n ks (fun us ws => g us mv ws) (fun vs zs => g vs (ms.map (·.2)) zs) := by
  obtain ⟨oc, od, dV, kV, doc, pm, an, cdv, ct, osl, rfl, lk, hcd, hD, hK⟩ := F.ex
  rcases hD with ⟨_, rfl⟩ | ⟨e, _⟩
  · rcases hK with e | ⟨D, rfl, hq⟩
    · exact absurd e hk
    · obtain ⟨mv, hl, rk, hks⟩ := kwd_vals (ms := ms) fun q hm => hq q (hms q hm)
      exact ⟨mv, ⟨fun s us ws X l1 l2 => BindsTo.of_looks fun M => KwChain.looks X hks (h D doc pm an cdv ct us mv ws l1 hl l2), fun r1 r2 => hrel r1 rk r2⟩⟩
  · exact absurd rfl e
end
/-- a def of the text that is called with keywords ks -/
structure FnKw (P : Program) (w : World) (K : PySem.W.Frag) (mg : Str → Option Value) (base : Heap) (x : Str) (k : Nat) (ps : List Str) (n : Nat) (ks : List Str) (gV : List V → List V → List V) (sp : Sp) : Prop where
  ex : ∃ f fd g, mg x = some (.ref f) ∧ PySem.W.keepIn K (.ref f) = true ∧ KBn K fd ps n ks g gV ∧ FnOk P w K mg base CX0 k f fd ps sp
section
variable {B : B0} {X : Cx} {e : Expr} {es : List Expr} {kws : List Keyword} {δ : St'} {Φ : PE1} {p pos : Pos} {k k' n : Nat} {ps ks : List Str} {x : Str} {gV : List V → List V → List V} {tk : TA}
theorem de_fKw {S : SpD} (gD : List PyData → List PyData → List PyData) (G : FnKw X.prog X.w X.K X.mg X.base x k ps n ks gV (spD X.K S)) (hr : Room k' X.A) (hkw : PK X kws tk)
    (hg2 : ∀ {F : Hp} {vs zs : List V} {ds es : List PyData}, DqAll X.K F vs ds → DqAll X.K F zs es → DqAll X.K F (gV vs zs) (gD ds es))
    (h : DA B X (e :: es) δ fun ds δ1 => WA (bs X B) tk δ1 fun zs δ2 => ds.length = n ∧ zs.length = ks.length ∧ S (gD ds zs) fun y => Φ y δ2) (hk : k ≤ k' := by decide)
    (hg : Gl X x := by rfl) (hall : (backToKw pos (keywordEach kws X.env)).all (·.1.isSome) = true := by rfl) (hks : (backToKw pos (keywordEach kws X.env)).filterMap (·.1) = ks := by rfl)
    (hdb : (x == ("__debug__" : Str)) = false := by decide) (he : starEach (e :: es) X.env = (false, eval e X.env) :: starEach es X.env := by rfl)
    (hpl : ((backTo pos (starEach (e :: es) X.env)).any (·.1) || (backToKw pos (keywordEach kws X.env)).any (·.1.isNone)) = false := by rfl) :
    DE B X (.Call (.Name x p) (e :: es) kws pos) δ Φ := by
  obtain ⟨f, fd, g, h1, h2, h3, h4⟩ := G.ex
  refine .of (pe_callN h4 (hr.mono hk) hg h1 h2 h3 pass0 pa_w hkw hall hks hdb he hpl) fun σ F H r Q q => h σ F H r _ fun vs ds δ1 F1 H1 e1 r1 d1 p1 => p1 σ F1 H1 r1 _ fun zs es' δ2 F2 H2 e2 r2 d2 ⟨l1, l2, hS⟩ => ?_
  refine ⟨(dpAll_len d1).trans l1, (dpAll_len d2).trans l2, F2, _, _, r2.ex, hg2 (dpAll_mono e2 _ _ d1) d2, hS, fun v y F3 H3 q1 q2 q3 q4 q5 q6 => ?_⟩
  exact q v y δ2 F3 H3 (e1.trans (e2.trans q1)) (r2.called q1 q2 q3 q4) q5 q6
end
end DL
set_option maxHeartbeats 200000
set_option Elab.async false
set_option linter.all false
set_option maxRecDepth 100000
namespace DL
open PySem PySem.Spec PyProof.Rows L2
abbrev Gm := Addr → Option (List PyData)
/-- the begin B tells of these lists: they stand still -/
def StIn (B : Bs) (G : Gm) : Prop := ∀ a xs, G a = some xs → ∃ vs, B.H a = some (.lst vs) ∧ DqAll B.K B.F vs xs ∧ B.F a = none ∧ B.p ≠ some a
theorem StIn.sub {B B' : B0} {X : Cx} {X' : Cx} {G : Gm} (h : StIn (bs X B) G) (s : Sub B B') (e : X'.K = X.K) : StIn (bs X' B') G := fun a xs ha => by
  obtain ⟨vs, h1, h2, h3, h4⟩ := h a xs ha
  obtain ⟨s1, s2, s3, s4⟩ := s
  refine ⟨vs, s4 a _ h1 h4, ?_, s3 a h3 (fun z => by rw [show B.H a = _ from h1] at z; cases z), fun z => h4 (s1 ▸ z)⟩
  show DqAll X'.K B'.F vs xs
  rw [e]
  exact dpAll_mono s2 _ _ h2
section
variable {B : Bs} {δ : St'} {Φ : PE1} {G : Gm}
theorem StIn.get (hG : StIn B G) {σ : List (Option V)} {F H : Hp} (r : Rep B δ σ F H) {a : Addr} {xs : List PyData} (h : G a = some xs) : ∃ vs, H a = some (.lst vs) ∧ DqAll B.K F vs xs ∧ F a = none := by
  obtain ⟨vs, h1, h2, h3, h4⟩ := hG a xs h
  exact ⟨vs, r.kp a _ h1 h4, dpAll_mono r.f0 _ _ h2, r.fr a h3 (fun z => by rw [h1] at z; cases z)⟩
end
end DL
set_option maxHeartbeats 200000
set_option Elab.async false
set_option linter.all false
set_option maxRecDepth 100000
namespace DL
open PySem PySem.Spec PyProof.Rows L2
/-- the store as it stands: lists of nobody but the handles -/
structure Sto1 (B : Bs) (δ : St') (σ : List (Option V)) (F H : Hp) (a : Addr) (xs : List PyData) : Prop where
  at' : ∃ vs, H a = some (.lst vs) ∧ DqAll B.K F vs xs
  fF : F a = none
  bH : B.H a = none
  np : B.p ≠ some a
  ap : ∀ (i : Nat) (c : C), δ.s[i]? = some (some c) → own? c = true → σ[i]? ≠ some (some (.ref a))
def Sto (B : Bs) (G : Gm) (δ : St') (σ : List (Option V)) (F H : Hp) : Prop := ∀ a xs, G a = some xs → Sto1 B δ σ F H a xs
def B0.on (B : B0) (G : Gm) (F H : Hp) : B0 := ⟨F, fun b => if (G b).isSome = true then H b else B.H b, B.p, B.m⟩
section
variable {B : B0} {X : Cx} {G : Gm} {δ δ' : St'} {σ σ' : List (Option V)} {F H F' H' : Hp}
theorem on_some {a : Addr} {xs : List PyData} (h : G a = some xs) : (B.on G F H).H a = H a := by
  show (if (G a).isSome = true then H a else B.H a) = _
  rw [h]; rfl
theorem Sto1.ne {B : Bs} {a : Addr} {xs : List PyData} (h : Sto1 B δ σ F H a xs) : H a ≠ none := by
  obtain ⟨vs, h1, _⟩ := h.at'
  rw [h1]
  exact fun z => by cases z
theorem StIn.on (s : Sto (bs X B) G δ σ F H) : StIn (bs X (B.on G F H)) G := fun a xs h => by
  obtain ⟨⟨vs, h1, h2⟩, h3, h4, h5, _⟩ := s a xs h
  exact ⟨vs, (on_some h).trans h1, h2, h3, h5⟩
end
end DL
set_option maxHeartbeats 200000
set_option Elab.async false
set_option linter.all false
set_option maxRecDepth 100000
namespace DL
open PySem PySem.Spec PyProof.Rows L2
end DL
set_option maxHeartbeats 200000
set_option Elab.async false
set_option linter.all false
set_option maxRecDepth 100000
namespace DL
open PySem PySem.Spec PyProof.Rows L2
end DL
set_option maxHeartbeats 200000
set_option Elab.async false
set_option linter.all false
set_option maxRecDepth 100000
namespace DL
open PySem PySem.Spec PyProof.Rows L2
def StoH (K : PySem.W.Frag) (G : Gm) (p : Option Addr) (F H : Hp) : Prop := ∀ a xs, G a = some xs → (∃ vs, H a = some (.lst vs) ∧ DqAll K F vs xs) ∧ F a = none ∧ p ≠ some a
section
variable {B : B0} {X : Cx} {G G' : Gm} {δ δ' : St'} {σ σ' : List (Option V)} {F H F2 H2 : Hp} {p : Addr} {n' : Nat}
theorem StIn.out {B : Bs} (hG : StIn B G) (r : Rep B δ σ F H) : StoH B.K G none F H := fun a xs h => by
  obtain ⟨vs, h1, h2, h3⟩ := hG.get r h
  exact ⟨⟨vs, h1, h2⟩, h3, fun z => by cases z⟩
end
end DL
set_option maxHeartbeats 200000
set_option Elab.async false
set_option linter.all false
set_option maxRecDepth 100000
namespace DL
open PySem PySem.Spec PyProof.Rows L2
section
variable {B : B0} {X : Cx} {G : Gm} {δ : St'} {N : St' → Gm → Prop} {R : PyData → St' → Gm → Prop} {Φ : PyData → St' → Gm → Prop} {st : Stmt} {rest : List Stmt} {e : Expr} {es : List Expr} {p pos pp p2 p3 : Pos} {x pn : Str} {k k' : Nat} {ps : List Str}
theorem Sto.side {B : Bs} {σ : List (Option V)} {F H : Hp} (s : Sto B G δ σ F H) {a : Addr} {o : HO} (h : H a = none) : Sto B G δ σ F (upd H a o) := fun b xs hb => by
  have hn : b ≠ a := fun z => (s b xs hb).ne (by rw [z]; exact h)
  obtain ⟨vs, h1, h2⟩ := (s b xs hb).at'
  exact ⟨⟨vs, by rw [upd_ne hn]; exact h1, h2⟩, (s b xs hb).fF, (s b xs hb).bH, (s b xs hb).np, (s b xs hb).ap⟩
theorem Sto.free {B : Bs} {σ : List (Option V)} {F H : Hp} (s : Sto B G δ σ F H) {a : Addr} (h : H a = none) : G a = none := by
  cases g : G a with
  | none => rfl
  | some xs => exact absurd h (s a xs g).ne
theorem Sto.putO {B : Bs} {σ : List (Option V)} {F H : Hp} (s : Sto B G δ σ F H) (i : Nat) {a : Addr} {c : C} (h : G a = none) : Sto B G (δ.put i c) (σ.set i (some (.ref a))) F H := fun b xs hb => by
  refine ⟨(s b xs hb).at', (s b xs hb).fF, (s b xs hb).bH, (s b xs hb).np, fun j c' hj ho hs => ?_⟩
  rcases put_get hj with ⟨rfl, rfl, hl⟩ | ⟨hne, hj'⟩
  · rw [List.getElem?_set] at hs
    rw [if_pos rfl] at hs
    split at hs
    · injection hs with hs
      injection hs with hs
      injection hs with hs
      rw [hs, hb] at h
      cases h
    · cases hs
  · rw [List.getElem?_set, if_neg (Ne.symm hne)] at hs
    exact (s b xs hb).ap j c' hj' ho hs
end
end DL
set_option maxHeartbeats 200000
set_option Elab.async false
set_option linter.all false
set_option maxRecDepth 100000
namespace DL
open PySem PySem.Spec PyProof.Rows L2
end DL
set_option maxHeartbeats 200000
set_option Elab.async false
set_option linter.all false
set_option maxRecDepth 100000
namespace DL
open PySem PySem.Spec PyProof.Rows L2
end DL
set_option maxHeartbeats 200000
set_option Elab.async false
set_option linter.all false
set_option maxRecDepth 100000
namespace DL
open PySem PySem.Spec PyProof.Rows L2
open PySem.W (alike alikeAll dataLt dataLe AllAlike Sortable EachIs)
section
variable {X : Cx}
def rNeNil (K : PySem.W.Frag) : R2 := fun x y H Q => ∃ a b xs, x = .ref a ∧ y = .ref b ∧ SqL K H a xs ∧ SqL K H b [] ∧ Q (.bl (!xs.isEmpty)) H
theorem op_neNil (hu : X.A.units + 64 < cLine) : OpR X (compareOp .NotEq) (rNeNil X.K) := by
  intro pins s σ H x y v u Q I rx ry h
  obtain ⟨a, b, xs, rfl, rfl, h1, h2, q⟩ := h
  cases rx
  cases ry
  obtain ⟨its, r1, ⟨o, n, e1, e2, _, e3⟩, _⟩ := I.list h1
  obtain ⟨its2, r2, ⟨o2, n2, k1, k2, _, k3⟩, _⟩ := I.list h2
  have l1 := r1.length
  have l2 := r2.length
  have hl : s.heap.IsList a its.toArray := ⟨o, e1, e2, n, e3⟩
  have hl2 : s.heap.IsList b its2.toArray := ⟨o2, k1, k2, n2, k3⟩
  have z2 : its2.toArray.size = 0 := by rw [List.size_toArray, ← l2]; rfl
  cases xs with
  | nil =>
    have z1 : its.toArray.size = 0 := by rw [List.size_toArray, ← l1]; rfl
    have := PySem.SeqAt.RcNeAt.lists (A := X.A) (e := fun _ => true) hl hl2 (by rw [z1, z2]) (by omega) (fun j j1 => absurd j1 (by omega))
    rw [z1] at this
    exact this X.prog X.w X.xe _ ⟨.bl false, H, I, rfl, q⟩
  | cons x xs =>
    have z1 : its.toArray.size ≠ 0 := by
      rw [List.size_toArray, ← l1, List.length_cons]
      omega
    exact PySem.SeqAt.RcNeAt.lists_lengths (A := X.A) hl hl2 (by rw [z2]; simpa using z1) (by omega) X.prog X.w X.xe _ ⟨.bl true, H, I, rfl, q⟩
end
section
variable {B : Bs} {δ : St'} {Φ : PE1}
theorem isEmpty_dq {K : PySem.W.Frag} {F : Hp} {us : List V} {xs : List PyData} (h : DqAll K F us xs) : us.isEmpty = xs.isEmpty := by
  cases h <;> rfl
theorem rd_neNil {xs : List PyData} (p : Φ (.bool (!xs.isEmpty)) δ) : RD B (rNeNil B.K) (.list xs) (.list []) δ Φ :=
  rd_pure (w := .bl (!xs.isEmpty)) (fun _ => .bl _) (fun F H v u e d1 d2 Q q => by
    cases d1 with
    | lst hs ha =>
      cases d2 with
      | lst hs2 ha2 =>
        cases ha2
        refine ⟨_, _, _, rfl, rfl, e.seq hs, e.seq hs2, ?_⟩
        rw [isEmpty_dq ha]
        exact q) p
end
end DL
set_option maxHeartbeats 200000
set_option Elab.async false
set_option linter.all false
set_option maxRecDepth 100000
namespace DL
open PySem PySem.Spec PyProof.Rows L2
/-- what a def promises where nothing is being shown -/
structure FnSh (P : Program) (w : World) (K : PySem.W.Frag) (mg : Str → Option Value) (base : Heap) (k : Nat) (f : Addr) (fd : FuncData) (ps : List Str) (sp : Sp) : Prop where
  ln : ∀ xs H Q E, sp xs H Q E → xs.length = ps.length
  go : ∀ (A : Around) (out : List Env) (s : Shared) (H : Hp) (ar : Args) (us : List Value) (xs : List V) (Q : VK) (E : XK), A.guards = some [] → Room k A → Env0 P w K mg base A out s H →
    BindsTo s fd ar (ps.zip us) → Vals xs us → sp xs H Q E → codeAny (model P w) A (.call (.ref f) ar) (CR CX0 out P w H s Q E) s
section
variable {P : Program} {w : World} {K : PySem.W.Frag} {mg : Str → Option Value} {base : Heap} {x qual : Str} {st : Stmt} {f : Addr} {fd : FuncData} {N ps : List Str} {k : Nat} {sp : Sp}
theorem FnSh.of {dvs : List V} {kws : List (Str × V)} (F : FunD K x qual (defArgs st) (defBody st) (defScope st) dvs kws f fd) (sc : FnScope N ps (defScope st)) (ln : ∀ xs H Q E, sp xs H Q E → xs.length = ps.length)
    (bd : ∀ (cdv : Value) (A : Around) (out : List Env) (s : Shared) (H : Hp) (xs : List V) (Q : VK) (E : XK), A.guards = some [] → Room k (A.deeper (envOfC qual (defScope st) s.heap.objs.size f cdv)) → sp xs H Q E →
      ∃ t, PSs (cxOf CX0 P w K mg base N qual (defScope st) f cdv A out s H E) (defBody st) t ∧ t { nx := fun _ G => Q .non G, rt := Q } (L2.start N xs) H) : FnSh P w K mg base (k + 1) f fd ps sp := by
  obtain ⟨o1, o2, d1, d2, c1, c2, an, cdv, ct, sl, rfl, hlk, hcode, -, -⟩ := F.ex
  constructor
  · exact ln
  intro A out s H ar us xs Q E hgd rm ev hbd hv hp
  have long := ln xs H Q E hp
  have inK : K.In s.heap := ev.mod.kin.keeps fun a o e => (ev.bs a o e).1
  have nol : s.heap.NoLimit := ev.mod.nolimit.keeps fun a o e => (ev.bs a o e).1
  have kinds : ∀ y, y ∈ ps.zip us → (defScope st).names.lookup y.1 = some .local ∨ ((defScope st).names.lookup y.1 = some .cell ∧ ((cellsFrom (s.heap.objs.size + 1) (defScope st).names []).lookup y.1).isSome = true) := by
    intro y hy
    cases sc.par y.1 (List.of_mem_zip hy).1 with
    | inl h => exact .inl h
    | inr h => exact .inr ⟨h, PySem.W.cellsFrom_some _ _ _ (.inl h)⟩
  apply codeAny_call_function rm.depth (inK _ _ hlk) rfl sc.co sc.gen rfl (PySem.W.codeRec_of inK hcode)
  apply hbd
  apply wpAny_newFunctionEnv_cells sc.kind kinds
  intro env0 rfl s1 made
  constructor
  · exact nol.keeps made.toInCall.keep
  apply codeAny_func
  obtain ⟨t, run, now⟩ := bd cdv A out s H xs Q E hgd (rm.deeper _) hp
  have inv := inv_start (CX := CX0) (E := E) sc rm.hd ev long hv made
  refine wpAny_mono (run.run [] s1 _ H _ inv now) ?_ fun _ _ z => z
  intro fl s2 hs
  cases fl with
  | brk => obtain ⟨_, _, _, z⟩ := hs; exact z.elim
  | cont => obtain ⟨_, _, _, z⟩ := hs; exact z.elim
  | next => obtain ⟨_, H2, J, z⟩ := hs; exact ⟨.non, H2, J.os, J.bare, J.base, J.hok, rfl, z⟩
  | ret u => obtain ⟨v, _, H2, J, rv, z⟩ := hs; exact ⟨v, H2, J.os, J.bare, J.base, J.hok, rv, z⟩
theorem FnSh.mono {j : Nat} (F : FnSh P w K mg base j f fd ps sp) (h : j ≤ k) : FnSh P w K mg base k f fd ps sp := ⟨F.ln, fun A out s H ar us xs Q E hg rm => F.go A out s H ar us xs Q E hg (rm.mono h)⟩
theorem FnOk.sh (F : FnOk P w K mg base CX0 k f fd ps sp) : FnSh P w K mg base k f fd ps sp := ⟨F.len, fun A out s H ar us xs Q E _ rm => F.run A out s H ar us xs Q E rm⟩
end
end DL
set_option maxHeartbeats 200000
set_option Elab.async false
set_option linter.all false
set_option maxRecDepth 100000
namespace DL
open PySem PySem.Spec PyProof.Rows L2
section
variable {P : Program} {w : World} {K : PySem.W.Frag} {mg mb : Str → Option Value} {k : Nat} {fa a : Addr} {fd : FuncData} {x : Str} {sp : Sp} {s : Shared} {vs : List Value} {ns : List Int}
abbrev EndOf (s : Shared) : Result → Shared → Prop := fun r s' => r = .ok (.ret (.bool true)) ∧ OldK s.heap s'.heap ∧ s'.os = s.os ∧ AllBare s'.gens
end
end DL
set_option maxHeartbeats 200000
set_option Elab.async false
set_option linter.all false
set_option maxRecDepth 100000
namespace DL
open PySem PySem.Spec PyProof.Rows L2
/-- a def that shows things, by its name -/
structure FnH (P : Program) (w : World) (K : PySem.W.Frag) (mg : Str → Option Value) (base : Heap) (x : Str) (k : Nat) (ps : List Str) (sp : Sp) : Prop where
  ex : ∃ f fd, mg x = some (.ref f) ∧ PySem.W.keepIn K (.ref f) = true ∧ Binds K fd ps [] ∧ FnSh P w K mg base k f fd ps sp
theorem Fn.sh {P : Program} {w : World} {K : PySem.W.Frag} {mg : Str → Option Value} {base : Heap} {x : Str} {k : Nat} {ps : List Str} {sp : Sp} (h : Fn P w K mg base x k ps sp) : FnH P w K mg base x k ps sp := by
  obtain ⟨f, fd, h1, h2, h3, h4⟩ := h.ex
  exact ⟨f, fd, h1, h2, h3, FnOk.sh h4⟩
section
variable {B : B0} {X : Cx} {a b c e : Expr} {es : List Expr} {δ : St'} {Φ : PE1} {p pos pp p2 : Pos} {k k' : Nat} {ps : List Str} {x pn : Str}
/-- it can be shown -/
structure Fit (d : PyData) : Prop where
  sh : d.showable = true
  nd : d.hasDict = false
  dp : d.depth ≤ 60
  sz : d.shown.length ≤ sizeLine
  nh : noH d = true
  rf : ∃ xs, d = .tuple xs ∨ d = .list xs
def rShow (K : PySem.W.Frag) : List V → Hp → VK → Prop := fun vs H Q => ∃ v d, vs = [v] ∧ Dp K H v d ∧ Fit d ∧ Q (.str d.shown) H
theorem cr_repr (hgd : X.A.guards = some []) (hu : X.A.units + 70 < cLine) : CallR X (.builtin "repr") (rShow X.K) := by
  intro pins s σ H vs us Q I r h
  obtain ⟨v, d, rfl, hd, ft, q⟩ := h
  obtain ⟨u, rfl, ru⟩ := vals1 r
  obtain ⟨as, rd⟩ := Dp.reads I d v u hd ru
  obtain ⟨xs, hx⟩ := ft.rf
  obtain ⟨a, rfl⟩ : ∃ a, u = Value.ref a := by
    rcases hx with rfl | rfl
    · cases hd with
      | tup _ _ => exact ⟨_, ru⟩
    · cases hd with
      | lst _ _ => exact ⟨_, ru⟩
  have hdp := ft.dp
  refine repr_of_reads' rd ft.sh (fun z => by rw [ft.nd] at z; cases z) hgd (by omega) (fun _ _ z => z) (fun h' u tk hk => ?_) ft.sz
  exact ⟨.str d.shown, H, I.kept hk, ⟨_, rfl⟩, q⟩
theorem rc_show {B : Bs} {δ : St'} {Φ : PE1} {d : PyData} (ft : Fit d) (p : Φ (.str d.shown) δ) : RC B (rShow B.K) [d] δ Φ := rc_pure (w := .str d.shown) (fun _ => .str _) (fun F H vs e hd Q q => by
  cases hd with
  | cons h1 h2 =>
    cases h2
    exact ⟨_, d, rfl, dq_dp _ _ ft.nh (dp_mono e _ _ h1), ft, q⟩) p
end
theorem weightAll_le {m : Nat} : ∀ {xs : List PyData}, (∀ x ∈ xs, x.weight ≤ m) → PyData.weightAll xs ≤ (m + 1) * xs.length
  | [], _ => by simp [PyData.weightAll]
  | x :: xs, h => by
    have h1 := h x List.mem_cons_self
    have h2 := weightAll_le (xs := xs) fun y hy => h y (List.mem_cons_of_mem _ hy)
    rw [List.length_cons, Nat.mul_add, Nat.mul_one]
    simp only [PyData.weightAll]
    omega
theorem shortAll {B : Nat} : ∀ {xs : List PyData}, (∀ x ∈ xs, x.leavesShort B = true) → PyData.leavesShortAll B xs = true
  | [], _ => rfl
  | x :: xs, h => by
    simp only [PyData.leavesShortAll, Bool.and_eq_true]
    exact ⟨h x List.mem_cons_self, shortAll fun y hy => h y (List.mem_cons_of_mem _ hy)⟩
theorem showAll : ∀ {xs : List PyData}, (∀ x ∈ xs, x.showable = true) → PyData.showableAll xs = true
  | [], _ => rfl
  | x :: xs, h => by
    simp only [PyData.showableAll, Bool.and_eq_true]
    exact ⟨h x List.mem_cons_self, showAll fun y hy => h y (List.mem_cons_of_mem _ hy)⟩
theorem noDictAll : ∀ {xs : List PyData}, (∀ x ∈ xs, x.hasDict = false) → PyData.hasDictAll xs = false
  | [], _ => rfl
  | x :: xs, h => by
    simp only [PyData.hasDictAll, Bool.or_eq_false_iff]
    exact ⟨h x List.mem_cons_self, noDictAll fun y hy => h y (List.mem_cons_of_mem _ hy)⟩
theorem deepAll {m : Nat} : ∀ {xs : List PyData}, (∀ x ∈ xs, x.depth ≤ m) → PyData.depthAll xs ≤ m
  | [], _ => by simp [PyData.depthAll]
  | x :: xs, h => by
    simp only [PyData.depthAll]
    have := h x List.mem_cons_self
    have := deepAll (xs := xs) fun y hy => h y (List.mem_cons_of_mem _ hy)
    omega
theorem noHsAll : ∀ {xs : List PyData}, (∀ x ∈ xs, noH x = true) → noHs xs = true
  | [], _ => rfl
  | x :: xs, h => by
    show (noH x && noHs xs) = true
    rw [h x List.mem_cons_self, noHsAll fun y hy => h y (List.mem_cons_of_mem _ hy)]
    rfl
/-- small, to any bound -/
structure Sm (d : PyData) (wt dp : Nat) : Prop where
  sh : d.showable = true
  nd : d.hasDict = false
  dp : d.depth ≤ dp
  wt : d.weight ≤ wt
  ls : d.leavesShort 13 = true
  nh : noH d = true
theorem Sm.tup {xs : List PyData} {wt dp m : Nat} (h : ∀ x ∈ xs, Sm x wt dp) (hl : xs.length ≤ m) : Sm (.tuple xs) ((wt + 1) * m) (dp + 1) := by
  refine ⟨?_, ?_, ?_, ?_, ?_, ?_⟩
  · simp only [PyData.showable]; exact showAll fun x hx => (h x hx).sh
  · simp only [PyData.hasDict]; exact noDictAll fun x hx => (h x hx).nd
  · have := deepAll fun x hx => (h x hx).dp
    simp only [PyData.depth]
    omega
  · simp only [PyData.weight]
    exact Nat.le_trans (weightAll_le fun x hx => (h x hx).wt) (Nat.mul_le_mul_left _ hl)
  · simp only [PyData.leavesShort]; exact shortAll fun x hx => (h x hx).ls
  · show noHs xs = true
    exact noHsAll fun x hx => (h x hx).nh
theorem Sm.mono {d : PyData} {wt dp wt' dp' : Nat} (h : Sm d wt dp) (h1 : wt ≤ wt') (h2 : dp ≤ dp') : Sm d wt' dp' := ⟨h.sh, h.nd, Nat.le_trans h.dp h2, Nat.le_trans h.wt h1, h.ls, h.nh⟩
end DL
set_option maxHeartbeats 200000
set_option Elab.async false
set_option linter.all false
set_option maxRecDepth 100000
set_option maxHeartbeats 1000000
namespace DL
open PySem PySem.Spec PyProof.Rows L2
end DL
set_option maxHeartbeats 200000
set_option Elab.async false
set_option linter.all false
set_option maxRecDepth 100000
set_option maxHeartbeats 1000000
namespace DL
open PySem PySem.Spec PyProof.Rows L2
theorem end_bare {X : Cx} {pins : List (Addr × Obj)} {σ : L2.St} {H1 H2 : Hp} {Q : XK} {hp hp2 h2 : Heap} {g1 g2 : Array GenState} {d1 d2 : Drawn} {t1 t2 : Nat} {os1 os2 : OsState} {a C : Addr}
    (T : Raises X (.ref C)) (I1 : Inv X pins σ H1 ⟨hp, g1, d1, t1, os1⟩) (ha : hp.objs.size ≤ a) (k : ∀ b o, hp.get? b = some o → hp2.get? b = some o)
    (un : Un (frs X.stack) [] (upd H1 a (exo a C none)) H2 hp2 h2) (hok : HOk X.prog X.w H2 h2) (ho : os2 = os1) (hb : AllBare g2) (ea : H2 a = some (exo a C none)) (q : Q (.ref C) none (del H2 a)) :
    MkP X pins σ Q (.ref a) ⟨h2, g2, d2, t2, os2⟩ := by
  obtain ⟨t0, hoe⟩ := exo_at hok ea
  have hn := HOk.fresh I1.hok ha
  obtain ⟨G, r1, r2⟩ := restrict h2 fun b => decide (b ≠ a)
  have gk : ∀ b, b ≠ a → G.get? b = h2.get? b := fun b hb => r1 b (decide_eq_true hb)
  have ge : G.get? a = none := r2 a (by simp)
  have nha : ∀ {b : Addr} {o : Obj}, hp.get? b = some o → b ≠ a := fun z => Nat.ne_of_lt (Nat.lt_of_lt_of_le (Heap.lt_size z) ha)
  have up : ∀ {b : Addr}, b ≠ a → H1 b = none → upd H1 a (exo a C none) b = none := fun hb n => by rw [upd_ne hb]; exact n
  have some_ne : ∀ {b : Addr} {o : HO}, H1 b = some o → b ≠ a := fun z e => by rw [e, hn] at z; cases z
  have U : Un (frs X.stack) [] H1 (del H2 a) hp G := by
    refine ⟨fun b o z n hf hx => ?_, fun b o z n hf hx => ?_, fun b o z n hx => ?_, fun b o z hx => ?_, fun b xs z => ?_, fun b o v z => ?_, fun b ps z => ?_⟩
    · rw [gk b (nha z)]; exact un.keep b o (k b o z) (up (nha z) n) hf hx
    · rw [gk b (nha z)]; exact un.slot b o (k b o z) (up (nha z) n) hf hx
    · rw [del_ne (nha z)]; exact un.free b o (k b o z) (up (nha z) n) hx
    · rw [gk b (nha z)]; exact un.there b o (k b o z) hx
    · rw [del_ne (some_ne z)]; exact un.tups b xs (by rw [upd_ne (some_ne z)]; exact z)
    · rw [del_ne (some_ne z)]; exact un.frzs b o v (by rw [upd_ne (some_ne z)]; exact z)
    · rw [del_ne (some_ne z)]; exact un.tbls b ps (by rw [upd_ne (some_ne z)]; exact z)
  have hok3 : HOk X.prog X.w (del H2 a) G := fun b o z => by
    have hba : b ≠ a := fun e => by rw [e, del_same] at z; cases z
    rw [del_ne hba] at z
    have noa : ∀ {c : Addr}, H2 c = some (.own b) → c ≠ a := fun hc => at_ne ea hc exo_own
    refine ObjOk.stay (hok b o z) (fun c v hc y => ?_) (fun c hc => ?_) (fun c xs hc => ?_)
    · rw [gk c (by
        rcases hc with hc | hc
        · rw [hc]; exact hba
        · exact noa hc)]
      exact y
    · rw [del_ne (noa hc)]; exact hc
    · rw [del_ne (at_ne ea hc exo_tup)]; exact hc
  have J := Inv.call' (s' := ⟨G, g2, d2, t2, os2⟩) (ch := []) I1 ho U hok3 hb fun b z => by cases z
  refine ⟨a, _, _, ⟨G, g2, d2, t2, os2⟩, del H2 a, .ref C, none, rfl, J, fun b o z => ?_, ge, hoe, ⟨rfl, rfl⟩, rfl, rfl, del_same, rfl, hb, T, q⟩
  by_cases hba : b = a
  · have z' : G.get? b = some o := z
    rw [hba, ge] at z'; cases z'
  · rw [← gk b hba]; exact z
theorem pmk_bare {X : Cx} {e : Expr} {es : List Expr} {ta : TA} {p pos : Pos} {CX : CXT} {x : Str} {C fI : Addr} {k : Nat} {fd : FuncData} {ps : List Str} {sp : Sp}
    (T : OexC X.K C) (iC : PySem.W.findIn X.K (.ref C) "__init__" = some (some (.ref fI))) (tI : PySem.W.typeIn X.K (.ref fI) = some (.type "function")) (F1 : FnOk X.prog X.w X.K X.mg X.base CX k fI fd ps sp)
    (hr : Room (k + 1) X.A) (hb : Binds X.K fd ps []) (hx : Passes CX X fun _ _ _ => False) (hg : Gl X x) (hm : X.mg x = some (.ref C)) (ha : PA X (e :: es) ta)
    (hdb : (x == ("__debug__" : Str)) = false := by decide) (he : starEach (e :: es) X.env = (false, eval e X.env) :: starEach es X.env := by rfl) (hpl : (backTo pos (starEach es X.env)).any (·.1) = false := by rfl) :
    PMk X (.Call (.Name x p) (e :: es) [] pos) (fun σ H Q => ta σ H fun vs H1 => vs.length ≤ 1000 ∧ ∀ a, H1 a = none → sp (.ref a :: vs) (upd H1 a (exo a C none)) (fun v H2 => v = .non ∧ H2 a = some (exo a C none) ∧ Q (.ref C) none (del H2 a)) fun _ _ _ => False) := by
  intro pins s σ H Q I h
  obtain ⟨nm, q, N, bs, bm, sn, sub, ab, col, dd, k0, k1, k2, k3, k5, hC, hbm⟩ := T.cls
  refine wpAny_Call_Name_kw (ld_glob I hg hm (PySem.W.callWith_K I.ok.mod.kin T.kC (thn (ha.run pos pins s σ H _ I h) fun us s1 x => ?_) he hpl) hdb)
  obtain ⟨vs, H1, I1, r1, hz, q1⟩ := x
  refine ⟨I1.kIn, ?_⟩
  obtain ⟨hp, g, dr, tk, os⟩ := s1
  have hsz := Nat.le_succ hp.objs.size
  have hn := HOk.fresh I1.hok hsz
  have hq := q1 (hp.objs.size + 1) hn
  have kk : ∀ b o, hp.get? b = some o → ((hp.push (PySem.W.kdv_tup us)).push (HandSPX.excO C hp.objs.size)).get? b = some o := fun b o e => Heap.get?_push_of_some _ (Heap.get?_push_of_some _ e)
  have hget : ((hp.push (PySem.W.kdv_tup us)).push (HandSPX.excO C hp.objs.size)).get? (hp.objs.size + 1) = some (HandSPX.excO C hp.objs.size) := Heap.get?_push_at (by rw [Heap.size_push]) rfl
  have I2 := Inv.laid (t' := tk) I1 kk hsz (exo_ok hget)
  have r2 : Vals (V.ref (hp.objs.size + 1) :: vs) (Value.ref (hp.objs.size + 1) :: us) := Paired.cons rfl r1
  have hl : (Value.ref (hp.objs.size + 1) :: us).length = ps.length := by
    have := F1.len _ _ _ _ hq
    rw [← r2.length]; exact this
  have hus : us.length ≤ sizeLine := by
    have := r1.length
    rw [sizeLine_eq]; omega
  refine wpAny_call (HandSPX.call_own PySem.F.excBase_ValueError (fun Y => HandSPX.refsVE_contains Y bm hbm) (I1.kIn C _ hC) (PySem.W.looks_findIn I1.kIn iC) (fun self => PySem.W.bind_fn I1.kIn self tI) hus
    (codeAny_mono (F1.run (X.A.under (Code.builtin "type.__call__" ⟨.ref C :: us, []⟩)) X.stack ⟨(hp.push (PySem.W.kdv_tup us)).push (HandSPX.excO C hp.objs.size), g, dr, tk, os⟩ _ ⟨.ref (hp.objs.size + 1) :: us, []⟩ (.ref (hp.objs.size + 1) :: us) _ _ _ (hr.make C us []) (I2.env0.make C us []) (by simpa using hb _ _ I2.kIn (by simpa using hl)) r2 hq) fun r s' hq' => ?_))
  cases r with
  | error er => exact hx pins σ _ _ er s' I2 hq'
  | ok fl => cases fl with
    | ret u =>
      obtain ⟨v, H2, os2, bare2, un2, hok2, rv, ev, ea, q2⟩ := hq'
      subst ev
      obtain ⟨h2, g2, d2, t2, os'⟩ := s'
      exact ⟨rv, end_bare (raises_own T.exC T.tyC) I1 hsz kk un2 hok2 os2 bare2 ea q2⟩
    | _ => exact hq'.elim
end DL
set_option maxHeartbeats 200000
set_option Elab.async false
set_option linter.all false
set_option maxRecDepth 100000
set_option maxHeartbeats 1000000
namespace DL
open PySem PySem.Spec PyProof.Rows L2
/-- with what arguments, what it tells, with which class it refuses -/
abbrev SpDX := List PyData → (PyData → Prop) → (Value → Prop) → Prop
def spDX (K : PySem.W.Frag) (S : SpDX) : Sp := fun vs H Q E => ∃ F ds Φ Ξ, Same F H ∧ DqAll K F vs ds ∧ S ds Φ Ξ ∧
  (∀ v y F' H', Same F F' → Same F' H' → (∀ b, F b = none → H b ≠ none → F' b = none) → (∀ b o, H b = some o → H' b = some o) → Dq K F' v y → Φ y → Q v H') ∧
  ∀ cls F' H', Same F F' → Same F' H' → (∀ b, F b = none → H b ≠ none → F' b = none) → (∀ b o, H b = some o → H' b = some o) → Ξ cls → E cls none H'
/-- what may be raised here, and at which state -/
def TakesD (B : B0) (X : Cx) (Ξ : Value → St' → Prop) : Prop := ∃ W : WX, Takes X W ∧ ∀ cls δ σ F H, Rep (bs X B) δ σ F H → Ξ cls δ → W cls none σ H
theorem TakesD.mono {B : B0} {X : Cx} {Ξ Ξ' : Value → St' → Prop} (h : TakesD B X Ξ) (f : ∀ c δ, Ξ' c δ → Ξ c δ) : TakesD B X Ξ' := by
  obtain ⟨W, h1, h2⟩ := h
  exact ⟨W, h1, fun cls δ σ F H r x => h2 cls δ σ F H r (f _ _ x)⟩
structure FnX (P : Program) (w : World) (K : PySem.W.Frag) (mg : Str → Option Value) (base : Heap) (x : Str) (k : Nat) (ps : List Str) (sp : Sp) : Prop where
  ex : ∃ f fd, mg x = some (.ref f) ∧ PySem.W.keepIn K (.ref f) = true ∧ Binds K fd ps [] ∧ FnOk P w K mg base (L2.CX P w) k f fd ps sp
abbrev bodyXX (P : Program) (w : World) (K : PySem.W.Frag) (mg : Str → Option Value) (base : Heap) (N : List Str) (qual : Str) (sc : Scope) (f : Addr) (cdv : Value) (A : Around) (outer : List Env) (s : Shared) (H : Hp) (E : XK) : Cx :=
  cxOf (L2.CX P w) P w K mg base N qual sc f cdv A outer s H E
section
variable {P : Program} {w : World} {K : PySem.W.Frag} {mg : Str → Option Value} {base : Heap} {x qual : Str} {st : Stmt} {f : Addr} {fd : FuncData} {N ps : List Str} {k : Nat}
theorem fnDX {S : SpDX} {dvs : List V} {kws : List (Str × V)} (F : FunD K x qual (defArgs st) (defBody st) (defScope st) dvs kws f fd) (sc : FnScope N ps (defScope st)) (len : ∀ ds Φ Ξ, S ds Φ Ξ → ds.length = ps.length)
    (body : ∀ (B : B0) (cdv : Value) (A : Around) (outer : List Env) (s : Shared) (H : Hp) (E : XK) (ds : List PyData) (Φ : PyData → Prop) (Ξ : Value → Prop), Room k (A.deeper (envOfC qual (defScope st) s.heap.objs.size f cdv)) → B.p = none → S ds Φ Ξ →
      TakesD B (bodyXX P w K mg base N qual (defScope st) f cdv A outer s H E) (fun cls _ => Ξ cls) →
      DSs B (bodyXX P w K mg base N qual (defScope st) f cdv A outer s H E) (defBody st) (ini N (ds.map C.d) 0) (fun _ => Φ .none) fun x _ => Φ x) : FnOk P w K mg base (L2.CX P w) (k + 1) f fd ps (spDX K S) := by
  refine F.ok sc (fun vs H Q E h => ?_) (fun cdv A outer s H vs Q E hr h => ?_)
  · obtain ⟨F', ds, Φ, Ξ, _, hd, hS, _⟩ := h
    rw [dpAll_len hd]; exact len ds Φ Ξ hS
  · obtain ⟨F', ds, Φ, Ξ, e, hd, hS, q, qx⟩ := h
    refine ⟨_, pss_w, ?_⟩
    have tk : TakesD ⟨F', H, none, none⟩ (bodyXX P w K mg base N qual (defScope st) f cdv A outer s H E) (fun cls _ => Ξ cls) := by
      refine ⟨fun cls d _ H => E cls d H, takes_of rfl rfl rfl rfl, fun cls δ σ F2 H2 r2 z => ?_⟩
      exact qx cls F2 H2 r2.f0 r2.ex r2.fr (fun b o z => r2.kp b o z (fun y => by cases y)) z
    refine body ⟨F', H, none, none⟩ cdv A outer s H E ds Φ Ξ hr rfl hS tk (L2.start N vs) F' H (rep_iniD e hd) _ (fun δ' σ' F2 H2 e2 r2 p => ?_) fun v x δ' σ' F2 H2 e2 r2 d2 p => ?_
    · exact q .non .none F2 H2 e2 r2.ex r2.fr (fun b o z => r2.kp b o z (fun y => by cases y)) .non p
    · exact q v x F2 H2 e2 r2.ex r2.fr (fun b o z => r2.kp b o z (fun y => by cases y)) d2 p
end
section
variable {B : B0} {X : Cx} {a b c e : Expr} {es : List Expr} {δ : St'} {Φ : PE1} {p pos pp p2 : Pos} {k k' : Nat} {ps : List Str} {x pn : Str}
/-- f(e, ..), of a def that may refuse -/
theorem de_fX {S : SpDX} {Ξ : Value → St' → Prop} (G : FnX X.prog X.w X.K X.mg X.base x k ps (spDX X.K S)) (tk : TakesD B X Ξ) (hr : Room k' X.A) (h : DA B X (e :: es) δ fun ds δ' => S ds (fun y => Φ y δ') fun cls => Ξ cls δ') (hk : k ≤ k' := by decide)
    (hg : Gl X x := by rfl) (hdb : (x == ("__debug__" : Str)) = false := by decide) (he : starEach (e :: es) X.env = (false, eval e X.env) :: starEach es X.env := by rfl) (hpl : (backTo pos (starEach es X.env)).any (·.1) = false := by rfl) :
    DE B X (.Call (.Name x p) (e :: es) [] pos) δ Φ := by
  obtain ⟨W, hT, hW⟩ := tk
  obtain ⟨f, fd, h1, h2, h3, h4⟩ := G.ex
  refine .of (pe_callS h4 (hr.mono hk) hg h1 h2 h3 (fun σ => passAt hT σ) pa_w hdb he hpl) fun σ F H r Q q => h σ F H r _ fun vs ds δ' F' H' e1 r' d hS => ?_
  exact ⟨F', ds, _, _, r'.ex, d, hS, fun v y F2 H2 q1 q2 q3 q4 q5 q6 => q v y δ' F2 H2 (e1.trans q1) (r'.called q1 q2 q3 q4) q5 q6, fun cls F2 H2 q1 q2 q3 q4 q5 => hW cls δ' σ F2 H2 (r'.called q1 q2 q3 q4) q5⟩
end
def spIni (K : PySem.W.Frag) : Sp := fun vs H Q _ => ∃ a C m, vs = [V.ref a, .str m] ∧ OexC K C ∧ H a = some (exo a C none) ∧ Q .non H
/-- a class whose __init__ only hands the text on -/
structure OwnX (P : Program) (w : World) (K : PySem.W.Frag) (mg : Str → Option Value) (base : Heap) (x : Str) (C : Addr) : Prop where
  T : OexC K C
  m : mg x = some (.ref C)
  ini : ∃ fI fd, PySem.W.findIn K (.ref C) "__init__" = some (some (.ref fI)) ∧ PySem.W.typeIn K (.ref fI) = some (.type "function") ∧ Binds K fd ["self", "text"] [] ∧ FnOk P w K mg base CX0 1 fI fd ["self", "text"] (spIni K)
section
variable {B : B0} {X : Cx} {δ : St'} {N : St' → Prop} {R : PE1} {p p2 pos pos' : Pos} {x : Str} {m : Str} {j : Nat} {C : Addr} {Ξ : Value → St' → Prop}
theorem ds_raise (O : OwnX X.prog X.w X.K X.mg X.base x C) (tk : TakesD B X Ξ) (hr : Room 2 X.A) (h : Ξ (.ref C) δ) (hc : X.calm = true := by rfl) (hg : Gl X x := by rfl) (hdb : (x == ("__debug__" : Str)) = false := by decide)
    (he : starEach [.Constant (.str m) j p2] X.env = (false, eval (.Constant (.str m) j p2) X.env) :: starEach [] X.env := by rfl) (hpl : (backTo pos (starEach [] X.env)).any (·.1) = false := by rfl) :
    DS B X (.Raise (some (.Call (.Name x p) [.Constant (.str m) j p2] [] pos)) none pos') δ N R := by
  obtain ⟨W, hT, hW⟩ := tk
  obtain ⟨fI, fd, i1, i2, i3, i4⟩ := O.ini
  refine .of (ps_raise hc hT (pmk_bare O.T i1 i2 i4 hr i3 pass0 hg O.m (pa_cons pe_str pa_nil he) hdb he hpl)) fun σ F H r D hn hr => ?_
  refine ⟨by simp, fun a ha => ⟨a, C, m, rfl, O.T, upd_same, rfl, upd_same, ?_⟩⟩
  have : del (upd H a (exo a C none)) a = H := by
    funext b
    by_cases hb : b = a
    · rw [hb, del_same, ha]
    · rw [del_ne hb, upd_ne hb]
  rw [this]
  exact hW _ δ σ F H r h
end
end DL
set_option maxHeartbeats 200000
set_option Elab.async false
set_option linter.all false
set_option maxRecDepth 100000
set_option maxHeartbeats 1000000
namespace DL
open PySem PySem.Spec PyProof.Rows L2
/-- the same, later on -/
structure Later (B B1 : B0) : Prop where
  F : Same B.F B1.F
  H : B1.H = B.H
  p : B1.p = B.p
  m : B1.m = B.m
  fr : ∀ b, B.F b = none → B.H b ≠ none → B1.F b = none
theorem Rep.toLater {w : World} {K : PySem.W.Frag} {B : B0} {δ : St'} {σ : List (Option V)} {F H : Hp} (r : Rep ⟨B, w, K⟩ δ σ F H) : Later B ⟨F, B.H, B.p, B.m⟩ ∧ Rep ⟨⟨F, B.H, B.p, B.m⟩, w, K⟩ δ σ F H := by
  refine ⟨⟨r.f0, rfl, rfl, rfl, r.fr⟩, r.ex, Same.refl F, fun b h _ => h, r.kp, fun a h => ⟨r.potF h, (r.pot a h).2⟩, fun i c h => ?_, r.len, r.ap⟩
  obtain ⟨v, hv, hc⟩ := r.cell i c h
  refine ⟨v, hv, ?_⟩
  cases c <;> exact hc
theorem Rep.ofLater {w : World} {K : PySem.W.Frag} {B B1 : B0} (u : Later B B1) {δ : St'} {σ : List (Option V)} {F H : Hp} (hp : ∀ a, B.p = some a → B.F a = none) (r : Rep ⟨B1, w, K⟩ δ σ F H) : Rep ⟨B, w, K⟩ δ σ F H := by
  refine ⟨r.ex, u.F.trans r.f0, fun b h1 h2 => r.fr b (u.fr b h1 h2) (by show B1.H b ≠ none; rw [u.H]; exact h2), fun b o h1 h2 => r.kp b o (by show B1.H b = some o; rw [u.H]; exact h1) (by show B1.p ≠ some b; rw [u.p]; exact h2), fun a h => ?_, fun i c h => ?_, r.len, r.ap⟩
  · have q := r.pot a (by show B1.p = some a; rw [u.p]; exact h)
    exact ⟨hp a h, by have := q.2.1; rw [u.H] at this; exact this, (show PotAt B.m H a δ.n from u.m ▸ q.2.2)⟩
  · obtain ⟨v, hv, hc⟩ := r.cell i c h
    refine ⟨v, hv, ?_⟩
    cases c with
    | d x => exact hc
    | own xs =>
      obtain ⟨a, us, h1, h2, h3⟩ := hc
      exact ⟨a, us, h1, by rw [u.H] at h2; exact h2, h3⟩
    | dct kvs =>
      obtain ⟨a, us, h1, h2, h3⟩ := hc
      exact ⟨a, us, h1, by rw [u.H] at h2; exact h2, h3⟩
    | gen pa mk kvs =>
      obtain ⟨a, us, h1, h2, h3⟩ := hc
      exact ⟨a, us, h1, by rw [u.H] at h2; exact h2, h3⟩
    | iset ls =>
      obtain ⟨a, h1, h2, h3⟩ := hc
      exact ⟨a, h1, by rw [u.H] at h2; exact h2, h3⟩
    | pot =>
      obtain ⟨a, h1, h2, h3⟩ := hc
      exact ⟨a, h1, u.p.symm.trans h2, u.m.symm.trans h3⟩
    | bor =>
      obtain ⟨a, h1, h2, h3⟩ := hc
      exact ⟨a, h1, u.p.symm.trans h2, fun z => h3 (u.m.trans z)⟩
theorem TakesD.none {B : B0} {X : Cx} : TakesD B X fun _ _ => False :=
  ⟨fun _ _ _ _ => False, fun u s' h => by
    obtain ⟨_, _, _, _, _, _, _, _, _, _, _, _, _, _, _, _, f⟩ := h
    exact f.elim, fun _ _ _ _ _ _ z => z⟩
end DL
set_option maxHeartbeats 200000
set_option Elab.async false
set_option linter.all false
set_option maxRecDepth 100000
set_option maxHeartbeats 1000000
namespace DL
open PySem PySem.Spec PyProof.Rows L2
section
variable {B : Bs} {δ : St'} {Φ : PE1} {te th tl : TE}
theorem we_slTo {r : V → Option Int → Option Int → Hp → VK → Prop} (h : WE B te δ fun x δ1 => WE B th δ1 fun y δ2 => ∃ i : Int, y = .int i ∧ RU B (fun v H Q => r v none (some i) H Q) x δ2 Φ) : WE B (tSl r te tNoPart (tPart th)) δ Φ := fun σ F H rp Q q =>
  h σ F H rp _ fun v x δ1 F1 H1 e1 r1 d1 p1 => p1 σ F1 H1 r1 _ fun u y δ2 F2 H2 e2 r2 d2 ⟨i, hy, p2⟩ => by
    subst hy
    cases d2
    exact ⟨i, rfl, p2 σ F2 H2 r2 v (dp_mono e2 _ _ d1) Q fun v' x' δ' F' H' e' r' d' p' => q v' x' δ' F' H' ((e1.trans e2).trans e') r' d' p'⟩
theorem we_slFrom {r : V → Option Int → Option Int → Hp → VK → Prop} (h : WE B te δ fun x δ1 => WE B tl δ1 fun y δ2 => ∃ i : Int, y = .int i ∧ RU B (fun v H Q => r v (some i) none H Q) x δ2 Φ) : WE B (tSl r te (tPart tl) tNoPart) δ Φ := fun σ F H rp Q q =>
  h σ F H rp _ fun v x δ1 F1 H1 e1 r1 d1 p1 => p1 σ F1 H1 r1 _ fun u y δ2 F2 H2 e2 r2 d2 ⟨i, hy, p2⟩ => by
    subst hy
    cases d2
    exact ⟨i, rfl, p2 σ F2 H2 r2 v (dp_mono e2 _ _ d1) Q fun v' x' δ' F' H' e' r' d' p' => q v' x' δ' F' H' ((e1.trans e2).trans e') r' d' p'⟩
/-- (..) + (..) -/
theorem rd_catT {xs ys : List PyData} (hl : xs.length + ys.length ≤ 100000) (p : Φ (.tuple (xs ++ ys)) δ) : RD B (rCatA B.K) (.tuple xs) (.tuple ys) δ Φ := fun σ F H r v u d1 d2 Q q => by
  cases d1 with
  | tup hs ha hp =>
    cases d2 with
    | tup hs2 ha2 hp2 =>
      rename_i us _ _ us2
      have l1 := dpAll_len ha
      have l2 := dpAll_len ha2
      refine ⟨_, _, _, _, rfl, rfl, seqT r.ex hs, seqT r.ex hs2, Nat.le_trans (by omega) (by decide : 100000 ≤ sizeLine), fun e => ?_, fun e1 e2 => ?_, fun e1 e2 l hl => ?_⟩
      · subst e
        cases ha
        exact q _ _ δ F H (Same.refl F) r (.tup hs2 ha2 hp2) p
      · subst e2
        cases ha2
        rw [List.append_nil] at p
        exact q _ _ δ F H (Same.refl F) r (.tup hs ha hp) p
      · obtain ⟨F2, k1, k2, _, _, k5⟩ := r.newT hl (dpAll_app ha ha2)
        exact q _ _ δ F2 _ k1 k2 k5 p
end
section
variable {B : B0} {X : Cx} {a e : Expr} {δ : St'} {Φ : PE1} {pos p2 : Pos}
/-- a[:e], a[e:] -/
theorem de_slTo {r : V → Option Int → Option Int → Hp → VK → Prop} (hr : SlR X r) (h : DE B X a δ fun x δ1 => DE B X e δ1 fun y δ2 => ∃ i : Int, y = .int i ∧ RU (bs X B) (fun v H Q => r v none (some i) H Q) x δ2 Φ) : DE B X (.Subscript a (.Slice none (some e) none p2) pos) δ Φ :=
  .of (pe_slice hr pe_w po_none (po_some pe_w)) (we_slTo h)
theorem de_slFrom {r : V → Option Int → Option Int → Hp → VK → Prop} (hr : SlR X r) (h : DE B X a δ fun x δ1 => DE B X e δ1 fun y δ2 => ∃ i : Int, y = .int i ∧ RU (bs X B) (fun v H Q => r v (some i) none H Q) x δ2 Φ) : DE B X (.Subscript a (.Slice (some e) none none p2) pos) δ Φ :=
  .of (pe_slice hr pe_w (po_some pe_w) po_none) (we_slFrom h)
end
end DL
set_option maxHeartbeats 200000
set_option Elab.async false
set_option linter.all false
set_option maxRecDepth 100000
set_option maxHeartbeats 1000000
namespace DL
open PySem PySem.Spec PyProof.Rows L2
def keyD : L2.Key → PyData
  | .inl i => .int i
  | .inr x => .str x
def putD (kvs : List (L2.Key × PyData)) (k : L2.Key) (x : PyData) : List (L2.Key × PyData) := if (kvs.any fun kv => decide (kv.1 = k)) = true then kvs.map (fun kv => if kv.1 = k then (kv.1, x) else kv) else kvs ++ [(k, x)]
end DL
set_option maxHeartbeats 200000
set_option Elab.async false
set_option linter.all false
set_option maxRecDepth 100000
set_option maxHeartbeats 1000000
namespace DL
open PySem PySem.Spec PyProof.Rows L2
theorem rd_out {F : Hp} {p a : Addr} {m : List (L2.Key × V)} (hp : F p = some (.dK m)) {u : HO} (hu : (∃ xs, u = .lst xs) ∨ ∃ xs, u = .tup xs) (h : Rd F a u) : Rd (del F p) a u := by
  have ne : a ≠ p := fun z => by
    subst z
    rcases h with h | ⟨o, h⟩
    · rw [hp] at h
      injection h with h
      rcases hu with ⟨xs, rfl⟩ | ⟨xs, rfl⟩ <;> cases h
    · rw [hp] at h
      injection h with h
      cases h
  rcases h with h | ⟨o, h⟩
  · exact .inl (by rw [del_ne ne]; exact h)
  · exact .inr ⟨o, by rw [del_ne ne]; exact h⟩
mutual
theorem dq_out {K : PySem.W.Frag} {F : Hp} {p : Addr} {m : List (L2.Key × V)} (hp : F p = some (.dK m)) : ∀ (d : PyData) (v : V), Dq K F v d → Dq K (del F p) v d
  | .none, _, h => by cases h; exact .non
  | .bool _, _, h => by cases h; exact .bl _
  | .int _, _, h => by cases h; exact .int _
  | .str _, _, h => by cases h; exact .str _
  | .list ds, _, h => by
    cases h with
    | lst hs ha =>
      refine .lst ?_ (dqs_out hp ds _ ha)
      rcases hs with hs | hs
      · exact .inl (rd_out hp (.inl ⟨_, rfl⟩) hs)
      · exact .inr hs
  | .tuple ds, _, h => by
    cases h with
    | tup hs ha hq =>
      refine .tup ?_ (dqs_out hp ds _ ha) ?_
      · rcases hs with hs | hs
        · exact .inl (rd_out hp (.inr ⟨_, rfl⟩) hs)
        · exact .inr hs
      · unfold del
        rw [if_neg (fun e => by rw [e, hp] at hq; cases hq)]
        exact hq
  | .dict _, _, h => by
    cases h with
    | hd => exact .hd _
    | cod z =>
      refine .cod ?_
      unfold del
      rw [if_neg (fun e => by rw [e, hp] at z; cases z)]
      exact z
    | @emp _ o z =>
      refine .emp (o := o) ?_
      unfold del
      rw [if_neg (fun e => by rw [e, hp] at z; cases z)]
      exact z
theorem dqs_out {K : PySem.W.Frag} {F : Hp} {p : Addr} {m : List (L2.Key × V)} (hp : F p = some (.dK m)) : ∀ (ds : List PyData) (vs : List V), DqAll K F vs ds → DqAll K (del F p) vs ds
  | [], _, h => by cases h; exact .nil
  | d :: ds, _, h => by
    cases h with
    | cons h1 h2 => exact .cons (dq_out hp d _ h1) (dqs_out hp ds _ h2)
end
theorem Rep.out {B : Bs} {δ : St'} {σ : List (Option V)} {F H : Hp} {p : Addr} {m : List (L2.Key × V)} (r : Rep B δ σ F H) (hp : F p = some (.dK m)) (hB : B.F p = none) : Rep B δ σ (del F p) H := by
  have nn : ∀ {a : Addr}, F a = none → (del F p) a = none := fun {a} h => by
    by_cases e : a = p
    · rw [e, del_same]
    · rw [del_ne e]; exact h
  refine ⟨fun b u h => ?_, fun b u h => ?_, fun b h1 h2 => nn (r.fr b h1 h2), r.kp, r.pot, fun i c h => ?_, r.len, r.ap⟩
  · by_cases e : b = p
    · rw [e, del_same] at h; cases h
    · rw [del_ne e] at h; exact r.ex b u h
  · have e : b ≠ p := fun z => by rw [z, hB] at h; cases h
    rw [del_ne e]; exact r.f0 b u h
  · obtain ⟨v, hv, hc⟩ := r.cell i c h
    refine ⟨v, hv, ?_⟩
    cases c with
    | d x => exact dq_out hp _ _ hc
    | own xs =>
      obtain ⟨a, vs, e, h1, h2, h3, h4⟩ := hc
      exact ⟨a, vs, e, h1, nn h2, h3, dqs_out hp _ _ h4⟩
    | dct kvs =>
      obtain ⟨a, vs, e, h1, h2, h3, h4⟩ := hc
      exact ⟨a, vs, e, h1, nn h2, h3, dqs_out hp _ _ h4⟩
    | gen pa mk kvs =>
      obtain ⟨a, vs, e, h1, h2, h3, h4, h5⟩ := hc
      exact ⟨a, vs, e, h1, nn h2, h3, h4, dqs_out hp _ _ h5⟩
    | iset ns =>
      obtain ⟨a, e, h1, h2, h3⟩ := hc
      exact ⟨a, e, h1, nn h2, h3⟩
    | pot => exact hc
    | bor => exact hc
end DL
set_option maxHeartbeats 200000
set_option Elab.async false
set_option linter.all false
set_option maxRecDepth 100000
set_option maxHeartbeats 1000000
namespace DL
open PySem PySem.Spec PyProof.Rows L2
def WAL (B : Bs) (ta : TA) (j : Nat) (δ : St') (Φ : List PyData → St' → Prop) : Prop := ∀ σ F H, Rep B δ σ F H → ∀ Q : List V → Hp → Prop, (∀ vs u xs δ' F' H', Same F F' → Rep B δ' σ F' H' → DqAll B.K F' vs xs → σ[j]? = some (some u) → Φ xs δ' → Q (vs ++ [u]) H') → ta σ H Q
def DAL (B : B0) (X : Cx) (es : List Expr) (j : Nat) (δ : St') (Φ : List PyData → St' → Prop) : Prop := WAL (bs X B) (wA X es) j δ Φ
section
variable {B : B0} {X : Cx} {a : Expr} {es : List Expr} {δ : St'} {Φ : List PyData → St' → Prop} {pn : Str} {pp pos p : Pos} {j : Nat} {c : C}
theorem dal_last (p : Φ [] δ) (hi : δ.s[j]? = some (some c) := by rfl) (hN : X.N[j]? = some pn := by rfl)
    (hv : Vis X.env.scope pn := by first | exact Or.inl rfl | exact Or.inr (Or.inl rfl) | exact Or.inr (Or.inr rfl)) (hd : (pn == ("__debug__" : Str)) = false := by decide) (hcd : (pn == ("__classdict__" : Str)) = false := by decide)
    (hs : starEach [.Name pn pp] X.env = (false, eval (.Name pn pp) X.env) :: starEach [] X.env := by rfl) : DAL B X [.Name pn pp] j δ Φ := fun σ F H r Q q pos pins s I => by
  obtain ⟨v, hv', _⟩ := r.cell j c hi
  exact (pa_cons (pe_var hN hv hd hcd) pa_nil hs).run pos pins s σ H Q I ⟨v, hv', q [] v [] δ F H (Same.refl F) r .nil hv' p⟩
theorem dal_cons (h : DE B X a δ fun x δ1 => DAL B X es j δ1 fun xs δ2 => Φ (x :: xs) δ2) (hs : starEach (a :: es) X.env = (false, eval a X.env) :: starEach es X.env := by rfl) : DAL B X (a :: es) j δ Φ := fun σ F H r Q q pos pins s I =>
  (pa_cons pe_w pa_w hs).run pos pins s σ H Q I (h σ F H r _ fun v x δ1 F1 H1 e1 r1 d1 p1 => p1 σ F1 H1 r1 _ fun vs u xs δ2 F2 H2 e2 r2 d2 hu p2 => q (v :: vs) u (x :: xs) δ2 F2 H2 (e1.trans e2) r2 (.cons (dp_mono e2 _ _ d1) d2) hu p2)
variable {k k' : Nat} {ps : List Str} {x : Str} {Pk : PotK} {Ψ : PE1} {e : Expr}
variable {N : St' → Prop} {R : PE1} {e2 : Expr} {p2 : Pos}
end
end DL
set_option maxHeartbeats 200000
set_option Elab.async false
set_option linter.all false
set_option maxRecDepth 100000
set_option maxHeartbeats 1000000
namespace DL
open PySem PySem.Spec PyProof.Rows L2
def rIsBl (neg : Bool) : R2 := fun x y H Q => ∃ b : Bool, y = .bl b ∧ ((∃ i, x = .int i ∧ Q (.bl neg) H) ∨ ∃ a : Bool, x = .bl a ∧ Q (.bl (decide (a = b) != neg)) H)
theorem op_isBl1 {X : Cx} : OpR X (compareOp .Is) (rIsBl false) := fun pins s σ H x y v u Q I rx ry h => by
  obtain ⟨b, rfl, h⟩ := h
  obtain rfl : u = Value.bool b := ry
  rcases h with ⟨i, rfl, q⟩ | ⟨a, rfl, q⟩
  · obtain ⟨t, rfl⟩ : ∃ t, v = Value.int i t := rx
    exact wpAny_is_other rfl (fun z => by cases z) ⟨.bl false, H, I, rfl, q⟩
  · obtain rfl : v = Value.bool a := rx
    by_cases e : a = b
    · subst e
      exact wpAny_is_self rfl ⟨.bl true, H, I, rfl, by simpa using q⟩
    · exact wpAny_is_other rfl (fun z => e (Value.bool.inj z)) ⟨.bl false, H, I, rfl, by simpa [e] using q⟩
theorem op_isntBl1 {X : Cx} : OpR X (compareOp .IsNot) (rIsBl true) := fun pins s σ H x y v u Q I rx ry h => by
  obtain ⟨b, rfl, h⟩ := h
  obtain rfl : u = Value.bool b := ry
  rcases h with ⟨i, rfl, q⟩ | ⟨a, rfl, q⟩
  · obtain ⟨t, rfl⟩ : ∃ t, v = Value.int i t := rx
    exact wpAny_isNot_other rfl (fun z => by cases z) ⟨.bl true, H, I, rfl, q⟩
  · obtain rfl : v = Value.bool a := rx
    by_cases e : a = b
    · subst e
      exact wpAny_isNot_self rfl ⟨.bl false, H, I, rfl, by simpa using q⟩
    · exact wpAny_isNot_other rfl (fun z => e (Value.bool.inj z)) ⟨.bl true, H, I, rfl, by simpa [e] using q⟩
section
variable {B : Bs} {δ : St'} {Φ : PE1}
theorem rd_isBi {neg : Bool} {i : Int} {b : Bool} (p : Φ (.bool neg) δ) : RD B (rIsBl neg) (.int i) (.bool b) δ Φ := rd_pure (w := .bl neg) (fun _ => .bl _) (fun F H v u e d1 d2 Q q => by cases d1; cases d2; exact ⟨b, rfl, .inl ⟨i, rfl, q⟩⟩) p
theorem rd_isBb {neg a b : Bool} (p : Φ (.bool (decide (a = b) != neg)) δ) : RD B (rIsBl neg) (.bool a) (.bool b) δ Φ := rd_pure (w := .bl (decide (a = b) != neg)) (fun _ => .bl _) (fun F H v u e d1 d2 Q q => by cases d1; cases d2; exact ⟨b, rfl, .inr ⟨a, rfl, q⟩⟩) p
end
section
variable {B : B0} {X : Cx} {o : Expr} {δ : St'} {Φ : PE1} {name : Str} {apos cpos : Pos} {id : String} {g : Str → V} {gd : Str → PyData}
theorem de_strM (slot : PySem.Slot "str" name id) (hty : typeOf (.builtin id) = pure (.type "method_descriptor")) (hm : MtR X id fun x xs H Q => ∃ a, x = .str a ∧ xs = [] ∧ True ∧ Q (g a) H) (hg : ∀ K F a, Dq K F (g a) (gd a)) (h : DE B X o δ fun x δ' => ∃ a, x = .str a ∧ Φ (gd a) δ')
    (hbase : attributeBase o name X.env (eval o X.env) = eval o X.env := by rfl) (hline : (apos.endLine == cpos.line) = true := by rfl) : DE B X (.Call (.Attribute o name apos) [] [] cpos) δ Φ :=
  .of (pe_bm0 PySem.F.plainAttrs_str slot hty hm pe_w hbase hline) fun σ F H r Q q => h σ F H r _ fun v x δ' F' H' e r' d ⟨a, hx, p⟩ => by
    subst hx
    cases d
    exact ⟨by simp [tyV], a, rfl, rfl, trivial, q _ _ δ' F' H' e r' (hg _ _ a) p⟩
theorem de_isascii (h : DE B X o δ fun x δ' => ∃ a, x = .str a ∧ Φ (.bool (Txt.isascii a)) δ') (hbase : attributeBase o "isascii" X.env (eval o X.env) = eval o X.env := by rfl) (hline : (apos.endLine == cpos.line) = true := by rfl) : DE B X (.Call (.Attribute o "isascii" apos) [] [] cpos) δ Φ :=
  de_strM (g := fun a => .bl (Txt.isascii a)) (gd := fun a => .bool (Txt.isascii a)) PySem.F.slot_str_isascii PySem.F.type_str_isascii mt_isascii (fun _ _ _ => .bl _) h hbase hline
theorem de_isalpha (h : DE B X o δ fun x δ' => ∃ a, x = .str a ∧ Φ (.bool (Txt.isalpha a)) δ') (hbase : attributeBase o "isalpha" X.env (eval o X.env) = eval o X.env := by rfl) (hline : (apos.endLine == cpos.line) = true := by rfl) : DE B X (.Call (.Attribute o "isalpha" apos) [] [] cpos) δ Φ :=
  de_strM (g := fun a => .bl (Txt.isalpha a)) (gd := fun a => .bool (Txt.isalpha a)) PySem.F.slot_str_isalpha PySem.F.type_str_isalpha mt_isalpha (fun _ _ _ => .bl _) h hbase hline
theorem de_islower (h : DE B X o δ fun x δ' => ∃ a, x = .str a ∧ Φ (.bool (Txt.islower a)) δ') (hbase : attributeBase o "islower" X.env (eval o X.env) = eval o X.env := by rfl) (hline : (apos.endLine == cpos.line) = true := by rfl) : DE B X (.Call (.Attribute o "islower" apos) [] [] cpos) δ Φ :=
  de_strM (g := fun a => .bl (Txt.islower a)) (gd := fun a => .bool (Txt.islower a)) PySem.F.slot_str_islower PySem.F.type_str_islower mt_islower (fun _ _ _ => .bl _) h hbase hline
end
theorem ascii_tab : ∀ c, c < 128 → Unicode.isAlpha c = (decide (65 ≤ c) && decide (c ≤ 90) || decide (97 ≤ c) && decide (c ≤ 122)) ∧ Unicode.isLower c = (decide (97 ≤ c) && decide (c ≤ 122)) ∧ Unicode.isUpper c = (decide (65 ≤ c) && decide (c ≤ 90)) ∧ Unicode.isTitle c = false := by decide +kernel
/-- what the three together let by -/
theorem small_letters (x : Str) : (Txt.isascii x && (Txt.isalpha x && Txt.islower x)) = (decide (1 ≤ x.length) && x.cps.toList.all fun c => decide (97 ≤ c) && decide (c ≤ 122)) := by
  have hl : x.length = x.cps.toList.length := by simp [Str.length]
  have e1 : Txt.isascii x = x.cps.toList.all fun c => decide (c < 128) := by unfold Txt.isascii; rw [← Array.all_toList]
  have e2 : Txt.isalpha x = (decide (x.length > 0) && x.cps.toList.all Unicode.isAlpha) := by unfold Txt.isalpha; rw [← Array.all_toList]
  have e3 : Txt.islower x = (x.cps.toList.any Unicode.isLower && !x.cps.toList.any fun c => Unicode.isUpper c || Unicode.isTitle c) := by unfold Txt.islower; rw [← Array.any_toList, ← Array.any_toList]
  rw [e1, e2, e3, hl]
  generalize x.cps.toList = l
  rw [Bool.eq_iff_iff]
  simp only [Bool.and_eq_true, List.all_eq_true, List.any_eq_true, decide_eq_true_eq, Bool.not_eq_true', List.any_eq_false, Bool.or_eq_true, not_or]
  constructor
  · rintro ⟨ha, ⟨hp, hal⟩, _, hu⟩
    refine ⟨by omega, fun c hc => ?_⟩
    obtain ⟨t1, t2, t3, t4⟩ := ascii_tab c (ha c hc)
    have q1 := hal c hc
    have q2 := (hu c hc).1
    rw [t1] at q1
    rw [t3] at q2
    simp only [Bool.or_eq_true, Bool.and_eq_true, decide_eq_true_eq] at q1 q2
    omega
  · rintro ⟨hp, hs⟩
    refine ⟨fun c hc => by have := hs c hc; omega, ⟨by omega, fun c hc => ?_⟩, ?_, fun c hc => ?_⟩
    · have := hs c hc
      rw [(ascii_tab c (by omega)).1]
      simp only [Bool.or_eq_true, Bool.and_eq_true, decide_eq_true_eq]
      omega
    · cases l with
      | nil => simp at hp
      | cons c l =>
        have := hs c (by simp)
        refine ⟨c, by simp, ?_⟩
        rw [(ascii_tab c (by omega)).2.1]
        simp only [Bool.and_eq_true, decide_eq_true_eq]
        omega
    · have := hs c hc
      obtain ⟨t1, t2, t3, t4⟩ := ascii_tab c (by omega)
      rw [t3, t4]
      simp only [Bool.and_eq_true, decide_eq_true_eq, Bool.false_eq_true, not_false_eq_true, and_true]
      omega
end DL
set_option maxHeartbeats 200000
set_option Elab.async false
set_option linter.all false
set_option maxRecDepth 100000
set_option maxHeartbeats 1000000
namespace DL
open PySem PySem.Spec PyProof.Rows L2
end DL
set_option maxHeartbeats 200000
set_option Elab.async false
set_option linter.all false
set_option maxRecDepth 100000
set_option maxHeartbeats 1000000
namespace DL
open PySem PySem.Spec PyProof.Rows L2
end DL
set_option maxHeartbeats 200000
set_option Elab.async false
set_option linter.all false
set_option maxRecDepth 100000
set_option maxHeartbeats 1000000
namespace DL
open PySem PySem.Spec PyProof.Rows L2
/-- one argument, of whatever begins -/
theorem enum_made {v : Value} {ob : Obj} {Hh : Heap → Prop} (B : Begins v ob Hh) : Meets (Builtin.«enumerate.__new__» ⟨[.type "enumerate", v], []⟩)
    (fun _ R s => Hh s.heap ∧ R (.ok (.ret (.ref (s.heap.push ob).objs.size))) { s with heap := (s.heap.push ob).push { cls := .type "enumerate", data := .fields #[.none, .bool false, .ref s.heap.objs.size, rawInt 0, .none, .none] } }) :=
  .of_wp fun prog w A R s hh => by
    obtain ⟨hp, gl, dr, tk, os⟩ := s
    obtain ⟨hb, hr⟩ := hh
    have iter1 : ∀ {A' : Around} {E : Value → Shared → Prop} {Q : Value → Shared → Prop}, Q (.ref hp.objs.size) ⟨hp.push ob, gl, dr, tk, os⟩ → wpAny (model prog w) A' (pyIter v) Q E ⟨hp, gl, dr, tk, os⟩ :=
      fun qq => B.iter prog w _ _ ⟨hp, gl, dr, tk, os⟩ _ hb qq
    have hsub := sub_enumerate
    wp_walk using iter1
    refine wpAny_stack_any fun st => wpAny_pure ?_
    split
    · rename_i cc _ _ _ _ _
      cases (cc == Value.type "enumerate")
      all_goals (wp_walk using iter1; exact ⟨_, rfl, hr⟩)
    · (wp_walk using iter1; exact ⟨_, rfl, hr⟩)
theorem call_enum_tup {prog : Program} {w : World} {A : Around} {E : Value → Shared → Prop} {s : Shared} {t : Addr} {items : Array Value} {Q : Value → Shared → Prop} (ht : s.heap.IsTuple t items)
    (h : ∀ h', IsEnum h' (s.heap.objs.size + 1) s.heap.objs.size 0 .none → h'.IsTupleIter s.heap.objs.size t 0 → (∀ b o, s.heap.get? b = some o → h'.get? b = some o) → Q (.ref (s.heap.objs.size + 1)) { s with heap := h' }) :
    wpAny (model prog w) A (call (.type "enumerate") [.ref t]) Q E s := by
  have B := begins_tuple t items
  refine callType_new F.called_enumerate (by decide) (F.typeCall_enumerate_1 _) (F.newCall_enumerate_1 _) (fun obj => F.args_object_init_2 obj _) F.entry_enumerate_new (enum_made B) ⟨ht, ?_⟩
  generalize ho : ({ cls := .type "tuple_iterator", data := .fields #[.ref t, .int 0 0] } : Obj) = o at B ⊢
  have sz : (s.heap.push o).objs.size = s.heap.objs.size + 1 := Heap.size_push ..
  rw [sz]
  have isE : IsEnum ((s.heap.push o).push { cls := .type "enumerate", data := .fields #[.none, .bool false, .ref s.heap.objs.size, rawInt 0, .none, .none] }) (s.heap.objs.size + 1) s.heap.objs.size 0 .none := by
    have z := Heap.get?_push_size (s.heap.push o) (o := { cls := .type "enumerate", data := .fields #[.none, .bool false, .ref s.heap.objs.size, rawInt 0, .none, .none] }) rfl
    rw [sz] at z
    exact z
  refine ⟨⟨_, isE, rfl⟩, h _ isE ?_ fun b u x => Heap.get?_push_of_some _ (Heap.get?_push_of_some _ x)⟩
  exact ⟨_, Heap.get?_push_of_some _ (Heap.get?_push_size _ B.free), by rw [← ho], by rw [← ho]; rfl⟩
/-- the tuple at a, each item in a new pair behind its number -/
def IteT (K : PySem.W.Frag) (a : Addr) : It where
  go i H := ∃ (xs : List V) (x : V), SqT K H a xs ∧ xs[i]? = some x
  yld i H v H' := ∃ T x, v = .ref T ∧ H T = none ∧ H' = upd H T (.tup [.int (i : Nat), x]) ∧ ∀ xs, SqT K H a xs → xs[i]? = some x
  stop i H := ∃ xs : List V, SqT K H a xs ∧ xs.length ≤ i
theorem turn_enumT {P : Program} {w : World} {K : PySem.W.Frag} {elts : List Expr} {kk : Nat} {tpos : Pos} (a e it : Addr) (hne : e ≠ it) (hai : a ≠ it) (hea : e ≠ a) :
    Turn P w K (.Tuple elts kk tpos) (IteT K a) [e, it] e (fun i h => (∃ old, IsEnum h e it ((0 : Int) + ((i : Nat) : Int)) old) ∧ h.IsTupleIter it a i) where
  mem := List.mem_cons_self
  obj := fun i h st b hb => by
    obtain ⟨⟨old, he⟩, o, ho, hc, hd⟩ := st
    rcases List.mem_cons.mp hb with z | z
    · rw [z]
      exact ⟨_, he, fun v q => nomatch q⟩
    · rw [List.mem_singleton.mp z]
      exact ⟨o, ho, fun v q => by rw [hd] at q; cases q⟩
  keep := fun i h h' st k => let ⟨⟨old, he⟩, hi⟩ := st; ⟨⟨old, k e List.mem_cons_self _ he⟩, hi.at fun o q => k it (by simp) o q⟩
  item := by
    intro X hP hw hK hc i pins s σ H E I hf st hg
    subst hP hw hK
    obtain ⟨xs, x, hq, hx⟩ := hg
    obtain ⟨its, rv, p, hz⟩ := I.tuple hq
    obtain ⟨u, hu, ru⟩ := rv.get hx
    have D := Draws.tuple (prog := X.prog) (w := X.w) (A := X.A.in1) (I.ok.hd hc) it a hai its.toArray
    have Wk := WalksT.enumFrom 0 D e hne (by simp [hne, hea]) (by simp)
    have hil : i < its.toArray.size := by
      have := (List.getElem?_eq_some_iff.mp hu).1
      simpa using this
    have hel : e < s.heap.objs.size := Heap.lt_size st.1.choose_spec
    have hitl : it < s.heap.objs.size := by
      obtain ⟨o, ho, _⟩ := st.2
      exact Heap.lt_size ho
    refine Wk.item i s _ E hil ⟨st.1, st.2, p⟩ fun T vals h' tk hP hT isT mid hk => ⟨_, rfl, ?_⟩
    obtain ⟨t, x', hx', ev⟩ := hP
    have hxu : x' = u := by
      have z : its.toArray[i]? = some u := by simpa using hu
      rw [z] at hx'
      injection hx' with q
      exact q.symm
    have hTa := Wk.apart _ _ _ mid
    refine Wk.go elts kk tpos i T _ _ E mid fun h2 st2 hk2 => ?_
    have new : ObjOk X.prog X.w (upd H T (.tup [.int (i : Nat), x])) h2 T (.tup [.int (i : Nat), x]) := by
      refine ⟨by show 2 ≤ sizeLine; decide, [.int ((0 : Int) + (i : Int)) t, u], .cons ⟨t, by rw [Int.zero_add]⟩ (.cons ru .nil), ?_⟩
      obtain ⟨o, ho, q⟩ := isT
      rw [ev, hxu] at q
      exact ⟨o, hk2 T o hTa ho, q⟩
    have hT' : s.heap.objs.size ≤ T := hT
    refine ⟨.ref T, _, I.turnedNew (ch := [e, it]) (fun b o hb q => hk2 b o hb (hk b o hb q)) hf hT' new, rfl, ⟨T, x, rfl, I.hok.fresh hT', rfl, fun ys hy => ?_⟩, ⟨st2.1, st2.2.1⟩, fun b hb => ?_⟩
    · rw [I.tuple_inj hy hq]
      exact hx
    · have hb' : b < s.heap.objs.size := by
        rcases List.mem_cons.mp hb with z | z
        · exact z ▸ hel
        · exact (List.mem_singleton.mp z) ▸ hitl
      rw [upd_ne (Nat.ne_of_lt (Nat.lt_of_lt_of_le hb' hT'))]
      exact (hf b hb).1
  done := by
    intro X hP hw hK hc i pins s σ H E I hf st hg
    subst hP hw hK
    obtain ⟨xs, hq, hx⟩ := hg
    obtain ⟨its, rv, p, hz⟩ := I.tuple hq
    obtain ⟨⟨old, he⟩, hi⟩ := st
    have out : its.toArray[i]? = none := by
      have := rv.length
      simp
      omega
    have D : Draws X.prog X.w X.A.in1 it [it, a] i (fun _ _ => True) (fun j h => j = i ∧ h.IsTupleIter it a i ∧ h.IsTuple a its.toArray) :=
      { live := fun _ _ st => ⟨_, st.2.1.choose_spec.1⟩
        frame := fun _ _ _ st hk => ⟨st.1, st.2.1.at fun o e => hk it (by simp) o e, st.2.2.at fun o e => hk a (by simp) o e⟩
        item := fun j s Q E hj st _ => absurd st.1 (Nat.ne_of_lt hj)
        done := fun s Q E st hE => wpAny_nextOf_tuple_end (show X.A.in1.handled = none from I.ok.hd hc) st.2.1 st.2.2 out hE }
    obtain ⟨f0, f1, f2, f3, f4, f5⟩ := hf it (List.mem_cons_of_mem _ List.mem_cons_self)
    refine wpAny_pyNext_enum_endD D he ⟨rfl, hi, p⟩ fun h' ext => ⟨rfl, ?_⟩
    exact I.turned (t' := s.toks) (fun b o hb q => ext b o hb q) f0 f1 f3 f4 f5
  self := fun A i s Q E ⟨⟨_, he⟩, _⟩ h => wpAny_pyIter_enum he h
def iEnumT (K : PySem.W.Frag) (ta : TA) : TI := fun σ H R => ta σ H fun vs H1 => ∃ a xs, vs = [.ref a] ∧ SqT K H1 a xs ∧ R (IteT K a) H1
theorem pi_enumT {X : Cx} {e : Expr} {ta : TA} {p pos tpos : Pos} {elts : List Expr} {kk : Nat} (hm : X.mg "enumerate" = none) (ha : PA X [e] ta) (hg : Gl X "enumerate" := by rfl) (hs : starEach [e] X.env = [(false, eval e X.env)] := by rfl) :
    PI X (.Tuple elts kk tpos) (.Call (.Name "enumerate" p) [e] [] pos) (iEnumT X.K ta) := .mk fun pins s σ H R I h => by
  refine Call_ (ld_blt I hg hm boot_enumerate (PyProof.Rows.callWith_type1 (thn (ha.run pos pins s σ H _ I h) fun us s1 z => ?_) hs rfl))
  obtain ⟨vs, H1, I1, r1, a, xs, rfl, hq, q⟩ := z
  obtain ⟨u, rfl, ru⟩ : ∃ u, us = [u] ∧ RelV (.ref a) u := by
    cases r1 with
    | cons r rr => cases rr; exact ⟨_, rfl, r⟩
  cases ru
  obtain ⟨its, rv, p', hz⟩ := I1.tuple hq
  have hal : a < s1.heap.objs.size := by
    obtain ⟨o, ho, _⟩ := p'
    exact Heap.lt_size ho
  refine call_enum_tup p' fun h' he hit hk => wpAny_pyIter_enum he ?_
  have T := turn_enumT (P := X.prog) (w := X.w) (K := X.K) (elts := elts) (kk := kk) (tpos := tpos) a (s1.heap.objs.size + 1) s1.heap.objs.size (Nat.succ_ne_self _) (Nat.ne_of_lt hal) (Nat.ne_of_gt (Nat.lt_succ_of_lt hal))
  refine ⟨s1.heap.objs.size + 1, _, _, _, H1, rfl, I1.kept (t' := s1.toks) hk, T, ⟨⟨.none, he⟩, hit⟩, fun b hb => ?_, q⟩
  have hle : s1.heap.objs.size ≤ b := by
    rcases List.mem_cons.mp hb with z | z
    · rw [z]; exact Nat.le_succ _
    · rw [List.mem_singleton.mp z]; exact Nat.le_refl _
  exact I1.fpOk hle (I1.hok.fresh hle)
theorem wk_enumT {w : World} {K : PySem.W.Frag} {a : Addr} {vs : List V} {xs : List PyData} {F : Hp} (hs : SqT K F a vs) (ha : DqAll K F vs xs) : Wk w K (IteT K a) (enumD xs) F where
  stop := fun B i δ σ F' H _ _ e r h => ⟨vs, seqT (e.trans r.ex) hs, by rw [dpAll_len ha, ← enum_len]; exact h⟩
  go := fun B i δ σ F' H _ _ e r h => by
    rw [enum_len] at h
    obtain ⟨v, hv, _⟩ := dpAll_get ha (List.getElem?_eq_getElem h)
    exact ⟨vs, v, seqT (e.trans r.ex) hs, hv⟩
  yld := fun B i δ σ F' H v H' y hw hK e r h hy => by
    obtain ⟨T, x, rfl, hT, rfl, hx⟩ := hy
    obtain ⟨d, hd, rfl⟩ := enum_get h
    obtain ⟨v, hv, dv⟩ := dpAll_get ha hd
    have e1 := hx vs (seqT (e.trans r.ex) hs)
    rw [hv] at e1
    injection e1 with e1
    subst e1 hK
    exact r.newT hT (.cons (.int _) (.cons (dp_mono e _ _ dv) .nil))
theorem wi_enumT {B : Bs} {ta : TA} {δ : St'} {Ψ : List PyData → St' → Prop} (h : WA B ta δ fun ds δ' => ∃ xs, ds = [.tuple xs] ∧ Ψ (enumD xs) δ') : WI B (iEnumT B.K ta) δ Ψ := fun σ F H r R q => h σ F H r _ fun vs x δ' F' H' e r' d ⟨xs, hx, p⟩ => by
  subst hx
  cases d with
  | cons d1 d2 =>
    cases d2
    cases d1 with
    | tup hs ha => exact ⟨_, _, rfl, seqT r'.ex hs, q _ _ δ' F' H' e r' (Wk.at (wk_enumT hs ha)) p⟩
end DL
set_option maxHeartbeats 200000
set_option Elab.async false
set_option linter.all false
set_option maxRecDepth 100000
set_option maxHeartbeats 2000000
namespace DL
open PySem PySem.Spec PyProof.Rows L2
def Keeps (a b : List (Option V)) : Prop := a.length = b.length ∧ ∀ (j : Nat) v, a[j]? = some (some v) → b[j]? = some (some v)
theorem Keeps.refl (a : List (Option V)) : Keeps a a := ⟨rfl, fun _ _ h => h⟩
theorem Keeps.trans {a b c : List (Option V)} (h : Keeps a b) (k : Keeps b c) : Keeps a c := ⟨h.1.trans k.1, fun j v e => k.2 j v (h.2 j v e)⟩
end DL
set_option maxHeartbeats 200000
set_option Elab.async false
set_option linter.all false
set_option maxRecDepth 100000
set_option maxHeartbeats 4000000
namespace DL
open PySem PySem.Spec PyProof.Rows L2
end DL
set_option maxHeartbeats 200000
set_option Elab.async false
set_option linter.all false
set_option maxRecDepth 100000
set_option maxHeartbeats 4000000
namespace DL
open PySem PySem.Spec PyProof.Rows L2
end DL
set_option maxHeartbeats 200000
set_option Elab.async false
set_option linter.all false
set_option maxRecDepth 100000
set_option maxHeartbeats 4000000
namespace DL
open PySem PySem.Spec PyProof.Rows L2
end DL
set_option maxHeartbeats 200000
set_option Elab.async false
set_option linter.all false
set_option maxRecDepth 100000
set_option maxHeartbeats 1000000
namespace DL
open PySem PySem.Spec PyProof.Rows L2
end DL
set_option maxHeartbeats 200000
set_option Elab.async false
set_option linter.all false
set_option maxRecDepth 100000
set_option maxHeartbeats 1000000
namespace DL
open PySem PySem.Spec PyProof.Rows L2
abbrev KvD := List (L2.Key × PyData)
def WDc (B : Bs) (te : TE) (δ : St') (Φ : KvD → St' → Prop) : Prop := ∀ σ F H, Rep B δ σ F H → ∀ Q : VK, (∀ a us kvs δ' F' H', Same F F' → Rep B δ' σ F' H' → B.H a = none → F' a = none → H' a = some (.dK ((kvs.map (·.1)).zip us)) →
  (∀ (i : Nat) (c : C), δ'.s[i]? = some (some c) → own? c = true → σ[i]? ≠ some (some (.ref a))) → DqAll B.K F' us (kvs.map (·.2)) → Φ kvs δ' → Q (.ref a) H') → te σ H Q
def DDc (B : B0) (X : Cx) (e : Expr) (δ : St') (Φ : KvD → St' → Prop) : Prop := WDc (bs X B) (wE X e) δ Φ
theorem DDc.of {B : B0} {X : Cx} {e : Expr} {te : TE} {δ : St'} {Φ : KvD → St' → Prop} (p : PE X e te) (h : WDc (bs X B) te δ Φ) : DDc B X e δ Φ := fun σ F H r Q q pins s I => p.run pins s σ H Q I (h σ F H r Q q)
def WOc (B : Bs) (ts : TS) (δ : St') (R : KvD → St' → Prop) : Prop := ∀ σ F H, Rep B δ σ F H → ∀ D : Ends, (∀ a us kvs δ' σ' F' H', Same F F' → Rep B δ' σ' F' H' → B.H a = none → F' a = none → H' a = some (.dK ((kvs.map (·.1)).zip us)) → DqAll B.K F' us (kvs.map (·.2)) → R kvs δ' → D.rt (.ref a) H') → ts D σ H
def DOc (B : B0) (X : Cx) (sts : List Stmt) (δ : St') (R : KvD → St' → Prop) : Prop := WOc (bs X B) (wSs X sts) δ R
section
variable {B : B0} {X : Cx} {a b c e : Expr} {es : List Expr} {st : Stmt} {rest : List Stmt} {δ : St'} {Φ : PE1} {R Ψ : KvD → St' → Prop} {p pos pp p2 p3 : Pos} {x pn : Str} {k k' : Nat} {ps : List Str}
theorem DOc.of {sts : List Stmt} {ts : TS} (q : PSs X sts ts) (h : WOc (bs X B) ts δ R) : DOc B X sts δ R := fun σ F H r D z pins s I => q.run pins s σ H D I (h σ F H r D z)
variable {N : St' → Prop} {R1 : PE1} {pos' : Pos}
end
end DL
set_option maxHeartbeats 200000
set_option Elab.async false
set_option linter.all false
set_option maxRecDepth 100000
set_option maxHeartbeats 2000000
namespace DL
open PySem PySem.Spec PyProof.Rows L2
end DL
set_option maxHeartbeats 200000
set_option Elab.async false
set_option linter.all false
set_option maxRecDepth 100000
set_option maxHeartbeats 2000000
namespace DL
open PySem PySem.Spec PyProof.Rows L2
end DL
set_option maxHeartbeats 200000
set_option Elab.async false
set_option linter.all false
set_option maxRecDepth 100000
set_option maxHeartbeats 2000000
namespace DL
open PySem PySem.Spec PyProof.Rows L2
end DL
set_option maxHeartbeats 200000
set_option Elab.async false
set_option linter.all false
set_option maxRecDepth 100000
set_option maxHeartbeats 2000000
namespace DL
open PySem PySem.Spec PyProof.Rows L2
theorem Rep.back {B : Bs} {δ δ' : St'} {σ σ' : List (Option V)} {F H F2 F' H' : Hp} (r : Rep B δ σ F H) (s : Same F F2) (hn : ∀ b, B.F b = none → B.H b ≠ none → F2 b = none) (r' : Rep ⟨⟨F2, H, B.p, B.m⟩, B.w, B.K⟩ δ' σ' F' H') : Rep B δ' σ' F' H' := by
  have hp : ∀ {b : Addr}, B.H b ≠ none → H b ≠ none := fun {b} h => by
    cases q : B.H b with
    | none => exact absurd q h
    | some o =>
      by_cases e : B.p = some b
      · obtain ⟨_, _, x, y, z, h3, _⟩ := r.pot b e
        rw [h3]; exact fun z => by cases z
      · rw [r.kp b o q e]; exact fun z => by cases z
  have hb : ∀ {b : Addr}, H b = none → B.H b = none := fun {b} h => by
    cases q : B.H b with
    | none => rfl
    | some o => exact absurd h (hp (by rw [q]; exact fun z => by cases z))
  refine ⟨r'.ex, r.f0.trans (s.trans r'.f0), fun b h1 h2 => r'.fr b (hn b h1 h2) (hp h2), fun b o h1 h2 => r'.kp b o (r.kp b o h1 h2) h2, fun a h => ⟨(r.pot a h).1, (r.pot a h).2.1, (r'.pot a h).2.2⟩, fun i c h => ?_, r'.len, r'.ap⟩
  obtain ⟨v, hv, hc⟩ := r'.cell i c h
  refine ⟨v, hv, ?_⟩
  cases c with
  | d x => exact hc
  | own xs =>
    obtain ⟨a, vs, e, h1, h2⟩ := hc
    exact ⟨a, vs, e, hb h1, h2⟩
  | dct kvs =>
    obtain ⟨a, vs, e, h1, h2⟩ := hc
    exact ⟨a, vs, e, hb h1, h2⟩
  | gen pa mk kvs =>
    obtain ⟨a, vs, e, h1, h2⟩ := hc
    exact ⟨a, vs, e, hb h1, h2⟩
  | iset ns =>
    obtain ⟨a, e, h1, h2⟩ := hc
    exact ⟨a, e, hb h1, h2⟩
  | pot => exact hc
  | bor => exact hc
section
variable {B : B0} {X : Cx} {rest : List Stmt} {δ : St'} {N : St' → Prop} {R Φ : PE1} {kvs : KvD} {e : Expr} {pp pos : Pos} {pn : Str}
abbrev InF (B : B0) (K : PySem.W.Frag) (a : Addr) (kvs : KvD) : Prop := ∃ us, B.F a = some (.dK ((kvs.map (·.1)).zip us)) ∧ DqAll K B.F us (kvs.map (·.2))
end
end DL
set_option maxHeartbeats 200000
set_option Elab.async false
set_option linter.all false
set_option maxRecDepth 100000
set_option maxHeartbeats 2000000
namespace DL
open PySem PySem.Spec PyProof.Rows L2
end DL
set_option maxHeartbeats 200000
set_option Elab.async false
set_option linter.all false
set_option maxRecDepth 100000
set_option maxHeartbeats 2000000
namespace DL
open PySem PySem.Spec PyProof.Rows L2
end DL
set_option maxHeartbeats 200000
set_option Elab.async false
set_option linter.all false
set_option maxRecDepth 100000
set_option maxHeartbeats 2000000
namespace DL
open PySem PySem.Spec PyProof.Rows L2
section
variable {B : B0} {X : Cx} {e : Expr} {es : List Expr} {δ : St'} {Φ : PE1} {p pos : Pos} {k k' : Nat} {ps : List Str} {x : Str}
theorem InF.sub {B B' : B0} {K : PySem.W.Frag} {a : Addr} {kvs : KvD} (h : InF B K a kvs) (s : Same B.F B'.F) : InF B' K a kvs := by
  obtain ⟨us, h1, h2⟩ := h
  exact ⟨us, s _ _ h1, dpAll_mono s _ _ h2⟩
end
end DL
set_option maxHeartbeats 200000
set_option Elab.async false
set_option linter.all false
set_option maxRecDepth 100000
set_option maxHeartbeats 2000000
namespace DL
open PySem PySem.Spec PyProof.Rows L2
end DL
set_option maxHeartbeats 200000
set_option Elab.async false
set_option linter.all false
set_option maxRecDepth 100000
set_option maxHeartbeats 2000000
namespace DL
open PySem PySem.Spec PyProof.Rows L2
end DL
set_option maxHeartbeats 200000
set_option Elab.async false
set_option linter.all false
set_option maxRecDepth 100000
set_option maxHeartbeats 1000000
namespace DL
open PySem PySem.Spec PyProof.Rows L2
end DL
set_option maxHeartbeats 200000
set_option Elab.async false
set_option linter.all false
set_option maxRecDepth 100000
set_option maxHeartbeats 2000000
namespace DL
open PySem PySem.Spec PyProof.Rows L2
end DL
set_option maxHeartbeats 200000
set_option Elab.async false
set_option linter.all false
set_option maxRecDepth 100000
set_option maxHeartbeats 2000000
namespace DL
open PySem PySem.Spec PyProof.Rows L2
theorem look_v {K : PySem.W.Frag} {F : Hp} {f : Str} {x : PyData} : ∀ {ns : List Str} {us : List V} {xs : List PyData}, DqAll K F us xs → (ns.zip xs).lookup f = some x → ∃ u, (ns.zip us).lookup f = some u ∧ Dq K F u x
  | [], _, _, _, h => by simp at h
  | n :: ns, _, _, .nil, h => by simp at h
  | n :: ns, _, _, .cons h1 h2, h => by
    rw [List.zip_cons_cons, List.lookup_cons] at h ⊢
    by_cases e : (f == n) = true
    · rw [e] at h ⊢
      injection h with h
      subst h
      exact ⟨_, rfl, h1⟩
    · rw [Bool.not_eq_true] at e
      rw [e] at h ⊢
      exact look_v h2 h
section
variable {B : B0} {X : Cx} {e : Expr} {δ : St'} {Φ R : PE1} {N : St' → Prop} {pp pos pos' : Pos} {pn f : Str}
/-- a thing that stands still -/
abbrev ObF (B : B0) (K : PySem.W.Frag) (a c : Addr) (ns : List Str) (xs : List PyData) : Prop := ∃ dx us, B.F a = some (.ins c dx (ns.zip us)) ∧ DqAll K B.F us xs
theorem ObF.sub {B B' : B0} {K : PySem.W.Frag} {a c : Addr} {ns : List Str} {xs : List PyData} (h : ObF B K a c ns xs) (s : Same B.F B'.F) : ObF B' K a c ns xs := by
  obtain ⟨dx, us, h1, h2⟩ := h
  exact ⟨dx, us, s _ _ h1, dpAll_mono s _ _ h2⟩
end
end DL
set_option maxHeartbeats 200000
set_option Elab.async false
set_option linter.all false
set_option maxRecDepth 100000
set_option maxHeartbeats 2000000
namespace DL
open PySem PySem.Spec PyProof.Rows L2
def WOb (B : Bs) (c : Addr) (te : TE) (δ : St') (Φ : List Str → List PyData → St' → Prop) : Prop := ∀ σ F H, Rep B δ σ F H → ∀ Q : VK, (∀ a dx us ns xs δ' F' H', Same F F' → Rep B δ' σ F' H' → B.H a = none → F' a = none → H' a = some (.ins c dx (ns.zip us)) →
  (∀ (i : Nat) (c : C), δ'.s[i]? = some (some c) → own? c = true → σ[i]? ≠ some (some (.ref a))) → DqAll B.K F' us xs → Φ ns xs δ' → Q (.ref a) H') → te σ H Q
def DOb (B : B0) (X : Cx) (c : Addr) (e : Expr) (δ : St') (Φ : List Str → List PyData → St' → Prop) : Prop := WOb (bs X B) c (wE X e) δ Φ
end DL
set_option maxHeartbeats 200000
set_option Elab.async false
set_option linter.all false
set_option maxRecDepth 100000
set_option maxHeartbeats 2000000
namespace DL
open PySem PySem.Spec PyProof.Rows L2
end DL
set_option maxHeartbeats 200000
set_option Elab.async false
set_option linter.all false
set_option maxRecDepth 100000
set_option maxHeartbeats 2000000
namespace DL
open PySem PySem.Spec PyProof.Rows L2
end DL
set_option maxHeartbeats 200000
set_option Elab.async false
set_option linter.all false
set_option maxRecDepth 100000
set_option maxHeartbeats 2000000
namespace DL
open PySem PySem.Spec PyProof.Rows L2
end DL
set_option maxHeartbeats 200000
set_option Elab.async false
set_option linter.all false
set_option maxRecDepth 100000
set_option maxHeartbeats 2000000
namespace DL
open PySem PySem.Spec PyProof.Rows L2
end DL
set_option maxHeartbeats 200000
set_option Elab.async false
set_option linter.all false
set_option maxRecDepth 100000
set_option maxHeartbeats 2000000
namespace DL
open PySem PySem.Spec PyProof.Rows L2
end DL
set_option maxHeartbeats 200000
set_option Elab.async false
set_option linter.all false
set_option maxRecDepth 100000
set_option maxHeartbeats 2000000
namespace DL
open PySem PySem.Spec PyProof.Rows L2
end DL
set_option maxHeartbeats 200000
set_option Elab.async false
set_option linter.all false
set_option maxRecDepth 100000
set_option maxHeartbeats 2000000
namespace DL
open PySem PySem.Spec PyProof.Rows L2
end DL
set_option maxHeartbeats 200000
set_option Elab.async false
set_option linter.all false
set_option maxRecDepth 100000
set_option maxHeartbeats 2000000
namespace DL
open PySem PySem.Spec PyProof.Rows L2
def WOg (B : Bs) (c : Addr) (ts : TS) (δ : St') (R : List Str → List PyData → St' → Prop) : Prop := ∀ σ F H, Rep B δ σ F H → ∀ D : Ends, (∀ a dx us ns xs δ' σ' F' H', Same F F' → Rep B δ' σ' F' H' → B.H a = none → F' a = none → H' a = some (.ins c dx (ns.zip us)) → DqAll B.K F' us xs → R ns xs δ' → D.rt (.ref a) H') → ts D σ H
def DOg (B : B0) (X : Cx) (c : Addr) (sts : List Stmt) (δ : St') (R : List Str → List PyData → St' → Prop) : Prop := WOg (bs X B) c (wSs X sts) δ R
section
variable {B : B0} {X : Cx} {e : Expr} {es : List Expr} {st : Stmt} {rest : List Stmt} {δ : St'} {R Ψ : List Str → List PyData → St' → Prop} {p pos : Pos} {x : Str} {k k' : Nat} {ps : List Str} {c : Addr}
theorem DOb.of {te : TE} (p : PE X e te) (h : WOb (bs X B) c te δ R) : DOb B X c e δ R := fun σ F H r Q q pins s I => p.run pins s σ H Q I (h σ F H r Q q)
theorem DOg.of {sts : List Stmt} {ts : TS} (q : PSs X sts ts) (h : WOg (bs X B) c ts δ R) : DOg B X c sts δ R := fun σ F H r D z pins s I => q.run pins s σ H D I (h σ F H r D z)
end
end DL
set_option maxHeartbeats 200000
set_option Elab.async false
set_option linter.all false
set_option maxRecDepth 100000
set_option maxHeartbeats 1000000
set_option maxHeartbeats 200000
set_option Elab.async false
set_option linter.all false
set_option maxRecDepth 100000
set_option maxHeartbeats 1000000
namespace DL
open PySem PySem.Spec PyProof.Rows L2
open PySem.W (alike alikeAll dataLt dataLe AllAlike Sortable EachIs)
end DL
set_option maxHeartbeats 200000
set_option Elab.async false
set_option linter.all false
set_option maxRecDepth 100000
set_option maxHeartbeats 1000000
namespace DL
open PySem PySem.Spec PyProof.Rows L2
open PySem.W (alike alikeAll dataLt dataLe AllAlike Sortable EachIs)
abbrev TK := List L2.Key
abbrev EnT := TK × Addr × V
abbrev tkind (P : Program) (w : World) := tupleKind (mixKind P w)
def TdR : List EnT → List (TK × Addr × Value) → Prop := Paired fun p q => p.1 = q.1 ∧ p.2.1 = q.2.1 ∧ RelV p.2.2 q.2.2
def TdH (P : Program) (w : World) (a : Addr) (es : List EnT) (h : Heap) : Prop := (a == sysModules) = false ∧ ∃ xs, TdR es xs ∧ ∃ o ds ep, h.get? a = some o ∧ o.ExactDict ∧ o.data = .dict ds ep ∧ ds.toList = xs.map (entryOfKey (tkind P w)) ∧ (xs.map (·.1)).Nodup
def TdO (P : Program) (w : World) (a : Addr) (es : List EnT) : HO := .ext (TdH P w a es)
def KeysIn (H : Hp) (es : List EnT) : Prop := ∀ x ∈ es, H x.2.1 = some (.tup (x.1.map kV))
def valT (es : List EnT) (k : TK) : Option V := (es.find? fun x => decide (x.1 = k)).map (·.2.2)
def putT (es : List EnT) (k : TK) (b : Addr) (v : V) : List EnT := if (valT es k).isSome = true then es.map (fun x => if x.1 = k then (x.1, x.2.1, v) else x) else es ++ [(k, b, v)]
theorem td_ok {P : Program} {w : World} {H : Hp} {h : Heap} {a : Addr} {es : List EnT} (t : TdH P w a es h) : ObjOk P w H h a (TdO P w a es) := by
  refine ⟨t, ?_, fun h1 h2 p k => ?_⟩
  · obtain ⟨_, _, _, o, _, _, e, _⟩ := t
    exact ⟨o, e⟩
  · obtain ⟨z, xs, r, o, ds, ep, e, c⟩ := p
    exact ⟨z, xs, r, o, ds, ep, k _ e, c⟩
theorem TdR.keys : ∀ {es : List EnT} {xs : List (TK × Addr × Value)}, TdR es xs → xs.map (·.1) = es.map (·.1)
  | _, _, .nil => rfl
  | _, _, .cons h t => by rw [List.map_cons, List.map_cons, TdR.keys t, h.1]
theorem TdR.len {es : List EnT} {xs : List (TK × Addr × Value)} (r : TdR es xs) : es.length = xs.length := Paired.length r
theorem TdR.val {es : List EnT} {xs : List (TK × Addr × Value)} (r : TdR es xs) (k : TK) : RelO (valT es k) ((atKey xs k).map (·.2)) := by
  induction r with
  | nil => exact True.intro
  | @cons p q ps qs h t ih =>
    obtain ⟨h1, _, h2⟩ := h
    by_cases e : p.1 = k
    · have e' : q.1 = k := h1.symm.trans e
      have b : atKey (q :: qs) k = some q.2 := by simp [atKey, List.find?_cons, e']
      have c : valT (p :: ps) k = some p.2.2 := by simp [valT, List.find?_cons, e]
      rw [c, b]; exact h2
    · have e' : ¬ q.1 = k := fun z => e (h1.trans z)
      have b : atKey (q :: qs) k = atKey qs k := by simp [atKey, List.find?_cons, e']
      have c : valT (p :: ps) k = valT ps k := by simp [valT, List.find?_cons, e]
      rw [c, b]; exact ih
theorem TdR.put {es : List EnT} {xs : List (TK × Addr × Value)} (r : TdR es xs) (k : TK) {b : Addr} {y : V} {u : Value} (ry : RelV y u) : TdR (putT es k b y) (storedH xs k b u) := by
  unfold putT storedH
  rw [(r.val k).isSome_eq, Option.isSome_map]
  by_cases q : (atKey xs k).isSome = true
  · rw [if_pos q, if_pos q]
    clear q
    induction r with
    | nil => exact .nil
    | @cons p q ps qs h t ih =>
      rw [List.map_cons, List.map_cons]
      refine .cons ?_ ih
      obtain ⟨h1, h2, h3⟩ := h
      unfold putAt
      by_cases e : p.1 = k
      · rw [if_pos e, if_pos (h1.symm.trans e)]; exact ⟨h1, h2, ry⟩
      · rw [if_neg e, if_neg (fun z => e (h1.trans z))]; exact ⟨h1, h2, h3⟩
  · rw [if_neg q, if_neg q]; exact Paired.snoc r ⟨rfl, rfl, ry⟩
section
variable {X : Cx} {pins : List (Addr × Obj)} {σ : L2.St} {H : Hp} {s : Shared} {a b : Addr} {es : List EnT} {k : TK} {v : V} {u r : Value} {A : Around} {E : Value → Shared → Prop}
theorem td_at (I : Inv X pins σ H s) (e : H a = some (TdO X.prog X.w a es)) (hk : KeysIn H es) : (a == sysModules) = false ∧ ∃ xs, TdR es xs ∧ s.heap.DictOfH (tkind X.prog X.w) a xs := by
  obtain ⟨⟨z, xs, r, o, ds, ep, h1, h2, h3, h4, h5⟩, _⟩ := (show ObjOk X.prog X.w H s.heap a (TdO X.prog X.w a es) from I.hok a _ e)
  refine ⟨z, xs, r, o, ds, ep, h1, h2, h3, h4, fun x hx => ?_, h5⟩
  have all : ∀ {l : List EnT} {m : List (TK × Addr × Value)}, TdR l m → KeysIn H l → ∀ x ∈ m, (tkind X.prog X.w).is s.heap x.1 x.2.1 := by
    intro l m q
    induction q with
    | nil => intro _ x hx; exact nomatch hx
    | @cons p q ps qs hq t ih =>
      intro hkl x hx
      rcases List.mem_cons.mp hx with e | hx
      · subst e
        refine key_of I.hok ?_
        rw [← hq.1, ← hq.2.1]
        exact hkl p List.mem_cons_self
      · exact ih (fun y hy => hkl y (List.mem_cons_of_mem _ hy)) x hx
  exact all r hk x hx
theorem t_setItem {Q : Unit → Shared → Prop} (hu : A.units + 1 < cLine) (I : Inv X pins σ H s) (e : H a = some (TdO X.prog X.w a es)) (hk : KeysIn H es) (eb : H b = some (.tup (k.map kV))) (hl : es.length ≤ 1000) (rv : RelV v r) (h : ∀ s', Inv X pins σ (upd H a (TdO X.prog X.w a (putT es k b v))) s' → Q () s') :
    wpAny (model X.prog X.w) A (setItem (.ref a) (.ref b) r) Q E s := by
  obtain ⟨hd, xs, rel, dd⟩ := td_at I e hk
  have hz : xs.length ≤ sizeLine := by rw [← rel.len, sizeLine_eq]; omega
  refine wpAny_setItem_heap (hsz := hz) (tupleKind_room_in1 hu) (key_of I.hok eb) dd fun h' dd' hs => h _ ?_
  obtain ⟨q, ds, ep, hq, h2, h3, h4, _, h5⟩ := dd'
  exact d_write I (by rw [e]; exact True.intro) hs ⟨q, hq⟩ (td_ok ⟨hd, _, rel.put k rv, q, ds, ep, hq, h2, h3, h4, h5⟩)
end
def tTNew (P : Program) (w : World) : TE := fun _ H Q => ∀ p, H p = none → Q (.ref p) (upd H p (TdO P w p []))
def sTPut (P : Program) (w : World) (td ty tv : TE) : TS := fun D σ H => tv σ H fun v H1 => td σ H1 fun x H2 => ty σ H2 fun y H3 => ∃ a es b k, x = .ref a ∧ H3 a = some (TdO P w a es) ∧ KeysIn H3 es ∧ y = .ref b ∧ H3 b = some (.tup (k.map kV)) ∧ es.length ≤ 1000 ∧ D.nx σ (upd H3 a (TdO P w a (putT es k b v)))
section
variable {X : Cx} {o i e f value : Expr} {pos pos' tpos apos cpos : Pos} {td ty tv tx : TE}
theorem pe_tnew : PE X (.Dict [] [] pos) (tTNew X.prog X.w) := ⟨fun pins s σ H Q I h =>
  wpAny_Dict_empty ⟨.ref s.heap.objs.size, _, I.laid (a := s.heap.objs.size) (o := TdO X.prog X.w s.heap.objs.size []) (t' := s.toks) (fun _ _ q => Heap.get?_push_of_some _ q) (Nat.le_refl _)
    (td_ok ⟨beq_eq_false_iff_ne.mpr (Ne.symm (Nat.ne_of_lt I.big)), [], .nil, _, #[], 0, Heap.get?_push_size _ rfl, ⟨rfl, rfl, rfl⟩, rfl, rfl, List.nodup_nil⟩), rfl, h _ (I.hok.fresh (Nat.le_refl _))⟩⟩
theorem ps_tput (hu : X.A.units + 1 < cLine) (ho : PE X o td) (hi : PE X i ty) (hv : PE X value tv) (hs : swapsWith value (some (.Subscript o i pos')) pos.line X.env = pure false) :
    PS X (.Assign [.Subscript o i pos'] value pos) (sTPut X.prog X.w td ty tv) := by
  refine ⟨fun pins s σ H D I h => ?_⟩
  refine wpAny_Assign_Subscript (thn (hv.run pins s σ H _ I h) fun r s1 ⟨v, H1, I1, rv, q1⟩ => thn (ho.run pins s1 σ H1 _ I1 q1) fun u s2 ⟨x, H2, I2, rx, q2⟩ => thn (hi.run pins s2 σ H2 _ I2 q2) fun iv s3 ⟨y, H3, I3, ry, a, es, b, k, ex, g, gk, ey, eb, hl, q3⟩ => ?_) hs
  subst ex ey
  obtain rfl : u = Value.ref a := rx
  obtain rfl : iv = Value.ref b := ry
  exact t_setItem hu I3 g gk eb hl rv fun s4 I4 => ⟨σ, _, I4, q3⟩
end
end DL
set_option maxHeartbeats 200000
set_option Elab.async false
set_option linter.all false
set_option maxRecDepth 100000
set_option maxHeartbeats 1000000
namespace DL
open PySem PySem.Spec PyProof.Rows L2
abbrev KvT := List (TK × PyData)
def tkD (k : TK) : PyData := .tuple (k.map keyD)
def getT (kvs : KvT) (k : TK) : Option PyData := (kvs.find? fun kv => decide (kv.1 = k)).map (·.2)
def putTD (kvs : KvT) (k : TK) (x : PyData) : KvT := if (getT kvs k).isSome = true then kvs.map (fun kv => if kv.1 = k then (kv.1, x) else kv) else kvs ++ [(k, x)]
def adr : V → Addr
  | .ref b => b
  | _ => 0
def mkT (P : Program) (w : World) (a : Addr) (ks : List TK) (vs : List V) : HO := TdO P w a (ks.zip (((vs.take ks.length).map adr).zip (vs.drop ks.length)))
def tdC (P : Program) (w : World) (a : Addr) (kvs : KvT) : C := .gen (some a) (mkT P w a (kvs.map (·.1))) (kvs.map (fun kv => tkD kv.1) ++ kvs.map (·.2))
def EsOk (K : PySem.W.Frag) (F : Hp) : List EnT → KvT → Prop := Paired fun e kv => e.1 = kv.1 ∧ F e.2.1 = some (.tup (e.1.map kV)) ∧ Dq K F e.2.2 kv.2
theorem keyD_atom : ∀ k : L2.Key, atom (keyD k) = true
  | .inl _ => rfl
  | .inr _ => rfl
theorem toV_key : ∀ k : L2.Key, toV (keyD k) = kV k
  | .inl _ => rfl
  | .inr _ => rfl
theorem tk_v {K : PySem.W.Frag} {F : Hp} {v : V} {k : TK} (h : Dq K F v (tkD k)) : ∃ b, v = .ref b ∧ F b = some (.tup (k.map kV)) := by
  unfold tkD at h
  cases h with
  | tup hs ha hp =>
    have := atoms_v ha (by rw [List.all_map, List.all_eq_true]; exact fun x _ => keyD_atom x)
    rw [List.map_map] at this
    refine ⟨_, rfl, ?_⟩
    rw [hp, this]
    congr 2
    exact List.map_congr_left fun x _ => toV_key x
theorem keyDs_v {K : PySem.W.Frag} {F : Hp} : ∀ k : TK, DqAll K F (k.map kV) (k.map keyD)
  | [] => .nil
  | .inl i :: k => .cons (.int i) (keyDs_v k)
  | .inr x :: k => .cons (.str x) (keyDs_v k)
theorem v_tk {K : PySem.W.Frag} {F : Hp} {b : Addr} {k : TK} (h : F b = some (.tup (k.map kV))) : Dq K F (.ref b) (tkD k) := .tup (.inl (.inl h)) (keyDs_v k) h
theorem EsOk.mono {K : PySem.W.Frag} {F F' : Hp} (e : Same F F') : ∀ {es : List EnT} {kvs : KvT}, EsOk K F es kvs → EsOk K F' es kvs
  | _, _, .nil => .nil
  | _, _, .cons h t => .cons ⟨h.1, e _ _ h.2.1, dp_mono e _ _ h.2.2⟩ (EsOk.mono e t)
theorem EsOk.len {K : PySem.W.Frag} {F : Hp} {es : List EnT} {kvs : KvT} (h : EsOk K F es kvs) : es.length = kvs.length := Paired.length h
theorem EsOk.keys {K : PySem.W.Frag} {F : Hp} : ∀ {es : List EnT} {kvs : KvT}, EsOk K F es kvs → KeysIn F es
  | _, _, .nil => fun x hx => nomatch hx
  | _, _, .cons h t => fun x hx => by
    rcases List.mem_cons.mp hx with rfl | hx
    · exact h.2.1
    · exact EsOk.keys t x hx
theorem EsOk.val {K : PySem.W.Frag} {F : Hp} {k : TK} : ∀ {es : List EnT} {kvs : KvT}, EsOk K F es kvs → (∀ x, getT kvs k = some x → ∃ v, valT es k = some v ∧ Dq K F v x) ∧ (getT kvs k = none → valT es k = none)
  | _, _, .nil => ⟨fun x e => (by cases e), fun _ => rfl⟩
  | e :: es, kv :: kvs, .cons h t => by
    have ih := EsOk.val (k := k) t
    unfold getT valT at *
    rw [List.find?_cons, List.find?_cons, h.1]
    by_cases g : kv.1 = k
    · rw [decide_eq_true g]
      exact ⟨fun x hx => ⟨e.2.2, rfl, (by cases hx; exact h.2.2)⟩, fun z => (by cases z)⟩
    · rw [decide_eq_false g]
      exact ih
theorem EsOk.some? {K : PySem.W.Frag} {F : Hp} {k : TK} {es : List EnT} {kvs : KvT} (h : EsOk K F es kvs) : (valT es k).isSome = (getT kvs k).isSome := by
  obtain ⟨h1, h2⟩ := h.val (k := k)
  cases e : getT kvs k with
  | none => rw [h2 e]; rfl
  | some x =>
    obtain ⟨v, hv, _⟩ := h1 x e
    rw [hv]
    rfl
theorem EsOk.put {K : PySem.W.Frag} {F : Hp} {k : TK} {b : Addr} {v : V} {x : PyData} {es : List EnT} {kvs : KvT} (h : EsOk K F es kvs) (hb : F b = some (.tup (k.map kV))) (hv : Dq K F v x) : EsOk K F (putT es k b v) (putTD kvs k x) := by
  unfold putT putTD
  rw [h.some?]
  by_cases q : (getT kvs k).isSome = true
  · rw [if_pos q, if_pos q]
    clear q
    induction h with
    | nil => exact .nil
    | @cons e kv es kvs h t ih =>
      rw [List.map_cons, List.map_cons]
      refine .cons ?_ ih
      obtain ⟨h1, h2, h3⟩ := h
      by_cases g : e.1 = k
      · rw [if_pos g, if_pos (h1.symm.trans g)]; exact ⟨h1, h2, hv⟩
      · rw [if_neg g, if_neg (fun z => g (h1.trans z))]; exact ⟨h1, h2, h3⟩
  · rw [if_neg q, if_neg q]; exact Paired.snoc h ⟨rfl, hb, hv⟩
theorem es_zip {K : PySem.W.Frag} {F : Hp} : ∀ {kvs : KvT} {bs us : List V}, DqAll K F bs (kvs.map fun kv => tkD kv.1) → DqAll K F us (kvs.map (·.2)) → EsOk K F ((kvs.map (·.1)).zip ((bs.map adr).zip us)) kvs
  | [], _, _, h, h' => .nil
  | kv :: kvs, _, _, h, h' => by
    cases h with
    | cons h1 h2 =>
      cases h' with
      | cons h3 h4 =>
        obtain ⟨b, rfl, hb⟩ := tk_v h1
        exact .cons ⟨rfl, hb, h3⟩ (es_zip h2 h4)
theorem es_of {K : PySem.W.Frag} {F : Hp} {P : Program} {w : World} {a : Addr} {kvs : KvT} {vs : List V} (h : DqAll K F vs (kvs.map (fun kv => tkD kv.1) ++ kvs.map (·.2))) : ∃ es, EsOk K F es kvs ∧ mkT P w a (kvs.map (·.1)) vs = TdO P w a es := by
  have h1 := dpAll_take kvs.length h
  have h2 := dpAll_drop kvs.length h
  rw [List.take_left' (by rw [List.length_map])] at h1
  rw [List.drop_left' (by rw [List.length_map])] at h2
  refine ⟨_, es_zip h1 h2, ?_⟩
  unfold mkT
  rw [List.length_map]
theorem of_es {K : PySem.W.Frag} {F : Hp} {P : Program} {w : World} {a : Addr} {kvs : KvT} {es : List EnT} (h : EsOk K F es kvs) : ∃ vs, DqAll K F vs (kvs.map (fun kv => tkD kv.1) ++ kvs.map (·.2)) ∧ mkT P w a (kvs.map (·.1)) vs = TdO P w a es := by
  refine ⟨es.map (fun e => V.ref e.2.1) ++ es.map (·.2.2), ?_, ?_⟩
  · refine dpAll_app ?_ ?_
    · induction h with
      | nil => exact .nil
      | cons h t ih => exact .cons (by have := v_tk (K := K) h.2.1; rw [h.1] at this; exact this) ih
    · induction h with
      | nil => exact .nil
      | cons h t ih => exact .cons h.2.2 ih
  · unfold mkT
    have hl := h.len
    rw [List.length_map, List.take_left' (by rw [List.length_map]; exact hl), List.drop_left' (by rw [List.length_map]; exact hl)]
    congr 1
    clear hl
    induction h with
    | nil => rfl
    | @cons e kv es kvs h t ih =>
      simp only [List.map_cons, List.zip_cons_cons]
      rw [ih, ← h.1]
      rfl
section
variable {B : B0} {X : Cx} {e e2 f : Expr} {δ : St'} {N : St' → Prop} {Φ R : PE1} {pp pos pos' p2 apos : Pos} {pn x : Str} {kvs0 : KvT} {a0 : Addr}
theorem cell_td {B : Bs} {σ : List (Option V)} {F H : Hp} {i : Nat} {P : Program} {w : World} (r : Rep B δ σ F H) (hi : δ.s[i]? = some (some (tdC P w a0 kvs0))) : ∃ es, σ[i]? = some (some (.ref a0)) ∧ B.H a0 = none ∧ F a0 = none ∧ H a0 = some (TdO P w a0 es) ∧ EsOk B.K F es kvs0 ∧ KeysIn H es := by
  obtain ⟨u, hu, a, vs, rfl, hB, hF, hH, hpa, hd⟩ := r.cell i _ hi
  obtain rfl : a = a0 := hpa a0 rfl
  obtain ⟨es, h1, h2⟩ := es_of (P := P) (w := w) (a := a) hd
  exact ⟨es, hu, hB, hF, by rw [hH, h2], h1, fun x hx => r.ex _ _ (h1.keys x hx)⟩
theorem td_cell {B : Bs} {F H : Hp} {P : Program} {w : World} {a : Addr} {kvs : KvT} {es : List EnT} (hB : B.H a = none) (hF : F a = none) (hH : H a = some (TdO P w a es)) (h : EsOk B.K F es kvs) : CellOk B F H (tdC P w a kvs) (.ref a) := by
  obtain ⟨vs, h1, h2⟩ := of_es (P := P) (w := w) (a := a) h
  exact ⟨a, vs, rfl, hB, hF, by rw [hH, ← h2], fun p hp => by injection hp, h1⟩
/-- x = {} -/
theorem ds_tnew (i : Nat) (h : ∀ a, N (δ.put i (tdC X.prog X.w a []))) (hN : X.N.Nodup) (hi : X.N[i]? = some x := by rfl) (hx : Loc X.env.scope x := by first | exact .inl rfl | exact .inr rfl)
    (hs : swapsWith (.Dict [] [] p2) (some (.Name x pos')) pos.line X.env = pure false := by rfl) (hf : X.fn x = true ∨ X.env.scope.names.lookup x = some .local := by first | exact .inl rfl | exact .inr rfl) : DS B X (.Assign [.Name x pos'] (.Dict [] [] p2) pos) δ N R :=
  .of (ps_set hN hi hx pe_tnew hs hf) fun σ F H r D hn hr => fun p hp => by
    obtain ⟨j1, j2, j3, j4⟩ := r.fresh hp
    have r1 := r.side (o := TdO X.prog X.w p []) j2 j1 j4
    exact hn _ _ F _ (Same.refl F) (r1.putO i (c := tdC X.prog X.w p []) j4 (td_cell j1 j2 upd_same .nil)) (h p)
/-- d[e] = e2 -/
theorem ds_tput (i : Nat) (hu : X.A.units + 1 < cLine) (h : DE B X e2 δ fun x δ1 => DE B X e δ1 fun y δ2 => ∃ (a : Addr) (kvs : KvT) (k : TK), y = tkD k ∧ δ2.s[i]? = some (some (tdC X.prog X.w a kvs)) ∧ kvs.length ≤ 1000 ∧ N (δ2.put i (tdC X.prog X.w a (putTD kvs k x)))) (hi : δ.s[i]? = some (some (tdC X.prog X.w a0 kvs0)) := by rfl) (hN : X.N[i]? = some pn := by rfl)
    (hv : Vis X.env.scope pn := by first | exact Or.inl rfl | exact Or.inr (Or.inl rfl) | exact Or.inr (Or.inr rfl)) (hd : (pn == ("__debug__" : Str)) = false := by decide) (hcd : (pn == ("__classdict__" : Str)) = false := by decide) (hs : swapsWith e2 (some (.Subscript (.Name pn pp) e p2)) pos.line X.env = pure false := by rfl) :
    DS B X (.Assign [.Subscript (.Name pn pp) e p2] e2 pos) δ N R := .of (ps_tput hu (pe_var hN hv hd hcd) pe_w pe_w hs) fun σ F H r D hn hr => h σ F H r _ fun v x δ1 F1 H1 e1 r1 d p => by
  obtain ⟨es0, hu', hB, hF, hH, _, hK0⟩ := cell_td r hi
  refine ⟨.ref a0, hu', p σ F1 H1 r1 _ fun w y δ2 F2 H2 e2' r2 dw ⟨a, kvs, k, hy, hi2, hl, q⟩ => ?_⟩
  subst hy
  obtain ⟨es, hu2, hB2, hF2, hH2, hE, hK⟩ := cell_td r2 hi2
  rw [hu'] at hu2
  obtain rfl : a0 = a := by injection hu2 with h1; injection h1 with h1; injection h1
  obtain ⟨b, rfl, hb⟩ := tk_v dw
  refine ⟨a0, es, b, k, rfl, hH2, hK, rfl, r2.ex _ _ hb, by rw [hE.len]; exact hl, ?_⟩
  exact hn _ σ F2 _ (e1.trans e2') (r2.write (c2 := tdC X.prog X.w a0 (putTD kvs k x)) hi2 rfl hu' hB2 hF2 rfl (td_cell hB2 hF2 upd_same (hE.put hb (dp_mono e2' _ _ d)))) q
end
end DL
set_option maxHeartbeats 200000
set_option Elab.async false
set_option linter.all false
set_option maxRecDepth 100000
set_option maxHeartbeats 1000000
namespace DL
open PySem PySem.Spec PyProof.Rows L2
open PySem.W (alike alikeAll dataLt dataLe AllAlike Sortable EachIs)
abbrev InT (B : B0) (P : Program) (w : World) (K : PySem.W.Frag) (a : Addr) (kvs : KvT) : Prop := ∃ es, B.F a = some (TdO P w a es) ∧ EsOk K B.F es kvs
theorem InT.sub {B B' : B0} {P : Program} {w : World} {K : PySem.W.Frag} {a : Addr} {kvs : KvT} (h : InT B P w K a kvs) (s : Same B.F B'.F) : InT B' P w K a kvs := by
  obtain ⟨es, h1, h2⟩ := h
  exact ⟨es, s _ _ h1, h2.mono s⟩
end DL
set_option maxHeartbeats 200000
set_option Elab.async false
set_option linter.all false
set_option maxRecDepth 100000
set_option maxHeartbeats 1000000
namespace DL
open PySem PySem.Spec PyProof.Rows L2
end DL
set_option maxHeartbeats 200000
set_option Elab.async false
set_option linter.all false
set_option maxRecDepth 100000
set_option maxHeartbeats 1000000
namespace DL
open PySem PySem.Spec PyProof.Rows L2
end DL
set_option maxHeartbeats 200000
set_option Elab.async false
set_option linter.all false
set_option maxRecDepth 100000
set_option maxHeartbeats 4000000
namespace K3
open PySem PySem.Spec PyProof.Rows L2 DL
def topS (i : Nat) : Stmt := PySem.Challenge.pw_sayloom_k15_rows_of_events_done.main.body.getD i (.Pass ⟨0, 0, 0, 0⟩)
def clsAt (i j : Nat) : Stmt := match topS i with
  | .ClassDef _ _ _ b _ _ _ _ _ _ _ => b.getD j (.Pass ⟨0, 0, 0, 0⟩)
  | s => s
abbrev s_LoomError_ini : Stmt := clsAt 1 0
abbrev n_LoomError_ini : List Str := ["self", "text"]
theorem sc_LoomError_ini : FnScope n_LoomError_ini ["self", "text"] (defScope s_LoomError_ini) := ⟨rfl, rfl, rfl, by decide +kernel, rfl, by decide +kernel, by decide +kernel⟩
abbrev s_NoPlace_ini : Stmt := clsAt 5 0
abbrev n_NoPlace_ini : List Str := ["self", "place"]
theorem sc_NoPlace_ini : FnScope n_NoPlace_ini ["self", "place"] (defScope s_NoPlace_ini) := ⟨rfl, rfl, rfl, by decide +kernel, rfl, by decide +kernel, by decide +kernel⟩
abbrev s_is_name : Stmt := topS 9
abbrev n_is_name : List Str := ["thing"]
theorem sc_is_name : FnScope n_is_name ["thing"] (defScope s_is_name) := ⟨rfl, rfl, rfl, by decide +kernel, rfl, by decide +kernel, by decide +kernel⟩
abbrev s_is_number_below : Stmt := topS 10
abbrev n_is_number_below : List Str := ["thing", "bound"]
theorem sc_is_number_below : FnScope n_is_number_below ["thing", "bound"] (defScope s_is_number_below) := ⟨rfl, rfl, rfl, by decide +kernel, rfl, by decide +kernel, by decide +kernel⟩
abbrev s_is_tuple_of : Stmt := topS 11
abbrev n_is_tuple_of : List Str := ["thing", "least", "most"]
theorem sc_is_tuple_of : FnScope n_is_tuple_of ["thing", "least", "most"] (defScope s_is_tuple_of) := ⟨rfl, rfl, rfl, by decide +kernel, rfl, by decide +kernel, by decide +kernel⟩
abbrev s_is_end : Stmt := topS 15
abbrev n_is_end : List Str := ["thing"]
theorem sc_is_end : FnScope n_is_end ["thing"] (defScope s_is_end) := ⟨rfl, rfl, rfl, by decide +kernel, rfl, by decide +kernel, by decide +kernel⟩
abbrev s_is_end_among : Stmt := topS 16
abbrev n_is_end_among : List Str := ["thing", "hands", "hand", "states", "many", "known", "state", "last", "step", "kind", "other", "word", "then", "event"]
theorem sc_is_end_among : FnScope n_is_end_among ["thing", "hands"] (defScope s_is_end_among) := ⟨rfl, rfl, rfl, by decide +kernel, rfl, by decide +kernel, by decide +kernel⟩
abbrev s__is_new_event : Stmt := topS 17
abbrev n__is_new_event : List Str := ["event", "hand", "hands", "known"]
theorem sc__is_new_event : FnScope n__is_new_event ["event", "hand", "hands", "known"] (defScope s__is_new_event) := ⟨rfl, rfl, rfl, by decide +kernel, rfl, by decide +kernel, by decide +kernel⟩
abbrev s_is_event : Stmt := topS 18
abbrev n_is_event : List Str := ["thing", "kind", "other", "word"]
theorem sc_is_event : FnScope n_is_event ["thing"] (defScope s_is_event) := ⟨rfl, rfl, rfl, by decide +kernel, rfl, by decide +kernel, by decide +kernel⟩
abbrev s_is_view : Stmt := topS 19
abbrev n_is_view : List Str := ["thing", "event"]
theorem sc_is_view : FnScope n_is_view ["thing"] (defScope s_is_view) := ⟨rfl, rfl, rfl, by decide +kernel, rfl, by decide +kernel, by decide +kernel⟩
abbrev s_check_end : Stmt := topS 20
abbrev n_check_end : List Str := ["end"]
theorem sc_check_end : FnScope n_check_end ["end"] (defScope s_check_end) := ⟨rfl, rfl, rfl, by decide +kernel, rfl, by decide +kernel, by decide +kernel⟩
abbrev s_check_view : Stmt := topS 21
abbrev n_check_view : List Str := ["view"]
theorem sc_check_view : FnScope n_check_view ["view"] (defScope s_check_view) := ⟨rfl, rfl, rfl, by decide +kernel, rfl, by decide +kernel, by decide +kernel⟩
abbrev s_check_state : Stmt := topS 22
abbrev n_check_state : List Str := ["end", "state"]
theorem sc_check_state : FnScope n_check_state ["end", "state"] (defScope s_check_state) := ⟨rfl, rfl, rfl, by decide +kernel, rfl, by decide +kernel, by decide +kernel⟩
abbrev s_events_in : Stmt := topS 23
abbrev n_events_in : List Str := ["state", "step"]
theorem sc_events_in : FnScope n_events_in ["state"] (defScope s_events_in) := ⟨rfl, rfl, rfl, by decide +kernel, rfl, by decide +kernel, by decide +kernel⟩
abbrev s_end_behind : Stmt := topS 24
abbrev n_end_behind : List Str := ["end", "view", "start", "state", "done"]
theorem sc_end_behind : FnScope n_end_behind ["end", "view", "start"] (defScope s_end_behind) := ⟨rfl, rfl, rfl, by decide +kernel, rfl, by decide +kernel, by decide +kernel⟩
abbrev s_walk_along : Stmt := topS 25
abbrev n_walk_along : List Str := ["states", "thing", "at", "done", "event", "kind", "other", "word", "then"]
theorem sc_walk_along : FnScope n_walk_along ["states", "thing", "at"] (defScope s_walk_along) := ⟨rfl, rfl, rfl, by decide +kernel, rfl, by decide +kernel, by decide +kernel⟩
abbrev s_events_at : Stmt := topS 26
abbrev n_events_at : List Str := ["end", "state"]
theorem sc_events_at : FnScope n_events_at ["end", "state"] (defScope s_events_at) := ⟨rfl, rfl, rfl, by decide +kernel, rfl, by decide +kernel, by decide +kernel⟩
abbrev s_is_done : Stmt := topS 27
abbrev n_is_done : List Str := ["end", "state"]
theorem sc_is_done : FnScope n_is_done ["end", "state"] (defScope s_is_done) := ⟨rfl, rfl, rfl, by decide +kernel, rfl, by decide +kernel, by decide +kernel⟩
abbrev s__law_pot : Stmt := topS 29
abbrev n__law_pot : List Str := ["script", "k", "cell"]
theorem sc__law_pot : FnScope n__law_pot ["script", "k"] (defScope s__law_pot) := ⟨rfl, rfl, rfl, by decide +kernel, rfl, by decide +kernel, by decide +kernel⟩
abbrev s__law_take : Stmt := topS 30
abbrev n__law_take : List Str := ["pot", "many", "digit", "turn", "one", "two"]
theorem sc__law_take : FnScope n__law_take ["pot", "many"] (defScope s__law_take) := ⟨rfl, rfl, rfl, by decide +kernel, rfl, by decide +kernel, by decide +kernel⟩
abbrev s__law_names : Stmt := topS 31
abbrev n__law_names : List Str := ["pot", "many", "letters", "found", "k", "word", "turn", "at", "some", "sign", "one"]
theorem sc__law_names : FnScope n__law_names ["pot", "many"] (defScope s__law_names) := ⟨rfl, rfl, rfl, by decide +kernel, rfl, by decide +kernel, by decide +kernel⟩
abbrev s__law_row : Stmt := topS 32
abbrev n__law_row : List Str := ["pot", "others", "words", "many", "found", "turn", "kind", "word", "step", "one"]
theorem sc__law_row : FnScope n__law_row ["pot", "others", "words", "many"] (defScope s__law_row) := ⟨rfl, rfl, rfl, by decide +kernel, rfl, by decide +kernel, by decide +kernel⟩
abbrev s__law_end : Stmt := topS 33
abbrev n__law_end : List Str := ["pot", "hand", "others", "words", "many", "k"]
theorem sc__law_end : FnScope n__law_end ["pot", "hand", "others", "words"] (defScope s__law_end) := ⟨rfl, rfl, rfl, by decide +kernel, rfl, by decide +kernel, by decide +kernel⟩
abbrev s__law_then : Stmt := topS 34
abbrev n__law_then : List Str := ["states", "spot", "event", "step"]
theorem sc__law_then : FnScope n__law_then ["states", "spot", "event"] (defScope s__law_then) := ⟨rfl, rfl, rfl, by decide +kernel, rfl, by decide +kernel, by decide +kernel⟩
abbrev s__law_behind : Stmt := topS 35
abbrev n__law_behind : List Str := ["states", "spot", "seen", "event"]
theorem sc__law_behind : FnScope n__law_behind ["states", "spot", "seen"] (defScope s__law_behind) := ⟨rfl, rfl, rfl, by decide +kernel, rfl, by decide +kernel, by decide +kernel⟩
abbrev s__law_view : Stmt := topS 36
abbrev n__law_view : List Str := ["pot", "states", "spot", "others", "words", "found", "turn", "some", "step", "event"]
theorem sc__law_view : FnScope n__law_view ["pot", "states", "spot", "others", "words"] (defScope s__law_view) := ⟨rfl, rfl, rfl, by decide +kernel, rfl, by decide +kernel, by decide +kernel⟩
abbrev s__law_no_view : Stmt := topS 37
abbrev n__law_no_view : List Str := ["pot", "seen", "at", "odd", "some", "one"]
theorem sc__law_no_view : FnScope n__law_no_view ["pot", "seen"] (defScope s__law_no_view) := ⟨rfl, rfl, rfl, by decide +kernel, rfl, by decide +kernel, by decide +kernel⟩
abbrev s__law_refused : Stmt := topS 38
abbrev n__law_refused : List Str := ["ask", "e"]
theorem sc__law_refused : FnScope n__law_refused ["ask"] (defScope s__law_refused) := ⟨rfl, rfl, rfl, by decide +kernel, rfl, by decide +kernel, by decide +kernel⟩
abbrev s__law_refusals_right : Stmt := topS 39
abbrev n__law_refusals_right : List Str := ["pot", "own", "seen", "many", "odd", "bad", "kept", "asks", "due", "ask"]
abbrev s__law_round_right : Stmt := topS 40
abbrev n__law_round_right : List Str := ["pot", "hand", "other", "word", "many", "size", "ring", "k", "spot"]
theorem sc__law_round_right : FnScope n__law_round_right ["pot", "hand", "other", "word"] (defScope s__law_round_right) := ⟨rfl, rfl, rfl, by decide +kernel, rfl, by decide +kernel, by decide +kernel⟩
abbrev s_law : Stmt := topS 41
abbrev n_law : List Str := ["script", "k", "pot", "names", "words", "own", "hand", "states", "kept", "spot", "row", "due", "step", "turn", "seen", "event"]
structure Tx (mg : Str → Option Value) : Prop where
  isi : mg "isinstance" = none
  len : mg "len" = none
  all : mg "all" = none
  any : mg "any" = none
  tup : mg "tuple" = none
  str : mg "str" = none
  int : mg "int" = none
  bool : mg "bool" = none
  zip : mg "zip" = none
  sorted : mg "sorted" = none
  set : mg "set" = none
  list : mg "list" = none
  range : mg "range" = none
  enum : mg "enumerate" = none
  min : mg "min" = none
  max : mg "max" = none
  abs : mg "abs" = none
  repr : mg "repr" = none
  fault : ∃ t, mg "FAULT" = some (.str "!" t)
  mostL : ∃ t, mg "MOST_LETTERS" = some (.int 8 t)
end K3
set_option maxHeartbeats 200000
set_option Elab.async false
set_option linter.all false
set_option maxRecDepth 100000
set_option maxHeartbeats 4000000
namespace K3
open PySem PySem.Spec PyProof.Rows L2 DL
open PySem.W (alike alikeAll dataLt dataLe AllAlike Sortable EachIs keyToks keyToksAll lex_pre)
variable {P : Program} {w : World} {K : PySem.W.Frag} {mg : Str → Option Value} {base : Heap} {f : Addr} {fd : FuncData} {k : Nat}
def isTupM (d : PyData) (a b : Int) : Bool := match d with
  | .tuple xs => decide (a ≤ (xs.length : Int)) && decide ((xs.length : Int) ≤ b)
  | _ => false
def S_is_tuple_of : SpD := fun ds Φ => ∃ d a b, ds = [d, .int a, .int b] ∧ noD d = true ∧ Φ (.bool (isTupM d a b))
theorem ok_is_tuple_of (T : Tx mg) (F : Fd K "is_tuple_of" s_is_tuple_of [] [] f fd) : FnOk P w K mg base CX0 1 f fd ["thing", "least", "most"] (spD K S_is_tuple_of) := by
  refine fnD F sc_is_tuple_of (fun ds Φ h => by obtain ⟨d, a, b, rfl, _⟩ := h; rfl) (fun B cdv A outer s H E ds Φ hr hp hS => ?_)
  obtain ⟨d, a, b, rfl, hno, hΦ⟩ := hS
  refine ds_last (ds_ret (de_and (de_isi T.isi T.tup (.inl rfl) boot_tuple (de_nm 0 ⟨hno, _, rfl, ?_⟩))))
  cases d with
  | tuple xs =>
    refine iteT (de_one (de_chain op_le op_le (de_nm 1 (de_callB call_len T.len boot_len (da_cons (de_nm 0 (da_nil (rc_lenT rfl (rd_B0 ⟨_, rfl, ?_⟩)))))))))
    have e : isTupM (.tuple xs) a b = (decide (a ≤ (xs.length : Int)) && decide ((xs.length : Int) ≤ b)) := rfl
    rw [e] at hΦ
    refine ite2 (fun h => de_nm 2 (rd_B0 ?_)) (fun h => ?_)
    · rw [h] at hΦ
      exact hΦ
    · have h' : decide (a ≤ (xs.length : Int)) = false := by simpa using h
      rw [h'] at hΦ
      exact hΦ
  | _ => exact iteF hΦ
def natD (n : Nat) : PyData := .int (n : Nat)
def flt : Str := "!"
theorem onlyOwn_md {i j : Nat} {c : Option PyData} {r : List (Option C)} : onlyOwn i (c.map C.d :: r) j = onlyOwn i r (j + 1) := by cases c <;> rfl
structure IsNm (s : Str) : Prop where
  l1 : 1 ≤ s.length
  l2 : s.length ≤ 8
  cs : ∀ c ∈ s.cps.toList, 97 ≤ c ∧ c ≤ 122
def isNmB (s : Str) : Bool := decide (1 ≤ s.length) && decide (s.length ≤ 8) && s.cps.toList.all fun c => decide (97 ≤ c) && decide (c ≤ 122)
theorem isNmB_iff {s : Str} : isNmB s = true ↔ IsNm s := by
  unfold isNmB
  simp only [Bool.and_eq_true, decide_eq_true_eq, List.all_eq_true]
  exact ⟨fun ⟨⟨a, b⟩, c⟩ => ⟨a, b, c⟩, fun h => ⟨⟨h.l1, h.l2⟩, h.cs⟩⟩
def S_is_name : SpD := fun ds Φ => ∃ s, ds = [.str s] ∧ s.length ≤ 1000 ∧ Φ (.bool (isNmB s))
theorem boot_all : bootBuiltins "all" = some (.builtin "all") := by decide +kernel
theorem ok_is_name (T : Tx mg) (F : Fd K "is_name" s_is_name [] [] f fd) : FnOk P w K mg base CX0 1 f fd ["thing"] (spD K S_is_name) := by
  refine fnD F sc_is_name (fun ds Φ h => by obtain ⟨s, rfl, _⟩ := h; rfl) (fun B cdv A outer s H E ds Φ hr hp hS => ?_)
  obtain ⟨x, rfl, hx, hΦ⟩ := hS
  have hz : x.length ≤ 100000 := by omega
  obtain ⟨t, ht⟩ := T.mostL
  refine ds_cons (ds_if (dt_pw (dw_or (dt_not (dt_val (de_isi T.isi T.str (.inr (.inl rfl)) boot_str (de_nm 0 ⟨rfl, _, rfl, ?_⟩)))))))
  refine iteF (dw_or1 (dt_cmp op_gt (de_callB call_len T.len boot_len (da_cons (de_nm 0 (da_nil (rc_lenS rfl hz (de_glob (v := .int 8) ht ⟨_, rfl⟩ (fun _ => .int _) (rd_B0 ⟨_, rfl, ?_⟩)))))))))
  have e2 : decide ((8 : Int) < (x.length : Nat)) = !decide (x.length ≤ 8) := by
    rw [← decide_not]
    exact decide_eq_decide.mpr (by omega)
  rw [e2]
  have sm := small_letters x
  by_cases h2 : x.length ≤ 8
  · have eq : isNmB x = (Txt.isascii x && (Txt.isalpha x && Txt.islower x)) := by
      unfold isNmB
      rw [sm, decide_eq_true h2, Bool.and_true]
    rw [eq] at hΦ
    rw [decide_eq_true h2]
    refine iteF (ds_nil (ds_last (ds_ret (de_and (de_isascii (de_nm 0 ⟨x, rfl, _, rfl, ?_⟩))))))
    cases h3 : Txt.isascii x with
    | false =>
      rw [h3] at hΦ
      exact iteF hΦ
    | true =>
      rw [h3] at hΦ
      refine iteT (de_and (de_isalpha (de_nm 0 ⟨x, rfl, _, rfl, ?_⟩)))
      cases h4 : Txt.isalpha x with
      | false =>
        rw [h4] at hΦ
        exact iteF hΦ
      | true =>
        rw [h4] at hΦ
        exact iteT (de_one (de_islower (de_nm 0 ⟨x, rfl, hΦ⟩)))
  · rw [decide_eq_false h2]
    refine iteT (ds_last (ds_ret (de_bl ?_)))
    have : isNmB x = false := by unfold isNmB; rw [decide_eq_false h2]; simp
    rw [this] at hΦ
    exact hΦ
theorem isTup_tup {l : List PyData} {a b : Int} (h1 : a ≤ (l.length : Int)) (h2 : (l.length : Int) ≤ b) : isTupM (.tuple l) a b = true := by
  show (decide (a ≤ (l.length : Int)) && decide ((l.length : Int) ≤ b)) = true
  rw [decide_eq_true h1, decide_eq_true h2]
  rfl
def forBv : Stmt → List Stmt
  | .For _ _ b _ _ => b
  | _ => []
abbrev St3 := Str × Str × Str
def s3D (t : St3) : PyData := .tuple [.str t.1, .str t.2.1, .str t.2.2]
theorem room1 {k : Nat} {A : Around} (r : Room k A) : A.units + 1 < cLine := by
  have := r.un
  omega
def rowD (r : St3 × Nat) : PyData := .tuple [.str r.1.1, .str r.1.2.1, .str r.1.2.2, natD r.2]
def stD (r : List (St3 × Nat)) : PyData := .tuple (r.map rowD)
def endD (h : Str) (sts : List (List (St3 × Nat))) : PyData := .tuple [.str h, .tuple (sts.map stD)]
end K3
set_option maxHeartbeats 200000
set_option Elab.async false
set_option linter.all false
set_option maxRecDepth 100000
set_option maxHeartbeats 1000000
namespace DL
open PySem PySem.Spec PyProof.Rows L2
section
variable {K : PySem.W.Frag} {x qual : Str} {params : Arguments} {body : List Stmt} {scope : Scope} {f : Addr} {fd : FuncData} {ps : List Str}
/-- f(k = v, ..): no defaults -/
theorem kbindsK (F : FunD K x qual params body scope [] [] f fd) (ks : List Str) (g : {α : Type} → List α → List α) (hrel : ∀ {zs : List V} {ws : List Value}, Vals zs ws → Vals (g zs) (g ws))
    (h : ∀ (kV doc pm : Value) (an : Option Addr) (cdv ct : Value) (ws : List Value), ws.length = ks.length → bindArgs (PySem.W.fnOf x qual params body scope .none kV doc pm an cdv ct) ⟨[], ks.zip ws⟩ = pure (ps.zip (g ws))) :
    KBn K fd ps 0 ks (fun _ ws => g ws) (fun _ zs => g zs) := by
  obtain ⟨oc, od, dV, kV, doc, pm, an, cdv, ct, osl, rfl, lk, hcd, hD, hK⟩ := F.ex
  rcases hD with ⟨_, rfl⟩ | ⟨e, _⟩
  · refine ⟨fun s us ws X l1 l2 => ?_, fun r1 r2 => hrel r2⟩
    obtain rfl : us = [] := List.eq_nil_of_length_eq_zero l1
    exact .of_eq (h kV doc pm an cdv ct ws l2)
  · exact absurd rfl e
end
section
variable {X : Cx} {CX : CXT} {k n : Nat} {f : Addr} {fd : FuncData} {ps ks : List Str} {sp : Sp} {E : XK} {x : Str} {p pos : Pos} {kws : List Keyword} {t tk : TA} {g : List Value → List Value → List Value} {gV : List V → List V → List V}
theorem pe_callN0 (F : FnOk X.prog X.w X.K X.mg X.base CX k f fd ps sp) (hr : Room k X.A) (hg : Gl X x) (hm : X.mg x = some (.ref f)) (hk : PySem.W.keepIn X.K (.ref f) = true) (hb : KBn X.K fd ps 0 ks g gV) (hx : Passes CX X E)
    (hkw : PK X kws tk) (hall : (backToKw pos (keywordEach kws X.env)).all (·.1.isSome) = true := by rfl) (hks : (backToKw pos (keywordEach kws X.env)).filterMap (·.1) = ks := by rfl)
    (hdb : (x == ("__debug__" : Str)) = false := by decide)
    (hpl : ((backTo pos (starEach [] X.env)).any (·.1) || (backToKw pos (keywordEach kws X.env)).any (·.1.isNone)) = false := by rfl) :
    PE X (.Call (.Name x p) [] kws pos) (fun σ H Q => tk σ H fun zs H2 => zs.length = ks.length ∧ sp (gV [] zs) H2 Q E) := by
  refine ⟨fun pins s σ H Q I h => ?_⟩
  refine wpAny_Call_Name_kw (ld_glob I hg hm ?_ hdb)
  refine PySem.W.callWith_KW0 (h₀ := X.base) I.ok.mod.kin hk hall (thn (hkw.run pos pins s σ H _ I h) fun ws s2 ⟨zs, H2, I2, rz, l2, q2⟩ => ⟨I2.kIn, ?_⟩) hpl
  rw [hks]
  exact run_fnN F hr hb hx I2 .nil rz rfl l2 q2
end
section
variable {B : B0} {X : Cx} {kws : List Keyword} {δ : St'} {Φ : PE1} {p pos : Pos} {k k' n : Nat} {ps ks : List Str} {x : Str} {gV : List V → List V → List V} {tk : TA}
theorem de_fKw0 {S : SpD} (gD : List PyData → List PyData) (G : FnKw X.prog X.w X.K X.mg X.base x k ps 0 ks gV (spD X.K S)) (hr : Room k' X.A) (hkw : PK X kws tk)
    (hg2 : ∀ {F : Hp} {zs : List V} {es : List PyData}, DqAll X.K F zs es → DqAll X.K F (gV [] zs) (gD es))
    (h : WA (bs X B) tk δ fun zs δ2 => zs.length = ks.length ∧ S (gD zs) fun y => Φ y δ2) (hk : k ≤ k' := by decide)
    (hg : Gl X x := by rfl) (hall : (backToKw pos (keywordEach kws X.env)).all (·.1.isSome) = true := by rfl) (hks : (backToKw pos (keywordEach kws X.env)).filterMap (·.1) = ks := by rfl)
    (hdb : (x == ("__debug__" : Str)) = false := by decide)
    (hpl : ((backTo pos (starEach [] X.env)).any (·.1) || (backToKw pos (keywordEach kws X.env)).any (·.1.isNone)) = false := by rfl) :
    DE B X (.Call (.Name x p) [] kws pos) δ Φ := by
  obtain ⟨f, fd, g, h1, h2, h3, h4⟩ := G.ex
  refine .of (pe_callN0 h4 (hr.mono hk) hg h1 h2 h3 pass0 hkw hall hks hdb hpl) fun σ F H r Q q => h σ F H r _ fun zs es' δ2 F2 H2 e2 r2 d2 ⟨l2, hS⟩ => ?_
  refine ⟨(dpAll_len d2).trans l2, F2, _, _, r2.ex, hg2 d2, hS, fun v y F3 H3 q1 q2 q3 q4 q5 q6 => ?_⟩
  exact q v y δ2 F3 H3 (e2.trans q1) (r2.called q1 q2 q3 q4) q5 q6
end
end DL
set_option maxHeartbeats 200000
set_option Elab.async false
set_option linter.all false
set_option maxRecDepth 100000
set_option maxHeartbeats 4000000
namespace K3
open PySem PySem.Spec PyProof.Rows L2 DL
open PySem.W (alike alikeAll dataLt dataLe AllAlike Sortable EachIs keyToks keyToksAll lex_pre)
variable {P : Program} {w : World} {K : PySem.W.Frag} {mg : Str → Option Value} {base : Heap} {f : Addr} {fd : FuncData} {k : Nat}
def lt3 (a b : St3) : Prop := dataLt (s3D a) (s3D b) = true
theorem lt3_irrefl (a : St3) : ¬ lt3 a a := fun h => by
  have : dataLt (s3D a) (s3D a) = false := lex_irrefl _
  unfold lt3 at h
  rw [this] at h
  cases h
theorem toks3 (a b c : Str) : keyToks (.tuple [.str a, .str b, .str c]) = [.inl 1, .inr a.cps.toList, .inl 1, .inr b.cps.toList, .inl 1, .inr c.cps.toList, .inl 0] := rfl
theorem lt3_total {a b : St3} (h : ¬ lt3 a b) (h' : ¬ lt3 b a) : a = b := by
  have e := lex_total (O := itemOrd) (keyToks (s3D a)) (keyToks (s3D b)) (by
    cases g : dataLt (s3D a) (s3D b) with
    | false => exact g
    | true => exact absurd g h) (by
    cases g : dataLt (s3D b) (s3D a) with
    | false => exact g
    | true => exact absurd g h')
  unfold s3D at e
  rw [toks3, toks3] at e
  simp only [List.cons.injEq, Sum.inr.injEq, and_true, true_and] at e
  exact Prod.ext (PySem.W.str_of_cps e.1) (Prod.ext (PySem.W.str_of_cps e.2.1) (PySem.W.str_of_cps e.2.2))
theorem alike3 (a b : St3) : alike (s3D a) (s3D b) = true := rfl
def tk3 (e : St3) : TK := [.inr e.1, .inr e.2.1, .inr e.2.2]
theorem tk3_inj {a b : St3} (h : tk3 a = tk3 b) : a = b := by
  unfold tk3 at h
  simp only [List.cons.injEq, Sum.inr.injEq, and_true] at h
  exact Prod.ext h.1 (Prod.ext h.2.1 h.2.2)
def kvL {α : Type} (g : α → PyData) (l : List (St3 × α)) : KvT := l.map fun r => (tk3 r.1, g r.2)
def look3 {α : Type} (l : List (St3 × α)) (e : St3) : Option α := (l.find? fun r => decide (r.1 = e)).map (·.2)
theorem kvL_get {α : Type} {g : α → PyData} {e : St3} : ∀ {l : List (St3 × α)}, getT (kvL g l) (tk3 e) = (look3 l e).map g
  | [] => rfl
  | r :: l => by
    have ih := kvL_get (g := g) (e := e) (l := l)
    unfold getT kvL look3 at *
    rw [List.map_cons, List.find?_cons, List.find?_cons]
    by_cases h : r.1 = e
    · rw [decide_eq_true (congrArg tk3 h), decide_eq_true h]; rfl
    · rw [decide_eq_false (fun z => h (tk3_inj z)), decide_eq_false h]; exact ih
theorem look3_in {α : Type} {e : St3} {x : α} : ∀ {l : List (St3 × α)}, (l.map (·.1)).Nodup → (e, x) ∈ l → look3 l e = some x
  | [], _, h => by cases h
  | r :: l, nd, h => by
    rw [List.map_cons, List.nodup_cons] at nd
    unfold look3
    rw [List.find?_cons]
    rcases List.mem_cons.mp h with h | h
    · rw [← h, decide_eq_true rfl]; rfl
    · have : ¬ r.1 = e := fun z => nd.1 (z ▸ List.mem_map.mpr ⟨_, h, rfl⟩)
      rw [decide_eq_false this]
      exact look3_in nd.2 h
theorem look3_some {α : Type} {e : St3} {x : α} {l : List (St3 × α)} (h : look3 l e = some x) : (e, x) ∈ l := by
  unfold look3 at h
  obtain ⟨r, h1, h2⟩ := Option.map_eq_some_iff.mp h
  have h3 := List.mem_of_find?_eq_some h1
  have h4 : r.1 = e := of_decide_eq_true (List.find?_some (p := fun r : St3 × α => decide (r.1 = e)) h1)
  rw [← h2, ← h4]
  exact h3
theorem look3_isSome {α : Type} {e : St3} {l : List (St3 × α)} (nd : (l.map (·.1)).Nodup) : (look3 l e).isSome = true ↔ e ∈ l.map (·.1) := by
  constructor
  · intro h
    obtain ⟨x, hx⟩ := Option.isSome_iff_exists.mp h
    exact List.mem_map.mpr ⟨_, look3_some hx, rfl⟩
  · intro h
    obtain ⟨r, hr, rfl⟩ := List.mem_map.mp h
    rw [look3_in nd (x := r.2) hr]
    rfl
theorem nm_S {cs : List Nat} (h1 : 1 ≤ cs.length) (h2 : cs.length ≤ 8) (hc : ∀ c ∈ cs, 97 ≤ c ∧ c ≤ 122) : IsNm (SX.S cs) where
  l1 := by rw [SX.S_len]; exact h1
  l2 := by rw [SX.S_len]; exact h2
  cs := by rw [show (SX.S cs).cps.toList = cs by simp [SX.S]]; exact hc
theorem cutS_upto {z : Str} {k : Nat} : cutS z none (some (k : Int)) = SX.S (z.cps.toList.take k) := by
  unfold cutS
  rw [HT.sIx_nat, HT.sIx_none, Nat.sub_zero, List.drop_zero]
  have e : z.length = z.cps.toList.length := (Array.length_toList (xs := z.cps)).symm
  rcases Nat.le_total k z.cps.toList.length with h | h
  · rw [Nat.min_eq_left (by omega)]
  · rw [Nat.min_eq_right (by omega), e, List.take_length, List.take_of_length_le h]
theorem one_S (c : Nat) : (⟨#[c]⟩ : Str) = SX.S [c] := rfl
def abc : Str := "abcdefghijklmnopqrstuvwxyz"
def lets : List Nat := abc.cps.toList
theorem lets_in : ∀ c ∈ lets, 97 ≤ c ∧ c ≤ 122 := by decide +kernel
theorem lets_len : lets.length = 26 := by decide +kernel
theorem pig {α : Type} [DecidableEq α] : ∀ (xs l : List α), xs.Nodup → (∀ x ∈ xs, x ∈ l) → xs.length ≤ l.length
  | [], l, _, _ => Nat.zero_le _
  | x :: xs, l, nd, h => by
    have h1 := List.nodup_cons.mp nd
    have h2 := pig xs (l.erase x) h1.2 fun y hy => (List.mem_erase_of_ne (fun (e : y = x) => h1.1 (e ▸ hy))).mpr (h y (List.mem_cons_of_mem _ hy))
    have hx : x ∈ l := h x List.mem_cons_self
    have h3 := List.length_erase_of_mem hx
    have h4 : 0 < l.length := List.length_pos_of_mem hx
    rw [List.length_cons]
    omega
def notD (l : List Str) : PyData → Bool
  | .str s => !decide (s ∈ l)
  | _ => false
theorem signs_abc : DL.signs abc = lets.map fun c => PyData.str ⟨#[c]⟩ := rfl
theorem filter_not (l : List Str) : ∀ xs : List Str, (xs.map PyData.str).filter (notD l) = (xs.filter fun x => !decide (x ∈ l)).map PyData.str := fun xs => by
  rw [List.filter_map]
  rfl
theorem flat_one : ∀ ys : List Str, (∀ y ∈ ys, ∃ c, y = (⟨#[c]⟩ : Str) ∧ 97 ≤ c ∧ c ≤ 122) → ∃ cs : List Nat, cs.length = ys.length ∧ (∀ c ∈ cs, 97 ≤ c ∧ c ≤ 122) ∧ ys = (cs.map fun c => [c]).map SX.S
  | [], _ => ⟨[], rfl, by simp, rfl⟩
  | y :: ys, h => by
    obtain ⟨c, rfl, hc⟩ := h y List.mem_cons_self
    obtain ⟨cs, h1, h2, h3⟩ := flat_one ys fun z hz => h z (List.mem_cons_of_mem _ hz)
    refine ⟨c :: cs, by simp [h1], fun d hd => ?_, by rw [h3]; rfl⟩
    rcases List.mem_cons.mp hd with rfl | hd
    · exact hc
    · exact h2 d hd
theorem flat_sing : ∀ cs : List Nat, (cs.map fun c => [c]).flatten = cs
  | [] => rfl
  | c :: cs => by rw [List.map_cons, List.flatten_cons, flat_sing cs]; rfl
theorem join_nm {ys : List Str} (h : ∀ y ∈ ys, ∃ c, y = (⟨#[c]⟩ : Str) ∧ 97 ≤ c ∧ c ≤ 122) (h1 : 1 ≤ ys.length) (h2 : ys.length ≤ 8) : IsNm (Txt.join (Str.ofString "") ys) := by
  obtain ⟨cs, e1, e2, rfl⟩ := flat_one ys h
  rw [show Str.ofString "" = SX.S [] from rfl, SX.join_S, joinL_nil, flat_sing]
  exact nm_S (by omega) (by omega) e2
theorem ones_len {ys : List Str} (h : ∀ y ∈ ys, ∃ c, y = (⟨#[c]⟩ : Str) ∧ 97 ≤ c ∧ c ≤ 122) : (ys.map (·.length)).sum = ys.length := by
  induction ys with
  | nil => rfl
  | cons y ys ih =>
    obtain ⟨c, rfl, _⟩ := h y List.mem_cons_self
    rw [List.map_cons, List.sum_cons, ih fun z hz => h z (List.mem_cons_of_mem _ hz), List.length_cons]
    show 1 + _ = _
    omega
def forB : Stmt → List Stmt
  | .For _ _ b _ _ => b
  | _ => []
theorem mod_in {a b : Int} (h : 0 < b) : 0 ≤ a % b ∧ a % b < b := ⟨Int.emod_nonneg _ (by omega), Int.emod_lt_of_pos _ h⟩
theorem boot_max : bootBuiltins "max" = some (.builtin "max") := by decide +kernel
theorem boot_min : bootBuiltins "min" = some (.builtin "min") := by decide +kernel
end K3
set_option maxHeartbeats 200000
set_option Elab.async false
set_option linter.all false
set_option maxRecDepth 100000
set_option maxHeartbeats 1000000
namespace DL
open PySem PySem.Spec PyProof.Rows L2
end DL
set_option maxHeartbeats 200000
set_option Elab.async false
set_option linter.all false
set_option maxRecDepth 100000
set_option maxHeartbeats 1000000
namespace DL
open PySem PySem.Spec PyProof.Rows L2
end DL
set_option maxHeartbeats 200000
set_option Elab.async false
set_option linter.all false
set_option maxRecDepth 100000
set_option maxHeartbeats 2000000
namespace DL
open PySem PySem.Spec PyProof.Rows L2
end DL
set_option maxHeartbeats 200000
set_option Elab.async false
set_option linter.all false
set_option maxRecDepth 100000
set_option maxHeartbeats 2000000
namespace DL
open PySem PySem.Spec PyProof.Rows L2
def WOo (B : Bs) (ts : TS) (δ : St') (R : Addr → List Str → List PyData → St' → Prop) : Prop := ∀ σ F H, Rep B δ σ F H → ∀ D : Ends, (∀ a c dx us ns xs δ' σ' F' H', Same F F' → Rep B δ' σ' F' H' → B.H a = none → F' a = none → H' a = some (.ins c dx (ns.zip us)) → DqAll B.K F' us xs → R c ns xs δ' → D.rt (.ref a) H') → ts D σ H
def DOo (B : B0) (X : Cx) (sts : List Stmt) (δ : St') (R : Addr → List Str → List PyData → St' → Prop) : Prop := WOo (bs X B) (wSs X sts) δ R
section
variable {B : B0} {X : Cx} {e : Expr} {st : Stmt} {rest : List Stmt} {δ : St'} {R : Addr → List Str → List PyData → St' → Prop} {pos : Pos}
theorem DOo.of {sts : List Stmt} {ts : TS} (q : PSs X sts ts) (h : WOo (bs X B) ts δ R) : DOo B X sts δ R := fun σ F H r D z pins s I => q.run pins s σ H D I (h σ F H r D z)
end
end DL
set_option maxHeartbeats 200000
set_option Elab.async false
set_option linter.all false
set_option maxRecDepth 100000
set_option maxHeartbeats 2000000
namespace DL
open PySem PySem.Spec PyProof.Rows L2
end DL
set_option maxHeartbeats 200000
set_option Elab.async false
set_option linter.all false
set_option maxRecDepth 100000
set_option maxHeartbeats 2000000
namespace DL
open PySem PySem.Spec PyProof.Rows L2
def rTNotIn (P : Program) (w : World) : R2 := fun x y H Q => ∃ a es b k, y = .ref a ∧ H a = some (TdO P w a es) ∧ KeysIn H es ∧ x = .ref b ∧ H b = some (.tup (k.map kV)) ∧ Q (.bl (!(valT es k).isSome)) H
theorem RelO.isSome_eq {o : Option V} {u : Option Value} (h : RelO o u) : o.isSome = u.isSome := by
  cases o <;> cases u <;> first | rfl | exact h.elim | cases h
section
variable {X : Cx} {ek ev : Expr} {tk tv : TE} {pos : Pos}
theorem op_tnotin (hu : X.A.units + 1 < cLine) : OpR X (compareOp .NotIn) (rTNotIn X.prog X.w) := by
  intro pins s σ H x y v u Q I rx ry h
  obtain ⟨a, es, b, k, rfl, g, gk, rfl, eb, q⟩ := h
  obtain rfl : u = Value.ref a := ry
  obtain rfl : v = Value.ref b := rx
  obtain ⟨hd, xs, rel, dd⟩ := td_at I g gk
  refine wpAny_notIn_heap (tupleKind_room_in1 hu) (key_of I.hok eb) hd dd ⟨_, H, I.tok _, ?_, q⟩
  have := RelO.isSome_eq (rel.val k)
  rw [Option.isSome_map] at this
  rw [this]
  rfl
end
section
variable {B : B0} {X : Cx} {e ek ev : Expr} {δ : St'} {N : St' → Prop} {R : PE1} {pos pos' p2 pp : Pos} {x pn : Str} {kvs0 : KvT} {a0 : Addr}
/-- e not in d -/
theorem dt_tnotin (i : Nat) {Ψ : Bool → St' → Prop} (hu : X.A.units + 1 < cLine) (h : DE B X e δ fun y δ' => ∃ (a : Addr) (kvs : KvT) (k : TK), y = tkD k ∧ δ'.s[i]? = some (some (tdC X.prog X.w a kvs)) ∧ Ψ (!(getT kvs k).isSome) δ') (hi : δ.s[i]? = some (some (tdC X.prog X.w a0 kvs0)) := by rfl) (hN : X.N[i]? = some pn := by rfl)
    (hv : Vis X.env.scope pn := by first | exact Or.inl rfl | exact Or.inr (Or.inl rfl) | exact Or.inr (Or.inr rfl)) (hd : (pn == ("__debug__" : Str)) = false := by decide) (hcd : (pn == ("__classdict__" : Str)) = false := by decide) (hm : behindInMarks CmpOp.NotIn (.Name pn pp) = false := by rfl) :
    DT B X (.Compare e [.NotIn] [.Name pn pp] pos) δ Ψ := .of (pt_cmpR (op_tnotin hu) pe_w (pe_var hN hv hd hcd) hm) fun σ F H r Q q => by
  refine h σ F H r _ fun w y δ' F' H' e1 r' dw ⟨a, kvs', k, hy, hi2, p⟩ => ?_
  subst hy
  obtain ⟨es, hσ2, hB2, hF2, hH2, hE2, hK2⟩ := cell_td r' hi2
  obtain ⟨b, rfl, hb⟩ := tk_v dw
  refine ⟨.ref a, hσ2, a, es, b, k, rfl, hH2, hK2, rfl, r'.ex _ _ hb, !(valT es k).isSome, rfl, ?_⟩
  rw [hE2.some?]
  exact q _ δ' F' H' e1 r' p
end
end DL
set_option maxHeartbeats 200000
set_option Elab.async false
set_option linter.all false
set_option maxRecDepth 100000
set_option maxHeartbeats 2000000
namespace DL
open PySem PySem.Spec PyProof.Rows L2
end DL
set_option maxHeartbeats 200000
set_option Elab.async false
set_option linter.all false
set_option maxRecDepth 100000
set_option maxHeartbeats 2000000
namespace DL
open PySem PySem.Spec PyProof.Rows L2
end DL
set_option maxHeartbeats 200000
set_option Elab.async false
set_option linter.all false
set_option maxRecDepth 100000
set_option maxHeartbeats 2000000
namespace DL
open PySem PySem.Spec PyProof.Rows L2
theorem strs_v2 {K : PySem.W.Frag} {F : Hp} : ∀ {ss : List Str} {us : List V}, DqAll K F us (ss.map PyData.str) → us = ss.map V.str
  | [], _, h => by cases h; rfl
  | s :: ss, _, h => by
    cases h with
    | cons h1 h2 => cases h1; rw [strs_v2 h2]; rfl
theorem pair_strs {K : PySem.W.Frag} {H : Hp} : ∀ ss : List Str, Paired (EqV K H 1) (ss.map V.str) (ss.map V.str)
  | [] => .nil
  | s :: ss => .cons (.inl ⟨rfl, rfl⟩) (pair_strs ss)
theorem rd_eqSS {B : Bs} {δ : St'} {Φ : PE1} {ss : List Str} (p : Φ (.bool true) δ) : RD B (rEqV B.K) (.list (ss.map PyData.str)) (.list (ss.map PyData.str)) δ Φ :=
  rd_pure (w := .bl true) (fun _ => .bl _) (fun F H v u e d1 d2 Q q => by
    have h1 := dp_mono e _ _ d1
    have h2 := dp_mono e _ _ d2
    cases h1 with
    | lst hs ha =>
      cases h2 with
      | lst hs2 ha2 =>
        rw [strs_v2 ha] at hs
        rw [strs_v2 ha2] at hs2
        exact ⟨1, by decide, .inl ⟨_, _, _, _, rfl, rfl, hs, hs2, pair_strs ss⟩, q⟩) p
end DL
set_option maxHeartbeats 200000
set_option Elab.async false
set_option linter.all false
set_option maxRecDepth 100000
set_option maxHeartbeats 2000000
namespace DL
open PySem PySem.Spec PyProof.Rows L2
abbrev SpT := KvT → List PyData → (PyData → KvT → Prop) → Prop
def spT (P : Program) (w : World) (K : PySem.W.Frag) (S : SpT) : Sp := fun vs H Q _ => ∃ F p vs' ds es kvs Φ, vs = vs' ++ [.ref p] ∧ Same F H ∧ F p = none ∧ H p = some (TdO P w p es) ∧ EsOk K F es kvs ∧ DqAll K F vs' ds ∧ S kvs ds Φ ∧
  ∀ v y es' kvs' F' H', Same F F' → Same F' H' → (∀ b, F b = none → H b ≠ none → F' b = none) → (∀ b o, H b = some o → b ≠ p → H' b = some o) → H' p = some (TdO P w p es') → EsOk K F' es' kvs' → Dq K F' v y → Φ y kvs' → Q v H'
theorem rep_iniT {P : Program} {w : World} {K : PySem.W.Frag} {N : List Str} {F H : Hp} {p : Addr} {vs : List V} {ds : List PyData} {es : List EnT} {kvs : KvT} (e : Same F H) (hp : F p = none) (hH : H p = some (TdO P w p es)) (hE : EsOk K F es kvs) (h : DqAll K F vs ds) :
    Rep ⟨⟨F, fun b => if b = p then none else H b, none, none⟩, w, K⟩ (ini N (ds.map C.d ++ [tdC P w p kvs]) 0) (L2.start N (vs ++ [.ref p])) F H := by
  have hl : (vs ++ [V.ref p]).length = (ds.map C.d ++ [tdC P w p kvs]).length := by simp [dpAll_len h]
  have hc : ∀ {i : Nat} {c' : C}, (ds.map C.d ++ [tdC P w p kvs])[i]? = some c' → (i = ds.length ∧ c' = tdC P w p kvs) ∨ ∃ d, i < ds.length ∧ ds[i]? = some d ∧ c' = .d d := fun {i c'} z => by
    by_cases hi : i < ds.length
    · rw [List.getElem?_append_left (by rw [List.length_map]; exact hi), List.getElem?_map, Option.map_eq_some_iff] at z
      obtain ⟨d, h1, h2⟩ := z
      exact .inr ⟨d, hi, h1, h2.symm⟩
    · rw [List.getElem?_append_right (by rw [List.length_map]; omega), List.length_map] at z
      have hz : i - ds.length = 0 := by
        have := (List.getElem?_eq_some_iff.mp z).1
        simp at this
        omega
      rw [hz] at z
      exact .inl ⟨by omega, (by simpa using z.symm)⟩
  refine ⟨e, Same.refl _, fun b z _ => z, fun b o z _ => ?_, fun a z => (by cases z), fun i c' hi => ?_, start_len hl, fun i j c1 c2 hij h1 h2 o1 o2 => ?_⟩
  · have z' : (if b = p then none else H b) = some o := z
    split at z'
    · cases z'
    · exact z'
  · obtain ⟨v, h1, h2, h3⟩ := start_get hl hi
    rcases hc h3 with ⟨rfl, rfl⟩ | ⟨d, hi', h4, rfl⟩
    · rw [List.getElem?_append_right (by rw [dpAll_len h]; exact Nat.le_refl _), dpAll_len h, Nat.sub_self] at h2
      simp at h2
      subst h2
      exact ⟨.ref p, h1, td_cell (if_pos rfl) hp hH hE⟩
    · obtain ⟨v', q1, q2⟩ := dpAll_get h h4
      rw [List.getElem?_append_left (by rw [dpAll_len h]; exact hi'), q1] at h2
      injection h2 with h2
      subst h2
      exact ⟨_, h1, q2⟩
  · obtain ⟨v1, _, _, q1⟩ := start_get hl h1
    obtain ⟨v2, _, _, q2⟩ := start_get hl h2
    rcases hc q1 with ⟨rfl, rfl⟩ | ⟨d1, _, _, rfl⟩
    · rcases hc q2 with ⟨rfl, rfl⟩ | ⟨d2, _, _, rfl⟩
      · exact absurd rfl hij
      · cases o2
    · cases o1
section
variable {P : Program} {w : World} {K : PySem.W.Frag} {mg : Str → Option Value} {base : Heap} {x qual : Str} {st : Stmt} {f : Addr} {fd : FuncData} {N ps : List Str} {k : Nat}
theorem fnT {S : SpT} {dvs : List V} {kws : List (Str × V)} (F : FunD K x qual (defArgs st) (defBody st) (defScope st) dvs kws f fd) (sc : FnScope N ps (defScope st)) (len : ∀ kvs ds Φ, S kvs ds Φ → ds.length + 1 = ps.length)
    (body : ∀ (B : B0) (cdv : Value) (A : Around) (outer : List Env) (s : Shared) (H : Hp) (E : XK) (p : Addr) (kvs : KvT) (ds : List PyData) (Φ : PyData → KvT → Prop), Room k (A.deeper (envOfC qual (defScope st) s.heap.objs.size f cdv)) → B.p = none → S kvs ds Φ →
      DSs B (bodyX P w K mg base N qual (defScope st) f cdv A outer s H E) (defBody st) (ini N (ds.map C.d ++ [tdC P w p kvs]) 0) (fun δ => ∃ kvs', δ.s[ds.length]? = some (some (tdC P w p kvs')) ∧ Φ .none kvs') fun x δ => ∃ kvs', δ.s[ds.length]? = some (some (tdC P w p kvs')) ∧ Φ x kvs') :
    FnOk P w K mg base CX0 (k + 1) f fd ps (spT P w K S) := by
  refine F.ok sc (fun vs H Q E h => ?_) (fun cdv A outer s H vs Q E hr h => ?_)
  · obtain ⟨F', p, vs', ds, es, kvs, Φ, rfl, _, _, _, _, hd, hS, _⟩ := h
    rw [List.length_append, dpAll_len hd]
    exact len kvs ds Φ hS
  · obtain ⟨F', p, vs', ds, es, kvs, Φ, rfl, e, hp, hH, hE, hd, hS, q⟩ := h
    refine ⟨_, PSs.nox pss_w, ?_⟩
    have fin : ∀ {δ' : St'} {σ' : List (Option V)} {F2 H2 : Hp} {v : V} {y : PyData}, Same F' F2 → Rep ⟨⟨F', fun b => if b = p then none else H b, none, none⟩, w, K⟩ δ' σ' F2 H2 → Dq K F2 v y → (∃ kvs', δ'.s[ds.length]? = some (some (tdC P w p kvs')) ∧ Φ y kvs') → Q v H2 := fun {δ' σ' F2 H2 v y} e2 r2 d2 ⟨kvs', hi, hΦ⟩ => by
      obtain ⟨es', _, _, hF2, hH2, hE2, _⟩ := cell_td r2 hi
      refine q v y es' kvs' F2 H2 e2 r2.ex (fun b h1 h2 => ?_) (fun b o z hb => r2.kp b o (by show (if b = p then none else H b) = some o; rw [if_neg hb]; exact z) (fun y => by cases y)) hH2 hE2 d2 hΦ
      by_cases hb : b = p
      · rw [hb]; exact hF2
      · exact r2.fr b h1 (by show (if b = p then none else H b) ≠ none; rw [if_neg hb]; exact h2)
    refine body ⟨F', fun b => if b = p then none else H b, none, none⟩ cdv A outer s H E p kvs ds Φ hr rfl hS (L2.start N (vs' ++ [V.ref p])) F' H (rep_iniT e hp hH hE hd) _ (fun δ' σ' F2 H2 e2 r2 n => fin e2 r2 .non n) fun v x δ' σ' F2 H2 e2 r2 d2 n => fin e2 r2 d2 n
end
theorem Rep.calledT {B : Bs} {δ : St'} {σ : List (Option V)} {F H F' H' : Hp} {i : Nat} {a : Addr} {P : Program} {w : World} {kvs kvs' : KvT} {es' : List EnT} (r : Rep B δ σ F H) (hi : δ.s[i]? = some (some (tdC P w a kvs))) (e1 : Same F F') (e2 : Same F' H') (fr : ∀ b, F b = none → H b ≠ none → F' b = none)
    (kp : ∀ b o, H b = some o → b ≠ a → H' b = some o) (hH' : H' a = some (TdO P w a es')) (hE : EsOk B.K F' es' kvs') : Rep B (δ.put i (tdC P w a kvs')) σ F' H' := by
  obtain ⟨es, hσ, hB, hF, hH, _, _⟩ := cell_td r hi
  have hF' : F' a = none := fr a hF (by rw [hH]; exact fun q => by cases q)
  have r1 : Rep B δ σ F' (upd H' a (TdO P w a es)) := r.called e1 (fun b o q => by
    have : b ≠ a := fun z => by rw [z, hF'] at q; cases q
    rw [upd_ne this]; exact e2 b o q) fr (fun b o q => by
    by_cases e : b = a
    · subst e
      rw [hH] at q
      rw [upd_same]; exact q
    · rw [upd_ne e]; exact kp b o q e)
  have r2 := r1.write (c2 := tdC P w a kvs') (o := TdO P w a es') hi rfl hσ hB hF' rfl (td_cell hB hF' upd_same hE)
  rw [upd_upd, upd_eq hH'] at r2
  exact r2
section
variable {B : B0} {X : Cx} {e : Expr} {es : List Expr} {δ : St'} {Ψ : PE1} {p pos : Pos} {k k' : Nat} {ps : List Str} {x : Str}
/-- f(e, .., known), known such a dict of our own -/
theorem de_fT {S : SpT} (j : Nat) (G : Fn X.prog X.w X.K X.mg X.base x k ps (spT X.prog X.w X.K S)) (hr : Room k' X.A) (h : DAL B X (e :: es) j δ fun ds δ' => ∃ a kvs, δ'.s[j]? = some (some (tdC X.prog X.w a kvs)) ∧ S kvs ds fun y kvs' => Ψ y (δ'.put j (tdC X.prog X.w a kvs'))) (hk : k ≤ k' := by decide)
    (hg : Gl X x := by rfl) (hdb : (x == ("__debug__" : Str)) = false := by decide) (he : starEach (e :: es) X.env = (false, eval e X.env) :: starEach es X.env := by rfl) (hpl : (backTo pos (starEach es X.env)).any (·.1) = false := by rfl) :
    DE B X (.Call (.Name x p) (e :: es) [] pos) δ Ψ := by
  obtain ⟨f, fd, h1, h2, h3, h4⟩ := G.ex
  refine .of (pe_call h4 (hr.mono hk) hg h1 h2 h3 .nil pass0 pa_w hdb he hpl) fun σ F H r Q q => h σ F H r _ fun vs u ds δ' F' H' e1 r' d hu ⟨a, kvs, hj, hS⟩ => ?_
  obtain ⟨es, hσ, hB, hF, hH, hE, hK⟩ := cell_td r' hj
  rw [hu] at hσ
  have : u = .ref a := by injection hσ with z; injection z
  subst this
  refine ⟨F', a, vs, ds, es, kvs, _, by simp, r'.ex, hF, hH, hE, d, hS, fun v y es' kvs' F2 H2 q1 q2 q3 q4 q5 q6 q7 q8 => ?_⟩
  exact q v y _ F2 H2 (e1.trans q1) (r'.calledT hj q1 q2 q3 q4 q5 q6) q7 q8
end
end DL
set_option maxHeartbeats 200000
set_option Elab.async false
set_option linter.all false
set_option maxRecDepth 100000
set_option maxHeartbeats 4000000
namespace K3
open PySem PySem.Spec PyProof.Rows L2 DL
open PySem.W (alike alikeAll dataLt dataLe AllAlike Sortable EachIs keyToks keyToksAll lex_pre)
variable {P : Program} {w : World} {K : PySem.W.Frag} {mg : Str → Option Value} {base : Heap} {f : Addr} {fd : FuncData} {k : Nat}
def isEvB : PyData → Bool
  | .tuple [.str k, .str o, .str wd] => if k = ("say" : Str) then isNmB o && isNmB wd else decide (k = ("hear" : Str)) && (isNmB o && (isNmB wd || decide (wd = flt)))
  | _ => false
structure AskE (d : PyData) : Prop where
  nd : noD d = true
  three : ∀ xs, d = .tuple xs → xs.length = 3 → ∃ a b c : Str, xs = [.str a, .str b, .str c] ∧ a.length ≤ 1000 ∧ b.length ≤ 1000 ∧ c.length ≤ 1000
def S_is_event : SpD := fun ds Φ => ∃ d, ds = [d] ∧ AskE d ∧ Φ (.bool (isEvB d))
theorem isEvB_no {d : PyData} (h : ∀ xs, d = .tuple xs → xs.length ≠ 3) : isEvB d = false := by
  unfold isEvB
  split
  · exact absurd rfl (h _ rfl)
  · rfl
theorem ok_is_event (T : Tx mg) (GN : Fn P w K mg base "is_name" 1 ["thing"] (spD K S_is_name)) (F : Fd K "is_event" s_is_event [] [] f fd) : FnOk P w K mg base CX0 2 f fd ["thing"] (spD K S_is_event) := by
  refine fnD F sc_is_event (fun ds Φ h => by obtain ⟨_, rfl, _⟩ := h; rfl) (fun B cdv A outer s H E ds Φ hr hp hS => ?_)
  obtain ⟨d, rfl, ha, hΦ⟩ := hS
  have nd := sc_is_event.nd
  obtain ⟨t, ht⟩ := T.fault
  refine ds_cons (ds_if (dt_pw (dw_or (dt_not (dt_val (de_isi T.isi T.tup (.inl rfl) (by decide +kernel) (de_nm 0 ⟨ha.nd, _, rfl, ?_⟩)))))))
  by_cases ht3 : ∃ xs, d = .tuple xs ∧ xs.length = 3
  · obtain ⟨xs, rfl, hl⟩ := ht3
    obtain ⟨a, b, c, rfl, h1, h2, h3⟩ := ha.three xs rfl hl
    refine iteF (dw_or1 (dt_cmp op_ne (de_callB call_len T.len boot_len (da_cons (de_nm 0 (da_nil (rc_lenT rfl (de_int (rd_neI ⟨_, rfl, ?_⟩)))))))))
    refine iteF (ds_nil ?_)
    refine ds_cons (ds_unpack [1, 2, 3] (pg_three 1 2 3 nd) (de_nm 0 (wg_tup (wgs_cons (wg_name (wgs_cons (wg_name (wgs_cons (wg_name (wgs_nil ?_))))))))))
    refine ds_cons (ds_if (dt_cmp op_eq (de_nm 1 (de_str (rd_eqS ⟨_, rfl, ?_⟩)))))
    have hv : isEvB (.tuple [.str a, .str b, .str c]) = if a = ("say" : Str) then isNmB b && isNmB c else decide (a = ("hear" : Str)) && (isNmB b && (isNmB c || decide (c = flt))) := rfl
    rw [hv] at hΦ
    by_cases e : a = ("say" : Str)
    · rw [decide_eq_true e]
      rw [if_pos e] at hΦ
      refine iteT (ds_last (ds_ret (de_and (de_f (k' := 1) GN hr (da_cons (de_nm 2 (da_nil ⟨b, rfl, h2, _, rfl, ?_⟩)))))))
      cases g : isNmB b with
      | false => rw [g] at hΦ; exact iteF hΦ
      | true => rw [g] at hΦ; exact iteT (de_one (de_f (k' := 1) GN hr (da_cons (de_nm 3 (da_nil ⟨c, rfl, h3, hΦ⟩)))))
    · rw [decide_eq_false e]
      rw [if_neg e] at hΦ
      refine iteF (ds_nil (ds_last (ds_ret (de_and (de_cmp op_eq (de_nm 1 (de_str (rd_eqS ⟨_, rfl, ?_⟩))))))))
      by_cases e2 : a = ("hear" : Str)
      · rw [decide_eq_true e2]
        rw [decide_eq_true e2] at hΦ
        refine iteT (de_and (de_f (k' := 1) GN hr (da_cons (de_nm 2 (da_nil ⟨b, rfl, h2, _, rfl, ?_⟩)))))
        cases g : isNmB b with
        | false => rw [g] at hΦ; exact iteF hΦ
        | true =>
          rw [g] at hΦ
          refine iteT (de_one (de_or (de_f (k' := 1) GN hr (da_cons (de_nm 3 (da_nil ⟨c, rfl, h3, _, rfl, ?_⟩))))))
          cases g2 : isNmB c with
          | true => rw [g2] at hΦ; exact iteT hΦ
          | false =>
            rw [g2] at hΦ
            exact iteF (de_one (de_cmp op_eq (de_nm 3 (de_glob (v := .str flt) ht ⟨_, rfl⟩ (fun _ => .str _) (rd_eqS hΦ)))))
      · rw [decide_eq_false e2]
        rw [decide_eq_false e2] at hΦ
        exact iteF hΦ
  · have hno := isEvB_no (d := d) fun xs h1 h2 => ht3 ⟨xs, h1, h2⟩
    rw [hno] at hΦ
    cases d with
    | tuple xs =>
      refine iteF (dw_or1 (dt_cmp op_ne (de_callB call_len T.len boot_len (da_cons (de_nm 0 (da_nil (rc_lenT rfl (de_int (rd_neI ⟨_, rfl, ?_⟩)))))))))
      have : ¬ ((xs.length : Nat) : Int) = 3 := fun z => ht3 ⟨xs, rfl, by omega⟩
      rw [decide_eq_false this]
      exact iteT (ds_last (ds_ret (de_bl hΦ)))
    | _ => exact iteT (ds_last (ds_ret (de_bl hΦ)))
def VwE (e : St3) : Prop := (e.1 = ("say" : Str) ∧ IsNm e.2.1 ∧ IsNm e.2.2) ∨ (e.1 = ("hear" : Str) ∧ IsNm e.2.1 ∧ (IsNm e.2.2 ∨ e.2.2 = flt))
theorem VwE.ev {e : St3} (h : VwE e) : isEvB (s3D e) = true := by
  show (if e.1 = ("say" : Str) then isNmB e.2.1 && isNmB e.2.2 else decide (e.1 = ("hear" : Str)) && (isNmB e.2.1 && (isNmB e.2.2 || decide (e.2.2 = flt)))) = true
  rcases h with ⟨h1, h2, h3⟩ | ⟨h1, h2, h3⟩
  · rw [if_pos h1, isNmB_iff.mpr h2, isNmB_iff.mpr h3]; rfl
  · rw [if_neg (by rw [h1]; decide), decide_eq_true h1, isNmB_iff.mpr h2]
    rcases h3 with h3 | h3
    · rw [isNmB_iff.mpr h3]; rfl
    · rw [decide_eq_true h3]; simp
theorem VwE.len {e : St3} (h : VwE e) : e.1.length ≤ 8 ∧ e.2.1.length ≤ 8 ∧ e.2.2.length ≤ 8 := by
  have h3 : IsNm e.2.2 ∨ e.2.2 = flt := by
    rcases h with ⟨_, _, h⟩ | ⟨_, _, h⟩
    · exact .inl h
    · exact h
  have l3 : e.2.2.length ≤ 8 := by
    rcases h3 with h3 | h3
    · exact h3.l2
    · rw [h3]; decide
  rcases h with ⟨h1, h2, _⟩ | ⟨h1, h2, _⟩
  · exact ⟨by rw [h1]; decide, h2.l2, l3⟩
  · exact ⟨by rw [h1]; decide, h2.l2, l3⟩
theorem VwE.ask {e : St3} (h : VwE e) : AskE (s3D e) := ⟨rfl, fun xs z _ => by
  cases z
  have := h.len
  exact ⟨e.1, e.2.1, e.2.2, rfl, by omega, by omega, by omega⟩⟩
def tBool : Bool → PyData := fun b => .bool b
def S_is_new_event : DL.SpT := fun kvs ds Φ => ∃ e h, ds = [s3D e, .str h, .none] ∧ VwE e ∧ e.2.1 ≠ h ∧ kvs.length ≤ 900 ∧ Φ (.bool true) (putTD kvs (tk3 e) (.bool true))
theorem ok__is_new_event (GE : Fn P w K mg base "is_event" 2 ["thing"] (spD K S_is_event)) (F : Fd K "_is_new_event" s__is_new_event [] [] f fd) : FnOk P w K mg base CX0 3 f fd ["event", "hand", "hands", "known"] (DL.spT P w K S_is_new_event) := by
  refine fnT F sc__is_new_event (fun kvs ds Φ h => by obtain ⟨_, _, rfl, _⟩ := h; rfl) (fun B cdv A outer s H E p kvs ds Φ hr hp hS => ?_)
  obtain ⟨e, h, rfl, he, hne, hl, hΦ⟩ := hS
  have hu := room1 hr
  refine ds_cons (ds_if (dt_pw (dw_or (dt_not (dt_val (de_f (k' := 2) GE hr (da_cons (de_nm 0 (da_nil ⟨s3D e, rfl, he.ask, _, rfl, ?_⟩)))))))))
  rw [he.ev]
  refine iteF (dw_or (dt_cmp op_eq (de_ix ix_tup (de_nm 0 (de_int (rd_ixT (z := .str e.2.1) rfl (de_nm 1 (rd_eqS ⟨_, rfl, ?_⟩))))))))
  rw [decide_eq_false hne]
  refine iteF (dw_or1 (dt_pw (dw_and (dt_cmp op_notN (de_nm 2 (de_non (rd_notN ⟨_, rfl, ?_⟩)))))))
  refine iteF (iteF (ds_nil ?_))
  refine ds_cons (ds_tput 3 hu (de_bl (de_nm 0 ⟨p, kvs, tk3 e, rfl, rfl, by omega, ?_⟩)))
  exact ds_last (ds_ret (de_bl ⟨_, rfl, hΦ⟩))
structure EndOk (h : Str) (sts : List (List (St3 × Nat))) (es : List St3) : Prop where
  hn : IsNm h
  l1 : 1 ≤ sts.length
  l2 : sts.length ≤ 100
  el : es.length ≤ 900
  rw : ∀ row ∈ sts, row.length ≤ 1000 ∧ (row.map (·.1)).Pairwise lt3 ∧ ∀ r ∈ row, VwE r.1 ∧ r.1.2.1 ≠ h ∧ r.2 < sts.length ∧ r.1 ∈ es
def knw (ks : List St3) : KvT := kvL tBool (ks.map fun e => (e, true))
theorem knw_has {ks : List St3} {e : St3} (nd : ks.Nodup) : (getT (knw ks) (tk3 e)).isSome = decide (e ∈ ks) := by
  unfold knw
  rw [kvL_get, Option.isSome_map]
  have hk : (ks.map fun e => (e, true)).map (·.1) = ks := by rw [List.map_map]; exact List.map_id _
  have := look3_isSome (l := ks.map fun e => (e, true)) (e := e) (by rw [hk]; exact nd)
  rw [hk] at this
  by_cases h : e ∈ ks
  · rw [decide_eq_true h]; exact this.mpr h
  · rw [decide_eq_false h]
    cases g : (look3 (ks.map fun e => (e, true)) e).isSome with
    | true => exact absurd (this.mp g) h
    | false => rfl
theorem knw_put {ks : List St3} {e : St3} (nd : ks.Nodup) (h : e ∉ ks) : putTD (knw ks) (tk3 e) (.bool true) = knw (ks ++ [e]) := by
  have hg : (getT (knw ks) (tk3 e)).isSome = false := by rw [knw_has nd, decide_eq_false h]
  unfold putTD
  rw [hg, if_neg (by decide)]
  unfold knw kvL
  rw [List.map_append, List.map_append]
  rfl
def lastE (row : List (St3 × Nat)) : PyData := match row.getLast? with
  | none => .tuple []
  | some r => s3D r.1
structure KsOk (es ks : List St3) : Prop where
  nd : ks.Nodup
  sub : ∀ e ∈ ks, e ∈ es
theorem KsOk.len {es ks : List St3} (h : KsOk es ks) : ks.length ≤ es.length := pig ks es h.nd h.sub
abbrev envX (P : Program) (w : World) (h : Str) (sts : List (List (St3 × Nat))) (a : Addr) (ks : List St3) (r : List (Option C)) : St' :=
  ⟨0, [some (.d (endD h sts)), some (.d .none), some (.d (.str h)), some (.d (.tuple (sts.map stD))), some (.d (natD sts.length)), some (tdC P w a (knw ks))] ++ r⟩
theorem last_lt {row : List (St3 × Nat)} {j : Nat} {r : St3 × Nat} (hr : (row.map (·.1)).Pairwise lt3) (hj : row[j]? = some r) : dataLt (lastE (row.take j)) (s3D r.1) = true ∧ alike (lastE (row.take j)) (s3D r.1) = true ∧ lastE (row.take j) ≠ .none ∧ (lastE (row.take j)).depth ≤ 60 ∧ noH (lastE (row.take j)) = true := by
  cases j with
  | zero =>
    refine ⟨?_, ?_, ?_, ?_, ?_⟩
    · show dataLt (.tuple []) (s3D r.1) = true
      rfl
    · show alike (.tuple []) (s3D r.1) = true
      rfl
    · intro z; cases z
    · show 1 ≤ 60
      decide
    · rfl
  | succ j =>
    have hlt := (List.getElem?_eq_some_iff.mp hj).1
    have hq : row[j]? = some row[j] := List.getElem?_eq_getElem (by omega)
    have e : lastE (row.take (j + 1)) = s3D row[j].1 := by
      unfold lastE
      rw [take_snoc hq, List.getLast?_append]
      rfl
    rw [e]
    have hp := List.pairwise_iff_getElem.mp hr j (j + 1) (by rw [List.length_map]; omega) (by rw [List.length_map]; exact hlt) (Nat.lt_succ_self j)
    rw [List.getElem_map, List.getElem_map] at hp
    have he : row[j + 1] = r := (List.getElem?_eq_some_iff.mp hj).2
    rw [he] at hp
    exact ⟨hp, alike3 _ _, (fun z => by cases z), (by show 1 ≤ 60; decide), rfl⟩
end K3
namespace DL
open PySem PySem.Spec PyProof.Rows L2
theorem pg_four {X : Cx} {x y z u : Str} {px py pz pu pos : Pos} {k : Nat} (i j l m : Nat) (nd : X.N.Nodup) (hc : X.calm = true := by rfl) (hi : X.N[i]? = some x := by rfl) (hx : Loc X.env.scope x := by first | exact .inl rfl | exact .inr rfl)
    (hf : X.fn x = true ∨ X.env.scope.names.lookup x = some .local := by first | exact .inl rfl | exact .inr rfl) (hj : X.N[j]? = some y := by rfl) (hy : Loc X.env.scope y := by first | exact .inl rfl | exact .inr rfl)
    (hg : X.fn y = true ∨ X.env.scope.names.lookup y = some .local := by first | exact .inl rfl | exact .inr rfl) (hl : X.N[l]? = some z := by rfl) (hz : Loc X.env.scope z := by first | exact .inl rfl | exact .inr rfl)
    (hh : X.fn z = true ∨ X.env.scope.names.lookup z = some .local := by first | exact .inl rfl | exact .inr rfl) (hm : X.N[m]? = some u := by rfl) (hu : Loc X.env.scope u := by first | exact .inl rfl | exact .inr rfl)
    (hq : X.fn u = true ∨ X.env.scope.names.lookup u = some .local := by first | exact .inl rfl | exact .inr rfl) : PG X (.Tuple [.Name x px, .Name y py, .Name z pz, .Name u pu] k pos) (gTup X.K 4 (gCons (gName i) (gCons (gName j) (gCons (gName l) (gCons (gName m) gNil))))) :=
  pg_tup hc (pgs_cons (pg_name nd hi hx hf) (pgs_cons (pg_name nd hj hy hg) (pgs_cons (pg_name nd hl hz hh) (pgs_cons (pg_name nd hm hu hq) pgs_nil))))
end DL
namespace K3
open PySem PySem.Spec PyProof.Rows L2 DL
variable {P : Program} {w : World} {K : PySem.W.Frag} {mg : Str → Option Value} {base : Heap} {f : Addr} {fd : FuncData} {k : Nat}
def S_is_end_among : SpD := fun ds Φ => ∃ h sts es, ds = [endD h sts, .none] ∧ EndOk h sts es ∧ Φ (.bool true)
theorem ok_is_end_among (T : Tx mg) (hME : ∃ t, mg "MOST_OF_END" = some (.int 100 t)) (GN : Fn P w K mg base "is_name" 1 ["thing"] (spD K S_is_name)) (GT : Fn P w K mg base "is_tuple_of" 1 ["thing", "least", "most"] (spD K S_is_tuple_of))
    (GE : Fn P w K mg base "_is_new_event" 3 ["event", "hand", "hands", "known"] (DL.spT P w K S_is_new_event)) (F : Fd K "is_end_among" s_is_end_among [] [] f fd) : FnOk P w K mg base CX0 4 f fd ["thing", "hands"] (spD K S_is_end_among) := by
  refine fnD F sc_is_end_among (fun ds Φ h => by obtain ⟨_, _, _, rfl, _⟩ := h; rfl) (fun B cdv A outer s H E ds Φ hr hp hS => ?_)
  obtain ⟨h, sts, es, rfl, hE, hΦ⟩ := hS
  obtain ⟨tE, hME⟩ := hME
  have nd := sc_is_end_among.nd
  have hu := room1 hr
  have hl1 := hE.l1
  have hl2 := hE.l2
  have hnl := hE.hn.l2
  refine ds_cons (ds_if (dt_pw (dw_or (dt_not (dt_val (de_isi T.isi T.tup (.inl rfl) boot_tuple (de_nm 0 ⟨rfl, _, rfl, ?_⟩)))))))
  refine iteF (dw_or1 (dt_cmp op_ne (de_callB call_len T.len boot_len (da_cons (de_nm 0 (da_nil (rc_lenT rfl (de_int (rd_neI ⟨_, rfl, ?_⟩)))))))))
  refine iteF (ds_nil ?_)
  refine ds_cons (ds_unpack [2, 3] (pg_two 2 3 nd) (de_nm 0 (wg_tup (wgs_cons (wg_name (wgs_cons (wg_name (wgs_nil ?_))))))))
  refine ds_cons (ds_if (dt_pw (dw_or (dt_not (dt_val (de_f (k' := 3) GN hr (da_cons (de_nm 2 (da_nil ⟨h, rfl, by omega, _, rfl, ?_⟩)))))))))
  rw [isNmB_iff.mpr hE.hn]
  refine iteF (dw_or1 (dt_not (dt_val (de_f (k' := 3) GT hr (da_cons (de_nm 3 (da_cons (de_int (da_cons (de_glob (v := .int 100) hME ⟨_, rfl⟩ (fun _ => .int _) (da_nil ⟨.tuple (sts.map stD), 1, 100, rfl, rfl, _, rfl, ?_⟩)))))))))))
  have e0 : isTupM (.tuple (sts.map stD)) 1 100 = true := isTup_tup (by rw [List.length_map]; omega) (by rw [List.length_map]; omega)
  rw [e0]
  refine iteF (ds_nil ?_)
  refine ds_cons (ds_set 4 (de_callB call_len T.len boot_len (da_cons (de_nm 3 (da_nil (rc_lenT rfl ?_))))) nd)
  refine ds_cons (ds_tnew 5 (fun a => ?_) nd)
  rw [List.length_map]
  refine ds_cons (ds_for [6] (pi_tup pe_w) (pg_name (i := 6) nd rfl (.inl rfl)) (wi_tup (de_nm 3 ⟨sts.map stD, rfl, fun i δ => ∃ ks c6 c7 c8 c9 c10 c11 c12 c13, δ = envX P w h sts a ks [c6, c7, c8, c9, c10, c11, c12, c13] ∧ KsOk es ks, ⟨[], none, none, none, none, none, none, none, none, rfl, ⟨List.nodup_nil, fun e he => by cases he⟩⟩, fun i y δ hy hI => ?_, fun δ hI => ?_⟩)))
  · obtain ⟨ks, c6, c7, c8, c9, c10, c11, c12, c13, rfl, hK⟩ := hI
    obtain ⟨row, hrow, rfl⟩ := List.mem_map.mp (List.mem_of_getElem? hy)
    obtain ⟨hrl, hrs, hrr⟩ := hE.rw row hrow
    refine wg_name ?_
    refine ds_cons (ds_if (dt_not (dt_val (de_isi T.isi T.tup (.inl rfl) boot_tuple (de_nm 6 ⟨rfl, _, rfl, ?_⟩)))))
    refine iteF (ds_nil ?_)
    refine ds_cons (ds_set 7 (de_tup (da_nil ⟨by simp, ?_⟩)) nd)
    refine ds_last (ds_for [8] (pi_tup pe_w) (pg_name (i := 8) nd rfl (.inl rfl)) (wi_tup (de_nm 6 ⟨row.map rowD, rfl, fun j δ => ∃ ks c8 c9 c10 c11 c12 c13, δ = envX P w h sts a ks [some (.d (stD row)), some (.d (lastE (row.take j))), c8, c9, c10, c11, c12, c13] ∧ KsOk es ks, ⟨ks, c8, c9, c10, c11, c12, c13, rfl, hK⟩, fun j y δ hy hJ => ?_, fun δ hJ => ?_⟩)))
    · obtain ⟨ks, c8, c9, c10, c11, c12, c13, rfl, hK⟩ := hJ
      rw [List.getElem?_map, Option.map_eq_some_iff] at hy
      obtain ⟨r, hj, rfl⟩ := hy
      obtain ⟨hv, hne, hnt, hes⟩ := hrr r (List.mem_of_getElem? hj)
      obtain ⟨l1, l2, l3, l4, l5⟩ := last_lt hrs hj
      have hkl := hK.len
      have hel := hE.el
      refine wg_name ?_
      refine ds_cons (ds_if (dt_pw (dw_or (dt_not (dt_val (de_isi T.isi T.tup (.inl rfl) boot_tuple (de_nm 8 ⟨rfl, _, rfl, ?_⟩)))))))
      refine iteF (dw_or1 (dt_cmp op_ne (de_callB call_len T.len boot_len (da_cons (de_nm 8 (da_nil (rc_lenT rfl (de_int (rd_neI ⟨_, rfl, ?_⟩)))))))))
      refine iteF (ds_nil ?_)
      refine ds_cons (ds_unpack [9, 10, 11, 12] (pg_four 9 10 11 12 nd) (de_nm 8 (wg_tup (wgs_cons (wg_name (wgs_cons (wg_name (wgs_cons (wg_name (wgs_cons (wg_name (wgs_nil ?_))))))))))))
      refine ds_cons (ds_if (dt_pw (dw_or (dt_not (dt_val (de_isi T.isi T.str (.inr (.inl rfl)) boot_str (de_nm 9 ⟨rfl, _, rfl, ?_⟩)))))))
      refine iteF (dw_or (dt_not (dt_val (de_isi T.isi T.str (.inr (.inl rfl)) boot_str (de_nm 10 ⟨rfl, _, rfl, ?_⟩)))))
      refine iteF (dw_or1 (dt_not (dt_val (de_isi T.isi T.str (.inr (.inl rfl)) boot_str (de_nm 11 ⟨rfl, _, rfl, ?_⟩)))))
      refine iteF (ds_nil ?_)
      refine ds_cons (ds_set 13 (de_tup (da_cons (de_nm 9 (da_cons (de_nm 10 (da_cons (de_nm 11 (da_nil ⟨by simp, ?_⟩)))))))) nd)
      have rest : ∀ ks' : List St3, KsOk es ks' → DSs B (bodyX P w K mg base n_is_end_among "is_end_among" (defScope s_is_end_among) f cdv A outer s H E) ((forBv ((forBv ((defBody s_is_end_among).getD 5 (.Pass ⟨0, 0, 0, 0⟩))).getD 2 (.Pass ⟨0, 0, 0, 0⟩))).drop 5)
          (envX P w h sts a ks' [some (.d (stD row)), some (.d (lastE (row.take j))), some (.d (rowD r)), some (.d (.str r.1.1)), some (.d (.str r.1.2.1)), some (.d (.str r.1.2.2)), some (.d (natD r.2)), some (.d (s3D r.1))])
          (fun δ => ∃ ks c8 c9 c10 c11 c12 c13, δ = envX P w h sts a ks [some (.d (stD row)), some (.d (lastE (row.take (j + 1)))), c8, c9, c10, c11, c12, c13] ∧ KsOk es ks) fun x _ => Φ x := fun ks' hK' => by
        refine ds_cons (ds_if (dt_pw (dw_or (dt_not (dt_val (de_isi T.isi T.int (.inr (.inr (.inl rfl))) boot_int (de_nm 12 ⟨rfl, _, rfl, ?_⟩)))))))
        refine iteF (dw_or (dt_cmp op_isBl1 (de_nm 12 (de_bl (rd_isBi ⟨_, rfl, ?_⟩)))))
        refine iteF (dw_or (dt_cmp op_isBl1 (de_nm 12 (de_bl (rd_isBi ⟨_, rfl, ?_⟩)))))
        refine iteF (dw_or1 (dt_not (dt_chain op_le op_lt (de_int (de_nm 12 (rd_B0 ⟨_, rfl, ?_⟩))))))
        rw [decide_eq_true (by omega)]
        refine iteT (de_nm 4 (rd_B0 ⟨_, rfl, ?_⟩))
        rw [decide_eq_true (by omega)]
        refine iteF (ds_nil ?_)
        refine ds_cons (ds_if (dt_not (dt_cmp (op_ltD hr.units) (de_nm 7 (de_nm 13 (rd_ltD l5 rfl l2 l3 l4 ⟨_, rfl, ?_⟩))))))
        rw [l1]
        refine iteF (ds_nil (ds_last (ds_set 7 (de_nm 13 ⟨ks', some (.d (rowD r)), some (.d (.str r.1.1)), some (.d (.str r.1.2.1)), some (.d (.str r.1.2.2)), some (.d (natD r.2)), some (.d (s3D r.1)), ?_, hK'⟩) nd)))
        have e : lastE (row.take (j + 1)) = s3D r.1 := by
          unfold lastE
          rw [take_snoc hj, List.getLast?_append]
          rfl
        rw [e]
        rfl
      refine ds_cons (ds_if (dt_pw (dw_and (dt_tnotin 5 hu (de_nm 13 ⟨a, knw ks, tk3 r.1, rfl, rfl, ?_⟩)))))
      rw [knw_has hK.nd]
      by_cases hin : r.1 ∈ ks
      · rw [decide_eq_true hin]
        exact iteF (iteF (ds_nil (rest ks hK)))
      · rw [decide_eq_false hin]
        refine iteT (dw_and1 (dt_not (dt_val (de_fT (k' := 3) 5 GE hr (dal_cons (de_nm 13 (dal_cons (de_nm 2 (dal_cons (de_nm 1 (dal_last ⟨a, knw ks, rfl, r.1, h, rfl, hv, hne, ?_, _, rfl, ?_⟩)))))))))))
        · unfold knw kvL
          rw [List.length_map, List.length_map]
          omega
        rw [knw_put hK.nd hin]
        refine iteF (ds_nil (rest (ks ++ [r.1]) ⟨?_, fun e he => ?_⟩))
        · exact List.nodup_append.mpr ⟨hK.nd, by simp, fun x hx y hy => by
            cases List.mem_singleton.mp hy
            exact fun z => hin (by rw [← z]; exact hx)⟩
        · rcases List.mem_append.mp he with he | he
          · exact hK.sub e he
          · cases List.mem_singleton.mp he
            exact hes
    · obtain ⟨ks, c8, c9, c10, c11, c12, c13, rfl, hK⟩ := hJ
      exact ⟨ks, some (.d (stD row)), _, _, _, _, _, _, _, rfl, hK⟩
  · obtain ⟨ks, c6, c7, c8, c9, c10, c11, c12, c13, rfl, hK⟩ := hI
    exact ds_last (ds_ret (de_bl hΦ))
def S_is_end : SpD := fun ds Φ => ∃ h sts es, ds = [endD h sts] ∧ EndOk h sts es ∧ Φ (.bool true)
theorem ok_is_end (G : Fn P w K mg base "is_end_among" 4 ["thing", "hands"] (spD K S_is_end_among)) (F : Fd K "is_end" s_is_end [] [] f fd) : FnOk P w K mg base CX0 5 f fd ["thing"] (spD K S_is_end) := by
  refine fnD F sc_is_end (fun ds Φ h => by obtain ⟨_, _, _, rfl, _⟩ := h; rfl) (fun B cdv A outer s H E ds Φ hr hp hS => ?_)
  obtain ⟨h, sts, es, rfl, hE, hΦ⟩ := hS
  exact ds_last (ds_ret (de_f (k' := 4) G hr (da_cons (de_nm 0 (da_cons (de_non (da_nil ⟨h, sts, es, rfl, hE, hΦ⟩)))))))
def S_check_end : SpD := fun ds Φ => ∃ h sts es, ds = [endD h sts] ∧ EndOk h sts es ∧ Φ .none
theorem ok_check_end (G : Fn P w K mg base "is_end" 5 ["thing"] (spD K S_is_end)) (F : Fd K "check_end" s_check_end [] [] f fd) : FnOk P w K mg base CX0 6 f fd ["end"] (spD K S_check_end) := by
  refine fnD F sc_check_end (fun ds Φ h => by obtain ⟨_, _, _, rfl, _⟩ := h; rfl) (fun B cdv A outer s H E ds Φ hr hp hS => ?_)
  obtain ⟨h, sts, es, rfl, hE, hΦ⟩ := hS
  refine ds_last (ds_if (dt_not (dt_val (de_f (k' := 5) G hr (da_cons (de_nm 0 (da_nil ⟨h, sts, es, rfl, hE, _, rfl, ?_⟩)))))))
  exact iteF (ds_nil hΦ)
end K3
set_option maxHeartbeats 200000
set_option Elab.async false
set_option linter.all false
set_option maxRecDepth 100000
set_option maxHeartbeats 4000000
namespace K3
open PySem PySem.Spec PyProof.Rows L2 DL
open PySem.W (alike alikeAll dataLt dataLe AllAlike Sortable EachIs keyToks keyToksAll lex_pre)
variable {P : Program} {w : World} {K : PySem.W.Frag} {mg : Str → Option Value} {base : Heap} {f : Addr} {fd : FuncData} {k : Nat}
def S_law_take : SpP := fun n ds Φ => ∃ many : Int, ds = [.int many] ∧ 0 < many ∧ many < 1073741824 ∧ n < 1099511627776 ∧ ∀ d : Int, 0 ≤ d → d < many → Φ (.int d) (n + 1)
theorem ok__law_take (F : Fd K "_law_take" s__law_take [] [] f fd) : FnOk P w K mg base CX0 1 f fd ["pot", "many"] (spP K S_law_take) := by
  refine fnP F sc__law_take (fun n ds Φ h => by obtain ⟨_, rfl, _⟩ := h; rfl) (fun B cdv A outer s H E n ds Φ hr hp hS => ?_)
  obtain ⟨many, rfl, hm, hm2, hn, hΦ⟩ := hS
  have nd := sc__law_take.nd
  refine ds_cons (ds_if (dt_cmp op_gt (de_pot0 0 fun v => de_int (rd_B0 ⟨_, rfl, ?_⟩))))
  by_cases hv : (0 : Int) < v
  · rw [decide_eq_true hv]
    refine iteT (ds_cons (ds_set 2 (de_bin op_mod (de_pot0 0 fun v1 => de_nm 1 (rd_I hm ?_))) nd))
    refine ds_cons (ds_pot0 0 (de_bin op_fdiv (de_pot0 0 fun v2 => de_nm 1 (rd_I ⟨hm, hm2⟩ ⟨_, rfl, rfl, ?_⟩))))
    refine dss_bump (n + 1) (Nat.le_succ n) (ds_last (ds_ret (de_nm 2 ?_)))
    exact hΦ _ (mod_in hm).1 (mod_in hm).2
  · rw [decide_eq_false hv]
    refine iteF (ds_nil ?_)
    refine ds_cons (ds_set 3 (de_bin op_add (de_pot2 0 fun z hz0 hz1 => de_int (rd_I0 ?_))) nd)
    have hz1 : z ≤ (n : Int) := hz1
    refine ds_cons (ds_pot2 0 (de_nm 3 ⟨z + 1, n + 1, rfl, rfl, by omega, by push_cast; omega, ?_⟩))
    refine ds_cons (ds_set 4 ?_ nd)
    refine de_bin op_mod (de_bin op_add (de_bin op_add (de_pot1 0 fun v1 => de_bin op_mul (de_bin op_mul (de_int (de_nm 3 (rd_I (.inl ⟨by decide, by decide⟩) (de_nm 3 (rd_I ?_ (rd_I0 (de_bin op_mul (de_int (de_nm 3 (rd_I (.inl ⟨by decide, by decide⟩) (rd_I0 (de_int (rd_I (by decide) ?_)))))))))))))))))
    · exact .inr ⟨by omega, by omega⟩
    generalize ho : (v1 + 48271 * (z + 1) * (z + 1) + 11 * (z + 1)) % 2147483587 = one
    have ho1 : 0 ≤ one ∧ one < 2147483587 := ho ▸ mod_in (by decide)
    refine ds_cons (ds_set 4 ?_ nd)
    refine de_bin op_mod (de_bin op_add (de_bin op_mul (de_nm 4 (de_nm 4 (rd_I ?_ (de_bin op_mul (de_int (de_nm 3 (rd_I (.inl ⟨by decide, by decide⟩) (rd_I0 (de_int (rd_I (by decide) ?_))))))))))))
    · exact .inl ⟨by omega, by omega⟩
    generalize ho2 : (one * one + 69621 * (z + 1)) % 2147483563 = one2
    have ho3 : 0 ≤ one2 ∧ one2 < 2147483563 := ho2 ▸ mod_in (by decide)
    refine ds_cons (ds_set 5 ?_ nd)
    refine de_bin op_mod (de_bin op_add (de_bin op_add (de_bin op_mul (de_nm 4 (de_nm 4 (rd_I ?_ (de_bin op_mul (de_int (de_nm 3 (rd_I (.inl ⟨by decide, by decide⟩) (rd_I0 (de_int (rd_I0 (de_int (rd_I (by decide) ?_)))))))))))))))
    · exact .inl ⟨by omega, by omega⟩
    generalize ht : (one2 * one2 + 40961 * (z + 1) + 5) % 2147483549 = two
    have ht1 : 0 ≤ two ∧ two < 2147483549 := ht ▸ mod_in (by decide)
    refine ds_last (ds_ret ?_)
    refine de_bin op_mod (de_bin op_fdiv (de_bin op_mod (de_bin op_mul (de_nm 5 (de_nm 5 (rd_I ?_ (de_int (rd_I (by decide) (de_int (rd_I ⟨by decide, by decide⟩ (de_nm 1 (rd_I hm ?_))))))))))))
    · exact .inl ⟨by omega, by omega⟩
    exact hΦ _ (mod_in hm).1 (mod_in hm).2
def S_law_pot : SpO := fun ds Φ => ∃ (ns : List Int) (j : Nat), ds = [.list (ns.map PyData.int), natD j] ∧ ∀ x y : Int, Φ [.int x, .int y, .int 0]
theorem ok__law_pot (T : Tx mg) (F : Fd K "_law_pot" s__law_pot [] [] f fd) : FnOk P w K mg base CX0 1 f fd ["script", "k"] (spO K S_law_pot) := by
  refine fnO F sc__law_pot (fun ds Φ h => by obtain ⟨_, _, rfl, _⟩ := h; rfl) (fun B cdv A outer s H E ds Φ hr hp hS => ?_)
  obtain ⟨ns, j, rfl, hΦ⟩ := hS
  have nd := sc__law_pot.nd
  have rest : ∀ c : Int, DOs B (bodyX P w K mg base n__law_pot "_law_pot" (defScope s__law_pot) f cdv A outer s H E) ((defBody s__law_pot).drop 2) ⟨0, [some (.d (.list (ns.map PyData.int))), some (.d (natD j)), some (.d (.int c))]⟩ fun x _ => Φ x := fun c => by
    refine dos_ret (dl_lst (da_cons (de_callB (call_max2 rfl) T.max boot_max (da_cons (de_int (da_cons (de_bin op_sub (de_nm 2 (de_bin op_pow (de_int (de_int (rd_I ⟨by decide, by decide, by decide⟩ (rd_I0 (da_nil (rc_int2 (da_cons ?_))))))))))))))))
    refine de_bin op_add (de_bin op_add (de_bin op_mod (de_nm 2 (de_int (rd_I (by decide) (de_bin op_mul (de_int (de_nm 1 (rd_I (.inl ⟨by decide, by decide⟩) (rd_I0 (de_int (rd_I0 (da_cons (de_int (da_nil ⟨by simp, hΦ _ _⟩)))))))))))))))
  refine dos_cons (ds_set 2 (de_int ?_) nd)
  refine dos_cons (ds_if (dt_cmp op_lt (de_nm 1 (de_callB call_len T.len boot_len (da_cons (de_nm 0 (da_nil (rc_lenL rfl (rd_B0 ⟨_, rfl, ?_⟩)))))))))
  rw [List.length_map]
  by_cases hj : j < ns.length
  · rw [decide_eq_true (by omega : ((j : Nat) : Int) < ((ns.length : Nat) : Int))]
    refine iteT (ds_last (ds_set 2 (de_ix ix_list (de_nm 0 (de_nm 1 (rd_ixL (z := .int ns[j]) ?_ (rest _))))) nd))
    rw [atI_nn (by omega), Int.toNat_natCast, List.getElem?_map, List.getElem?_eq_getElem hj]
    rfl
  · rw [decide_eq_false (by omega : ¬ ((j : Nat) : Int) < ((ns.length : Nat) : Int))]
    exact iteF (ds_nil (rest 0))
end K3
set_option maxHeartbeats 200000
set_option Elab.async false
set_option linter.all false
set_option maxRecDepth 100000
set_option maxHeartbeats 2000000
namespace DL
open PySem PySem.Spec PyProof.Rows L2
def WSB (B : Bs) (ts : TS) (δ : St') (N Bk : St' → Prop) (R : PE1) : Prop := ∀ σ F H, Rep B δ σ F H → ∀ D : Ends, (∀ δ' σ' F' H', Same F F' → Rep B δ' σ' F' H' → N δ' → D.nx σ' H') → (∀ δ' σ' F' H', Same F F' → Rep B δ' σ' F' H' → Bk δ' → D.bk σ' H') →
  (∀ v x δ' σ' F' H', Same F F' → Rep B δ' σ' F' H' → Dq B.K F' v x → R x δ' → D.rt v H') → ts D σ H
def DSB (B : B0) (X : Cx) (sts : List Stmt) (δ : St') (N Bk : St' → Prop) (R : PE1) : Prop := WSB (bs X B) (wSs X sts) δ N Bk R
section
variable {B : B0} {X : Cx} {c : Expr} {st : Stmt} {rest body orelse bd : List Stmt} {δ : St'} {N Bk : St' → Prop} {R : PE1} {pos p2 : Pos}
theorem dsb_of (h : DSs B X body δ N R) : DSB B X body δ N Bk R := fun σ F H r D hn _ hr => h σ F H r D hn hr
theorem dsb_cons (h : DS B X st δ (fun δ' => DSB B X rest δ' N Bk R) R) : DSB B X (st :: rest) δ N Bk R := fun σ F H r D hn hc hr pins s I =>
  (pss_cons ps_w pss_w).run pins s σ H D I (h σ F H r { D with nx := wSs X rest D } (fun δ' σ' F' H' e1 r1 w => w σ' F' H' r1 D (fun δ2 σ2 F2 H2 e2 r2 n => hn δ2 σ2 F2 H2 (e1.trans e2) r2 n) (fun δ2 σ2 F2 H2 e2 r2 n => hc δ2 σ2 F2 H2 (e1.trans e2) r2 n) fun v x δ2 σ2 F2 H2 e2 r2 d2 p2 => hr v x δ2 σ2 F2 H2 (e1.trans e2) r2 d2 p2) hr)
theorem dsb_break (h : Bk δ) : DSB B X [.Break pos] δ N Bk R := fun σ F H r D _ hb _ pins s I => (pss_one ps_break).run pins s σ H D I (hb δ σ F H (Same.refl F) r h)
/-- if c: .. break -/
theorem dsb_if (h : DT B X c δ fun b δ' => if b = true then DSB B X bd δ' (fun δ2 => DSB B X rest δ2 N Bk R) Bk R else DSB B X rest δ' N Bk R) : DSB B X (.If c bd [] pos :: rest) δ N Bk R := fun σ F H r D hn hc hr pins s I =>
  (pss_cons (ps_if pt_w (pss_w (sts := bd)) pss_nil) (pss_w (sts := rest))).run pins s σ H D I (h σ F H r _ fun b δ' F' H' e1 r1 p => by
    have go : ∀ {δ3 : St'} {σ3 : List (Option V)} {F3 H3 : Hp}, Same F F3 → Rep (bs X B) δ3 σ3 F3 H3 → DSB B X rest δ3 N Bk R → wSs X rest D σ3 H3 := fun {δ3 σ3 F3 H3} e3 r3 q =>
      q σ3 F3 H3 r3 D (fun δ2 σ2 F2 H2 e2 r2 n => hn δ2 σ2 F2 H2 (e3.trans e2) r2 n) (fun δ2 σ2 F2 H2 e2 r2 n => hc δ2 σ2 F2 H2 (e3.trans e2) r2 n) fun v x δ2 σ2 F2 H2 e2 r2 d2 p2 => hr v x δ2 σ2 F2 H2 (e3.trans e2) r2 d2 p2
    cases b with
    | true =>
      refine iteT ?_
      exact (show DSB B X bd δ' _ Bk R from p) σ F' H' r1 _ (fun δ2 σ2 F2 H2 e2 r2 q => go (e1.trans e2) r2 q) (fun δ2 σ2 F2 H2 e2 r2 n => hc δ2 σ2 F2 H2 (e1.trans e2) r2 n) fun v x δ2 σ2 F2 H2 e2 r2 d2 p2 => hr v x δ2 σ2 F2 H2 (e1.trans e2) r2 d2 p2
    | false =>
      refine iteF ?_
      exact go e1 r1 p)
theorem ds_forB {tg iter : Expr} {wi : TI} {g : TG} (ix : List Nat) (hi : PI X tg iter wi) (hg : PG X tg g) (h : WI (bs X B) wi δ fun xs δ1 => ∃ I : Nat → St' → Prop, I 0 δ1 ∧ (∀ i y δ2, xs[i]? = some y → I i δ2 → WG (bs X B) g ix y δ2 fun δ3 => DSB B X body δ3 (I (i + 1)) N R) ∧ ∀ δ2, I xs.length δ2 → DSs B X orelse δ2 N R)
    (hc : X.calm = true := by rfl) (hp : PassesOwn (model X.prog X.w) X.A X.env X.xe := by exact PassesOwn.never) (hs : ∀ x, foldedSetIterable iter X.env x = pure x := by intro _; rfl) : DS B X (.For tg iter body orelse pos) δ N R := .of (ps_forE hp hc hi hg pss_w pss_w hs) fun σ F H r D hn hr =>
  h σ F H r _ fun J xs δ1 F1 H1 e1 r1 w ⟨I, h0, hs, hd⟩ => by
    refine ⟨fun i m σ' H' => i + m = xs.length ∧ ∃ δ2 F2, Same F1 F2 ∧ Rep (bs X B) δ2 σ' F2 H' ∧ I i δ2, ⟨xs.length, by simp, δ1, F1, Same.refl _, r1, h0⟩, fun i m σ2 H2 ⟨em, δ2, F2, e2, r2, hi⟩ => ?_⟩
    by_cases hlt : i < xs.length
    · refine .inr ⟨w.go i δ2 σ2 F2 H2 e2 r2 hlt, fun σ' H' => ∃ δ3 F3, Same F1 F3 ∧ Rep (bs X B) δ3 σ' F3 H' ∧ I (i + 1) δ3, fun σ' H' q => ⟨m - 1, by omega, by omega, q⟩, fun x H' hy => ?_⟩
      obtain ⟨F3, e3, r3, _, _, d3⟩ := w.yld i δ2 σ2 F2 H2 x H' xs[i] e2 r2 (List.getElem?_eq_getElem hlt) hy
      refine hs i xs[i] δ2 (List.getElem?_eq_getElem hlt) hi σ2 F3 H' r3 x d3 _ fun δ4 σ4 r4 _ _ p4 => ?_
      exact p4 σ4 F3 H' r4 _ (fun δ5 σ5 F5 H5 e5 r5 p5 => ⟨δ5, F5, (e2.trans e3).trans e5, r5, p5⟩) (fun δ5 σ5 F5 H5 e5 r5 p5 => hn δ5 σ5 F5 H5 (((e1.trans e2).trans e3).trans e5) r5 p5) fun v z δ5 σ5 F5 H5 e5 r5 d5 p5 => hr v z δ5 σ5 F5 H5 (((e1.trans e2).trans e3).trans e5) r5 d5 p5
    · have : i = xs.length := by omega
      subst this
      refine .inl ⟨w.stop _ δ2 σ2 F2 H2 e2 r2 (Nat.le_refl _), ?_⟩
      exact hd δ2 hi σ2 F2 H2 r2 D (fun δ5 σ5 F5 H5 e5 r5 p5 => hn δ5 σ5 F5 H5 ((e1.trans e2).trans e5) r5 p5) fun v z δ5 σ5 F5 H5 e5 r5 d5 p5 => hr v z δ5 σ5 F5 H5 ((e1.trans e2).trans e5) r5 d5 p5
end
end DL
set_option maxHeartbeats 200000
set_option Elab.async false
set_option linter.all false
set_option maxRecDepth 100000
set_option maxHeartbeats 2000000
namespace DL
open PySem PySem.Spec PyProof.Rows L2
end DL
set_option maxHeartbeats 200000
set_option Elab.async false
set_option linter.all false
set_option maxRecDepth 100000
set_option maxHeartbeats 2000000
namespace DL
open PySem PySem.Spec PyProof.Rows L2
def WSF (B : Bs) (ts : TS) (δ : St') (N : St' → Hp → Prop) : Prop := ∀ σ F H, Rep B δ σ F H → ∀ D : Ends, (∀ δ' σ' F' H', Same F F' → Rep B δ' σ' F' H' → N δ' F' → D.nx σ' H') → ts D σ H
def DSF (B : B0) (X : Cx) (sts : List Stmt) (δ : St') (N : St' → Hp → Prop) : Prop := WSF (bs X B) (wSs X sts) δ N
section
variable {B : B0} {X : Cx} {st : Stmt} {rest : List Stmt} {δ : St'} {N : St' → Hp → Prop}
theorem DSF.of {sts : List Stmt} {ts : TS} (q : PSs X sts ts) (h : WSF (bs X B) ts δ N) : DSF B X sts δ N := fun σ F H r D z pins s I => q.run pins s σ H D I (h σ F H r D z)
end
def WOoI (B : Bs) (ts : TS) (δ : St') (R : Addr → List Str → List PyData → St' → Hp → Prop) : Prop := ∀ σ F H, Rep B δ σ F H → ∀ D : Ends, (∀ a c dx us ns xs δ' σ' F' H', Same F F' → Rep B δ' σ' F' H' → B.H a = none → F' a = none → H' a = some (.ins c dx (ns.zip us)) → DqAll B.K F' us xs → R c ns xs δ' F' → D.rt (.ref a) H') → ts D σ H
def DOoI (B : B0) (X : Cx) (sts : List Stmt) (δ : St') (R : Addr → List Str → List PyData → St' → Hp → Prop) : Prop := WOoI (bs X B) (wSs X sts) δ R
section
variable {B : B0} {X : Cx} {e : Expr} {st : Stmt} {rest : List Stmt} {δ : St'} {R : Addr → List Str → List PyData → St' → Hp → Prop} {pos : Pos}
theorem DOoI.of {sts : List Stmt} {ts : TS} (q : PSs X sts ts) (h : WOoI (bs X B) ts δ R) : DOoI B X sts δ R := fun σ F H r D z pins s I => q.run pins s σ H D I (h σ F H r D z)
end
end DL
set_option maxHeartbeats 200000
set_option Elab.async false
set_option linter.all false
set_option maxRecDepth 100000
set_option maxHeartbeats 4000000
namespace PySem
namespace XT
open PySem.W PySem.Calls PyProof.Rows PySem.HandSPX Builtin Builtin.ObjectAttr
/-- what is known of the built-in one: an own class over it is made, and its __init__ lays the arguments anew -/
structure BaseT (B new ini : String) (tl : List Value) : Prop where
  own : ∀ {prog : Program} {w : World} {A : Around} {R : Result → Shared → Prop} {h : Heap} {g : Array GenState} {d : Drawn} {t : Nat} {os : OsState} {nm q : Str} {C N : Addr} {bs : List Value} {sn : List Str} {sub : List Value} {ab : Bool} {col : Option Bool} {dd : Option Addr} {k0 k1 k2 k3 k5 : Option Value} {rest : List Value} {fI : Addr},
    h.get? C = some (excClassObj nm q C N bs tl true sn sub ab col dd k0 k1 k2 k3 k5 new) → W.Looks (model prog w) h (typeLookup (.ref C) "__init__") (some (.ref fI)) → (∀ self, W.Looks (model prog w) h (bindSpecial (.ref fI) self) (.ref fI, [self])) → rest.length ≤ sizeLine →
    codeAny (model prog w) (A.under (.builtin "type.__call__" ⟨.ref C :: rest, []⟩)) (.call (.ref fI) ⟨.ref (h.objs.size + 1) :: rest, []⟩) (W.InitBack (h.objs.size + 1) R) ⟨(h.push (W.kdv_tup rest)).push (excO C h.objs.size), g, d, t, os⟩ →
    codeAny (model prog w) A (.call (.ref C) ⟨rest, []⟩) R ⟨h, g, d, t, os⟩
  base : ∀ {prog : Program} {w : World} {A : Around} {R : Result → Shared → Prop} {h : Heap} {g : Array GenState} {d : Drawn} {t : Nat} {os : OsState} {nm q : Str} {C N : Addr} {bs : List Value} {sn : List Str} {sub : List Value} {ab : Bool} {col : Option Bool} {dd : Option Addr} {k0 k1 k2 k3 k5 : Option Value} {e t0 : Addr} {rest : List Value},
    h.get? C = some (excClassObj nm q C N bs tl true sn sub ab col dd k0 k1 k2 k3 k5 new) → h.get? e = some (excO C t0) → rest.length ≤ sizeLine →
    (∀ h' t1, (∀ b o, b ≠ e → h.get? b = some o → h'.get? b = some o) → h'.get? e = some (excO C t1) → R (.ok (.ret .none)) ⟨h', g, d, t, os⟩) → codeAny (model prog w) A (.call (.builtin ini) ⟨.ref e :: rest, []⟩) R ⟨h, g, d, t, os⟩
  st : StoreFacts B tl "object.__setattr__" "object"
  ty : typeOf (.type B) = pure (.type "type")
theorem BaseT.of {B new ini : String} {tl : List Value} (F : ExcBaseFacts B new ini tl) (st : StoreFacts B tl "object.__setattr__" "object") (ty : typeOf (.type B) = pure (.type "type")) : BaseT B new ini tl :=
  ⟨fun hC hi hb hr hq => call_own F (fun _ => rfl) hC hi hb hr hq, fun hC he hr hq => init_base F (fun _ => rfl) hC he hr hq, st, ty⟩
section
variable {prog : Program} {w : World} {A : Around} {R : Result → Shared → Prop} {hp : Heap} {g : Array GenState} {d : Drawn} {t : Nat} {os : OsState} {B new ini : String} {tl : List Value}
/-- a first field of an exception: its dict is made -/
theorem first_field {K : W.Frag} {nm : Str} {tk : Tok} {v : Value} {x C : Addr} {fv : Array Value} {cd : ClassData} (bt : BaseT B new ini tl) (X : K.In hp) (ox : hp.get? x = some { cls := .ref C, data := .fields fv }) (cl : W.clsIn K C = some cd) (mr : cd.mro = .ref C :: tl) (dc : cd.hasDict = true)
    (no : W.findIn K (.ref C) nm = some none) (fin : ∀ h' tk' dx, (∀ b o, b ≠ x → hp.get? b = some o → h'.get? b = some o) → hp.objs.size ≤ dx → dx ≠ x → h'.get? x = some { cls := .ref C, dict := some dx, data := .fields fv } → h'.Ns1 dx (fun y => if y = nm then some v else none) → R (.ok (.ret .none)) ⟨h', g, d, tk', os⟩) :
    codeAny (model prog w) A (.call (.builtin "object.__setattr__") ⟨[.ref x, .str nm tk, v], []⟩) R ⟨hp, g, d, t, os⟩ := by
  have J : W.InstAt hp x { cls := .ref C, data := .fields fv } C none := ⟨ox, rfl, rfl, trivial⟩
  have far : x ≠ hp.objs.size := Nat.ne_of_lt (Heap.lt_size ox)
  have emp : cd.mro.isEmpty = false := by rw [mr]; rfl
  have ob : cd.mro.contains (.type "object") = true := by rw [mr, List.contains_cons, bt.st.hasOwner, Bool.or_true]
  have isO : W.Looks (model prog w) hp (isInstance (.ref x) (.type "object")) true := J.type.andThen (W.looks_mroIn X (by unfold W.mroIn; rw [cl, Option.bind_some, if_neg (by rw [emp]; decide), ob]))
  have S := F.store_object
  refine codeAny_call_builtin S.slot.plain S.entry (@W.check_slot (model prog w) _ _ ⟨hp, g, d, t, os⟩ "object.__setattr__" "object" "__setattr__" (.ref x) [.str nm tk, v] [] _ S.kind S.split isO (S.args (.ref x) (.str nm tk) v) ?_)
  have mm : W.Looks (model prog w) hp (mroOf (.ref C)) cd.mro := (W.looks_clsIn X cl).andThen .now
  have m3 : W.Looks (model prog w) hp (storeTaker? none) none := .now
  have mc : W.Looks (model prog w) hp (classData C) cd := W.looks_clsIn X cl
  rw [W.osa_eq, refuse_eq]; refine wpAny_bind (wpAny_bind (J.type.at (wpAny_bind (mm.at ?_))))
  rw [mr, refuseLoop_ref, bt.st.passes]; refine wpAny_pure (wpAny_bind (J.type.at (wpAny_bind ((W.looks_findIn X no).at (wpAny_bind (m3.at ?_))))))
  show wpAny _ _ (storeInOwnDict (.ref x) (.ref C) (.str nm tk) nm v false) _ _ _
  obtain ⟨c1, c2, c3, c4, c5, c6, c7, c8, c9, c10, c11⟩ := cd
  dsimp only at dc; subst dc
  unfold storeInOwnDict ownDictForStores
  repeat (first | with_reducible refine store_in_new ?_ ?_ | with_reducible refine wpAny_loadPart_at ox ?_ | with_reducible refine mc.at ?_ | wp_step)
  · exact ⟨_, #[], _, (Heap.get?_update_ne _ _ _ _ far.symm).trans (Heap.get?_push_at rfl rfl), rfl, (fun e he => absurd he (by simp)), fun _ => rfl⟩
  · intro h1 tk1 ns sb
    have ox1 : (hp.push { cls := .type "dict", data := .dict #[] }).get? x = some { cls := .ref C, data := .fields fv } := Heap.get?_push_of_some _ ox
    refine fin h1 tk1 hp.objs.size (fun b o hb ho => (sb.2 b (Nat.ne_of_lt (Heap.lt_size ho))).trans ((Heap.get?_update_ne _ _ _ _ hb).trans (Heap.get?_push_of_some _ ho))) (Nat.le_refl _) far.symm ((sb.2 x far).trans (Heap.get?_update_self _ ox1 rfl)) ns
end
end XT
end PySem
namespace DL
open PySem PySem.Spec PyProof.Rows L2 PySem.XT
/-- what the written part says of such a class -/
structure OexT (K : PySem.W.Frag) (C : Addr) (tl : List Value) (new : String) : Prop where
  cl : ∃ nm q N bs sn sub ab col dd k0 k1 k2 k3 k5, K.lookup C = some (excClassObj nm q C N bs tl true sn sub ab col dd k0 k1 k2 k3 k5 new)
  sa : PySem.W.findIn K (.ref C) "__setattr__" = some (some (.builtin "object.__setattr__"))
  eb : PySem.W.subIn K (.ref C) (.type "BaseException") = some true
  ty : PySem.W.typeIn K (.ref C) = some (.type "type")
  kp : PySem.W.keepIn K (.ref C) = true
section
variable {X : Cx} {pins : List (Addr × Obj)} {σ : L2.St} {H : Hp} {s : Shared} {a C dx : Addr} {f : Str} {y : V} {u : Value} {Q : Unit → Shared → Prop} {E : Value → Shared → Prop} {A : Around} {B new ini : String} {tl : List Value}
/-- self.f = y, the first one -/
theorem keep_first (bt : BaseT B new ini tl) (T : OexT X.K C tl new) (I : Inv X pins σ H s) (e : H a = some (exo a C none)) (no : PySem.W.findIn X.K (.ref C) f = some none) (ry : RelV y u)
    (k : ∀ dx s', H dx = none → dx ≠ a → Inv X pins σ (upd (upd H dx (exd dx [(f, y)])) a (exo a C (some dx))) s' → Q () s') : wpAny (model X.prog X.w) A (setAttr (.ref a) f u) Q E s := by
  obtain ⟨nm, q, N, bs, sn, sub, ab, col, dd, k0, k1, k2, k3, k5, hC⟩ := T.cl
  have hcl : ∃ cd : ClassData, PySem.W.clsIn X.K C = some cd ∧ cd.mro = .ref C :: tl ∧ cd.hasDict = true := by
    refine ⟨_, by unfold PySem.W.clsIn; rw [hC] <;> rfl, rfl, rfl⟩
  obtain ⟨cd, c1, c2, c3⟩ := hcl
  obtain ⟨t1, ho⟩ := exo_at I.hok e
  obtain ⟨hp, g, d, t, os⟩ := s
  refine PySem.W.set_plain I.kIn (od := none) ⟨ho, rfl, rfl, trivial⟩ T.sa (first_field bt I.kIn ho c1 c2 c3 no fun h1 tk1 dx kk dn dne hx hn => ?_)
  have free : H dx = none := I.hok.fresh dn
  have nd : ∀ {b : Addr} {o : Obj}, hp.get? b = some o → b ≠ dx := fun z => Nat.ne_of_lt (Nat.lt_of_lt_of_le (Heap.lt_size z) dn)
  have na : ∀ {b : Addr}, H b = none → b ≠ a := fun n z => by rw [z, e] at n; cases n
  have U : Un X.fs [] H (upd (upd H dx (exd dx [(f, y)])) a (exo a C (some dx))) hp h1 := by
    refine ⟨fun b o z n _ _ => kk b o (na n) z, fun b o z n _ _ => ⟨o.slots, kk b o (na n) z⟩, fun b o z n _ => by rw [upd_ne (na n), upd_ne (nd z)]; exact n, fun b o z _ => ?_, fun b xs z => ?_, fun b o v z => ?_, fun b ps z => ⟨#[], ?_⟩⟩
    · rcases Nat.decEq b a with hb | hb
      · exact ⟨o, kk b o hb z⟩
      · exact ⟨_, by rw [hb]; exact hx⟩
    · rw [upd_ne (at_ne e z exo_tup), upd_ne (ne_of_none z free)]; exact z
    · rw [upd_ne (at_ne e z exo_frz), upd_ne (ne_of_none z free)]; exact z
    · rw [upd_ne (at_ne e z exo_tbl), upd_ne (ne_of_none z free), z]; simp
  refine k dx _ free dne (I.un (t' := tk1) U fun b o z => ?_)
  rcases Nat.decEq b a with hb | hb
  · rw [upd_ne hb] at z
    rcases Nat.decEq b dx with hd | hd
    · rw [upd_ne hd] at z
      refine (I.hok b o z).stay (fun c v hc y => kk c v ?_ y) (fun c hc => ?_) (fun c xs hc => ?_)
      · rcases hc with hc | hc
        · rw [hc]; exact hb
        · exact at_ne e hc exo_own
      · rw [upd_ne (at_ne e hc exo_own), upd_ne (ne_of_none hc free)]; exact hc
      · rw [upd_ne (at_ne e hc exo_tup), upd_ne (ne_of_none hc free)]; exact hc
    · subst hd; rw [upd_same] at z; cases z
      exact exd_ok hn (relO_put (fs := []) ry fun _ => True.intro)
  · subst hb; rw [upd_same] at z; cases z
    exact exo_ok hx
/-- Base.__init__(self, ..): nothing of it is told -/
theorem base_init {us : List Value} {Q : Value → Shared → Prop} (bt : BaseT B new ini tl) (T : OexT X.K C tl new) (I : Inv X pins σ H s) (e : H a = some (exo a C none)) (hl : us.length ≤ sizeLine) (k : ∀ s', Inv X pins σ H s' → Q .none s') :
    wpAny (model X.prog X.w) A (call (.builtin ini) (.ref a :: us)) Q E s := by
  obtain ⟨nm, q, N, bs, sn, sub, ab, col, dd, k0, k1, k2, k3, k5, hC⟩ := T.cl
  obtain ⟨t1, ho⟩ := exo_at I.hok e
  obtain ⟨hp, g, d, t, os⟩ := s
  refine wpAny_call (bt.base (I.kIn _ _ hC) ho hl fun h1 t2 kk hx => ?_)
  have J := I.write (t' := t) (x := a) (e := a) (o := exo a C none) (by rw [e]; exact True.intro) (.inl rfl) kk ⟨_, hx⟩ (exo_ok hx)
  have same : upd H a (exo a C none) = H := funext fun b => by
    rcases Nat.decEq b a with hb | hb
    · rw [upd_ne hb]
    · rw [hb, upd_same, e]
  rw [same] at J
  exact k _ J
end
end DL
set_option maxHeartbeats 200000
set_option Elab.async false
set_option linter.all false
set_option maxRecDepth 100000
set_option maxHeartbeats 2000000
namespace DL
open PySem PySem.Spec PyProof.Rows L2 PySem.XT
structure FnShX (P : Program) (w : World) (K : PySem.W.Frag) (mg : Str → Option Value) (base : Heap) (CX : CXT) (k : Nat) (f : Addr) (fd : FuncData) (ps : List Str) (sp : Sp) : Prop where
  ln : ∀ xs H Q E, sp xs H Q E → xs.length = ps.length
  go : ∀ (A : Around) (out : List Env) (s : Shared) (H : Hp) (ar : Args) (us : List Value) (xs : List V) (Q : VK) (E : XK), A.guards = some [] → Room k A → Env0 P w K mg base A out s H →
    BindsTo s fd ar (ps.zip us) → Vals xs us → sp xs H Q E → codeAny (model P w) A (.call (.ref f) ar) (CR CX out P w H s Q E) s
section
variable {P : Program} {w : World} {K : PySem.W.Frag} {mg : Str → Option Value} {base : Heap} {CX : CXT} {x qual : Str} {st : Stmt} {f : Addr} {fd : FuncData} {N ps : List Str} {k : Nat} {sp : Sp}
theorem FnShX.of {dvs : List V} {kws : List (Str × V)} (F : FunD K x qual (defArgs st) (defBody st) (defScope st) dvs kws f fd) (sc : FnScope N ps (defScope st)) (ln : ∀ xs H Q E, sp xs H Q E → xs.length = ps.length)
    (bd : ∀ (cdv : Value) (A : Around) (out : List Env) (s : Shared) (H : Hp) (xs : List V) (Q : VK) (E : XK), A.guards = some [] → Room k (A.deeper (envOfC qual (defScope st) s.heap.objs.size f cdv)) → sp xs H Q E →
      ∃ t, PSs (cxOf CX P w K mg base N qual (defScope st) f cdv A out s H E) (defBody st) t ∧ t { nx := fun _ G => Q .non G, rt := Q } (L2.start N xs) H) : FnShX P w K mg base CX (k + 1) f fd ps sp := by
  obtain ⟨o1, o2, d1, d2, c1, c2, an, cdv, ct, sl, rfl, hlk, hcode, -, -⟩ := F.ex
  constructor
  · exact ln
  intro A out s H ar us xs Q E hgd rm ev hbd hv hp
  have long := ln xs H Q E hp
  have inK : K.In s.heap := ev.mod.kin.keeps fun a o e => (ev.bs a o e).1
  have nol : s.heap.NoLimit := ev.mod.nolimit.keeps fun a o e => (ev.bs a o e).1
  have kinds : ∀ y, y ∈ ps.zip us → (defScope st).names.lookup y.1 = some .local ∨ ((defScope st).names.lookup y.1 = some .cell ∧ ((cellsFrom (s.heap.objs.size + 1) (defScope st).names []).lookup y.1).isSome = true) := by
    intro y hy
    cases sc.par y.1 (List.of_mem_zip hy).1 with
    | inl h => exact .inl h
    | inr h => exact .inr ⟨h, PySem.W.cellsFrom_some _ _ _ (.inl h)⟩
  apply codeAny_call_function rm.depth (inK _ _ hlk) rfl sc.co sc.gen rfl (PySem.W.codeRec_of inK hcode)
  apply hbd
  apply wpAny_newFunctionEnv_cells sc.kind kinds
  intro env0 rfl s1 made
  constructor
  · exact nol.keeps made.toInCall.keep
  apply codeAny_func
  obtain ⟨t, run, now⟩ := bd cdv A out s H xs Q E hgd (rm.deeper _) hp
  have inv := inv_start (CX := CX) (E := E) sc rm.hd ev long hv made
  refine wpAny_mono (run.run [] s1 _ H _ inv now) ?_ fun _ _ z => z
  intro fl s2 hs
  cases fl with
  | brk => obtain ⟨_, _, _, z⟩ := hs; exact z.elim
  | cont => obtain ⟨_, _, _, z⟩ := hs; exact z.elim
  | next => obtain ⟨_, H2, J, z⟩ := hs; exact ⟨.non, H2, J.os, J.bare, J.base, J.hok, rfl, z⟩
  | ret u => obtain ⟨v, _, H2, J, rv, z⟩ := hs; exact ⟨v, H2, J.os, J.bare, J.base, J.hok, rv, z⟩
end
section
variable {X : Cx} {CX : CXT} {k : Nat} {f : Addr} {fd : FuncData} {ps : List Str} {sp : Sp} {E : L2.St → XK} {x : Str} {p pos : Pos} {e : Expr} {es : List Expr} {t : TA}
theorem pe_callShX (F : FnShX X.prog X.w X.K X.mg X.base CX k f fd ps sp) (hgd : X.A.guards = some []) (rm : Room k X.A) (hg : Gl X x) (hm : X.mg x = some (.ref f)) (hk : PySem.W.keepIn X.K (.ref f) = true) (hb : Binds X.K fd ps []) (hx : ∀ σ, PassesAt CX X σ (E σ))
    (ha : PA X (e :: es) t) (hdb : (x == ("__debug__" : Str)) = false := by decide) (he : starEach (e :: es) X.env = (false, eval e X.env) :: starEach es X.env := by rfl) (hpl : (backTo pos (starEach es X.env)).any (·.1) = false := by rfl) :
    PE X (.Call (.Name x p) (e :: es) [] pos) (tCallS sp E t) := by
  constructor
  intro pins s σ H Q inv now
  apply wpAny_Call_Name_kw (ld_glob inv hg hm ?_ hdb)
  refine PySem.W.callWith_K (h₀ := X.base) inv.ok.mod.kin hk (thn (ha.run pos pins s σ H _ inv now) ?_) he hpl
  rintro us s1 ⟨xs, H1, inv1, rv, hsp⟩
  have long : us.length = ps.length := rv.length.symm.trans (F.ln _ _ _ _ hsp)
  constructor
  · exact inv1.kIn
  apply wpAny_call
  refine codeAny_mono (F.go X.A X.stack s1 H1 ⟨us, []⟩ us _ Q (E σ) hgd rm inv1.env0 (by simpa using hb s1 us inv1.kIn (by simpa using long)) rv hsp) ?_
  intro r s2 hr
  cases r with
  | error e => exact hx σ pins H1 s1 e s2 inv1 hr
  | ok fl =>
    cases fl with
    | ret u => exact inv1.after hr
    | next => exact hr.elim
    | brk => exact hr.elim
    | cont => exact hr.elim
end
abbrev SpDXP := List PyData → (PyData → Prop) → (Value → List (Str × PyData) → Prop) → Prop
def spDXP (K : PySem.W.Frag) (S : SpDXP) : Sp := fun vs H Q E => ∃ F ds Φ Ξ, Same F H ∧ DqAll K F vs ds ∧ S ds Φ Ξ ∧
  (∀ v y F' H', Same F F' → Same F' H' → (∀ b, F b = none → H b ≠ none → F' b = none) → (∀ b o, H b = some o → H' b = some o) → Dq K F' v y → Φ y → Q v H') ∧
  ∀ cls dd (ns : List Str) (us : List V) (xs : List PyData) F' H', Same F F' → Same F' H' → (∀ b, F b = none → H b ≠ none → F' b = none) → (∀ b o, H b = some o → H' b = some o) → H dd = none → F' dd = none → H' dd = some (.xd (ns.zip us)) → DqAll K F' us xs → Ξ cls (ns.zip xs) → E cls (some dd) H'
def TakesDP (B : B0) (X : Cx) (Ξ : Value → List (Str × PyData) → St' → Prop) : Prop := ∃ W : WX, Takes X W ∧ ∀ cls dd (ns : List Str) (us : List V) (xs : List PyData) δ σ F H, Rep (bs X B) δ σ F H → B.H dd = none → F dd = none → H dd = some (.xd (ns.zip us)) → DqAll X.K F us xs → Ξ cls (ns.zip xs) δ → W cls (some dd) σ H
theorem TakesDP.none {B : B0} {X : Cx} : TakesDP B X fun _ _ _ => False :=
  ⟨fun _ _ _ _ => False, fun u s' h => by
    obtain ⟨_, _, _, _, _, _, _, _, _, _, _, _, _, _, _, _, f⟩ := h
    exact f.elim, fun _ _ _ _ _ _ _ _ _ _ _ _ _ _ z => z⟩
structure FnXP (P : Program) (w : World) (K : PySem.W.Frag) (mg : Str → Option Value) (base : Heap) (x : Str) (k : Nat) (ps : List Str) (sp : Sp) : Prop where
  ex : ∃ f fd, mg x = some (.ref f) ∧ PySem.W.keepIn K (.ref f) = true ∧ Binds K fd ps [] ∧ FnShX P w K mg base (L2.CX P w) k f fd ps sp
section
variable {P : Program} {w : World} {K : PySem.W.Frag} {mg : Str → Option Value} {base : Heap} {x qual : Str} {st : Stmt} {f : Addr} {fd : FuncData} {N ps : List Str} {k : Nat}
theorem fnDXP {S : SpDXP} {dvs : List V} {kws : List (Str × V)} (F : FunD K x qual (defArgs st) (defBody st) (defScope st) dvs kws f fd) (sc : FnScope N ps (defScope st)) (len : ∀ ds Φ Ξ, S ds Φ Ξ → ds.length = ps.length)
    (body : ∀ (B : B0) (cdv : Value) (A : Around) (outer : List Env) (s : Shared) (H : Hp) (E : XK) (ds : List PyData) (Φ : PyData → Prop) (Ξ : Value → List (Str × PyData) → Prop), A.guards = some [] → Room k (A.deeper (envOfC qual (defScope st) s.heap.objs.size f cdv)) → B.p = none → S ds Φ Ξ →
      TakesDP B (bodyXX P w K mg base N qual (defScope st) f cdv A outer s H E) (fun cls fs _ => Ξ cls fs) →
      DSs B (bodyXX P w K mg base N qual (defScope st) f cdv A outer s H E) (defBody st) (ini N (ds.map C.d) 0) (fun _ => Φ .none) fun x _ => Φ x) : FnShX P w K mg base (L2.CX P w) (k + 1) f fd ps (spDXP K S) := by
  refine FnShX.of F sc (fun vs H Q E h => ?_) (fun cdv A outer s H vs Q E hgd hr h => ?_)
  · obtain ⟨F', ds, Φ, Ξ, _, hd, hS, _⟩ := h
    rw [dpAll_len hd]; exact len ds Φ Ξ hS
  · obtain ⟨F', ds, Φ, Ξ, e, hd, hS, q, qx⟩ := h
    refine ⟨_, pss_w, ?_⟩
    have tk : TakesDP ⟨F', H, none, none⟩ (bodyXX P w K mg base N qual (defScope st) f cdv A outer s H E) (fun cls fs _ => Ξ cls fs) := by
      refine ⟨fun cls d _ H => E cls d H, takes_of rfl rfl rfl rfl, fun cls dd ns us xs δ σ F2 H2 r2 h1 h2 h3 h4 z => ?_⟩
      exact qx cls dd ns us xs F2 H2 r2.f0 r2.ex r2.fr (fun b o z => r2.kp b o z (fun y => by cases y)) h1 h2 h3 h4 z
    refine body ⟨F', H, none, none⟩ cdv A outer s H E ds Φ Ξ hgd hr rfl hS tk (L2.start N vs) F' H (rep_iniD e hd) _ (fun δ' σ' F2 H2 e2 r2 p => ?_) fun v x δ' σ' F2 H2 e2 r2 d2 p => ?_
    · exact q .non .none F2 H2 e2 r2.ex r2.fr (fun b o z => r2.kp b o z (fun y => by cases y)) .non p
    · exact q v x F2 H2 e2 r2.ex r2.fr (fun b o z => r2.kp b o z (fun y => by cases y)) d2 p
end
section
variable {B : B0} {X : Cx} {e : Expr} {es : List Expr} {δ : St'} {Φ : PE1} {p pos : Pos} {k k' : Nat} {ps : List Str} {x : Str}
/-- f(e, ..), of a def that may refuse, with what the refusal bears -/
theorem de_fXP {S : SpDXP} {Ξ : Value → List (Str × PyData) → St' → Prop} (G : FnXP X.prog X.w X.K X.mg X.base x k ps (spDXP X.K S)) (tk : TakesDP B X Ξ) (hgd : X.A.guards = some []) (hr : Room k' X.A) (h : DA B X (e :: es) δ fun ds δ' => S ds (fun y => Φ y δ') fun cls fs => Ξ cls fs δ') (hk : k ≤ k' := by decide)
    (hg : Gl X x := by rfl) (hdb : (x == ("__debug__" : Str)) = false := by decide) (he : starEach (e :: es) X.env = (false, eval e X.env) :: starEach es X.env := by rfl) (hpl : (backTo pos (starEach es X.env)).any (·.1) = false := by rfl) :
    DE B X (.Call (.Name x p) (e :: es) [] pos) δ Φ := by
  obtain ⟨W, hT, hW⟩ := tk
  obtain ⟨f, fd, h1, h2, h3, h4⟩ := G.ex
  refine .of (pe_callShX h4 hgd (hr.mono hk) hg h1 h2 h3 (fun σ => passAt hT σ) pa_w hdb he hpl) fun σ F H r Q q => h σ F H r _ fun vs ds δ' F' H' e1 r' d hS => ?_
  refine ⟨F', ds, _, _, r'.ex, d, hS, fun v y F2 H2 q1 q2 q3 q4 q5 q6 => q v y δ' F2 H2 (e1.trans q1) (r'.called q1 q2 q3 q4) q5 q6, fun cls dd ns us xs F2 H2 q1 q2 q3 q4 q5 q6 q7 q8 q9 => ?_⟩
  obtain ⟨j1, j2, j3, j4⟩ := r'.fresh q5
  exact hW cls dd ns us xs δ' σ F2 H2 (r'.called q1 q2 q3 q4) j1 q6 q7 q8 q9
end
/-- what can be told as a text by repr -/
def Tellable (d : PyData) : Prop := d = .none ∨ (∃ b, d = .bool b) ∨ (∃ i : Int, d = .int i ∧ i.natAbs.log2 < 1920) ∨ (∃ s : Str, d = .str s ∧ (reprText s).length ≤ 100000) ∨ (Fit d ∧ d.shown.length ≤ 100000) ∨ d = .dict []
/-- data, or {} -/
def DpE (K : PySem.W.Frag) (H : Hp) (v : V) (d : PyData) : Prop := Dp K H v d ∨ (d = .dict [] ∧ ∃ a o, v = .ref a ∧ H a = some (.frz o (.dK [])))
def tRep (K : PySem.W.Frag) (te : TE) : TE := fun σ H Q => te σ H fun x H1 => ∃ d, DpE K H1 x d ∧ Tellable d ∧ ∀ m : Str, m.length ≤ 200000 → Q (.str m) H1
theorem intTxt_le {i : Int} (h : i.natAbs.log2 < 1920) : (Str.ofString (toString i)).length ≤ 200000 := by
  have e := int_text_length_le (k := 1920) (by decide) h
  rw [PySem.ofString_length]
  omega
section
variable {X : Cx} {e : Expr} {te : TE} {pos : Pos}
/-- {e!r} -/
theorem pe_rep (hgd : X.A.guards = some []) (hu : X.A.units + 70 < cLine) (he : PE X e te) : PE X (.FormattedValue e 114 none pos) (tRep X.K te) := by
  refine ⟨fun pins s σ H Q I h => ?_⟩
  refine wpAny_FormattedValue_repr (thn (he.run pins s σ H _ I h) fun v s1 hv => ?_)
  obtain ⟨x, H1, I1, r1, d, hd, ht, q⟩ := hv
  have txt : ∀ (m : Str) (tk : Tok) (s2 : Shared), m.length ≤ 200000 → Inv X pins σ H1 s2 → wpAny (model X.prog X.w) X.A (formatField (.str m tk) Str.empty) (EP X pins σ Q) X.xe s2 := fun m tk s2 hm I2 =>
    wpAny_formatField_str ⟨.str m, H1, I2, ⟨_, rfl⟩, q m hm⟩ ⟨.str m, H1, I2.tok _, ⟨_, rfl⟩, q m hm⟩ (by rw [sizeLine_eq]; omega)
  rcases hd with hd | ⟨rfl, a, o, rfl, he⟩
  case inr =>
    obtain rfl : v = Value.ref a := r1
    obtain ⟨_, _, hs, vs, rel, dd⟩ := (show ObjOk X.prog X.w H1 s1.heap a (.frz o (.dK [])) from I1.hok a _ he)
    cases rel
    obtain ⟨o2, es, ep, h1, h2, h3, _, h4, _⟩ := dd
    have h4 : es.toList = [] := by
      generalize es.toList = l at h4
      cases h4
      rfl
    have rd : Reads s1.heap (.ref a) (.dict []) (a :: [] ++ []) := .dict (kvs := []) h1 h2.1 h3 (by rw [h4]; exact .nil) (by rw [h4]; exact .nil)
    refine pyReprObj_of_reads rd rfl (fun _ z => ?_) hgd (by show X.A.units + _ < _; simp only [PyData.depth, PyData.depthKv]; omega) (fun _ _ z => z) (fun h' u tk hk => txt _ _ _ (by decide) (I1.kept hk)) (by decide)
    have z : sysModules = a := by simpa using z
    rw [← z] at hs
    exact absurd hs (by decide)
  rcases ht with rfl | ⟨b, rfl⟩ | ⟨i, rfl, hi⟩ | ⟨z, rfl, hz⟩ | ⟨ft, hz⟩ | rfl
  · cases hd
    obtain rfl : v = Value.none := r1
    exact pyReprObj_none (txt _ _ _ (by decide) (I1.tok _))
  · cases hd
    obtain rfl : v = Value.bool b := r1
    exact pyReprObj_bool (txt _ _ _ (by cases b <;> decide) (I1.tok _))
  · cases hd
    obtain ⟨t, rfl⟩ := r1
    exact pyReprObj_int hi (txt _ _ _ (intTxt_le hi) (I1.tok _))
  · cases hd
    obtain ⟨t, rfl⟩ := r1
    exact pyReprObj_str (txt _ _ _ (by omega) (I1.tok _)) (by rw [sizeLine_eq]; omega)
  · obtain ⟨as, rd⟩ := Dp.reads I1 d x v hd r1
    obtain ⟨xs, hx⟩ := ft.rf
    obtain ⟨a, rfl⟩ : ∃ a, v = Value.ref a := by
      rcases hx with rfl | rfl
      · cases hd with
        | tup _ _ => exact ⟨_, r1⟩
      · cases hd with
        | lst _ _ => exact ⟨_, r1⟩
    have hdp := ft.dp
    exact pyReprObj_of_reads rd ft.sh (fun z => by rw [ft.nd] at z; cases z) hgd (by omega) (fun _ _ z => z) (fun h' u tk hk => txt _ _ _ (by omega) (I1.kept hk)) ft.sz
  · cases hd
end
section
variable {X : Cx} {o e : Expr} {es : List Expr} {to te : TE} {ta : TA} {f : Str} {p p' p1 p2 pos : Pos} {B new ini : String} {tl : List Value} {bn : Str}
/-- Base.__init__(self, ..) -/
def tBase (K : PySem.W.Frag) (tl : List Value) (new : String) (ta : TA) : TE := fun σ H Q => ta σ H fun vs H1 => ∃ (a C : Addr) (ws : List V), vs = .ref a :: ws ∧ ws.length ≤ 1000 ∧ OexT K C tl new ∧ H1 a = some (exo a C none) ∧ Q .non H1
theorem pe_base {pl : Sem Bool} (bt : BaseT B new ini tl) (hstub : Manifest.isStub B = false) (hin : PySem.W.handedIn (.builtin ini) = true) (hg : Gl X bn) (hm : X.mg bn = none) (hbl : bootBuiltins bn = some (.type B)) (vV : PySem.W.findCls X.K (.type B) (.type "type") "__init__" = some (.val (.builtin ini))) (ha : PA X (e :: es) ta) (hpd : (bn == ("__debug__" : Str)) = false := by decide) (hnn : bn ≠ "__name__" := by decide)
    (hc : eval (.Call (.Attribute (.Name bn p1) "__init__" p2) (e :: es) [] pos) X.env = (do
      let ov ← eval (.Name bn p1) X.env
      standAt p2.atName
      let (f, first) ← holding [ov] (getMethod ov "__init__" pl)
      callWith pos f first (backTo pos (starEach (e :: es) X.env)) (backToKw pos (keywordEach [] X.env))) := by rfl)
    (he : starEach (e :: es) X.env = (false, eval e X.env) :: starEach es X.env := by rfl) (hpl : (backTo pos (starEach es X.env)).any (·.1) = false := by rfl) :
    PE X (.Call (.Attribute (.Name bn p1) "__init__" p2) (e :: es) [] pos) (tBase X.K tl new ta) := by
  constructor
  intro pins s σ H Q inv now
  apply PySem.W.methodCall_KW (ld_blt inv hg hm hbl ?_ hnn hpd) hc
  obtain ⟨m, fr⟩ := inv.fr
  apply PySem.W.method_type fr inv.ok.mod.kin bt.ty hstub vV hin
  show wpAny _ _ (callWith pos (Value.builtin ini) [] (backTo pos (starEach (e :: es) X.env)) []) _ _ _
  refine PyProof.Rows.callWith_method1 (thn (ha.run pos pins _ σ H _ (inv.tok _) now) ?_) he hpl
  rintro us s1 ⟨vs, H1, inv1, rv, a, C, ws, ev, hl, T, ea, q⟩
  subst ev
  cases rv with
  | @cons _ u0 _ ur r0 rw' =>
    obtain rfl : u0 = Value.ref a := r0
    have long : ur.length ≤ sizeLine := by
      have := Paired.length rw'
      rw [sizeLine_eq]; omega
    exact base_init bt T inv1 ea long fun s2 J => ⟨.non, H1, J, rfl, q⟩
/-- self.f = e, the first field -/
def tKeep (K : PySem.W.Frag) (tl : List Value) (new : String) (f : Str) (to te : TE) : TS := fun D σ H => te σ H fun y H1 => to σ H1 fun x H2 => ∃ a C : Addr, x = .ref a ∧ OexT K C tl new ∧ PySem.W.findIn K (.ref C) f = some none ∧
  H2 a = some (exo a C none) ∧ ∀ dx, H2 dx = none → dx ≠ a → D.nx σ (upd (upd H2 dx (exd dx [(f, y)])) a (exo a C (some dx)))
theorem ps_keep (bt : BaseT B new ini tl) (ho : PE X o to) (he : PE X e te) (hs : swapsWith e (some (.Attribute o f p')) pos.line X.env = pure false := by rfl) : PS X (.Assign [.Attribute o f p'] e pos) (tKeep X.K tl new f to te) := by
  constructor
  intro pins s σ H D inv now
  apply plainObj_wpAny_Assign_Attribute (thn (he.run pins s σ H _ inv now) ?_) hs
  rintro v s1 ⟨y, H1, inv1, ry, q1⟩
  apply thn (ho.run pins s1 σ H1 _ inv1 q1)
  rintro u s2 ⟨x, H2, inv2, rx, a, C, ex, T, no, ea, q⟩
  subst ex
  obtain rfl : u = Value.ref a := rx
  exact keep_first bt T inv2 ea no ry fun dx s3 free ne J => ⟨σ, _, J, q dx free ne⟩
end
/-- what such an __init__ promises: it keeps what is handed in -/
def spKeep (K : PySem.W.Frag) (tl : List Value) (new : String) (fld : Str) : Sp := fun vs H Q _ => ∃ (F : Hp) (a C : Addr) (v : V) (y : PyData), vs = [.ref a, v] ∧ Same F H ∧ DpE K H v y ∧ Tellable y ∧ OexT K C tl new ∧ PySem.W.findIn K (.ref C) fld = some none ∧ H a = some (exo a C none) ∧
  ∀ dx, H dx = none → dx ≠ a → Q .non (upd (upd H dx (exd dx [(fld, v)])) a (exo a C (some dx)))
section
variable {X : Cx} {e : Expr} {es : List Expr} {ta : TA} {p pos : Pos} {CX : CXT} {x : Str} {C fI : Addr} {k : Nat} {fd : FuncData} {ps : List Str} {sp : Sp} {B new ini : String} {tl : List Value}
theorem pmk_keep (bt : BaseT B new ini tl) (T : OexT X.K C tl new) (iC : PySem.W.findIn X.K (.ref C) "__init__" = some (some (.ref fI))) (tI : PySem.W.typeIn X.K (.ref fI) = some (.type "function")) (F1 : FnShX X.prog X.w X.K X.mg X.base CX k fI fd ps sp) (exC : PySem.W.subIn X.K (.ref C) (.type "BaseException") = some true)
    (hgd : X.A.guards = some []) (hr : Room (k + 1) X.A) (hb : Binds X.K fd ps []) (hx : Passes CX X fun _ _ _ => False) (hg : Gl X x) (hm : X.mg x = some (.ref C)) (ha : PA X (e :: es) ta)
    (hdb : (x == ("__debug__" : Str)) = false := by decide) (he : starEach (e :: es) X.env = (false, eval e X.env) :: starEach es X.env := by rfl) (hpl : (backTo pos (starEach es X.env)).any (·.1) = false := by rfl) :
    PMk X (.Call (.Name x p) (e :: es) [] pos) (fun σ H Q => ta σ H fun vs H1 => vs.length ≤ 1000 ∧ ∀ a, H1 a = none → sp (.ref a :: vs) (upd H1 a (exo a C none))
      (fun v H2 => v = .non ∧ ∃ (d : Addr) (fs : List (Str × V)), H2 a = some (exo a C (some d)) ∧ H2 d = some (exd d fs) ∧ H1 d = none ∧ Q (.ref C) (some d) (upd (del H2 a) d (.xd fs))) fun _ _ _ => False) := by
  intro pins s σ H Q inv now
  obtain ⟨nm, q, N, bs, sn, sub, ab, col, dd, k0, k1, k2, k3, k5, hC⟩ := T.cl
  refine wpAny_Call_Name_kw (ld_glob inv hg hm (PySem.W.callWith_K inv.ok.mod.kin T.kp (thn (ha.run pos pins s σ H _ inv now) ?_) he hpl) hdb)
  rintro us s1 ⟨vs, H1, inv1, rv, hz, q1⟩
  constructor
  · exact inv1.kIn
  obtain ⟨hp, g, dr, tk, os⟩ := s1
  have up1 := Nat.le_succ hp.objs.size
  have hq := q1 (hp.objs.size + 1) (HOk.fresh inv1.hok up1)
  have keep : ∀ b o, hp.get? b = some o → ((hp.push (PySem.W.kdv_tup us)).push (HandSPX.excO C hp.objs.size)).get? b = some o := fun b o z => Heap.get?_push_of_some _ (Heap.get?_push_of_some _ z)
  have there : ((hp.push (PySem.W.kdv_tup us)).push (HandSPX.excO C hp.objs.size)).get? (hp.objs.size + 1) = some (HandSPX.excO C hp.objs.size) := Heap.get?_push_at (by rw [Heap.size_push]) rfl
  have inv2 := Inv.laid (t' := tk) inv1 keep up1 (exo_ok there)
  have rv2 : Vals (V.ref (hp.objs.size + 1) :: vs) (Value.ref (hp.objs.size + 1) :: us) := Paired.cons rfl rv
  have long : (Value.ref (hp.objs.size + 1) :: us).length = ps.length := by
    rw [← rv2.length]; exact F1.ln _ _ _ _ hq
  have few : us.length ≤ sizeLine := by
    have := rv.length
    rw [sizeLine_eq]; omega
  refine wpAny_call (bt.own (inv1.kIn C _ hC) (PySem.W.looks_findIn inv1.kIn iC) (fun self => PySem.W.bind_fn inv1.kIn self tI) few (codeAny_mono (F1.go (X.A.under (Code.builtin "type.__call__" ⟨.ref C :: us, []⟩)) X.stack
    ⟨(hp.push (PySem.W.kdv_tup us)).push (HandSPX.excO C hp.objs.size), g, dr, tk, os⟩ _ ⟨.ref (hp.objs.size + 1) :: us, []⟩ (.ref (hp.objs.size + 1) :: us) _ _ _ hgd (hr.make C us []) (inv2.env0.make C us []) (by simpa using hb _ _ inv2.kIn (by simpa using long)) rv2 hq) ?_))
  intro r s' hq'
  cases r with
  | error er => exact hx pins σ _ _ er s' inv2 hq'
  | ok fl =>
    cases fl with
    | ret u =>
      obtain ⟨v, H2, os2, bare2, un2, hok2, rv', ev, d, fs, ea, ed, hd1, q2⟩ := hq'
      subst ev
      obtain ⟨h2, g2, d2, t2, os'⟩ := s'
      exact ⟨rv', mk_end (raises_own exC T.ty) inv1 up1 keep un2 hok2 os2 bare2 ea ed hd1 q2⟩
    | next => exact hq'.elim
    | brk => exact hq'.elim
    | cont => exact hq'.elim
end
/-- a class right over a built-in one, that keeps what it is made of -/
structure KeepX (P : Program) (w : World) (K : PySem.W.Frag) (mg : Str → Option Value) (base : Heap) (x : Str) (C : Addr) (B new ini : String) (tl : List Value) (fld : Str) : Prop where
  bt : BaseT B new ini tl
  T : OexT K C tl new
  xf : XfC K C
  no : PySem.W.findIn K (.ref C) fld = some none
  m : mg x = some (.ref C)
  ini : ∃ fI fd, PySem.W.findIn K (.ref C) "__init__" = some (some (.ref fI)) ∧ PySem.W.typeIn K (.ref fI) = some (.type "function") ∧ Binds K fd ["self", fld] [] ∧ FnShX P w K mg base CX0 1 fI fd ["self", fld] (spKeep K tl new fld)
section
variable {B0' : B0} {X : Cx} {e : Expr} {δ : St'} {N : St' → Prop} {R : PE1} {p p2 pos pos' : Pos} {x fld : Str} {C : Addr} {B new ini : String} {tl : List Value} {Ξ : Value → List (Str × PyData) → St' → Prop}
/-- raise X(e) -/
theorem ds_raisePE (O : KeepX X.prog X.w X.K X.mg X.base x C B new ini tl fld) (tk : TakesDP B0' X Ξ) (hgd : X.A.guards = some []) (hr : Room 2 X.A) (h : DE B0' X e δ fun y δ' => (noH y = true ∨ y = .dict []) ∧ Tellable y ∧ Ξ (.ref C) [(fld, y)] δ') (hc : X.calm = true := by rfl) (hg : Gl X x := by rfl) (hdb : (x == ("__debug__" : Str)) = false := by decide)
    (he : starEach [e] X.env = (false, eval e X.env) :: starEach [] X.env := by rfl) (hpl : (backTo pos (starEach [] X.env)).any (·.1) = false := by rfl) :
    DS B0' X (.Raise (some (.Call (.Name x p) [e] [] pos)) none pos') δ N R := by
  obtain ⟨W, hT, hW⟩ := tk
  obtain ⟨fI, fd, i1, i2, i3, i4⟩ := O.ini
  refine .of (ps_raise hc hT (pmk_keep O.bt O.T i1 i2 i4 O.T.eb hgd hr i3 pass0 hg O.m (pa_cons pe_w pa_nil he) hdb he hpl)) fun σ F H r D hn hr => ?_
  refine h σ F H r _ fun v y δ' F' H' e1 r' d ⟨hnh, ht, hx⟩ => ?_
  refine ⟨by simp, fun a ha => ⟨F', a, C, v, y, rfl, fun b o hb => ?_, ?_, ht, O.T, O.no, upd_same, fun dx hdx hne => ⟨rfl, dx, [(fld, v)], upd_same, ?_, ?_, ?_⟩⟩⟩
  · rw [upd_ne (fun z => by have := r'.ex b o hb; rw [z, ha] at this; cases this)]
    exact r'.ex b o hb
  · have up : Same H' (upd H' a (exo a C none)) := same_upd ha
    rcases hnh with hnh | rfl
    · exact .inl (dq_dp _ _ hnh (dp_mono (r'.ex.trans up) _ _ d))
    · cases d with
      | emp z => exact .inr ⟨rfl, _, _, rfl, up _ _ (r'.ex _ _ z)⟩
  · rw [upd_ne hne, upd_same]
  · rw [upd_ne hne] at hdx; exact hdx
  · rw [upd_ne hne] at hdx
    have e2 : upd (del (upd (upd (upd H' a (exo a C none)) dx (exd dx [(fld, v)])) a (exo a C (some dx))) a) dx (.xd [(fld, v)]) = upd H' dx (.xd [(fld, v)]) := by
      funext b
      rcases Nat.decEq b dx with hb | hb
      · rw [upd_ne hb, upd_ne hb]
        rcases Nat.decEq b a with hb2 | hb2
        · rw [del_ne hb2, upd_ne hb2, upd_ne hb, upd_ne hb2]
        · rw [hb2, del_same, ha]
      · rw [hb, upd_same, upd_same]
    rw [e2]
    obtain ⟨j1, j2, j3, j4⟩ := r'.fresh hdx
    have s2 : Same H' (upd H' dx (.xd [(fld, v)])) := same_upd hdx
    have r2 : Rep (bs X B0') δ' σ F' (upd H' dx (.xd [(fld, v)])) := r'.called (Same.refl _) (fun b o hb => s2 b o (r'.ex b o hb)) (fun b h1 h2 => h1) s2
    exact hW (.ref C) dx [fld] [v] [y] δ' σ F' _ r2 j1 j2 upd_same (.cons d .nil) hx
end
end DL
set_option maxHeartbeats 200000
set_option Elab.async false
set_option linter.all false
set_option maxRecDepth 100000
set_option maxHeartbeats 2000000
namespace DL
open PySem PySem.Spec PyProof.Rows L2 PySem.XT
def InX (B : B0) (K : PySem.W.Frag) (dd : Addr) (fs : List (Str × PyData)) : Prop := ∃ (ns : List Str) (us : List V) (xs : List PyData), fs = ns.zip xs ∧ B.F dd = some (.xd (ns.zip us)) ∧ DqAll K B.F us xs
theorem Rep.baseX {B : Bs} {δ : St'} {σ : List (Option V)} {F H : Hp} {i : Nat} {a dd : Addr} {o : HO} (r : Rep B δ σ F H) (hi : i < δ.s.length) (hBd : B.H dd = none) (hF : F dd = none) (hH : H dd = some o) :
    Rep ⟨⟨upd F dd o, H, B.p, B.m⟩, B.w, B.K⟩ ⟨δ.n, (inn [] 0 δ.s).set i (some (.d (hdD a)))⟩ (σ.set i (some (.ref a))) (upd F dd o) H ∧ ∀ b, B.F b = none → B.H b ≠ none → upd F dd o b = none := by
  have s2 : Same F (upd F dd o) := same_upd hF
  have ri := r.inner []
  have noown : ∀ (j : Nat) (c : C), ((inn [] 0 δ.s).set i (some (.d (hdD a))))[j]? = some (some c) → own? c = true → False := fun j c hj ho => by
    by_cases e : i = j
    · subst e
      rw [List.getElem?_set_self (by rw [inn_len]; exact hi)] at hj
      injection hj with hj; injection hj with hj; subst hj; cases ho
    · rw [List.getElem?_set_ne e] at hj
      obtain ⟨v, _, hc⟩ := ri.cell j c hj
      cases c with
      | d x => cases ho
      | pot => cases ho
      | bor => cases ho
      | own xs =>
        obtain ⟨b, vs, _, h1, _, h3, _⟩ := hc
        have h1' : H b = none := h1
        rw [h3] at h1'; cases h1'
      | dct xs =>
        obtain ⟨b, vs, _, h1, _, h3, _⟩ := hc
        have h1' : H b = none := h1
        rw [h3] at h1'; cases h1'
      | gen pa mk xs =>
        obtain ⟨b, vs, _, h1, _, h3, _⟩ := hc
        have h1' : H b = none := h1
        rw [h3] at h1'; cases h1'
      | iset xs =>
        obtain ⟨b, _, h1, _, h3⟩ := hc
        have h1' : H b = none := h1
        rw [h3] at h1'; cases h1'
  refine ⟨⟨fun b u h => ?_, Same.refl _, fun b h1 _ => h1, fun b o h _ => h, fun p h => ?_, fun j c hj => ?_, ?_, fun j j' c c' _ h1 _ o1 _ => (noown j c h1 o1).elim⟩, fun b h1 h2 => ?_⟩
  · by_cases hb : b = dd
    · subst hb; rw [upd_same] at h; cases h; exact hH
    · rw [upd_ne hb] at h; exact r.ex b u h
  · have hpp := ri.pot p h
    have hne : p ≠ dd := fun z => by
      have h1 := (r.pot p h).2.1
      exact h1 (by rw [z]; exact hBd)
    refine ⟨?_, hpp.2.1, hpp.2.2⟩
    show upd F dd o p = none
    rw [upd_ne hne]
    exact hpp.1
  · by_cases e : i = j
    · subst e
      rw [List.getElem?_set_self (by rw [inn_len]; exact hi)] at hj
      injection hj with hj; injection hj with hj; subst hj
      exact ⟨.ref a, List.getElem?_set_self (by rw [r.len]; exact hi), .hd a⟩
    · have hj0 := hj
      rw [List.getElem?_set_ne e] at hj
      obtain ⟨v, hv, hc⟩ := ri.cell j c hj
      refine ⟨v, by rw [List.getElem?_set_ne e]; exact hv, ?_⟩
      cases c with
      | d x => exact dp_mono s2 _ _ hc
      | pot => exact hc
      | bor => exact hc
      | own xs => exact (noown j _ hj0 rfl).elim
      | dct xs => exact (noown j _ hj0 rfl).elim
      | gen pa mk xs => exact (noown j _ hj0 rfl).elim
      | iset xs => exact (noown j _ hj0 rfl).elim
  · rw [List.length_set, List.length_set, inn_len]; exact r.len
  · have hb : b ≠ dd := fun z => h2 (by rw [z]; exact hBd)
    rw [upd_ne hb]
    exact r.fr b h1 h2
section
variable {B : B0} {X : Cx} {e : Expr} {δ : St'} {Φ : PE1} {pos : Pos} {n : Str} {a dd C : Addr} {oe : Obj} {cls : Value} {pn : List (Addr × Obj)} {fs : List (Str × PyData)}
/-- e.f in such a suite -/
theorem de_xf (T : XfC X.K C) (hno : PySem.W.findIn X.K (.ref C) n = some none) (hcls : cls = .ref C) (hz : Zc cls (some dd) oe) (hf : ∃ vs, oe.data = Data.fields vs) (hX : InX B X.K dd fs)
    (h : DE B (X.suite a ((a, oe) :: pn)) e δ fun x δ' => x = hdD a ∧ ∃ y, fs.lookup n = some y ∧ Φ y δ') (hb : attributeBase e n X.env (eval e X.env) = eval e X.env := by rfl) :
    DE B (X.suite a ((a, oe) :: pn)) (.Attribute e n pos) δ Φ := .of (pe_xf T hno hz hf pe_w hb) fun σ F H r Q q => h σ F H r _ fun v x δ' F' H' e1 r' d ⟨hx, y, hy, hΦ⟩ => by
  subst hx
  obtain ⟨ns, us, xs, rfl, h1, h2⟩ := hX
  obtain ⟨v2, l1, l2⟩ := look_v (dpAll_mono r'.f0 _ _ h2) hy
  cases d
  exact ⟨rfl, hcls, dd, _, v2, rfl, r'.ex _ _ (r'.f0 _ _ h1), l1, q v2 y δ' F' H' e1 r' l2 hΦ⟩
end
end DL
set_option maxHeartbeats 200000
set_option Elab.async false
set_option linter.all false
set_option maxRecDepth 100000
set_option maxHeartbeats 2000000
namespace DL
open PySem PySem.Spec PyProof.Rows L2
end DL
set_option maxHeartbeats 200000
set_option Elab.async false
set_option linter.all false
set_option maxRecDepth 100000
set_option maxHeartbeats 1000000
namespace DL
open PySem PySem.Spec PyProof.Rows L2
section
variable {B : B0} {X : Cx} {δ : St'} {Φ : PE1} {e : Expr} {p p2 pos pp : Pos} {x pn : Str}
/-- -e, of a whole number -/
theorem de_neg (h : DE B X e δ fun y δ' => ∃ i : Int, y = .int i ∧ Φ (.int (-i)) δ') : DE B X (.UnaryOp .USub e pos) δ Φ := .of (pe_un un_neg pe_w) fun σ F H r Q q => h σ F H r _ fun v y δ' F' H' e1 r' d ⟨i, hy, p⟩ => by
  subst hy
  cases d
  exact ⟨i, rfl, q _ _ δ' F' H' e1 r' (.int _) p⟩
end
end DL
set_option maxHeartbeats 200000
set_option Elab.async false
set_option linter.all false
set_option maxRecDepth 100000
set_option maxHeartbeats 1000000
namespace DL
open PySem PySem.Spec PyProof.Rows L2 PySem.XT
def keB (K : PySem.W.Frag) (C fI : Addr) (fld : Str) (tl : List Value) (new B ini : String) : Bool :=
  (match K.lookup C with
    | some ⟨.type "type", _, .cls cd, sl⟩ => match cd.mro, sl.toList with
      | .ref C' :: bm, [_, _, _, _, some (.builtin n), _] => C' == C && n == new && !cd.hasDel && cd.hasDict && bm == tl
      | _, _ => false
    | _ => false)
  && (decide (PySem.W.findIn K (.ref C) "__setattr__" = some (some (.builtin "object.__setattr__"))) && (decide (PySem.W.subIn K (.ref C) (.type "BaseException") = some true) && (decide (PySem.W.typeIn K (.ref C) = some (.type "type")) && (PySem.W.keepIn K (.ref C)
  && (xfB K C && (decide (PySem.W.findIn K (.ref C) fld = some none) && (decide (PySem.W.findIn K (.ref C) "__init__" = some (some (.ref fI))) && (decide (PySem.W.typeIn K (.ref fI) = some (.type "function"))
  && (match PySem.W.findCls K (.type B) (.type "type") "__init__" with | some (.val v) => decide (v = .builtin ini) | _ => false)))))))))
theorem keB_ok {K : PySem.W.Frag} {C fI : Addr} {fld : Str} {tl : List Value} {new B ini : String} (h : keB K C fI fld tl new B ini = true) : OexT K C tl new ∧ XfC K C ∧ PySem.W.findIn K (.ref C) fld = some none ∧ PySem.W.findIn K (.ref C) "__init__" = some (some (.ref fI)) ∧ PySem.W.typeIn K (.ref fI) = some (.type "function") ∧
    PySem.W.findCls K (.type B) (.type "type") "__init__" = some (.val (.builtin ini)) := by
  unfold keB at h
  obtain ⟨h1, h⟩ := Bool.and_eq_true_iff.mp h
  obtain ⟨h2, h⟩ := Bool.and_eq_true_iff.mp h
  obtain ⟨h3, h⟩ := Bool.and_eq_true_iff.mp h
  obtain ⟨h4, h⟩ := Bool.and_eq_true_iff.mp h
  obtain ⟨h5, h⟩ := Bool.and_eq_true_iff.mp h
  obtain ⟨h6, h⟩ := Bool.and_eq_true_iff.mp h
  obtain ⟨h7, h⟩ := Bool.and_eq_true_iff.mp h
  obtain ⟨h8, h⟩ := Bool.and_eq_true_iff.mp h
  obtain ⟨h9, h10⟩ := Bool.and_eq_true_iff.mp h
  refine ⟨⟨?_, of_decide_eq_true h2, of_decide_eq_true h3, of_decide_eq_true h4, h5⟩, xfB_ok h6, of_decide_eq_true h7, of_decide_eq_true h8, of_decide_eq_true h9, ?_⟩
  · split at h1
    · rename_i o dd cd sl e
      split at h1
      · rename_i C' bm k0 k1 k2 k3 n k5 e1 e2
        simp only [Bool.and_eq_true, beq_iff_eq, Bool.not_eq_true'] at h1
        obtain ⟨⟨⟨⟨q1, q2⟩, q3⟩, q4⟩, q5⟩ := h1
        obtain ⟨nm, bs, mro, N, q, hd, sn, sub, ab, col, del⟩ := cd
        obtain ⟨sl⟩ := sl
        simp only at e1 e2 q3 q4
        subst e1 e2 q1 q2 q3 q4 q5
        exact ⟨_, _, _, _, _, _, _, _, _, _, _, _, _, _, e⟩
      · cases h1
    · cases h1
  · split at h10
    · rename_i v e
      rw [e, of_decide_eq_true h10]
    · cases h10
end DL
set_option maxHeartbeats 200000
set_option Elab.async false
set_option linter.all false
set_option maxRecDepth 100000
set_option maxHeartbeats 1000000
namespace DL
open PySem PySem.Spec PyProof.Rows L2
end DL
set_option maxHeartbeats 200000
set_option Elab.async false
set_option linter.all false
set_option maxRecDepth 100000
set_option maxHeartbeats 1000000
namespace DL
open PySem PySem.Spec PyProof.Rows L2
end DL
set_option maxHeartbeats 200000
set_option Elab.async false
set_option linter.all false
set_option maxRecDepth 100000
set_option maxHeartbeats 1000000
namespace DL
open PySem PySem.Spec PyProof.Rows L2
end DL
set_option maxHeartbeats 200000
set_option Elab.async false
set_option linter.all false
set_option maxRecDepth 100000
set_option maxHeartbeats 1000000
namespace DL
open PySem PySem.Spec PyProof.Rows L2
abbrev EnN := NestedKey × Addr × V
def NdR : List EnN → List (NestedKey × Addr × Value) → Prop := Paired fun p q => p.1 = q.1 ∧ p.2.1 = q.2.1 ∧ RelV p.2.2 q.2.2
abbrev NkAt (K : PySem.W.Frag) (H : Hp) (k : NestedKey) (b : Addr) : Prop := Dq K H (.ref b) k.data ∧ k.depth ≤ 8
def KeysN (K : PySem.W.Frag) (H : Hp) (es : List EnN) : Prop := ∀ x ∈ es, NkAt K H x.1 x.2.1
def valN (es : List EnN) (k : NestedKey) : Option V := (es.find? fun x => decide (x.1 = k)).map (·.2.2)
theorem NdR.len {es : List EnN} {xs : List (NestedKey × Addr × Value)} (r : NdR es xs) : es.length = xs.length := Paired.length r
theorem NdR.val {es : List EnN} {xs : List (NestedKey × Addr × Value)} (r : NdR es xs) (k : NestedKey) : RelO (valN es k) ((atKey xs k).map (·.2)) := by
  induction r with
  | nil => exact True.intro
  | @cons p q ps qs h t ih =>
    obtain ⟨h1, _, h2⟩ := h
    by_cases e : p.1 = k
    · have e' : q.1 = k := h1.symm.trans e
      have b : atKey (q :: qs) k = some q.2 := by simp [atKey, List.find?_cons, e']
      have c : valN (p :: ps) k = some p.2.2 := by simp [valN, List.find?_cons, e]
      rw [c, b]; exact h2
    · have e' : ¬ q.1 = k := fun z => e (h1.trans z)
      have b : atKey (q :: qs) k = atKey qs k := by simp [atKey, List.find?_cons, e']
      have c : valN (p :: ps) k = valN ps k := by simp [valN, List.find?_cons, e]
      rw [c, b]; exact ih
end DL
set_option maxHeartbeats 200000
set_option Elab.async false
set_option linter.all false
set_option maxRecDepth 100000
set_option maxHeartbeats 1000000
namespace DL
open PySem PySem.Spec PyProof.Rows L2
abbrev KvN := List (NestedKey × PyData)
def getN (kvs : KvN) (k : NestedKey) : Option PyData := (kvs.find? fun kv => decide (kv.1 = k)).map (·.2)
def EsN (K : PySem.W.Frag) (F : Hp) : List EnN → KvN → Prop := Paired fun e kv => e.1 = kv.1 ∧ NkAt K F e.1 e.2.1 ∧ Dq K F e.2.2 kv.2
theorem EsN.len {K : PySem.W.Frag} {F : Hp} {es : List EnN} {kvs : KvN} (h : EsN K F es kvs) : es.length = kvs.length := Paired.length h
theorem EsN.keys {K : PySem.W.Frag} {F : Hp} : ∀ {es : List EnN} {kvs : KvN}, EsN K F es kvs → KeysN K F es
  | _, _, .nil => fun x hx => nomatch hx
  | _, _, .cons h t => fun x hx => by
    rcases List.mem_cons.mp hx with rfl | hx
    · exact h.2.1
    · exact EsN.keys t x hx
theorem KeysN.mono {K : PySem.W.Frag} {F H : Hp} {es : List EnN} (e : Same F H) (h : KeysN K F es) : KeysN K H es := fun x hx => ⟨dp_mono e _ _ (h x hx).1, (h x hx).2⟩
theorem EsN.val {K : PySem.W.Frag} {F : Hp} {k : NestedKey} : ∀ {es : List EnN} {kvs : KvN}, EsN K F es kvs → (∀ v, valN es k = some v → ∃ x, getN kvs k = some x ∧ Dq K F v x) ∧ (valN es k = none → getN kvs k = none)
  | _, _, .nil => ⟨fun x e => (by cases e), fun _ => rfl⟩
  | e :: es, kv :: kvs, .cons h t => by
    have ih := EsN.val (k := k) t
    unfold getN valN at *
    rw [List.find?_cons, List.find?_cons, h.1]
    by_cases g : kv.1 = k
    · rw [decide_eq_true g]
      exact ⟨fun x hx => ⟨kv.2, rfl, (by cases hx; exact h.2.2)⟩, fun z => (by cases z)⟩
    · rw [decide_eq_false g]
      exact ih
end DL
set_option maxHeartbeats 200000
set_option Elab.async false
set_option linter.all false
set_option maxRecDepth 100000
set_option maxHeartbeats 2000000
namespace DL
open PySem PySem.Spec PyProof.Rows L2
section
variable {X : Cx} {x1 x2 x3 n : Str} {c1 c2 c3 : Value} {i kk : Nat} {body suite : List Stmt} {b₀ : Stmt} {p1 p2 p3 tp pos pos' : Pos} {tb : WX → TS} {ts : Addr → Value → Option Addr → TS}
theorem names_ld {X : Cx} {x : Str} {c : Value} {np : Pos} {pins : List (Addr × Obj)} {σ : L2.St} {H : Hp} {s : Shared} {Q : Value → Shared → Prop} {E : Value → Shared → Prop} (I : Inv X pins σ H s) (hc : Names X x c) (q : Q c s) : wpAny (model X.prog X.w) X.A (eval (.Name x np) X.env) Q E s := by
  obtain ⟨hg, hdbg, hm | ⟨hm, hv, hnn⟩⟩ := hc
  · exact ld_glob I hg hm q hdbg
  · exact ld_blt I hg hm hv q hnn hdbg
end
end DL
set_option maxHeartbeats 200000
set_option Elab.async false
set_option linter.all false
set_option maxRecDepth 100000
set_option maxHeartbeats 2000000
namespace HotX
open PySem PySem.Spec PyProof.Rows
end HotX
namespace L2H
open PySem PySem.Spec PyProof.Rows L2 HotX
end L2H
namespace DL
open PySem PySem.Spec PyProof.Rows L2 L2H
end DL
set_option maxHeartbeats 200000
set_option Elab.async false
set_option linter.all false
set_option maxRecDepth 100000
set_option maxHeartbeats 2000000
namespace L2H
open PySem PySem.Spec PyProof.Rows L2 HotX
abbrev blkH (X : Cx) (p : Addr × Obj) (s : Shared) (H : Hp) (scope : Scope) (cenv : Env) (fp : List Addr) : Cx := { X.blk s H scope cenv fp with pn := [p] }
section
variable {X : Cx}
/-- where the block's loop stands: i things drawn, n more turns at most -/
def AtTurn (Y : Cx) (τ : St) (fp : List Addr) (tn : Nat → Heap → Prop) (W : Nat → Nat → Hp → Prop) (n : Nat) (t : Shared) : Prop :=
  ∃ i G, Inv Y [] τ G t ∧ tn i t.heap ∧ (∀ b ∈ fp, G b = none) ∧ W i n G
/-- the iterator's objects are no one else's in the block -/
theorem blk_fp {p : Addr × Obj} {s0 : Shared} {H0 : Hp} {scope : Scope} {ce : Env} {fp : List Addr} {τ : St} {G : Hp} {t : Shared} (I : Inv (blkH X p s0 H0 scope ce fp) [] τ G t) (np : ∀ b ∈ fp, p.1 ≠ b) (hn : ∀ b ∈ fp, G b = none) : ∀ b ∈ fp, FpOk (blkH X p s0 H0 scope ce fp) [] G b := fun b hb => by
  have e1 := I.ok.exf b hb
  refine ⟨hn b hb, e1.1, I.ok.exfs b hb, .inl hb, e1.2, fun q hq => ?_⟩
  have hq : q = p := by simpa using hq
  rw [hq]
  exact np b hb
/-- back at the top of the loop -/
theorem turn_back {p : Addr × Obj} {s0 : Shared} {H0 : Hp} {scope : Scope} {ce : Env} {fp : List Addr} {P : Program} {w : World} {K : PySem.W.Frag} {tg : Expr} {J : It} {it : Addr} {tn : Nat → Heap → Prop} (T : TurnH P w K tg J fp it tn) {W : Nat → Nat → Hp → Prop} {σ ρ : St} {vs : List Nat} {i n m : Nat} {G : Hp} {t t' : Shared}
    (st : tn (i + 1) t.heap) (hw : wipe ρ vs = wipe σ vs) (I : Inv (blkH X p s0 H0 scope ce fp) ([] ++ pinsAt fp t.heap) ρ G t') (hm : m < n) (w' : W (i + 1) m G) : ∃ m, m < n ∧ AtTurn (blkH X p s0 H0 scope ce fp) (wipe σ vs) fp tn W m t' := by
  have still : ∀ b ∈ fp, ∀ o, t.heap.get? b = some o → t'.heap.get? b = some o ∧ G b = none := fun b hb o g => by
    have := I.pin (b, o) (List.mem_append_right _ (List.mem_append_right _ (mem_pinsAt hb g)))
    exact ⟨this.1, this.2.1⟩
  refine ⟨m, hm, i + 1, G, I.unpinned.weak (by rw [← hw, wipe_length]) (fun j v e => (wipe_some (vs := vs) (by rw [hw]; exact e)).1), T.keep _ _ _ st fun b hb o g => (still b hb o g).1, fun b hb => ?_, w'⟩
  obtain ⟨o, g, _⟩ := T.obj _ _ st b hb
  exact (still b hb o g).2
end
end L2H
set_option maxHeartbeats 200000
set_option Elab.async false
set_option linter.all false
set_option maxRecDepth 100000
set_option maxHeartbeats 2000000
namespace HotX
open PySem PySem.Spec PyProof.Rows
end HotX
namespace L2H
open PySem PySem.Spec PyProof.Rows L2 HotX
end L2H
namespace DL
open PySem PySem.Spec PyProof.Rows L2 L2H
end DL
set_option maxHeartbeats 200000
set_option Elab.async false
set_option linter.all false
set_option maxRecDepth 100000
set_option maxHeartbeats 2000000
namespace DL
open PySem PySem.Spec PyProof.Rows L2 L2H
end DL
set_option maxHeartbeats 200000
set_option Elab.async false
set_option linter.all false
set_option maxRecDepth 100000
set_option maxHeartbeats 2000000
namespace PySem.W
open PySem PySem.Spec PySem.Calls PyProof.Rows
section
variable {prog : Program} {w : World} {A : Around} {E : Value → Shared → Prop} {s : Shared} {K : Frag} {x D : Addr} {ox : Obj} {od : Option Obj}
theorem found_data {C : Addr} {name : Str} {a g : Value} (hc : (clsIn K C).isSome = true) (ha : findIn K (.ref C) name = some (some a)) (hg : specialIn K a "__get__" = some (some g)) (ht : takesIn K a = some true) : findObj K C od name = some (.bind g a) := by
  obtain ⟨cd, hc⟩ := Option.isSome_iff_exists.mp hc
  simp only [findObj, hc, ha, hg, ht, Option.bind_some]
/-- e.__class__ of an exception, with a dict or without -/
theorem class_of_exc {Q : Option Value → Shared → Prop} (T : L2.ExcC K D) (X : K.In s.heap) (I : InstAt s.heap x ox D od) (h : Q (some (.ref D)) { s with toks := s.toks + 1 }) : wpAny (model prog w) A (getAttr? (.ref x) "__class__") Q E s := by
  have hf : findObj K D od "__class__" = some (.bind (.builtin "getset_descriptor.__get__") (.builtin "object.__class__")) := found_data (by obtain ⟨cd, hc, _⟩ := any_some T.hd; rw [hc]; rfl) T.ha T.hn T.ht
  obtain ⟨hp, g, dr, tk, os⟩ := s
  have l0 := I.type (M := model prog w)
  have l1 := looks_findIn (M := model prog w) X T.hg
  have l2 := looks_findIn (M := model prog w) X T.hk
  have l3 := looks_find (M := model prog w) X I hf
  have lb : Looks (model prog w) hp (isInstance (.ref x) (.type "BaseException")) true := l0.andThen (looks_subIn X T.hs)
  have no : (onTheHeap (Value.ref D) && Value.builtin "BaseException.__getattribute__" == Value.builtin "object.__getattribute__") = false := by
    rw [show (Value.builtin "BaseException.__getattribute__" == Value.builtin "object.__getattribute__") = false by decide +kernel, Bool.and_false]
  unfold getAttr? getAttrBy? getAttrBy
  refine wpAny_bind (wpAny_mkText (wpAny_bind (wpAny_attempt (wpAny_holding (wpAny_bind (l0.at (wpAny_bind (l1.at ?_))))))))
  show wpAny _ _ (if (onTheHeap (Value.ref D) && Value.builtin "BaseException.__getattribute__" == Value.builtin "object.__getattribute__") = true then _ else _) _ _ _
  refine L2.wp_if_neg (by rw [no]; exact Bool.false_ne_true) ?_
  unfold getAttrByItsOwn hookBefore
  refine wpAny_bind (L2.wp_if_pos (show onTheHeap (Value.ref D) = true from rfl) (l2.at (wpAny_bind (wpAny_attempt (wpAny_holding ?_)))))
  unfold callGetattribute
  rw [show (false && onTheHeap (Value.builtin "BaseException.__getattribute__")) = false from rfl, if_neg Bool.false_ne_true]
  unfold boundAndCalled
  rw [PySem.F.excAttr_ValueError.ga.bind (.ref x)]
  refine wpAny_bind (wpAny_pure ?_)
  show wpAny _ _ (call (.builtin "BaseException.__getattribute__") [.ref x, .str "__class__" tk]) _ _ _
  refine wpAny_call (codeAny_call_builtin PySem.F.excAttr_ValueError.ga.plain PySem.F.entry_bexc_ga (@check_slot (model prog w) _ _ ⟨hp, g, dr, tk + 1, os⟩ "BaseException.__getattribute__" "BaseException" "__getattribute__" (.ref x) [.str "__class__" tk] [] _ (by decide +kernel) (by decide +kernel) lb
    (PySem.F.args_bexc_ga (.ref x) (.str "__class__" tk)) ?_))
  unfold Builtin.«object.__getattribute__»
  refine wpAny_bind (wpAny_of_eq (a := ((Value.ref x : Value), [Value.str "__class__" tk])) (by first | rfl | (simp only [slotArgs]; rfl)) (wpAny_bind (wpAny_pure (wpAny_bind (l0.at (wpAny_bind (l3.at ?_)))))))
  show wpAny _ _ (holding [Value.builtin "object.__class__"] (call (.builtin "getset_descriptor.__get__") [.builtin "object.__class__", .ref x, .ref D]) >>= ret) _ _ _
  refine wpAny_bind (wpAny_holding (wpAny_call (class_get (s := ⟨hp, g, dr, tk + 1, os⟩) (ox := ox) (od := od) X I T.hm (wpAny_pure ?_))))
  show wpAny _ _ (handedOut (.ref D)) _ _ _
  rw [handedOut_of (v := .ref D) rfl]
  first
    | exact wpAny_pure (wpAny_pure h)
    | exact wpAny_pure h
    | exact wpAny_pure (wpAny_bind (wpAny_pure (wpAny_pure h)))
theorem kitx_excD (T : L2.ExcC K D) : KitX K (.ref x) (.ref D) (fun h => ∃ ox od, InstAt h x ox D od) where
  ty := fun _ _ _ ⟨_, _, I⟩ => I.type
  it := fun _ _ X _ => by
    obtain ⟨cd, hc, _⟩ := any_some T.hd
    unfold clsIn at hc
    split at hc
    · rename_i ho
      intro A' Q' E' s' k q
      unfold isType loadHead
      exact wpAny_bind (wpAny_loadPart (k _ _ (X _ _ ho)) (wpAny_pure q))
    · cases hc
  ne := (handS_kitx_exc (x := x) (ox := { cls := .none, data := .seq #[] }) T.hg T.hk T.hs T.hd T.ha T.hn T.ht T.hm).ne
  ca := fun X ⟨_, _, I⟩ k => class_of_exc T X I k
end
end PySem.W
set_option maxHeartbeats 200000
set_option Elab.async false
set_option linter.all false
set_option maxRecDepth 100000
set_option maxHeartbeats 2000000
namespace DL
open PySem PySem.Spec PyProof.Rows L2 L2H
/-- what a def promises where p's object is pinned -/
structure FnQ (P : Program) (w : World) (K : PySem.W.Frag) (mg : Str → Option Value) (base : Heap) (k : Nat) (f : Addr) (fd : FuncData) (ps : List Str) (spp : Addr × Obj → Sp) : Prop where
  ln : ∀ p vs H Q E, spp p vs H Q E → vs.length = ps.length
  go : ∀ (A : Around) (out : List Env) (s : Shared) (H : Hp) (ar : Args) (us : List Value) (xs : List V) (Q : VK) (E : XK) (p : Addr × Obj), RoomH k A → PinOk out H s p → Env0 P w K mg base A out s H → BindsTo s fd ar (ps.zip us) → Vals xs us → spp p xs H Q E →
    codeAny (model P w) A (.call (.ref f) ar) (CR CX0 out P w H s Q E) s
section
variable {P : Program} {w : World} {K : PySem.W.Frag} {mg : Str → Option Value} {base : Heap} {x qual : Str} {st : Stmt} {f : Addr} {fd : FuncData} {N ps : List Str} {k : Nat} {spp : Addr × Obj → Sp}
theorem FnQ.of {dvs : List V} {kws : List (Str × V)} (F : FunD K x qual (defArgs st) (defBody st) (defScope st) dvs kws f fd) (sc : FnScope N ps (defScope st)) (ln : ∀ p xs H Q E, spp p xs H Q E → xs.length = ps.length)
    (bd : ∀ (cdv : Value) (A : Around) (out : List Env) (s : Shared) (H : Hp) (xs : List V) (Q : VK) (E : XK) (p : Addr × Obj), RoomH k (A.deeper (envOfC qual (defScope st) s.heap.objs.size f cdv)) → spp p xs H Q E →
      ∃ t, PSs (cxH CX0 P w K mg base N qual (defScope st) f cdv A out s H E p) (defBody st) t ∧ t { nx := fun _ G => Q .non G, rt := Q } (L2.start N xs) H) : FnQ P w K mg base (k + 1) f fd ps spp := by
  obtain ⟨o1, o2, d1, d2, c1, c2, an, cdv, ct, sl, rfl, hlk, hcode, -, -⟩ := F.ex
  constructor
  · exact ln
  intro A out s H ar us xs Q E p rm pin ev hbd hv hp
  have long := ln p xs H Q E hp
  have inK : K.In s.heap := ev.mod.kin.keeps fun a o e => (ev.bs a o e).1
  have nol : s.heap.NoLimit := ev.mod.nolimit.keeps fun a o e => (ev.bs a o e).1
  have kinds : ∀ y, y ∈ ps.zip us → (defScope st).names.lookup y.1 = some .local ∨ ((defScope st).names.lookup y.1 = some .cell ∧ ((cellsFrom (s.heap.objs.size + 1) (defScope st).names []).lookup y.1).isSome = true) := by
    intro y hy
    cases sc.par y.1 (List.of_mem_zip hy).1 with
    | inl h => exact .inl h
    | inr h => exact .inr ⟨h, PySem.W.cellsFrom_some _ _ _ (.inl h)⟩
  apply codeAny_call_function rm.depth (inK _ _ hlk) rfl sc.co sc.gen rfl (PySem.W.codeRec_of inK hcode)
  apply hbd
  apply wpAny_newFunctionEnv_cells sc.kind kinds
  intro env0 rfl s1 made
  constructor
  · exact nol.keeps made.toInCall.keep
  apply codeAny_func
  obtain ⟨t, run, now⟩ := bd cdv A out s H xs Q E p (rm.deeper _) hp
  have inv := inv_startH (CX := CX0) (E := E) sc pin ev long hv made
  refine wpAny_mono (run.run [] s1 _ H _ inv now) ?_ fun _ _ z => z
  intro fl s2 hs
  cases fl with
  | brk => obtain ⟨_, _, _, z⟩ := hs; exact z.elim
  | cont => obtain ⟨_, _, _, z⟩ := hs; exact z.elim
  | next => obtain ⟨_, H2, J, z⟩ := hs; exact ⟨.non, H2, J.os, J.bare, J.base, J.hok, rfl, z⟩
  | ret u => obtain ⟨v, _, H2, J, rv, z⟩ := hs; exact ⟨v, H2, J.os, J.bare, J.base, J.hok, rv, z⟩
/-- what is known of a refusal's own dict, if it has one -/
def DictAt (F : Hp) (oe : Obj) : Prop := oe.dict = none ∨ ∃ dd xs, oe.dict = some dd ∧ F dd = some (.xd xs)
end
def rIsQ (K : PySem.W.Frag) (p : Addr × Obj) (D : Addr) : List V → Hp → VK → Prop := fun xs H Q => ∃ (c : V) (cv : Value) (b : Bool), xs = [.ref p.1, c] ∧ DictAt H p.2 ∧ (∀ u, RelV c u → u = cv) ∧ PySem.W.kitOne K (.ref D) cv = some b ∧ Q (.bl b) H
theorem call_isQ {X : Cx} {p : Addr × Obj} {D : Addr} (T : ExcC X.K D) (hp : p ∈ X.pn) (hc : p.2.cls = .ref D) (hv : ∃ vs, p.2.data = Data.fields vs) : CallR X (.builtin "isinstance") (rIsQ X.K p D) := by
  intro pins s σ H xs us Q I r h
  obtain ⟨c, cv, b, rfl, hd, hcv, e, q⟩ := h
  cases r with
  | cons rx rr =>
    cases rr with
    | cons rt rr =>
      cases rr
      cases rx
      have ec := hcv _ rt
      subst ec
      have P1 := I.pin p (List.mem_append_left _ hp)
      obtain ⟨a, oe⟩ := p
      obtain ⟨oc, od, oda, osl⟩ := oe
      obtain ⟨vs, hv⟩ := hv
      dsimp only at hc hv
      subst hc hv
      have J : ∃ ox od, PySem.W.InstAt s.heap a ox D od := by
        rcases hd with z | ⟨dd, ys, z1, z2⟩
        · exact ⟨_, none, P1.1, rfl, rfl, by rw [show od = none from z]; trivial⟩
        · obtain ⟨mA, hNs, _⟩ : ∃ mA, s.heap.Ns1 dd mA ∧ ∀ f, RelO (ys.lookup f) (mA f) := I.hok dd _ z2
          obtain ⟨o, _, _, ho, _⟩ := hNs
          exact ⟨_, some o, P1.1, rfl, rfl, by rw [show od = some dd from z1]; exact ho⟩
      exact PySem.W.kia_one (PySem.W.kitx_excD T) I.kIn J e (fun z => nomatch z) fun tk => ⟨.bl b, H, I.kept (t' := tk) fun _ _ z => z, rfl, q⟩
section
variable {B : B0} {X : Cx} {δ : St'} {Φ : PE1} {pos p1 p2 p3 : Pos} {pn : Str}
theorem de_isiQ (i : Nat) {p : Addr × Obj} {D : Addr} {y : Str} {b : Bool} (T : ExcC X.K D) (hp : p ∈ X.pn) (hdk : DictAt B.F p.2) (hc : p.2.cls = .ref D) (hv : ∃ vs, p.2.data = Data.fields vs) (hm : X.mg "isinstance" = none) {D2 : Addr} (hy : X.mg y = some (.ref D2)) (hk : PySem.W.kitOne X.K (.ref D) (.ref D2) = some b)
    (h : Φ (.bool b) δ) (hi : δ.s[i]? = some (some (.d (hdD p.1))) := by rfl) (hN : X.N[i]? = some pn := by rfl)
    (hvs : Vis X.env.scope pn := by first | exact Or.inl rfl | exact Or.inr (Or.inl rfl) | exact Or.inr (Or.inr rfl)) (hd : (pn == ("__debug__" : Str)) = false := by decide) (hcd : (pn == ("__classdict__" : Str)) = false := by decide)
    (hg : Gl X "isinstance" := by rfl) (hgT : Gl X y := by rfl) (hyd : (y == ("__debug__" : Str)) = false := by decide) (he : starEach [.Name pn p2, .Name y p3] X.env = (false, eval (.Name pn p2) X.env) :: starEach [.Name y p3] X.env := by rfl)
    (he2 : starEach [.Name y p3] X.env = (false, eval (.Name y p3) X.env) :: starEach [] X.env := by rfl) (hpl : (backTo pos (starEach [.Name y p3] X.env)).any (·.1) = false := by rfl) :
    DE B X (.Call (.Name "isinstance" p1) [.Name pn p2, .Name y p3] [] pos) δ Φ :=
  .of (pe_callB (call_isQ T hp hc hv) hg hm (by decide +kernel) (pa_cons (pe_var hN hvs hd hcd) (pa_cons (pe_glob (v := .ref D2) hgT hy rfl hyd) pa_nil he2) he) (by decide) (by decide) he hpl) fun σ F H r Q q => by
    obtain ⟨u, hu, hcell⟩ := r.cell i _ hi
    obtain rfl : u = .ref p.1 := by cases hcell; rfl
    refine ⟨.ref p.1, hu, .ref D2, .ref D2, b, rfl, ?_, fun u h => h, hk, q _ _ δ F H (Same.refl F) r (.bl b) h⟩
    rcases hdk with z | ⟨dd, xs, z1, z2⟩
    · exact .inl z
    · exact .inr ⟨dd, xs, z1, r.ex _ _ (r.f0 _ _ z2)⟩
end
/-- refusals of either kind, by their class -/
def TakesA (B : B0) (X : Cx) (Ξ : Value → St' → Prop) : Prop := ∃ W : WX, Takes X W ∧ (∀ cls δ σ F H, Rep (bs X B) δ σ F H → Ξ cls δ → W cls none σ H) ∧
  ∀ cls dd (ns : List Str) (us : List V) (xs : List PyData) δ σ F H, Rep (bs X B) δ σ F H → B.H dd = none → F dd = none → H dd = some (.xd (ns.zip us)) → DqAll X.K F us xs → Ξ cls δ → W cls (some dd) σ H
theorem TakesA.d {B : B0} {X : Cx} {Ξ : Value → St' → Prop} (h : TakesA B X Ξ) : TakesD B X Ξ := by
  obtain ⟨W, h1, h2, _⟩ := h
  exact ⟨W, h1, h2⟩
theorem TakesA.p {B : B0} {X : Cx} {Ξ : Value → St' → Prop} (h : TakesA B X Ξ) : TakesDP B X fun cls _ δ => Ξ cls δ := by
  obtain ⟨W, h1, _, h3⟩ := h
  exact ⟨W, h1, h3⟩
end DL
set_option maxHeartbeats 200000
set_option Elab.async false
set_option linter.all false
set_option maxRecDepth 100000
set_option maxHeartbeats 1000000
namespace DL
open PySem PySem.Spec PyProof.Rows L2
open PySem.W (Datum)
end DL
set_option maxHeartbeats 200000
set_option Elab.async false
set_option linter.all false
set_option maxRecDepth 100000
set_option maxHeartbeats 1000000
namespace DL
open PySem PySem.Spec PyProof.Rows L2
end DL
set_option maxHeartbeats 200000
set_option Elab.async false
set_option linter.all false
set_option maxRecDepth 100000
set_option maxHeartbeats 4000000
namespace K3
open PySem PySem.Spec PyProof.Rows L2 DL
open PySem.W (alike alikeAll dataLt dataLe AllAlike Sortable EachIs keyToks keyToksAll lex_pre)
variable {P : Program} {w : World} {K : PySem.W.Frag} {mg : Str → Option Value} {base : Heap} {f : Addr} {fd : FuncData} {k : Nat}
def ab2 : Str := "ab"
structure LtrOk (L : Str) : Prop where
  l1 : 1 ≤ L.length
  l2 : L.length ≤ 26
  cs : ∀ c ∈ L.cps.toList, 97 ≤ c ∧ c ≤ 122
theorem ltr_abc : LtrOk abc := ⟨by decide +kernel, by decide +kernel, by decide +kernel⟩
theorem ltr_ab2 : LtrOk ab2 := ⟨by decide +kernel, by decide +kernel, by decide +kernel⟩
theorem ltr_at {L : Str} (h : LtrOk L) {d : Int} (h0 : 0 ≤ d) (h1 : d < (L.length : Nat)) : ∃ c, atI L.cps.toList d = some c ∧ 97 ≤ c ∧ c ≤ 122 := by
  have hl : L.cps.toList.length = L.length := Array.length_toList
  rw [atI_nn h0, List.getElem?_eq_getElem (by omega)]
  exact ⟨_, rfl, h.cs _ (List.getElem_mem _)⟩
theorem cutS_from {z : Str} {k : Nat} (hk : k ≤ z.length) : cutS z (some (k : Int)) none = SX.S (z.cps.toList.drop k) := by
  unfold cutS
  rw [HT.sIx_nat, HT.sIx_none]
  have e : z.length = z.cps.toList.length := (Array.length_toList (xs := z.cps)).symm
  rw [Nat.min_eq_left (by omega)]
  rw [List.take_of_length_le (by rw [List.length_drop]; omega)]
def repN (wd : Str) (k c : Nat) : Str := SX.S (wd.cps.toList.take k ++ [c] ++ wd.cps.toList.drop (k + 1))
theorem rep_cat {wd : Str} {k c : Nat} (hk : k < wd.length) : cutS wd none (some (k : Int)) ++ (⟨#[c]⟩ : Str) ++ cutS wd (some ((k : Int) + 1)) none = repN wd k c := by
  rw [cutS_upto, show ((k : Int) + 1) = ((k + 1 : Nat) : Int) by omega, cutS_from (by omega), one_S, SX.S_cat, SX.S_cat]
  rfl
theorem rep_nm {wd : Str} {k c : Nat} (h : IsNm wd) (hk : k < wd.length) (hc : 97 ≤ c ∧ c ≤ 122) : IsNm (repN wd k c) := by
  have e : wd.length = wd.cps.toList.length := (Array.length_toList (xs := wd.cps)).symm
  have h1 := h.l1
  have h2 := h.l2
  refine nm_S ?_ ?_ fun x hx => ?_
  · rw [List.length_append, List.length_append, List.length_take, List.length_drop, List.length_singleton]; omega
  · rw [List.length_append, List.length_append, List.length_take, List.length_drop, List.length_singleton]; omega
  · rcases List.mem_append.mp hx with hx | hx
    · rcases List.mem_append.mp hx with hx | hx
      · exact h.cs x (List.mem_of_mem_take hx)
      · simp at hx
        subst hx
        exact hc
    · exact h.cs x (List.mem_of_mem_drop hx)
theorem rep_inj {wd : Str} {k c d : Nat} (h : repN wd k c = repN wd k d) : c = d := by
  have := congrArg (fun s : Str => s.cps.toList) h
  unfold repN at this
  simpa [SX.S] using this
theorem rep_nd (wd : Str) (k : Nat) : (lets.map (repN wd k)).Nodup := by
  unfold List.Nodup
  rw [List.pairwise_map]
  have : lets.Nodup := by decide +kernel
  exact this.imp fun {a b} hne z => hne (rep_inj z)
def someW (wd : Str) (k : Nat) : List Str := [wd] ++ lets.map (repN wd k)
theorem someW_nm {wd : Str} {k : Nat} (h : IsNm wd) (hk : k < wd.length) : ∀ x ∈ someW wd k, IsNm x := fun x hx => by
  rcases List.mem_append.mp hx with hx | hx
  · simp at hx
    subst hx
    exact h
  · obtain ⟨c, hc, rfl⟩ := List.mem_map.mp hx
    exact rep_nm h hk (lets_in c hc)
theorem someW_new {wd : Str} {k : Nat} {l : List Str} (h : l.length < 26) : ∃ x r, (someW wd k).filter (fun x => !decide (x ∈ l)) = x :: r := by
  cases e : (someW wd k).filter (fun x => !decide (x ∈ l)) with
  | cons x r => exact ⟨x, r, rfl⟩
  | nil =>
    rw [List.filter_eq_nil_iff] at e
    have := pig (lets.map (repN wd k)) l (rep_nd wd k) fun x hx => by
      have := e x (List.mem_append_right _ hx)
      simpa using this
    rw [List.length_map, lets_len] at this
    omega
def S_law_names : SpPO := fun n ds Φ => ∃ many : Nat, ds = [natD many] ∧ many ≤ 6 ∧ n + 100 < 1099511627776 ∧ ∀ (l : List Str), l.length = many → l.Nodup → (∀ x ∈ l, IsNm x) → Φ (l.map PyData.str) (n + 1 + 10 * many)
def envN (n : Nat) (many : Nat) (L : Str) (l : List Str) (c4 c5 c7 c8 : Option PyData) : St' := ⟨n, [some .pot, some (.d (natD many)), some (.d (.str L)), some (.own (l.map PyData.str)), c4.map C.d, c5.map C.d, none, c7.map C.d, c8.map C.d, none, none]⟩
theorem envN_own {n : Nat} {many : Nat} {L : Str} {l : List Str} {c4 c5 c7 c8 : Option PyData} : onlyOwn 3 (envN n many L l c4 c5 c7 c8).s 0 = true := by
  show (3 == 3 && onlyOwn 3 [c4.map C.d, c5.map C.d, none, c7.map C.d, c8.map C.d, none, none] 4) = true
  rw [onlyOwn_md, onlyOwn_md]
  show (true && onlyOwn 3 [c7.map C.d, c8.map C.d, none, none] 7) = true
  rw [onlyOwn_md, onlyOwn_md]
  rfl
def repD (wd : Str) (k : Nat) : PyData → PyData
  | .str s => .str (cutS wd none (some (k : Int)) ++ s ++ cutS wd (some ((k : Int) + 1)) none)
  | _ => .none
theorem ok__law_names (T : Tx mg) (GT : Fn P w K mg base "_law_take" 1 ["pot", "many"] (spP K S_law_take)) (F : Fd K "_law_names" s__law_names [] [] f fd) : FnOk P w K mg base CX0 2 f fd ["pot", "many"] (spPO K S_law_names) := by
  refine fnPO F sc__law_names (fun n ds Φ h => by obtain ⟨_, rfl, _⟩ := h; rfl) (fun B cdv A outer s H E n ds Φ hr hp hS => ?_)
  obtain ⟨many, rfl, hm, hn, hΦ⟩ := hS
  have nd := sc__law_names.nd
  refine dos_cons (ds_set 2 ?_ nd)
  refine de_ix ix_list (de_dl (dl_lst (da_cons (de_str (da_cons (de_str (da_nil ⟨by simp, de_fP (k' := 1) 0 GT hr (da_cons (de_int (da_nil ⟨2, rfl, by decide, by decide, by show n < _; omega, fun d h0 h1 => ?_⟩)))⟩)))))))
  obtain ⟨L, hL, hLi⟩ : ∃ L : Str, LtrOk L ∧ atI [PyData.str abc, .str ab2] d = some (.str L) := by
    have : d = 0 ∨ d = 1 := by omega
    rcases this with rfl | rfl
    · exact ⟨abc, ltr_abc, rfl⟩
    · exact ⟨ab2, ltr_ab2, rfl⟩
  refine rd_ixL hLi ?_
  have hL1 := hL.l1
  have hL2 := hL.l2
  refine dos_cons (ds_setO 3 (dl_lst (da_nil ⟨by decide, ?_⟩)) nd)
  refine dos_cons (ds_for [4] (pi_range1 rfl T.range pa_w) (pg_name (i := 4) nd rfl (.inl rfl)) (wi_rng1 (da_cons (de_nm 1 (da_nil ⟨_, rfl, ?_, ?_, ?_⟩)))))
  · omega
  · omega
  rw [Int.toNat_natCast]
  refine ⟨fun i δ => ∃ (l : List Str) (c4 c5 c7 c8 : Option PyData), δ = envN (n + 1 + 10 * i) many L l c4 c5 c7 c8 ∧ l.length = i ∧ l.Nodup ∧ ∀ x ∈ l, IsNm x, ⟨[], none, none, none, none, rfl, rfl, List.nodup_nil, by simp⟩, fun i y δ hy hI => ?_, fun δ hI => ?_⟩
  · obtain ⟨l, c4, c5, c7, c8, rfl, hl, hld, hln⟩ := hI
    obtain ⟨hi, rfl⟩ := rng_get hy
    refine wg_name ?_
    refine ds_cons (ds_set 5 ?_ nd)
    refine de_join (de_str ⟨_, rfl, de_dl (dl_lc [("turn", 6)] nd (pi_range1 rfl T.range pa_w) (blkOk_by (N := n__law_names) (sc := defScope s__law_names) (by decide +kernel)) (fun _ _ _ _ _ => pg_name (i := 6) nd rfl (Or.inl rfl)) (wi_rng1 (da_cons (de_bin op_add (de_int (de_fP (k' := 1) 0 GT hr (da_cons (de_int (da_nil ⟨8, rfl, by decide, by decide, ?_, fun d h0 h1 => rd_I0 (da_nil ⟨_, rfl, ?_, ?_, ?_⟩)⟩)))))))))⟩)
    · show n + 1 + 10 * i < _
      omega
    · omega
    · omega
    have hd : ((1 + d).toNat : Int) = 1 + d := by omega
    refine ⟨by rw [rng_len]; omega, fun j acc n2 => ∃ ys : List Str, acc = ys.map PyData.str ∧ ys.length = j ∧ (∀ y ∈ ys, ∃ c, y = (⟨#[c]⟩ : Str) ∧ 97 ≤ c ∧ c ≤ 122) ∧ n2 = n + 1 + 10 * i + 1 + j, ⟨[], rfl, rfl, by simp, rfl⟩, fun B' j y acc n2 hp' hy hac hI => wg_name ?_, fun acc n2 hac hI => ?_⟩
    · obtain ⟨ys, rfl, hys, hyc, rfl⟩ := hI
      have hj := (rng_get hy).1
      intro s0 H0 C cl fp
      refine de_ix ix_str (de_nm 2 (de_fP (k' := 1) 0 GT hr (da_cons (de_callB call_len T.len boot_len (da_cons (de_nm 2 (da_nil (rc_lenS rfl ?_ (da_nil ⟨_, rfl, ?_, ?_, ?_, fun d2 g0 g1 => ?_⟩)))))))))
      · omega
      · omega
      · omega
      · show n + 1 + 10 * i + 1 + j < _
        omega
      obtain ⟨c, hc1, hc2, hc3⟩ := ltr_at hL g0 g1
      refine rd_ixS (by omega) hc1 ⟨ys ++ [⟨#[c]⟩], by simp, by simp [hys], fun y hy => ?_, ?_⟩
      · rcases List.mem_append.mp hy with hy | hy
        · exact hyc y hy
        · simp at hy
          exact ⟨c, hy, hc2, hc3⟩
      · show n + 1 + 10 * i + 1 + j + 1 = _
        omega
    obtain ⟨ys, rfl, hys, hyc, rfl⟩ := hI
    rw [rng_len] at hys hac ⊢
    have hnm : IsNm (Txt.join (Str.ofString "") ys) := join_nm hyc (by omega) (by omega)
    refine ⟨ys, rfl, ?_, ?_⟩
    · rw [ones_len hyc]
      show ys.length + ys.length * 0 ≤ _
      omega
    generalize Txt.join (Str.ofString "") ys = wd at hnm
    have hw1 := hnm.l1
    have hw8 := hnm.l2
    refine ds_cons (ds_set 7 ?_ nd)
    refine de_fP (k' := 1) 0 GT hr (da_cons (de_callB call_len T.len boot_len (da_cons (de_nm 5 (da_nil (rc_lenS rfl ?_ (da_nil ⟨_, rfl, ?_, ?_, ?_, fun at' a0 a1 => ?_⟩)))))))
    · omega
    · omega
    · omega
    · show n + 1 + 10 * i + 1 + _ < _
      omega
    obtain ⟨k, rfl⟩ : ∃ k : Nat, at' = (k : Nat) := ⟨at'.toNat, by omega⟩
    have hk : k < wd.length := by omega
    refine dss_bump (n + 1 + 10 * (i + 1)) (by show n + 1 + 10 * i + 1 + _ + 1 ≤ _; omega) ?_
    refine ds_cons (ds_set 8 ?_ nd)
    refine de_dl (dl_cat (de_dl (dl_lst (da_cons (de_nm 5 (da_nil ⟨by simp, _, rfl, ?_⟩))))))
    refine de_dl (dl_map [("sign", 9)] nd (pi_str pe_w) (blkOk_by (N := n__law_names) (sc := defScope s__law_names) (by decide +kernel)) (fun _ _ _ _ _ => pg_name (i := 9) nd rfl (Or.inl rfl)) (wi_str (de_str ⟨abc, rfl, by decide +kernel, repD wd k, fun B' y hp' hy => wg_name ?_, _, rfl, by simp [signs_abc, lets_len], ?_⟩)))
    · rw [signs_abc] at hy
      obtain ⟨c, hc, rfl⟩ := List.mem_map.mp hy
      intro s0 H0 C cl fp
      refine de_bin op_add_str (de_bin op_add_str (de_slTo sl_str (de_nm 5 (de_nm 7 ⟨_, rfl, ru_slS ?_ (de_nm 9 (rd_addS ?_ (de_slFrom sl_str (de_nm 5 (de_bin op_add (de_nm 7 (de_int (rd_I0 ⟨_, rfl, ru_slS ?_ (rd_addS ?_ ⟨rfl, rfl⟩)⟩))))))))⟩))))
      · omega
      · have := cutS_length wd none (some (k : Int))
        show _ + 1 ≤ 100000
        omega
      · omega
      · have := cutS_length wd none (some (k : Int))
        have := cutS_length wd (some ((k : Int) + 1)) none
        show (cutS wd none (some (k : Int)) ++ (⟨#[c]⟩ : Str)).length + _ ≤ 100000
        have e : (cutS wd none (some (k : Int)) ++ (⟨#[c]⟩ : Str)).length = (cutS wd none (some (k : Int))).length + 1 := by
          show ((cutS wd none (some (k : Int))).cps ++ #[c]).size = _
          rw [Array.size_append]
          rfl
        omega
    have eS : [PyData.str wd] ++ (DL.signs abc).map (repD wd k) = (someW wd k).map PyData.str := by
      unfold someW
      rw [signs_abc, List.map_append, List.map_map, List.map_map]
      congr 1
      refine List.map_congr_left fun c _ => ?_
      show PyData.str (cutS wd none (some (k : Int)) ++ (⟨#[c]⟩ : Str) ++ cutS wd (some ((k : Int) + 1)) none) = _
      rw [rep_cat hk]
      rfl
    rw [eS]
    obtain ⟨x, r, hx⟩ := someW_new (wd := wd) (k := k) (l := l) (by omega)
    refine ds_last (ds_append 3 (de_peek 3 (xs := l.map PyData.str) (ho := envN_own (n := 0) (many := many) (L := L) (l := l) (c4 := some (.int (0 + (i : Nat)))) (c5 := some (.str wd)) (c7 := some (.int (k : Nat))) (c8 := some (.list ((someW wd k).map PyData.str)))) (de_ix ix_list (de_dl (dl_filt [("one", 10)] nd (pi_list pe_w) (blkOk_by (N := n__law_names) (sc := defScope s__law_names) (by decide +kernel)) (fun _ _ _ _ _ => pg_name (i := 10) nd rfl (Or.inl rfl))
      (wi_list (de_nm 8 ⟨_, rfl, ?_, notD l, id, fun B' y hp' hy => wg_name ?_, ?_⟩)))))))
    · rw [List.length_map]
      unfold someW
      simp [lets_len]
    · obtain ⟨z, hz, rfl⟩ := List.mem_map.mp hy
      intro s0 H0 C cl fp
      refine dt_cmp op_notIn_seq (de_nm 10 (de_nm 3 (rd_niStrL ⟨_, rfl, rfl, rfl, fun _ s1 H1 C1 cl1 fp1 => ?_⟩)))
      exact de_nm 10 ⟨rfl, rfl⟩
    rw [List.map_id, filter_not, hx]
    refine de_int (rd_ixL (z := .str x) (by rw [atI_nn (by decide)]; rfl) ⟨rfl, rfl, l.map PyData.str, rfl, by rw [List.length_map]; omega, ?_⟩)
    have hmm : x ∈ (someW wd k).filter (fun x => !decide (x ∈ l)) := by rw [hx]; exact List.mem_cons_self
    have hxl : x ∉ l := by simpa using (List.mem_filter.mp hmm).2
    have hxn := someW_nm hnm hk x (List.mem_filter.mp hmm).1
    refine ⟨l ++ [x], some (.int (0 + (i : Nat))), some (.str wd), some (.int (k : Nat)), some (.list ((someW wd k).map PyData.str)), ?_, by simp [hl], ?_, fun z hz => ?_⟩
    · unfold envN
      rw [List.map_append]
      rfl
    · rw [List.nodup_append]
      exact ⟨hld, by simp, fun a ha b hb => by simp at hb; subst hb; exact fun e => hxl (e ▸ ha)⟩
    · rcases List.mem_append.mp hz with hz | hz
      · exact hln z hz
      · simp at hz
        subst hz
        exact hxn
  · obtain ⟨l, c4, c5, c7, c8, rfl, hl, hld, hln⟩ := hI
    rw [rng_len] at hl ⊢
    exact dos_own 3 (hΦ l hl hld hln)
end K3
set_option maxHeartbeats 200000
set_option Elab.async false
set_option linter.all false
set_option maxRecDepth 100000
set_option maxHeartbeats 1000000
namespace DL
open PySem PySem.Spec PyProof.Rows L2
def inDt (x : PyData) (ys : List PyData) : Bool := ys.any fun y => PyData.eqv y x
section
variable {X : Cx}
def rInDt (K : PySem.W.Frag) (neg : Bool) : R2 := fun x y H Q => ∃ d ys, Dp K H x d ∧ (Dp K H y (.tuple ys) ∨ Dp K H y (.list ys)) ∧ d.plain = true ∧ PyData.plainAll ys = true ∧ d.depth ≤ 64 ∧ Q (.bl (if neg then !inDt d ys else inDt d ys)) H
theorem op_niDt (hu : X.A.units + 70 < cLine) : OpR X (compareOp .NotIn) (rInDt X.K true) := by
  intro pins s σ H x y v u Q I rx ry h
  obtain ⟨d, ys, hd, hy, pd, py, hdp, q⟩ := h
  obtain ⟨as, r1⟩ := Dp.reads I d x v hd rx
  have hm : X.A.units + 1 + min (PyData.depthAll ys) d.depth < cLine := by
    have := Nat.min_le_right (PyData.depthAll ys) d.depth
    omega
  rcases hy with hy | hy
  · obtain ⟨bs, r2⟩ := Dp.reads I _ y u hy ry
    exact SeqAt.notIn_tuple_data r2 r1 py pd hm ⟨.bl _, H, I, rfl, q⟩
  · obtain ⟨bs, r2⟩ := Dp.reads I _ y u hy ry
    exact SeqAt.notIn_list_data r2 r1 py pd hm ⟨.bl _, H, I, rfl, q⟩
end
section
variable {B : Bs} {δ : St'} {Φ : PE1}
theorem rd_inDl {neg : Bool} {x : PyData} {ys : List PyData} (hx : x.plain = true) (hy : PyData.plainAll ys = true) (hd : x.depth ≤ 64) (p : Φ (.bool (if neg then !inDt x ys else inDt x ys)) δ) : RD B (rInDt B.K neg) x (.list ys) δ Φ :=
  rd_pure (w := .bl (if neg then !inDt x ys else inDt x ys)) (fun _ => .bl _) (fun F H v u e d1 d2 Q q => ⟨x, ys, dq_dp _ _ (noH_plain _ hx) (dp_mono e _ _ d1), .inr (dq_dp _ _ (show noHs ys = true from noHs_plain ys hy) (dp_mono e _ _ d2)), hx, hy, hd, q⟩) p
end
end DL
set_option maxHeartbeats 200000
set_option Elab.async false
set_option linter.all false
set_option maxRecDepth 100000
set_option maxHeartbeats 4000000
namespace K3
open PySem PySem.Spec PyProof.Rows L2 DL
open PySem.W (alike alikeAll dataLt dataLe AllAlike Sortable EachIs keyToks keyToksAll lex_pre)
variable {P : Program} {w : World} {K : PySem.W.Frag} {mg : Str → Option Value} {base : Heap} {f : Addr} {fd : FuncData} {k : Nat}
mutual
def solid : PyData → Bool
  | .none => true
  | .int _ => true
  | .str _ => true
  | .list xs => solids xs
  | .tuple xs => solids xs
  | _ => false
def solids : List PyData → Bool
  | [] => true
  | x :: xs => solid x && solids xs
end
mutual
theorem eqv_iff : ∀ x y : PyData, solid x = true → solid y = true → (PyData.eqv x y = true ↔ x = y)
  | .none, y, _, h => by cases y <;> simp [PyData.eqv]
  | .int i, y, _, h => by cases y <;> simp [PyData.eqv, solid] at h ⊢
  | .str s, y, _, h => by cases y <;> simp [PyData.eqv]
  | .list xs, y, hx, h => by
    cases y with
    | list ys =>
      show PyData.eqvAll xs ys = true ↔ _
      rw [eqvs_iff xs ys hx h]
      exact ⟨fun z => by rw [z], fun z => by injection z⟩
    | _ => simp [PyData.eqv]
  | .tuple xs, y, hx, h => by
    cases y with
    | tuple ys =>
      show PyData.eqvAll xs ys = true ↔ _
      rw [eqvs_iff xs ys hx h]
      exact ⟨fun z => by rw [z], fun z => by injection z⟩
    | _ => simp [PyData.eqv]
theorem eqvs_iff : ∀ xs ys : List PyData, solids xs = true → solids ys = true → (PyData.eqvAll xs ys = true ↔ xs = ys)
  | [], ys, _, _ => by cases ys <;> simp [PyData.eqvAll]
  | x :: xs, ys, hx, h => by
    cases ys with
    | nil => simp [PyData.eqvAll]
    | cons y ys =>
      have hx' : (solid x && solids xs) = true := hx
      have h' : (solid y && solids ys) = true := h
      rw [Bool.and_eq_true] at hx' h'
      show (PyData.eqv x y && PyData.eqvAll xs ys) = true ↔ _
      rw [Bool.and_eq_true, eqv_iff x y hx'.1 h'.1, eqvs_iff xs ys hx'.2 h'.2]
      exact ⟨fun ⟨a, b⟩ => by rw [a, b], fun z => by injection z with a b; exact ⟨a, b⟩⟩
end
theorem eqv_dec {x y : PyData} {p : Prop} [Decidable p] (hx : solid x = true) (hy : solid y = true) (h : x = y ↔ p) : PyData.eqv x y = decide p := by
  rw [Bool.eq_iff_iff, decide_eq_true_iff, eqv_iff x y hx hy, h]
theorem solids_map {α : Type} {f : α → PyData} (h : ∀ a, solid (f a) = true) : ∀ l : List α, solids (l.map f) = true
  | [] => rfl
  | a :: l => by
    show (solid (f a) && solids (l.map f)) = true
    rw [h a, solids_map h l]; rfl
def shp (n : Nat) (d : PyData) : Prop := d.canLay0 = true ∧ d.depth ≤ n
theorem shp_sh {n : Nat} {d : PyData} (h : shp n d) (hn : n ≤ 64) : SeqAt.shaped d = true := by
  unfold SeqAt.shaped
  rw [h.1, decide_eq_true (Nat.le_trans h.2 hn)]
  rfl
theorem shps {n : Nat} : ∀ {ds : List PyData}, (∀ d ∈ ds, shp n d) → PyData.canLayAll0 ds = true ∧ PyData.depthAll ds ≤ n
  | [], _ => ⟨rfl, Nat.zero_le _⟩
  | d :: ds, h => by
    have h1 := h d List.mem_cons_self
    have h2 := shps fun x hx => h x (List.mem_cons_of_mem _ hx)
    constructor
    · show (d.canLay0 && PyData.canLayAll0 ds) = true
      rw [h1.1, h2.1]; rfl
    · show max d.depth (PyData.depthAll ds) ≤ n
      have := h1.2
      have := h2.2
      omega
theorem shp_tup {n : Nat} {ds : List PyData} (h : ∀ d ∈ ds, shp n d) : shp (n + 1) (.tuple ds) := ⟨(shps h).1, by
  show PyData.depthAll ds + 1 ≤ n + 1
  have := (shps h).2
  omega⟩
abbrev okS (s : Str) : Prop := PyData.strOk s = true
theorem shp_str {s : Str} (h : okS s) : shp 0 (.str s) := ⟨h, Nat.zero_le _⟩
theorem IsNm.okS {s : Str} (h : IsNm s) : okS s := by
  show s.cps.all (· < 0x110000) = true
  rw [← Array.all_toList, List.all_eq_true]
  intro c hc
  have := h.cs c hc
  exact decide_eq_true (by omega)
structure OkE (e : St3) : Prop where
  a : okS e.1
  b : okS e.2.1
  c : okS e.2.2
theorem VwE.ok {e : St3} (h : VwE e) : OkE e := by
  rcases h with ⟨h1, h2, h3⟩ | ⟨h1, h2, h3⟩
  · exact ⟨by rw [h1]; decide +kernel, h2.okS, h3.okS⟩
  · refine ⟨by rw [h1]; decide +kernel, h2.okS, ?_⟩
    rcases h3 with h3 | h3
    · exact h3.okS
    · rw [h3]; decide +kernel
theorem shp_s3 {e : St3} (h : OkE e) : shp 1 (s3D e) := shp_tup (n := 0) fun d hd => by
  simp at hd
  rcases hd with rfl | rfl | rfl
  · exact shp_str h.a
  · exact shp_str h.b
  · exact shp_str h.c
theorem solid_s3 (e : St3) : solid (s3D e) = true := rfl
theorem s3D_inj {a b : St3} : s3D a = s3D b ↔ a = b := by
  constructor
  · intro h
    unfold s3D at h
    simp only [PyData.tuple.injEq, List.cons.injEq, PyData.str.injEq, and_true] at h
    exact Prod.ext h.1 (Prod.ext h.2.1 h.2.2)
  · intro h; rw [h]
theorem eqv3 {a b : St3} : PyData.eqv (s3D a) (s3D b) = decide (a = b) := eqv_dec (solid_s3 a) (solid_s3 b) s3D_inj
theorem in3 {e : St3} : ∀ {l : List St3}, inDt (s3D e) (l.map s3D) = decide (e ∈ l)
  | [] => rfl
  | a :: l => by
    have ih := in3 (e := e) (l := l)
    unfold inDt at ih ⊢
    rw [List.map_cons, List.any_cons, ih, eqv3, Bool.eq_iff_iff]
    simp only [Bool.or_eq_true, decide_eq_true_iff, List.mem_cons]
    exact ⟨fun z => z.elim (fun z => .inl z.symm) .inr, fun z => z.elim (fun z => .inl z.symm) .inr⟩
theorem room70 {k : Nat} {A : Around} (r : Room k A) : A.units + 70 < cLine := by
  have := r.un
  omega
theorem lex_ext : ∀ {p q : List (Int ⊕ List Nat)} {z : Int ⊕ List Nat} (s t : List (Int ⊕ List Nat)), p.length = q.length → PyProof.Rows.lexLt itemOrd (p ++ [z]) (q ++ [z]) = true → PyProof.Rows.lexLt itemOrd (p ++ s) (q ++ t) = true
  | [], [], z, s, t, _, h => by rw [lex_irrefl (O := itemOrd)] at h; cases h
  | [], _ :: _, _, _, _, e, _ => by cases e
  | _ :: _, [], _, _, _, e, _ => by cases e
  | x :: p, y :: q, z, s, t, e, h => by
    by_cases hxy : x = y
    · subst hxy
      have h' : PyProof.Rows.lexLt itemOrd (x :: (p ++ [z])) (x :: (q ++ [z])) = true := h
      rw [lex_self (O := itemOrd)] at h'
      show PyProof.Rows.lexLt itemOrd (x :: (p ++ s)) (x :: (q ++ t)) = true
      rw [lex_self (O := itemOrd)]
      exact lex_ext s t (by simpa using e) h'
    · have h' : PyProof.Rows.lexLt itemOrd (x :: (p ++ [z])) (y :: (q ++ [z])) = true := h
      rw [lex_diff (O := itemOrd) hxy] at h'
      show PyProof.Rows.lexLt itemOrd (x :: (p ++ s)) (y :: (q ++ t)) = true
      rw [lex_diff (O := itemOrd) hxy]
      exact h'
def evTok (e : St3) : List (Int ⊕ List Nat) := [.inl 1, .inr e.1.cps.toList, .inl 1, .inr e.2.1.cps.toList, .inl 1, .inr e.2.2.cps.toList]
theorem lt_row {a b : St3 × Nat} (h : lt3 a.1 b.1) : dataLt (rowD a) (rowD b) = true :=
  lex_ext (p := evTok a.1) (q := evTok b.1) (z := .inl 0) [.inl 1, .inl (a.2 : Nat), .inl 0] [.inl 1, .inl (b.2 : Nat), .inl 0] rfl h
theorem alikeR (a b : St3 × Nat) : alike (rowD a) (rowD b) = true := rfl
def sortR (l : List (St3 × Nat)) : List (St3 × Nat) := l.mergeSort (dataLe false rowD)
theorem sortD_R (l : List (St3 × Nat)) : sortD (l.map rowD) = (sortR l).map rowD := by
  unfold sortD sortR
  exact (List.map_mergeSort (r := dataLe false rowD) (s := dataLe false id) (f := rowD) fun a _ b _ => rfl).symm
theorem sortR_perm (l : List (St3 × Nat)) : (sortR l).Perm l := List.mergeSort_perm _ _
theorem sortR_rise {l : List (St3 × Nat)} (nd : (l.map (·.1)).Nodup) : ((sortR l).map (·.1)).Pairwise lt3 := by
  have h1 := PySem.W.sort_pairwise (PySem.W.sortLe_total (listOrd itemOrd) false fun b : St3 × Nat => keyToks (rowD b)) l
  have h2 : ((sortR l).map (·.1)).Nodup := ((sortR_perm l).map _).nodup_iff.mpr nd
  unfold List.Nodup at h2
  rw [List.pairwise_map] at h2 ⊢
  refine List.Pairwise.imp₂ (fun a b h3 h4 => ?_) h1 h2
  have h5 : ¬ lt3 b.1 a.1 := fun z => by
    have h3' : (!dataLt (rowD b) (rowD a)) = true := h3
    rw [lt_row z] at h3'
    cases h3'
  by_cases g : lt3 a.1 b.1
  · exact g
  · exact absurd (lt3_total g h5) h4
theorem allAlikeR (l : List (St3 × Nat)) : AllAlike (l.map rowD) := fun d hd d' hd' => by
  obtain ⟨a, _, rfl⟩ := List.mem_map.mp hd
  obtain ⟨b, _, rfl⟩ := List.mem_map.mp hd'
  exact alikeR a b
theorem sortableR (l : List (St3 × Nat)) : Sortable (l.map rowD) := .inl fun d hd => by
  obtain ⟨a, _, rfl⟩ := List.mem_map.mp hd
  exact ⟨_, _, rfl⟩
theorem noHs_rows : ∀ l : List (St3 × Nat), noHs (l.map rowD) = true
  | [] => rfl
  | _ :: l => noHs_rows l
theorem plain3s : ∀ l : List St3, PyData.plainAll (l.map s3D) = true
  | [] => rfl
  | _ :: l => plain3s l
structure EvOk (os ws : List Str) (e : St3) : Prop where
  o : e.2.1 ∈ os
  w : (e.1 = ("say" : Str) ∧ e.2.2 ∈ ws) ∨ (e.1 = ("hear" : Str) ∧ (e.2.2 ∈ ws ∨ e.2.2 = flt))
structure Nms (h : Str) (os ws : List Str) : Prop where
  hn : IsNm h
  on : ∀ o ∈ os, IsNm o ∧ o ≠ h
  wn : ∀ w ∈ ws, IsNm w
  o1 : 1 ≤ os.length
  o2 : os.length ≤ 6
  w1 : 1 ≤ ws.length
  w2 : ws.length ≤ 6
theorem EvOk.vw {h : Str} {os ws : List Str} {e : St3} (he : EvOk os ws e) (hN : Nms h os ws) : VwE e := by
  have ho := (hN.on _ he.o).1
  rcases he.w with ⟨h1, h2⟩ | ⟨h1, h2⟩
  · exact .inl ⟨h1, ho, hN.wn _ h2⟩
  · exact .inr ⟨h1, ho, h2.imp (hN.wn _) id⟩
/-- the steps of a state -/
structure RwOk (os ws : List Str) (many : Nat) (row : List (St3 × Nat)) : Prop where
  len : row.length ≤ 8
  ris : (row.map (·.1)).Pairwise lt3
  ev : ∀ r ∈ row, EvOk os ws r.1 ∧ r.2 < many
structure EnOk (h : Str) (os ws : List Str) (sts : List (List (St3 × Nat))) : Prop where
  nm : Nms h os ws
  l1 : 1 ≤ sts.length
  l2 : sts.length ≤ 100
  rw : ∀ row ∈ sts, RwOk os ws sts.length row
def evAll (os ws : List Str) : List St3 := os.flatMap fun o => ws.flatMap (fun w => [(("say" : Str), o, w), (("hear" : Str), o, w)]) ++ [(("hear" : Str), o, flt)]
theorem evAll_in {os ws : List Str} {e : St3} (h : EvOk os ws e) : e ∈ evAll os ws := by
  unfold evAll
  refine List.mem_flatMap.mpr ⟨e.2.1, h.o, ?_⟩
  obtain ⟨k, o, w⟩ := e
  rcases h.w with ⟨h1, h2⟩ | ⟨h1, h2 | h2⟩
  · have h1 : k = _ := h1
    subst h1
    exact List.mem_append.mpr (.inl (List.mem_flatMap.mpr ⟨w, h2, by simp⟩))
  · have h1 : k = _ := h1
    subst h1
    exact List.mem_append.mpr (.inl (List.mem_flatMap.mpr ⟨w, h2, by simp⟩))
  · have h1 : k = _ := h1
    have h2 : w = _ := h2
    subst h1 h2
    exact List.mem_append.mpr (.inr (by simp))
theorem flat_len {α β : Type} {f : α → List β} {n : Nat} (h : ∀ a, (f a).length = n) : ∀ l : List α, (l.flatMap f).length = l.length * n
  | [] => by simp
  | a :: l => by rw [List.flatMap_cons, List.length_append, h a, flat_len h l, List.length_cons, Nat.succ_mul, Nat.add_comm]
theorem evAll_len {os ws : List Str} (h1 : os.length ≤ 6) (h2 : ws.length ≤ 6) : (evAll os ws).length ≤ 900 := by
  unfold evAll
  rw [flat_len (n := ws.length * 2 + 1) (fun o => by
    rw [List.length_append, flat_len (n := 2) (fun w => rfl)]
    rfl)]
  have : os.length * (ws.length * 2 + 1) ≤ 6 * 13 := Nat.mul_le_mul h1 (by omega)
  omega
theorem EnOk.end' {h : Str} {os ws : List Str} {sts : List (List (St3 × Nat))} (hE : EnOk h os ws sts) : EndOk h sts (evAll os ws) where
  hn := hE.nm.hn
  l1 := hE.l1
  l2 := hE.l2
  el := evAll_len hE.nm.o2 hE.nm.w2
  rw := fun row hr => by
    have q := hE.rw row hr
    have := q.len
    exact ⟨by omega, q.ris, fun r hm => ⟨(q.ev r hm).1.vw hE.nm, (hE.nm.on _ (q.ev r hm).1.o).2, (q.ev r hm).2, evAll_in (q.ev r hm).1⟩⟩
theorem RwOk.nd {os ws : List Str} {many : Nat} {row : List (St3 × Nat)} (h : RwOk os ws many row) : (row.map (·.1)).Nodup := by
  unfold List.Nodup
  exact h.ris.imp fun {a b} hab z => by
    subst z
    exact lt3_irrefl _ hab
end K3
set_option maxHeartbeats 200000
set_option Elab.async false
set_option linter.all false
set_option maxRecDepth 100000
set_option maxHeartbeats 4000000
namespace K3
open PySem PySem.Spec PyProof.Rows L2 DL
open PySem.W (alike alikeAll dataLt dataLe AllAlike Sortable EachIs keyToks keyToksAll lex_pre)
variable {P : Program} {w : World} {K : PySem.W.Frag} {mg : Str → Option Value} {base : Heap} {f : Addr} {fd : FuncData} {k : Nat}
def cut3 : PyData → PyData
  | .tuple ds => .tuple (DL.cutD ds none (some 3))
  | _ => .none
theorem cut3_row {r : St3 × Nat} : cut3 (rowD r) = s3D r.1 := rfl
theorem cut3s (l : List (St3 × Nat)) : (l.map rowD).map cut3 = (l.map (·.1)).map s3D := by rw [List.map_map, List.map_map]; rfl
theorem atI_in {xs : List PyData} {d : Int} (h0 : 0 ≤ d) (h1 : d < (xs.length : Int)) : ∃ z, atI xs d = some z ∧ z ∈ xs := by
  have hl : d.toNat < xs.length := by omega
  exact ⟨xs[d.toNat], by rw [atI_nn h0]; exact List.getElem?_eq_getElem hl, List.getElem_mem hl⟩
theorem kind_at {d : Int} (h0 : 0 ≤ d) (h1 : d < 2) : ∃ kd : Str, (kd = ("say" : Str) ∨ kd = ("hear" : Str)) ∧ atI [PyData.str "say", .str "hear"] d = some (.str kd) := by
  have : d = 0 ∨ d = 1 := by omega
  rcases this with rfl | rfl
  · exact ⟨_, .inl rfl, rfl⟩
  · exact ⟨_, .inr rfl, rfl⟩
abbrev nmL (l : List Str) : PyData := .list (l.map PyData.str)
def S_law_row : SpP := fun n ds Φ => ∃ (h : Str) (os ws : List Str) (many : Nat), ds = [nmL os, nmL ws, natD many] ∧ Nms h os ws ∧ 1 ≤ many ∧ many ≤ 1000 ∧ n + 1000 < 1099511627776 ∧ ∀ row m, RwOk os ws many row → row.length ≤ 4 → n ≤ m → m ≤ n + 30 → Φ (stD row) m
abbrev envR (n : Nat) (os ws : List Str) (many : Nat) (l : List (St3 × Nat)) (c5 c6 c7 c8 : Option C) : St' := ⟨n, [some .pot, some (.d (nmL os)), some (.d (nmL ws)), some (.d (natD many)), some (.own (l.map rowD)), c5, c6, c7, c8, none]⟩
theorem ok__law_row (T : Tx mg) (GT : Fn P w K mg base "_law_take" 1 ["pot", "many"] (spP K S_law_take)) (F : Fd K "_law_row" s__law_row [] [] f fd) : FnOk P w K mg base CX0 2 f fd ["pot", "others", "words", "many"] (spP K S_law_row) := by
  refine fnP F sc__law_row (fun n ds Φ h => by obtain ⟨_, _, _, _, rfl, _⟩ := h; rfl) (fun B cdv A outer s H E n ds Φ hr hp hS => ?_)
  obtain ⟨h, os, ws, many, rfl, hN, hm1, hm2, hn, hΦ⟩ := hS
  have nd := sc__law_row.nd
  have o1 := hN.o1
  have o2 := hN.o2
  have w1 := hN.w1
  have w2 := hN.w2
  refine ds_cons (ds_setO 4 (dl_lst (da_nil ⟨by decide, ?_⟩)) nd)
  refine ds_cons (ds_for [5] (pi_range1 rfl T.range pa_w) (pg_name (i := 5) nd rfl (.inl rfl)) (wi_rng1 (da_cons (de_fP (k' := 1) 0 GT hr (da_cons (de_int (da_nil ⟨5, rfl, by decide, by decide, by show n < _; omega, fun d h0 h1 => da_nil ⟨_, rfl, by omega, by omega, ?_⟩⟩)))))))
  refine ⟨fun i δ => ∃ m l c5 c6 c7 c8, δ = envR m os ws many l c5 c6 c7 c8 ∧ n ≤ m ∧ m ≤ n + 1 + 5 * i ∧ l.length ≤ i ∧ (l.map (·.1)).Nodup ∧ ∀ r ∈ l, EvOk os ws r.1 ∧ r.2 < many, ⟨n + 1, [], none, none, none, none, rfl, by omega, by omega, Nat.le_refl _, List.nodup_nil, fun r hr => (by cases hr)⟩, fun i y δ hy hI => ?_, fun δ hI => ?_⟩
  · obtain ⟨m, l, c5, c6, c7, c8, rfl, hm3, hm4, hll, hnd, hev⟩ := hI
    obtain ⟨hi, rfl⟩ := rng_get hy
    refine wg_name ?_
    refine ds_cons (ds_set 6 ?_ nd)
    refine de_ix ix_list (de_dl (dl_lst (da_cons (de_str (da_cons (de_str (da_nil ⟨by simp, de_fP (k' := 1) 0 GT hr (da_cons (de_int (da_nil ⟨2, rfl, by decide, by decide, by show m < _; omega, fun d2 g0 g1 => ?_⟩)))⟩)))))))
    obtain ⟨kd, hkd, hki⟩ := kind_at g0 g1
    refine rd_ixL hki ?_
    refine ds_cons (ds_set 7 ?_ nd)
    refine de_ix ix_list (de_nm 2 (de_fP (k' := 1) 0 GT hr (da_cons (de_callB call_len T.len boot_len (da_cons (de_nm 2 (da_nil (rc_lenL rfl (da_nil ⟨_, rfl, ?_, ?_, ?_, fun d_wd g0_wd g1_wd => ?_⟩)))))))))
    · rw [List.length_map]; omega
    · rw [List.length_map]; omega
    · show m + 1 < _; omega
    obtain ⟨z_wd, hz_wd, hzm_wd⟩ := atI_in g0_wd g1_wd
    obtain ⟨wd, h_wd, rfl⟩ := List.mem_map.mp hzm_wd
    refine rd_ixL hz_wd ?_
    have rest : ∀ (m' : Nat) (wd' : Str), m + 2 ≤ m' → m' ≤ m + 3 → EvOk os ws (kd, os.headD "", wd') ∨ (kd = ("say" : Str) ∧ wd' ∈ ws) ∨ (kd = ("hear" : Str) ∧ (wd' ∈ ws ∨ wd' = flt)) → DSs B (bodyX P w K mg base n__law_row "_law_row" (defScope s__law_row) f cdv A outer s H E) ((forB ((defBody s__law_row).getD 1 (.Pass ⟨0, 0, 0, 0⟩))).drop 3)
        (envR m' os ws many l (some (.d (.int (0 + (i : Nat))))) (some (.d (.str kd))) (some (.d (.str wd'))) c8)
        (fun δ => ∃ m l c5 c6 c7 c8, δ = envR m os ws many l c5 c6 c7 c8 ∧ n ≤ m ∧ m ≤ n + 1 + 5 * (i + 1) ∧ l.length ≤ i + 1 ∧ (l.map (·.1)).Nodup ∧ ∀ r ∈ l, EvOk os ws r.1 ∧ r.2 < many) fun x δ => Φ x δ.n := fun m' wd' hm5 hm6 hw => by
      have hw' : (kd = ("say" : Str) ∧ wd' ∈ ws) ∨ (kd = ("hear" : Str) ∧ (wd' ∈ ws ∨ wd' = flt)) := hw.elim (fun z => z.w) id
      refine ds_cons (ds_set 8 ?_ nd)
      refine de_tup (da_cons (de_nm 6 (da_cons ?_)))
      refine de_ix ix_list (de_nm 1 (de_fP (k' := 1) 0 GT hr (da_cons (de_callB call_len T.len boot_len (da_cons (de_nm 1 (da_nil (rc_lenL rfl (da_nil ⟨_, rfl, ?_, ?_, ?_, fun d_ot g0_ot g1_ot => ?_⟩)))))))))
      · rw [List.length_map]; omega
      · rw [List.length_map]; omega
      · show m' < _; omega
      obtain ⟨z_ot, hz_ot, hzm_ot⟩ := atI_in g0_ot g1_ot
      obtain ⟨ot, h_ot, rfl⟩ := List.mem_map.mp hzm_ot
      refine rd_ixL hz_ot ?_
      refine da_cons (de_nm 7 (da_cons (de_fP (k' := 1) 0 GT hr (da_cons (de_nm 3 (da_nil ⟨many, rfl, by omega, by omega, by show m' + 1 < _; omega, fun t t0 t1 => da_nil ⟨by simp, ?_⟩⟩))))))
      obtain ⟨t, rfl⟩ : ∃ t' : Nat, t = (t' : Nat) := ⟨t.toNat, by omega⟩
      have ht : t < many := by omega
      have hE : EvOk os ws ((kd, ot, wd') : St3) := ⟨h_ot, hw'⟩
      refine ds_last (ds_if (dt_peek 4 (xs := l.map rowD) (dt_cmp (op_niDt (room70 hr)) (de_upto sl_tupA (de_nm 8 (ru_slT (de_dl (dl_map [("one", 9)] nd (pi_list pe_w) (blkOk_by (N := n__law_row) (sc := defScope s__law_row) (by decide +kernel)) (fun _ _ _ _ _ => pg_name (i := 9) nd rfl (Or.inl rfl)) (wi_list (de_nm 4 ⟨l.map rowD, rfl, ?_, cut3, fun B' y hp' hy => wg_name ?_, ?_⟩))))))))))
      · rw [List.length_map]; omega
      · obtain ⟨r, hr', rfl⟩ := List.mem_map.mp hy
        intro s0 H0 C cl fp
        exact de_upto sl_tupA (de_nm 9 (ru_slT ⟨rfl, rfl⟩))
      rw [cut3s]
      refine rd_inDl (neg := true) rfl (plain3s _) (by show 1 ≤ 64; decide) ⟨_, rfl, rfl, ?_⟩
      have e0 : inDt (.tuple (DL.cutD [PyData.str kd, .str ot, .str wd', .int (t : Nat)] none (some 3))) ((l.map (·.1)).map s3D) = decide (((kd, ot, wd') : St3) ∈ l.map (·.1)) := by
        show inDt (cut3 (rowD (((kd, ot, wd') : St3), t))) _ = _
        rw [cut3_row]
        exact in3
      rw [if_pos rfl, e0]
      by_cases hin : ((kd, ot, wd') : St3) ∈ l.map (·.1)
      · rw [decide_eq_true hin]
        exact iteF (ds_nil ⟨m' + 1 + 1, l, some (.d (.int (0 + (i : Nat)))), some (.d (.str kd)), some (.d (.str wd')), some (.d (.tuple [.str kd, .str ot, .str wd', .int (t : Nat)])), rfl, by omega, by omega, by omega, hnd, hev⟩)
      · rw [decide_eq_false hin]
        refine iteT (ds_last (ds_append 4 (de_nm 8 ⟨l.map rowD, rfl, by rw [List.length_map]; omega, ?_⟩)))
        refine ⟨m' + 1 + 1, l ++ [((kd, ot, wd'), t)], some (.d (.int (0 + (i : Nat)))), some (.d (.str kd)), some (.d (.str wd')), some (.d (.tuple [.str kd, .str ot, .str wd', .int (t : Nat)])), ?_, by omega, by omega, by rw [List.length_append, List.length_singleton]; omega, ?_, fun r hr => ?_⟩
        · show (_ : St') = envR _ _ _ _ _ _ _ _ _
          unfold envR
          rw [List.map_append]
          rfl
        · rw [List.map_append]
          exact List.nodup_append.mpr ⟨hnd, by simp, fun a ha b hb z => hin (by simp at hb; rw [← hb, ← z]; exact ha)⟩
        · rcases List.mem_append.mp hr with hr | hr
          · exact hev r hr
          · cases List.mem_singleton.mp hr
            exact ⟨hE, ht⟩
    refine ds_cons (ds_if (dt_pw (dw_and (dt_cmp op_eq (de_nm 6 (de_str (rd_eqS ⟨_, rfl, ?_⟩)))))))
    by_cases e : kd = ("hear" : Str)
    · rw [decide_eq_true e]
      refine iteT (dw_and1 (dt_cmp op_eq (de_fP (k' := 1) 0 GT hr (da_cons (de_int (da_nil ⟨5, rfl, by decide, by decide, by show m + 2 < _; omega, fun d5 f0 f1 => de_int (rd_eqI ⟨_, rfl, ?_⟩)⟩))))))
      by_cases e2 : d5 = 0
      · rw [decide_eq_true e2]
        exact iteT (ds_last (ds_set 7 (de_str (rest (m + 3) flt (by omega) (by omega) (.inr (.inr ⟨e, .inr rfl⟩)))) nd))
      · rw [decide_eq_false e2]
        exact iteF (ds_nil (rest (m + 3) wd (by omega) (by omega) (.inr (.inr ⟨e, .inl h_wd⟩))))
    · rw [decide_eq_false e]
      have hs : kd = ("say" : Str) := hkd.elim id fun z => absurd z e
      exact iteF (ds_nil (rest (m + 2) wd (by omega) (by omega) (.inr (.inl ⟨hs, h_wd⟩))))
  · obtain ⟨m, l, c5, c6, c7, c8, rfl, hm3, hm4, hll, hnd, hev⟩ := hI
    rw [rng_len] at hm4 hll
    refine dss_freeze 4 ?_
    refine ds_last (ds_ret (de_callTy call_tuple_of T.tup boot_tuple (da_cons (de_dl (dl_callB (cr_sortD (room70 hr)) T.sorted boot_sorted (wl_sorted (da_cons (de_nm 4 (da_nil ⟨l.map rowD, rfl, noHs_rows l, allAlikeR l, sortableR l, by rw [List.length_map]; omega, fun d hd => ?_, da_nil (rc_tupleL rfl ?_)⟩)))))))))
    · obtain ⟨r, _, rfl⟩ := List.mem_map.mp hd
      show 1 ≤ 60
      decide
    · rw [sortD_R]
      have hl2 : (sortR l).length = l.length := (sortR_perm l).length_eq
      exact hΦ (sortR l) m ⟨by rw [hl2]; omega, sortR_rise hnd, fun r hr => hev r ((sortR_perm l).mem_iff.mp hr)⟩ (by omega) hm3 (by omega)
def S_law_end : SpP := fun n ds Φ => ∃ (h : Str) (os ws : List Str), ds = [.str h, nmL os, nmL ws] ∧ Nms h os ws ∧ n + 2000 < 1099511627776 ∧ ∀ sts m, EnOk h os ws sts → sts.length ≤ 6 → (∀ row ∈ sts, row.length ≤ 4) → n ≤ m → m ≤ n + 200 → Φ (endD h sts) m
theorem ok__law_end (T : Tx mg) (GT : Fn P w K mg base "_law_take" 1 ["pot", "many"] (spP K S_law_take)) (GR : Fn P w K mg base "_law_row" 2 ["pot", "others", "words", "many"] (spP K S_law_row)) (F : Fd K "_law_end" s__law_end [] [] f fd) : FnOk P w K mg base CX0 3 f fd ["pot", "hand", "others", "words"] (spP K S_law_end) := by
  refine fnP F sc__law_end (fun n ds Φ h => by obtain ⟨_, _, _, rfl, _⟩ := h; rfl) (fun B cdv A outer s H E n ds Φ hr hp hS => ?_)
  obtain ⟨h, os, ws, rfl, hN, hn, hΦ⟩ := hS
  have nd := sc__law_end.nd
  refine ds_cons (ds_set 4 (de_bin op_add (de_int (de_fP (k' := 2) 0 GT hr (da_cons (de_int (da_nil ⟨6, rfl, by decide, by decide, by show n < _; omega, fun d h0 h1 => rd_I0 ?_⟩)))))) nd)
  obtain ⟨many, hmany⟩ : ∃ q : Nat, 1 + d = (q : Nat) := ⟨(1 + d).toNat, by omega⟩
  rw [hmany]
  have hm1 : 1 ≤ many := by omega
  have hm6 : many ≤ 6 := by omega
  refine ds_last (ds_ret (de_tup (da_cons (de_nm 1 (da_cons (de_callTy call_tuple_of T.tup boot_tuple (da_cons (de_dl (dl_lc [("k", 5)] nd (pi_range1 rfl T.range pa_w) (blkOk_by (N := n__law_end) (sc := defScope s__law_end) (by decide +kernel)) (fun _ _ _ _ _ => pg_name (i := 5) nd rfl (Or.inl rfl)) (wi_rng1 (da_cons (de_nm 4 (da_nil ⟨_, rfl, ?_, ?_, ?_⟩)))))))))))))
  · omega
  · omega
  rw [Int.toNat_natCast]
  refine ⟨by rw [rng_len]; omega, fun i acc m => ∃ sts : List (List (St3 × Nat)), acc = sts.map stD ∧ sts.length = i ∧ (∀ row ∈ sts, RwOk os ws many row ∧ row.length ≤ 4) ∧ n + 1 ≤ m ∧ m ≤ n + 1 + 30 * i, ⟨[], rfl, rfl, (fun row hr => by cases hr), Nat.le_refl _, Nat.le_refl _⟩, fun B' i y acc m hp' hy hl hI => wg_name ?_, fun acc m hl hI => ?_⟩
  · obtain ⟨sts, rfl, hsi, hsr, hm7, hm8⟩ := hI
    have hi := (rng_get hy).1
    intro s0 H0 C cl fp
    refine de_fP (k' := 2) 0 GR hr (da_cons (de_nm 2 (da_cons (de_nm 3 (da_cons (de_nm 4 (da_nil ⟨h, os, ws, many, rfl, hN, hm1, by omega, by show m + 1000 < _; omega, fun row m' hR hr4 hm9 hm10 => ?_⟩)))))))
    have hm9 : m ≤ m' := hm9
    have hm10 : m' ≤ m + 30 := hm10
    refine ⟨sts ++ [row], by rw [List.map_append]; rfl, by rw [List.length_append, hsi]; rfl, fun r hr => ?_, by show n + 1 ≤ m'; omega, by show m' ≤ _; omega⟩
    rcases List.mem_append.mp hr with hr | hr
    · exact hsr r hr
    · cases List.mem_singleton.mp hr
      exact ⟨hR, hr4⟩
  · obtain ⟨sts, rfl, hsi, hsr, hm7, hm8⟩ := hI
    rw [rng_len] at hsi hm8
    refine da_nil (rc_tupleL rfl (da_nil ⟨by simp, ?_⟩))
    subst hsi
    exact hΦ sts m ⟨hN, hm1, by omega, fun row hr => (hsr row hr).1⟩ hm6 (fun row hr => (hsr row hr).2) (by omega) (by show m ≤ _; omega)
end K3
set_option maxHeartbeats 200000
set_option Elab.async false
set_option linter.all false
set_option maxRecDepth 100000
set_option maxHeartbeats 1000000
namespace DL
open PySem PySem.Spec PyProof.Rows L2 LamX NdefX
structure LF where
  qual : Str
  params : Arguments
  body : Expr
  scope : Scope
  cl : List (Str × Addr)
  c : Addr
abbrev LF.nf (L : LF) : NF := ⟨"<lambda>", L.qual, L.params, [], L.scope, L.cl, L.c⟩
def LamO (f : Addr) (L : LF) : HO := .ext fun h => ∃ (pm ctv : Value), h.get? f = some (PySem.W.kla_obj "<lambda>" L.qual L.params L.body L.scope L.cl pm L.c ctv)
theorem lam_ok {P : Program} {w : World} {H : Hp} {h : Heap} {f : Addr} {L : LF} {pm ctv : Value} (e : h.get? f = some (PySem.W.kla_obj "<lambda>" L.qual L.params L.body L.scope L.cl pm L.c ctv)) : ObjOk P w H h f (LamO f L) :=
  ⟨⟨pm, ctv, e⟩, ⟨_, e⟩, fun h1 h2 ⟨pm, ctv, z⟩ st => ⟨pm, ctv, st _ z⟩⟩
section
variable {CX : CXT} {P : Program} {w : World} {K : PySem.W.Frag} {mg : Str → Option Value} {base : Heap} {N fr : List Str} {L : LF} {f : Addr} {k : Nat} {A : Around} {outer : List Env} {s : Shared} {H : Hp} {ws : List (Option V)} {Q : VK} {E : XK}
theorem lam_run (S : NScope N [] fr L.scope) (hb : ∀ pm ctv, bindArgs (PySem.W.kla_fn "<lambda>" L.qual L.params L.body L.scope L.cl pm (.ref L.c) ctv) ⟨[], []⟩ = pure []) (hr : Room (k + 1) A) (e0 : Env0 P w K mg base A outer s H)
    (hf : H f = some (LamO f L)) (hc : H L.c = some (CodeO L.c L.qual)) (C : CellsAt L.cl fr ws s.heap H)
    (hbody : Room k (A.deeper (envF L.nf f s.heap.objs.size)) → ∃ te, PE (ncx CX P w K mg base N L.nf f A outer s H E) L.body te ∧ te (startF N [] ws) H Q) :
    codeAny (model P w) A (.call (.ref f) ⟨[], []⟩) (CR CX outer P w H s Q E) s := by
  have lim : s.heap.NoLimit := e0.mod.nolimit.keeps fun b o e => (e0.bs b o e).1
  obtain ⟨⟨pm, ctv, ho⟩, _, _⟩ := e0.hok f _ hf
  obtain ⟨⟨oc, vs, t, hoc, hdc, hvc⟩, _, _⟩ := e0.hok L.c _ hc
  refine PySem.W.kla_callFunE hr.depth ho rfl S.co S.gen rfl ⟨L.c, oc, vs, t, rfl, hoc, hdc, hvc⟩ ?_
  rw [hb]
  refine wpAny_pure (wpAny_newFunctionEnv S.nocell (fun y hy => absurd hy (by simp)) (fun h₁ hns hsb => ⟨lim.fresh _ hsb, ?_⟩) S.kind)
  show codeAny _ _ (.expr L.body (envF L.nf f s.heap.objs.size)) _ _
  have kp : ∀ b o, s.heap.get? b = some o → h₁.get? b = some o := fun b o e => hsb.extBut b o (Nat.ne_of_lt (Heap.lt_size e)) (Heap.get?_push_of_some _ e)
  obtain ⟨te, hp, ht⟩ := hbody (hr.deeper _)
  have J : Inv (ncx CX P w K mg base N L.nf f A outer s H E) [] (startF N [] ws) H { s with heap := h₁, toks := s.toks + ([] : List (Str × Value)).length } :=
    inv_startN (ps := []) (us := []) (vs := []) S hr.hd e0 rfl .nil C hns kp
  refine PySem.W.kla_codeExpr (wpAny_mono (hp.run [] _ _ H Q J ht) (fun v s' hq => ?_) fun e s' hq => hq)
  obtain ⟨w', H', J', rv, q⟩ := hq
  exact ⟨w', H', J'.os, J'.bare, J'.base, J'.hok, rv, q⟩
/-- what a call of it tells: of what it gives, of what it raises, of what it raises with something borne -/
abbrev SpLam := (PyData → Prop) → (Value → Prop) → (Value → List (Str × PyData) → Prop) → Prop
def ThD (P : Program) (w : World) (K : PySem.W.Frag) (mg : Str → Option Value) (base : Heap) (k : Nat) (f : Addr) (L : LF) (fr : List Str) (F0 : Hp) (ws : List (Option V)) (S : SpLam) : Prop :=
  F0 f = some (LamO f L) ∧ ∀ (A : Around) (outer : List Env) (s : Shared) (H : Hp) (Q : VK) (E : XK) (F : Hp) (Φ : PyData → Prop) (Ξ : Value → Prop) (Ξp : Value → List (Str × PyData) → Prop), A.guards = some [] → Room k A → Env0 P w K mg base A outer s H → CellsAt L.cl fr ws s.heap H → Same F0 F → Same F H → S Φ Ξ Ξp →
    (∀ v y F' H', Same F F' → Same F' H' → (∀ b, F b = none → H b ≠ none → F' b = none) → (∀ b o, H b = some o → H' b = some o) → Dq K F' v y → Φ y → Q v H') →
    (∀ cls F' H', Same F F' → Same F' H' → (∀ b, F b = none → H b ≠ none → F' b = none) → (∀ b o, H b = some o → H' b = some o) → Ξ cls → E cls none H') →
    (∀ cls dd (ns : List Str) (us : List V) (xs : List PyData) F' H', Same F F' → Same F' H' → (∀ b, F b = none → H b ≠ none → F' b = none) → (∀ b o, H b = some o → H' b = some o) → H dd = none → F' dd = none → H' dd = some (.xd (ns.zip us)) → DqAll K F' us xs → Ξp cls (ns.zip xs) → E cls (some dd) H') →
    codeAny (model P w) A (.call (.ref f) ⟨[], []⟩) (CR (L2.CX P w) outer P w H s Q E) s
theorem ThD.mono {F0 F1 : Hp} {S : SpLam} (t : ThD P w K mg base k f L fr F0 ws S) (e : Same F0 F1) : ThD P w K mg base k f L fr F1 ws S := ⟨e _ _ t.1, fun A outer s H Q E F Φ Ξ Ξp hgd hr e0 C e1 e2 => t.2 A outer s H Q E F Φ Ξ Ξp hgd hr e0 C (e.trans e1) e2⟩
def CapD (K : PySem.W.Frag) (F : Hp) (ws : List (Option V)) (wds : List (Option PyData)) : Prop := ws.length = wds.length ∧ ∀ (i : Nat) (d : PyData), wds[i]? = some (some d) → ∃ v, ws[i]? = some (some v) ∧ Dq K F v d
theorem CapD.mono {F F' : Hp} {wds : List (Option PyData)} (c : CapD K F ws wds) (e : Same F F') : CapD K F' ws wds := ⟨c.1, fun i d h => let ⟨v, h1, h2⟩ := c.2 i d h; ⟨v, h1, dp_mono e _ _ h2⟩⟩
def iniL (N : List Str) (wds : List (Option PyData)) : St' := ⟨0, wds.map (fun d => d.map C.d) ++ List.replicate (N.length - wds.length) none⟩
theorem rep_iniL {F : Hp} {wds : List (Option PyData)} (e : Same F H) (c : CapD K F ws wds) : Rep ⟨⟨F, H, none, none⟩, w, K⟩ (iniL N wds) (startF N [] ws) F H := by
  have hl := c.1
  have dat : ∀ {i : Nat} {x : C}, (iniL N wds).s[i]? = some (some x) → ∃ d, x = .d d ∧ wds[i]? = some (some d) ∧ i < wds.length := fun {i x} h => by
    have h : (wds.map (fun d => d.map C.d) ++ List.replicate (N.length - wds.length) none)[i]? = some (some x) := h
    by_cases hi : i < wds.length
    · rw [List.getElem?_append_left (by simpa using hi), List.getElem?_map, Option.map_eq_some_iff] at h
      obtain ⟨o, h1, h2⟩ := h
      cases o with
      | none => cases h2
      | some d => injection h2 with h2; exact ⟨d, h2.symm, h1, hi⟩
    · rw [List.getElem?_append_right (by simpa using hi), List.getElem?_replicate] at h
      split at h <;> cases h
  refine ⟨e, Same.refl _, fun b z _ => z, fun b o z _ => z, fun a z => (by cases z), fun i x h => ?_, ?_, fun i j x x' hij h1 h2 o1 o2 => ?_⟩
  · obtain ⟨d, rfl, hd, hi⟩ := dat h
    obtain ⟨v, h1, h2⟩ := c.2 i d hd
    refine ⟨v, ?_, h2⟩
    unfold startF
    rw [List.map_nil, List.nil_append, List.getElem?_append_left (by omega)]
    exact h1
  · simp [startF, iniL, hl]
  · obtain ⟨d, rfl, _⟩ := dat h1
    cases o1
theorem thD_of {F0 : Hp} {wds : List (Option PyData)} {Sp : SpLam} (S : NScope N [] fr L.scope) (hb : ∀ pm ctv, bindArgs (PySem.W.kla_fn "<lambda>" L.qual L.params L.body L.scope L.cl pm (.ref L.c) ctv) ⟨[], []⟩ = pure [])
    (hf : F0 f = some (LamO f L)) (hc : F0 L.c = some (CodeO L.c L.qual)) (hw : CapD K F0 ws wds)
    (body : ∀ (B : B0) (A : Around) (outer : List Env) (s : Shared) (H : Hp) (E : XK) (Φ : PyData → Prop) (Ξ : Value → Prop) (Ξp : Value → List (Str × PyData) → Prop), A.guards = some [] → Room k (A.deeper (envF L.nf f s.heap.objs.size)) → B.p = none → Same F0 B.F → Sp Φ Ξ Ξp →
      TakesD B (ncx (L2.CX P w) P w K mg base N L.nf f A outer s H E) (fun cls _ => Ξ cls) → TakesDP B (ncx (L2.CX P w) P w K mg base N L.nf f A outer s H E) (fun cls fs _ => Ξp cls fs) → DE B (ncx (L2.CX P w) P w K mg base N L.nf f A outer s H E) L.body (iniL N wds) fun y _ => Φ y) : ThD P w K mg base (k + 1) f L fr F0 ws Sp := by
  refine ⟨hf, fun A outer s H Q E F Φ Ξ Ξp hgd hr e0 C e1 e2 hS q qx qp => ?_⟩
  refine lam_run S hb hr e0 (e2 _ _ (e1 _ _ hf)) (e2 _ _ (e1 _ _ hc)) C fun hr' => ⟨_, pe_w, ?_⟩
  have tk : TakesD ⟨F, H, none, none⟩ (ncx (L2.CX P w) P w K mg base N L.nf f A outer s H E) (fun cls _ => Ξ cls) := by
    refine ⟨fun cls d _ H => E cls d H, takes_of rfl rfl rfl rfl, fun cls δ σ F2 H2 r2 z => ?_⟩
    exact qx cls F2 H2 r2.f0 r2.ex r2.fr (fun b o z => r2.kp b o z (fun y => by cases y)) z
  have tp : TakesDP ⟨F, H, none, none⟩ (ncx (L2.CX P w) P w K mg base N L.nf f A outer s H E) (fun cls fs _ => Ξp cls fs) := by
    refine ⟨fun cls d _ H => E cls d H, takes_of rfl rfl rfl rfl, fun cls dd ns us xs δ σ F2 H2 r2 h1 h2 h3 h4 z => ?_⟩
    exact qp cls dd ns us xs F2 H2 r2.f0 r2.ex r2.fr (fun b o z => r2.kp b o z (fun y => by cases y)) h1 h2 h3 h4 z
  refine body ⟨F, H, none, none⟩ A outer s H E Φ Ξ Ξp hgd hr' rfl e1 hS tk tp (startF N [] ws) F H (rep_iniL e2 (hw.mono e1)) _ fun v x δ' F2 H2 e3 r2 d2 p => ?_
  exact q v x F2 H2 e3 r2.ex r2.fr (fun b o z => r2.kp b o z (fun y => by cases y)) d2 p
end
/-- the cells that a waiting def left; no frame of the callers is among them -/
structure CellsIn (cl : List (Str × Addr)) (fr : List Str) (ws : List (Option V)) (st : List Env) (h : Heap) (H : Hp) : Prop where
  at_ : CellsAt cl fr ws h H
  nf : ∀ y c, cl.lookup y = some c → c ∉ frs st
section
variable {B : B0} {X : Cx} {δ : St'} {Φ : PE1} {p pos : Pos} {k k' : Nat} {f : Addr} {L : LF} {fr : List Str} {ws : List (Option V)} {S : SpLam} {Ξ : Value → St' → Prop} {a : Str}
/-- ask() -/
theorem de_thunkD (i : Nat) (th : ThD X.prog X.w X.K X.mg X.base k f L fr B.F ws S) (C : CellsIn L.cl fr ws X.outer X.s_0.heap X.H_0) (hex : X.ex = []) (tk : TakesD B X Ξ) (hgd : X.A.guards = some []) (hr : Room k' X.A) (hi : δ.s[i]? = some (some (.d (.dict [(.int (f : Nat), .none)]))))
    (h : S (fun y => Φ y δ) (fun cls => Ξ cls δ) fun _ _ => False) (hk : k ≤ k' := by decide) (hN : X.N[i]? = some a := by rfl) (hv : Vis X.env.scope a := by first | exact .inl rfl | exact .inr (.inl rfl))
    (hd : (a == ("__debug__" : Str)) = false := by decide) (hcd : (a == ("__classdict__" : Str)) = false := by decide) : DE B X (.Call (.Name a p) [] [] pos) δ Φ := fun σ F H r Q q pins s I => by
  obtain ⟨W, hT, hW⟩ := tk
  obtain ⟨v, hs, hc⟩ := r.cell i _ hi
  have hc : Dq X.K F v (.dict [(.int (f : Nat), .none)]) := hc
  have ev : v = .ref f := by
    cases hc
    rfl
  subst ev
  refine wpAny_Call_Name_kw (thn ((pe_var (pos := p) hN hv hd hcd).run pins s σ H (fun v H1 => v = .ref f ∧ H1 = H) I ⟨.ref f, hs, rfl, rfl⟩) fun u s1 ⟨v, H1, I1, r1, q1⟩ => ?_)
  obtain ⟨ev, eH⟩ := q1
  subst ev
  rw [eH] at I1
  obtain rfl : u = Value.ref f := r1
  have hF : F f = some (LamO f L) := r.f0 _ _ th.1
  obtain ⟨⟨pm, ctv, ho⟩, _, _⟩ := I1.hok f _ (r.ex _ _ hF)
  refine PySem.W.callWith_F0 ⟨_, _, _, _, ho⟩ ?_
  have C1 := CellsAt.later C.at_ C.nf (fun y c _ z => by rw [hex] at z; cases z) I1
  refine wpAny_call (codeAny_mono (th.2 X.A X.stack s1 H Q (L2.WE W σ) F (fun y => Φ y δ) (fun cls => Ξ cls δ) (fun _ _ => False) hgd (hr.mono hk) I1.env0 C1 r.f0 r.ex h (fun v y F' H' q1 q2 q3 q4 q5 q6 => q v y δ F' H' q1 (r.called q1 q2 q3 q4) q5 q6) (fun cls F' H' q1 q2 q3 q4 q5 => hW cls δ σ F' H' (r.called q1 q2 q3 q4) q5) fun _ _ _ _ _ _ _ _ _ _ _ _ _ _ _ z => z.elim) fun r' s' hq => ?_)
  cases r' with
  | error e => exact passAt hT σ pins H s1 e s' I1 hq
  | ok fl =>
    cases fl with
    | ret u => exact I1.after hq
    | next => exact False.elim hq
    | brk => exact False.elim hq
    | cont => exact False.elim hq
/-- .. where the refusal bears something -/
theorem de_thunkP (i : Nat) (th : ThD X.prog X.w X.K X.mg X.base k f L fr B.F ws S) (C : CellsIn L.cl fr ws X.outer X.s_0.heap X.H_0) (hex : X.ex = []) {Ξp : Value → List (Str × PyData) → St' → Prop} (tk : TakesDP B X Ξp) (hgd : X.A.guards = some []) (hr : Room k' X.A) (hi : δ.s[i]? = some (some (.d (.dict [(.int (f : Nat), .none)]))))
    (h : S (fun y => Φ y δ) (fun _ => False) fun cls fs => Ξp cls fs δ) (hk : k ≤ k' := by decide) (hN : X.N[i]? = some a := by rfl) (hv : Vis X.env.scope a := by first | exact .inl rfl | exact .inr (.inl rfl))
    (hd : (a == ("__debug__" : Str)) = false := by decide) (hcd : (a == ("__classdict__" : Str)) = false := by decide) : DE B X (.Call (.Name a p) [] [] pos) δ Φ := fun σ F H r Q q pins s I => by
  obtain ⟨W, hT, hW⟩ := tk
  obtain ⟨v, hs, hc⟩ := r.cell i _ hi
  have hc : Dq X.K F v (.dict [(.int (f : Nat), .none)]) := hc
  have ev : v = .ref f := by
    cases hc
    rfl
  subst ev
  refine wpAny_Call_Name_kw (thn ((pe_var (pos := p) hN hv hd hcd).run pins s σ H (fun v H1 => v = .ref f ∧ H1 = H) I ⟨.ref f, hs, rfl, rfl⟩) fun u s1 ⟨v, H1, I1, r1, q1⟩ => ?_)
  obtain ⟨ev, eH⟩ := q1
  subst ev
  rw [eH] at I1
  obtain rfl : u = Value.ref f := r1
  have hF : F f = some (LamO f L) := r.f0 _ _ th.1
  obtain ⟨⟨pm, ctv, ho⟩, _, _⟩ := I1.hok f _ (r.ex _ _ hF)
  refine PySem.W.callWith_F0 ⟨_, _, _, _, ho⟩ ?_
  have C1 := CellsAt.later C.at_ C.nf (fun y c _ z => by rw [hex] at z; cases z) I1
  refine wpAny_call (codeAny_mono (th.2 X.A X.stack s1 H Q (L2.WE W σ) F (fun y => Φ y δ) (fun _ => False) (fun cls fs => Ξp cls fs δ) hgd (hr.mono hk) I1.env0 C1 r.f0 r.ex h (fun v y F' H' q1 q2 q3 q4 q5 q6 => q v y δ F' H' q1 (r.called q1 q2 q3 q4) q5 q6) (fun _ _ _ _ _ _ _ z => z.elim) fun cls dd ns us xs F2 H2 q1 q2 q3 q4 q5 q6 q7 q8 q9 => let ⟨j1, _⟩ := r.fresh q5; hW cls dd ns us xs δ σ F2 H2 (r.called q1 q2 q3 q4) j1 q6 q7 q8 q9) fun r' s' hq => ?_)
  cases r' with
  | error e => exact passAt hT σ pins H s1 e s' I1 hq
  | ok fl =>
    cases fl with
    | ret u => exact I1.after hq
    | next => exact False.elim hq
    | brk => exact False.elim hq
    | cont => exact False.elim hq
end
end DL
set_option maxHeartbeats 200000
set_option Elab.async false
set_option linter.all false
set_option maxRecDepth 100000
set_option maxHeartbeats 2000000
namespace L2S
open PySem PySem.Spec PyProof.Rows L2
section
variable {X : Cx}
def AtTurn (Y : Cx) (τ : L2.St) (fp : List Addr) (tn : Nat → Heap → Prop) (W : Nat → Nat → Hp → Prop) (n : Nat) (t : Shared) : Prop :=
  ∃ i G, Inv Y [] τ G t ∧ tn i t.heap ∧ (∀ b ∈ fp, G b = none) ∧ W i n G
theorem blk_fp {s0 : Shared} {H0 : Hp} {scope : Scope} {ce : Env} {fp : List Addr} {τ : L2.St} {G : Hp} {t : Shared} (I : Inv (X.blk s0 H0 scope ce fp) [] τ G t) (hn : ∀ b ∈ fp, G b = none) : ∀ b ∈ fp, FpOk (X.blk s0 H0 scope ce fp) [] G b := fun b hb => by
  have e1 := I.ok.exf b hb
  exact ⟨hn b hb, e1.1, I.ok.exfs b hb, .inl hb, e1.2, fun q hq => absurd (show q ∈ ([] : List (Addr × Obj)) ++ [] from hq) (by simp)⟩
theorem turn_back {s0 : Shared} {H0 : Hp} {scope : Scope} {ce : Env} {fp : List Addr} {P : Program} {w : World} {K : PySem.W.Frag} {tg : Expr} {J : It} {it : Addr} {tn : Nat → Heap → Prop} (T : Turn P w K tg J fp it tn) {W : Nat → Nat → Hp → Prop} {σ ρ : L2.St} {vs : List Nat} {i n m : Nat} {G : Hp} {t t' : Shared}
    (st : tn (i + 1) t.heap) (hw : wipe ρ vs = wipe σ vs) (I : Inv (X.blk s0 H0 scope ce fp) ([] ++ pinsAt fp t.heap) ρ G t') (hm : m < n) (w' : W (i + 1) m G) : ∃ m, m < n ∧ AtTurn (X.blk s0 H0 scope ce fp) (wipe σ vs) fp tn W m t' := by
  have still : ∀ b ∈ fp, ∀ o, t.heap.get? b = some o → t'.heap.get? b = some o ∧ G b = none := fun b hb o g => by
    have := I.pin (b, o) (List.mem_append_right _ (List.mem_append_right _ (mem_pinsAt hb g)))
    exact ⟨this.1, this.2.1⟩
  refine ⟨m, hm, i + 1, G, I.unpinned.weak (by rw [← hw, wipe_length]) (fun j v e => (wipe_some (vs := vs) (by rw [hw]; exact e)).1), T.keep _ _ _ st fun b hb o g => (still b hb o g).1, fun b hb => ?_, w'⟩
  obtain ⟨o, g, _⟩ := T.obj _ _ st b hb
  exact (still b hb o g).2
/-- where a block begins -/
def Begun (X : Cx) (σ : L2.St) (t : Shared) (G : Hp) (fp : List Addr) : Prop := ∃ pins, Inv X pins σ G t ∧ ∀ b ∈ fp, FpOk X pins G b ∧ b < t.heap.objs.size
section
variable {pins : List (Addr × Obj)} {s : Shared} {σ : L2.St} {H : Hp} {Q : VK} {elt tg iter : Expr} {ifs : List Expr} {scope : Scope} {own : List (Str × Nat)} {pos fpos : Pos} {wi : TI} {g : TG} {tt : TT} {te : L2.St → TE} {use : Option (Value → Sem Unit)} {Qf : Value → Shared → Prop}
theorem lc_coreS (hc : X.calm = true) (hN : X.N.Nodup) (I : Inv X pins σ H s) (hi : PI X tg iter wi) (ok : BlkOk X.N X.env.scope scope own)
    (hg : ∀ (t : Shared) (G : Hp) (C : Addr) (cl : List (Str × Addr)) (fp : List Addr), PG (X.blk t G scope (compEnvC scope cl C X.env) fp) tg g) (ht : ∀ (t : Shared) (G : Hp) (C : Addr) (cl : List (Str × Addr)) (fp : List Addr), PTs (X.blk t G scope (compEnvC scope cl C X.env) fp) ifs tt)
    (he : ∀ (t : Shared) (G : Hp) (C : Addr) (cl : List (Str × Addr)) (fp : List Addr), Begun X σ t G fp → PE (X.blk t G scope (compEnvC scope cl C X.env) fp) elt (te σ)) (hs : ∀ x, foldedSetIterable iter X.env x = pure x) (h : tLc wi g tt (te σ) (own.map (·.2)) σ H Q)
    (out : ∀ D C t m G, Inv X pins σ G t → Q (.ref D) G → t.heap.Ns C m → FpOk X pins G C → compPost (model X.prog X.w) X.A X.xe use Qf (.ref D) C (.ok .next) t) :
    wpAny (model X.prog X.w) X.A (comprehension (.ListComp elt [⟨tg, iter, ifs, 0⟩] scope pos) scope X.env fpos (newList []) false (eval iter X.env) use) Qf X.xe s := by
  have caps : ∀ y ∈ scope.names, y.2 = .free → ∃ c, X.env.cells.lookup y.1 = some c := fun y hy e => I.ok.has _ (ok.free y hy e)
  refine wpAny_comprehension_free (use := use) rfl hs (closure_ok caps) ok.kind (fun y hy e => by rw [ok.uniq y hy, e]) (thn (hi.run pins s σ H _ I h) fun _ s1 k1 => thn k1 fun _ s2 ⟨it, fp, tn, J, H2, ev, I2, T, st2, f2, q⟩ => ?_)
  subst ev
  refine wpAny_newObj_type (newEnv_comp ?_) (by show 0 ≤ sizeLine; decide)
  obtain ⟨D, hD⟩ : ∃ D, s2.heap.objs.size = D := ⟨_, rfl⟩
  rw [hD]
  obtain ⟨W, ⟨m0, w0⟩, turn⟩ := q D (I2.hok.fresh (Nat.le_of_eq hD))
  obtain ⟨s3, e3⟩ : ∃ t, ({ s2 with heap := s2.heap.push { cls := .type "list", data := .seq ([] : List Value).toArray } } : Shared) = t := ⟨_, rfl⟩
  rw [e3]
  have hp3 : s3.heap = s2.heap.push { cls := .type "list", data := .seq ([] : List Value).toArray } := by rw [← e3]
  obtain ⟨H3, eH⟩ : ∃ G, upd H2 D (.lst []) = G := ⟨_, rfl⟩
  rw [eH] at w0
  have I3 : Inv X pins σ H3 s3 := by
    rw [← e3, ← eH]
    refine I2.laid (t' := s2.toks) (fun b o g => Heap.get?_push_of_some _ g) (Nat.le_of_eq hD) ⟨Nat.zero_le _, [], 0, .nil, ?_⟩
    rw [← hD]
    exact Heap.get?_push_size _ rfl
  have old : ∀ b ∈ fp, b < s2.heap.objs.size := fun b hb => (T.obj _ _ st2 b hb).elim fun o g => Heap.lt_size g.1
  have f3 : ∀ b ∈ fp, FpOk X pins H3 b ∧ b < s3.heap.objs.size := fun b hb => by
    refine ⟨⟨?_, (f2 b hb).2⟩, by rw [hp3, Heap.size_push]; exact Nat.lt_succ_of_lt (old b hb)⟩
    rw [← eH, upd_ne (by rw [← hD]; exact Nat.ne_of_lt (old b hb))]
    exact (f2 b hb).1
  have st3 : tn 0 s3.heap := T.keep _ _ _ st2 fun b _ o g => by rw [hp3]; exact Heap.get?_push_of_some _ g
  have I4 := block_start I3 ok hN f3
  have gr := hg s3 H3 s3.heap.objs.size (cellsFrom (s3.heap.objs.size + 1) scope.names (cloFrom X.env.cells scope.names [])) fp
  have tr := ht s3 H3 s3.heap.objs.size (cellsFrom (s3.heap.objs.size + 1) scope.names (cloFrom X.env.cells scope.names [])) fp
  have er := he s3 H3 s3.heap.objs.size (cellsFrom (s3.heap.objs.size + 1) scope.names (cloFrom X.env.cells scope.names [])) fp ⟨pins, I3, f3⟩
  show codeAny _ _ (.compStart (.ListComp elt [⟨tg, iter, ifs, 0⟩] scope pos) 0 (.ref it) (.ref D) (compEnvC scope (cellsFrom (s3.heap.objs.size + 1) scope.names (cloFrom X.env.cells scope.names [])) s3.heap.objs.size X.env)) (compPost (model X.prog X.w) X.A X.xe use Qf (.ref D) s3.heap.objs.size) { s3 with heap := pushCells (s3.heap.push { cls := .type "dict", data := .dict #[] }) scope.names }
  obtain ⟨ce, eC⟩ : ∃ e, compEnvC scope (cellsFrom (s3.heap.objs.size + 1) scope.names (cloFrom X.env.cells scope.names [])) s3.heap.objs.size X.env = e := ⟨_, rfl⟩
  rw [eC] at I4 gr tr er ⊢
  have hL : ce.locals = s3.heap.objs.size := by rw [← eC]; rfl
  obtain ⟨s4, e4⟩ : ∃ t, ({ s3 with heap := pushCells (s3.heap.push { cls := .type "dict", data := .dict #[] }) scope.names } : Shared) = t := ⟨_, rfl⟩
  rw [e4] at I4 ⊢
  have st4 : tn 0 s4.heap := T.keep _ _ _ st3 fun b _ o g => by rw [← e4]; exact pushCells_keeps _ _ _ _ (Heap.get?_push_of_some _ g)
  refine (fun loop => codeAny_compStart_list loop (T.self X.A 0 _ _ _ st4 loop)) (compLoop_any (AtTurn (X.blk s3 H3 scope ce fp) (wipe σ (own.map (·.2))) fp tn W) ?_ m0 ⟨0, H3, I4, st4, fun b hb => (f3 b hb).1.1, w0⟩)
  rintro n t ⟨i, G, J5, st5, n5, w5⟩
  have fpk := blk_fp J5 n5
  rcases turn i n G w5 with ⟨stop, qq⟩ | ⟨go, Nx, hNx, step⟩
  · refine thnF (T.done (X.blk s3 H3 scope ce fp) rfl rfl rfl hc i [] t _ G (fun _ _ => False) J5 fpk st5 stop) fun r t6 ⟨hr, J6⟩ => ?_
    subst hr
    have back : Inv X pins σ G t6 := I3.call' (ch := fp) J6.os J6.base J6.hok J6.bare fun b hb => by
      obtain ⟨_, k1, _, k3, k4, k5⟩ := (f3 b hb).1
      exact ⟨k3, k1, k4, k5⟩
    obtain ⟨m, hm, _⟩ := J6.loc
    have hm : t6.heap.Ns ce.locals m := hm
    have hf : G ce.locals = none := J6.free
    rw [hL] at hm hf
    exact out D _ t6 m G back qq hm (I3.fpOk (Nat.le_refl _) hf)
  · refine thnF (T.item (X.blk s3 H3 scope ce fp) rfl rfl rfl hc i [] t _ G (fun _ _ => False) J5 fpk st5 go) fun r t6 ⟨u, hr, k6⟩ => ?_
    subst hr
    refine thnF k6 fun _ t7 ⟨x, G7, J7, r7, y7, st7, n7⟩ => ?_
    have J7' := J7.pinned (blk_fp J7 n7) (T.obj _ _ st7)
    refine thnF (gr.run _ t7 _ G7 x u _ J7' r7 (step x G7 y7)) fun _ t8 ⟨σ8, G8, J8, hw8, q8⟩ => ?_
    refine thnF (tr.run _ t8 σ8 G8 _ J8 q8) fun b t9 ⟨G9, J9, q9⟩ => ?_
    have again : ∀ {t' : Shared} {G' : Hp}, Inv (X.blk s3 H3 scope ce fp) ([] ++ pinsAt fp t7.heap) σ8 G' t' → Nx G' → ∃ m, m < n ∧ AtTurn (X.blk s3 H3 scope ce fp) (wipe σ (own.map (·.2))) fp tn W m t' := fun {t' G'} J' nx => by
      obtain ⟨m, hm, w'⟩ := hNx G' nx
      exact turn_back T st7 hw8 J' hm w'
    cases b with
    | false =>
      simp only [Bool.false_eq_true, if_false] at q9 ⊢
      exact again J9 q9
    | true =>
      simp only [if_true] at q9 ⊢
      refine thnF (er.run _ t9 σ8 G9 _ J9 q9) fun z t10 ⟨yv, G10, J10, r10, acc, k1, k2, nx⟩ => ?_
      exact app_ok (X := X.blk s3 H3 scope ce fp) J10 k1 k2 r10 fun t11 J11 => again J11 nx
end
theorem pe_lcS {elt tg iter : Expr} {ifs : List Expr} {scope : Scope} {own : List (Str × Nat)} {pos : Pos} {wi : TI} {g : TG} {tt : TT} {te : L2.St → TE} (hc : X.calm = true) (hN : X.N.Nodup) (hi : PI X tg iter wi) (ok : BlkOk X.N X.env.scope scope own)
    (hg : ∀ (s : Shared) (H : Hp) (C : Addr) (cl : List (Str × Addr)) (fp : List Addr), PG (X.blk s H scope (compEnvC scope cl C X.env) fp) tg g) (ht : ∀ (s : Shared) (H : Hp) (C : Addr) (cl : List (Str × Addr)) (fp : List Addr), PTs (X.blk s H scope (compEnvC scope cl C X.env) fp) ifs tt)
    (he : ∀ (σ : L2.St) (s : Shared) (H : Hp) (C : Addr) (cl : List (Str × Addr)) (fp : List Addr), Begun X σ s H fp → PE (X.blk s H scope (compEnvC scope cl C X.env) fp) elt (te σ)) (hs : ∀ x, foldedSetIterable iter X.env x = pure x := by intro _; rfl) :
    PE X (.ListComp elt [⟨tg, iter, ifs, 0⟩] scope pos) (fun σ => tLc wi g tt (te σ) (own.map (·.2)) σ) := ⟨fun pins s σ H Q I h => by
  rw [eval_ListComp]
  refine lc_coreS hc hN I hi ok hg ht (he σ) hs h fun D C s' m H' I' q hn ⟨k0, k1, k2, k3, k4, k5⟩ => ⟨m, hn, fun h'' sb => ⟨.ref D, H', ?_, rfl, q⟩⟩
  exact I'.turned (t' := s'.toks) (fun b o nb g => (sb.2 b nb).trans g) k0 k1 k3 k4 k5⟩
end
end L2S
set_option maxHeartbeats 200000
set_option Elab.async false
set_option linter.all false
set_option maxRecDepth 100000
set_option maxHeartbeats 1000000
namespace DL
open PySem PySem.Spec PyProof.Rows L2 LamX NdefX
abbrev SpSt := Shared → List Env → Sp
structure FnSt (P : Program) (w : World) (K : PySem.W.Frag) (mg : Str → Option Value) (base : Heap) (k : Nat) (f : Addr) (fd : FuncData) (ps : List Str) (sp : SpSt) : Prop where
  ln : ∀ s out xs H Q E, sp s out xs H Q E → xs.length = ps.length
  go : ∀ (A : Around) (out : List Env) (s : Shared) (H : Hp) (ar : Args) (us : List Value) (xs : List V) (Q : VK) (E : XK), A.guards = some [] → Room k A → Env0 P w K mg base A out s H →
    BindsTo s fd ar (ps.zip us) → Vals xs us → sp s out xs H Q E → codeAny (model P w) A (.call (.ref f) ar) (CR CX0 out P w H s Q E) s
section
variable {P : Program} {w : World} {K : PySem.W.Frag} {mg : Str → Option Value} {base : Heap} {x qual : Str} {st : Stmt} {f : Addr} {fd : FuncData} {N ps : List Str} {k : Nat} {sp : SpSt}
theorem FnSt.of {dvs : List V} {kws : List (Str × V)} (F : FunD K x qual (defArgs st) (defBody st) (defScope st) dvs kws f fd) (sc : FnScope N ps (defScope st)) (ln : ∀ s out xs H Q E, sp s out xs H Q E → xs.length = ps.length)
    (bd : ∀ (cdv : Value) (A : Around) (out : List Env) (s : Shared) (H : Hp) (xs : List V) (Q : VK) (E : XK), A.guards = some [] → Room k (A.deeper (envOfC qual (defScope st) s.heap.objs.size f cdv)) → sp s out xs H Q E →
      ∃ t, PSs (cxOf CX0 P w K mg base N qual (defScope st) f cdv A out s H E) (defBody st) t ∧ t { nx := fun _ G => Q .non G, rt := Q } (L2.start N xs) H) : FnSt P w K mg base (k + 1) f fd ps sp := by
  obtain ⟨o1, o2, d1, d2, c1, c2, an, cdv, ct, sl, rfl, hlk, hcode, -, -⟩ := F.ex
  constructor
  · exact ln
  intro A out s H ar us xs Q E hgd rm ev hbd hv hp
  have long := ln s out xs H Q E hp
  have inK : K.In s.heap := ev.mod.kin.keeps fun a o e => (ev.bs a o e).1
  have nol : s.heap.NoLimit := ev.mod.nolimit.keeps fun a o e => (ev.bs a o e).1
  have kinds : ∀ y, y ∈ ps.zip us → (defScope st).names.lookup y.1 = some .local ∨ ((defScope st).names.lookup y.1 = some .cell ∧ ((cellsFrom (s.heap.objs.size + 1) (defScope st).names []).lookup y.1).isSome = true) := by
    intro y hy
    cases sc.par y.1 (List.of_mem_zip hy).1 with
    | inl h => exact .inl h
    | inr h => exact .inr ⟨h, PySem.W.cellsFrom_some _ _ _ (.inl h)⟩
  apply codeAny_call_function rm.depth (inK _ _ hlk) rfl sc.co sc.gen rfl (PySem.W.codeRec_of inK hcode)
  apply hbd
  apply wpAny_newFunctionEnv_cells sc.kind kinds
  intro env0 rfl s1 made
  constructor
  · exact nol.keeps made.toInCall.keep
  apply codeAny_func
  obtain ⟨t, run, now⟩ := bd cdv A out s H xs Q E hgd (rm.deeper _) hp
  have inv := inv_start (CX := CX0) (E := E) sc rm.hd ev long hv made
  refine wpAny_mono (run.run [] s1 _ H _ inv now) ?_ fun _ _ z => z
  intro fl s2 hs
  cases fl with
  | brk => obtain ⟨_, _, _, z⟩ := hs; exact z.elim
  | cont => obtain ⟨_, _, _, z⟩ := hs; exact z.elim
  | next => obtain ⟨_, H2, J, z⟩ := hs; exact ⟨.non, H2, J.os, J.bare, J.base, J.hok, rfl, z⟩
  | ret u => obtain ⟨v, _, H2, J, rv, z⟩ := hs; exact ⟨v, H2, J.os, J.bare, J.base, J.hok, rv, z⟩
end
/-- g(e) -/
def tCallSt (X : Cx) (sp : SpSt) (t : TA) : TE := fun σ H Q => t σ H fun vs H1 => ∀ pins s, Inv X pins σ H1 s → sp s X.stack vs H1 Q (fun _ _ _ => False)
section
variable {X : Cx} {k : Nat} {f : Addr} {fd : FuncData} {ps : List Str} {sp : SpSt} {x : Str} {p pos : Pos} {e : Expr} {es : List Expr} {t : TA}
theorem pe_callSt (F : FnSt X.prog X.w X.K X.mg X.base k f fd ps sp) (hgd : X.A.guards = some []) (rm : Room k X.A) (hg : Gl X x) (hm : X.mg x = some (.ref f)) (hk : PySem.W.keepIn X.K (.ref f) = true) (hb : Binds X.K fd ps [])
    (ha : PA X (e :: es) t) (hdb : (x == ("__debug__" : Str)) = false := by decide) (he : starEach (e :: es) X.env = (false, eval e X.env) :: starEach es X.env := by rfl) (hpl : (backTo pos (starEach es X.env)).any (·.1) = false := by rfl) :
    PE X (.Call (.Name x p) (e :: es) [] pos) (tCallSt X sp t) := by
  constructor
  intro pins s σ H Q inv now
  apply wpAny_Call_Name_kw (ld_glob inv hg hm ?_ hdb)
  refine PySem.W.callWith_K (h₀ := X.base) inv.ok.mod.kin hk (thn (ha.run pos pins s σ H _ inv now) ?_) he hpl
  rintro us s1 ⟨xs, H1, inv1, rv, hsp⟩
  have hsp := hsp pins s1 inv1
  have long : us.length = ps.length := rv.length.symm.trans (F.ln _ _ _ _ _ _ hsp)
  constructor
  · exact inv1.kIn
  apply wpAny_call
  refine codeAny_mono (F.go X.A X.stack s1 H1 ⟨us, []⟩ us _ Q _ hgd rm inv1.env0 (by simpa using hb s1 us inv1.kIn (by simpa using long)) rv hsp) ?_
  intro r s2 hr
  cases r with
  | error e => exact hr.elim
  | ok fl =>
    cases fl with
    | ret u => exact inv1.after hr
    | next => exact hr.elim
    | brk => exact hr.elim
    | cont => exact hr.elim
end
/-- a def that calls what it is handed: with a function that tells S it tells something of which Φ holds -/
abbrev SpAsk := SpLam → (PyData → Prop) → Prop
def spAsk (P : Program) (w : World) (K : PySem.W.Frag) (mg : Str → Option Value) (base : Heap) (km : Nat) (SG : SpAsk) : SpSt := fun s out vs H Q _ => ∃ (F : Hp) (f : Addr) (L : LF) (fr : List Str) (ws : List (Option V)) (S : SpLam) (kf : Nat) (Φ : PyData → Prop), vs = [.ref f] ∧ Same F H ∧ CellsIn L.cl fr ws out s.heap H ∧ kf ≤ km ∧
  ThD P w K mg base kf f L fr F ws S ∧ SG S Φ ∧ ∀ v y F' H', Same F F' → Same F' H' → (∀ b, F b = none → H b ≠ none → F' b = none) → (∀ b o, H b = some o → H' b = some o) → Dq K F' v y → Φ y → Q v H'
structure FnAsk (P : Program) (w : World) (K : PySem.W.Frag) (mg : Str → Option Value) (base : Heap) (x : Str) (k km : Nat) (ps : List Str) (SG : SpAsk) : Prop where
  ex : ∃ f fd, mg x = some (.ref f) ∧ PySem.W.keepIn K (.ref f) = true ∧ Binds K fd ps [] ∧ FnSt P w K mg base k f fd ps (spAsk P w K mg base km SG)
section
variable {P : Program} {w : World} {K : PySem.W.Frag} {mg : Str → Option Value} {base : Heap} {x qual : Str} {st : Stmt} {g : Addr} {fd : FuncData} {N ps : List Str} {k km : Nat}
theorem fnAsk {SG : SpAsk} {dvs : List V} {kws : List (Str × V)} (F : FunD K x qual (defArgs st) (defBody st) (defScope st) dvs kws g fd) (sc : FnScope N ps (defScope st)) (len : ps.length = 1)
    (body : ∀ (B : B0) (cdv : Value) (A : Around) (outer : List Env) (s : Shared) (H : Hp) (E : XK) (f : Addr) (L : LF) (fr : List Str) (ws : List (Option V)) (S : SpLam) (kf : Nat) (Φ : PyData → Prop), A.guards = some [] → Room k (A.deeper (envOfC qual (defScope st) s.heap.objs.size g cdv)) → B.p = none →
      CellsIn L.cl fr ws outer s.heap H → kf ≤ km → ThD P w K mg base kf f L fr B.F ws S → SG S Φ →
      DSs B (bodyX P w K mg base N qual (defScope st) g cdv A outer s H E) (defBody st) (ini N [C.d (hdD f)] 0) (fun _ => Φ .none) fun y _ => Φ y) : FnSt P w K mg base (k + 1) g fd ps (spAsk P w K mg base km SG) := by
  refine FnSt.of F sc (fun s out vs H Q E h => ?_) (fun cdv A outer s H vs Q E hgd hr h => ?_)
  · obtain ⟨F', f, L, fr, ws, S, kf, Φ, rfl, _⟩ := h
    rw [len]; rfl
  · obtain ⟨F', f, L, fr, ws, S, kf, Φ, rfl, e, C, hkf, th, hS, q⟩ := h
    refine ⟨_, PSs.nox pss_w, ?_⟩
    refine body ⟨F', H, none, none⟩ cdv A outer s H E f L fr ws S kf Φ hgd hr rfl C hkf th hS (L2.start N [.ref f]) F' H (rep_iniD (ds := [hdD f]) e (.cons (.hd f) .nil)) _ (fun δ' σ' F2 H2 e2 r2 p => ?_) fun v y δ' σ' F2 H2 e2 r2 d2 p => ?_
    · exact q .non .none F2 H2 e2 r2.ex r2.fr (fun b o z => r2.kp b o z (fun y => by cases y)) .non p
    · exact q v y F2 H2 e2 r2.ex r2.fr (fun b o z => r2.kp b o z (fun y => by cases y)) d2 p
end
section
variable {B : B0} {X : Cx} {δ : St'} {Φ : PE1} {p pos : Pos} {k k' km kf : Nat} {ps : List Str} {x : Str} {e : Expr}
theorem de_fAsk {SG : SpAsk} {f : Addr} {L : LF} {fr : List Str} {ws : List (Option V)} {S : SpLam} (G : FnAsk X.prog X.w X.K X.mg X.base x k km ps SG) (hgd : X.A.guards = some []) (hr : Room k' X.A) (C : ∀ pins σ H s, Inv X pins σ H s → CellsIn L.cl fr ws X.stack s.heap H)
    (th : ThD X.prog X.w X.K X.mg X.base kf f L fr B.F ws S) (h : DE B X e δ fun y δ1 => y = hdD f ∧ SG S fun z => Φ z δ1) (hk : k ≤ k' := by decide) (hkf : kf ≤ km := by decide)
    (hg : Gl X x := by rfl) (hdb : (x == ("__debug__" : Str)) = false := by decide) (he : starEach [e] X.env = (false, eval e X.env) :: starEach [] X.env := by rfl) (hpl : (backTo pos (starEach [] X.env)).any (·.1) = false := by rfl) :
    DE B X (.Call (.Name x p) [e] [] pos) δ Φ := by
  obtain ⟨g, fd, h1, h2, h3, h4⟩ := G.ex
  refine .of (pe_callSt h4 hgd (hr.mono hk) hg h1 h2 h3 pa_w hdb he hpl) fun σ F H r Q q => ?_
  refine (da_cons (es := []) (Φ := fun ds δ1 => ds = [hdD f] ∧ SG S fun z => Φ z δ1) (h.mono fun y δ1 z => da_nil (show [y] = [hdD f] ∧ _ from ⟨by rw [z.1], z.2⟩)) he : DA B X [e] δ _) σ F H r _ fun vs ds δ' F' H' e1 r' d ⟨hx, hS⟩ pins s I => ?_
  subst hx
  have hv : vs = [.ref f] := by
    cases d with
    | cons d1 d2 =>
      cases d2
      cases d1
      rfl
  subst hv
  exact ⟨F', f, L, fr, ws, S, kf, fun z => Φ z δ', rfl, r'.ex, C pins σ H' s I, hkf, th.mono r'.f0, hS, fun v y F2 H2 q1 q2 q3 q4 q5 q6 => q v y δ' F2 H2 (e1.trans q1) (r'.called q1 q2 q3 q4) q5 q6⟩
end
end DL
set_option maxHeartbeats 200000
set_option Elab.async false
set_option linter.all false
set_option maxRecDepth 100000
set_option maxHeartbeats 1000000
namespace DL
open PySem PySem.Spec PyProof.Rows L2 LamX NdefX
theorem cell_nf {X : Cx} {pins : List (Addr × Obj)} {σ : L2.St} {H : Hp} {s : Shared} (I : Inv X pins σ H s) (hfn : ∀ y, X.fn y = true) {y : Str} {c : Addr} (e : X.env.cells.lookup y = some c) : c ∉ frs X.stack := by
  have ho : c ∉ frs X.outer := fun z => by
    obtain ⟨_, o, h1, _⟩ := Heap.FunFrames.mem I.ok.funs z
    exact absurd (Nat.lt_of_lt_of_le (Heap.lt_size h1) (I.ok.cab y c (hfn y) e)) (Nat.lt_irrefl _)
  have hl : c ≠ X.env.locals := fun z => by
    obtain ⟨m, ⟨o, es, ep, h1, h2, _⟩, _⟩ := I.loc
    obtain ⟨v, o2, h3, h4⟩ := I.cell y c e
    rw [z, h1] at h3
    cases h3
    rw [h2] at h4
    cases h4
  rcases I.ok.stk with q | ⟨q, ef⟩
  · rw [q]; exact ho
  · rw [q]
    intro hm
    unfold frs at hm
    rw [List.filterMap_cons, ef] at hm
    rcases List.mem_cons.mp hm with hm | hm
    · exact hl hm
    · exact ho hm
def dOf (δ : St') (j : Nat) : Option PyData := match δ.s[j]? with | some (some (.d x)) => some x | _ => none
theorem dOf_some {δ : St'} {j : Nat} {x : PyData} (h : dOf δ j = some x) : δ.s[j]? = some (some (.d x)) := by
  unfold dOf at h
  split at h
  · rename_i y e
    cases h
    exact e
  · cases h
theorem rep_caps {X : Cx} {B1 : B0} {δ : St'} {σ : L2.St} {H : Hp} (r : Rep (bs X B1) δ σ B1.F H) (js : List Nat) : CapD X.K B1.F (js.map (slotAt σ)) (js.map (dOf δ)) := by
  refine ⟨by simp, fun i d h => ?_⟩
  rw [List.getElem?_map, Option.map_eq_some_iff] at h
  obtain ⟨j, h1, h2⟩ := h
  obtain ⟨v, h3, h4⟩ := r.cell j _ (dOf_some h2)
  exact ⟨v, by rw [List.getElem?_map, h1]; exact congrArg some (slotAt_of h3), h4⟩
/-- in a block of the def that waits -/
theorem begun_cells {X : Cx} {σ : L2.St} {s0 : Shared} {H0 : Hp} {fp : List Addr} {scope : Scope} {ce : Env} {cl : List (Str × Addr)} {fr : List Str} {js : List Nat} (b : L2S.Begun X σ s0 H0 fp) (cp : X.Ok → Caps X cl fr js) (hfn : ∀ y, X.fn y = true) :
    ∀ pins σ' H' s', Inv (X.blk s0 H0 scope ce fp) pins σ' H' s' → CellsIn cl fr (js.map (slotAt σ)) (X.blk s0 H0 scope ce fp).stack s'.heap H' := fun pins σ' H' s' I' => by
  obtain ⟨pins0, I, hfp⟩ := b
  have cap := cp I.ok
  have C := cells_of I cap
  refine ⟨CellsAt.later (X := X.blk s0 H0 scope ce fp) C (fun y c e => cell_nf I hfn (cap.sub y c e)) (fun y c e z => ?_) I', fun y c e => cell_nf I hfn (cap.sub y c e)⟩
  exact (hfp c z).1.2.2.2.2.1 y c (cap.sub y c e) rfl
def bES (X : Cx) (scope : Scope) (e : Expr) (σ : L2.St) : TE := fun σ' H Q => ∀ s0 H0 C cl fp, L2S.Begun X σ s0 H0 fp → wE (X.blk s0 H0 scope (compEnvC scope cl C X.env) fp) e σ' H Q
section
variable {B : B0} {X : Cx} {elt tg iter : Expr} {scope : Scope} {own : List (Str × Nat)} {δ : St'} {Φ : List PyData → St' → Prop} {pos : Pos} {wi : TI} {g : TG}
theorem dl_lcS (own : List (Str × Nat)) (hN : X.N.Nodup) (hi : PI X tg iter wi) (ok : BlkOk X.N X.env.scope scope own)
    (hg : ∀ (s : Shared) (H : Hp) (C : Addr) (cl : List (Str × Addr)) (fp : List Addr), PG (X.blk s H scope (compEnvC scope cl C X.env) fp) tg g)
    (h : ∀ (B1 : B0) (σ : L2.St) (H : Hp), Later B B1 → Rep (bs X B1) δ σ B1.F H → WI (bs X B1) wi δ fun xs δ1 => xs.length ≤ 100000 ∧ ∃ I : Nat → List PyData → Nat → Prop, I 0 [] δ1.n ∧
      (∀ (B' : B0) i y acc n, Sub B1 B' → xs[i]? = some y → acc.length ≤ i → I i acc n → WG (bs X B') g (own.map (·.2)) y ⟨n, inn (own.map (·.2)) 0 δ1.s⟩ fun δ2 =>
        ∀ s0 H0 C cl fp, L2S.Begun X σ s0 H0 fp → DE B' (X.blk s0 H0 scope (compEnvC scope cl C X.env) fp) elt δ2 fun z δ4 => I (i + 1) (acc ++ [z]) δ4.n) ∧
      ∀ acc n, acc.length ≤ xs.length → I xs.length acc n → Φ acc ⟨n, δ1.s⟩) (hc : X.calm = true := by rfl) (hs : ∀ x, foldedSetIterable iter X.env x = pure x := by intro _; rfl) : DLs B X (.ListComp elt [⟨tg, iter, [], 0⟩] scope pos) δ Φ :=
  .of (L2S.pe_lcS (te := bES X scope elt) hc hN hi ok hg (fun _ _ _ _ _ => pts_nil) (fun σ s H C cl fp b => ⟨fun pins s' σ' H' Q I h => h s H C cl fp b pins s' I⟩) hs) fun σ F H r Q q => by
    obtain ⟨u, r1⟩ := r.toLater
    have hp : ∀ a, B.p = some a → B.F a = none := fun a h => (r.pot a h).1
    refine wl_lc (B := bs X ⟨F, B.H, B.p, B.m⟩) (te := bES X scope elt σ) (vs := own.map (·.2)) (ix := own.map (·.2)) (Φ := Φ) (fun _ z => z) (fun σ2 F2 H2 r2 R qq => ?_) σ F H r1 Q fun a us xs δ' F' H' e r' => q a us xs δ' F' H' e (Rep.ofLater u hp r')
    refine h _ σ H u r1 σ2 F2 H2 r2 R fun J xs δ' F' H' e r' w ⟨hz, I, h0, h1, h2⟩ => qq J xs δ' F' H' e r' w ⟨hz, I, h0, fun B' i y acc n hp hy hl hi σ3 F3 H3 r3 v d Q3 q3 => ?_, h2⟩
    refine h1 B' i y acc n hp hy hl hi σ3 F3 H3 r3 v d Q3 fun δ4 σ4 r4 k1 k2 p => q3 δ4 σ4 r4 k1 k2 (tYes_of ?_)
    rw [if_pos rfl]
    exact fun σ5 F5 H5 r5 Q5 q5 s0 H0 C cl fp b => p s0 H0 C cl fp b σ5 F5 H5 r5 Q5 q5
end
end DL
set_option maxHeartbeats 200000
set_option Elab.async false
set_option linter.all false
set_option maxRecDepth 100000
set_option maxHeartbeats 1000000
namespace DL
open PySem PySem.Spec PyProof.Rows L2 LamX NdefX
def tblRows : List Pos → List V → List Value
  | p :: ps, .ref c :: vs => rawInt p.line :: rawInt p.col :: .ref c :: tblRows ps vs
  | _, _ => []
def mkCodes (poss : List Pos) (vs : List V) : HO := .tbl (tblRows poss vs).toArray
def lookT : List Pos → List V → Pos → Option Addr
  | p :: ps, .ref c :: vs, pos => if p.line = pos.line ∧ p.col = pos.col then some c else lookT ps vs pos
  | _, _, _ => none
def posIn (poss : List Pos) (pos : Pos) : Bool := poss.any fun p => decide (p.line = pos.line ∧ p.col = pos.col)
def addP (poss : List Pos) (pos : Pos) : List Pos := if posIn poss pos = true then poss else poss ++ [pos]
theorem rows_ok : ∀ (ps : List Pos) (vs : List V), TriplesOk (tblRows ps vs)
  | [], vs => by unfold tblRows; trivial
  | p :: ps, [] => by unfold tblRows; trivial
  | p :: ps, v :: vs => by
    cases v <;> first | (unfold tblRows; trivial; done) | exact rows_ok ps vs
theorem rows_look (pos : Pos) : ∀ (ps : List Pos) (vs : List V), codeAmong pos (tblRows ps vs) = (lookT ps vs pos).map Value.ref
  | [], vs => by unfold tblRows lookT codeAmong; rfl
  | p :: ps, [] => by unfold tblRows lookT codeAmong; rfl
  | p :: ps, v :: vs => by
    cases v <;> first | (unfold tblRows lookT codeAmong; rfl; done) | skip
    rename_i c
    have e : codeAmong pos (tblRows (p :: ps) (.ref c :: vs)) = if ((p.line : Int) == (pos.line : Int) && (p.col : Int) == (pos.col : Int)) = true then some (.ref c) else codeAmong pos (tblRows ps vs) := rfl
    rw [e]
    unfold lookT
    by_cases h : p.line = pos.line ∧ p.col = pos.col
    · rw [if_pos h, if_pos (by rw [h.1, h.2]; simp)]
      rfl
    · rw [if_neg h, if_neg (fun z => h ?_)]
      · exact rows_look pos ps vs
      · simp only [Bool.and_eq_true, beq_iff_eq] at z
        exact ⟨by omega, by omega⟩
theorem rows_snoc (pos : Pos) (c : Addr) : ∀ (ps : List Pos) (vs : List V), vs.length = ps.length → (∀ v ∈ vs, ∃ b, v = .ref b) → tblRows (ps ++ [pos]) (vs ++ [.ref c]) = tblRows ps vs ++ [rawInt pos.line, rawInt pos.col, .ref c]
  | [], [], _, _ => rfl
  | [], _ :: _, h, _ => by simp at h
  | _ :: _, [], h, _ => by simp at h
  | p :: ps, v :: vs, h, hv => by
    obtain ⟨b, rfl⟩ := hv v List.mem_cons_self
    have := rows_snoc pos c ps vs (by simpa using h) fun u hu => hv u (List.mem_cons_of_mem _ hu)
    show rawInt p.line :: rawInt p.col :: .ref b :: tblRows (ps ++ [pos]) (vs ++ [.ref c]) = _
    rw [this]
    rfl
theorem look_in (pos : Pos) : ∀ (ps : List Pos) (vs : List V), vs.length = ps.length → (∀ v ∈ vs, ∃ b, v = .ref b) → (posIn ps pos = true ∧ ∃ c, lookT ps vs pos = some c ∧ V.ref c ∈ vs) ∨ (posIn ps pos = false ∧ lookT ps vs pos = none)
  | [], [], _, _ => .inr ⟨rfl, by unfold lookT; rfl⟩
  | [], _ :: _, h, _ => by simp at h
  | _ :: _, [], h, _ => by simp at h
  | p :: ps, v :: vs, h, hv => by
    obtain ⟨b, rfl⟩ := hv v List.mem_cons_self
    have ih := look_in pos ps vs (by simpa using h) fun u hu => hv u (List.mem_cons_of_mem _ hu)
    have e1 : posIn (p :: ps) pos = (decide (p.line = pos.line ∧ p.col = pos.col) || posIn ps pos) := rfl
    rw [e1]
    unfold lookT
    by_cases q : p.line = pos.line ∧ p.col = pos.col
    · exact .inl ⟨by simp [q], b, if_pos q, List.mem_cons_self⟩
    · rw [if_neg q, decide_eq_false q, Bool.false_or]
      rcases ih with ⟨a1, c, a2, a3⟩ | ih
      · exact .inl ⟨a1, c, a2, List.mem_cons_of_mem _ a3⟩
      · exact .inr ih
section
variable {X : Cx} {pins : List (Addr × Obj)} {σ : L2.St} {H : Hp} {s : Shared}
/-- the words of the lambda that stands there, in the frame of X -/
abbrev lamL (X : Cx) (params : Arguments) (body : Expr) (scope : Scope) (c : Addr) : LF := ⟨X.env.qual ++ "<lambda>", params, body, scope, cloFrom X.env.cells scope.names [], c⟩
def tLam (X : Cx) (P : Addr) (params : Arguments) (body : Expr) (scope : Scope) (pos : Pos) : TE := fun _ H Q => ∃ poss vs, H P = some (mkCodes poss vs) ∧ vs.length = poss.length ∧ (∀ v ∈ vs, ∃ c, v = .ref c ∧ H c = some (CodeO c (X.env.qual ++ "<lambda>"))) ∧
  (posIn poss pos = true → ∀ c f, V.ref c ∈ vs → H c = some (CodeO c (X.env.qual ++ "<lambda>")) → H f = none → Q (.ref f) (upd H f (LamO f (lamL X params body scope c)))) ∧
  (posIn poss pos = false → ∀ c f, H c = none → H f = none → f ≠ c → Q (.ref f) (upd (upd (upd H P (mkCodes (poss ++ [pos]) (vs ++ [.ref c]))) c (CodeO c (X.env.qual ++ "<lambda>"))) f (LamO f (lamL X params body scope c))))
theorem inv_lamT {L : LF} {o : Obj} {t' : Nat} {pm ctv : Value} (I : Inv X pins σ H s) (ho : o = PySem.W.kla_obj "<lambda>" L.qual L.params L.body L.scope L.cl pm L.c ctv) :
    Inv X pins σ (upd H s.heap.objs.size (LamO s.heap.objs.size L)) { s with heap := s.heap.push o, toks := t' } := by
  subst ho
  exact I.laid (a := s.heap.objs.size) (fun b u e => Heap.get?_push_of_some _ e) (Nat.le_refl _) (lam_ok (pm := pm) (ctv := ctv) (Heap.get?_push_size _ rfl))
theorem pe_lam {c P : Addr} {params : Arguments} {body : Expr} {scope : Scope} {pos : Pos} (TB : TabB X.base X.mg c P) (hcode : X.env.code = .ref c) (LS : LamS X.env.scope scope) (hdef : defaultsOf params X.env = ([], []) := by rfl) :
    PE X (.Lambda params body scope pos) (tLam X P params body scope pos) := ⟨fun pins s σ H Q I ⟨poss, vs, hP, hl, hv, hit, miss⟩ => by
  have hfree := LS.has I.ok
  refine PySem.W.kla_eval hdef ?_
  have bP : s.heap.BuiltinsAt X.mg P := TB.bm.keeps I.bk
  have hP' : s.heap.get? P = some { cls := .none, data := .fields (tblRows poss vs).toArray } := I.hok P _ hP
  have hok : TriplesOk (tblRows poss vs).toArray.toList := by simpa using rows_ok poss vs
  have hlk : codeAmong pos (tblRows poss vs).toArray.toList = (lookT poss vs pos).map Value.ref := by simpa using rows_look pos poss vs
  rcases look_in pos poss vs hl (fun v h => let ⟨c, e, _⟩ := hv v h; ⟨c, e⟩) with ⟨hin, c', h1, h2⟩ | ⟨hin, h1⟩
  · rw [h1] at hlk
    obtain ⟨c2, e2, hco⟩ := hv _ h2
    injection e2 with e2
    subst e2
    refine PySem.W.kla_makeFunctionHit (mg := X.mg) (c := c) (P := P) (closure_ok hfree) I.ok.glob (I.mod.glob.keeps I.bk) hcode (TB.code.keeps I.bk) hP' hok hlk bP fun ctv h' tk hx hsz => ?_
    have I1 : Inv X pins σ H { s with heap := h', toks := tk } := I.kept hx
    have nF : H h'.objs.size = none := I1.hok.fresh (Nat.le_refl _)
    exact ⟨.ref h'.objs.size, _, inv_lamT (L := lamL X params body scope c') (t' := tk) I1 rfl, rfl, hit hin c' _ h2 hco nF⟩
  · rw [h1] at hlk
    refine PySem.W.kla_makeFunction (mg := X.mg) (c := c) (P := P) (closure_ok hfree) I.ok.glob (I.mod.glob.keeps I.bk) hcode (TB.code.keeps I.bk) hP' hok hlk TB.gP bP fun c' ctv h' tk hx hge hlt hrec htb => ?_
    obtain ⟨c2, oc, ws, t, e2, hoc, hd, hv2⟩ := hrec
    cases e2
    have nC : H c' = none := I.hok.fresh hge
    have I1 := inv_table (t' := tk) (more := #[rawInt pos.line, rawInt pos.col, .ref c']) (h' := h') I hP (fun b o hb e => hx b o hb e) htb hge ⟨oc, ws, t, hoc, hd, hv2⟩
    have nF := I1.hok.fresh (Nat.le_refl _)
    have nF0 : H h'.objs.size = none := I.hok.fresh (Nat.le_trans hge (Nat.le_of_lt hlt))
    have eT : mkCodes (poss ++ [pos]) (vs ++ [.ref c']) = .tbl ((tblRows poss vs).toArray ++ #[rawInt pos.line, rawInt pos.col, .ref c']) := by
      unfold mkCodes
      rw [rows_snoc pos c' poss vs hl fun v h => let ⟨c, e, _⟩ := hv v h; ⟨c, e⟩]
      congr 1
      apply Array.toList_inj.mp
      simp
    have := miss hin c' h'.objs.size nC nF0 (Nat.ne_of_gt hlt)
    rw [eT] at this
    exact ⟨.ref h'.objs.size, _, inv_lamT (L := lamL X params body scope c') (t' := tk) I1 rfl, rfl, this⟩⟩
end
end DL
set_option maxHeartbeats 200000
set_option Elab.async false
set_option linter.all false
set_option maxRecDepth 100000
set_option maxHeartbeats 1000000
namespace DL
open PySem PySem.Spec PyProof.Rows L2 LamX NdefX
abbrev codD (q : Str) : PyData := .dict [(.str q, .none)]
/-- the def's own table of code objects, those of the places poss -/
abbrev tabC (P : Addr) (q : Str) (poss : List Pos) : C := .gen (some P) (mkCodes poss) (poss.map fun _ => codD q)
theorem cods {K : PySem.W.Frag} {F : Hp} {q : Str} : ∀ {poss : List Pos} {vs : List V}, DqAll K F vs (poss.map fun _ => codD q) → ∀ v ∈ vs, ∃ c, v = .ref c ∧ F c = some (CodeO c q)
  | [], vs, h, v, hv => by cases h; cases hv
  | p :: ps, vs, h, v, hv => by
    cases h with
    | cons h1 h2 =>
      rcases List.mem_cons.mp hv with e | hv
      · subst e
        cases h1 with
        | cod z => exact ⟨_, rfl, z⟩
      · exact cods (poss := ps) h2 v hv
theorem put_self {δ : St'} {i : Nat} {c : C} (h : δ.s[i]? = some (some c)) : δ.put i c = δ := by
  obtain ⟨hi, e⟩ := List.getElem?_eq_some_iff.mp h
  unfold St'.put
  have : δ.s.set i (some c) = δ.s := by rw [← e]; exact List.set_getElem_self hi
  rw [this]
theorem upd_comm {H : Hp} {a b : Addr} {o u : HO} (h : a ≠ b) : upd (upd H a o) b u = upd (upd H b u) a o := by
  funext c
  by_cases e1 : c = a
  · subst e1; rw [upd_ne h, upd_same, upd_same]
  · by_cases e2 : c = b
    · subst e2; rw [upd_same, upd_ne e1, upd_same]
    · rw [upd_ne e2, upd_ne e1, upd_ne e1, upd_ne e2]
section
variable {B : B0} {X : Cx} {δ : St'} {it : Nat} {P : Addr} {q : Str} {poss : List Pos} {params : Arguments} {body : Expr} {scope : Scope} {pos : Pos}
theorem lam_step {σ : L2.St} {F H : Hp} (r : Rep (bs X B) δ σ F H) (hi : δ.s[it]? = some (some (tabC P q poss))) (hq : q = X.env.qual ++ "<lambda>") {Q : VK}
    (h : ∀ f c F' H', Same F F' → Rep (bs X B) (δ.put it (tabC P q (addP poss pos))) σ F' H' → F' f = some (LamO f (lamL X params body scope c)) → F' c = some (CodeO c q) → Q (.ref f) H') : tLam X P params body scope pos σ H Q := by
  subst hq
  obtain ⟨v, hs, a, vs, rfl, hB, hF, hH, hpa, hd⟩ := r.cell it _ hi
  obtain rfl : a = P := hpa P rfl
  have hd : DqAll X.K F vs (poss.map fun _ => codD (X.env.qual ++ "<lambda>")) := hd
  have hv := cods hd
  have hl : vs.length = poss.length := by rw [dpAll_len hd, List.length_map]
  refine ⟨poss, vs, hH, hl, fun v h => let ⟨c, e, z⟩ := hv v h; ⟨c, e, r.ex _ _ z⟩, fun hin c f hm _ hf => ?_, fun hin c f hc hf hne => ?_⟩
  · have r1 := r.new hf (LamO f (lamL X params body scope c))
    obtain ⟨c2, e2, hc⟩ := hv _ hm
    injection e2 with e2
    subst e2
    have ea : addP poss pos = poss := if_pos hin
    have hFf : F f = none := r.ex.free hf
    refine h f c _ _ (same_upd hFf) ?_ upd_same ?_
    · rw [ea, put_self hi]; exact r1
    · rw [upd_ne (ne_of_none hc hFf)]; exact hc
  · have ea : addP poss pos = poss ++ [pos] := if_neg (by rw [hin]; exact Bool.false_ne_true)
    have hFc : F c = none := r.ex.free hc
    have r1 := r.new hc (CodeO c (X.env.qual ++ "<lambda>"))
    have hPc : a ≠ c := ne_of_none hH hc
    have s1 : Same F (upd F c (CodeO c (X.env.qual ++ "<lambda>"))) := same_upd hFc
    have r2 := r1.write (o := mkCodes (poss ++ [pos]) (vs ++ [.ref c])) (c2 := tabC a (X.env.qual ++ "<lambda>") (poss ++ [pos])) hi rfl hs hB (by rw [upd_ne hPc]; exact hF) rfl ⟨a, vs ++ [.ref c], rfl, hB, by rw [upd_ne hPc]; exact hF, upd_same, fun p hp => (by injection hp), by
      rw [List.map_append]
      exact dpAll_app (dpAll_mono s1 _ _ hd) (.cons (.cod upd_same) .nil)⟩
    have hPf : a ≠ f := ne_of_none hH hf
    have hf2 : upd (upd H c (CodeO c (X.env.qual ++ "<lambda>"))) a (mkCodes (poss ++ [pos]) (vs ++ [.ref c])) f = none := by rw [upd_ne (fun z => hPf z.symm), upd_ne hne]; exact hf
    have r3 := r2.new hf2 (LamO f (lamL X params body scope c))
    have hF2 : upd F c (CodeO c (X.env.qual ++ "<lambda>")) f = none := by rw [upd_ne hne]; exact r.ex.free hf
    rw [upd_comm (H := H) hPc]
    refine h f c _ _ (s1.trans (same_upd hF2)) (by rw [ea]; exact r3) upd_same ?_
    rw [upd_ne (fun z => hne z.symm), upd_same]
end
section
variable {B : B0} {X : Cx} {δ : St'} {i it : Nat} {P cc : Addr} {q x : Str} {poss : List Pos} {params : Arguments} {body : Expr} {scope : Scope} {pos lpos pn spos apos npos p2 : Pos} {rest : List Stmt} {N : St' → Prop} {R : PE1}
/-- x = [lambda: ..] -/
theorem dss_setLam (i it : Nat) (TB : TabB X.base X.mg cc P) (hcode : X.env.code = .ref cc) (LS : LamS X.env.scope scope) (hq : q = X.env.qual ++ "<lambda>") (hN : X.N.Nodup) (hit : δ.s[it]? = some (some (tabC P q poss)))
    (h : ∀ (B1 : B0) (f c : Addr), Later B B1 → B1.F f = some (LamO f (lamL X params body scope c)) → B1.F c = some (CodeO c q) → DSs B1 X rest ((δ.put it (tabC P q (addP poss pos))).put i (.own [hdD f])) N R)
    (hi : X.N[i]? = some x := by rfl) (hx : Loc X.env.scope x := by first | exact .inl rfl | exact .inr rfl) (hf : X.fn x = true ∨ X.env.scope.names.lookup x = some .local := by first | exact .inl rfl | exact .inr rfl) (hdef : defaultsOf params X.env = ([], []) := by rfl)
    (he : starEach [.Lambda params body scope pos] X.env = (false, eval (.Lambda params body scope pos) X.env) :: starEach [] X.env := by rfl)
    (hs : swapsWithSole [.Name x pn] (.List [.Lambda params body scope pos] lpos) spos.line X.env = pure false := by rfl) (hw : swappedStores [.Name x pn] (.List [.Lambda params body scope pos] lpos) X.env = pure none := by rfl)
    (h1 : (assignEach [.Name x pn] X.env).map (·.2) = [assign (.Name x pn) X.env] := by rfl) : DSs B X (.Assign [.Name x pn] (.List [.Lambda params body scope pos] lpos) spos :: rest) δ N R :=
  .of (pss_cons (ps_asg (pe_lst (pa_cons (pe_lam TB hcode LS hdef) pa_nil he)) (pg_name hN hi hx hf) hs hw h1) pss_w) fun σ F H r D hn hr => by
    unfold tSeq tAsg tLst tCons
    refine lam_step r hit hq fun f c F' H' e r' hF hC => ⟨(by decide : 1 ≤ sizeLine), fun p hp => ?_⟩
    obtain ⟨hB, hFp, hpp, hap⟩ := r'.fresh hp
    have r2 := r'.side (o := .lst [.ref f]) hFp hB hap
    have r3 := r2.putO i (c := .own [hdD f]) hap ⟨p, [.ref f], rfl, hB, hFp, upd_same, .cons (.hd f) .nil⟩
    obtain ⟨u, r4⟩ := r3.toLater
    have hpot : ∀ a, B.p = some a → B.F a = none := fun a h => (r.pot a h).1
    exact h _ f c u hF hC _ F' _ r4 D (fun δ' σ' F2 H2 e2 r5 p => hn δ' σ' F2 H2 (e.trans e2) (Rep.ofLater u hpot r5) p) fun v y δ' σ' F2 H2 e2 r5 d5 p => hr v y δ' σ' F2 H2 (e.trans e2) (Rep.ofLater u hpot r5) d5 p
/-- x.append(lambda: ..) -/
theorem dss_appLam (i it : Nat) {xs : List PyData} (TB : TabB X.base X.mg cc P) (hcode : X.env.code = .ref cc) (LS : LamS X.env.scope scope) (hq : q = X.env.qual ++ "<lambda>") (hit : δ.s[it]? = some (some (tabC P q poss))) (hii : δ.s[i]? = some (some (.own xs))) (hne : it ≠ i) (hz : xs.length < 100000)
    (h : ∀ (B1 : B0) (f c : Addr), Later B B1 → B1.F f = some (LamO f (lamL X params body scope c)) → B1.F c = some (CodeO c q) → DSs B1 X rest ((δ.put it (tabC P q (addP poss pos))).put i (.own (xs ++ [hdD f]))) N R)
    (hN : X.N[i]? = some x := by rfl) (hv : Vis X.env.scope x := by first | exact Or.inl rfl | exact Or.inr (Or.inl rfl) | exact Or.inr (Or.inr rfl)) (hd : (x == ("__debug__" : Str)) = false := by decide)
    (hcd : (x == ("__classdict__" : Str)) = false := by decide) (hdef : defaultsOf params X.env = ([], []) := by rfl)
    (hbase : attributeBase (.Name x npos) "append" X.env (eval (.Name x npos) X.env) = eval (.Name x npos) X.env := by rfl)
    (hfew : ((backTo p2 (starEach [.Lambda params body scope pos] X.env)).all (fun x => !x.1) && (backToKw p2 (keywordEach [] X.env)).all (fun x => x.1.isSome)
      && decide ([Expr.Lambda params body scope pos].length + ([] : List Keyword).length + (if ([] : List Keyword).isEmpty then 0 else 1) < 30)) = true := by rfl)
    (hline : (apos.endLine == p2.line) = true := by rfl) (hs : starEach [.Lambda params body scope pos] X.env = (false, eval (.Lambda params body scope pos) X.env) :: starEach [] X.env := by rfl) (hplain : (backTo p2 (starEach [] X.env)).any (·.1) = false := by rfl)
    (hsw : swapsWith (.Call (.Attribute (.Name x npos) "append" apos) [.Lambda params body scope pos] [] p2) none spos.line X.env = pure false := by rfl) :
    DSs B X (.Expr (.Call (.Attribute (.Name x npos) "append" apos) [.Lambda params body scope pos] [] p2) spos :: rest) δ N R :=
  .of (pss_cons (ps_expr (pe_bm PySem.F.plainAttrs_list PySem.F.slot_list_append PySem.F.type_list_append mt_append (pe_var hN hv hd hcd) (pa_cons (pe_lam TB hcode LS hdef) pa_nil hs) hbase hfew hline hs hplain) hsw) pss_w) fun σ F H r D hn hr => by
    obtain ⟨u, hu, a, vs, rfl, hB, hF, hH, hdd⟩ := r.cell i _ hii
    refine ⟨.ref a, hu, .inl ⟨rfl, vs, .inl (.inl hH)⟩, ?_⟩
    show tLam X P params body scope pos σ H _
    refine lam_step r hit hq fun f c F' H' e r' hFf hC => ?_
    have hi' : (δ.put it (tabC P q (addP poss pos))).s[i]? = some (some (.own xs)) := by
      show (δ.s.set it _)[i]? = _
      rw [List.getElem?_set_ne hne]; exact hii
    obtain ⟨u', hu', a', vs', rfl, hB', hF', hH', hdd'⟩ := r'.cell i _ hi'
    rw [hu] at hu'
    injection hu' with hu'
    injection hu' with hu'
    injection hu' with hu'
    subst hu'
    refine ⟨a, vs', .ref f, rfl, rfl, hH', Nat.lt_of_lt_of_le (by rw [dpAll_len hdd']; exact hz) (by decide), ?_⟩
    have r3 := r'.write (c2 := .own (xs ++ [hdD f])) hi' rfl hu hB' hF' rfl ⟨a, vs' ++ [.ref f], rfl, hB', hF', upd_same, dpAll_app hdd' (.cons (.hd f) .nil)⟩
    obtain ⟨u, r4⟩ := r3.toLater
    have hpot : ∀ a, B.p = some a → B.F a = none := fun a h => (r.pot a h).1
    exact h _ f c u hFf hC σ F' _ r4 D (fun δ' σ' F2 H2 e2 r5 p => hn δ' σ' F2 H2 (e.trans e2) (Rep.ofLater u hpot r5) p) fun v y δ' σ' F2 H2 e2 r5 d5 p => hr v y δ' σ' F2 H2 (e.trans e2) (Rep.ofLater u hpot r5) d5 p
end
end DL
set_option maxHeartbeats 200000
set_option Elab.async false
set_option linter.all false
set_option maxRecDepth 100000
set_option maxHeartbeats 1000000
namespace DL
open PySem PySem.Spec PyProof.Rows L2
theorem emp_reads {X : Cx} {pins : List (Addr × Obj)} {σ : L2.St} {H : Hp} {s : Shared} {a : Addr} {o : Obj} (I : Inv X pins σ H s) (e : H a = some (.frz o (.dK []))) : ∃ as, Reads s.heap (.ref a) (.dict []) as ∧ sysModules ∉ as := by
  obtain ⟨_, _, hs, vs, rel, dd⟩ := (show ObjOk X.prog X.w H s.heap a (.frz o (.dK [])) from I.hok a _ e)
  cases rel
  obtain ⟨o2, es, ep, h1, h2, h3, _, h4, _⟩ := dd
  have h4 : es.toList = [] := by
    generalize es.toList = l at h4
    cases h4
    rfl
  refine ⟨a :: [] ++ [], .dict (kvs := []) h1 h2.1 h3 (by rw [h4]; exact .nil) (by rw [h4]; exact .nil), fun z => ?_⟩
  have z : sysModules = a := by simpa using z
  rw [← z] at hs
  exact absurd hs (by decide)
/-- what can be shown: data without dicts, or {} -/
structure Sh1 (x : PyData) : Prop where
  ok : (noH x = true ∧ x.hasDict = false) ∨ x = .dict []
  sh : x.showable = true
  sz : x.shown.length ≤ 100000
  dp : x.depth ≤ 50
section
variable {X : Cx} {pins : List (Addr × Obj)} {σ : L2.St} {H : Hp} {s : Shared}
theorem sh_reads {x : PyData} {v : V} {u : Value} (I : Inv X pins σ H s) (h : Dq X.K H v x) (r : RelV v u) (s1 : Sh1 x) : ∃ as, Reads s.heap u x as ∧ (x.hasDict = true → sysModules ∉ as) := by
  rcases s1.ok with ⟨n, nd⟩ | rfl
  · obtain ⟨as, rd⟩ := Dp.reads I x v u (dq_dp _ _ n h) r
    exact ⟨as, rd, fun z => by rw [nd] at z; cases z⟩
  · cases h with
    | emp e =>
      obtain rfl : u = Value.ref _ := r
      obtain ⟨as, rd, hs⟩ := emp_reads I e
      exact ⟨as, rd, fun _ => hs⟩
def rShow1 (K : PySem.W.Frag) : List V → Hp → VK → Prop := fun vs H Q => ∃ v x, vs = [v] ∧ Dq K H v x ∧ Sh1 x ∧ Q (.str x.shown) H
/-- repr(x) -/
theorem cr_repr1 (hgd : X.A.guards = some []) (hu : X.A.units + 70 < cLine) : CallR X (.builtin "repr") (rShow1 X.K) := by
  intro pins s σ H vs us Q I r h
  obtain ⟨v, x, rfl, hd, s1, q⟩ := h
  obtain ⟨u, rfl, ru⟩ := vals1 r
  obtain ⟨as, rd, hs⟩ := sh_reads I hd ru s1
  have hz := s1.sz
  have hdp := s1.dp
  have hz2 : x.shown.length ≤ sizeLine := by rw [sizeLine_eq]; omega
  cases rd with
  | none => exact PySem.P.repr_of_none ⟨.str _, H, I.tok _, ⟨_, rfl⟩, by simpa only [PyData.shown] using q⟩
  | bool b => exact PySem.P.repr_of_bool ⟨.str _, H, I.tok _, ⟨_, rfl⟩, by simpa only [PyData.shown] using q⟩
  | int i t => exact PySem.P.repr_of_int (by simpa [PyData.showable] using s1.sh) ⟨.str _, H, I.tok _, ⟨_, rfl⟩, by simpa only [PyData.shown] using q⟩
  | str y t => exact PySem.P.repr_of_str ⟨.str _, H, I.tok _, ⟨_, rfl⟩, by simpa only [PyData.shown] using q⟩ (by simpa only [PyData.shown] using hz2)
  | list a1 a2 a3 a4 => exact repr_of_reads' (.list a1 a2 a3 a4) s1.sh hs hgd (by omega) (fun _ _ z => z) (fun h' u tk hk => ⟨.str _, H, I.kept hk, ⟨_, rfl⟩, q⟩) hz2
  | tuple a1 a2 a3 a4 => exact repr_of_reads' (.tuple a1 a2 a3 a4) s1.sh hs hgd (by omega) (fun _ _ z => z) (fun h' u tk hk => ⟨.str _, H, I.kept hk, ⟨_, rfl⟩, q⟩) hz2
  | dict a1 a2 a3 a4 a5 => exact repr_of_reads' (.dict a1 a2 a3 a4 a5) s1.sh hs hgd (by omega) (fun _ _ z => z) (fun h' u tk hk => ⟨.str _, H, I.kept hk, ⟨_, rfl⟩, q⟩) hz2
theorem sh_K {x : PyData} {v : V} {u : Value} (I : Inv X pins σ H s) (h : Dq X.K H v x) (r : RelV v u) (s1 : Sh1 x) : ∃ as bs, Reads s.heap u x as ∧ ReadAtMost s.heap x.depth bs ∧ ReprK X.prog X.w bs s.heap x.depth u x.shown := by
  obtain ⟨as, rd, hs⟩ := sh_reads I h r s1
  have hz := s1.sz
  obtain ⟨bs, h1, h2⟩ := ReprK.of_reads (prog := X.prog) (w := X.w) rd s1.sh hs (by rw [sizeLine_eq]; omega)
  exact ⟨as, bs, rd, h1, h2⟩
def rShow2 (K : PySem.W.Frag) : List V → Hp → VK → Prop := fun vs H Q => ∃ v x y, vs = [v] ∧ Dq K H v (.tuple [x, y]) ∧ Sh1 x ∧ Sh1 y ∧ Q (.str (PyData.tuple [x, y]).shown) H
/-- repr((x, y)) -/
theorem cr_repr2 (hgd : X.A.guards = some []) (hu : X.A.units + 70 < cLine) : CallR X (.builtin "repr") (rShow2 X.K) := by
  intro pins s σ H vs us Q I r h
  obtain ⟨v, x, y, rfl, hd, s1, s2, q⟩ := h
  obtain ⟨u, rfl, ru⟩ := vals1 r
  cases hd with
  | @tup a xs ds hq ha hp =>
    obtain rfl : u = Value.ref a := ru
    obtain ⟨_, its, rv, o, h1, h2, n, h3⟩ := (show ObjOk X.prog X.w H s.heap a (.tup xs) from I.hok a _ hp)
    cases ha with
    | @cons v1 _ _ _ d1 d2 =>
      cases d2 with
      | @cons v2 _ _ _ d2 d3 =>
        cases d3
        cases rv with
        | @cons _ u1 _ _ r1 rv =>
          cases rv with
          | @cons _ u2 _ _ r2 rv =>
            cases rv
            obtain ⟨as1, bs1, rd1, b1, k1⟩ := sh_K I d1 r1 s1
            obtain ⟨as2, bs2, rd2, b2, k2⟩ := sh_K I d2 r2 s2
            have rdT : Reads s.heap (.ref a) (.tuple [x, y]) (as1 ++ (as2 ++ [])) := .tuple h1 h2 h3 (by simpa using ReadsAll.cons rd1 (ReadsAll.cons rd2 .nil))
            have e1 : x.depth ≤ PyData.depthAll [x, y] := by simp only [PyData.depthAll]; omega
            have e2 : y.depth ≤ PyData.depthAll [x, y] := by simp only [PyData.depthAll]; omega
            have hb : ReadAtMost s.heap (PyData.depthAll [x, y]) (bs1 ++ bs2) := (b1.mono e1).append (b2.mono e2)
            have hna : a ∉ bs1 ++ bs2 := not_mem_of_deeper rdT (by simp only [PyData.depth]; omega) hb
            have hK : ReprAllK X.prog X.w (bs1 ++ bs2) s.heap (PyData.depthAll [x, y]) [u1, u2] [x.shown, y.shown] :=
              .cons ((k1.more fun b hb => List.mem_append_left _ hb).level_le e1) (.cons ((k2.more fun b hb => List.mem_append_right _ hb).level_le e2) .nil)
            have z1 := s1.sz
            have z2 := s2.sz
            have p1 := s1.dp
            have p2 := s2.dp
            have hdep : PyData.depthAll [x, y] ≤ 50 := by simp only [PyData.depthAll]; omega
            have hsz : (tupleText [x.shown, y.shown]).length ≤ sizeLine := by
              have := fmt_text [x.shown, y.shown]
              rw [sizeLine_eq]
              have e : piled [x.shown, y.shown] ≤ x.shown.length + y.shown.length + 10 := by simp only [piled_cons, piled, List.map_cons, List.map_nil, List.sum_cons, List.sum_nil]; omega
              omega
            have eT : (PyData.tuple [x, y]).shown = tupleText [x.shown, y.shown] := by simp only [PyData.shown, PyData.shownAll]
            rw [eT] at q
            have hTy : s.TypeIs (.ref a) "tuple" := ⟨o, h1, h2⟩
            refine call_repr_slot (by omega) hTy F.slot_tuple_repr (call_tuple_reprK (A := X.A.in1) (g := []) h1 h2 h3 hna (by simpa using hK) hgd (fun b _ => Clear.nil b) (by show X.A.units + 1 + _ < cLine; omega) (fun _ _ z => z) (fun h' u tk hk => ⟨_, _, rfl, ⟨.str _, H, I.kept hk, ⟨_, rfl⟩, q⟩⟩) hsz)
end
section
variable {B : B0} {X : Cx} {δ : St'} {Φ : PE1} {pos p p2 : Pos} {a : Expr}
/-- {} among data -/
theorem pe_emp : PE X (.Dict [] [] pos) (fun _ H Q => ∀ a o, H a = none → Q (.ref a) (upd H a (.frz o (.dK [])))) := ⟨fun pins s σ H Q I h =>
  wpAny_Dict_empty ⟨.ref s.heap.objs.size, _, I.laid (a := s.heap.objs.size) (o := .frz { cls := .type "dict", data := .dict #[] } (.dK [])) (t' := s.toks) (fun _ _ q => Heap.get?_push_of_some _ q) (Nat.le_refl _) ⟨Heap.get?_push_size _ rfl, dk_empty s.heap I.big⟩, rfl, h _ _ (I.hok.fresh (Nat.le_refl _))⟩⟩
theorem de_emp (h : Φ (.dict []) δ) : DE B X (.Dict [] [] pos) δ Φ := .of pe_emp fun σ F H r Q q a o ha =>
  q (.ref a) (.dict []) δ _ _ (same_upd (r.ex.free ha)) (r.new ha _) (.emp upd_same) h
theorem kit_dict : ∀ T ∈ ["tuple", "str", "int", "bool"], kitB "dict" T = some false := by decide +kernel
/-- isinstance({}, T) -/
theorem de_isiE {T : String} {tn : Str} (hm : X.mg "isinstance" = none) (hmT : X.mg tn = none) (hT : T = "tuple" ∨ T = "str" ∨ T = "int" ∨ T = "bool") (hv : bootBuiltins tn = some (.type T))
    (h : DE B X a δ fun d δ' => d = .dict [] ∧ Φ (.bool false) δ') (hg : Gl X "isinstance" := by rfl) (hgT : Gl X tn := by rfl) (hn : tn ≠ "__name__" := by decide) (hdb : (tn == ("__debug__" : Str)) = false := by decide)
    (he : starEach [a, .Name tn p2] X.env = (false, eval a X.env) :: starEach [.Name tn p2] X.env := by rfl) (he2 : starEach [.Name tn p2] X.env = (false, eval (.Name tn p2) X.env) :: starEach [] X.env := by rfl) (hpl : (backTo pos (starEach [.Name tn p2] X.env)).any (·.1) = false := by rfl) :
    DE B X (.Call (.Name "isinstance" p) [a, .Name tn p2] [] pos) δ Φ :=
  .of (pe_callB call_isi hg hm (by decide +kernel) (pa_cons pe_w (pa_cons (pe_bltn (v := .ty T) hgT hmT hv rfl hn hdb) pa_nil he2) he) (by decide) (by decide) he hpl) fun σ F H r Q q => h σ F H r _ fun v d δ' F' H' e r' dd ⟨hx, p⟩ => by
    subst hx
    cases dd with
    | emp z =>
      have hm : T ∈ ["tuple", "str", "int", "bool"] := by rcases hT with rfl | rfl | rfl | rfl <;> simp
      exact ⟨_, .ty T, .type "dict", .type T, false, rfl, .ty T, .fDict (r'.ex _ _ z), kit_ty (kit_dict T hm), q _ _ δ' F' H' e r' (.bl _) p⟩
theorem rc_show1 {x : PyData} {B' : Bs} (s1 : Sh1 x) (p : Φ (.str x.shown) δ) : RC B' (rShow1 B'.K) [x] δ Φ := rc_pure (w := .str x.shown) (fun _ => .str _) (fun F H vs e hd Q q => by
  cases hd with
  | cons h1 h2 =>
    cases h2
    exact ⟨_, x, rfl, dp_mono e _ _ h1, s1, q⟩) p
theorem rc_show2 {x y : PyData} {B' : Bs} (s1 : Sh1 x) (s2 : Sh1 y) (p : Φ (.str (PyData.tuple [x, y]).shown) δ) : RC B' (rShow2 B'.K) [.tuple [x, y]] δ Φ := rc_pure (w := .str (PyData.tuple [x, y]).shown) (fun _ => .str _) (fun F H vs e hd Q q => by
  cases hd with
  | cons h1 h2 =>
    cases h2
    exact ⟨_, x, y, rfl, dp_mono e _ _ h1, s1, s2, q⟩) p
end
end DL
set_option maxHeartbeats 200000
set_option Elab.async false
set_option linter.all false
set_option maxRecDepth 100000
set_option maxHeartbeats 4000000
namespace K3
open PySem PySem.Spec PyProof.Rows L2 DL
open PySem.W (alike alikeAll dataLt dataLe AllAlike Sortable EachIs keyToks keyToksAll lex_pre)
variable {P : Program} {w : World} {K : PySem.W.Frag} {mg : Str → Option Value} {base : Heap} {f : Addr} {fd : FuncData} {k : Nat}
def nmB : PyData → Bool
  | .str s => isNmB s
  | _ => false
/-- none, a truth, a number, a text that is not long -/
def AtS (x : PyData) : Prop := atom x = true ∧ ∀ s, x = .str s → s.length ≤ 1000
def S_is_nameA : SpD := fun ds Φ => ∃ x, ds = [x] ∧ AtS x ∧ Φ (.bool (nmB x))
theorem fnOk_or {S1 S2 : SpD} {CX : CXT} {ps : List Str} (h1 : FnOk P w K mg base CX k f fd ps (spD K S1)) (h2 : FnOk P w K mg base CX k f fd ps (spD K S2)) : FnOk P w K mg base CX k f fd ps (spD K fun ds Φ => S1 ds Φ ∨ S2 ds Φ) where
  len := fun vs H Q E ⟨F, ds, Φ, e, d, hS, q⟩ => by
    rcases hS with hS | hS
    · exact h1.len vs H Q E ⟨F, ds, Φ, e, d, hS, q⟩
    · exact h2.len vs H Q E ⟨F, ds, Φ, e, d, hS, q⟩
  run := fun A outer s H args us vs Q E hr e0 hb hv ⟨F, ds, Φ, e, d, hS, q⟩ => by
    rcases hS with hS | hS
    · exact h1.run A outer s H args us vs Q E hr e0 hb hv ⟨F, ds, Φ, e, d, hS, q⟩
    · exact h2.run A outer s H args us vs Q E hr e0 hb hv ⟨F, ds, Φ, e, d, hS, q⟩
theorem fnOk_imp {S1 S2 : SpD} {CX : CXT} {ps : List Str} (h1 : FnOk P w K mg base CX k f fd ps (spD K S1)) (h : ∀ ds Φ, S2 ds Φ → S1 ds Φ) : FnOk P w K mg base CX k f fd ps (spD K S2) :=
  h1.imp fun vs H Q E ⟨F, ds, Φ, e, d, hS, q⟩ => ⟨F, ds, Φ, e, d, h _ _ hS, q⟩
def S_is_nameN : SpD := fun ds Φ => ∃ x, ds = [x] ∧ noD x = true ∧ isT "str" x = false ∧ Φ (.bool false)
theorem ok_is_nameN (T : Tx mg) (F : Fd K "is_name" s_is_name [] [] f fd) : FnOk P w K mg base CX0 1 f fd ["thing"] (spD K S_is_nameN) := by
  refine fnD F sc_is_name (fun ds Φ h => by obtain ⟨s, rfl, _⟩ := h; rfl) (fun B cdv A outer s H E ds Φ hr hp hS => ?_)
  obtain ⟨x, rfl, h1, h2, hΦ⟩ := hS
  refine ds_cons (ds_if (dt_pw (dw_or (dt_not (dt_val (de_isi T.isi T.str (.inr (.inl rfl)) boot_str (de_nm 0 ⟨h1, _, rfl, ?_⟩)))))))
  rw [h2]
  exact iteT (ds_last (ds_ret (de_bl hΦ)))
theorem ok_is_nameA (T : Tx mg) (F : Fd K "is_name" s_is_name [] [] f fd) : FnOk P w K mg base CX0 1 f fd ["thing"] (spD K S_is_nameA) :=
  fnOk_imp (fnOk_or (ok_is_name T F) (ok_is_nameN T F)) fun ds Φ h => by
    obtain ⟨x, rfl, ⟨h1, h2⟩, hΦ⟩ := h
    cases x <;> first | (cases h1; done) | exact .inr ⟨_, rfl, rfl, rfl, hΦ⟩ | exact .inl ⟨_, rfl, h2 _ rfl, hΦ⟩
structure AskA (d : PyData) : Prop where
  nd : noD d = true
  three : ∀ xs, d = .tuple xs → xs.length = 3 → ∃ a b c : PyData, xs = [a, b, c] ∧ AtS a ∧ AtS b ∧ AtS c
def evA : PyData → Bool
  | .tuple [k, o, wd] => if toV k = .str "say" then nmB o && nmB wd else decide (toV k = .str "hear") && (nmB o && (nmB wd || decide (toV wd = .str flt)))
  | _ => false
def S_is_eventA : SpD := fun ds Φ => ∃ d, ds = [d] ∧ AskA d ∧ Φ (.bool (evA d))
theorem evA_no {d : PyData} (h : ∀ xs, d = .tuple xs → xs.length ≠ 3) : evA d = false := by
  unfold evA
  split
  · exact absurd rfl (h _ rfl)
  · rfl
theorem scal_str {x : PyData} (h : atom x = true) (s : Str) : scal (toV x) (toV (.str s)) = true := by
  cases x <;> first | rfl | cases h
theorem ok_is_eventA (T : Tx mg) (GN : Fn P w K mg base "is_name" 1 ["thing"] (spD K S_is_nameA)) (F : Fd K "is_event" s_is_event [] [] f fd) : FnOk P w K mg base CX0 2 f fd ["thing"] (spD K S_is_eventA) := by
  refine fnD F sc_is_event (fun ds Φ h => by obtain ⟨_, rfl, _⟩ := h; rfl) (fun B cdv A outer s H E ds Φ hr hp hS => ?_)
  obtain ⟨d, rfl, ha, hΦ⟩ := hS
  have nd := sc_is_event.nd
  obtain ⟨t, ht⟩ := T.fault
  refine ds_cons (ds_if (dt_pw (dw_or (dt_not (dt_val (de_isi T.isi T.tup (.inl rfl) (by decide +kernel) (de_nm 0 ⟨ha.nd, _, rfl, ?_⟩)))))))
  by_cases ht3 : ∃ xs, d = .tuple xs ∧ xs.length = 3
  · obtain ⟨xs, rfl, hl⟩ := ht3
    obtain ⟨a, b, c, rfl, h1, h2, h3⟩ := ha.three xs rfl hl
    refine iteF (dw_or1 (dt_cmp op_ne (de_callB call_len T.len boot_len (da_cons (de_nm 0 (da_nil (rc_lenT rfl (de_int (rd_neI ⟨_, rfl, ?_⟩)))))))))
    refine iteF (ds_nil ?_)
    refine ds_cons (ds_unpack [1, 2, 3] (pg_three 1 2 3 nd) (de_nm 0 (wg_tup (wgs_cons (wg_name (wgs_cons (wg_name (wgs_cons (wg_name (wgs_nil ?_))))))))))
    refine ds_cons (ds_if (dt_cmp op_eq (de_nm 1 (de_str (rd_eqA h1.1 rfl (scal_str h1.1 _) ⟨_, rfl, ?_⟩)))))
    have hv : evA (.tuple [a, b, c]) = if toV a = .str "say" then nmB b && nmB c else decide (toV a = .str "hear") && (nmB b && (nmB c || decide (toV c = .str flt))) := rfl
    rw [hv] at hΦ
    by_cases e : toV a = .str ("say" : Str)
    · rw [if_pos e] at hΦ
      rw [show decide (toV a = toV (.str ("say" : Str))) = true from decide_eq_true e]
      refine iteT (ds_last (ds_ret (de_and (de_f (k' := 1) GN hr (da_cons (de_nm 2 (da_nil ⟨b, rfl, h2, _, rfl, ?_⟩)))))))
      cases g : nmB b with
      | false => rw [g] at hΦ; exact iteF hΦ
      | true => rw [g] at hΦ; exact iteT (de_one (de_f (k' := 1) GN hr (da_cons (de_nm 3 (da_nil ⟨c, rfl, h3, hΦ⟩)))))
    · rw [if_neg e] at hΦ
      rw [show decide (toV a = toV (.str ("say" : Str))) = false from decide_eq_false e]
      refine iteF (ds_nil (ds_last (ds_ret (de_and (de_cmp op_eq (de_nm 1 (de_str (rd_eqA h1.1 rfl (scal_str h1.1 _) ⟨_, rfl, ?_⟩))))))))
      by_cases e2 : toV a = .str ("hear" : Str)
      · rw [decide_eq_true e2] at hΦ
        rw [show decide (toV a = toV (.str ("hear" : Str))) = true from decide_eq_true e2]
        refine iteT (de_and (de_f (k' := 1) GN hr (da_cons (de_nm 2 (da_nil ⟨b, rfl, h2, _, rfl, ?_⟩)))))
        cases g : nmB b with
        | false => rw [g] at hΦ; exact iteF hΦ
        | true =>
          rw [g] at hΦ
          refine iteT (de_one (de_or (de_f (k' := 1) GN hr (da_cons (de_nm 3 (da_nil ⟨c, rfl, h3, _, rfl, ?_⟩))))))
          cases g2 : nmB c with
          | true => rw [g2] at hΦ; exact iteT hΦ
          | false =>
            rw [g2] at hΦ
            exact iteF (de_one (de_cmp op_eq (de_nm 3 (de_glob (v := .str flt) ht ⟨_, rfl⟩ (fun _ => .str _) (rd_eqA h3.1 rfl (scal_str h3.1 _) hΦ)))))
      · rw [decide_eq_false e2] at hΦ
        rw [show decide (toV a = toV (.str ("hear" : Str))) = false from decide_eq_false e2]
        exact iteF hΦ
  · have hno := evA_no (d := d) fun xs h1 h2 => ht3 ⟨xs, h1, h2⟩
    rw [hno] at hΦ
    cases d with
    | tuple xs =>
      refine iteF (dw_or1 (dt_cmp op_ne (de_callB call_len T.len boot_len (da_cons (de_nm 0 (da_nil (rc_lenT rfl (de_int (rd_neI ⟨_, rfl, ?_⟩)))))))))
      have : ¬ ((xs.length : Nat) : Int) = 3 := fun z => ht3 ⟨xs, rfl, by omega⟩
      rw [decide_eq_false this]
      exact iteT (ds_last (ds_ret (de_bl hΦ)))
    | _ => exact iteT (ds_last (ds_ret (de_bl hΦ)))
end K3
set_option maxHeartbeats 200000
set_option Elab.async false
set_option linter.all false
set_option maxRecDepth 100000
set_option maxHeartbeats 4000000
namespace K3
open PySem PySem.Spec PyProof.Rows L2 DL
open PySem.W (alike alikeAll dataLt dataLe AllAlike Sortable EachIs keyToks keyToksAll lex_pre)
variable {P : Program} {w : World} {K : PySem.W.Frag} {mg : Str → Option Value} {base : Heap} {f : Addr} {fd : FuncData} {k : Nat}
def vwA : PyData → Bool
  | .tuple xs => xs.all evA
  | _ => false
structure AskV (d : PyData) : Prop where
  nd : noD d = true
  ev : ∀ xs, d = .tuple xs → xs.length ≤ 100000 ∧ ∀ x ∈ xs, AskA x
def S_is_viewA : SpD := fun ds Φ => ∃ d, ds = [d] ∧ AskV d ∧ Φ (.bool (vwA d))
def S_is_viewE : SpD := fun ds Φ => ds = [.dict []] ∧ Φ (.bool false)
theorem ok_is_viewA (T : Tx mg) (GE : Fn P w K mg base "is_event" 2 ["thing"] (spD K S_is_eventA)) (F : Fd K "is_view" s_is_view [] [] f fd) : FnOk P w K mg base CX0 3 f fd ["thing"] (spD K S_is_viewA) := by
  refine fnD F sc_is_view (fun ds Φ h => by obtain ⟨_, rfl, _⟩ := h; rfl) (fun B cdv A outer s H E ds Φ hr hp hS => ?_)
  obtain ⟨d, rfl, ha, hΦ⟩ := hS
  have nd := sc_is_view.nd
  refine ds_last (ds_ret (de_and (de_isi T.isi T.tup (.inl rfl) (by decide +kernel) (de_nm 0 ⟨ha.nd, _, rfl, ?_⟩))))
  by_cases hd : ∃ xs, d = .tuple xs
  case neg =>
    cases d with
    | tuple xs => exact absurd ⟨xs, rfl⟩ hd
    | _ => exact iteF hΦ
  obtain ⟨xs, rfl⟩ := hd
  obtain ⟨hl, hev⟩ := ha.ev xs rfl
  refine iteT (de_one ?_)
  refine de_callB (cr_all rfl) T.all boot_all (da_cons (de_dl (dl_map [("event", 1)] nd (pi_tup pe_w) (blkOk_by (N := n_is_view) (sc := defScope s_is_view) (by decide +kernel)) (fun _ _ _ _ _ => pg_name (i := 1) nd rfl (Or.inl rfl))
      (wi_tup (de_nm 0 ⟨xs, rfl, hl, fun y => .bool (evA y), fun B' y hp' hy => wg_name ?_, da_nil (rc_allF (f := evA) ?_)⟩)))))
  · intro s0 H0 C cl fp
    exact de_f (k' := 2) GE hr (da_cons (de_nm 1 (da_nil ⟨y, rfl, hev y hy, rfl, rfl⟩)))
  · exact hΦ
theorem ok_is_viewE (T : Tx mg) (F : Fd K "is_view" s_is_view [] [] f fd) : FnOk P w K mg base CX0 1 f fd ["thing"] (spD K S_is_viewE) := by
  refine fnD F sc_is_view (fun ds Φ h => by obtain ⟨rfl, _⟩ := h; rfl) (fun B cdv A outer s H E ds Φ hr hp hS => ?_)
  obtain ⟨rfl, hΦ⟩ := hS
  exact ds_last (ds_ret (de_and (de_isiE T.isi T.tup (.inl rfl) (by decide +kernel) (de_nm 0 ⟨rfl, _, rfl, iteF hΦ⟩))))
/-- data or {}, where a view is due -/
def AnyV (d : PyData) : Prop := AskV d ∨ d = .dict []
def S_is_view : SpD := fun ds Φ => ∃ d, ds = [d] ∧ AnyV d ∧ Φ (.bool (vwA d))
theorem ok_is_view (T : Tx mg) (GE : Fn P w K mg base "is_event" 2 ["thing"] (spD K S_is_eventA)) (F : Fd K "is_view" s_is_view [] [] f fd) : FnOk P w K mg base CX0 3 f fd ["thing"] (spD K S_is_view) :=
  fnOk_imp (fnOk_or (ok_is_viewA T GE F) ((ok_is_viewE T F).mono (by decide))) fun ds Φ h => by
    obtain ⟨d, rfl, h | rfl, hΦ⟩ := h
    · exact .inl ⟨d, rfl, h, hΦ⟩
    · exact .inr ⟨rfl, hΦ⟩
/-- check_view: nothing, or NoView -/
def S_check_viewX (CV : Addr) : SpDX := fun ds Φ Ξ => ∃ d, ds = [d] ∧ AnyV d ∧ (vwA d = true → Φ .none) ∧ (vwA d = false → Ξ (.ref CV))
theorem ok_check_view {CV : Addr} (O : OwnX P w K mg base "NoView" CV) (G : Fn P w K mg base "is_view" 3 ["thing"] (spD K S_is_view)) (F : Fd K "check_view" s_check_view [] [] f fd) : FnOk P w K mg base (L2.CX P w) 4 f fd ["view"] (spDX K (S_check_viewX CV)) := by
  refine fnDX F sc_check_view (fun ds Φ Ξ h => by obtain ⟨_, rfl, _⟩ := h; rfl) (fun B cdv A outer s H E ds Φ Ξ hr hp hS tk => ?_)
  obtain ⟨d, rfl, ho, h1, h2⟩ := hS
  refine ds_last (ds_if (dt_not (dt_val (de_f (k' := 3) G hr (da_cons (de_nm 0 (da_nil ⟨d, rfl, ho, _, rfl, ?_⟩)))))))
  cases hv : vwA d with
  | false => exact iteT (ds_last (ds_raise O tk (hr.mono (by decide)) (h2 hv)))
  | true => exact iteF (ds_nil (h1 hv))
/-- .. that is good: nothing is refused -/
def S_check_viewG : SpD := fun ds Φ => ∃ d, ds = [d] ∧ AskV d ∧ vwA d = true ∧ Φ .none
theorem ok_check_viewG (G : Fn P w K mg base "is_view" 3 ["thing"] (spD K S_is_view)) (F : Fd K "check_view" s_check_view [] [] f fd) : FnOk P w K mg base CX0 4 f fd ["view"] (spD K S_check_viewG) := by
  refine fnD F sc_check_view (fun ds Φ h => by obtain ⟨_, rfl, _⟩ := h; rfl) (fun B cdv A outer s H E ds Φ hr hp hS => ?_)
  obtain ⟨d, rfl, ho, hv, hΦ⟩ := hS
  refine ds_last (ds_if (dt_not (dt_val (de_f (k' := 3) G hr (da_cons (de_nm 0 (da_nil ⟨d, rfl, .inl ho, _, rfl, ?_⟩)))))))
  rw [hv]
  exact iteF (ds_nil hΦ)
end K3
set_option maxHeartbeats 200000
set_option Elab.async false
set_option linter.all false
set_option maxRecDepth 100000
set_option maxHeartbeats 4000000
namespace DL
open PySem PySem.Spec PyProof.Rows L2
variable {B : B0} {X : Cx} {a : Expr} {δ : St'} {Φ : PE1} {pos : Pos}
theorem de_notT (h : DE B X a δ fun x δ' => ∃ k, truD x = some k ∧ Φ (.bool (!k)) δ') : DE B X (.UnaryOp .Not a pos) δ Φ := .of (pe_notT pe_w) fun σ F H r Q q =>
  h σ F H r _ fun v x δ' F' H' e r' d ⟨k, hk, p⟩ => by
    refine ⟨k, ?_, q _ _ δ' F' H' e r' (.bl _) p⟩
    cases d with
    | non => injection hk with hk; exact hk.symm
    | bl b => injection hk with hk; exact hk.symm
    | int i => injection hk with hk; exact hk.symm
    | str s => cases hk
    | lst hs ha => injection hk with hk; exact .inl ⟨_, r'.ex.seq hs, by rw [isEmpty_dp ha]; exact hk.symm⟩
    | tup hs ha => injection hk with hk; exact .inr (.inl ⟨_, seqT r'.ex hs, by rw [isEmpty_dp ha]; exact hk.symm⟩)
    | hd a => cases hk
    | cod z => cases hk
    | emp z => cases hk
end DL
namespace K3
open PySem PySem.Spec PyProof.Rows L2 DL PySem.XT
open PySem.W (alike alikeAll dataLt dataLe AllAlike Sortable EachIs keyToks keyToksAll lex_pre)
variable {P : Program} {w : World} {K : PySem.W.Frag} {mg : Str → Option Value} {base : Heap} {f : Addr} {fd : FuncData} {k : Nat}
def isBelowM (d : PyData) (b : Int) : Bool := match d with
  | .int i => decide (0 ≤ i) && decide (i < b)
  | _ => false
def S_is_number_below : SpD := fun ds Φ => ∃ d b, ds = [d, .int b] ∧ noD d = true ∧ Φ (.bool (isBelowM d b))
theorem ok_is_number_below (T : Tx mg) (F : Fd K "is_number_below" s_is_number_below [] [] f fd) : FnOk P w K mg base CX0 1 f fd ["thing", "bound"] (spD K S_is_number_below) := by
  refine fnD F sc_is_number_below (fun ds Φ h => by obtain ⟨d, b, rfl, _⟩ := h; rfl) (fun B cdv A outer s H E ds Φ hr hp hS => ?_)
  obtain ⟨d, b, rfl, hno, hΦ⟩ := hS
  refine ds_last (ds_ret (de_and (de_isi T.isi T.int (.inr (.inr (.inl rfl))) boot_int (de_nm 0 ⟨hno, _, rfl, ?_⟩))))
  cases d with
  | int i =>
    refine iteT (de_and (de_cmp op_isntBl1 (de_nm 0 (de_bl (rd_isBi ⟨_, rfl, iteT (de_and (de_cmp op_isntBl1 (de_nm 0 (de_bl (rd_isBi ⟨_, rfl, iteT (de_one ?_)⟩)))))⟩)))))
    refine de_chain op_le op_lt (de_int (de_nm 0 (rd_B0 ⟨_, rfl, ?_⟩)))
    have e : isBelowM (.int i) b = (decide (0 ≤ i) && decide (i < b)) := rfl
    rw [e] at hΦ
    refine ite2 (fun h => de_nm 1 (rd_B0 ?_)) (fun h => ?_)
    · rw [h] at hΦ
      exact hΦ
    · have h' : decide (0 ≤ i) = false := by simpa using h
      rw [h'] at hΦ
      exact hΦ
  | bool k =>
    have hΦ : Φ (.bool false) := hΦ
    refine iteT (de_and (de_cmp op_isntBl1 (de_nm 0 (de_bl (rd_isBb ⟨_, rfl, ?_⟩)))))
    cases k with
    | true => exact iteF hΦ
    | false =>
      refine iteT (de_and (de_cmp op_isntBl1 (de_nm 0 (de_bl (rd_isBb ⟨_, rfl, ?_⟩)))))
      exact iteF hΦ
  | _ => exact iteF hΦ
def S_is_number_belowE : SpD := fun ds Φ => ∃ b : Int, ds = [.dict [], .int b] ∧ Φ (.bool false)
theorem ok_is_number_belowE (T : Tx mg) (F : Fd K "is_number_below" s_is_number_below [] [] f fd) : FnOk P w K mg base CX0 1 f fd ["thing", "bound"] (spD K S_is_number_belowE) := by
  refine fnD F sc_is_number_below (fun ds Φ h => by obtain ⟨b, rfl, _⟩ := h; rfl) (fun B cdv A outer s H E ds Φ hr hp hS => ?_)
  obtain ⟨b, rfl, hΦ⟩ := hS
  exact ds_last (ds_ret (de_and (de_isiE T.isi T.int (.inr (.inr (.inl rfl))) boot_int (de_nm 0 ⟨rfl, _, rfl, iteF hΦ⟩))))
/-- anything, or {} -/
def AnyN (d : PyData) : Prop := noD d = true ∨ d = .dict []
def S_number_below : SpD := fun ds Φ => ∃ d b, ds = [d, .int b] ∧ AnyN d ∧ Φ (.bool (isBelowM d b))
theorem ok_number_below (T : Tx mg) (F : Fd K "is_number_below" s_is_number_below [] [] f fd) : FnOk P w K mg base CX0 1 f fd ["thing", "bound"] (spD K S_number_below) :=
  fnOk_imp (fnOk_or (ok_is_number_below T F) (ok_is_number_belowE T F)) fun ds Φ h => by
    obtain ⟨d, b, rfl, h | rfl, hΦ⟩ := h
    · exact .inl ⟨d, b, rfl, h, hΦ⟩
    · exact .inr ⟨b, rfl, hΦ⟩
def S_check_state : SpD := fun ds Φ => ∃ (h : Str) (sts : List (List (St3 × Nat))) (n : Nat), ds = [endD h sts, natD n] ∧ n < sts.length ∧ Φ .none
theorem below_nat {n m : Nat} (h : n < m) : isBelowM (natD n) (m : Int) = true := by
  show (decide ((0 : Int) ≤ (n : Int)) && decide ((n : Int) < (m : Int))) = true
  rw [decide_eq_true (by omega), decide_eq_true (by omega)]
  rfl
theorem ok_check_state (T : Tx mg) (G : Fn P w K mg base "is_number_below" 1 ["thing", "bound"] (spD K S_number_below)) (F : Fd K "check_state" s_check_state [] [] f fd) : FnOk P w K mg base CX0 2 f fd ["end", "state"] (spD K S_check_state) := by
  refine fnD F sc_check_state (fun ds Φ h => by obtain ⟨_, _, _, rfl, _⟩ := h; rfl) (fun B cdv A outer s H E ds Φ hr hp hS => ?_)
  obtain ⟨h, sts, n, rfl, hn, hΦ⟩ := hS
  refine ds_last (ds_if (dt_not (dt_val (de_f (k' := 1) G hr (da_cons (de_nm 1 (da_cons (de_callB call_len T.len boot_len (da_cons (de_ix ix_tup (de_nm 0 (de_int (rd_ixT (z := .tuple (sts.map stD)) rfl (da_nil (rc_lenT rfl (da_nil ⟨natD n, _, rfl, .inl rfl, _, rfl, ?_⟩))))))))))))))))
  rw [List.length_map, below_nat hn]
  exact iteF (ds_nil hΦ)
def S_events_in : SpD := fun ds Φ => ∃ row : List (St3 × Nat), ds = [stD row] ∧ row.length ≤ 1000 ∧ Φ (.list (row.map fun r => s3D r.1))
theorem ok_events_in (F : Fd K "events_in" s_events_in [] [] f fd) : FnOk P w K mg base CX0 1 f fd ["state"] (spD K S_events_in) := by
  refine fnD F sc_events_in (fun ds Φ h => by obtain ⟨_, rfl, _⟩ := h; rfl) (fun B cdv A outer s H E ds Φ hr hp hS => ?_)
  obtain ⟨row, rfl, hl, hΦ⟩ := hS
  have nd := sc_events_in.nd
  refine ds_last (ds_ret (de_dl (dl_map [("step", 1)] nd (pi_tup pe_w) (blkOk_by (N := n_events_in) (sc := defScope s_events_in) (by decide +kernel)) (fun _ _ _ _ _ => pg_name (i := 1) nd rfl (Or.inl rfl)) (wi_tup (de_nm 0 ⟨row.map rowD, rfl, ?_, cut3, fun B' y hp' hy => wg_name ?_, ?_⟩)))))
  · rw [List.length_map]; omega
  · obtain ⟨r, hr', rfl⟩ := List.mem_map.mp hy
    intro s0 H0 C cl fp
    exact de_upto sl_tupA (de_nm 1 (ru_slT ⟨rfl, rfl⟩))
  · rw [List.map_map]
    exact hΦ
def S_events_at : SpD := fun ds Φ => ∃ h sts es n row, ds = [endD h sts, natD n] ∧ EndOk h sts es ∧ sts[n]? = some row ∧ Φ (.tuple (row.map fun r => s3D r.1))
theorem ok_events_at (T : Tx mg) (GC : Fn P w K mg base "check_end" 6 ["end"] (spD K S_check_end)) (GS : Fn P w K mg base "check_state" 2 ["end", "state"] (spD K S_check_state)) (GE : Fn P w K mg base "events_in" 1 ["state"] (spD K S_events_in)) (F : Fd K "events_at" s_events_at [] [] f fd) : FnOk P w K mg base CX0 7 f fd ["end", "state"] (spD K S_events_at) := by
  refine fnD F sc_events_at (fun ds Φ h => by obtain ⟨_, _, _, _, _, rfl, _⟩ := h; rfl) (fun B cdv A outer s H E ds Φ hr hp hS => ?_)
  obtain ⟨h, sts, es, n, row, rfl, hE, hn, hΦ⟩ := hS
  have hlt := (List.getElem?_eq_some_iff.mp hn).1
  have hrl := (hE.rw row (List.mem_of_getElem? hn)).1
  refine ds_cons (ds_expr (de_f (k' := 6) GC hr (da_cons (de_nm 0 (da_nil ⟨h, sts, es, rfl, hE, ?_⟩)))))
  refine ds_cons (ds_expr (de_f (k' := 6) GS hr (da_cons (de_nm 0 (da_cons (de_nm 1 (da_nil ⟨h, sts, n, rfl, hlt, ?_⟩)))))))
  refine ds_last (ds_ret (de_callTy call_tuple_of T.tup boot_tuple (da_cons (de_f (k' := 6) GE hr (da_cons (de_ix ix_tup (de_ix ix_tup (de_nm 0 (de_int (rd_ixT (z := .tuple (sts.map stD)) rfl (de_nm 1 (rd_ixT (z := stD row) ?_ (da_nil ⟨row, rfl, hrl, da_nil (rc_tupleL rfl hΦ)⟩)))))))))))))
  rw [atI_nn (by omega), List.getElem?_map, Int.toNat_natCast, hn]
  rfl
def S_is_done : SpD := fun ds Φ => ∃ h sts es n row, ds = [endD h sts, natD n] ∧ EndOk h sts es ∧ sts[n]? = some row ∧ Φ (.bool row.isEmpty)
theorem ok_is_done (GC : Fn P w K mg base "check_end" 6 ["end"] (spD K S_check_end)) (GS : Fn P w K mg base "check_state" 2 ["end", "state"] (spD K S_check_state)) (F : Fd K "is_done" s_is_done [] [] f fd) : FnOk P w K mg base CX0 7 f fd ["end", "state"] (spD K S_is_done) := by
  refine fnD F sc_is_done (fun ds Φ h => by obtain ⟨_, _, _, _, _, rfl, _⟩ := h; rfl) (fun B cdv A outer s H E ds Φ hr hp hS => ?_)
  obtain ⟨h, sts, es, n, row, rfl, hE, hn, hΦ⟩ := hS
  have hlt := (List.getElem?_eq_some_iff.mp hn).1
  refine ds_cons (ds_expr (de_f (k' := 6) GC hr (da_cons (de_nm 0 (da_nil ⟨h, sts, es, rfl, hE, ?_⟩)))))
  refine ds_cons (ds_expr (de_f (k' := 6) GS hr (da_cons (de_nm 0 (da_cons (de_nm 1 (da_nil ⟨h, sts, n, rfl, hlt, ?_⟩)))))))
  refine ds_last (ds_ret (de_notT (de_ix ix_tup (de_ix ix_tup (de_nm 0 (de_int (rd_ixT (z := .tuple (sts.map stD)) rfl (de_nm 1 (rd_ixT (z := stD row) ?_ ⟨_, rfl, ?_⟩)))))))))
  · rw [atI_nn (by omega), List.getElem?_map, Int.toNat_natCast, hn]
    rfl
  · cases row with
    | nil => exact hΦ
    | cons x xs => exact hΦ
abbrev ieT : List Value := [.type "IndexError", .type "LookupError", .type "Exception", .type "BaseException", .type "object"]
theorem bt_IE : BaseT "IndexError" "IndexError.__new__" "IndexError.__init__" ieT := .of PySem.F.excBase_IndexError PySem.F.store_IndexError (by kernel_rfl)
theorem ok_NoPlace_ini (hm : mg "IndexError" = none) (vV : PySem.W.findCls K (.type "IndexError") (.type "type") "__init__" = some (.val (.builtin "IndexError.__init__"))) (F : FunD K "__init__" "NoPlace.__init__" (defArgs s_NoPlace_ini) (defBody s_NoPlace_ini) (defScope s_NoPlace_ini) [] [] f fd) :
    FnShX P w K mg base CX0 1 f fd ["self", "place"] (spKeep K ieT "IndexError.__new__" "place") := by
  refine FnShX.of F sc_NoPlace_ini (fun vs H Q E h => ?_) (fun cdv A outer s H vs Q E hgd hr h => ?_)
  · obtain ⟨F', a, C, v, y, rfl, _⟩ := h
    rfl
  · obtain ⟨F', a, C, v, y, rfl, _, hd, ht, hT, hno, ha, q⟩ := h
    have hu := room70 hr
    refine ⟨_, PSs.nox (pss_cons (ps_expr (pe_base bt_IE (by decide +kernel) (by decide +kernel) rfl hm PyProof.Rows.Boot.«IndexError» vV (pa_cons (pe_var (i := 0) rfl (.inl rfl) (by decide) (by decide))
      (pa_cons (pe_joined (.cons pe_str (.cons (pe_rep hgd hu (pe_var (i := 1) rfl (.inl rfl) (by decide) (by decide))) .nil))) pa_nil rfl) rfl)) rfl) (pss_one (ps_keep bt_IE (pe_var (i := 0) rfl (.inl rfl) (by decide) (by decide)) (pe_var (i := 1) rfl (.inl rfl) (by decide) (by decide))))), ?_⟩
    have l0 : (Str.empty).length = 0 := rfl
    refine ⟨_, rfl, "no place here: ", rfl, ?_, _, rfl, y, hd, ht, fun m hm2 => ⟨m, rfl, ?_, a, C, [_], rfl, by simp, hT, ha, _, rfl, _, rfl, a, C, rfl, hT, hno, ha, q⟩⟩
    · rw [Str.length_append, l0, sizeLine_eq]; decide
    · have l1 : ("no place here: " : Str).length = 15 := rfl
      rw [Str.length_append, Str.length_append, l0, l1, sizeLine_eq]; omega
abbrev KNP (P : Program) (w : World) (K : PySem.W.Frag) (mg : Str → Option Value) (base : Heap) (CP : Addr) : Prop := KeepX P w K mg base "NoPlace" CP "IndexError" "IndexError.__new__" "IndexError.__init__" ieT "place"
/-- no state of an end of so many; it can be told in a refusal -/
structure OddN (d : PyData) (m : Nat) : Prop where
  any : AnyN d
  no : isBelowM d (m : Int) = false
  nh : noH d = true ∨ d = .dict []
  tl : Tellable d
variable {CP : Addr}
def S_check_stateP (CP : Addr) : SpDXP := fun ds Φ Ξ => ∃ (h : Str) (sts : List (List (St3 × Nat))) (d : PyData), ds = [endD h sts, d] ∧ OddN d sts.length ∧ Ξ (.ref CP) [("place", d)]
theorem okP_check_state (T : Tx mg) (O : KNP P w K mg base CP) (G : Fn P w K mg base "is_number_below" 1 ["thing", "bound"] (spD K S_number_below)) (F : Fd K "check_state" s_check_state [] [] f fd) : FnShX P w K mg base (L2.CX P w) 3 f fd ["end", "state"] (spDXP K (S_check_stateP CP)) := by
  refine fnDXP F sc_check_state (fun ds Φ Ξ h => by obtain ⟨_, _, _, rfl, _⟩ := h; rfl) (fun B cdv A outer s H E ds Φ Ξ hgd hr hp hS tk => ?_)
  obtain ⟨h, sts, d, rfl, hd, hΞ⟩ := hS
  refine ds_last (ds_if (dt_not (dt_val (de_f (k' := 2) G hr (da_cons (de_nm 1 (da_cons (de_callB call_len T.len boot_len (da_cons (de_ix ix_tup (de_nm 0 (de_int (rd_ixT (z := .tuple (sts.map stD)) rfl (da_nil (rc_lenT rfl (da_nil ⟨d, _, rfl, hd.any, _, rfl, ?_⟩))))))))))))))))
  rw [List.length_map, hd.no]
  exact iteT (ds_last (ds_raisePE O tk hgd hr (de_nm 1 ⟨hd.nh, hd.tl, hΞ⟩)))
def S_end_stateP (CP : Addr) : SpDXP := fun ds Φ Ξ => ∃ h sts es d, ds = [endD h sts, d] ∧ EndOk h sts es ∧ OddN d sts.length ∧ Ξ (.ref CP) [("place", d)]
theorem okP_events_at (GC : Fn P w K mg base "check_end" 6 ["end"] (spD K S_check_end)) (GS : FnXP P w K mg base "check_state" 3 ["end", "state"] (spDXP K (S_check_stateP CP))) (F : Fd K "events_at" s_events_at [] [] f fd) : FnShX P w K mg base (L2.CX P w) 7 f fd ["end", "state"] (spDXP K (S_end_stateP CP)) := by
  refine fnDXP F sc_events_at (fun ds Φ Ξ h => by obtain ⟨_, _, _, _, rfl, _⟩ := h; rfl) (fun B cdv A outer s H E ds Φ Ξ hgd hr hp hS tk => ?_)
  obtain ⟨h, sts, es, d, rfl, hE, hd, hΞ⟩ := hS
  refine ds_cons (ds_expr (de_f (k' := 6) GC hr (da_cons (de_nm 0 (da_nil ⟨h, sts, es, rfl, hE, ?_⟩)))))
  exact ds_cons (ds_expr (de_fXP (k' := 6) GS tk hgd hr (da_cons (de_nm 0 (da_cons (de_nm 1 (da_nil ⟨h, sts, d, rfl, hd, hΞ⟩)))))))
theorem okP_is_done (GC : Fn P w K mg base "check_end" 6 ["end"] (spD K S_check_end)) (GS : FnXP P w K mg base "check_state" 3 ["end", "state"] (spDXP K (S_check_stateP CP))) (F : Fd K "is_done" s_is_done [] [] f fd) : FnShX P w K mg base (L2.CX P w) 7 f fd ["end", "state"] (spDXP K (S_end_stateP CP)) := by
  refine fnDXP F sc_is_done (fun ds Φ Ξ h => by obtain ⟨_, _, _, _, rfl, _⟩ := h; rfl) (fun B cdv A outer s H E ds Φ Ξ hgd hr hp hS tk => ?_)
  obtain ⟨h, sts, es, d, rfl, hE, hd, hΞ⟩ := hS
  refine ds_cons (ds_expr (de_f (k' := 6) GC hr (da_cons (de_nm 0 (da_nil ⟨h, sts, es, rfl, hE, ?_⟩)))))
  exact ds_cons (ds_expr (de_fXP (k' := 6) GS tk hgd hr (da_cons (de_nm 0 (da_cons (de_nm 1 (da_nil ⟨h, sts, d, rfl, hd, hΞ⟩)))))))
end K3
set_option maxHeartbeats 200000
set_option Elab.async false
set_option linter.all false
namespace K3
section alk
variable {α : Type}
abbrev RwA (α : Type) := List (α × Nat)
def rowA (M : List (RwA α)) (s : Nat) : RwA α := M.getD s []
def evsA (r : RwA α) : List α := r.map (·.1)
def eqn (M N : List (RwA α)) : Nat → Nat → Nat → Prop
  | 0, _, _ => True
  | n + 1, s, t => evsA (rowA M s) = evsA (rowA N t) ∧ ∀ (i : Nat) (p q : α × Nat), (rowA M s)[i]? = some p → (rowA N t)[i]? = some q → eqn M N n p.2 q.2
def Alk (M N : List (RwA α)) (s t : Nat) : Prop := ∀ n, eqn M N n s t
variable {M N O : List (RwA α)}
theorem eqn_refl : ∀ {n s : Nat}, eqn M M n s s
  | 0, _ => trivial
  | n + 1, _ => ⟨rfl, fun i p q hp hq => by rw [hp] at hq; cases hq; exact eqn_refl⟩
theorem eqn_symm : ∀ {n s t : Nat}, eqn M N n s t → eqn N M n t s
  | 0, _, _, _ => trivial
  | n + 1, _, _, h => ⟨h.1.symm, fun i p q hp hq => eqn_symm (h.2 i q p hq hp)⟩
theorem evs_get {r r' : RwA α} (h : evsA r = evsA r') {i : Nat} {p : α × Nat} (hp : r[i]? = some p) : ∃ q, r'[i]? = some q ∧ q.1 = p.1 := by
  have h1 : (evsA r)[i]? = some p.1 := by unfold evsA; rw [List.getElem?_map, hp]; rfl
  rw [h] at h1
  unfold evsA at h1
  rw [List.getElem?_map, Option.map_eq_some_iff] at h1
  obtain ⟨q, h2, h3⟩ := h1
  exact ⟨q, h2, h3⟩
theorem eqn_trans : ∀ {n s t u : Nat}, eqn M N n s t → eqn N O n t u → eqn M O n s u
  | 0, _, _, _, _, _ => trivial
  | n + 1, _, _, _, h, g => ⟨h.1.trans g.1, fun i p q hp hq => by
      obtain ⟨r, hr, _⟩ := evs_get h.1 hp
      exact eqn_trans (h.2 i p r hp hr) (g.2 i r q hr hq)⟩
theorem Alk.refl {s : Nat} : Alk M M s s := fun _ => eqn_refl
theorem Alk.symm {s t : Nat} (h : Alk M N s t) : Alk N M t s := fun n => eqn_symm (h n)
theorem Alk.trans {s t u : Nat} (h : Alk M N s t) (g : Alk N O t u) : Alk M O s u := fun n => eqn_trans (h n) (g n)
theorem Alk.next {s t : Nat} (h : Alk M N s t) {i : Nat} {p q : α × Nat} (hp : (rowA M s)[i]? = some p) (hq : (rowA N t)[i]? = some q) : Alk M N p.2 q.2 := fun n => (h (n + 1)).2 i p q hp hq
theorem rowA_get {s : Nat} {r : RwA α} (h : M[s]? = some r) : rowA M s = r := by
  unfold rowA
  rw [List.getD_eq_getElem?_getD, h]
  rfl
theorem rowA_out {s : Nat} (h : M.length ≤ s) : rowA M s = [] := by
  unfold rowA
  rw [List.getD_eq_getElem?_getD, List.getElem?_eq_none h]
  rfl
def Wfm (M : List (RwA α)) : Prop := ∀ r ∈ M, ∀ p ∈ r, p.2 < M.length
theorem Wfm.at (h : Wfm M) {s i : Nat} {p : α × Nat} (hp : (rowA M s)[i]? = some p) : p.2 < M.length := by
  by_cases c : s < M.length
  · have e : M[s]? = some M[s] := List.getElem?_eq_getElem c
    rw [rowA_get e] at hp
    exact h _ (List.getElem_mem c) p (List.mem_of_getElem? hp)
  · rw [rowA_out (by omega)] at hp
    simp at hp
end alk
end K3
set_option maxHeartbeats 200000
set_option Elab.async false
set_option linter.all false
set_option maxRecDepth 100000
set_option maxHeartbeats 4000000
namespace K3
open PySem PySem.Spec PyProof.Rows L2 DL
open PySem.W (alike alikeAll dataLt dataLe AllAlike Sortable EachIs keyToks keyToksAll lex_pre)
variable {P : Program} {w : World} {K : PySem.W.Frag} {mg : Str → Option Value} {base : Heap} {f : Addr} {fd : FuncData} {k : Nat}
abbrev stsD (sts : List (List (St3 × Nat))) : PyData := .tuple (sts.map stD)
structure StsOk (sts : List (List (St3 × Nat))) : Prop where
  len : ∀ row ∈ sts, row.length ≤ 1000
  ok : ∀ row ∈ sts, ∀ r ∈ row, OkE r.1
  nd : ∀ row ∈ sts, (row.map (·.1)).Nodup
  wf : Wfm sts
theorem StsOk.at {sts : List (List (St3 × Nat))} (h : StsOk sts) (s : Nat) : (rowA sts s).length ≤ 1000 ∧ (∀ r ∈ rowA sts s, OkE r.1) ∧ ((rowA sts s).map (·.1)).Nodup := by
  by_cases c : s < sts.length
  · have e : sts[s]? = some sts[s] := List.getElem?_eq_getElem c
    rw [rowA_get e]
    have hm := List.getElem_mem c
    exact ⟨h.len _ hm, h.ok _ hm, h.nd _ hm⟩
  · rw [rowA_out (by omega)]
    exact ⟨Nat.zero_le _, fun r hr => (by cases hr), List.nodup_nil⟩
theorem EnOk.sts {h : Str} {os ws : List Str} {sts : List (List (St3 × Nat))} (hE : EnOk h os ws sts) : StsOk sts where
  len := fun row hr => by have := (hE.rw row hr).len; omega
  ok := fun row hr r hm => (((hE.rw row hr).ev r hm).1.vw hE.nm).ok
  nd := fun row hr => (hE.rw row hr).nd
  wf := fun row hr p hp => ((hE.rw row hr).ev p hp).2
theorem row_at {sts : List (List (St3 × Nat))} {s : Nat} (hs : s < sts.length) : atI (sts.map stD) ((s : Nat) : Int) = some (stD (rowA sts s)) := by
  rw [atI_nn (by omega), Int.toNat_natCast, List.getElem?_map, List.getElem?_eq_getElem hs]
  rw [rowA_get (List.getElem?_eq_getElem hs)]
  rfl
def thenE (row : List (St3 × Nat)) (e : St3) : Option Nat := (row.find? fun r => decide (r.1 = e)).map (·.2)
def optD : Option Nat → PyData
  | none => .none
  | some n => natD n
theorem thenE_at : ∀ {row : List (St3 × Nat)} {j : Nat} {p : St3 × Nat}, (row.map (·.1)).Nodup → row[j]? = some p → thenE row p.1 = some p.2
  | [], j, p, _, h => by simp at h
  | r :: row, j, p, nd, h => by
    rw [List.map_cons, List.nodup_cons] at nd
    unfold thenE
    rw [List.find?_cons]
    cases j with
    | zero =>
      simp at h
      subst h
      rw [decide_eq_true rfl]
      rfl
    | succ j =>
      have h' : row[j]? = some p := by simpa using h
      have : ¬ r.1 = p.1 := fun z => nd.1 (List.mem_map.mpr ⟨p, List.mem_of_getElem? h', z.symm⟩)
      rw [decide_eq_false this]
      exact thenE_at nd.2 h'
def S_law_then : SpD := fun ds Φ => ∃ (sts : List (List (St3 × Nat))) (s : Nat) (e : St3), ds = [stsD sts, natD s, s3D e] ∧ s < sts.length ∧ StsOk sts ∧ OkE e ∧ Φ (optD (thenE (rowA sts s) e))
theorem ok__law_then (F : Fd K "_law_then" s__law_then [] [] f fd) : FnOk P w K mg base CX0 1 f fd ["states", "spot", "event"] (spD K S_law_then) := by
  refine fnD F sc__law_then (fun ds Φ h => by obtain ⟨_, _, _, rfl, _⟩ := h; rfl) (fun B cdv A outer s0 H E ds Φ hr hp hS => ?_)
  obtain ⟨sts, s, e, rfl, hs, hok, he, hΦ⟩ := hS
  have nd := sc__law_then.nd
  obtain ⟨hl, hoe, _⟩ := hok.at s
  refine ds_cons (ds_for [3] (pi_tup pe_w) (pg_name (i := 3) nd rfl (.inl rfl)) (wi_tup (de_ix ix_tup (de_nm 0 (de_nm 1 (rd_ixT (row_at hs) ⟨(rowA sts s).map rowD, rfl, ?_⟩))))))
  refine ⟨fun i δ => ∃ c3, δ = ⟨0, [some (.d (stsD sts)), some (.d (natD s)), some (.d (s3D e)), c3]⟩ ∧ ∀ r ∈ (rowA sts s).take i, ¬ r.1 = e, ⟨none, rfl, fun r hr => by simp at hr⟩, fun i y δ hy hI => ?_, fun δ hI => ?_⟩
  · obtain ⟨c3, rfl, hno⟩ := hI
    rw [List.getElem?_map, Option.map_eq_some_iff] at hy
    obtain ⟨r, hr', rfl⟩ := hy
    refine wg_name ?_
    refine ds_last (ds_if (dt_cmp (op_eqD hr.units) (de_upto sl_tupA (de_nm 3 (ru_slT (de_nm 2 (rd_eqD (x := cut3 (rowD r)) ?_ (shp_sh (shp_s3 he) (by decide)) ⟨_, rfl, ?_⟩)))))))
    · rw [cut3_row]; exact shp_sh (shp_s3 (hoe r (List.mem_of_getElem? hr'))) (by decide)
    · rw [cut3_row, eqv3]
      by_cases g : r.1 = e
      · rw [decide_eq_true g]
        refine iteT (ds_last (ds_ret (de_ix ix_tup (de_nm 3 (de_int (rd_ixT (z := natD r.2) rfl ?_))))))
        have e1 : thenE (rowA sts s) e = some r.2 := by
          rw [← g]
          exact thenE_at (hok.at s).2.2 hr'
        rw [e1] at hΦ
        exact hΦ
      · rw [decide_eq_false g]
        refine iteF (ds_nil ⟨_, rfl, fun q hq => ?_⟩)
        rw [take_snoc hr'] at hq
        rcases List.mem_append.mp hq with hq | hq
        · exact hno q hq
        · cases List.mem_singleton.mp hq
          exact g
  · obtain ⟨c3, rfl, hno⟩ := hI
    rw [List.length_map, List.take_length] at hno
    refine ds_last (ds_ret (de_non ?_))
    have e1 : thenE (rowA sts s) e = none := by
      unfold thenE
      rw [List.find?_eq_none.mpr fun r hr => by simpa using hno r hr]
      rfl
    rw [e1] at hΦ
    exact hΦ
end K3
set_option maxHeartbeats 200000
set_option Elab.async false
set_option linter.all false
set_option maxRecDepth 100000
set_option maxHeartbeats 4000000
namespace K3
open PySem PySem.Spec PyProof.Rows L2 DL
open PySem.W (alike alikeAll dataLt dataLe AllAlike Sortable EachIs keyToks keyToksAll lex_pre)
variable {P : Program} {w : World} {K : PySem.W.Frag} {mg : Str → Option Value} {base : Heap} {f : Addr} {fd : FuncData} {k : Nat}
def nextA (row : List (St3 × Nat)) (x : PyData) : Option Nat := (row.find? fun r => PyData.eqv (s3D r.1) x).map (·.2)
def walkA (sts : List (List (St3 × Nat))) : Nat → List PyData → Nat → PyData
  | n, [], k => .tuple [natD n, natD k]
  | n, x :: xs, k => match (sts[n]?).bind fun row => nextA row x with
    | some m => walkA sts m xs (k + 1)
    | none => .tuple [.none, natD k]
structure StsW (sts : List (List (St3 × Nat))) : Prop where
  rw : ∀ row ∈ sts, row.length ≤ 1000 ∧ ∀ r ∈ row, SeqAt.shaped (s3D r.1) = true ∧ r.2 < sts.length
def S_walk_along : SpD := fun ds Φ => ∃ (sts : List (List (St3 × Nat))) (xs : List PyData) (n : Nat), ds = [.tuple (sts.map stD), .tuple xs, natD n] ∧ StsW sts ∧ n < sts.length ∧ xs.length ≤ 1000 ∧ (∀ x ∈ xs, SeqAt.shaped x = true) ∧ Φ (walkA sts n xs 0)
abbrev envWk (sts : List (List (St3 × Nat))) (xs : List PyData) (m : Nat) (r : List (Option C)) : St' := ⟨0, [some (.d (.tuple (sts.map stD))), some (.d (.tuple xs)), some (.d (natD m))] ++ r⟩
theorem nextA_take {row : List (St3 × Nat)} {x : PyData} {j : Nat} {r : St3 × Nat} (h0 : (row.take j).find? (fun r => PyData.eqv (s3D r.1) x) = none) (hj : row[j]? = some r) (he : PyData.eqv (s3D r.1) x = true) : nextA row x = some r.2 := by
  unfold nextA
  have hs : row = row.take j ++ r :: row.drop (j + 1) := by
    have hlt := (List.getElem?_eq_some_iff.mp hj).1
    have h1 := (List.getElem?_eq_some_iff.mp hj).2
    rw [← h1, List.getElem_cons_drop, List.take_append_drop]
  rw [hs, List.find?_append, h0, List.find?_cons, he]
  rfl
theorem take_snocA {α : Type} {l : List α} {j : Nat} {a : α} (h : l[j]? = some a) : l.take (j + 1) = l.take j ++ [a] := by
  rw [List.take_add_one, h]; rfl
theorem ok_walk_along (T : Tx mg) (F : Fd K "walk_along" s_walk_along [] [] f fd) : FnOk P w K mg base CX0 1 f fd ["states", "thing", "at"] (spD K S_walk_along) := by
  refine fnD F sc_walk_along (fun ds Φ h => by obtain ⟨_, _, _, rfl, _⟩ := h; rfl) (fun B cdv A outer s H E ds Φ hr hp hS => ?_)
  obtain ⟨sts, xs, n, rfl, hst, hn, hvl, hv, hΦ⟩ := hS
  have nd := sc_walk_along.nd
  refine ds_cons (ds_for [3, 4] (pi_enumT T.enum pa_w) (pg_two 3 4 nd) (wi_enumT (da_cons (de_nm 1 (da_nil ⟨xs, rfl, fun i δ => ∃ m c3 c4 c5 c6 c7 c8, δ = envWk sts xs m [c3, c4, c5, c6, c7, c8] ∧ m < sts.length ∧ walkA sts n xs 0 = walkA sts m (xs.drop i) i, ⟨n, none, none, none, none, none, none, rfl, hn, rfl⟩, fun i y δ hy hI => ?_, fun δ hI => ?_⟩)))))
  · obtain ⟨m, c3, c4, c5, c6, c7, c8, rfl, hm, hw⟩ := hI
    obtain ⟨e, hei, rfl⟩ := enum_get hy
    have he := hv e (List.mem_of_getElem? hei)
    have hdrop : xs.drop i = e :: xs.drop (i + 1) := by
      have hlt := (List.getElem?_eq_some_iff.mp hei).1
      rw [← (List.getElem?_eq_some_iff.mp hei).2, List.getElem_cons_drop]
    obtain ⟨row, hrow⟩ : ∃ row, sts[m]? = some row := ⟨_, List.getElem?_eq_getElem hm⟩
    obtain ⟨hrl, hrr⟩ := hst.rw row (List.mem_of_getElem? hrow)
    refine wg_tup (wgs_cons (wg_name (wgs_cons (wg_name (wgs_nil ?_)))))
    refine ds_last (ds_forB [5, 6, 7, 8] (pi_tup pe_w) (pg_four 5 6 7 8 nd) (wi_tup (de_ix ix_tup (de_nm 0 (de_nm 2 (rd_ixT (z := stD row) ?_ ⟨row.map rowD, rfl, fun j δ => ∃ c5 c6 c7 c8, δ = envWk sts xs m [some (.d (.int (i : Nat))), some (.d e), c5, c6, c7, c8] ∧ (row.take j).find? (fun r => PyData.eqv (s3D r.1) e) = none, ⟨c5, c6, c7, c8, rfl, rfl⟩, fun j y δ hy hJ => ?_, fun δ hJ => ?_⟩))))))
    · rw [atI_nn (by omega), List.getElem?_map, Int.toNat_natCast, hrow]
      rfl
    · obtain ⟨d5, d6, d7, d8, rfl, hf⟩ := hJ
      rw [List.getElem?_map, Option.map_eq_some_iff] at hy
      obtain ⟨r, hj, rfl⟩ := hy
      obtain ⟨hrv, hrt⟩ := hrr r (List.mem_of_getElem? hj)
      refine wg_tup (wgs_cons (wg_name (wgs_cons (wg_name (wgs_cons (wg_name (wgs_cons (wg_name (wgs_nil ?_)))))))))
      refine dsb_if (dt_cmp (op_eqD hr.units) (de_tup (da_cons (de_nm 5 (da_cons (de_nm 6 (da_cons (de_nm 7 (da_nil ⟨by simp, de_nm 4 (rd_eqD hrv he ⟨_, rfl, ?_⟩)⟩)))))))))
      have e1' : PyData.eqv (.tuple [.str r.1.1, .str r.1.2.1, .str r.1.2.2]) e = PyData.eqv (s3D r.1) e := rfl
      rw [e1']
      cases hre : PyData.eqv (s3D r.1) e with
      | true =>
        refine iteT (dsb_cons (ds_set 2 (de_nm 8 (dsb_break ⟨r.2, some (.d (.int (i : Nat))), some (.d e), some (.d (.str r.1.1)), some (.d (.str r.1.2.1)), some (.d (.str r.1.2.2)), some (.d (natD r.2)), rfl, hrt, ?_⟩)) nd))
        rw [hw, hdrop]
        show (match (sts[m]?).bind fun row => nextA row e with | some m => walkA sts m (xs.drop (i + 1)) (i + 1) | none => _) = _
        rw [hrow, Option.bind_some, nextA_take hf hj hre]
      | false =>
        refine iteF (dsb_of (ds_nil ⟨some (.d (.str r.1.1)), some (.d (.str r.1.2.1)), some (.d (.str r.1.2.2)), some (.d (natD r.2)), rfl, ?_⟩))
        rw [take_snocA hj, List.find?_append, hf, List.find?_cons, hre]
        rfl
    · obtain ⟨d5, d6, d7, d8, rfl, hf⟩ := hJ
      rw [List.length_map, List.take_length] at hf
      refine ds_last (ds_ret (de_tup (da_cons (de_non (da_cons (de_nm 3 (da_nil ⟨by simp, ?_⟩)))))))
      have : walkA sts n xs 0 = .tuple [.none, natD i] := by
        rw [hw, hdrop]
        show (match (sts[m]?).bind fun row => nextA row e with | some m => walkA sts m (xs.drop (i + 1)) (i + 1) | none => PyData.tuple [.none, natD i]) = _
        rw [hrow, Option.bind_some]
        unfold nextA
        rw [hf]
        rfl
      rw [this] at hΦ
      exact hΦ
  · obtain ⟨m, c3, c4, c5, c6, c7, c8, rfl, hm, hw⟩ := hI
    rw [enum_len, List.drop_length] at hw
    refine ds_last (ds_ret (de_tup (da_cons (de_nm 2 (da_cons (de_callB call_len T.len boot_len (da_cons (de_nm 1 (da_nil (rc_lenT rfl (da_nil ⟨by simp, ?_⟩)))))))))))
    rw [hw] at hΦ
    exact hΦ
/-- where a row leads, how far it goes -/
def walkG (sts : List (List (St3 × Nat))) : Nat → List PyData → Option Nat × Nat
  | n, [] => (some n, 0)
  | n, x :: xs => match (sts[n]?).bind fun row => nextA row x with
    | some m => ((walkG sts m xs).1, (walkG sts m xs).2 + 1)
    | none => (none, 0)
theorem walkA_eq {sts : List (List (St3 × Nat))} : ∀ (xs : List PyData) (n k : Nat), walkA sts n xs k = .tuple [optD (walkG sts n xs).1, natD (k + (walkG sts n xs).2)]
  | [], n, k => rfl
  | x :: xs, n, k => by
    unfold walkA walkG
    cases h : (sts[n]?).bind fun row => nextA row x with
    | none => rfl
    | some m =>
      show walkA sts m xs (k + 1) = .tuple [optD (walkG sts m xs).1, natD (k + ((walkG sts m xs).2 + 1))]
      rw [walkA_eq xs m (k + 1)]
      congr 3
      show PyData.int _ = PyData.int _
      congr 1
      omega
end K3
set_option maxHeartbeats 200000
set_option Elab.async false
set_option linter.all false
set_option maxRecDepth 100000
set_option maxHeartbeats 4000000
namespace K3
open PySem PySem.Spec PyProof.Rows L2 DL PySem.XT
open PySem.W (alike alikeAll dataLt dataLe AllAlike Sortable EachIs keyToks keyToksAll lex_pre)
variable {P : Program} {w : World} {K : PySem.W.Frag} {mg : Str → Option Value} {base : Heap} {f : Addr} {fd : FuncData} {k : Nat} {CV CP : Addr}
abbrev GCE (P : Program) (w : World) (K : PySem.W.Frag) (mg : Str → Option Value) (base : Heap) : Prop := Fn P w K mg base "check_end" 6 ["end"] (spD K S_check_end)
abbrev GNB (P : Program) (w : World) (K : PySem.W.Frag) (mg : Str → Option Value) (base : Heap) : Prop := Fn P w K mg base "is_number_below" 1 ["thing", "bound"] (spD K S_number_below)
abbrev GWA (P : Program) (w : World) (K : PySem.W.Frag) (mg : Str → Option Value) (base : Heap) : Prop := Fn P w K mg base "walk_along" 1 ["states", "thing", "at"] (spD K S_walk_along)
/-- a row that may be walked: of what -/
structure RowA (xs : List PyData) : Prop where
  len : xs.length ≤ 1000
  it : ∀ x ∈ xs, SeqAt.shaped x = true ∧ AskA x
theorem RowA.ask {xs : List PyData} (h : RowA xs) : AskV (.tuple xs) := ⟨rfl, fun ys e => by injection e with e; subst e; have := h.len; exact ⟨by omega, fun x hx => (h.it x hx).2⟩⟩
theorem RowA.drop {xs : List PyData} (h : RowA xs) (n : Nat) : RowA (xs.drop n) := ⟨by have := h.len; rw [List.length_drop]; omega, fun x hx => h.it x (List.mem_of_mem_drop hx)⟩
theorem end_sts {h : Str} {sts : List (List (St3 × Nat))} {es : List St3} (hE : EndOk h sts es) : StsW sts := ⟨fun row hr => ⟨(hE.rw row hr).1, fun r hx => by
  have := (hE.rw row hr).2.2 r hx
  exact ⟨shp_sh (shp_s3 this.1.ok) (by decide), this.2.2.1⟩⟩⟩
theorem cut_from {ds : List PyData} {k : Nat} : DL.cutD ds (some (k : Int)) none = ds.drop k := by
  have e : DL.cutD ds (some (k : Int)) none = (ds.drop (HT.sIx ds.length 0 (some (k : Int)))).take (ds.length - HT.sIx ds.length 0 (some (k : Int))) := rfl
  have e2 : HT.sIx ds.length 0 (some (k : Int)) = min k ds.length := by
    unfold HT.sIx
    simp
    omega
  rw [e, e2]
  rcases Nat.le_total k ds.length with h | h
  · rw [Nat.min_eq_left h, List.take_of_length_le (by rw [List.length_drop]; exact Nat.le_refl _)]
  · rw [Nat.min_eq_right h, List.drop_eq_nil_of_le (Nat.le_refl _), List.drop_eq_nil_of_le h]
    simp
theorem cut_rest {xs : List PyData} {j : Nat} : DL.cutD xs (some ((0 + j : Nat) : Int)) none = xs.drop j := by
  rw [Nat.zero_add]
  exact cut_from
/-- told -/
def S_end_behind : SpD := fun ds Φ => ∃ (h : Str) (sts : List (List (St3 × Nat))) (es : List St3) (xs : List PyData) (n : Nat), ds = [endD h sts, .tuple xs, natD n] ∧ EndOk h sts es ∧ n < sts.length ∧ RowA xs ∧ vwA (.tuple (xs.drop (walkG sts n xs).2)) = true ∧ Φ (optD (walkG sts n xs).1)
theorem ok_end_behind (T : Tx mg) (GC : GCE P w K mg base) (GI : GNB P w K mg base) (GW : GWA P w K mg base) (GV : Fn P w K mg base "check_view" 4 ["view"] (spD K S_check_viewG)) (F : Fd K "end_behind" s_end_behind [] [("start", .int 0)] f fd) :
    FnOk P w K mg base CX0 7 f fd ["end", "view", "start"] (spD K S_end_behind) := by
  refine fnD F sc_end_behind (fun ds Φ h => by obtain ⟨_, _, _, _, _, rfl, _⟩ := h; rfl) (fun B cdv A outer s H E ds Φ hr hp hS => ?_)
  obtain ⟨h, sts, es, xs, n, rfl, hE, hn, hx, hv, hΦ⟩ := hS
  have nd := sc_end_behind.nd
  refine ds_cons (ds_expr (de_f (k' := 6) GC hr (da_cons (de_nm 0 (da_nil ⟨h, sts, es, rfl, hE, ?_⟩)))))
  refine ds_cons (ds_if (dt_pw (dw_or (dt_not (dt_val (de_isi T.isi T.tup (.inl rfl) (by decide +kernel) (de_nm 1 ⟨rfl, _, rfl, ?_⟩)))))))
  refine iteF (dw_or1 (dt_not (dt_val (de_f (k' := 6) GI hr (da_cons (de_nm 2 (da_cons (de_callB call_len T.len boot_len (da_cons (de_ix ix_tup (de_nm 0 (de_int (rd_ixT (z := .tuple (sts.map stD)) rfl (da_nil (rc_lenT rfl (da_nil ⟨natD n, _, rfl, .inl rfl, _, rfl, ?_⟩))))))))))))))))
  rw [List.length_map, below_nat hn]
  refine iteF (ds_nil ?_)
  refine ds_cons (ds_unpack [3, 4] (pg_two 3 4 nd) (de_f (k' := 6) GW hr (da_cons (de_ix ix_tup (de_nm 0 (de_int (rd_ixT (z := .tuple (sts.map stD)) rfl (da_cons (de_nm 1 (da_cons (de_nm 2 (da_nil ⟨sts, xs, n, rfl, end_sts hE, hn, hx.len, fun x hm => (hx.it x hm).1, ?_⟩))))))))))))
  rw [walkA_eq]
  refine wg_tup (wgs_cons (wg_name (wgs_cons (wg_name (wgs_nil ?_)))))
  refine ds_cons (ds_expr (de_f (k' := 6) GV hr (da_cons (de_slFrom sl_tupA (de_nm 1 (de_nm 4 ⟨_, rfl, ru_slT ?_⟩))))))
  rw [cut_rest]
  exact da_nil ⟨_, rfl, (hx.drop _).ask, hv, ds_last (ds_ret (de_nm 3 hΦ))⟩
/-- no view: the row of events that follows is none -/
def S_end_behindV (CV : Addr) : SpDX := fun ds Φ Ξ => ∃ (h : Str) (sts : List (List (St3 × Nat))) (es : List St3) (xs : List PyData) (n : Nat), ds = [endD h sts, .tuple xs, natD n] ∧ EndOk h sts es ∧ n < sts.length ∧ RowA xs ∧ vwA (.tuple (xs.drop (walkG sts n xs).2)) = false ∧ Ξ (.ref CV)
theorem okV_end_behind (T : Tx mg) (GC : GCE P w K mg base) (GI : GNB P w K mg base) (GW : GWA P w K mg base) (GV : FnX P w K mg base "check_view" 4 ["view"] (spDX K (S_check_viewX CV))) (F : Fd K "end_behind" s_end_behind [] [("start", .int 0)] f fd) :
    FnOk P w K mg base (L2.CX P w) 7 f fd ["end", "view", "start"] (spDX K (S_end_behindV CV)) := by
  refine fnDX F sc_end_behind (fun ds Φ Ξ h => by obtain ⟨_, _, _, _, _, rfl, _⟩ := h; rfl) (fun B cdv A outer s H E ds Φ Ξ hr hp hS tk => ?_)
  obtain ⟨h, sts, es, xs, n, rfl, hE, hn, hx, hv, hΞ⟩ := hS
  have nd := sc_end_behind.nd
  refine ds_cons (ds_expr (de_f (k' := 6) GC hr (da_cons (de_nm 0 (da_nil ⟨h, sts, es, rfl, hE, ?_⟩)))))
  refine ds_cons (ds_if (dt_pw (dw_or (dt_not (dt_val (de_isi T.isi T.tup (.inl rfl) (by decide +kernel) (de_nm 1 ⟨rfl, _, rfl, ?_⟩)))))))
  refine iteF (dw_or1 (dt_not (dt_val (de_f (k' := 6) GI hr (da_cons (de_nm 2 (da_cons (de_callB call_len T.len boot_len (da_cons (de_ix ix_tup (de_nm 0 (de_int (rd_ixT (z := .tuple (sts.map stD)) rfl (da_nil (rc_lenT rfl (da_nil ⟨natD n, _, rfl, .inl rfl, _, rfl, ?_⟩))))))))))))))))
  rw [List.length_map, below_nat hn]
  refine iteF (ds_nil ?_)
  refine ds_cons (ds_unpack [3, 4] (pg_two 3 4 nd) (de_f (k' := 6) GW hr (da_cons (de_ix ix_tup (de_nm 0 (de_int (rd_ixT (z := .tuple (sts.map stD)) rfl (da_cons (de_nm 1 (da_cons (de_nm 2 (da_nil ⟨sts, xs, n, rfl, end_sts hE, hn, hx.len, fun x hm => (hx.it x hm).1, ?_⟩))))))))))))
  rw [walkA_eq]
  refine wg_tup (wgs_cons (wg_name (wgs_cons (wg_name (wgs_nil ?_)))))
  refine ds_cons (ds_expr (de_fX (k' := 6) GV tk hr (da_cons (de_slFrom sl_tupA (de_nm 1 (de_nm 4 ⟨_, rfl, ru_slT ?_⟩))))))
  rw [cut_rest]
  refine da_nil ⟨_, rfl, .inl (hx.drop _).ask, ?_, ?_⟩
  · intro z
    rw [hv] at z
    cases z
  · intro _
    exact hΞ
/-- no view, and no tuple, whatever the place -/
def S_end_behindT (CV : Addr) : SpDX := fun ds Φ Ξ => ∃ (h : Str) (sts : List (List (St3 × Nat))) (es : List St3) (d n : PyData), ds = [endD h sts, d, n] ∧ EndOk h sts es ∧ AnyV d ∧ isT "tuple" d = false ∧ Ξ (.ref CV)
theorem vw_tup {d : PyData} (h : isT "tuple" d = false) : vwA d = false := by
  cases d <;> first | rfl | cases h
theorem okT_end_behind (T : Tx mg) (GC : GCE P w K mg base) (GV : FnX P w K mg base "check_view" 4 ["view"] (spDX K (S_check_viewX CV))) (F : Fd K "end_behind" s_end_behind [] [("start", .int 0)] f fd) :
    FnOk P w K mg base (L2.CX P w) 7 f fd ["end", "view", "start"] (spDX K (S_end_behindT CV)) := by
  refine fnDX F sc_end_behind (fun ds Φ Ξ h => by obtain ⟨_, _, _, _, _, rfl, _⟩ := h; rfl) (fun B cdv A outer s H E ds Φ Ξ hr hp hS tk => ?_)
  obtain ⟨h, sts, es, d, n, rfl, hE, hd, ht, hΞ⟩ := hS
  have nd := sc_end_behind.nd
  refine ds_cons (ds_expr (de_f (k' := 6) GC hr (da_cons (de_nm 0 (da_nil ⟨h, sts, es, rfl, hE, ?_⟩)))))
  rcases hd with hd | rfl
  · refine ds_cons (ds_if (dt_pw (dw_or (dt_not (dt_val (de_isi T.isi T.tup (.inl rfl) (by decide +kernel) (de_nm 1 ⟨hd.nd, _, rfl, ?_⟩)))))))
    rw [ht]
    refine iteT (iteT (ds_cons (ds_expr (de_fX (k' := 6) GV tk hr (da_cons (de_nm 1 (da_nil ⟨d, rfl, .inl hd, ?_, ?_⟩)))))))
    · intro z
      rw [vw_tup ht] at z
      cases z
    · intro _
      exact hΞ
  · refine ds_cons (ds_if (dt_pw (dw_or (dt_not (dt_val (de_isiE T.isi T.tup (.inl rfl) (by decide +kernel) (de_nm 1 ⟨rfl, _, rfl, ?_⟩)))))))
    refine iteT (iteT (ds_cons (ds_expr (de_fX (k' := 6) GV tk hr (da_cons (de_nm 1 (da_nil ⟨_, rfl, .inr rfl, ?_, ?_⟩)))))))
    · intro z
      cases z
    · intro _
      exact hΞ
/-- a tuple that is no view, at what is no state -/
def S_end_behindW (CV : Addr) : SpDX := fun ds Φ Ξ => ∃ (h : Str) (sts : List (List (St3 × Nat))) (es : List St3) (xs : List PyData) (n : PyData), ds = [endD h sts, .tuple xs, n] ∧ EndOk h sts es ∧ RowA xs ∧ vwA (.tuple xs) = false ∧ AnyN n ∧ isBelowM n (sts.length : Int) = false ∧ Ξ (.ref CV)
theorem okW_end_behind (T : Tx mg) (GC : GCE P w K mg base) (GI : GNB P w K mg base) (GV : FnX P w K mg base "check_view" 4 ["view"] (spDX K (S_check_viewX CV))) (F : Fd K "end_behind" s_end_behind [] [("start", .int 0)] f fd) :
    FnOk P w K mg base (L2.CX P w) 7 f fd ["end", "view", "start"] (spDX K (S_end_behindW CV)) := by
  refine fnDX F sc_end_behind (fun ds Φ Ξ h => by obtain ⟨_, _, _, _, _, rfl, _⟩ := h; rfl) (fun B cdv A outer s H E ds Φ Ξ hr hp hS tk => ?_)
  obtain ⟨h, sts, es, xs, n, rfl, hE, hx, hv, hn, hb, hΞ⟩ := hS
  have nd := sc_end_behind.nd
  refine ds_cons (ds_expr (de_f (k' := 6) GC hr (da_cons (de_nm 0 (da_nil ⟨h, sts, es, rfl, hE, ?_⟩)))))
  refine ds_cons (ds_if (dt_pw (dw_or (dt_not (dt_val (de_isi T.isi T.tup (.inl rfl) (by decide +kernel) (de_nm 1 ⟨rfl, _, rfl, ?_⟩)))))))
  refine iteF (dw_or1 (dt_not (dt_val (de_f (k' := 6) GI hr (da_cons (de_nm 2 (da_cons (de_callB call_len T.len boot_len (da_cons (de_ix ix_tup (de_nm 0 (de_int (rd_ixT (z := .tuple (sts.map stD)) rfl (da_nil (rc_lenT rfl (da_nil ⟨n, _, rfl, hn, _, rfl, ?_⟩))))))))))))))))
  rw [List.length_map, hb]
  refine iteT (ds_cons (ds_expr (de_fX (k' := 6) GV tk hr (da_cons (de_nm 1 (da_nil ⟨_, rfl, .inl hx.ask, ?_, ?_⟩))))))
  · intro z
    rw [hv] at z
    cases z
  · intro _
    exact hΞ
/-- a view, at what is no state -/
def S_end_behindP (CP : Addr) : SpDXP := fun ds Φ Ξ => ∃ (h : Str) (sts : List (List (St3 × Nat))) (es : List St3) (xs : List PyData) (n : PyData), ds = [endD h sts, .tuple xs, n] ∧ EndOk h sts es ∧ RowA xs ∧ vwA (.tuple xs) = true ∧ OddN n sts.length ∧ Ξ (.ref CP) [("place", n)]
theorem okP_end_behind (T : Tx mg) (O : KNP P w K mg base CP) (GC : GCE P w K mg base) (GI : GNB P w K mg base) (GV : Fn P w K mg base "check_view" 4 ["view"] (spD K S_check_viewG)) (F : Fd K "end_behind" s_end_behind [] [("start", .int 0)] f fd) :
    FnShX P w K mg base (L2.CX P w) 7 f fd ["end", "view", "start"] (spDXP K (S_end_behindP CP)) := by
  refine fnDXP F sc_end_behind (fun ds Φ Ξ h => by obtain ⟨_, _, _, _, _, rfl, _⟩ := h; rfl) (fun B cdv A outer s H E ds Φ Ξ hgd hr hp hS tk => ?_)
  obtain ⟨h, sts, es, xs, n, rfl, hE, hx, hv, hn, hΞ⟩ := hS
  have nd := sc_end_behind.nd
  refine ds_cons (ds_expr (de_f (k' := 6) GC hr (da_cons (de_nm 0 (da_nil ⟨h, sts, es, rfl, hE, ?_⟩)))))
  refine ds_cons (ds_if (dt_pw (dw_or (dt_not (dt_val (de_isi T.isi T.tup (.inl rfl) (by decide +kernel) (de_nm 1 ⟨rfl, _, rfl, ?_⟩)))))))
  refine iteF (dw_or1 (dt_not (dt_val (de_f (k' := 6) GI hr (da_cons (de_nm 2 (da_cons (de_callB call_len T.len boot_len (da_cons (de_ix ix_tup (de_nm 0 (de_int (rd_ixT (z := .tuple (sts.map stD)) rfl (da_nil (rc_lenT rfl (da_nil ⟨n, _, rfl, hn.any, _, rfl, ?_⟩))))))))))))))))
  rw [List.length_map, hn.no]
  refine iteT (ds_cons (ds_expr (de_f (k' := 6) GV hr (da_cons (de_nm 1 (da_nil ⟨_, rfl, hx.ask, hv, ?_⟩))))))
  exact ds_last (ds_raisePE O tk hgd (hr.mono (by decide)) (de_nm 2 ⟨hn.nh, hn.tl, hΞ⟩))
end K3
set_option maxHeartbeats 200000
set_option Elab.async false
set_option linter.all false
set_option maxRecDepth 100000
set_option maxHeartbeats 1000000
namespace DL
open PySem PySem.Spec PyProof.Rows L2 PySem.XT
abbrev Cl1 := Value × Nat × (Addr → Value → Option Addr → TS)
/-- what the clauses wish of an exception, one after the other -/
def wChain (K : PySem.W.Frag) (D : Ends) : List Cl1 → WX
  | [] => fun _ _ _ _ => False
  | (c, i, ts) :: r => fun cls d σ H => ∃ b, PySem.W.exmOne K cls c = some b ∧
    (b = true → ∀ a, H a = none → ts a cls d { nx := fun σ' H' => D.nx (σ'.set i none) H', rt := D.rt, bk := fun σ' H' => D.bk (σ'.set i none) H', ct := fun σ' H' => D.ct (σ'.set i none) H' } (σ.set i (some (.ref a))) H) ∧
    (b = false → wChain K D r cls d σ H)
inductive HdsAs (X : Cx) : List ExceptHandler → List Cl1 → Prop
  | stop {hds : List ExceptHandler} : HdsAs X hds []
  | cons {x n : Str} {c : Value} {i : Nat} {ts : Addr → Value → Option Addr → TS} {b₀ : Stmt} {suite : List Stmt} {np pos' : Pos} {hds : List ExceptHandler} {l : List Cl1} (hc : Names X x c) (hi : X.N[i]? = some n) (hln : X.env.kindOf n = some .local)
      (hsu : ∀ (a : Addr) (oe : Obj) (cls : Value) (d : Option Addr) (pn : List (Addr × Obj)), Zc cls d oe → (∃ vs, oe.data = .fields vs) → PSs (X.suite a ((a, oe) :: pn)) (b₀ :: suite) (ts a cls d)) (r : HdsAs X hds l) :
      HdsAs X (.ExceptHandler (some (.Name x np)) (some n) (b₀ :: suite) pos' :: hds) ((c, i, ts) :: l)
section
variable {X : Cx} {body : List Stmt} {h₀ : ExceptHandler} {hds : List ExceptHandler} {l : List Cl1} {pos : Pos} {tb : WX → TS}
theorem ps_try_asM (hs : X.stack = X.env :: X.outer) (hf : X.env.frame = some X.env.locals) (hN : X.N.Nodup)
    (hb : ∀ (W : WX) (pn : List (Addr × Obj)) (xe : Value → Shared → Prop), Takes (X.tr pn xe) W → PassesOwn (model X.prog X.w) X.A X.env xe → PSs (X.tr pn xe) body (tb W))
    (hh : HdsAs X (h₀ :: hds) l) : PS X (.Try body (h₀ :: hds) [] [] pos) (fun D σ H => tb (wChain X.K D l) D σ H) := by
  constructor
  intro pins s σ H D I h
  have ok := I.ok
  have hfr : X.A.frames = some (X.env :: X.outer) := by rw [ok.frames, hs]
  refine wpAny_Try_except ?_
  refine wpAny_mono ((hb (wChain X.K D l) (X.pn ++ pins) (fun e s₁ => wpAny (model X.prog X.w) X.A (noteFrame e X.env) (fun _ s₂ => wpAny (model X.prog X.w) X.A (setFlight e none) (fun _ s₃ =>
    wpAny (model X.prog X.w) X.A (handleBy e X.env (h₀ :: hds)) (SP X pins D) X.xe s₃) X.xe s₂) X.xe s₁) ?_ PassesOwn.looking).run [] s σ H D (I.toTry _) h) ?_ (fun _ _ z => z)
  · rintro u s' ⟨a, B, sI, pins', σ', H', cls, d, rfl, J', nb, up, sky, na, os, ag, w⟩
    have J : Inv X pins σ' H' sI := J'.ofTry ok
    have sky' : Sky B (X.env :: X.outer) a (Zc cls d) X.env.locals s'.heap := by rw [← hs]; exact sky
    show wpAny (model X.prog X.w) X.A (noteFrame (.ref a) X.env) _ _ _
    refine Sky.land Zc.steady hfr hf sky' fun h3 fl3 up3 => ?_
    have J3 : Inv X pins σ' H' { s' with heap := h3 } := J.landed nb fl3.1 (up.trans up3) os ag
    obtain ⟨oe3, vs3, he3, hz3, hd3⟩ := fl3.there
    have nfr : a ∉ frs (X.env :: X.outer) := fun hm => by
      obtain ⟨_, o', e', hnf⟩ := fl3.2.2.1.mem hm
      rw [he3] at e'; cases e'
      exact hnf _ hd3
    have nL : a ≠ X.env.locals := fun z => nfr (List.mem_filterMap.mpr ⟨X.env, List.mem_cons_self, by rw [hf, z]⟩)
    have nF : a ∉ X.fs := fun hm => by
      obtain ⟨e, he, q⟩ := List.mem_filterMap.mp hm
      exact nfr (List.mem_filterMap.mpr ⟨e, List.mem_cons_of_mem _ he, q⟩)
    have S3 := J3.suite he3 hd3 na nL nF
    have go : ∀ {hds' : List ExceptHandler} {l' : List Cl1}, HdsAs X hds' l' → wChain X.K D l' cls d σ' H' → wpAny (model X.prog X.w) X.A (handleBy (.ref a) X.env hds') (SP X pins D) X.xe { s' with heap := h3 } := by
      intro hds' l' hk
      induction hk with
      | stop => intro w; exact w.elim
      | @cons x n c i ts b₀ suite np pos' hds2 l2 hc hi hln hsu r ih =>
        rintro ⟨b, hb1, hyes, hno⟩
        have hloc : Loc X.env.scope n := .inl hln
        refine wpAny_handleBy_cons (codeAny_handlers_test ?_) (by intro q; cases q)
        have M1 : Names (X.suite a ((a, oe3) :: (X.pn ++ pins))) x c := hc
        refine names_ld (X := X.suite a ((a, oe3) :: (X.pn ++ pins))) S3 M1 ?_
        have LT : PySem.W.Looks (model X.prog X.w) h3 (typeOf (.ref a)) cls := fun A Q E s k q => wpAny_typeOf_ref (k _ _ he3) (by rw [hz3.1]; exact q)
        have LM := PySem.W.exm_one (M := model X.prog X.w) J3.kIn LT hb1
        refine LM.here ?_
        cases b with
        | false =>
          show wpAny _ X.A (handleBy (.ref a) X.env hds2) _ _ _
          exact ih (hno rfl)
        | true =>
          refine codeAny_handlers_suite_as ?_
          refine HandSPX.lands_againZ fl3 fun h4 fl4 up4 => ?_
          have J4 : Inv X pins σ' H' { s' with heap := h4 } := J.landed nb fl4.1 ((up.trans up3).trans up4) os ag
          obtain ⟨oe4, vs4, he4, hz4, hd4⟩ := fl4.there
          have S4 := J4.suite he4 hd4 na nL nF
          refine store_ok (X := X.suite a ((a, oe4) :: (X.pn ++ pins))) (v := .ref a) S4 hN hi hloc rfl (fun s5 S5 => ?_) (.inr hln)
          refine wpAny_mono ((hsu a oe4 cls d (X.pn ++ pins) hz4 ⟨_, hd4⟩).run [] s5 _ H' _ S5 (hyes rfl a na)) (fun f s6 hsp => ?_) (fun _ _ z => False.elim z)
          have fin : ∀ {σ6 : L2.St} {H6 : Hp} {Q : Shared → Prop}, Inv (X.suite a ((a, oe4) :: (X.pn ++ pins))) [] σ6 H6 s6 → (∀ s7, Inv X pins (σ6.set i none) H6 s7 → Q s7) →
              wpAny (model X.prog X.w) X.A (do bindName X.env n .none; unbindBehindTheSuite X.env n pos') (fun _ s7 => Q s7) X.xe s6 := fun {σ6 H6 Q} S6 hq => gone_ok (S6.unsuite ok) hN hi hln hq
          cases f with
          | next => obtain ⟨σ6, H6, S6, q6⟩ := hsp; exact fin S6 fun s7 J7 => ⟨_, _, J7, q6⟩
          | brk => obtain ⟨σ6, H6, S6, q6⟩ := hsp; exact fin S6 fun s7 J7 => ⟨_, _, J7, q6⟩
          | cont => obtain ⟨σ6, H6, S6, q6⟩ := hsp; exact fin S6 fun s7 J7 => ⟨_, _, J7, q6⟩
          | ret u => obtain ⟨v6, σ6, H6, S6, r6, q6⟩ := hsp; exact fin S6 fun s7 J7 => ⟨_, _, _, J7, r6, q6⟩
    exact go hh w
  · intro f s1 hsp
    cases f with
    | next => obtain ⟨σ', H', J', q⟩ := hsp; exact wpAny_execs_nil ⟨σ', H', J'.ofTry ok, q⟩
    | brk => obtain ⟨σ', H', J', q⟩ := hsp; exact ⟨σ', H', J'.ofTry ok, q⟩
    | cont => obtain ⟨σ', H', J', q⟩ := hsp; exact ⟨σ', H', J'.ofTry ok, q⟩
    | ret u => obtain ⟨v, σ', H', J', r, q⟩ := hsp; exact ⟨v, σ', H', J'.ofTry ok, r, q⟩
end
section
variable {B : B0} {X : Cx} {δ : St'} {N : St' → Prop} {R : PE1} {x1 x2 n : Str} {c1 c2 : Value} {body s1 s2 : List Stmt} {b1 b2 : Stmt} {hds : List ExceptHandler} {p1 p2 pos pos1 pos2 : Pos} {Ξ : Value → St' → Prop} {Ξp : Value → List (Str × PyData) → St' → Prop}
/-- a refusal that bears nothing is taken by the first clause, one that bears something by the second -/
theorem ds_try2 (i : Nat) (hN : X.N.Nodup) (hc1 : Names X x1 c1) (hc2 : Names X x2 c2)
    (hb : ∀ (B1 : B0) (pn : List (Addr × Obj)) (xe : Value → Shared → Prop), Later B B1 → TakesD B1 (X.tr pn xe) Ξ → TakesDP B1 (X.tr pn xe) Ξp → DSs B1 (X.tr pn xe) body δ N R)
    (hm : ∀ cls δ', Ξ cls δ' → PySem.W.exmOne X.K cls c1 = some true ∧ ∀ (B2 : B0) (a : Addr) (oe : Obj) (pn : List (Addr × Obj)), B2.p = B.p → DictAt B2.F oe → oe.cls = cls → (∃ vs, oe.data = Data.fields vs) →
      DSs B2 (X.suite a ((a, oe) :: pn)) (b1 :: s1) (δ'.put i (.d (hdD a))) (fun _ => False) R)
    (hmp : ∀ cls fs δ', Ξp cls fs δ' → i < δ'.s.length ∧ PySem.W.exmOne X.K cls c1 = some false ∧ PySem.W.exmOne X.K cls c2 = some true ∧ ∀ (B2 : B0) (a dd : Addr) (oe : Obj) (pn : List (Addr × Obj)), B2.p = B.p → InX B2 X.K dd fs → Zc cls (some dd) oe → (∃ vs, oe.data = Data.fields vs) → DictAt B2.F oe →
      DSs B2 (X.suite a ((a, oe) :: pn)) (b2 :: s2) ⟨δ'.n, (inn [] 0 δ'.s).set i (some (.d (hdD a)))⟩ (fun _ => False) R)
    (hi : X.N[i]? = some n := by rfl) (hln : X.env.kindOf n = some .local := by rfl) (hs : X.stack = X.env :: X.outer := by rfl) (hf : X.env.frame = some X.env.locals := by rfl) :
    DS B X (.Try body (.ExceptHandler (some (.Name x1 p1)) (some n) (b1 :: s1) pos1 :: .ExceptHandler (some (.Name x2 p2)) (some n) (b2 :: s2) pos2 :: hds) [] [] pos) δ N R := by
  refine .of (ps_try_asM (l := [(c1, i, fun a cls d D σ H => ∀ oe pn, Zc cls d oe → (∃ vs, oe.data = Data.fields vs) → wSs (X.suite a ((a, oe) :: pn)) (b1 :: s1) D σ H), (c2, i, fun a cls d D σ H => ∀ oe pn, Zc cls d oe → (∃ vs, oe.data = Data.fields vs) → wSs (X.suite a ((a, oe) :: pn)) (b2 :: s2) D σ H)])
    (tb := fun W D σ H => ∀ pn xe, Takes (X.tr pn xe) W → PassesOwn (model X.prog X.w) X.A X.env xe → wSs (X.tr pn xe) body D σ H) hs hf hN
    (fun W pn xe t po => ⟨fun pins s σ H D I h => (pss_w (X := X.tr pn xe)).run pins s σ H D I (h pn xe t po)⟩)
    (.cons hc1 hi hln (fun a oe cls d pn z hv => ⟨fun pins s σ H D I h => (pss_w (X := X.suite a ((a, oe) :: pn))).run pins s σ H D I (h oe pn z hv)⟩)
      (.cons hc2 hi hln (fun a oe cls d pn z hv => ⟨fun pins s σ H D I h => (pss_w (X := X.suite a ((a, oe) :: pn))).run pins s σ H D I (h oe pn z hv)⟩) .stop))) fun σ F H r D hn hr => ?_
  intro pn xe t po
  obtain ⟨u, r1⟩ := r.toLater
  have hp : ∀ a, B.p = some a → B.F a = Option.none := fun a h => (r.pot a h).1
  refine hb _ pn xe u ⟨_, t, fun cls δ' σ' F' H' r' z => ?_⟩ ⟨_, t, fun cls dd ns us xs δ' σ' F' H' r' h1 h2 h3 h4 z => ?_⟩ σ F H r1 D (fun δ' σ' F' H' e r' p => hn δ' σ' F' H' e (Rep.ofLater u hp r') p) fun v y δ' σ' F' H' e r' d p => hr v y δ' σ' F' H' e (Rep.ofLater u hp r') d p
  · have r2 := Rep.ofLater u hp r'
    obtain ⟨m1, hsu⟩ := hm cls δ' z
    refine ⟨true, m1, fun _ a ha oe pn2 z2 hv => ?_, fun z => by cases z⟩
    exact hsu B a oe pn2 rfl (.inl z2.2) z2.1 hv _ F' H' (r2.putD i (.hd a)) _ (fun δ2 σ2 F2 H2 e r3 p => p.elim) fun v y δ2 σ2 F2 H2 e r3 d3 p => hr v y δ2 σ2 F2 H2 (r'.f0.trans e) r3 d3 p
  · have r2 := Rep.ofLater u hp r'
    obtain ⟨hil, m1, m2, hsu⟩ := hmp cls _ δ' z
    have h1 : B.H dd = none := by have := h1; rw [u.H] at this; exact this
    refine ⟨false, m1, fun z => (by cases z), fun _ => ⟨true, m2, fun _ a ha oe pn2 z2 hv => ?_, fun z => by cases z⟩⟩
    obtain ⟨r3, hnn⟩ := Rep.baseX (a := a) r2 hil h1 h2 h3
    have s2 : Same F' (upd F' dd (.xd (ns.zip us))) := same_upd h2
    refine hsu ⟨upd F' dd (.xd (ns.zip us)), H', B.p, B.m⟩ a dd oe pn2 rfl ⟨ns, us, xs, rfl, upd_same, dpAll_mono s2 _ _ h4⟩ z2 hv (.inr ⟨dd, _, z2.2, upd_same⟩) _ _ H' r3 _ (fun δ2 σ2 F2 H2 e r4 p => p.elim) fun v y δ2 σ2 F2 H2 e r4 d4 p => ?_
    exact hr v y δ2 σ2 F2 H2 (r'.f0.trans (s2.trans e)) (r2.back s2 hnn r4) d4 p
end
end DL
set_option maxHeartbeats 200000
set_option Elab.async false
set_option linter.all false
set_option maxRecDepth 100000
set_option maxHeartbeats 4000000
namespace DL
open PySem PySem.Spec PyProof.Rows L2 PySem.XT
section
variable {B : B0} {X : Cx} {δ : St'} {Φ : PE1} {pos p1 p2 p3 : Pos} {pn : Str}
/-- isinstance(e, X) of what is handled, X a built-in class -/
theorem de_isiQB (i : Nat) {p : Addr × Obj} {D : Addr} {y : Str} {ty : String} {b : Bool} (T : ExcC X.K D) (hp : p ∈ X.pn) (hdk : DictAt B.F p.2) (hc : p.2.cls = .ref D) (hv : ∃ vs, p.2.data = Data.fields vs) (hm : X.mg "isinstance" = none) (hy : X.mg y = none) (hbl : bootBuiltins y = some (.type ty)) (hk : PySem.W.kitOne X.K (.ref D) (.type ty) = some b)
    (h : Φ (.bool b) δ) (hi : δ.s[i]? = some (some (.d (hdD p.1))) := by rfl) (hN : X.N[i]? = some pn := by rfl)
    (hvs : Vis X.env.scope pn := by first | exact Or.inl rfl | exact Or.inr (Or.inl rfl) | exact Or.inr (Or.inr rfl)) (hd : (pn == ("__debug__" : Str)) = false := by decide) (hcd : (pn == ("__classdict__" : Str)) = false := by decide)
    (hg : Gl X "isinstance" := by rfl) (hgT : Gl X y := by rfl) (hyn : y ≠ "__name__" := by decide) (hyd : (y == ("__debug__" : Str)) = false := by decide) (he : starEach [.Name pn p2, .Name y p3] X.env = (false, eval (.Name pn p2) X.env) :: starEach [.Name y p3] X.env := by rfl)
    (he2 : starEach [.Name y p3] X.env = (false, eval (.Name y p3) X.env) :: starEach [] X.env := by rfl) (hpl : (backTo pos (starEach [.Name y p3] X.env)).any (·.1) = false := by rfl) :
    DE B X (.Call (.Name "isinstance" p1) [.Name pn p2, .Name y p3] [] pos) δ Φ :=
  .of (pe_callB (call_isQ T hp hc hv) hg hm (by decide +kernel) (pa_cons (pe_var hN hvs hd hcd) (pa_cons (pe_bltn (v := .ty ty) hgT hy hbl rfl hyn hyd) pa_nil he2) he) (by decide) (by decide) he hpl) fun σ F H r Q q => by
    obtain ⟨u, hu, hcell⟩ := r.cell i _ hi
    obtain rfl : u = .ref p.1 := by cases hcell; rfl
    refine ⟨.ref p.1, hu, .ty ty, .type ty, b, rfl, ?_, fun u h => h, hk, q _ _ δ F H (Same.refl F) r (.bl b) h⟩
    rcases hdk with z | ⟨dd, xs, z1, z2⟩
    · exact .inl z
    · exact .inr ⟨dd, xs, z1, r.ex _ _ (r.f0 _ _ z2)⟩
end
end DL
namespace K3
open PySem PySem.Spec PyProof.Rows L2 DL PySem.XT
open PySem.W (alike alikeAll dataLt dataLe AllAlike Sortable EachIs keyToks keyToksAll lex_pre)
variable {P : Program} {w : World} {K : PySem.W.Frag} {mg : Str → Option Value} {base : Heap} {f : Addr} {fd : FuncData} {k : Nat} {CV CP : Addr}
def SV (CV : Addr) : SpLam := fun _ Ξ _ => Ξ (.ref CV)
def SPl (CP : Addr) (d : PyData) : SpLam := fun _ _ Ξp => Ξp (.ref CP) [("place", d)]
def SG15 (CV CP : Addr) : SpAsk := fun S Φ => (S = SV CV ∧ Φ (.str "view")) ∨ ∃ d, S = SPl CP d ∧ Sh1 d ∧ Φ (.str d.shown)
structure Ref2 (K : PySem.W.Frag) (mg : Str → Option Value) (CL CV CP : Addr) : Prop where
  mL : mg "LoomError" = some (.ref CL)
  mV : mg "NoView" = some (.ref CV)
  mP : mg "NoPlace" = some (.ref CP)
  xV : ExcC K CV
  xP : ExcC K CP
  fP : XfC K CP
  nP : PySem.W.findIn K (.ref CP) "place" = some none
  vL : PySem.W.exmOne K (.ref CV) (.ref CL) = some true
  pL : PySem.W.exmOne K (.ref CP) (.ref CL) = some false
  pP : PySem.W.exmOne K (.ref CP) (.ref CP) = some true
  kV : PySem.W.kitOne K (.ref CV) (.ref CV) = some true
  kE : PySem.W.kitOne K (.ref CV) (.type "ValueError") = some true
  kI : PySem.W.kitOne K (.ref CP) (.type "IndexError") = some true
  bV : mg "ValueError" = none
  bI : mg "IndexError" = none
theorem boot_VE : bootBuiltins "ValueError" = some (.type "ValueError") := by decide +kernel
theorem boot_IE : bootBuiltins "IndexError" = some (.type "IndexError") := by decide +kernel
theorem ok__law_refused {CL : Addr} (T : Tx mg) (V : Ref2 K mg CL CV CP) (F : Fd K "_law_refused" s__law_refused [] [] f fd) : FnSt P w K mg base 9 f fd ["ask"] (spAsk P w K mg base 8 (SG15 CV CP)) := by
  refine fnAsk F sc__law_refused rfl (fun B cdv A outer s H E fa L fr ws S kf Φ hgd hr hp Cc hkf th hS => ?_)
  have nd := sc__law_refused.nd
  have hu := room70 hr
  rcases hS with ⟨rfl, hΦ⟩ | ⟨d, rfl, hd, hΦ⟩
  · refine ds_cons (ds_try2 (Ξ := fun cls δ' => cls = .ref CV ∧ δ' = ini n__law_refused [C.d (hdD fa)] 0) (Ξp := fun _ _ _ => False) 1 nd ⟨rfl, by decide, .inl V.mL⟩ ⟨rfl, by decide, .inl V.mP⟩ (fun B1 pn xe u tk tp => ?_) (fun cls δ' z => ?_) (fun cls fs δ' z => z.elim))
    · exact ds_last (ds_expr (de_thunkD 0 (th.mono u.F) Cc rfl tk hgd hr rfl ⟨rfl, rfl⟩ hkf))
    · obtain ⟨rfl, rfl⟩ := z
      refine ⟨V.vL, fun B2 a oe pn hp2 hdk hc hv => ?_⟩
      exact ds_last (ds_ret (de_if (dt_pw (dw_and (dt_val (de_isiQ 1 V.xV List.mem_cons_self hdk hc hv T.isi V.mV V.kV ⟨_, rfl, iteT (dw_and1 (dt_val (de_isiQB 1 V.xV List.mem_cons_self hdk hc hv T.isi V.bV boot_VE V.kE ⟨_, rfl, iteT (de_str hΦ)⟩)))⟩))))))
  · refine ds_cons (ds_try2 (Ξ := fun _ _ => False) (Ξp := fun cls fs δ' => cls = .ref CP ∧ fs = [(("place" : Str), d)] ∧ δ' = ini n__law_refused [C.d (hdD fa)] 0) 1 nd ⟨rfl, by decide, .inl V.mL⟩ ⟨rfl, by decide, .inl V.mP⟩ (fun B1 pn xe u tk tp => ?_) (fun cls δ' z => z.elim) (fun cls fs δ' z => ?_))
    · exact ds_last (ds_expr (de_thunkP 0 (th.mono u.F) Cc rfl tp hgd hr rfl ⟨rfl, rfl, rfl⟩ hkf))
    · obtain ⟨rfl, rfl, rfl⟩ := z
      refine ⟨by show 1 < 2; decide, V.pL, V.pP, fun B2 a dd oe pn hp2 hX hz hv hdk => ?_⟩
      refine ds_last (ds_ret (de_if (dt_val (de_isiQB 1 V.xP List.mem_cons_self hdk hz.1 hv T.isi V.bI boot_IE V.kI ⟨_, rfl, iteT ?_⟩))))
      exact de_callB (cr_repr1 hgd hu) T.repr boot_repr (da_cons (de_xf V.fP V.nP rfl hz hv hX (de_nm 1 ⟨rfl, d, rfl, da_nil (rc_show1 hd hΦ)⟩)))
end K3
set_option maxHeartbeats 200000
set_option Elab.async false
set_option linter.all false
set_option maxRecDepth 100000
set_option maxHeartbeats 4000000
namespace K3
open PySem PySem.Spec PyProof.Rows L2 DL PySem.XT
open PySem.W (alike alikeAll dataLt dataLe AllAlike Sortable EachIs keyToks keyToksAll lex_pre)
variable {P : Program} {w : World} {K : PySem.W.Frag} {mg : Str → Option Value} {base : Heap} {f : Addr} {fd : FuncData} {k : Nat} {CV CP : Addr}
def behG (sts : List (List (St3 × Nat))) : Option Nat → List St3 → Option Nat
  | o, [] => o
  | none, _ :: es => behG sts none es
  | some n, e :: es => behG sts (thenE (rowA sts n) e) es
theorem thenE_lt {sts : List (List (St3 × Nat))} (h : StsOk sts) {n m : Nat} {e : St3} (ht : thenE (rowA sts n) e = some m) : m < sts.length := by
  unfold thenE at ht
  rw [Option.map_eq_some_iff] at ht
  obtain ⟨r, h1, h2⟩ := ht
  have hm := List.mem_of_find?_eq_some h1
  by_cases c : n < sts.length
  · have e1 := rowA_get (List.getElem?_eq_getElem c)
    rw [e1] at hm
    have := h.wf _ (List.getElem_mem c) r hm
    rw [← h2]; exact this
  · rw [rowA_out (by omega)] at hm
    cases hm
def S_law_behind : SpD := fun ds Φ => ∃ (sts : List (List (St3 × Nat))) (s : Nat) (vs : List St3), ds = [stsD sts, natD s, .tuple (vs.map s3D)] ∧ s < sts.length ∧ StsOk sts ∧ vs.length ≤ 1000 ∧ (∀ e ∈ vs, OkE e) ∧ Φ (optD (behG sts (some s) vs))
theorem drop_cons {α : Type} {l : List α} {i : Nat} {a : α} (h : l[i]? = some a) : l.drop i = a :: l.drop (i + 1) := by
  have hlt := (List.getElem?_eq_some_iff.mp h).1
  rw [← (List.getElem?_eq_some_iff.mp h).2, List.getElem_cons_drop]
theorem ok__law_behind (GT : Fn P w K mg base "_law_then" 1 ["states", "spot", "event"] (spD K S_law_then)) (F : Fd K "_law_behind" s__law_behind [] [] f fd) : FnOk P w K mg base CX0 2 f fd ["states", "spot", "seen"] (spD K S_law_behind) := by
  refine fnD F sc__law_behind (fun ds Φ h => by obtain ⟨_, _, _, rfl, _⟩ := h; rfl) (fun B cdv A outer s0 H E ds Φ hr hp hS => ?_)
  obtain ⟨sts, s, vs, rfl, hs, hok, hvl, hv, hΦ⟩ := hS
  have nd := sc__law_behind.nd
  refine ds_cons (ds_for [3] (pi_tup pe_w) (pg_name (i := 3) nd rfl (.inl rfl)) (wi_tup (de_nm 2 ⟨vs.map s3D, rfl, ?_⟩)))
  refine ⟨fun i δ => ∃ o c3, δ = ⟨0, [some (.d (stsD sts)), some (.d (optD o)), some (.d (.tuple (vs.map s3D))), c3]⟩ ∧ (∀ n, o = some n → n < sts.length) ∧ behG sts (some s) vs = behG sts o (vs.drop i), ⟨some s, none, rfl, fun n h => by injection h with h; omega, rfl⟩, fun i y δ hy hI => ?_, fun δ hI => ?_⟩
  · obtain ⟨o, c3, rfl, ho, hw⟩ := hI
    rw [List.getElem?_map, Option.map_eq_some_iff] at hy
    obtain ⟨e, hei, rfl⟩ := hy
    have he := hv e (List.mem_of_getElem? hei)
    rw [drop_cons hei] at hw
    refine wg_name ?_
    refine ds_last (ds_if (dt_cmp op_notN (de_nm 1 (de_non (rd_notN ⟨_, rfl, ?_⟩)))))
    cases o with
    | none => exact iteF (ds_nil ⟨none, _, rfl, fun n h => (by cases h), hw⟩)
    | some n =>
      refine iteT (ds_last (ds_set 1 (de_f (k' := 1) GT hr (da_cons (de_nm 0 (da_cons (de_nm 1 (da_cons (de_nm 3 (da_nil ⟨sts, n, e, rfl, ho n rfl, hok, he, ?_⟩)))))))) nd))
      exact ⟨thenE (rowA sts n) e, _, rfl, fun m hm => thenE_lt hok hm, hw⟩
  · obtain ⟨o, c3, rfl, ho, hw⟩ := hI
    rw [List.length_map, List.drop_length] at hw
    refine ds_last (ds_ret (de_nm 1 ?_))
    rw [hw] at hΦ
    exact hΦ
/-- both ways are one -/
theorem next_then {row : List (St3 × Nat)} {e : St3} : nextA row (s3D e) = thenE row e := by
  unfold nextA thenE
  congr 1
  refine congrArg (fun p => row.find? p) (funext fun r => ?_)
  rw [eqv3]
theorem walk_beh {sts : List (List (St3 × Nat))} (hok : StsOk sts) : ∀ (vs : List St3) (n : Nat), n < sts.length → (walkG sts n (vs.map s3D)).1 = behG sts (some n) vs
  | [], n, _ => rfl
  | e :: vs, n, hn => by
    have hr : sts[n]? = some (rowA sts n) := by
      rw [List.getElem?_eq_getElem hn, rowA_get (List.getElem?_eq_getElem hn)]
    show (walkG sts n (s3D e :: vs.map s3D)).1 = behG sts (thenE (rowA sts n) e) vs
    unfold walkG
    rw [hr, Option.bind_some, next_then]
    cases h : thenE (rowA sts n) e with
    | none =>
      have : ∀ vs : List St3, behG sts none vs = none := fun vs => by
        induction vs with
        | nil => rfl
        | cons a vs ih => exact ih
      exact (this vs).symm
    | some m => exact walk_beh hok vs m (thenE_lt hok h)
end K3
set_option maxHeartbeats 200000
set_option Elab.async false
set_option linter.all false
set_option maxRecDepth 100000
set_option maxHeartbeats 1000000
namespace DL
open PySem PySem.Spec PyProof.Rows L2 LamX
theorem inv_ph {X : Cx} {pins : List (Addr × Obj)} {σ : L2.St} {H : Hp} {s : Shared} (I : Inv X pins σ H s) {it : Nat} (h : ∀ y, X.N[it]? = some y → ¬ Vis X.env.scope y) (o : Option V) : Inv X pins (σ.set it o) H s :=
  ⟨I.ok, I.os, I.bare, I.base, let ⟨m, hn, hl⟩ := I.loc; ⟨m, hn, fun i x v e1 e2 e3 => by
    by_cases c : it = i
    · subst c
      exact absurd e3 (h x e1)
    · rw [List.getElem?_set_ne c] at e2
      exact hl i x v e1 e2 e3⟩, I.cell, I.free, I.freeC, I.pin, I.hok, (List.length_set).trans I.len⟩
/-- a name that no text writes holds the table -/
def tPh (it : Nat) (v : V) (t : TS) : TS := fun D σ H => t D (σ.set it (some v)) H
theorem pss_ph {X : Cx} {sts : List Stmt} {t : TS} {it : Nat} {v : V} (h : ∀ y, X.N[it]? = some y → ¬ Vis X.env.scope y) (p : PSs X sts t) : PSs X sts (tPh it v t) := ⟨fun pins s σ H D I q => p.run pins s _ H D (inv_ph I h _) q⟩
theorem Rep.tab {B : Bs} {δ : St'} {σ : List (Option V)} {F H : Hp} {P : Addr} {q : Str} {poss : List Pos} {ws : List V} {it : Nat} (r : Rep B δ σ F H) (no : ∀ (i : Nat) (c : C), δ.s[i]? = some (some c) → own? c = false) (hP : H P = some (mkCodes poss ws)) (hF : F P = none) (hp : B.p ≠ some P)
    (hd : DqAll B.K F ws (poss.map fun _ => codD q)) (hit : it < δ.s.length) : Rep ⟨⟨B.F, fun b => if b = P then none else B.H b, B.p, B.m⟩, B.w, B.K⟩ (δ.put it (tabC P q poss)) (σ.set it (some (.ref P))) F H := by
  have get : ∀ {i : Nat} {c : C}, (δ.put it (tabC P q poss)).s[i]? = some (some c) → (i = it ∧ c = tabC P q poss) ∨ (i ≠ it ∧ δ.s[i]? = some (some c)) := fun {i c} h => by
    rcases put_get h with ⟨a, b, _⟩ | ⟨a, b⟩
    · exact .inl ⟨a, b⟩
    · exact .inr ⟨a, b⟩
  refine ⟨r.ex, r.f0, fun b h1 h2 => ?_, fun b o h1 h2 => ?_, fun a h => ⟨(r.pot a h).1, ?_, (r.pot a h).2.2⟩, fun i c h => ?_, ?_, fun i j c c' hij h1 h2 o1 o2 => ?_⟩
  · have h2 : (if b = P then none else B.H b) ≠ none := h2
    by_cases e : b = P
    · rw [if_pos e] at h2; exact absurd rfl h2
    · rw [if_neg e] at h2; exact r.fr b h1 h2
  · have h1 : (if b = P then none else B.H b) = some o := h1
    by_cases e : b = P
    · rw [if_pos e] at h1; cases h1
    · rw [if_neg e] at h1; exact r.kp b o h1 h2
  · show (if a = P then none else B.H a) ≠ none
    have e : a ≠ P := fun z => hp (z ▸ h)
    rw [if_neg e]
    exact (r.pot a h).2.1
  · rcases get h with ⟨rfl, rfl⟩ | ⟨hi, h⟩
    · refine ⟨.ref P, List.getElem?_set_self (by rw [r.len]; exact hit), P, ws, rfl, ?_, hF, hP, fun p hp => (by injection hp), hd⟩
      show (if P = P then none else B.H P) = none
      rw [if_pos rfl]
    · obtain ⟨v, hv, hc⟩ := r.cell i c h
      have ho := no i c h
      refine ⟨v, by rw [List.getElem?_set_ne (fun z => hi z.symm)]; exact hv, ?_⟩
      cases c <;> first | exact hc | cases ho
  · show (σ.set it _).length = (δ.s.set it _).length
    rw [List.length_set, List.length_set]; exact r.len
  · rcases get h1 with ⟨rfl, rfl⟩ | ⟨hi, h1⟩
    · rcases get h2 with ⟨rfl, rfl⟩ | ⟨hj, h2⟩
      · exact absurd rfl hij
      · rw [no j c' h2] at o2; cases o2
    · rw [no i c h1] at o1; cases o1
section
variable {P : Program} {w : World} {K : PySem.W.Frag} {mg : Str → Option Value} {base : Heap} {CX : CXT} {x qual : Str} {st : Stmt} {f : Addr} {fd : FuncData} {N ps : List Str} {k : Nat} {sp : Sp}
/-- .. that is told which code it runs -/
theorem FnShX.ofC {dvs : List V} {kws : List (Str × V)} (F : FunD K x qual (defArgs st) (defBody st) (defScope st) dvs kws f fd) (sc : FnScope N ps (defScope st)) (ln : ∀ xs H Q E, sp xs H Q E → xs.length = ps.length)
    (bd : ∀ (cdv : Value), fd.code = cdv → ∀ (A : Around) (out : List Env) (s : Shared) (H : Hp) (xs : List V) (Q : VK) (E : XK), A.guards = some [] → Room k (A.deeper (envOfC qual (defScope st) s.heap.objs.size f cdv)) → sp xs H Q E →
      ∃ t, PSs (cxOf CX P w K mg base N qual (defScope st) f cdv A out s H E) (defBody st) t ∧ t { nx := fun _ G => Q .non G, rt := Q } (L2.start N xs) H) : FnShX P w K mg base CX (k + 1) f fd ps sp := by
  obtain ⟨o1, o2, d1, d2, c1, c2, an, cdv, ct, sl, rfl, hlk, hcode, -, -⟩ := F.ex
  constructor
  · exact ln
  intro A out s H ar us xs Q E hgd rm ev hbd hv hp
  have long := ln xs H Q E hp
  have inK : K.In s.heap := ev.mod.kin.keeps fun a o e => (ev.bs a o e).1
  have nol : s.heap.NoLimit := ev.mod.nolimit.keeps fun a o e => (ev.bs a o e).1
  have kinds : ∀ y, y ∈ ps.zip us → (defScope st).names.lookup y.1 = some .local ∨ ((defScope st).names.lookup y.1 = some .cell ∧ ((cellsFrom (s.heap.objs.size + 1) (defScope st).names []).lookup y.1).isSome = true) := by
    intro y hy
    cases sc.par y.1 (List.of_mem_zip hy).1 with
    | inl h => exact .inl h
    | inr h => exact .inr ⟨h, PySem.W.cellsFrom_some _ _ _ (.inl h)⟩
  apply codeAny_call_function rm.depth (inK _ _ hlk) rfl sc.co sc.gen rfl (PySem.W.codeRec_of inK hcode)
  apply hbd
  apply wpAny_newFunctionEnv_cells sc.kind kinds
  intro env0 rfl s1 made
  constructor
  · exact nol.keeps made.toInCall.keep
  apply codeAny_func
  obtain ⟨t, run, now⟩ := bd cdv rfl A out s H xs Q E hgd (rm.deeper _) hp
  have inv := inv_start (CX := CX) (E := E) sc rm.hd ev long hv made
  refine wpAny_mono (run.run [] s1 _ H _ inv now) ?_ fun _ _ z => z
  intro fl s2 hs
  cases fl with
  | brk => obtain ⟨_, _, _, z⟩ := hs; exact z.elim
  | cont => obtain ⟨_, _, _, z⟩ := hs; exact z.elim
  | next => obtain ⟨_, H2, J, z⟩ := hs; exact ⟨.non, H2, J.os, J.bare, J.base, J.hok, rfl, z⟩
  | ret u => obtain ⟨v, _, H2, J, rv, z⟩ := hs; exact ⟨v, H2, J.os, J.bare, J.base, J.hok, rv, z⟩
end
/-- a def that is handed the pot ahead, and makes lambdas: it finds the code objects of the places poss, and leaves those of others -/
abbrev SpPT := Nat → List Pos → List PyData → (PyData → Nat → List Pos → Prop) → Prop
def spPT (K : PySem.W.Frag) (P : Addr) (q : Str) (S : SpPT) : Sp := fun vs H Q _ => ∃ (F : Hp) (p : Addr) (vs' : List V) (ds : List PyData) (n : Nat) (poss : List Pos) (ws : List V) (Φ : PyData → Nat → List Pos → Prop),
  vs = .ref p :: vs' ∧ Same F H ∧ F p = none ∧ PotAt none H p n ∧ DqAll K F vs' ds ∧ p ≠ P ∧ F P = none ∧ H P = some (mkCodes poss ws) ∧ DqAll K F ws (poss.map fun _ => codD q) ∧ S n poss ds Φ ∧
  ∀ v y n' poss' ws' F' H', Same F F' → Same F' H' → (∀ b, F b = none → H b ≠ none → F' b = none) → (∀ b o, H b = some o → b ≠ p → b ≠ P → H' b = some o) → PotAt none H' p n' → H' P = some (mkCodes poss' ws') → DqAll K F' ws' (poss'.map fun _ => codD q) → Dq K F' v y → Φ y n' poss' → Q v H'
section
variable {P : Program} {w : World} {K : PySem.W.Frag} {mg : Str → Option Value} {base : Heap} {x qual : Str} {st : Stmt} {f : Addr} {fd : FuncData} {N ps : List Str} {k : Nat} {PT : Addr} {q : Str}
theorem fnPT {S : SpPT} {dvs : List V} {kws : List (Str × V)} (it : Nat) (F : FunD K x qual (defArgs st) (defBody st) (defScope st) dvs kws f fd) (sc : FnScope N ps (defScope st)) (hit : it < N.length) (hps : ps.length ≤ it) (hph : ∀ y, N[it]? = some y → ¬ Vis (defScope st) y)
    (len : ∀ n poss ds Φ, S n poss ds Φ → ds.length + 1 = ps.length)
    (body : ∀ (B : B0) (cdv : Value), fd.code = cdv → ∀ (A : Around) (outer : List Env) (s : Shared) (H : Hp) (E : XK) (n : Nat) (poss : List Pos) (ds : List PyData) (Φ : PyData → Nat → List Pos → Prop), A.guards = some [] → Room k (A.deeper (envOfC qual (defScope st) s.heap.objs.size f cdv)) → B.p ≠ none → S n poss ds Φ →
      DSs B (bodyX P w K mg base N qual (defScope st) f cdv A outer s H E) (defBody st) ((ini N (.pot :: ds.map C.d) n).put it (tabC PT q poss)) (fun δ => ∃ poss', δ.s[it]? = some (some (tabC PT q poss')) ∧ Φ .none δ.n poss') fun y δ => ∃ poss', δ.s[it]? = some (some (tabC PT q poss')) ∧ Φ y δ.n poss') :
    FnShX P w K mg base CX0 (k + 1) f fd ps (spPT K PT q S) := by
  refine FnShX.ofC F sc (fun vs H Q E h => ?_) (fun cdv hcv A outer s H vs Q E hgd hr h => ?_)
  · obtain ⟨F', p, vs', ds, n, poss, ws, Φ, rfl, _, _, _, hd, _, _, _, _, hS, _⟩ := h
    rw [List.length_cons, dpAll_len hd]; exact len n poss ds Φ hS
  · obtain ⟨F', p, vs', ds, n, poss, ws, Φ, rfl, e, hp, hpot, hd, hpP, hFP, hHP, hds, hS, qq⟩ := h
    refine ⟨_, PSs.nox (pss_ph (it := it) (v := .ref PT) hph pss_w), ?_⟩
    have hl : ds.length + 1 = ps.length := len n poss ds Φ hS
    have r0 := rep_iniP (w := w) (N := N) e hp hpot hd
    have hil : it < (ini N (C.pot :: ds.map C.d) n).s.length := by
      show it < ((C.pot :: ds.map C.d).map some ++ List.replicate (N.length - (C.pot :: ds.map C.d).length) none).length
      simp only [List.length_append, List.length_map, List.length_cons, List.length_replicate]
      omega
    have r1 := Rep.tab (it := it) (q := q) r0 (fun i c h => by
      obtain ⟨v, _, _, h3⟩ := start_get (vs := V.ref p :: vs') (cs := C.pot :: ds.map C.d) (n := n) (N := N) (by simp [dpAll_len hd]) h
      cases i with
      | zero => simp at h3; subst h3; rfl
      | succ j =>
        simp only [List.getElem?_cons_succ, List.getElem?_map, Option.map_eq_some_iff] at h3
        obtain ⟨d, _, rfl⟩ := h3
        rfl) hHP hFP (fun z => hpP (by injection z)) hds hil
    have fin : ∀ {v : V} {y : PyData} {δ' : St'} {σ' : List (Option V)} {F2 H2 : Hp}, Rep ⟨⟨F', fun b => if b = PT then none else H b, some p, none⟩, w, K⟩ δ' σ' F2 H2 → Dq K F2 v y → (∃ poss', δ'.s[it]? = some (some (tabC PT q poss')) ∧ Φ y δ'.n poss') → Q v H2 := by
      intro v y δ' σ' F2 H2 r2 d2 ⟨poss', h1, h2⟩
      obtain ⟨u, _, a, ws', rfl, hB, hF2, hH2, hpa, hd2⟩ := r2.cell it _ h1
      obtain rfl : a = PT := hpa PT rfl
      refine qq v y δ'.n poss' ws' F2 H2 r2.f0 r2.ex (fun b h1 h2 => ?_) (fun b o h1 h2 h3 => ?_) (r2.pot p rfl).2.2 hH2 hd2 d2 h2
      · by_cases e : b = a
        · rw [e]; exact hF2
        · exact r2.fr b h1 (by show (if b = a then none else H b) ≠ none; rw [if_neg e]; exact h2)
      · exact r2.kp b o (by show (if b = a then none else H b) = some o; rw [if_neg h3]; exact h1) fun z => h2 (by injection z with z; exact z.symm)
    exact body ⟨F', fun b => if b = PT then none else H b, some p, none⟩ cdv hcv A outer s H E n poss ds Φ hgd hr (fun z => by cases z) hS _ F' H r1 _ (fun δ' σ' F2 H2 e2 r2 z => fin r2 .non z) fun v y δ' σ' F2 H2 e2 r2 d2 z => fin r2 d2 z
end
end DL
set_option maxHeartbeats 200000
set_option Elab.async false
set_option linter.all false
set_option maxRecDepth 100000
set_option maxHeartbeats 1000000
namespace DL
open PySem PySem.Spec PyProof.Rows L2 LamX
/-- behind a call that drew from our pot and grew our table -/
theorem Rep.calledPT {B : Bs} {δ : St'} {σ : List (Option V)} {F H F' H' : Hp} {i jt : Nat} {xs : List PyData} {a P : Addr} {q : Str} {poss poss' : List Pos} {ws' : List V} {n' : Nat} (r : Rep B δ σ F H) (hij : i ≠ jt) (hi : δ.s[i]? = some (some (.own xs))) (hσ : σ[i]? = some (some (.ref a)))
    (hj : δ.s[jt]? = some (some (tabC P q poss))) (e1 : Same F F') (e2 : Same F' H') (fr : ∀ b, F b = none → H b ≠ none → F' b = none) (kp : ∀ b o, H b = some o → b ≠ a → b ≠ P → H' b = some o) (pot : PotAt none H' a n') (hT : H' P = some (mkCodes poss' ws'))
    (hd : DqAll B.K F' ws' (poss'.map fun _ => codD q)) : ∃ x y z : Int, 0 ≤ z ∧ z ≤ (n' : Int) ∧ Rep B ((δ.put jt (tabC P q poss')).put i (.own [.int x, .int y, .int z])) σ F' H' := by
  obtain ⟨v, h1, a', us, rfl, h2, h3, h4, h5⟩ := r.cell i _ hi
  rw [hσ] at h1
  obtain rfl : a = a' := by injection h1 with h1; injection h1 with h1; injection h1
  obtain ⟨v, g1, P', vs, rfl, g2, g3, g4, gp, g5⟩ := r.cell jt _ hj
  obtain rfl : P' = P := gp P rfl
  obtain ⟨x, y, z, h6, h7, h8⟩ := pot_num pot
  have hF' : F' a = none := fr a h3 (by rw [h4]; exact fun q => by cases q)
  have gF' : F' P' = none := fr P' g3 (by rw [g4]; exact fun q => by cases q)
  have haP : a ≠ P' := fun z => by
    rw [z, g4] at h4
    cases h4
  have r1 : Rep B δ σ F' (upd (upd H' a (.lst us)) P' (mkCodes poss vs)) := r.called e1 (fun b o q => by
    have n1 : b ≠ a := fun z => by rw [z, hF'] at q; cases q
    have n2 : b ≠ P' := fun z => by rw [z, gF'] at q; cases q
    rw [upd_ne n2, upd_ne n1]; exact e2 b o q) fr (fun b o q => by
    by_cases c : b = P'
    · subst c
      rw [g4] at q
      rw [upd_same]; exact q
    · rw [upd_ne c]
      by_cases e : b = a
      · subst e
        rw [h4] at q
        rw [upd_same]; exact q
      · rw [upd_ne e]; exact kp b o q e c)
  have r2 := r1.write (c2 := tabC P' q poss') (o := mkCodes poss' ws') hj rfl g1 g2 gF' rfl ⟨P', ws', rfl, g2, gF', upd_same, fun p hp => (by injection hp), hd⟩
  have hi2 : (δ.put jt (tabC P' q poss')).s[i]? = some (some (.own xs)) := by
    show (δ.s.set jt _)[i]? = _
    rw [List.getElem?_set_ne (fun z => hij z.symm)]; exact hi
  have r3 := r2.write (c2 := .own [.int x, .int y, .int z]) (o := .lst [.int x, .int y, .int z]) hi2 rfl hσ h2 hF' rfl ⟨a, _, rfl, h2, hF', upd_same, .cons (.int _) (.cons (.int _) (.cons (.int _) .nil))⟩
  have eH : upd (upd (upd (upd H' a (.lst us)) P' (mkCodes poss vs)) P' (mkCodes poss' ws')) a (.lst [.int x, .int y, .int z]) = H' := by
    funext b
    by_cases c : b = a
    · subst c; rw [upd_same, h6]
    · rw [upd_ne c]
      by_cases e : b = P'
      · subst e; rw [upd_same, hT]
      · rw [upd_ne e, upd_ne e, upd_ne c]
  rw [eH] at r3
  exact ⟨x, y, z, h7, h8, r3⟩
structure FnTab (P : Program) (w : World) (K : PySem.W.Frag) (mg : Str → Option Value) (base : Heap) (x : Str) (k : Nat) (ps : List Str) (PT : Addr) (q : Str) (S : SpPT) : Prop where
  ex : ∃ f fd, mg x = some (.ref f) ∧ PySem.W.keepIn K (.ref f) = true ∧ Binds K fd ps [] ∧ FnShX P w K mg base CX0 k f fd ps (spPT K PT q S)
section
variable {B : B0} {X : Cx} {e : Expr} {es : List Expr} {δ : St'} {Φ : PE1} {p pos pp : Pos} {k k' : Nat} {ps : List Str} {x pn : Str} {PT : Addr} {q : Str}
/-- f(pot, e, ..), of a def that makes lambdas; the pot and the table are our own -/
theorem de_fPT {S : SpPT} (i jt : Nat) {xs : List PyData} {poss : List Pos} (G : FnTab X.prog X.w X.K X.mg X.base x k ps PT q S) (hgd : X.A.guards = some []) (hr : Room k' X.A) (hij : i ≠ jt)
    (h : DA B X es δ fun ds δ' => ∃ (u v w : Int) (n : Nat) (poss : List Pos), δ'.s[i]? = some (some (.own [.int u, .int v, .int w])) ∧ δ'.s[jt]? = some (some (tabC PT q poss)) ∧ 0 ≤ w ∧ w ≤ (n : Int) ∧
      S n poss ds fun y n' poss' => ∀ u' v' w' : Int, 0 ≤ w' → w' ≤ (n' : Int) → Φ y ((δ'.put jt (tabC PT q poss')).put i (.own [.int u', .int v', .int w']))) (hk : k ≤ k' := by decide)
    (hi : δ.s[i]? = some (some (.own xs)) := by rfl) (hN : X.N[i]? = some pn := by rfl)
    (hv : Vis X.env.scope pn := by first | exact Or.inl rfl | exact Or.inr (Or.inl rfl) | exact Or.inr (Or.inr rfl)) (hd : (pn == ("__debug__" : Str)) = false := by decide)
    (hcd : (pn == ("__classdict__" : Str)) = false := by decide) (hg : Gl X x := by rfl) (hdb : (x == ("__debug__" : Str)) = false := by decide) (he : starEach (.Name pn pp :: es) X.env = (false, eval (.Name pn pp) X.env) :: starEach es X.env := by rfl) (hpl : (backTo pos (starEach es X.env)).any (·.1) = false := by rfl) :
    DE B X (.Call (.Name x p) (.Name pn pp :: es) [] pos) δ Φ := by
  obtain ⟨f, fd, h1, h2, h3, h4⟩ := G.ex
  refine .of (pe_callShX (E := fun _ _ _ _ => False) h4 hgd (hr.mono hk) hg h1 h2 h3 (fun σ _ _ _ _ _ _ z => z.elim) (pa_cons (pe_var hN hv hd hcd) pa_w he) hdb he hpl) fun σ F H r Q qq => ?_
  obtain ⟨v0, hv0, a, us, rfl, hB, hF, hH, hD⟩ := r.cell i _ hi
  refine ⟨.ref a, hv0, h σ F H r _ fun vs ds δ' F' H' e1 r' d ⟨u, v, w, n, poss', hi', hj', hw, hn, hS⟩ => ?_⟩
  obtain ⟨v1, hv1, a1, us1, rfl, hB1, hF1, hH1, hD1⟩ := r'.cell i _ hi'
  rw [hv0] at hv1
  obtain rfl : a = a1 := by injection hv1 with h1; injection h1 with h1; injection h1
  have hus : us1 = [.int u, .int v, .int w] := by
    cases hD1 with
    | cons d1 d2 => cases d2 with
      | cons d2 d3 => cases d3 with
        | cons d3 d4 => cases d4; cases d1; cases d2; cases d3; rfl
  subst hus
  obtain ⟨v2, g1, P', ws, rfl, g2, g3, g4, gp, g5⟩ := r'.cell jt _ hj'
  obtain rfl : P' = PT := gp PT rfl
  have haP : a ≠ P' := fun z => by
    rw [z, g4] at hH1
    cases hH1
  refine ⟨F', a, vs, ds, n, poss', ws, _, rfl, r'.ex, hF1, num_pot hH1 hw hn, d, haP, g3, g4, g5, hS, fun y0 y n' poss2 ws' F2 H2 q1 q2 q3 q4 q5 q6 q7 q8 q9 => ?_⟩
  obtain ⟨u', v', w', hw1, hw2, r2⟩ := r'.calledPT hij hi' hv0 hj' q1 q2 q3 q4 q5 q6 q7
  exact qq y0 y _ F2 H2 (e1.trans q1) r2 q8 (q9 u' v' w' hw1 hw2)
end
end DL
set_option maxHeartbeats 200000
set_option Elab.async false
set_option linter.all false
set_option maxRecDepth 100000
set_option maxHeartbeats 1000000
namespace DL
open PySem PySem.Spec PyProof.Rows L2 LamX
def spLT (K : PySem.W.Frag) (PT : Addr) (S : SpD) : Sp := fun vs H Q _ => ∃ (F : Hp) (ds : List PyData) (Φ : PyData → Prop), Same F H ∧ DqAll K F vs ds ∧ F PT = none ∧ H PT = some (.tbl #[]) ∧ S ds Φ ∧ ∀ v y F' H', Same F' H' → Dq K F' v y → Φ y → Q v H'
section
variable {P : Program} {w : World} {K : PySem.W.Frag} {mg : Str → Option Value} {base : Heap} {x qual : Str} {st : Stmt} {f : Addr} {fd : FuncData} {N ps : List Str} {k : Nat} {PT : Addr} {q : Str}
/-- as a def that shows things: guards are known -/
theorem fnLTS {S : SpD} {dvs : List V} {kws : List (Str × V)} (it : Nat) (q : Str) (F : FunD K x qual (defArgs st) (defBody st) (defScope st) dvs kws f fd) (sc : FnScope N ps (defScope st)) (hit : it < N.length) (hps : ps.length ≤ it) (hph : ∀ y, N[it]? = some y → ¬ Vis (defScope st) y)
    (len : ∀ ds Φ, S ds Φ → ds.length = ps.length)
    (body : ∀ (B : B0) (cdv : Value), fd.code = cdv → ∀ (A : Around) (outer : List Env) (s : Shared) (H : Hp) (E : XK) (ds : List PyData) (Φ : PyData → Prop), A.guards = some [] → Room k (A.deeper (envOfC qual (defScope st) s.heap.objs.size f cdv)) → B.p = none → S ds Φ →
      DSs B (bodyX P w K mg base N qual (defScope st) f cdv A outer s H E) (defBody st) ((ini N (ds.map C.d) 0).put it (tabC PT q [])) (fun _ => Φ .none) fun y _ => Φ y) :
    FnShX P w K mg base CX0 (k + 1) f fd ps (spLT K PT S) := by
  refine FnShX.ofC F sc (fun vs H Q E h => ?_) (fun cdv hcv A outer s H vs Q E hgd hr h => ?_)
  · obtain ⟨F', ds, Φ, _, hd, _, _, hS, _⟩ := h
    rw [dpAll_len hd]; exact len ds Φ hS
  · obtain ⟨F', ds, Φ, e, hd, hFP, hHP, hS, qq⟩ := h
    refine ⟨_, PSs.nox (pss_ph (it := it) (v := .ref PT) hph pss_w), ?_⟩
    have hl : ds.length = ps.length := len ds Φ hS
    have r0 := rep_iniD (w := w) (N := N) e hd
    have hil : it < (ini N (ds.map C.d) 0).s.length := by
      show it < ((ds.map C.d).map some ++ List.replicate (N.length - (ds.map C.d).length) none).length
      simp only [List.length_append, List.length_map, List.length_replicate]
      omega
    have r1 := Rep.tab (it := it) (q := q) (poss := []) (ws := []) r0 (fun i c h => by
      obtain ⟨v, _, _, h3⟩ := start_get (vs := vs) (cs := ds.map C.d) (n := 0) (N := N) (by simp [dpAll_len hd]) h
      rw [List.getElem?_map, Option.map_eq_some_iff] at h3
      obtain ⟨d, _, rfl⟩ := h3
      rfl) hHP hFP (fun z => by cases z) .nil hil
    exact body ⟨F', fun b => if b = PT then none else H b, none, none⟩ cdv hcv A outer s H E ds Φ hgd hr rfl hS _ F' H r1 _ (fun δ' σ' F2 H2 e2 r2 z => qq .non .none F2 H2 r2.ex .non z) fun v y δ' σ' F2 H2 e2 r2 d2 z => qq v y F2 H2 r2.ex d2 z
end
end DL
set_option maxHeartbeats 200000
set_option Elab.async false
set_option linter.all false
set_option maxRecDepth 100000
set_option maxHeartbeats 1000000
namespace DL
open PySem PySem.Spec PyProof.Rows L2 LamX
section
variable {P : Program} {w : World} {K : PySem.W.Frag} {mg mb : Str → Option Value} {k : Nat} {fa a c PT : Addr} {fd : FuncData} {x : Str} {sp : Sp} {s : Shared} {vs : List Value} {ns : List Int}
abbrev BmAt (mg : Str → Option Value) (h : Heap) : Prop := ∃ (bm : Addr) (ob : Obj), mg "__builtins__" = some (.ref bm) ∧ bm ≠ builtinsNs ∧ h.get? bm = some ob ∧ ob.cls = .type "module" ∧ ob.dict = some builtinsNs ∧ ob.data = .plain
theorem callShT_at (inK : K.In s.heap) (nsG : s.heap.Ns mainGlobals mg) (nsB : s.heap.Ns builtinsNs mb) (bt : ∀ y : Str, y ≠ "__name__" → mb y = bootBuiltins y) (nol : s.heap.NoLimit) (gn : s.gens = #[])
    (tab : s.heap.get? PT = some { cls := .none, data := .fields #[] }) (nT : K.lookup PT = none) (CH : PySem.W.CodeHd s.heap c PT) (hbm : BmAt mg s.heap)
    (at' : s.heap.get? a = some { cls := .type "list", data := .seq vs.toArray }) (rm : Room k callerA) (F : ∀ base : Heap, K.In base → base.Ns mainGlobals mg → TabB base mg c PT → FnShX P w K mg base CX0 k fa fd [x] sp)
    (bind : ∀ (s : Shared) (u : Value), BindsTo s fd ⟨[u], []⟩ [(x, u)]) {H : Hp} (only : ∀ b, H b = none ∨ b = PT ∨ ∃ o xs, H b = some (.frz o (.lst xs))) (hP : H PT = some (.tbl #[])) (hsp : sp [.ref a] H (fun v _ => v = .bl true) fun _ _ _ => False) (hok : HOk P w H s.heap)
    (one : ∀ b, H b ≠ none → (b = a ∧ K.lookup a = none) ∨ b = PT) :
    codeAny (model P w) callerA (.call (.ref fa) ⟨[.ref a], []⟩) (EndOf s) s := by
  have free : ∀ {b : Addr} {o : Obj}, s.heap.get? b = some o → (∀ vs n, o.data ≠ .seq vs n) → o.data ≠ .fields #[] → H b = none := by
    intro b o h h1 h2
    cases z : H b with
    | none => rfl
    | some u =>
      rcases one b (by rw [z]; exact fun q => nomatch q) with ⟨rfl, _⟩ | rfl
      · rw [at'] at h
        cases h
        exact absurd rfl (h1 _ _)
      · rw [tab] at h
        cases h
        exact absurd rfl h2
  have stays : ∀ {b : Addr} {o : Obj}, s.heap.get? b = some o → H b = none → (hidT s.heap H).get? b = some o := fun h1 h2 => hidT_get h1 h2
  have dicts : ∀ {b : Addr} {m : Str → Option Value}, s.heap.Ns b m → (hidT s.heap H).Ns b m := by
    rintro b m ⟨o, es, ep, h1, h2, h3⟩
    exact ⟨o, es, ep, stays h1 (free h1 (fun vs n z => by rw [h2] at z; cases z) fun z => by rw [h2] at z; cases z), h2, h3⟩
  have inB : K.In (hidT s.heap H) := by
    intro b o h
    refine stays (inK b o h) ?_
    cases z : H b with
    | none => rfl
    | some u =>
      rcases one b (by rw [z]; exact fun q => nomatch q) with ⟨rfl, h2⟩ | rfl
      · rw [h2] at h; cases h
      · rw [nT] at h; cases h
  have lim : (hidT s.heap H).NoLimit := by
    obtain ⟨m, h1, h2⟩ := nol
    exact ⟨m, dicts h1, h2⟩
  have TB : TabB (hidT s.heap H) mg c PT := by
    refine ⟨?_, ?_, fun z => ?_⟩
    · obtain ⟨o, us, file, tf, flags, tg, inF, text, tt, e1, r1, r2, r3, r4, r5, r6, r7, r8, hne⟩ := CH
      refine ⟨o, us, file, tf, flags, tg, inF, text, tt, stays e1 (free e1 (fun vs n z => ?_) fun z => ?_), r1, r2, r3, r4, r5, r6, r7, r8, hne⟩
      · rw [r2] at z; cases z
      · rw [r2] at z
        cases z
        simp at r3
    · obtain ⟨bm, ob, b1, b2, b3, b4, b5, b6⟩ := hbm
      have nG : bm ≠ mainGlobals := fun q => by
        obtain ⟨o, es, ep, e, hd, _⟩ := nsG
        rw [q, e] at b3
        cases b3
        rw [hd] at b6
        cases b6
      have nP : bm ≠ PT := fun q => by
        rw [q, tab] at b3
        cases b3
        cases b6
      exact ⟨bm, ob, b1, b2, nG, nP, stays b3 (free b3 (fun vs n z => by rw [b6] at z; cases z) fun z => by rw [b6] at z; cases z), b4, b5, b6⟩
    · obtain ⟨o, es, ep, e, hd, _⟩ := nsG
      rw [z, tab] at e
      cases e
      cases hd
  have ev : Env0 P w K mg (hidT s.heap H) callerA [] s H := by
    refine ⟨rfl, ⟨inB, dicts nsG, ⟨mb, dicts nsB, bt⟩, lim⟩, fun b o h => of_hidT h, Nat.le_of_eq (hidT_size _ _), trivial, ?_, hok, .of_eq gn⟩
    intro b hb
    cases hb
  refine codeAny_mono ((F _ inB (dicts nsG) TB).go callerA [] s H ⟨[.ref a], []⟩ [.ref a] [.ref a] _ _ rfl rm ev (bind s (.ref a)) (.cons rfl .nil) hsp) ?_
  intro r s2 h
  cases r with
  | error e => exact h.elim
  | ok fl =>
    cases fl with
    | brk => exact h.elim
    | cont => exact h.elim
    | next => exact h.elim
    | ret u =>
      obtain ⟨v, H2, h1, h2, un, hok2, rv, hv⟩ := h
      have hv : v = .bl true := hv
      subst hv
      have rv : u = Value.bool true := rv
      subst rv
      have key : ∀ b o, b ≠ PT → s.heap.get? b = some o → s2.heap.get? b = some o := fun b o nb hb => by
        rcases only b with z | z | ⟨o', xs, z⟩
        · exact un.keep b o hb z (by intro q; cases q) (by intro q; cases q)
        · exact absurd z nb
        · obtain ⟨q1, _⟩ := hok b _ z
          obtain ⟨q2, _⟩ := hok2 b _ (un.frzs b o' _ z)
          rw [hb] at q1
          cases q1
          exact q2
      obtain ⟨more, hm⟩ : ∃ more : Array Value, s2.heap.get? PT = some { cls := .none, data := .fields more } := by
        obtain ⟨more, z⟩ := un.tbls PT #[] hP
        exact ⟨_, hok2 PT _ z⟩
      refine ⟨rfl, ⟨fun b o e => ?_, fun b o e => ?_⟩, h1, h2⟩
      · by_cases hb : b = PT
        · subst hb
          rw [tab] at e
          cases e
          exact .inr (.inl ⟨(CH.tab tab).isCodeTable, rfl, #[], more, rfl, by rw [Array.empty_append]; exact hm⟩)
        · exact .inl (key b o hb e)
      · by_cases hb : b = PT
        · subst hb
          exact ⟨_, hm⟩
        · exact ⟨o, key b o hb e⟩
theorem callShT (inK : K.In s.heap) (nsG : s.heap.Ns mainGlobals mg) (nsB : s.heap.Ns builtinsNs mb) (bt : ∀ y : Str, y ≠ "__name__" → mb y = bootBuiltins y) (nol : s.heap.NoLimit) (gn : s.gens = #[])
    (tab : s.heap.get? PT = some { cls := .none, data := .fields #[] }) (nT : K.lookup PT = none) (CH : PySem.W.CodeHd s.heap c PT) (hbm : BmAt mg s.heap)
    (at' : s.heap.get? a = some { cls := .type "list", data := .seq vs.toArray }) (hi : IntsAre vs ns) (hl : ns.length ≤ sizeLine) (rm : Room k callerA) (F : ∀ base : Heap, K.In base → base.Ns mainGlobals mg → TabB base mg c PT → FnShX P w K mg base CX0 k fa fd [x] sp)
    (bind : ∀ (s : Shared) (u : Value), BindsTo s fd ⟨[u], []⟩ [(x, u)]) (hsp : ∀ H : Hp, H PT = some (.tbl #[]) → a ≠ PT → SqL K H a (ns.map V.int) → sp [.ref a] H (fun v _ => v = .bl true) fun _ _ _ => False) :
    codeAny (model P w) callerA (.call (.ref fa) ⟨[.ref a], []⟩) (EndOf s) s := by
  have rv := vals_ints hi
  have big : vs.length ≤ sizeLine := by rw [hi.length]; exact hl
  have haP : a ≠ PT := fun z => by
    rw [z, tab] at at'
    cases at'
  cases hk : K.lookup a with
  | some o =>
    have e := (inK a o hk).symm.trans at'
    injection e with e
    subst e
    let H : Hp := fun b => if b = PT then some (.tbl #[]) else none
    have here : H PT = some (.tbl #[]) := if_pos rfl
    have there : ∀ {b : Addr}, b ≠ PT → H b = none := fun {b} h => if_neg h
    refine callShT_at inK nsG nsB bt nol gn tab nT CH hbm at' rm F bind (H := H) (fun b => ?_) here (hsp H here haP (.inr ⟨_, vs.toArray, _, hk, rfl, rfl, rfl, by rw [List.size_toArray]; exact big, by simpa using rv⟩)) (fun b u h => ?_) fun b h => ?_
    · by_cases q : b = PT
      · exact .inr (.inl q)
      · exact .inl (there q)
    · by_cases q : b = PT
      · subst q
        rw [here] at h
        cases h
        exact tab
      · rw [there q] at h; cases h
    · by_cases q : b = PT
      · exact .inr q
      · exact absurd (there q) h
  | none =>
    let o : Obj := { cls := .type "list", data := .seq vs.toArray }
    let H : Hp := fun b => if b = PT then some (.tbl #[]) else if b = a then some (.frz o (.lst (ns.map V.int))) else none
    have hereP : H PT = some (.tbl #[]) := if_pos rfl
    have here : H a = some (.frz o (.lst (ns.map V.int))) := (if_neg haP).trans (if_pos rfl)
    have there : ∀ {b : Addr}, b ≠ PT → b ≠ a → H b = none := fun {b} h1 h2 => (if_neg h1).trans (if_neg h2)
    refine callShT_at inK nsG nsB bt nol gn tab nT CH hbm at' rm F bind (H := H) (fun b => ?_) hereP (hsp H hereP haP (.inl (.inr ⟨o, here⟩))) (fun b u h => ?_) fun b h => ?_
    · by_cases q : b = PT
      · exact .inr (.inl q)
      · by_cases q2 : b = a
        · subst q2; exact .inr (.inr ⟨_, _, here⟩)
        · exact .inl (there q q2)
    · by_cases q : b = PT
      · subst q
        rw [hereP] at h
        cases h
        exact tab
      · by_cases q2 : b = a
        · subst q2
          have h := here.symm.trans h
          injection h with h
          subst h
          exact ⟨at', by rw [List.length_map]; exact hl, vs, _, rv, at'⟩
        · rw [there q q2] at h; cases h
    · by_cases q : b = PT
      · exact .inr q
      · by_cases q2 : b = a
        · exact .inl ⟨q2, hk⟩
        · exact absurd (there q q2) h
end
/-- the walk of such a law -/
theorem walkShT {l : PySem.W.OpenLaw} {n k : Nat} {q : Program} {loose : List Str} {XP : (Str → Option Value) → Heap → Prop} {YP : World → Heap → Prop} {d : DefRec} {x : Str}
    (hn : l.most = some n) (hn2 : n ≤ sizeLine) (hdf : d.params.defaults = []) (rm : Room k callerA)
    (F : ∀ (w : World) (mg : Str → Option Value) (fa : Addr) (h : Heap), YP w h → h.Ns mainGlobals mg → mg d.name = some (.ref fa) →
      ∃ (K : PySem.W.Frag) (fd : FuncData) (sp : Sp) (c PT : Addr), K.In h ∧ h.get? PT = some { cls := .none, data := .fields #[] } ∧ K.lookup PT = none ∧ PySem.W.CodeHd h c PT ∧ (∀ (s : Shared) (u : Value), BindsTo s fd ⟨[u], []⟩ [(x, u)]) ∧
        (∀ (H : Hp) (a : Addr) (ns : List Int), ns.length ≤ n → H PT = some (.tbl #[]) → a ≠ PT → SqL K H a (ns.map V.int) → sp [.ref a] H (fun v _ => v = .bl true) fun _ _ _ => False) ∧
        ∀ base : Heap, K.In base → base.Ns mainGlobals mg → TabB base mg c PT → FnShX l.prog w K mg base CX0 k fa fd [x] sp) :
    PySem.W.WalkO q loose XP YP l.row.toRowW d [] (fun f vs => PySem.call f vs) := by
  apply Att.attach_call hn hdf
  intro w s₀ s₁ mg mb fa o pm cd doc a vs ns G Y ho hd hcd hmg hobj hints hlen hg
  obtain ⟨K, fd, sp, c, PT, inK, hT, nT, CH, hb, hsp, hF⟩ := F w mg fa _ Y G.T.g hmg
  exact callShT inK G.T.g G.T.b G.T.builtins G.T.nolimit hg hT nT CH G.T.bmain hobj hints (Nat.le_trans hlen hn2) rm hF hb fun H hH hne hS => hsp H a ns hlen hH hne hS
end DL
set_option maxHeartbeats 200000
set_option Elab.async false
set_option linter.all false
set_option maxRecDepth 100000
set_option maxHeartbeats 4000000
namespace K3
open PySem PySem.Spec PyProof.Rows L2 DL PySem.XT
open PySem.W (alike alikeAll dataLt dataLe AllAlike Sortable EachIs keyToks keyToksAll lex_pre)
variable {P : Program} {w : World} {K : PySem.W.Frag} {mg : Str → Option Value} {base : Heap} {f : Addr} {fd : FuncData} {k : Nat} {CV CP : Addr}
theorem eqv_str {s : Str} {a : PyData} (h : PyData.eqv (.str s) a = true) : a = .str s := by
  cases a <;> simp [PyData.eqv] at h
  rw [h]
theorem eqv_ev {e : St3} {x : PyData} (h : PyData.eqv (s3D e) x = true) : x = s3D e := by
  cases x with
  | tuple xs =>
    have h : PyData.eqvAll [.str e.1, .str e.2.1, .str e.2.2] xs = true := by simpa [s3D, PyData.eqv] using h
    rcases xs with _ | ⟨a, _ | ⟨b, _ | ⟨c, _ | ⟨d, r⟩⟩⟩⟩ <;> simp [PyData.eqvAll] at h
    obtain ⟨h1, h2, h3⟩ := h
    rw [eqv_str h1, eqv_str h2, eqv_str h3]
    rfl
  | _ => simp [s3D, PyData.eqv] at h
theorem evA_good {e : St3} (h : VwE e) : evA (s3D e) = true := by
  have hn : ∀ {s : Str}, IsNm s → nmB (.str s) = true := fun h => isNmB_iff.mpr h
  show (if toV (.str e.1) = .str "say" then nmB (.str e.2.1) && nmB (.str e.2.2) else decide (toV (.str e.1) = .str "hear") && (nmB (.str e.2.1) && (nmB (.str e.2.2) || decide (toV (.str e.2.2) = .str flt)))) = true
  rcases h with ⟨h1, h2, h3⟩ | ⟨h1, h2, h3⟩
  · have ye : toV (.str ("say" : Str)) = .str "say" := rfl
    rw [h1, if_pos ye, hn h2, hn h3]; rfl
  · have ne : ¬ toV (.str ("hear" : Str)) = .str "say" := by decide +kernel
    rw [h1, if_neg ne, hn h2, decide_eq_true (show toV (.str ("hear" : Str)) = .str "hear" from rfl)]
    rcases h3 with h3 | h3
    · rw [hn h3]; rfl
    · rw [h3, decide_eq_true (show toV (.str flt) = .str flt from rfl)]; simp
theorem walk_bad {h : Str} {sts : List (List (St3 × Nat))} {es : List St3} (hE : EndOk h sts es) : ∀ (xs : List PyData) (n : Nat), (∃ x ∈ xs, evA x = false) → vwA (.tuple (xs.drop (walkG sts n xs).2)) = false
  | [], n, ⟨x, hx, _⟩ => by cases hx
  | x :: xs, n, hb => by
    have all : ∀ {ys : List PyData}, (∃ y ∈ ys, evA y = false) → vwA (.tuple ys) = false := fun {ys} ⟨y, hy, hv⟩ => by
      show ys.all evA = false
      rw [List.all_eq_false]
      exact ⟨y, hy, by rw [hv]; exact Bool.false_ne_true⟩
    unfold walkG
    cases hr : (sts[n]?).bind fun row => nextA row x with
    | none => exact all hb
    | some m =>
      show vwA (.tuple ((x :: xs).drop ((walkG sts m xs).2 + 1))) = false
      rw [List.drop_succ_cons]
      refine walk_bad hE xs m ?_
      obtain ⟨y, hy, hv⟩ := hb
      rcases List.mem_cons.mp hy with rfl | hy
      · exfalso
        rw [Option.bind_eq_some_iff] at hr
        obtain ⟨row, h1, h2⟩ := hr
        unfold nextA at h2
        rw [Option.map_eq_some_iff] at h2
        obtain ⟨r, h3, _⟩ := h2
        have e1 := List.find?_some h3
        have e2 := eqv_ev e1
        have hvw := ((hE.rw row (List.mem_of_getElem? h1)).2.2 r (List.mem_of_find?_eq_some h3)).1
        rw [e2, evA_good hvw] at hv
        cases hv
      · exact ⟨y, hy, hv⟩
/-- what is handed in where a view is due, and is none -/
structure BadV (d : PyData) : Prop where
  any : AnyV d
  sh : Sh1 d
  no : isT "tuple" d = false ∨ ∃ xs, d = .tuple xs ∧ RowA xs ∧ ∃ x ∈ xs, evA x = false
theorem BadV.vw {d : PyData} (h : BadV d) : vwA d = false := by
  rcases h.no with h | ⟨xs, rfl, _, y, hy, hv⟩
  · exact vw_tup h
  · show xs.all evA = false
    rw [List.all_eq_false]
    exact ⟨y, hy, by rw [hv]; exact Bool.false_ne_true⟩
/-- a row of events, all of them good -/
theorem row_good {vs : List St3} (hl : vs.length ≤ 1000) (hv : ∀ e ∈ vs, VwE e) : RowA (vs.map s3D) ∧ vwA (.tuple (vs.map s3D)) = true := by
  refine ⟨⟨by rw [List.length_map]; exact hl, fun x hx => ?_⟩, ?_⟩
  · obtain ⟨e, he, rfl⟩ := List.mem_map.mp hx
    have v := hv e he
    have l := v.len
    refine ⟨shp_sh (shp_s3 v.ok) (by decide), ⟨rfl, fun ys hy _ => ?_⟩⟩
    injection hy with hy
    subst hy
    refine ⟨_, _, _, rfl, ⟨rfl, fun s hs => ?_⟩, ⟨rfl, fun s hs => ?_⟩, ⟨rfl, fun s hs => ?_⟩⟩
    · injection hs with hs; subst hs; omega
    · injection hs with hs; subst hs; omega
    · injection hs with hs; subst hs; omega
  · show (vs.map s3D).all evA = true
    rw [List.all_eq_true]
    intro x hx
    obtain ⟨e, he, rfl⟩ := List.mem_map.mp hx
    exact evA_good (hv e he)
theorem vwA_drop {xs : List PyData} (h : vwA (.tuple xs) = true) (n : Nat) : vwA (.tuple (xs.drop n)) = true := by
  have h : xs.all evA = true := h
  show (xs.drop n).all evA = true
  rw [List.all_eq_true] at h ⊢
  exact fun x hx => h x (List.mem_of_mem_drop hx)
end K3
set_option maxHeartbeats 200000
set_option Elab.async false
set_option linter.all false
set_option maxRecDepth 100000
set_option maxHeartbeats 4000000
namespace K3
open PySem PySem.Spec PyProof.Rows L2 DL
open PySem.W (alike alikeAll dataLt dataLe AllAlike Sortable EachIs keyToks keyToksAll lex_pre)
variable {P : Program} {w : World} {K : PySem.W.Frag} {mg : Str → Option Value} {base : Heap} {f : Addr} {fd : FuncData} {k : Nat}
theorem sm_str {s : Str} (h : IsNm s ∨ s = flt) : Sm (.str s) 8 0 := by
  have hc : ∀ c ∈ s.cps.toList, c < 16 ^ 8 := by
    rcases h with h | h
    · intro c hc
      have := h.cs c hc
      omega
    · subst h; decide
  have hl : s.cps.size ≤ 8 := by
    rcases h with h | h
    · exact h.l2
    · subst h; decide
  refine ⟨rfl, rfl, Nat.le_refl _, hl, ?_, rfl⟩
  simp only [PyData.leavesShort, List.all_eq_true, decide_eq_true_eq]
  exact hc
theorem fit_tup {xs : List PyData} {wt dp : Nat} (h : Sm (.tuple xs) wt dp) (h1 : wt ≤ 1048576) (h2 : dp ≤ 60) : Fit (.tuple xs) :=
  ⟨h.sh, h.nd, Nat.le_trans h.dp h2, PyData.shown_fits (B := 13) (by decide) (by decide) h.ls (Nat.le_trans h.wt (by simpa using h1)), h.nh, xs, .inl rfl⟩
def smNat2 (j : Nat) : Bool := (natD j).showable && !(natD j).hasDict && decide ((natD j).depth = 0) && decide ((natD j).weight ≤ 7) && (natD j).leavesShort 13 && noH (natD j)
theorem smNat2_all : ∀ j ∈ List.range 128, smNat2 j = true := by decide +kernel
theorem sm_nat2 {j : Nat} (h : j < 128) : Sm (natD j) 7 0 := by
  have := smNat2_all j (List.mem_range.mpr h)
  unfold smNat2 at this
  simp only [Bool.and_eq_true, Bool.not_eq_true', decide_eq_true_eq] at this
  obtain ⟨⟨⟨⟨⟨h1, h2⟩, h3⟩, h4⟩, h5⟩, h6⟩ := this
  exact ⟨h1, h2, by omega, by omega, h5, h6⟩
theorem sm_tupW {xs : List PyData} {W dp : Nat} (h : ∀ x ∈ xs, ∃ wt, Sm x wt dp) (hw : PyData.weightAll xs ≤ W) : Sm (.tuple xs) W (dp + 1) := by
  refine ⟨?_, ?_, ?_, ?_, ?_, ?_⟩
  · simp only [PyData.showable]; exact showAll fun x hx => (h x hx).choose_spec.sh
  · simp only [PyData.hasDict]; exact noDictAll fun x hx => (h x hx).choose_spec.nd
  · have := deepAll fun x hx => (h x hx).choose_spec.dp
    simp only [PyData.depth]
    omega
  · simp only [PyData.weight]
    exact hw
  · simp only [PyData.leavesShort]; exact shortAll fun x hx => (h x hx).choose_spec.ls
  · show noHs xs = true
    exact noHsAll fun x hx => (h x hx).choose_spec.nh
theorem sm_kind {s : Str} (h : s = "say" ∨ s = "hear") : Sm (.str s) 4 0 := by
  rcases h with rfl | rfl <;> exact ⟨rfl, rfl, by decide, by decide, by decide, rfl⟩
structure RowOk (r : St3 × Nat) : Prop where
  kd : r.1.1 = "say" ∨ r.1.1 = "hear"
  ot : IsNm r.1.2.1
  wd : IsNm r.1.2.2 ∨ r.1.2.2 = flt
  nr : r.2 < 128
theorem sm_row {r : St3 × Nat} (h : RowOk r) : Sm (rowD r) 31 1 := by
  have h1 := sm_kind h.kd
  have h2 := sm_str (.inl h.ot)
  have h3 := sm_str h.wd
  have h4 := sm_nat2 h.nr
  refine sm_tupW (fun x hx => ?_) ?_
  · simp only [List.mem_cons, List.not_mem_nil, or_false] at hx
    rcases hx with rfl | rfl | rfl | rfl
    · exact ⟨_, h1⟩
    · exact ⟨_, h2⟩
    · exact ⟨_, h3⟩
    · exact ⟨_, h4⟩
  · have a1 := h1.wt
    have a2 := h2.wt
    have a3 := h3.wt
    have a4 := h4.wt
    simp only [PyData.weightAll]
    omega
theorem sm_state {row : List (St3 × Nat)} (hl : row.length ≤ 320) (h : ∀ r ∈ row, RowOk r) : Sm (stD row) 10240 2 :=
  (Sm.tup (wt := 31) (m := 320) (fun x hx => by
    obtain ⟨r, hr, rfl⟩ := List.mem_map.mp hx
    exact sm_row (h r hr)) (by rw [List.length_map]; exact hl))
theorem fit_end {h : Str} {sts : List (List (St3 × Nat))} (hh : IsNm h) (hl : sts.length ≤ 100) (hr : ∀ row ∈ sts, row.length ≤ 320 ∧ ∀ r ∈ row, RowOk r) : Fit (endD h sts) := by
  have h1 : Sm (.tuple (sts.map stD)) 1024100 3 := Sm.tup (wt := 10240) (m := 100) (fun x hx => by
    obtain ⟨row, hm, rfl⟩ := List.mem_map.mp hx
    exact sm_state (hr row hm).1 (hr row hm).2) (by rw [List.length_map]; exact hl)
  have h2 := sm_str (.inl hh)
  have h3 : Sm (endD h sts) 1024110 4 := sm_tupW (fun x hx => by
    simp only [List.mem_cons, List.not_mem_nil, or_false] at hx
    rcases hx with rfl | rfl
    · exact ⟨_, h2.mono (Nat.le_refl _) (by decide)⟩
    · exact ⟨_, h1⟩) (by
    have a1 := h1.wt
    have a2 := h2.wt
    simp only [PyData.weightAll]
    omega)
  exact fit_tup h3 (by decide) (by decide)
theorem sm_lstW {xs : List PyData} {W dp : Nat} (h : ∀ x ∈ xs, ∃ wt, Sm x wt dp) (hw : PyData.weightAll xs ≤ W) : Sm (.list xs) W (dp + 1) := by
  refine ⟨?_, ?_, ?_, ?_, ?_, ?_⟩
  · simp only [PyData.showable]; exact showAll fun x hx => (h x hx).choose_spec.sh
  · simp only [PyData.hasDict]; exact noDictAll fun x hx => (h x hx).choose_spec.nd
  · have := deepAll fun x hx => (h x hx).choose_spec.dp
    simp only [PyData.depth]
    omega
  · simp only [PyData.weight]
    exact hw
  · simp only [PyData.leavesShort]; exact shortAll fun x hx => (h x hx).choose_spec.ls
  · show noHs xs = true
    exact noHsAll fun x hx => (h x hx).choose_spec.nh
theorem sm_sh1 {x : PyData} {wt dp : Nat} (h : Sm x wt dp) (h1 : wt ≤ 6000) (h2 : dp ≤ 50) : Sh1 x :=
  ⟨.inl ⟨h.nh, h.nd⟩, h.sh, by
    have := PyData.shown_le 13 (by decide) x h.ls
    have := h.wt
    omega, Nat.le_trans h.dp h2⟩
theorem sm_ev {e : St3} (h : VwE e) : Sm (s3D e) 27 1 := by
  have h1 := sm_kind (s := e.1) (h.elim (fun z => .inl z.1) fun z => .inr z.1)
  have h2 := sm_str (.inl (h.elim (fun z => z.2.1) fun z => z.2.1))
  have h3 := sm_str (s := e.2.2) (h.elim (fun z => .inl z.2.2) fun z => z.2.2)
  refine sm_tupW (fun x hx => ?_) ?_
  · simp only [List.mem_cons, List.not_mem_nil, or_false] at hx
    rcases hx with rfl | rfl | rfl
    · exact ⟨_, h1⟩
    · exact ⟨_, h2⟩
    · exact ⟨_, h3⟩
  · have a1 := h1.wt
    have a2 := h2.wt
    have a3 := h3.wt
    simp only [PyData.weightAll]
    omega
abbrev t3 (a b c : Str) : PyData := .tuple [.str a, .str b, .str c]
def odd1 : List PyData := [t3 "say" "b" "!", .tuple [.str "say", .str "b"], .tuple [.str "hear", .str "b", .str "c", .int 0], .list [.str "say", .str "b", .str "c"], t3 "tell" "b" "c", .none, .str "say"]
def odd2 : List PyData := [t3 "say" "B" "c", t3 "hear" "" "c", t3 "hear" "b" "!!", .tuple [.str "say", .str "b", .int 3], .tuple [.bool true, .str "b", .str "c"], .tuple []]
def odd3 : List PyData := [t3 "say" "b" "", .tuple [.str "hear", .str "b", .none], t3 "hear" "ninelette" "c"]
def oddL : List PyData := odd1 ++ odd2 ++ odd3
def insT (l : List PyData) (k : Nat) (one : PyData) : PyData := .tuple (l.take k ++ [one] ++ l.drop k)
def tailL (l : List PyData) : List PyData := [.list l, .none, .int 3, .str "say", .dict [], .list [t3 "say" "b" "c"]]
def atS (x : PyData) : Bool := atom x && (match x with | .str s => decide (s.length ≤ 1000) | _ => true)
theorem atS_ok {x : PyData} (h : atS x = true) : AtS x := by
  unfold atS at h
  rw [Bool.and_eq_true] at h
  refine ⟨h.1, fun s hs => ?_⟩
  subst hs
  exact of_decide_eq_true h.2
def askB : PyData → Bool
  | .tuple [a, b, c] => atS a && (atS b && atS c)
  | .dict _ => false
  | _ => true
theorem askB_ok {d : PyData} (h : askB d = true) : AskA d := by
  refine ⟨(by cases d <;> first | rfl | cases h), fun xs e hl => ?_⟩
  subst e
  rcases xs with _ | ⟨a, _ | ⟨b, _ | ⟨c, _ | ⟨d, r⟩⟩⟩⟩ <;> first | (simp at hl; done) | skip
  have h : (atS a && (atS b && atS c)) = true := h
  rw [Bool.and_eq_true, Bool.and_eq_true] at h
  exact ⟨a, b, c, rfl, atS_ok h.1, atS_ok h.2.1, atS_ok h.2.2⟩
def oddB (x : PyData) : Bool := !evA x && (SeqAt.shaped x && (askB x && (x.showable && (!x.hasDict && (decide (x.depth ≤ 1) && (decide (x.weight ≤ 40) && (x.leavesShort 13 && noH x)))))))
theorem odd_all : ∀ x ∈ oddL, oddB x = true := by decide +kernel
structure OddE (x : PyData) : Prop where
  no : evA x = false
  sh : SeqAt.shaped x = true
  ask : AskA x
  sm : Sm x 40 1
theorem odd_ok {x : PyData} (h : x ∈ oddL) : OddE x := by
  have := odd_all x h
  unfold oddB at this
  simp only [Bool.and_eq_true, Bool.not_eq_true', decide_eq_true_eq] at this
  obtain ⟨h1, h2, h3, h4, h5, h6, h7, h8, h9⟩ := this
  exact ⟨h1, h2, askB_ok h3, ⟨h4, h5, h6, h7, h8, h9⟩⟩
theorem weights_le {xs : List PyData} (h : ∀ x ∈ xs, x.weight ≤ 40) : PyData.weightAll xs ≤ 41 * xs.length := weightAll_le (m := 40) h
theorem bad_ins {vs : List St3} {k : Nat} {x : PyData} (hl : vs.length ≤ 12) (hv : ∀ e ∈ vs, VwE e) (hx : OddE x) : BadV (insT (vs.map s3D) k x) := by
  have each : ∀ y ∈ (vs.map s3D).take k ++ [x] ++ (vs.map s3D).drop k, SeqAt.shaped y = true ∧ AskA y ∧ Sm y 40 1 := by
    have good := (row_good (by omega : vs.length ≤ 1000) hv).1.it
    have gsm : ∀ y ∈ vs.map s3D, Sm y 40 1 := fun y hy => by
      obtain ⟨e, he, rfl⟩ := List.mem_map.mp hy
      exact (sm_ev (hv e he)).mono (by decide) (by decide)
    intro y hy
    rcases List.mem_append.mp hy with hy | hy
    · rcases List.mem_append.mp hy with hy | hy
      · have := List.mem_of_mem_take hy
        exact ⟨(good y this).1, (good y this).2, gsm y this⟩
      · cases List.mem_singleton.mp hy
        exact ⟨hx.sh, hx.ask, hx.sm⟩
    · have := List.mem_of_mem_drop hy
      exact ⟨(good y this).1, (good y this).2, gsm y this⟩
  have hlen : ((vs.map s3D).take k ++ [x] ++ (vs.map s3D).drop k).length ≤ 25 := by
    simp only [List.length_append, List.length_take, List.length_drop, List.length_map, List.length_singleton]
    omega
  have row : RowA ((vs.map s3D).take k ++ [x] ++ (vs.map s3D).drop k) := ⟨by omega, fun y hy => ⟨(each y hy).1, (each y hy).2.1⟩⟩
  refine ⟨.inl row.ask, ?_, .inr ⟨_, rfl, row, x, by simp, hx.no⟩⟩
  refine sm_sh1 (wt := 1025) (dp := 2) (sm_tupW (fun y hy => ⟨40, (each y hy).2.2⟩) ?_) (by decide) (by decide)
  have := weights_le fun y hy => (each y hy).2.2.wt
  omega
theorem bad_tail {vs : List St3} (hl : vs.length ≤ 12) (hv : ∀ e ∈ vs, VwE e) : ∀ d ∈ tailL (vs.map s3D), BadV d := by
  have no : ∀ {d : PyData}, noD d = true → isT "tuple" d = false → Sh1 d → BadV d := fun {d} h1 h2 h3 => ⟨.inl ⟨h1, fun xs e => by subst e; cases h2⟩, h3, .inl h2⟩
  intro d hd
  unfold tailL at hd
  simp only [List.mem_cons, List.not_mem_nil, or_false] at hd
  rcases hd with rfl | rfl | rfl | rfl | rfl | rfl
  · refine no rfl rfl (sm_sh1 (wt := 500) (dp := 2) (sm_lstW (fun y hy => ?_) ?_) (by decide) (by decide))
    · obtain ⟨e, he, rfl⟩ := List.mem_map.mp hy
      exact ⟨27, sm_ev (hv e he)⟩
    · have := weightAll_le (m := 27) (xs := vs.map s3D) fun y hy => by
        obtain ⟨e, he, rfl⟩ := List.mem_map.mp hy
        exact (sm_ev (hv e he)).wt
      rw [List.length_map] at this
      omega
  · exact no rfl rfl ⟨.inl ⟨rfl, rfl⟩, rfl, by decide, by decide⟩
  · exact no rfl rfl ⟨.inl ⟨rfl, rfl⟩, by decide +kernel, by decide +kernel, by decide⟩
  · exact no rfl rfl ⟨.inl ⟨rfl, rfl⟩, rfl, by decide +kernel, by decide⟩
  · exact ⟨.inr rfl, ⟨.inr rfl, rfl, by decide +kernel, by decide⟩, .inl rfl⟩
  · exact no rfl rfl ⟨.inl ⟨rfl, rfl⟩, by decide +kernel, by decide +kernel, by decide⟩
end K3
set_option maxHeartbeats 200000
set_option Elab.async false
set_option linter.all false
set_option maxRecDepth 100000
set_option maxHeartbeats 1000000
namespace DL
open PySem PySem.Spec PyProof.Rows L2
end DL
namespace DL
open PySem PySem.Spec PyProof.Rows L2
end DL
set_option maxHeartbeats 200000
set_option Elab.async false
set_option linter.all false
set_option maxRecDepth 100000
set_option maxHeartbeats 4000000
namespace K3
open PySem PySem.Spec PyProof.Rows L2 DL
open PySem.W (alike alikeAll dataLt dataLe AllAlike Sortable EachIs keyToks keyToksAll lex_pre)
variable {P : Program} {w : World} {K : PySem.W.Frag} {mg : Str → Option Value} {base : Heap} {f : Addr} {fd : FuncData} {k : Nat}
inductive Atm : Expr → PyData → Prop
  | str {s k p} : Atm (.Constant (.str s) k p) (.str s)
  | int {i k p} : Atm (.Constant (.int i) k p) (.int i)
  | non {k p} : Atm (.Constant .none k p) .none
  | bl {b k p} : Atm (.Constant (.bool b) k p) (.bool b)
inductive Ats : List Expr → List PyData → Prop
  | nil : Ats [] []
  | cons {e es x xs} : Atm e x → Ats es xs → Ats (e :: es) (x :: xs)
inductive Lit : Expr → PyData → Prop
  | atm {e x} : Atm e x → Lit e x
  | tup {es xs k p} : Ats es xs → xs.length ≤ 100000 → Lit (.Tuple es k p) (.tuple xs)
  | lst {es xs p} : Ats es xs → xs.length ≤ 100000 → Lit (.List es p) (.list xs)
inductive Lits : List Expr → List PyData → Prop
  | nil : Lits [] []
  | cons {e es x xs} : Lit e x → Lits es xs → Lits (e :: es) (x :: xs)
theorem de_atm {B : B0} {X : Cx} {e : Expr} {x : PyData} {δ : St'} {Φ : PE1} (h : Atm e x) (p : Φ x δ) : DE B X e δ Φ := by
  cases h with
  | str => exact de_str p
  | int => exact de_int p
  | non => exact de_non p
  | bl => exact de_bl p
theorem da_ats {B : B0} {X : Cx} {δ : St'} {es : List Expr} {xs : List PyData} (h : Ats es xs) : ∀ {Φ : List PyData → St' → Prop}, Φ xs δ → DA B X es δ Φ := by
  induction h with
  | nil => exact fun p => da_nil p
  | @cons e es x xs h1 h2 ih => exact fun p => da_cons (de_atm h1 (ih p)) (by cases h1 <;> rfl)
theorem de_lit {B : B0} {X : Cx} {e : Expr} {x : PyData} {δ : St'} {Φ : PE1} (h : Lit e x) (p : Φ x δ) : DE B X e δ Φ := by
  cases h with
  | atm h => exact de_atm h p
  | tup h hl => exact de_tup (da_ats h ⟨hl, p⟩)
  | lst h hl => exact de_dl (dl_lst (da_ats h ⟨hl, p⟩))
theorem lit_star {X : Cx} {e : Expr} {es : List Expr} {x : PyData} (h : Lit e x) : starEach (e :: es) X.env = (false, eval e X.env) :: starEach es X.env := by
  cases h with
  | atm h => cases h <;> rfl
  | tup h hl => rfl
  | lst h hl => rfl
theorem da_lits {B : B0} {X : Cx} {δ : St'} {es : List Expr} {xs : List PyData} (h : Lits es xs) : ∀ {Φ : List PyData → St' → Prop}, Φ xs δ → DA B X es δ Φ := by
  induction h with
  | nil => exact fun p => da_nil p
  | @cons e es x xs h1 h2 ih => exact fun p => da_cons (de_lit h1 (ih p)) (lit_star h1)
theorem dl_lits {B : B0} {X : Cx} {δ : St'} {Ψ : List PyData → St' → Prop} {es : List Expr} {pos : Pos} {e : Expr} (xs : List PyData) (he : .List es pos = e) (h : Lits es xs) (hl : xs.length ≤ 100000) (p : Ψ xs δ) : DLs B X e δ Ψ := by
  subst he
  exact dl_lst (da_lits h ⟨hl, p⟩)
def S_law_no_view : SpP := fun n ds Φ => ∃ vs : List St3, ds = [.tuple (vs.map s3D)] ∧ vs.length ≤ 12 ∧ (∀ e ∈ vs, VwE e) ∧ n + 1000 < 1099511627776 ∧ ∀ d m, BadV d → n ≤ m → m ≤ n + 10 → Φ d m
theorem someD_bad {vs : List St3} {k : Nat} (hl : vs.length ≤ 12) (hv : ∀ e ∈ vs, VwE e) : ∀ d ∈ oddL.map (insT (vs.map s3D) k) ++ tailL (vs.map s3D), BadV d := fun d hd => by
  rcases List.mem_append.mp hd with hd | hd
  · obtain ⟨x, hx, rfl⟩ := List.mem_map.mp hd
    exact bad_ins hl hv (odd_ok hx)
  · exact bad_tail hl hv d hd
theorem ok__law_no_view (T : Tx mg) (GT : Fn P w K mg base "_law_take" 1 ["pot", "many"] (spP K S_law_take)) (F : Fd K "_law_no_view" s__law_no_view [] [] f fd) : FnOk P w K mg base CX0 2 f fd ["pot", "seen"] (spP K S_law_no_view) := by
  refine fnP F sc__law_no_view (fun n ds Φ h => by obtain ⟨_, rfl, _⟩ := h; rfl) (fun B cdv A outer s H E n ds Φ hr hp hS => ?_)
  obtain ⟨vs, rfl, hl, hv, hn, hΦ⟩ := hS
  have nd := sc__law_no_view.nd
  refine ds_cons (ds_set 2 (hN := nd) (de_fP (k' := 1) 0 GT hr (da_cons (de_bin op_add (de_callB call_len T.len boot_len (da_cons (de_nm 1 (da_nil (rc_lenT rfl (de_int (rd_I0 (da_nil ⟨_, rfl, ?_, ?_, ?_, fun at' a0 a1 => ?_⟩))))))))))))
  · rw [List.length_map]; omega
  · rw [List.length_map]; omega
  · show n < _; omega
  rw [List.length_map] at a1
  obtain ⟨k, rfl⟩ : ∃ k : Nat, at' = (k : Nat) := ⟨at'.toNat, by omega⟩
  generalize he : Expr.List _ _ = e
  refine ds_cons (ds_set 3 (hN := nd) (hs := by subst he; rfl) (de_dl (dl_lits odd1 he (.cons (.tup (.cons .str (.cons .str (.cons .str .nil))) (by decide)) (.cons (.tup (.cons .str (.cons .str .nil)) (by decide)) (.cons (.tup (.cons .str (.cons .str (.cons .str (.cons .int .nil)))) (by decide)) (.cons (.lst (.cons .str (.cons .str (.cons .str .nil))) (by decide)) (.cons (.tup (.cons .str (.cons .str (.cons .str .nil))) (by decide)) (.cons (.atm .non) (.cons (.atm .str) .nil))))))) (by decide) ?_)))
  clear he
  generalize he : Expr.List _ _ = e
  refine ds_cons (ds_set 3 (hN := nd) (hs := by subst he; rfl) (de_dl (dl_cat (de_nm 3 ⟨odd1, rfl, de_dl (dl_lits odd2 he (.cons (.tup (.cons .str (.cons .str (.cons .str .nil))) (by decide)) (.cons (.tup (.cons .str (.cons .str (.cons .str .nil))) (by decide)) (.cons (.tup (.cons .str (.cons .str (.cons .str .nil))) (by decide)) (.cons (.tup (.cons .str (.cons .str (.cons .int .nil))) (by decide)) (.cons (.tup (.cons .bl (.cons .str (.cons .str .nil))) (by decide)) (.cons (.tup .nil (by decide)) .nil)))))) (by decide) ⟨odd2, rfl, by decide, ?_⟩)⟩))))
  clear he
  generalize he : Expr.List _ _ = e
  refine ds_cons (ds_set 3 (hN := nd) (hs := by subst he; rfl) (de_dl (dl_cat (de_nm 3 ⟨odd1 ++ odd2, rfl, de_dl (dl_lits odd3 he (.cons (.tup (.cons .str (.cons .str (.cons .str .nil))) (by decide)) (.cons (.tup (.cons .str (.cons .str (.cons .non .nil))) (by decide)) (.cons (.tup (.cons .str (.cons .str (.cons .str .nil))) (by decide)) .nil))) (by decide) ⟨odd3, rfl, by decide, ?_⟩)⟩))))
  clear he
  refine ds_cons (ds_set 4 (hN := nd) (de_dl (dl_cat (de_dl (dl_map [("one", 5)] nd (pi_list pe_w) (blkOk_by (N := n__law_no_view) (sc := defScope s__law_no_view) (by decide +kernel)) (fun _ _ _ _ _ => pg_name (i := 5) nd rfl (Or.inl rfl))
    (wi_list (de_nm 3 ⟨oddL, rfl, by decide, insT (vs.map s3D) k, fun B' y hp' hy => wg_name ?_, ?_⟩)))))))
  · intro s0 H0 C cl fp
    refine de_bin op_catA (de_bin op_catA (de_slTo sl_tupA (de_nm 1 (de_nm 2 ⟨_, rfl, ru_slT (de_tup (da_cons (de_nm 5 (da_nil ⟨by simp, rd_catT (xs := DL.cutD (vs.map s3D) none (some (k : Int))) (ys := [y]) ?_ ?_⟩))))⟩))))
    · rw [cutD_upto]; simp only [List.length_take, List.length_map, List.length_singleton]; omega
    refine de_slFrom sl_tupA (de_nm 1 (de_nm 2 ⟨_, rfl, ru_slT (rd_catT (xs := DL.cutD (vs.map s3D) none (some (k : Int)) ++ [y]) (ys := DL.cutD (vs.map s3D) (some (k : Int)) none) ?_ ⟨?_, ?_⟩)⟩))
    · rw [cutD_upto, cut_from]; simp only [List.length_append, List.length_take, List.length_drop, List.length_map, List.length_singleton]; omega
    · rw [cutD_upto, cut_from]; rfl
    · rfl
  · refine ⟨_, rfl, de_dl (dl_lst (da_cons (de_dl (dl_callTy call_list_of T.list boot_list (wl_list rfl (da_cons (de_nm 1 (da_nil ⟨vs.map s3D, .inr rfl, da_cons (de_non (da_cons (de_int (da_cons (de_str (da_cons (de_emp (da_cons (de_dl (dl_lst (da_cons (de_lit (.tup (.cons .str (.cons .str (.cons .str .nil))) (by decide)) (da_nil ⟨by simp, da_nil ⟨by simp, tailL (vs.map s3D), rfl, ?_, ?_⟩⟩)))))))))))))⟩))))))))⟩
    · rw [List.length_map]; show 16 + 6 ≤ 100000; decide
    · refine ds_last (ds_ret (de_ix ix_list (de_nm 4 (de_fP (k' := 1) 0 GT hr (da_cons (de_callB call_len T.len boot_len (da_cons (de_nm 4 (da_nil (rc_lenL rfl (da_nil ⟨_, rfl, ?_, ?_, ?_, fun d d0 d1 => ?_⟩)))))))))))
      · rw [List.length_append, List.length_map]; show (0 : Int) < ((16 + 6 : Nat) : Int); decide
      · simp [oddL, odd1, odd2, odd3, tailL]
      · show n + 1 < _; omega
      obtain ⟨z, hz, hzm⟩ := atI_in d0 d1
      exact rd_ixL hz (hΦ z _ (someD_bad hl hv z hzm) (by show n ≤ n + 1 + 1; omega) (by show n + 1 + 1 ≤ n + 10; omega))
end K3
set_option maxHeartbeats 200000
set_option Elab.async false
set_option linter.all false
set_option maxRecDepth 100000
set_option maxHeartbeats 4000000
namespace K3
open PySem PySem.Spec PyProof.Rows L2 DL
open PySem.W (alike alikeAll dataLt dataLe AllAlike Sortable EachIs keyToks keyToksAll lex_pre)
variable {P : Program} {w : World} {K : PySem.W.Frag} {mg : Str → Option Value} {base : Heap} {f : Addr} {fd : FuncData} {k : Nat}
def ifB : Stmt → List Stmt
  | .If _ b _ _ => b
  | _ => []
structure PreE (e : St3) : Prop where
  kd : e.1 = ("say" : Str) ∨ e.1 = ("hear" : Str)
  ot : IsNm e.2.1
  wd : IsNm e.2.2 ∨ e.2.2 = flt
theorem VwE.pre {e : St3} (h : VwE e) : PreE e := ⟨h.elim (fun z => .inl z.1) fun z => .inr z.1, h.elim (fun z => z.2.1) fun z => z.2.1, h.elim (fun z => .inl z.2.2) fun z => z.2.2⟩
theorem PreE.ok {e : St3} (h : PreE e) : OkE e := by
  refine ⟨?_, h.ot.okS, ?_⟩
  · rcases h.kd with h | h <;> rw [h] <;> decide +kernel
  · rcases h.wd with h | h
    · exact h.okS
    · rw [h]; decide +kernel
theorem PreE.vw {e : St3} (h : PreE e) (hw : e.2.2 ≠ flt ∨ e.1 = ("hear" : Str)) : VwE e := by
  rcases h.kd with hk | hk
  · refine .inl ⟨hk, h.ot, ?_⟩
    rcases h.wd with h | h
    · exact h
    · rcases hw with hw | hw
      · exact absurd h hw
      · rw [hk] at hw; exact absurd hw (by decide +kernel)
  · exact .inr ⟨hk, h.ot, h.wd⟩
structure WdsOk (os ws : List Str) : Prop where
  o1 : 1 ≤ os.length
  o2 : os.length ≤ 10
  on : ∀ o ∈ os, IsNm o
  w1 : 1 ≤ ws.length
  w2 : ws.length ≤ 10
  wn : ∀ w ∈ ws, IsNm w ∨ w = flt
def S_law_view : SpP := fun n ds Φ => ∃ (sts : List (List (St3 × Nat))) (s : Nat) (os ws : List Str), ds = [stsD sts, natD s, nmL os, nmL ws] ∧ StsOk sts ∧ (∀ row ∈ sts, row.length ≤ 8 ∧ ∀ r ∈ row, PreE r.1) ∧ s < sts.length ∧ WdsOk os ws ∧ n + 1000 < 1099511627776 ∧
  ∀ (vs : List St3) m, vs.length ≤ 10 → (∀ e ∈ vs, PreE e) → n ≤ m → m ≤ n + 100 → Φ (.tuple (vs.map s3D)) m
abbrev envVw (n : Nat) (sts : List (List (St3 × Nat))) (o : Option Nat) (os ws : List Str) (l : List St3) (c6 c7 c9 : Option C) : St' := ⟨n, [some .pot, some (.d (stsD sts)), some (.d (optD o)), some (.d (nmL os)), some (.d (nmL ws)), some (.own (l.map s3D)), c6, c7, none, c9]⟩
theorem ok__law_view (T : Tx mg) (GT : Fn P w K mg base "_law_take" 1 ["pot", "many"] (spP K S_law_take)) (GH : Fn P w K mg base "_law_then" 1 ["states", "spot", "event"] (spD K S_law_then)) (F : Fd K "_law_view" s__law_view [] [] f fd) : FnOk P w K mg base CX0 2 f fd ["pot", "states", "spot", "others", "words"] (spP K S_law_view) := by
  refine fnP F sc__law_view (fun n ds Φ h => by obtain ⟨_, _, _, _, rfl, _⟩ := h; rfl) (fun B cdv A outer s0 H E n ds Φ hr hp hS => ?_)
  obtain ⟨sts, s, os, ws, rfl, hok, hpre, hs, hW, hn, hΦ⟩ := hS
  have nd := sc__law_view.nd
  have o1 := hW.o1
  have o2 := hW.o2
  have w1 := hW.w1
  have w2 := hW.w2
  refine ds_cons (ds_setO 5 (dl_lst (da_nil ⟨by decide, ?_⟩)) nd)
  refine ds_cons (ds_for [6] (pi_range1 rfl T.range pa_w) (pg_name (i := 6) nd rfl (.inl rfl)) (wi_rng1 (da_cons (de_fP (k' := 1) 0 GT hr (da_cons (de_int (da_nil ⟨10, rfl, by decide, by decide, by show n < _; omega, fun d h0 h1 => da_nil ⟨_, rfl, by omega, by omega, ?_⟩⟩)))))))
  refine ⟨fun i δ => ∃ m o l c6 c7 c9, δ = envVw m sts o os ws l c6 c7 c9 ∧ (∀ k, o = some k → k < sts.length) ∧ n ≤ m ∧ m ≤ n + 1 + 7 * i ∧ l.length ≤ i ∧ ∀ e ∈ l, PreE e, ⟨n + 1, some s, [], none, none, none, rfl, fun k hk => by injection hk with hk; omega, by omega, by omega, Nat.le_refl _, fun r hr => (by cases hr)⟩, fun i y δ hy hI => ?_, fun δ hI => ?_⟩
  · obtain ⟨m, o, l, c6, c7, c9, rfl, ho, hm3, hm4, hll, hev⟩ := hI
    obtain ⟨hi, rfl⟩ := rng_get hy
    refine wg_name ?_
    have fin : ∀ (m' : Nat) (ls : List St3) (e : St3) (c6 : Option C), PreE e → m ≤ m' → m' ≤ m + 6 → DSs B (bodyX P w K mg base n__law_view "_law_view" (defScope s__law_view) f cdv A outer s0 H E) ((forB ((defBody s__law_view).getD 1 (.Pass ⟨0, 0, 0, 0⟩))).drop 3)
        (envVw m' sts o os ws l c6 (some (.d (.list (ls.map s3D)))) (some (.d (s3D e))))
        (fun δ => ∃ m o l c6 c7 c9, δ = envVw m sts o os ws l c6 c7 c9 ∧ (∀ k, o = some k → k < sts.length) ∧ n ≤ m ∧ m ≤ n + 1 + 7 * (i + 1) ∧ l.length ≤ i + 1 ∧ ∀ e ∈ l, PreE e) fun x δ => Φ x δ.n := fun m' ls e c6 he hm5 hm6 => by
      have add : ∀ m'' : Nat, m' ≤ m'' → m'' ≤ m' + 1 → DSs B (bodyX P w K mg base n__law_view "_law_view" (defScope s__law_view) f cdv A outer s0 H E) (ifB (((forB ((defBody s__law_view).getD 1 (.Pass ⟨0, 0, 0, 0⟩))).drop 3).getD 0 (.Pass ⟨0, 0, 0, 0⟩)))
          (envVw m'' sts o os ws l c6 (some (.d (.list (ls.map s3D)))) (some (.d (s3D e))))
          (fun δ => ∃ m o l c6 c7 c9, δ = envVw m sts o os ws l c6 c7 c9 ∧ (∀ k, o = some k → k < sts.length) ∧ n ≤ m ∧ m ≤ n + 1 + 7 * (i + 1) ∧ l.length ≤ i + 1 ∧ ∀ e ∈ l, PreE e) fun x δ => Φ x δ.n := fun m'' hm7 hm8 => by
        refine ds_cons (ds_append 5 (de_nm 9 ⟨l.map s3D, rfl, by rw [List.length_map]; omega, ?_⟩))
        have new : ∀ (o' : Option Nat), (∀ k, o' = some k → k < sts.length) → ∃ m o l0 c6' c7 c9, (⟨m'', [some .pot, some (.d (stsD sts)), some (.d (optD o')), some (.d (nmL os)), some (.d (nmL ws)), some (.own (l.map s3D ++ [s3D e])), c6, some (.d (.list (ls.map s3D))), none, some (.d (s3D e))]⟩ : St') = envVw m sts o os ws l0 c6' c7 c9 ∧ (∀ k, o = some k → k < sts.length) ∧ n ≤ m ∧ m ≤ n + 1 + 7 * (i + 1) ∧ l0.length ≤ i + 1 ∧ ∀ e ∈ l0, PreE e := fun o' ho' => by
          refine ⟨m'', o', l ++ [e], c6, some (.d (.list (ls.map s3D))), some (.d (s3D e)), ?_, ho', by omega, by omega, by rw [List.length_append, List.length_singleton]; omega, fun x hx => ?_⟩
          · show (_ : St') = envVw _ _ _ _ _ _ _ _ _
            unfold envVw
            rw [List.map_append]
            rfl
          rcases List.mem_append.mp hx with hx | hx
          · exact hev x hx
          · cases List.mem_singleton.mp hx; exact he
        refine ds_last (ds_set 2 (de_if (dt_cmp op_isN (de_nm 2 (de_non (rd_isN ⟨_, rfl, ?_⟩))))) nd)
        cases o with
        | none =>
          refine iteT (de_non ?_)
          exact new none (fun k hk => by cases hk)
        | some k =>
          refine iteF (de_f (k' := 1) GH hr (da_cons (de_nm 1 (da_cons (de_nm 2 (da_cons (de_nm 9 (da_nil ⟨sts, k, e, rfl, ho k rfl, hok, he.ok, ?_⟩))))))))
          exact new (thenE (rowA sts k) e) (fun m hm => thenE_lt hok hm)
      refine ds_last (ds_if (dt_pw (dw_or (dt_cmp (op_neNil hr.units) (de_nm 7 (de_dl (dl_lst (da_nil ⟨by decide, rd_neNil ⟨_, rfl, ?_⟩⟩))))))))
      cases hq : (ls.map s3D).isEmpty with
      | false => exact iteT (iteT (add m' (Nat.le_refl _) (by omega)))
      | true =>
        refine iteF (dw_or1 (dt_cmp op_eq (de_fP (k' := 1) 0 GT hr (da_cons (de_int (da_nil ⟨3, rfl, by decide, by decide, by show m' < _; omega, fun d3 f0 f1 => de_int (rd_eqI ⟨_, rfl, ?_⟩)⟩))))))
        by_cases e2 : d3 = 0
        · rw [decide_eq_true e2]
          exact iteT (add (m' + 1) (by omega) (by omega))
        · rw [decide_eq_false e2]
          exact iteF (ds_nil ⟨m' + 1, o, l, _, _, _, rfl, ho, by omega, by omega, by omega, hev⟩)
    have mid : ∀ (ls : List St3), (∀ e ∈ ls, PreE e) → ls.length ≤ 8 → DSs B (bodyX P w K mg base n__law_view "_law_view" (defScope s__law_view) f cdv A outer s0 H E) ((forB ((defBody s__law_view).getD 1 (.Pass ⟨0, 0, 0, 0⟩))).drop 1)
        (envVw m sts o os ws l (some (.d (.int (0 + (i : Nat))))) (some (.d (.list (ls.map s3D)))) c9)
        (fun δ => ∃ m o l c6 c7 c9, δ = envVw m sts o os ws l c6 c7 c9 ∧ (∀ k, o = some k → k < sts.length) ∧ n ≤ m ∧ m ≤ n + 1 + 7 * (i + 1) ∧ l.length ≤ i + 1 ∧ ∀ e ∈ l, PreE e) fun x δ => Φ x δ.n := fun ls hls hl8 => by
      refine ds_cons (ds_set 9 ?_ nd)
      refine de_tup (da_cons (de_ix ix_list (de_dl (dl_lst (da_cons (de_str (da_cons (de_str (da_nil ⟨by simp, de_fP (k' := 1) 0 GT hr (da_cons (de_int (da_nil ⟨2, rfl, by decide, by decide, by show m < _; omega, fun d2 g0 g1 => ?_⟩)))⟩)))))))))
      obtain ⟨kd, hkd, hki⟩ := kind_at g0 g1
      refine rd_ixL hki (da_cons (de_ix ix_list (de_nm 3 (de_fP (k' := 1) 0 GT hr (da_cons (de_callB call_len T.len boot_len (da_cons (de_nm 3 (da_nil (rc_lenL rfl (da_nil ⟨_, rfl, ?_, ?_, ?_, fun do0 do1 do2 => ?_⟩)))))))))))
      · rw [List.length_map]; omega
      · rw [List.length_map]; omega
      · show m + 1 < _; omega
      obtain ⟨zo, hzo, hzom⟩ := atI_in do1 do2
      obtain ⟨ot, hot, rfl⟩ := List.mem_map.mp hzom
      refine rd_ixL hzo (da_cons (de_ix ix_list (de_nm 4 (de_fP (k' := 1) 0 GT hr (da_cons (de_callB call_len T.len boot_len (da_cons (de_nm 4 (da_nil (rc_lenL rfl (da_nil ⟨_, rfl, ?_, ?_, ?_, fun dw0 dw1' dw2 => ?_⟩)))))))))))
      · rw [List.length_map]; omega
      · rw [List.length_map]; omega
      · show m + 1 + 1 < _; omega
      obtain ⟨zw, hzw, hzwm⟩ := atI_in dw1' dw2
      obtain ⟨wd, hwd, rfl⟩ := List.mem_map.mp hzwm
      refine rd_ixL hzw (da_nil ⟨by simp, ?_⟩)
      have he : PreE ((kd, ot, wd) : St3) := ⟨hkd, hW.on ot hot, hW.wn wd hwd⟩
      refine ds_cons (ds_if (dt_pw (dw_and (dt_cmp op_gt (de_fP (k' := 1) 0 GT hr (da_cons (de_int (da_nil ⟨9, rfl, by decide, by decide, by show m + 1 + 1 + 1 < _; omega, fun d9 f0 f1 => de_int (rd_B0 ⟨_, rfl, ?_⟩)⟩))))))))
      by_cases e9 : (0 : Int) < d9
      · rw [decide_eq_true e9]
        refine iteT (dw_and1 (dt_cmp (op_neNil hr.units) (de_nm 7 (de_dl (dl_lst (da_nil ⟨by decide, rd_neNil ⟨_, rfl, ?_⟩⟩))))))
        cases hq : (ls.map s3D).isEmpty with
        | true => exact iteF (ds_nil (fin (m + 1 + 1 + 1 + 1) ls (kd, ot, wd) _ he (by omega) (by omega)))
        | false =>
          have hl1 : 1 ≤ ls.length := by
            cases ls with
            | nil => cases hq
            | cons a b => simp
          refine iteT (ds_last (ds_set 9 (de_ix ix_list (de_nm 7 (de_fP (k' := 1) 0 GT hr (da_cons (de_callB call_len T.len boot_len (da_cons (de_nm 7 (da_nil (rc_lenL rfl (da_nil ⟨_, rfl, ?_, ?_, ?_, fun ds0 ds1 ds2 => ?_⟩)))))))))) nd))
          · rw [List.length_map]; omega
          · rw [List.length_map]; omega
          · show m + 1 + 1 + 1 + 1 < _; omega
          obtain ⟨zs, hzs, hzsm⟩ := atI_in ds1 ds2
          obtain ⟨e, hme, rfl⟩ := List.mem_map.mp hzsm
          exact rd_ixL hzs (fin (m + 1 + 1 + 1 + 1 + 1) ls e _ (hls e hme) (by omega) (by omega))
      · rw [decide_eq_false e9]
        exact iteF (ds_nil (fin (m + 1 + 1 + 1 + 1) ls (kd, ot, wd) _ he (by omega) (by omega)))
    refine ds_cons (ds_set 7 (de_if (dt_cmp op_isN (de_nm 2 (de_non (rd_isN ⟨_, rfl, ?_⟩))))) nd)
    cases o with
    | none => exact iteT (de_dl (dl_lst (da_nil ⟨by decide, mid [] (fun e he => by cases he) (by decide)⟩)))
    | some k =>
      have hk := ho k rfl
      have hrow := hpre (rowA sts k) (by rw [rowA_get (List.getElem?_eq_getElem hk)]; exact List.getElem_mem hk)
      refine iteF (de_dl (dl_map [("step", 8)] nd (pi_tup pe_w) (blkOk_by (N := n__law_view) (sc := defScope s__law_view) (by decide +kernel)) (fun _ _ _ _ _ => pg_name (i := 8) nd rfl (Or.inl rfl)) (wi_tup (de_ix ix_tup (de_nm 1 (de_nm 2 (rd_ixT (row_at hk) ⟨(rowA sts k).map rowD, rfl, ?_, cut3, fun B' y hp' hy => wg_name ?_, ?_⟩)))))))
      · rw [List.length_map]; omega
      · obtain ⟨r, hr', rfl⟩ := List.mem_map.mp hy
        intro s0 H0 C cl fp
        exact de_upto sl_tupA (de_nm 8 (ru_slT ⟨rfl, rfl⟩))
      · rw [cut3s]
        refine mid ((rowA sts k).map (·.1)) (fun e he => ?_) (by rw [List.length_map]; exact hrow.1)
        obtain ⟨r, hr', rfl⟩ := List.mem_map.mp he
        exact hrow.2 r hr'
  · obtain ⟨m, o, l, c6, c7, c9, rfl, ho, hm3, hm4, hll, hev⟩ := hI
    rw [rng_len] at hm4 hll
    refine dss_freeze 5 (ds_last (ds_ret (de_callTy call_tuple_of T.tup boot_tuple (da_cons (de_nm 5 (da_nil (rc_tupleL rfl ?_)))))))
    exact hΦ l m (by omega) hev (by omega) (by omega)
end K3
set_option maxHeartbeats 200000
set_option Elab.async false
set_option linter.all false
set_option maxRecDepth 100000
set_option maxHeartbeats 2000000
namespace DL
open PySem PySem.Spec PyProof.Rows L2
theorem tuple_mul1 (l : Addr) (items : Array Value) (n : Nat) (dd : Option Addr) (sl : Array (Option Value)) (u : Tok) :
    Meets (Builtin.«tuple.__mul__» ⟨[.ref l, .int 1 u], []⟩) (fun _ R s => s.heap.get? l = some { cls := .type "tuple", dict := dd, data := .seq items n, slots := sl } ∧ R (.ok (.ret (Value.ref l))) s) :=
  .of_wp fun prog w A R s h => by
    obtain ⟨hp, g, d, tk, os⟩ := s
    obtain ⟨hl, h⟩ := h
    have f1 := AutoSeq1.idx_int
    have c0 : (decide ((1 : Int) < -(2 ^ 63)) || decide ((1 : Int) ≥ 2 ^ 63)) = false := by decide
    have c1 : (items.isEmpty || ((1 : Int) == 1)) = true := by rw [Bool.or_eq_true]; exact .inr rfl
    wp_walk using wpAny_loadPart' hl
    repeat (first
      | (refine wpAny_ite_false (decide_eq_false (by rw [c0]; exact Bool.false_ne_true)) ?_; wp_walk using wpAny_loadPart' hl)
      | (refine wpAny_ite_true (decide_eq_true c1) ?_; wp_walk using wpAny_loadPart' hl))
    exact ⟨_, rfl, h⟩
def rRepTA (K : PySem.W.Frag) : R2 := fun x y H Q => ∃ l k xs, x = .ref l ∧ y = .int k ∧ SqT K H l xs ∧ xs ≠ [] ∧ 1 ≤ k ∧ k ≤ 1000 ∧ xs.length ≤ 1000 ∧ (k = 1 → Q (.ref l) H) ∧ (2 ≤ k → ∀ p, H p = none → Q (.ref p) (upd H p (.tup (List.replicate k.toNat xs).flatten)))
theorem op_repTA {X : Cx} : OpR X (binaryOp .Mult) (rRepTA X.K) := by
  intro pins s σ H x y v u Q I rx ry h
  obtain ⟨l, k, xs, hx, hy, hT, hne, h1, h2, hz, q1, q2⟩ := h
  by_cases c : 2 ≤ k
  · exact op_repT pins s σ H x y v u Q I rx ry ⟨l, k, xs, hx, hy, hT, hne, c, h2, hz, q2 c⟩
  · obtain rfl : k = 1 := by omega
    subst hx hy
    cases rx
    obtain ⟨t, rfl⟩ := ry
    obtain ⟨its, r, ⟨⟨cls, dd, data, sl⟩, ho, hc, n, hd⟩, hs⟩ := I.tuple hT
    simp only at hc hd
    subst hc hd
    refine wpAny_binaryOp_repeat_ref (T := "tuple") (U := "int") (by decide) ⟨_, ho, rfl⟩ (fun s' => typeIs_int s' 1 t) noFill_tuple_mul F.fills_int_mul F.slot_int_rmul repeat_tuple F.slot_int_index.lookup
      (call_meets F.slot_int_rmul (typeIs_int s 1 t) F.entry_int_rmul (F.args_int_rmul_2 _ _) (int_rmul_tuple 1 t l its.toArray n dd sl)
        ⟨ho, rfl, ⟨_, ho, rfl⟩, call_meets F.slot_tuple_mul ⟨_, ho, rfl⟩ F.entry_tuple_mul (F.args_tuple_mul_2 _ _) (tuple_mul1 l its.toArray n dd sl t) ⟨ho, ?_⟩⟩)
    exact ⟨.ref l, H, I, rfl, q1 rfl⟩
theorem rep_one {α : Type} (xs : List α) : (List.replicate (1 : Int).toNat xs).flatten = xs := by
  show (List.replicate 1 xs).flatten = xs
  simp [List.replicate]
theorem rd_repT {B : Bs} {δ : St'} {Φ : PE1} {xs : List PyData} {k : Int} (hne : xs ≠ []) (h1 : 1 ≤ k) (h2 : k ≤ 1000) (hl : xs.length ≤ 100) (p : Φ (.tuple (List.replicate k.toNat xs).flatten) δ) : RD B (rRepTA B.K) (.tuple xs) (.int k) δ Φ := fun σ F H r v u d1 d2 Q q => by
  cases d1 with
  | tup hs ha hp =>
    cases d2
    have l1 := dpAll_len ha
    refine ⟨_, k, _, rfl, rfl, seqT r.ex hs, fun z => ?_, h1, h2, by omega, fun e => ?_, fun e l hl2 => ?_⟩
    · subst z
      cases ha
      exact hne rfl
    · subst e
      rw [rep_one] at p
      exact q _ _ δ F H (Same.refl F) r (.tup hs ha hp) p
    · have hlen : (List.replicate k.toNat xs).flatten.length ≤ 100000 := by
        rw [PyProof.Rows.lm_len_rep_flat]
        have a1 : k.toNat * xs.length ≤ 1000 * 100 := Nat.mul_le_mul (by omega) hl
        omega
      obtain ⟨F2, k1, k2, _, _, k5⟩ := r.newT hl2 (dpAll_rep ha k.toNat)
      exact q _ _ δ F2 _ k1 k2 k5 p
end DL
set_option maxHeartbeats 200000
set_option Elab.async false
set_option linter.all false
set_option maxRecDepth 100000
namespace LX
open PySem PySem.Spec PyProof.Rows
section
variable {P : Program} {w : World} {A : Around} {E : Value → Shared → Prop} {s : Shared}
def HotO (x1 : Addr) (h : Heap) : Prop := ∃ (o1 : Obj) (vs1 : Array Value), h.get? x1 = some o1 ∧ o1.data = .fields vs1 ∧ vs1[2]? = some .none
end
end LX
set_option maxHeartbeats 200000
set_option Elab.async false
set_option linter.all false
set_option maxRecDepth 100000
set_option maxHeartbeats 2000000
namespace LX
open PySem PySem.Spec PyProof.Rows L2
section
variable {P : Program} {w : World} {A : Around} {E : Value → Shared → Prop} {s : Shared} {it x1 : Addr}
theorem HotO.at {h h' : Heap} (x : HotO x1 h) (k : ∀ o, h.get? x1 = some o → h'.get? x1 = some o) : HotO x1 h' := by
  obtain ⟨o, v, g, d, c⟩ := x
  exact ⟨o, v, k o g, d, c⟩
end
end LX
set_option maxHeartbeats 200000
set_option Elab.async false
set_option linter.all false
set_option maxRecDepth 100000
set_option maxHeartbeats 2000000
set_option maxHeartbeats 200000
set_option Elab.async false
set_option linter.all false
set_option maxRecDepth 100000
set_option maxHeartbeats 2000000
namespace DL
open PySem PySem.Spec PyProof.Rows L2 L2H
open PySem.W (alike alikeAll dataLt dataLe AllAlike Sortable EachIs)
end DL
set_option maxHeartbeats 200000
set_option Elab.async false
set_option linter.all false
set_option maxRecDepth 100000
set_option maxHeartbeats 4000000
namespace K3
open PySem PySem.Spec PyProof.Rows L2 DL
open PySem.W (alike alikeAll dataLt dataLe AllAlike Sortable EachIs keyToks keyToksAll lex_pre)
variable {P : Program} {w : World} {K : PySem.W.Frag} {mg : Str → Option Value} {base : Heap} {f : Addr} {fd : FuncData} {k : Nat}
abbrev rgE (ot wd : Str) : St3 := (("hear" : Str), ot, wd)
def rgS (ot wd : Str) (size : Nat) : List (List (St3 × Nat)) := (List.range size).map fun k => [(rgE ot wd, (k + 1) % size)]
theorem rgS_len {ot wd : Str} {size : Nat} : (rgS ot wd size).length = size := by unfold rgS; rw [List.length_map, List.length_range]
theorem rgS_get {ot wd : Str} {size k : Nat} (h : k < size) : (rgS ot wd size)[k]? = some [(rgE ot wd, (k + 1) % size)] := by
  unfold rgS
  rw [List.getElem?_map, List.getElem?_range h]
  rfl
theorem rgS_ok {h ot wd : Str} {size : Nat} (hh : IsNm h) (ho : IsNm ot) (hne : ot ≠ h) (hw : IsNm wd) (h1 : 1 ≤ size) (h2 : size ≤ 100) : EndOk h (rgS ot wd size) [rgE ot wd] where
  hn := hh
  l1 := by rw [rgS_len]; exact h1
  l2 := by rw [rgS_len]; exact h2
  el := by simp
  rw := fun row hr => by
    unfold rgS at hr
    obtain ⟨k, hk, rfl⟩ := List.mem_map.mp hr
    refine ⟨by simp, by simp, fun r hm => ?_⟩
    cases List.mem_singleton.mp hm
    exact ⟨.inr ⟨rfl, ho, .inl hw⟩, hne, by rw [rgS_len]; exact Nat.mod_lt _ h1, List.mem_singleton.mpr rfl⟩
theorem rg_next {ot wd : Str} {j : Nat} : nextA [(rgE ot wd, j)] (s3D (rgE ot wd)) = some j := by
  rw [next_then]
  unfold thenE
  simp
theorem rg_walk {ot wd : Str} {size : Nat} : ∀ (m n : Nat), n < size → walkG (rgS ot wd size) n (List.replicate m (s3D (rgE ot wd))) = (some ((n + m) % size), m)
  | 0, n, h => by
    show (some n, 0) = _
    rw [Nat.add_zero, Nat.mod_eq_of_lt h]
  | m + 1, n, h => by
    rw [List.replicate_succ]
    unfold walkG
    rw [rgS_get h, Option.bind_some, rg_next]
    show ((walkG (rgS ot wd size) ((n + 1) % size) (List.replicate m (s3D (rgE ot wd)))).1, (walkG (rgS ot wd size) ((n + 1) % size) (List.replicate m (s3D (rgE ot wd)))).2 + 1) = _
    rw [rg_walk m _ (Nat.mod_lt _ (Nat.lt_of_le_of_lt (Nat.zero_le _) h))]
    have : ((n + 1) % size + m) % size = (n + (m + 1)) % size := by
      rw [Nat.add_mod, Nat.mod_mod, ← Nat.add_mod]
      congr 1
      omega
    rw [this]
theorem rep_flat {α : Type} (a : α) : ∀ m : Nat, (List.replicate m [a]).flatten = List.replicate m a
  | 0 => rfl
  | m + 1 => by rw [List.replicate_succ, List.flatten_cons, rep_flat a m]; rfl
abbrev GKE (P : Program) (w : World) (K : PySem.W.Frag) (mg : Str → Option Value) (base : Heap) : Prop := FnKw P w K mg base "end_behind" 7 ["end", "view", "start"] 2 ["start"] (fun vs zs => vs ++ zs) (spD K S_end_behind)
def S_law_round : SpP := fun n ds Φ => ∃ (h ot wd : Str), ds = [.str h, .str ot, .str wd] ∧ IsNm h ∧ IsNm ot ∧ ot ≠ h ∧ IsNm wd ∧ n + 1000 < 1099511627776 ∧ Φ (.bool true) (n + 3)
theorem ok__law_round_right (T : Tx mg) (GT : Fn P w K mg base "_law_take" 1 ["pot", "many"] (spP K S_law_take)) (GE : GKE P w K mg base) (F : Fd K "_law_round_right" s__law_round_right [] [] f fd) : FnOk P w K mg base CX0 8 f fd ["pot", "hand", "other", "word"] (spP K S_law_round) := by
  refine fnP F sc__law_round_right (fun n ds Φ h => by obtain ⟨_, _, _, rfl, _⟩ := h; rfl) (fun B cdv A outer s0 H E n ds Φ hr hp hS => ?_)
  obtain ⟨h, ot, wd, rfl, hh, ho, hne, hw, hn, hΦ⟩ := hS
  have nd := sc__law_round_right.nd
  refine ds_cons (ds_unpack [4, 5] (pg_two 4 5 nd) ?_)
  refine de_tup (da_cons ?_)
  refine de_bin op_add (de_int (de_fP (k' := 7) 0 GT hr (da_cons (de_int (da_nil ⟨400, rfl, by decide, by decide, by show n < _; omega, fun d h0 h1 => rd_I0 ?_⟩)))))
  refine da_cons (de_bin op_add (de_int (de_fP (k' := 7) 0 GT hr (da_cons (de_int (da_nil ⟨100, rfl, by decide, by decide, by show n + 1 < _; omega, fun d2 g0 g1 => rd_I0 (da_nil ⟨by simp, ?_⟩)⟩))))))
  refine wg_tup (wgs_cons (wg_name (wgs_cons (wg_name (wgs_nil ?_)))))
  obtain ⟨many, hmany⟩ : ∃ q : Nat, 1 + d = (q : Nat) := ⟨(1 + d).toNat, by omega⟩
  obtain ⟨size, hsize⟩ : ∃ q : Nat, 1 + d2 = (q : Nat) := ⟨(1 + d2).toNat, by omega⟩
  have hm1 : 1 ≤ many := by omega
  have hm2 : many ≤ 400 := by omega
  have hs1 : 1 ≤ size := by omega
  have hs2 : size ≤ 100 := by omega
  rw [hmany, hsize]
  refine ds_cons (ds_set 6 ?_ nd)
  refine de_callTy call_tuple_of T.tup boot_tuple (da_cons (de_dl (dl_map [("k", 7)] nd (pi_range1 rfl T.range pa_w) (blkOk_by (N := n__law_round_right) (sc := defScope s__law_round_right) (by decide +kernel)) (fun _ _ _ _ _ => pg_name (i := 7) nd rfl (Or.inl rfl)) (wi_rng1 (da_cons (de_nm 5 (da_nil ⟨_, rfl, ?_, ?_, ?_⟩)))))))
  · omega
  · omega
  rw [Int.toNat_natCast]
  refine ⟨by rw [rng_len]; omega, (fun y => match y with | .int k => stD [(rgE ot wd, (k.toNat + 1) % size)] | _ => .none), fun B' y hp' hy => wg_name ?_, ?_⟩
  · obtain ⟨j, hj⟩ := List.getElem?_of_mem hy
    obtain ⟨hj1, rfl⟩ := rng_get hj
    intro s1 H1 C cl fp
    refine de_tup (da_cons (de_tup (da_cons (de_str (da_cons (de_nm 2 (da_cons (de_nm 3 (da_cons (de_bin op_mod (de_bin op_add (de_nm 7 (de_int (rd_I0 (de_nm 5 (rd_I ?_ (da_nil ⟨by simp, da_nil ⟨by simp, ?_, ?_⟩⟩)))))))))))))))))
    · omega
    · have e1 : (0 + (j : Nat) + 1 : Int) % (size : Nat) = (((j + 1) % size : Nat) : Int) := by
        rw [Int.zero_add]
        push_cast
        rfl
      rw [e1]
      show _ = stD [(rgE ot wd, ((0 + (j : Nat) : Int).toNat + 1) % size)]
      rw [Int.zero_add, Int.toNat_natCast]
      rfl
    · rfl
  have e2 : (rng 0 size).map (fun y => match y with | .int k => stD [(rgE ot wd, (k.toNat + 1) % size)] | _ => .none) = (rgS ot wd size).map stD := by
    unfold rng rgS
    rw [List.map_map, List.map_map]
    refine List.map_congr_left fun k _ => ?_
    show stD [(rgE ot wd, ((0 + (k : Nat) : Int).toNat + 1) % size)] = stD [(rgE ot wd, (k + 1) % size)]
    rw [Int.zero_add, Int.toNat_natCast]
  refine da_nil (rc_tupleL rfl ?_)
  rw [e2]
  refine ds_cons (ds_set 8 (de_fP (k' := 7) 0 GT hr (da_cons (de_nm 5 (da_nil ⟨(size : Int), rfl, by omega, by omega, by show n + 1 + 1 < _; omega, fun t t0 t1 => ?_⟩)))) nd)
  obtain ⟨spot, rfl⟩ : ∃ q : Nat, t = (q : Nat) := ⟨t.toNat, by omega⟩
  have hsp : spot < size := by omega
  have hwk := rg_walk (ot := ot) (wd := wd) many spot hsp
  refine ds_last (ds_ret (de_cmp op_eq ?_))
  refine de_fKw (k' := 7) (fun ds es => ds ++ es) GE hr (pk_cons pe_w pk_nil) (fun a b => dpAll_app a b) (da_cons (de_tup (da_cons (de_nm 1 (da_cons (de_nm 6 (da_nil ⟨by simp, da_cons (de_bin op_repTA (de_tup (da_cons (de_tup (da_cons (de_str (da_cons (de_nm 2 (da_cons (de_nm 3 (da_nil ⟨by simp, da_nil ⟨by simp, de_nm 4 (rd_repT (by simp) ?_ ?_ (by simp) (da_nil (wa_cons (de_nm 8 (wa_nil ⟨rfl, rfl, h, rgS ot wd size, [rgE ot wd], List.replicate many (s3D (rgE ot wd)), spot, ?_, rgS_ok hh ho hne hw hs1 hs2, by rw [rgS_len]; exact hsp, ?_, ?_, ?_⟩)))))⟩⟩)))))))))))⟩)))))))
  · omega
  · omega
  · rw [Int.toNat_natCast]
    show [_, PyData.tuple (List.replicate many [s3D (rgE ot wd)]).flatten, _] = _
    rw [rep_flat]
    rfl
  · refine ⟨by rw [List.length_replicate]; omega, fun x hx => ?_⟩
    have := (row_good (vs := [rgE ot wd]) (by simp) (fun e he => by cases List.mem_singleton.mp he; exact .inr ⟨rfl, ho, .inl hw⟩)).1.it (s3D (rgE ot wd)) (by simp)
    rw [List.eq_of_mem_replicate hx]
    exact this
  · rw [hwk, List.drop_eq_nil_of_le (by rw [List.length_replicate]; exact Nat.le_refl _)]
    rfl
  · rw [hwk]
    show DE _ _ _ _ _
    refine de_bin op_mod (de_bin op_add (de_nm 8 (de_nm 4 (rd_I0 (de_nm 5 (rd_I ?_ (rd_eqI ?_)))))))
    · omega
    · rw [decide_eq_true]
      · exact hΦ
      · push_cast
        rfl
end K3
set_option maxHeartbeats 200000
set_option Elab.async false
set_option linter.all false
set_option maxRecDepth 100000
set_option maxHeartbeats 2000000
namespace DL
open PySem PySem.Spec PyProof.Rows L2
theorem shx_of {P : Program} {w : World} {K : PySem.W.Frag} {mg : Str → Option Value} {base : Heap} {CX : CXT} {k : Nat} {f : Addr} {fd : FuncData} {ps : List Str} {sp : Sp} (F : FnOk P w K mg base CX k f fd ps sp) : FnShX P w K mg base CX k f fd ps sp :=
  ⟨F.len, fun A out s H ar us xs Q E _ => F.run A out s H ar us xs Q E⟩
theorem shx_or {P : Program} {w : World} {K : PySem.W.Frag} {mg : Str → Option Value} {base : Heap} {CX : CXT} {k : Nat} {f : Addr} {fd : FuncData} {ps : List Str} {sp sp1 sp2 : Sp} (F1 : FnShX P w K mg base CX k f fd ps sp1) (F2 : FnShX P w K mg base CX k f fd ps sp2) (h : ∀ xs H Q E, sp xs H Q E → sp1 xs H Q E ∨ sp2 xs H Q E) : FnShX P w K mg base CX k f fd ps sp :=
  ⟨fun xs H Q E z => (h xs H Q E z).elim (F1.ln xs H Q E) (F2.ln xs H Q E), fun A out s H ar us xs Q E hg hr ev hb hv z => (h xs H Q E z).elim (F1.go A out s H ar us xs Q E hg hr ev hb hv) (F2.go A out s H ar us xs Q E hg hr ev hb hv)⟩
structure FnXDf (P : Program) (w : World) (K : PySem.W.Frag) (mg : Str → Option Value) (base : Heap) (x : Str) (k : Nat) (ps : List Str) (dvs : List V) (sp : Sp) : Prop where
  ex : ∃ f fd, mg x = some (.ref f) ∧ PySem.W.keepIn K (.ref f) = true ∧ (∃ us, Vals dvs us ∧ Binds K fd ps us) ∧ FnShX P w K mg base (L2.CX P w) k f fd ps sp
structure FnXKw (P : Program) (w : World) (K : PySem.W.Frag) (mg : Str → Option Value) (base : Heap) (x : Str) (k : Nat) (ps : List Str) (n : Nat) (ks : List Str) (gV : List V → List V → List V) (sp : Sp) : Prop where
  ex : ∃ f fd g, mg x = some (.ref f) ∧ PySem.W.keepIn K (.ref f) = true ∧ KBn K fd ps n ks g gV ∧ FnShX P w K mg base (L2.CX P w) k f fd ps sp
def tCallDf (dvs : List V) (sp : Sp) (E : L2.St → XK) (t : TA) : TE := fun σ H Q => t σ H fun vs H1 => sp (vs ++ dvs) H1 Q (E σ)
def tCallK (n m : Nat) (sp : Sp) (gV : List V → List V → List V) (E : L2.St → XK) (t tk : TA) : TE := fun σ H Q => t σ H fun vs H1 => tk σ H1 fun zs H2 => vs.length = n ∧ zs.length = m ∧ sp (gV vs zs) H2 Q (E σ)
def tCallK0 (m : Nat) (sp : Sp) (gV : List V → List V → List V) (E : L2.St → XK) (tk : TA) : TE := fun σ H Q => tk σ H fun zs H2 => zs.length = m ∧ sp (gV [] zs) H2 Q (E σ)
section
variable {X : Cx} {CX : CXT} {k n : Nat} {f : Addr} {fd : FuncData} {ps ks : List Str} {sp : Sp} {E : L2.St → XK} {x : Str} {e : Expr} {es : List Expr} {p pos : Pos} {kws : List Keyword} {t tk : TA} {g : List Value → List Value → List Value} {gV : List V → List V → List V} {dvs : List V} {dus : List Value}
theorem pe_callDfS (F : FnShX X.prog X.w X.K X.mg X.base CX k f fd ps sp) (hgd : X.A.guards = some []) (hr : Room k X.A) (hg : Gl X x) (hm : X.mg x = some (.ref f)) (hk : PySem.W.keepIn X.K (.ref f) = true) (hdv : Vals dvs dus) (hb : Binds X.K fd ps dus) (hx : ∀ σ, PassesAt CX X σ (E σ))
    (ha : PA X (e :: es) t) (hdb : (x == ("__debug__" : Str)) = false := by decide) (he : starEach (e :: es) X.env = (false, eval e X.env) :: starEach es X.env := by rfl) (hpl : (backTo pos (starEach es X.env)).any (·.1) = false := by rfl) :
    PE X (.Call (.Name x p) (e :: es) [] pos) (tCallDf dvs sp E t) := by
  constructor
  intro pins s σ H Q inv now
  apply wpAny_Call_Name_kw (ld_glob inv hg hm ?_ hdb)
  refine PySem.W.callWith_K (h₀ := X.base) inv.ok.mod.kin hk (thn (ha.run pos pins s σ H _ inv now) ?_) he hpl
  rintro us s1 ⟨xs, H1, inv1, rv, hsp⟩
  have rv2 := rv.append hdv
  have long : (us ++ dus).length = ps.length := rv2.length.symm.trans (F.ln _ _ _ _ hsp)
  constructor
  · exact inv1.kIn
  apply wpAny_call
  refine codeAny_mono (F.go X.A X.stack s1 H1 ⟨us, []⟩ (us ++ dus) _ Q (E σ) hgd hr inv1.env0 (hb s1 us inv1.kIn long) rv2 hsp) ?_
  intro r s2 hr
  cases r with
  | error e => exact hx σ pins H1 s1 e s2 inv1 hr
  | ok fl =>
    cases fl with
    | ret u => exact inv1.after hr
    | next => exact False.elim hr
    | brk => exact False.elim hr
    | cont => exact False.elim hr
theorem pe_callKS (F : FnShX X.prog X.w X.K X.mg X.base CX k f fd ps sp) (hgd : X.A.guards = some []) (hr : Room k X.A) (hg : Gl X x) (hm : X.mg x = some (.ref f)) (hk : PySem.W.keepIn X.K (.ref f) = true) (hb : KBn X.K fd ps n ks g gV) (hx : ∀ σ, PassesAt CX X σ (E σ))
    (ha : PA X (e :: es) t) (hkw : PK X kws tk) (hall : (backToKw pos (keywordEach kws X.env)).all (·.1.isSome) = true := by rfl) (hks : (backToKw pos (keywordEach kws X.env)).filterMap (·.1) = ks := by rfl)
    (hdb : (x == ("__debug__" : Str)) = false := by decide) (he : starEach (e :: es) X.env = (false, eval e X.env) :: starEach es X.env := by rfl)
    (hpl : ((backTo pos (starEach (e :: es) X.env)).any (·.1) || (backToKw pos (keywordEach kws X.env)).any (·.1.isNone)) = false := by rfl) :
    PE X (.Call (.Name x p) (e :: es) kws pos) (tCallK n ks.length sp gV E t tk) := by
  refine ⟨fun pins s σ H Q I h => ?_⟩
  refine wpAny_Call_Name_kw (ld_glob I hg hm ?_ hdb)
  refine PySem.W.callWith_KW (h₀ := X.base) I.ok.mod.kin hk hall (thn (ha.run pos pins s σ H _ I h) fun us s1 ⟨vs, H1, I1, r, q⟩ => ?_) hpl he
  refine thn (hkw.run pos pins s1 σ H1 _ I1 q) fun ws s2 ⟨zs, H2, I2, rz, l1, l2, q2⟩ => ⟨I2.kIn, ?_⟩
  rw [hks]
  have r2 := hb.rel r rz
  refine wpAny_call (codeAny_mono (F.go X.A X.stack s2 H2 ⟨us, ks.zip ws⟩ (g us ws) (gV vs zs) Q (E σ) hgd hr I2.env0 (hb.to s2 us ws I2.kIn (r.length.symm.trans l1) (rz.length.symm.trans l2)) r2 q2) fun r s' hq => ?_)
  cases r with
  | error e => exact hx σ pins H2 s2 e s' I2 hq
  | ok fl =>
    cases fl with
    | ret u => exact I2.after hq
    | next => exact False.elim hq
    | brk => exact False.elim hq
    | cont => exact False.elim hq
theorem pe_callK0S (F : FnShX X.prog X.w X.K X.mg X.base CX k f fd ps sp) (hgd : X.A.guards = some []) (hr : Room k X.A) (hg : Gl X x) (hm : X.mg x = some (.ref f)) (hk : PySem.W.keepIn X.K (.ref f) = true) (hb : KBn X.K fd ps 0 ks g gV) (hx : ∀ σ, PassesAt CX X σ (E σ))
    (hkw : PK X kws tk) (hall : (backToKw pos (keywordEach kws X.env)).all (·.1.isSome) = true := by rfl) (hks : (backToKw pos (keywordEach kws X.env)).filterMap (·.1) = ks := by rfl)
    (hdb : (x == ("__debug__" : Str)) = false := by decide)
    (hpl : ((backTo pos (starEach [] X.env)).any (·.1) || (backToKw pos (keywordEach kws X.env)).any (·.1.isNone)) = false := by rfl) :
    PE X (.Call (.Name x p) [] kws pos) (tCallK0 ks.length sp gV E tk) := by
  refine ⟨fun pins s σ H Q I h => ?_⟩
  refine wpAny_Call_Name_kw (ld_glob I hg hm ?_ hdb)
  refine PySem.W.callWith_KW0 (h₀ := X.base) I.ok.mod.kin hk hall (thn (hkw.run pos pins s σ H _ I h) fun ws s2 ⟨zs, H2, I2, rz, l2, q2⟩ => ⟨I2.kIn, ?_⟩) hpl
  rw [hks]
  have r2 := hb.rel .nil rz
  refine wpAny_call (codeAny_mono (F.go X.A X.stack s2 H2 ⟨[], ks.zip ws⟩ (g [] ws) (gV [] zs) Q (E σ) hgd hr I2.env0 (hb.to s2 [] ws I2.kIn rfl (rz.length.symm.trans l2)) r2 q2) fun r s' hq => ?_)
  cases r with
  | error e => exact hx σ pins H2 s2 e s' I2 hq
  | ok fl =>
    cases fl with
    | ret u => exact I2.after hq
    | next => exact False.elim hq
    | brk => exact False.elim hq
    | cont => exact False.elim hq
end
section
variable {B : B0} {X : Cx} {e : Expr} {es : List Expr} {kws : List Keyword} {δ : St'} {Φ : PE1} {p pos : Pos} {k k' n : Nat} {ps ks : List Str} {x : Str} {gV : List V → List V → List V} {tq : TA} {dvs : List V}
theorem de_fXDf {S : SpDX} {Ξ : Value → St' → Prop} (dd : List PyData) (G : FnXDf X.prog X.w X.K X.mg X.base x k ps dvs (spDX X.K S)) (tk : TakesD B X Ξ) (hgd : X.A.guards = some []) (hr : Room k' X.A) (hd : ∀ F, DqAll X.K F dvs dd) (h : DA B X (e :: es) δ fun ds δ' => S (ds ++ dd) (fun y => Φ y δ') fun cls => Ξ cls δ') (hk : k ≤ k' := by decide)
    (hg : Gl X x := by rfl) (hdb : (x == ("__debug__" : Str)) = false := by decide) (he : starEach (e :: es) X.env = (false, eval e X.env) :: starEach es X.env := by rfl) (hpl : (backTo pos (starEach es X.env)).any (·.1) = false := by rfl) :
    DE B X (.Call (.Name x p) (e :: es) [] pos) δ Φ := by
  obtain ⟨W, hT, hW⟩ := tk
  obtain ⟨f, fd, h1, h2, ⟨us, hv, h3⟩, h4⟩ := G.ex
  refine .of (pe_callDfS h4 hgd (hr.mono hk) hg h1 h2 hv h3 (fun σ => passAt hT σ) pa_w hdb he hpl) fun σ F H r Q q => h σ F H r _ fun vs ds δ' F' H' e1 r' d hS => ?_
  exact ⟨F', ds ++ dd, _, _, r'.ex, dpAll_app d (hd F'), hS, fun v y F2 H2 q1 q2 q3 q4 q5 q6 => q v y δ' F2 H2 (e1.trans q1) (r'.called q1 q2 q3 q4) q5 q6, fun cls F2 H2 q1 q2 q3 q4 q5 => hW cls δ' σ F2 H2 (r'.called q1 q2 q3 q4) q5⟩
theorem de_fXKw {S : SpDX} {Ξ : Value → St' → Prop} (gD : List PyData → List PyData → List PyData) (G : FnXKw X.prog X.w X.K X.mg X.base x k ps n ks gV (spDX X.K S)) (tk : TakesD B X Ξ) (hgd : X.A.guards = some []) (hr : Room k' X.A) (hkw : PK X kws tq)
    (hg2 : ∀ {F : Hp} {vs zs : List V} {ds es : List PyData}, DqAll X.K F vs ds → DqAll X.K F zs es → DqAll X.K F (gV vs zs) (gD ds es))
    (h : DA B X (e :: es) δ fun ds δ1 => WA (bs X B) tq δ1 fun zs δ2 => ds.length = n ∧ zs.length = ks.length ∧ S (gD ds zs) (fun y => Φ y δ2) fun cls => Ξ cls δ2) (hk : k ≤ k' := by decide)
    (hg : Gl X x := by rfl) (hall : (backToKw pos (keywordEach kws X.env)).all (·.1.isSome) = true := by rfl) (hks : (backToKw pos (keywordEach kws X.env)).filterMap (·.1) = ks := by rfl)
    (hdb : (x == ("__debug__" : Str)) = false := by decide) (he : starEach (e :: es) X.env = (false, eval e X.env) :: starEach es X.env := by rfl)
    (hpl : ((backTo pos (starEach (e :: es) X.env)).any (·.1) || (backToKw pos (keywordEach kws X.env)).any (·.1.isNone)) = false := by rfl) :
    DE B X (.Call (.Name x p) (e :: es) kws pos) δ Φ := by
  obtain ⟨W, hT, hW⟩ := tk
  obtain ⟨f, fd, g, h1, h2, h3, h4⟩ := G.ex
  refine .of (pe_callKS h4 hgd (hr.mono hk) hg h1 h2 h3 (fun σ => passAt hT σ) pa_w hkw hall hks hdb he hpl) fun σ F H r Q q => h σ F H r _ fun vs ds δ1 F1 H1 e1 r1 d1 p1 => p1 σ F1 H1 r1 _ fun zs es' δ2 F2 H2 e2 r2 d2 ⟨l1, l2, hS⟩ => ?_
  refine ⟨(dpAll_len d1).trans l1, (dpAll_len d2).trans l2, F2, _, _, _, r2.ex, hg2 (dpAll_mono e2 _ _ d1) d2, hS, fun v y F3 H3 q1 q2 q3 q4 q5 q6 => ?_, fun cls F3 H3 q1 q2 q3 q4 q5 => hW cls δ2 σ F3 H3 (r2.called q1 q2 q3 q4) q5⟩
  exact q v y δ2 F3 H3 (e1.trans (e2.trans q1)) (r2.called q1 q2 q3 q4) q5 q6
theorem de_fXPKw {S : SpDXP} {Ξ : Value → List (Str × PyData) → St' → Prop} (gD : List PyData → List PyData → List PyData) (G : FnXKw X.prog X.w X.K X.mg X.base x k ps n ks gV (spDXP X.K S)) (tk : TakesDP B X Ξ) (hgd : X.A.guards = some []) (hr : Room k' X.A) (hkw : PK X kws tq)
    (hg2 : ∀ {F : Hp} {vs zs : List V} {ds es : List PyData}, DqAll X.K F vs ds → DqAll X.K F zs es → DqAll X.K F (gV vs zs) (gD ds es))
    (h : DA B X (e :: es) δ fun ds δ1 => WA (bs X B) tq δ1 fun zs δ2 => ds.length = n ∧ zs.length = ks.length ∧ S (gD ds zs) (fun y => Φ y δ2) fun cls fs => Ξ cls fs δ2) (hk : k ≤ k' := by decide)
    (hg : Gl X x := by rfl) (hall : (backToKw pos (keywordEach kws X.env)).all (·.1.isSome) = true := by rfl) (hks : (backToKw pos (keywordEach kws X.env)).filterMap (·.1) = ks := by rfl)
    (hdb : (x == ("__debug__" : Str)) = false := by decide) (he : starEach (e :: es) X.env = (false, eval e X.env) :: starEach es X.env := by rfl)
    (hpl : ((backTo pos (starEach (e :: es) X.env)).any (·.1) || (backToKw pos (keywordEach kws X.env)).any (·.1.isNone)) = false := by rfl) :
    DE B X (.Call (.Name x p) (e :: es) kws pos) δ Φ := by
  obtain ⟨W, hT, hW⟩ := tk
  obtain ⟨f, fd, g, h1, h2, h3, h4⟩ := G.ex
  refine .of (pe_callKS h4 hgd (hr.mono hk) hg h1 h2 h3 (fun σ => passAt hT σ) pa_w hkw hall hks hdb he hpl) fun σ F H r Q q => h σ F H r _ fun vs ds δ1 F1 H1 e1 r1 d1 p1 => p1 σ F1 H1 r1 _ fun zs es' δ2 F2 H2 e2 r2 d2 ⟨l1, l2, hS⟩ => ?_
  refine ⟨(dpAll_len d1).trans l1, (dpAll_len d2).trans l2, F2, _, _, _, r2.ex, hg2 (dpAll_mono e2 _ _ d1) d2, hS, fun v y F3 H3 q1 q2 q3 q4 q5 q6 => ?_, fun cls dd ns us xs F3 H3 q1 q2 q3 q4 q5 q6 q7 q8 q9 => ?_⟩
  · exact q v y δ2 F3 H3 (e1.trans (e2.trans q1)) (r2.called q1 q2 q3 q4) q5 q6
  · obtain ⟨j1, j2, j3, j4⟩ := r2.fresh q5
    exact hW cls dd ns us xs δ2 σ F3 H3 (r2.called q1 q2 q3 q4) j1 q6 q7 q8 q9
theorem de_fXPKw0 {S : SpDXP} {Ξ : Value → List (Str × PyData) → St' → Prop} (gD : List PyData → List PyData) (G : FnXKw X.prog X.w X.K X.mg X.base x k ps 0 ks gV (spDXP X.K S)) (tk : TakesDP B X Ξ) (hgd : X.A.guards = some []) (hr : Room k' X.A) (hkw : PK X kws tq)
    (hg2 : ∀ {F : Hp} {zs : List V} {es : List PyData}, DqAll X.K F zs es → DqAll X.K F (gV [] zs) (gD es))
    (h : WA (bs X B) tq δ fun zs δ2 => zs.length = ks.length ∧ S (gD zs) (fun y => Φ y δ2) fun cls fs => Ξ cls fs δ2) (hk : k ≤ k' := by decide)
    (hg : Gl X x := by rfl) (hall : (backToKw pos (keywordEach kws X.env)).all (·.1.isSome) = true := by rfl) (hks : (backToKw pos (keywordEach kws X.env)).filterMap (·.1) = ks := by rfl)
    (hdb : (x == ("__debug__" : Str)) = false := by decide)
    (hpl : ((backTo pos (starEach [] X.env)).any (·.1) || (backToKw pos (keywordEach kws X.env)).any (·.1.isNone)) = false := by rfl) :
    DE B X (.Call (.Name x p) [] kws pos) δ Φ := by
  obtain ⟨W, hT, hW⟩ := tk
  obtain ⟨f, fd, g, h1, h2, h3, h4⟩ := G.ex
  refine .of (pe_callK0S h4 hgd (hr.mono hk) hg h1 h2 h3 (fun σ => passAt hT σ) hkw hall hks hdb hpl) fun σ F H r Q q => h σ F H r _ fun zs es' δ2 F2 H2 e2 r2 d2 ⟨l2, hS⟩ => ?_
  refine ⟨(dpAll_len d2).trans l2, F2, _, _, _, r2.ex, hg2 d2, hS, fun v y F3 H3 q1 q2 q3 q4 q5 q6 => ?_, fun cls dd ns us xs F3 H3 q1 q2 q3 q4 q5 q6 q7 q8 q9 => ?_⟩
  · exact q v y δ2 F3 H3 (e2.trans q1) (r2.called q1 q2 q3 q4) q5 q6
  · obtain ⟨j1, j2, j3, j4⟩ := r2.fresh q5
    exact hW cls dd ns us xs δ2 σ F3 H3 (r2.called q1 q2 q3 q4) j1 q6 q7 q8 q9
end
end DL
set_option maxHeartbeats 200000
set_option Elab.async false
set_option linter.all false
set_option maxRecDepth 100000
set_option maxHeartbeats 4000000
namespace K3
open PySem PySem.Spec PyProof.Rows L2 DL PySem.XT LamX NdefX
open PySem.W (alike alikeAll dataLt dataLe AllAlike Sortable EachIs keyToks keyToksAll lex_pre)
variable {P : Program} {w : World} {K : PySem.W.Frag} {mg : Str → Option Value} {base : Heap} {f : Addr} {fd : FuncData} {k : Nat}
variable {CV CP : Addr}
def S_endX (CV : Addr) : SpDX := fun ds Φ Ξ => S_end_behindV CV ds Φ Ξ ∨ S_end_behindT CV ds Φ Ξ ∨ S_end_behindW CV ds Φ Ξ
theorem okX_end_behind (F1 : FnOk P w K mg base (L2.CX P w) 7 f fd ["end", "view", "start"] (spDX K (S_end_behindV CV))) (F2 : FnOk P w K mg base (L2.CX P w) 7 f fd ["end", "view", "start"] (spDX K (S_end_behindT CV)))
    (F3 : FnOk P w K mg base (L2.CX P w) 7 f fd ["end", "view", "start"] (spDX K (S_end_behindW CV))) : FnShX P w K mg base (L2.CX P w) 7 f fd ["end", "view", "start"] (spDX K (S_endX CV)) :=
  shx_or (shx_of F1) (shx_or (shx_of F2) (shx_of F3) (sp := spDX K fun ds Φ Ξ => S_end_behindT CV ds Φ Ξ ∨ S_end_behindW CV ds Φ Ξ) fun xs H Q E ⟨F, ds, Φ, Ξ, h1, h2, h3, h4⟩ => h3.imp (fun z => ⟨F, ds, Φ, Ξ, h1, h2, z, h4⟩) fun z => ⟨F, ds, Φ, Ξ, h1, h2, z, h4⟩)
    fun xs H Q E ⟨F, ds, Φ, Ξ, h1, h2, h3, h4⟩ => h3.imp (fun z => ⟨F, ds, Φ, Ξ, h1, h2, z, h4⟩) fun z => ⟨F, ds, Φ, Ξ, h1, h2, z, h4⟩
theorem endX_bad0 {h : Str} {sts : List (List (St3 × Nat))} {es : List St3} {d : PyData} {Φ : PyData → Prop} {Ξ : Value → Prop} (hE : EndOk h sts es) (hd : BadV d) (hΞ : Ξ (.ref CV)) : S_endX CV [endD h sts, d, .int 0] Φ Ξ := by
  rcases hd.no with ht | ⟨xs, rfl, hx, hb⟩
  · exact .inr (.inl ⟨h, sts, es, d, .int 0, rfl, hE, hd.any, ht, hΞ⟩)
  · exact .inl ⟨h, sts, es, xs, 0, rfl, hE, hE.l1, hx, walk_bad hE xs 0 hb, hΞ⟩
theorem endX_bad {h : Str} {sts : List (List (St3 × Nat))} {es : List St3} {d n : PyData} {Φ : PyData → Prop} {Ξ : Value → Prop} (hE : EndOk h sts es) (hd : BadV d) (hn : OddN n sts.length) (hΞ : Ξ (.ref CV)) : S_endX CV [endD h sts, d, n] Φ Ξ := by
  have hv := hd.vw
  rcases hd.no with ht | ⟨xs, rfl, hx, hb⟩
  · exact .inr (.inl ⟨h, sts, es, d, n, rfl, hE, hd.any, ht, hΞ⟩)
  · exact .inr (.inr ⟨h, sts, es, xs, n, rfl, hE, hx, hv, hn.any, hn.no, hΞ⟩)
def oddsL (m : Nat) : List PyData := [.int (-1), natD m, .none, .bool true, .str "0", .tuple [.int 0], .list [.int 0], .int (10 ^ 30), .dict [], .bool false]
structure OddS (d : PyData) (m : Nat) : Prop where
  o : OddN d m
  sh : Sh1 d
theorem odds_ok {m : Nat} (h1 : 1 ≤ m) (h2 : m ≤ 100) : ∀ d ∈ oddsL m, OddS d m := by
  intro d hd
  unfold oddsL at hd
  simp only [List.mem_cons, List.not_mem_nil, or_false] at hd
  rcases hd with rfl | rfl | rfl | rfl | rfl | rfl | rfl | rfl | rfl | rfl
  · exact ⟨⟨.inl rfl, rfl, .inl rfl, .inr (.inr (.inl ⟨_, rfl, by decide⟩))⟩, ⟨.inl ⟨rfl, rfl⟩, by decide +kernel, by decide +kernel, by decide⟩⟩
  · have sm := sm_nat2 (j := m) (by omega)
    refine ⟨⟨.inl rfl, ?_, .inl rfl, .inr (.inr (.inl ⟨_, rfl, ?_⟩))⟩, sm_sh1 sm (by decide) (by decide)⟩
    · show (decide ((0 : Int) ≤ (m : Nat)) && decide (((m : Nat) : Int) < (m : Nat))) = false
      rw [decide_eq_false (by omega : ¬ ((m : Nat) : Int) < (m : Nat)), Bool.and_false]
    · have : ((m : Nat) : Int).natAbs = m := Int.natAbs_natCast m
      rw [this]
      have : m.log2 ≤ m := Nat.log2_le_self m
      omega
  · exact ⟨⟨.inl rfl, rfl, .inl rfl, .inl rfl⟩, ⟨.inl ⟨rfl, rfl⟩, rfl, by decide +kernel, by decide⟩⟩
  · exact ⟨⟨.inl rfl, rfl, .inl rfl, .inr (.inl ⟨_, rfl⟩)⟩, ⟨.inl ⟨rfl, rfl⟩, rfl, by decide +kernel, by decide⟩⟩
  · exact ⟨⟨.inl rfl, rfl, .inl rfl, .inr (.inr (.inr (.inl ⟨_, rfl, by decide +kernel⟩)))⟩, ⟨.inl ⟨rfl, rfl⟩, by decide +kernel, by decide +kernel, by decide⟩⟩
  · exact ⟨⟨.inl rfl, rfl, .inl rfl, .inr (.inr (.inr (.inr (.inl ⟨⟨by decide +kernel, rfl, by decide, by decide +kernel, rfl, _, .inl rfl⟩, by decide +kernel⟩))))⟩, ⟨.inl ⟨rfl, rfl⟩, by decide +kernel, by decide +kernel, by decide⟩⟩
  · exact ⟨⟨.inl rfl, rfl, .inl rfl, .inr (.inr (.inr (.inr (.inl ⟨⟨by decide +kernel, rfl, by decide, by decide +kernel, rfl, _, .inr rfl⟩, by decide +kernel⟩))))⟩, ⟨.inl ⟨rfl, rfl⟩, by decide +kernel, by decide +kernel, by decide⟩⟩
  · refine ⟨⟨.inl rfl, ?_, .inl rfl, .inr (.inr (.inl ⟨_, rfl, by decide +kernel⟩))⟩, ⟨.inl ⟨rfl, rfl⟩, by decide +kernel, by decide +kernel, by decide⟩⟩
    show (decide ((0 : Int) ≤ 10 ^ 30) && decide ((10 : Int) ^ 30 < (m : Nat))) = false
    rw [decide_eq_false (by omega : ¬ (10 : Int) ^ 30 < (m : Nat)), Bool.and_false]
  · exact ⟨⟨.inr rfl, rfl, .inr rfl, .inr (.inr (.inr (.inr (.inr rfl))))⟩, ⟨.inr rfl, rfl, by decide +kernel, by decide⟩⟩
  · exact ⟨⟨.inl rfl, rfl, .inl rfl, .inr (.inl ⟨_, rfl⟩)⟩, ⟨.inl ⟨rfl, rfl⟩, rfl, by decide +kernel, by decide⟩⟩
end K3
set_option maxHeartbeats 200000
set_option Elab.async false
set_option linter.all false
set_option maxRecDepth 100000
set_option maxHeartbeats 4000000
namespace K3
open PySem PySem.Spec PyProof.Rows L2 DL PySem.XT LamX NdefX
open PySem.W (alike alikeAll dataLt dataLe AllAlike Sortable EachIs keyToks keyToksAll lex_pre)
variable {P : Program} {w : World} {K : PySem.W.Frag} {mg : Str → Option Value} {base : Heap} {f : Addr} {fd : FuncData} {k : Nat}
variable {CV CP cc PT : Addr}
abbrev qR : Str := ("_law_refusals_right" : Str) ++ ".<locals>." ++ "<lambda>"
abbrev NR : List Str := n__law_refusals_right ++ [("<tab>" : Str)]
theorem scR : FnScope NR ["pot", "own", "seen"] (defScope s__law_refusals_right) := ⟨rfl, rfl, rfl, by decide +kernel, rfl, by decide +kernel, by decide +kernel⟩
theorem scR_ph : ∀ y, NR[10]? = some y → ¬ Vis (defScope s__law_refusals_right) y := fun y h => by
  have : y = "<tab>" := by
    have h : some (("<tab>" : Str)) = some y := h
    injection h with h
    exact h.symm
  subst this
  intro z
  have e : (defScope s__law_refusals_right).names.lookup ("<tab>" : Str) = none := by decide +kernel
  unfold Vis at z
  rw [e] at z
  rcases z with z | z | z <;> cases z
def S_law_refs : SpPT := fun n poss ds Φ => ∃ (h : Str) (sts : List (List (St3 × Nat))) (es vs : List St3), ds = [endD h sts, .tuple (vs.map s3D)] ∧ EndOk h sts es ∧ vs.length ≤ 12 ∧ (∀ e ∈ vs, VwE e) ∧ n + 2000 < 1099511627776 ∧ ∀ m poss', n ≤ m → m ≤ n + 20 → Φ (.bool true) m poss'
abbrev envL (m : Nat) (h : Str) (sts : List (List (St3 × Nat))) (vs : List St3) (odd bad : PyData) (asks : List PyData) (poss : List Pos) (c8 c9 : Option C) (PT : Addr) : St' := ⟨m, [some .pot, some (.d (endD h sts)), some (.d (.tuple (vs.map s3D))), some (.d (natD sts.length)), some (.d odd), some (.d bad), some (.d (.str (PyData.tuple [odd, bad]).shown)), some (.own asks), c8, c9, some (tabC PT qR poss)]⟩
theorem dpAll_revR {K : PySem.W.Frag} {F : Hp} : ∀ {us : List V} {ds : List PyData}, DqAll K F us ds → DqAll K F us.reverse ds.reverse
  | [], [], .nil => .nil
  | u :: us, d :: ds, .cons h1 h2 => by
    rw [List.reverse_cons, List.reverse_cons]
    exact dpAll_app (dpAll_revR h2) (.cons h1 .nil)
def dueD (odd : PyData) : List Str := ["view", "view", odd.shown, odd.shown, odd.shown, odd.shown]
theorem ok__law_refusals_right (T : Tx mg) (TB : TabB base mg cc PT) (hcd : fd.code = .ref cc) (GT : Fn P w K mg base "_law_take" 1 ["pot", "many"] (spP K S_law_take)) (GV : Fn P w K mg base "_law_no_view" 2 ["pot", "seen"] (spP K S_law_no_view))
    (GD : FnXDf P w K mg base "end_behind" 7 ["end", "view", "start"] [.int 0] (spDX K (S_endX CV))) (GW : FnXKw P w K mg base "end_behind" 7 ["end", "view", "start"] 2 ["start"] (fun vs zs => vs ++ zs) (spDX K (S_endX CV)))
    (GP : FnXKw P w K mg base "end_behind" 7 ["end", "view", "start"] 2 ["start"] (fun vs zs => vs ++ zs) (spDXP K (S_end_behindP CP))) (GR : FnXKw P w K mg base "end_behind" 7 ["end", "view", "start"] 0 ["start", "view", "end"] (fun _ zs => zs.reverse) (spDXP K (S_end_behindP CP)))
    (GA : FnXP P w K mg base "events_at" 7 ["end", "state"] (spDXP K (S_end_stateP CP))) (GI : FnXP P w K mg base "is_done" 7 ["end", "state"] (spDXP K (S_end_stateP CP))) (GS : FnAsk P w K mg base "_law_refused" 9 8 ["ask"] (SG15 CV CP))
    (F : Fd K "_law_refusals_right" s__law_refusals_right [] [] f fd) : FnShX P w K mg base CX0 10 f fd ["pot", "own", "seen"] (spPT K PT qR S_law_refs) := by
  refine fnPT 10 F scR (by decide) (by decide) scR_ph (fun n poss ds Φ h => by obtain ⟨_, _, _, _, rfl, _⟩ := h; rfl) (fun B cdv hcv A outer s0 H E n poss ds Φ hgd hr hp hS => ?_)
  obtain ⟨h, sts, es, vs, rfl, hE, hl, hv, hn, hΦ⟩ := hS
  have nd := scR.nd
  obtain rfl : cdv = .ref cc := hcv.symm.trans hcd
  have hl1 := hE.l1
  have hl2 := hE.l2
  refine ds_cons (ds_set 3 (hN := nd) (de_callB call_len T.len boot_len (da_cons (de_ix ix_tup (de_nm 1 (de_int (rd_ixT (z := .tuple (sts.map stD)) rfl (da_nil (rc_lenT rfl ?_)))))))))
  rw [List.length_map]
  refine ds_cons (ds_set 4 (hN := nd) (de_ix ix_list (de_dl (dl_lst (da_cons (de_neg (de_int ⟨1, rfl, da_cons (de_nm 3 (da_cons (de_non (da_cons (de_bl (da_cons (de_str (da_cons (de_tup (da_cons (de_int (da_nil ⟨by simp, da_cons (de_dl (dl_lst (da_cons (de_int (da_nil ⟨by simp, da_cons (de_bin op_pow (de_int (de_int (rd_I ⟨by decide, by decide, by decide⟩ (da_cons (de_emp (da_cons (de_bl (da_nil ⟨by simp, de_fP (k' := 9) 0 GT hr (da_cons (de_int (da_nil ⟨10, rfl, by decide, by decide, by show n < _; omega, fun d h0 h1 => ?_⟩)))⟩)))))))))⟩)))))⟩))))))))))))⟩)))))))
  obtain ⟨odd, hoi, hom⟩ : ∃ z, atI (oddsL sts.length) d = some z ∧ z ∈ oddsL sts.length := atI_in h0 h1
  have hodd := odds_ok hl1 hl2 odd hom
  refine rd_ixL (z := odd) hoi ?_
  refine ds_cons (ds_set 5 (hN := nd) (de_fP (k' := 9) 0 GV hr (da_cons (de_nm 2 (da_nil ⟨vs, rfl, hl, hv, by show n + 1 + 1000 < _; omega, fun bad m hbad hm1 hm2 => ?_⟩)))))
  have hm1 : n + 1 ≤ m := hm1
  have hm2 : m ≤ n + 1 + 10 := hm2
  refine ds_cons (ds_set 6 (hN := nd) (de_callB (cr_repr2 hgd (room70 hr)) T.repr boot_repr (da_cons (de_tup (da_cons (de_nm 4 (da_cons (de_nm 5 (da_nil ⟨by simp, da_nil (rc_show2 hodd.sh hbad.sh ?_)⟩)))))))))
  refine dss_setLam 7 10 TB rfl (lamS_by (sc := defScope s__law_refusals_right) (by decide +kernel)) rfl nd rfl fun B1 f1 c1 u1 hf1 hc1 => ?_
  generalize addP poss _ = p1
  show DSs B1 _ _ (envL m h sts vs odd bad [hdD f1] p1 none none PT) _ _
  refine dss_appLam 7 10 (xs := [hdD f1]) (poss := p1) (q := qR) TB rfl (lamS_by (sc := defScope s__law_refusals_right) (by decide +kernel)) rfl rfl rfl (by decide) (by show 1 < 100000; decide) fun B2 f2 c2 u2 hf2 hc2 => ?_
  generalize addP p1 _ = p2
  show DSs B2 _ _ (envL m h sts vs odd bad [hdD f1, hdD f2] p2 none none PT) _ _
  refine dss_appLam 7 10 (xs := [hdD f1, hdD f2]) (poss := p2) (q := qR) TB rfl (lamS_by (sc := defScope s__law_refusals_right) (by decide +kernel)) rfl rfl rfl (by decide) (by show 2 < 100000; decide) fun B3 f3 c3 u3 hf3 hc3 => ?_
  generalize addP p2 _ = p3
  show DSs B3 _ _ (envL m h sts vs odd bad [hdD f1, hdD f2, hdD f3] p3 none none PT) _ _
  refine dss_appLam 7 10 (xs := [hdD f1, hdD f2, hdD f3]) (poss := p3) (q := qR) TB rfl (lamS_by (sc := defScope s__law_refusals_right) (by decide +kernel)) rfl rfl rfl (by decide) (by show 3 < 100000; decide) fun B4 f4 c4 u4 hf4 hc4 => ?_
  generalize addP p3 _ = p4
  show DSs B4 _ _ (envL m h sts vs odd bad [hdD f1, hdD f2, hdD f3, hdD f4] p4 none none PT) _ _
  refine dss_appLam 7 10 (xs := [hdD f1, hdD f2, hdD f3, hdD f4]) (poss := p4) (q := qR) TB rfl (lamS_by (sc := defScope s__law_refusals_right) (by decide +kernel)) rfl rfl rfl (by decide) (by show 4 < 100000; decide) fun B5 f5 c5 u5 hf5 hc5 => ?_
  generalize addP p4 _ = p5
  show DSs B5 _ _ (envL m h sts vs odd bad [hdD f1, hdD f2, hdD f3, hdD f4, hdD f5] p5 none none PT) _ _
  refine dss_appLam 7 10 (xs := [hdD f1, hdD f2, hdD f3, hdD f4, hdD f5]) (poss := p5) (q := qR) TB rfl (lamS_by (sc := defScope s__law_refusals_right) (by decide +kernel)) rfl rfl rfl (by decide) (by show 5 < 100000; decide) fun B6 f6 c6 u6 hf6 hc6 => ?_
  generalize addP p5 _ = p6
  show DSs B6 _ _ (envL m h sts vs odd bad [hdD f1, hdD f2, hdD f3, hdD f4, hdD f5, hdD f6] p6 none none PT) _ _
  refine ds_cons (ds_set 8 (hN := nd) (de_dl (dl_cat (de_dl (dl_lst (da_cons (de_str (da_cons (de_str (da_nil ⟨by simp, [.str "view", .str "view"], rfl, de_dl (dl_rep (dl_lst (da_cons (de_callB (cr_repr1 hgd (room70 hr)) T.repr boot_repr (da_cons (de_nm 4 (da_nil (rc_show1 hodd.sh (da_nil ⟨by simp, de_int ⟨4, rfl, by decide, by simp, _, rfl, ?_, ?_⟩⟩)))))))))⟩))))))))))
  · show 2 + 4 ≤ 100000
    decide
  show DSs B6 _ _ (envL m h sts vs odd bad [hdD f1, hdD f2, hdD f3, hdD f4, hdD f5, hdD f6] p6 (some (.d (.list ((dueD odd).map PyData.str)))) none PT) _ _
  refine dss_freeze 7 (xs := [hdD f1, hdD f2, hdD f3, hdD f4, hdD f5, hdD f6]) ?_
  refine ds_last (ds_ret (de_and (de_cmp (op_eqV hr.units) (de_dl (dl_lcS [("ask", 9)] nd (pi_list pe_w) (blkOk_by (N := NR) (sc := defScope s__law_refusals_right) (by decide +kernel)) (fun _ _ _ _ _ => pg_name (i := 9) nd rfl (Or.inl rfl)) fun B7 σ7 H7 u7 r7 => ?_)))))
  have gf1 := u7.F _ _ (u6.F _ _ (u5.F _ _ (u4.F _ _ (u3.F _ _ (u2.F _ _ (hf1))))))
  have gc1 := u7.F _ _ (u6.F _ _ (u5.F _ _ (u4.F _ _ (u3.F _ _ (u2.F _ _ (hc1))))))
  have gf2 := u7.F _ _ (u6.F _ _ (u5.F _ _ (u4.F _ _ (u3.F _ _ (hf2)))))
  have gc2 := u7.F _ _ (u6.F _ _ (u5.F _ _ (u4.F _ _ (u3.F _ _ (hc2)))))
  have gf3 := u7.F _ _ (u6.F _ _ (u5.F _ _ (u4.F _ _ (hf3))))
  have gc3 := u7.F _ _ (u6.F _ _ (u5.F _ _ (u4.F _ _ (hc3))))
  have gf4 := u7.F _ _ (u6.F _ _ (u5.F _ _ (hf4)))
  have gc4 := u7.F _ _ (u6.F _ _ (u5.F _ _ (hc4)))
  have gf5 := u7.F _ _ (u6.F _ _ (hf5))
  have gc5 := u7.F _ _ (u6.F _ _ (hc5))
  have gf6 := u7.F _ _ (hf6)
  have gc6 := u7.F _ _ (hc6)
  have th1 := thD_of (P := P) (w := w) (K := K) (mg := mg) (base := base) (k := 7) (fr := ["own", "bad"]) (N := ["own", "bad"]) (wds := [some (endD h sts), some (bad)]) (Sp := SV CV) (nscope_by (by dsimp only [lamL]; decide +kernel)) (fun _ _ => rfl) gf1 gc1 (rep_caps r7 [1, 5]) (by
    intro B8 A8 out8 s8 H8 E8 Φ8 Ξ8 Ξp8 gg rr pp sub hS tk tp
    exact de_fXDf (k' := 7) [.int 0] GD tk gg rr (fun F => .cons (.int 0) .nil) (da_cons (de_nm 0 (da_cons (de_nm 1 (da_nil (endX_bad0 hE hbad hS))))))
    )
  have th2 := thD_of (P := P) (w := w) (K := K) (mg := mg) (base := base) (k := 7) (fr := ["own", "bad", "odd"]) (N := ["own", "bad", "odd"]) (wds := [some (endD h sts), some (bad), some (odd)]) (Sp := SV CV) (nscope_by (by dsimp only [lamL]; decide +kernel)) (fun _ _ => rfl) gf2 gc2 (rep_caps r7 [1, 5, 4]) (by
    intro B8 A8 out8 s8 H8 E8 Φ8 Ξ8 Ξp8 gg rr pp sub hS tk tp
    exact de_fXKw (k' := 7) (fun ds es => ds ++ es) GW tk gg rr (pk_cons pe_w pk_nil) (fun a b => dpAll_app a b) (da_cons (de_nm 0 (da_cons (de_nm 1 (da_nil (wa_cons (de_nm 2 (wa_nil ⟨rfl, rfl, endX_bad hE hbad hodd.o hS⟩))))))))
    )
  have th3 := thD_of (P := P) (w := w) (K := K) (mg := mg) (base := base) (k := 7) (fr := ["own", "odd"]) (N := ["own", "odd"]) (wds := [some (endD h sts), some (odd)]) (Sp := SPl CP odd) (nscope_by (by dsimp only [lamL]; decide +kernel)) (fun _ _ => rfl) gf3 gc3 (rep_caps r7 [1, 4]) (by
    intro B8 A8 out8 s8 H8 E8 Φ8 Ξ8 Ξp8 gg rr pp sub hS tk tp
    exact de_fXPKw (k' := 7) (fun ds es => ds ++ es) GP tp gg rr (pk_cons pe_w pk_nil) (fun a b => dpAll_app a b) (da_cons (de_nm 0 (da_cons (de_tup (da_nil ⟨by simp, da_nil (wa_cons (de_nm 1 (wa_nil ⟨rfl, rfl, h, sts, es, [], odd, rfl, hE, ⟨by simp, fun x hx => by cases hx⟩, rfl, hodd.o, hS⟩)))⟩)))))
    )
  have th4 := thD_of (P := P) (w := w) (K := K) (mg := mg) (base := base) (k := 7) (fr := ["odd", "seen", "own"]) (N := ["odd", "seen", "own"]) (wds := [some (odd), some (.tuple (vs.map s3D)), some (endD h sts)]) (Sp := SPl CP odd) (nscope_by (by dsimp only [lamL]; decide +kernel)) (fun _ _ => rfl) gf4 gc4 (rep_caps r7 [4, 2, 1]) (by
    intro B8 A8 out8 s8 H8 E8 Φ8 Ξ8 Ξp8 gg rr pp sub hS tk tp
    exact de_fXPKw0 (k' := 7) (fun es => es.reverse) GR tp gg rr (pk_cons pe_w (pk_cons pe_w (pk_cons pe_w pk_nil))) (fun b => dpAll_revR b) (wa_cons (de_nm 0 (wa_cons (de_nm 1 (wa_cons (de_nm 2 (wa_nil ⟨rfl, h, sts, es, vs.map s3D, odd, rfl, hE, (row_good (by omega) hv).1, (row_good (by omega) hv).2, hodd.o, hS⟩)))))))
    )
  have th5 := thD_of (P := P) (w := w) (K := K) (mg := mg) (base := base) (k := 7) (fr := ["own", "odd"]) (N := ["own", "odd"]) (wds := [some (endD h sts), some (odd)]) (Sp := SPl CP odd) (nscope_by (by dsimp only [lamL]; decide +kernel)) (fun _ _ => rfl) gf5 gc5 (rep_caps r7 [1, 4]) (by
    intro B8 A8 out8 s8 H8 E8 Φ8 Ξ8 Ξp8 gg rr pp sub hS tk tp
    exact de_fXP (k' := 7) GA tp gg rr (da_cons (de_nm 0 (da_cons (de_nm 1 (da_nil ⟨h, sts, es, odd, rfl, hE, hodd.o, hS⟩)))))
    )
  have th6 := thD_of (P := P) (w := w) (K := K) (mg := mg) (base := base) (k := 7) (fr := ["own", "odd"]) (N := ["own", "odd"]) (wds := [some (endD h sts), some (odd)]) (Sp := SPl CP odd) (nscope_by (by dsimp only [lamL]; decide +kernel)) (fun _ _ => rfl) gf6 gc6 (rep_caps r7 [1, 4]) (by
    intro B8 A8 out8 s8 H8 E8 Φ8 Ξ8 Ξp8 gg rr pp sub hS tk tp
    exact de_fXP (k' := 7) GI tp gg rr (da_cons (de_nm 0 (da_cons (de_nm 1 (da_nil ⟨h, sts, es, odd, rfl, hE, hodd.o, hS⟩)))))
    )
  refine wi_list (de_nm 7 ⟨[hdD f1, hdD f2, hdD f3, hdD f4, hdD f5, hdD f6], rfl, by show 6 ≤ 100000; decide, fun i acc n' => acc = ((dueD odd).take i).map PyData.str ∧ m = n', ⟨rfl, rfl⟩, fun B' i y acc n' hsub hy hac hI => wg_name ?_, fun acc n' hac hI => ?_⟩)
  · obtain ⟨ha, hm⟩ := hI
    subst ha hm
    intro s1 H1 C1 cl1 fp1 bg
    rcases i with _ | _ | _ | _ | _ | _ | i
    · have hy : some (hdD f1) = some y := hy
      injection hy with hy
      subst hy
      refine de_fAsk (k' := 9) GS hgd hr (begun_cells (js := [1, 5]) bg (fun ok => Caps.made ok (lamS_by (sc := defScope s__law_refusals_right) (by decide +kernel)).free (by decide +kernel) rfl) (fun _ => rfl)) (th1.mono hsub.2.1) (de_nm 9 ⟨rfl, .inl ⟨rfl, ?_⟩⟩)
      exact ⟨rfl, rfl⟩
    · have hy : some (hdD f2) = some y := hy
      injection hy with hy
      subst hy
      refine de_fAsk (k' := 9) GS hgd hr (begun_cells (js := [1, 5, 4]) bg (fun ok => Caps.made ok (lamS_by (sc := defScope s__law_refusals_right) (by decide +kernel)).free (by decide +kernel) rfl) (fun _ => rfl)) (th2.mono hsub.2.1) (de_nm 9 ⟨rfl, .inl ⟨rfl, ?_⟩⟩)
      exact ⟨rfl, rfl⟩
    · have hy : some (hdD f3) = some y := hy
      injection hy with hy
      subst hy
      refine de_fAsk (k' := 9) GS hgd hr (begun_cells (js := [1, 4]) bg (fun ok => Caps.made ok (lamS_by (sc := defScope s__law_refusals_right) (by decide +kernel)).free (by decide +kernel) rfl) (fun _ => rfl)) (th3.mono hsub.2.1) (de_nm 9 ⟨rfl, .inr ⟨odd, rfl, hodd.sh, ?_⟩⟩)
      exact ⟨rfl, rfl⟩
    · have hy : some (hdD f4) = some y := hy
      injection hy with hy
      subst hy
      refine de_fAsk (k' := 9) GS hgd hr (begun_cells (js := [4, 2, 1]) bg (fun ok => Caps.made ok (lamS_by (sc := defScope s__law_refusals_right) (by decide +kernel)).free (by decide +kernel) rfl) (fun _ => rfl)) (th4.mono hsub.2.1) (de_nm 9 ⟨rfl, .inr ⟨odd, rfl, hodd.sh, ?_⟩⟩)
      exact ⟨rfl, rfl⟩
    · have hy : some (hdD f5) = some y := hy
      injection hy with hy
      subst hy
      refine de_fAsk (k' := 9) GS hgd hr (begun_cells (js := [1, 4]) bg (fun ok => Caps.made ok (lamS_by (sc := defScope s__law_refusals_right) (by decide +kernel)).free (by decide +kernel) rfl) (fun _ => rfl)) (th5.mono hsub.2.1) (de_nm 9 ⟨rfl, .inr ⟨odd, rfl, hodd.sh, ?_⟩⟩)
      exact ⟨rfl, rfl⟩
    · have hy : some (hdD f6) = some y := hy
      injection hy with hy
      subst hy
      refine de_fAsk (k' := 9) GS hgd hr (begun_cells (js := [1, 4]) bg (fun ok => Caps.made ok (lamS_by (sc := defScope s__law_refusals_right) (by decide +kernel)).free (by decide +kernel) rfl) (fun _ => rfl)) (th6.mono hsub.2.1) (de_nm 9 ⟨rfl, .inr ⟨odd, rfl, hodd.sh, ?_⟩⟩)
      exact ⟨rfl, rfl⟩
    · cases hy
  · obtain ⟨ha, hm⟩ := hI
    subst ha hm
    refine de_nm 8 (rd_eqSS (ss := dueD odd) ⟨_, rfl, iteT (de_one (de_cmp op_eq (de_callB (cr_repr2 hgd (room70 hr)) T.repr boot_repr (da_cons (de_tup (da_cons (de_nm 4 (da_cons (de_nm 5 (da_nil ⟨by simp, da_nil (rc_show2 hodd.sh hbad.sh (de_nm 6 (rd_eqS ?_)))⟩))))))))))⟩)
    rw [decide_eq_true rfl]
    exact ⟨p6, rfl, hΦ m p6 (by omega) (by omega)⟩
end K3
set_option maxHeartbeats 200000
set_option Elab.async false
set_option linter.all false
set_option maxRecDepth 100000
set_option maxHeartbeats 2000000
namespace DL
open PySem PySem.Spec PyProof.Rows L2
section
variable {B : B0} {X : Cx} {e : Expr} {es : List Expr} {δ : St'} {Φ : PE1} {Ψ : List PyData → St' → Prop} {p pos pp : Pos} {k k' : Nat} {ps : List Str} {x pn : Str} {xs : List PyData}
theorem own3 {K : PySem.W.Frag} {F : Hp} {us : List V} {u v w : Int} (h : DqAll K F us [.int u, .int v, .int w]) : us = [.int u, .int v, .int w] := by
  cases h with
  | cons d1 d2 => cases d2 with
    | cons d2 d3 => cases d3 with
      | cons d3 d4 => cases d4; cases d1; cases d2; cases d3; rfl
theorem de_fPo2 {S : SpP} (i : Nat) (G : Fn X.prog X.w X.K X.mg X.base x k ps (spP X.K S)) (hr : Room k' X.A) (h : DA B X es δ fun ds δ' => ∃ (u v w : Int) (n : Nat), δ'.s[i]? = some (some (.own [.int u, .int v, .int w])) ∧ 0 ≤ w ∧ w ≤ (n : Int) ∧ S n ds fun y n' => ∀ u' v' w' : Int, 0 ≤ w' → w' ≤ (n' : Int) → Φ y (δ'.put i (.own [.int u', .int v', .int w']))) (hk : k ≤ k' := by decide)
    (hi : δ.s[i]? = some (some (.own xs)) := by rfl) (hN : X.N[i]? = some pn := by rfl)
    (hv : Vis X.env.scope pn := by first | exact Or.inl rfl | exact Or.inr (Or.inl rfl) | exact Or.inr (Or.inr rfl)) (hd : (pn == ("__debug__" : Str)) = false := by decide)
    (hcd : (pn == ("__classdict__" : Str)) = false := by decide) (hg : Gl X x := by rfl) (hdb : (x == ("__debug__" : Str)) = false := by decide) (he : starEach (.Name pn pp :: es) X.env = (false, eval (.Name pn pp) X.env) :: starEach es X.env := by rfl) (hpl : (backTo pos (starEach es X.env)).any (·.1) = false := by rfl) :
    DE B X (.Call (.Name x p) (.Name pn pp :: es) [] pos) δ Φ := by
  obtain ⟨f, fd, h1, h2, h3, h4⟩ := G.ex
  refine .of (pe_call h4 (hr.mono hk) hg h1 h2 h3 .nil pass0 (pa_cons (pe_var hN hv hd hcd) pa_w he) hdb he hpl) fun σ F H r Q q => ?_
  obtain ⟨v0, hv0, a, us, rfl, hB, hF, hH, hD⟩ := r.cell i _ hi
  refine ⟨.ref a, hv0, h σ F H r _ fun vs ds δ' F' H' e1 r' d ⟨u, v, w, n, hi', hw, hn, hS⟩ => ?_⟩
  obtain ⟨v1, hv1, a1, us1, rfl, hB1, hF1, hH1, hD1⟩ := r'.cell i _ hi'
  rw [hv0] at hv1
  have : a = a1 := by injection hv1 with h1; injection h1 with h1; injection h1
  subst this
  obtain rfl := own3 hD1
  refine ⟨F', a, vs, ds, n, _, (by simp), r'.ex, hF1, num_pot hH1 hw hn, d, hS, fun y0 y n' F2 H2 q1 q2 q3 q4 q5 q6 q7 => ?_⟩
  obtain ⟨u', v', w', hw1, hw2, r2⟩ := r'.calledO hi' hv0 q1 q2 q3 q4 q5
  exact q y0 y _ F2 H2 (e1.trans q1) r2 q6 (q7 u' v' w' hw1 hw2)
theorem dl_fPo2 {S : SpPO} (i : Nat) (G : Fn X.prog X.w X.K X.mg X.base x k ps (spPO X.K S)) (hr : Room k' X.A) (h : DA B X es δ fun ds δ' => ∃ (u v w : Int) (n : Nat), δ'.s[i]? = some (some (.own [.int u, .int v, .int w])) ∧ 0 ≤ w ∧ w ≤ (n : Int) ∧ S n ds fun y n' => ∀ u' v' w' : Int, 0 ≤ w' → w' ≤ (n' : Int) → Ψ y (δ'.put i (.own [.int u', .int v', .int w']))) (hk : k ≤ k' := by decide)
    (hi : δ.s[i]? = some (some (.own xs)) := by rfl) (hN : X.N[i]? = some pn := by rfl)
    (hv : Vis X.env.scope pn := by first | exact Or.inl rfl | exact Or.inr (Or.inl rfl) | exact Or.inr (Or.inr rfl)) (hd : (pn == ("__debug__" : Str)) = false := by decide)
    (hcd : (pn == ("__classdict__" : Str)) = false := by decide) (hg : Gl X x := by rfl) (hdb : (x == ("__debug__" : Str)) = false := by decide) (he : starEach (.Name pn pp :: es) X.env = (false, eval (.Name pn pp) X.env) :: starEach es X.env := by rfl) (hpl : (backTo pos (starEach es X.env)).any (·.1) = false := by rfl) :
    DLs B X (.Call (.Name x p) (.Name pn pp :: es) [] pos) δ Ψ := by
  obtain ⟨f, fd, h1, h2, h3, h4⟩ := G.ex
  refine .of (pe_call h4 (hr.mono hk) hg h1 h2 h3 .nil pass0 (pa_cons (pe_var hN hv hd hcd) pa_w he) hdb he hpl) fun σ F H r Q q => ?_
  obtain ⟨v0, hv0, a, us, rfl, hB, hF, hH, hD⟩ := r.cell i _ hi
  refine ⟨.ref a, hv0, h σ F H r _ fun vs ds δ' F' H' e1 r' d ⟨u, v, w, n, hi', hw, hn, hS⟩ => ?_⟩
  obtain ⟨v1, hv1, a1, us1, rfl, hB1, hF1, hH1, hD1⟩ := r'.cell i _ hi'
  rw [hv0] at hv1
  have : a = a1 := by injection hv1 with h1; injection h1 with h1; injection h1
  subst this
  obtain rfl := own3 hD1
  refine ⟨F', a, vs, ds, n, _, (by simp), r'.ex, hF1, num_pot hH1 hw hn, d, hS, fun l us xs n' F2 H2 q1 q2 q3 q4 q5 q6 q7 q8 q9 q10 => ?_⟩
  obtain ⟨u', v', w', hw1, hw2, r2⟩ := r'.calledO hi' hv0 q1 q2 q3 q4 q5
  obtain ⟨j1, j2, j3, j4⟩ := r'.fresh q6
  exact q l us xs _ F2 H2 (e1.trans q1) r2 j1 q7 q8 (fun j c hj ho => by
    rcases put_get hj with ⟨rfl, rfl, _⟩ | ⟨_, hj⟩
    · exact j4 _ _ hi' rfl
    · exact j4 j c hj ho) q9 (q10 u' v' w' hw1 hw2)
end
end DL
set_option maxHeartbeats 200000
set_option Elab.async false
set_option linter.all false
set_option maxRecDepth 100000
set_option maxHeartbeats 4000000
namespace K3
open PySem PySem.Spec PyProof.Rows L2 DL PySem.XT LamX NdefX
open PySem.W (alike alikeAll dataLt dataLe AllAlike Sortable EachIs keyToks keyToksAll lex_pre)
variable {P : Program} {w : World} {K : PySem.W.Frag} {mg : Str → Option Value} {base : Heap} {f : Addr} {fd : FuncData} {k : Nat}
variable {CV CP cc PT : Addr}
theorem sh_evs {vs : List St3} (hl : vs.length ≤ 200) (hv : ∀ e ∈ vs, VwE e) : Sh1 (.tuple (vs.map s3D)) := by
  refine sm_sh1 (wt := 5600) (dp := 2) (sm_tupW (fun x hx => ?_) ?_) (by decide) (by decide)
  · obtain ⟨e, he, rfl⟩ := List.mem_map.mp hx
    exact ⟨27, sm_ev (hv e he)⟩
  · have := weightAll_le (m := 27) (xs := vs.map s3D) fun y hy => by
      obtain ⟨e, he, rfl⟩ := List.mem_map.mp hy
      exact (sm_ev (hv e he)).wt
    rw [List.length_map] at this
    omega
theorem sh_bool {b : Bool} : Sh1 (.bool b) := by cases b <;> exact ⟨.inl ⟨rfl, rfl⟩, rfl, by decide +kernel, by decide⟩
theorem sh_opt {o : Option Nat} (h : ∀ n, o = some n → n < 128) : Sh1 (optD o) := by
  cases o with
  | none => exact ⟨.inl ⟨rfl, rfl⟩, rfl, by decide +kernel, by decide⟩
  | some n => exact sm_sh1 (sm_nat2 (h n rfl)) (by decide) (by decide)
theorem behG_lt {sts : List (List (St3 × Nat))} (hok : StsOk sts) : ∀ (vs : List St3) (o : Option Nat), (∀ n, o = some n → n < sts.length) → ∀ n, behG sts o vs = some n → n < sts.length
  | [], o, h, n, hn => h n (by cases o <;> exact hn)
  | e :: vs, none, h, n, hn => behG_lt hok vs none (fun _ z => by cases z) n hn
  | e :: vs, some k, h, n, hn => behG_lt hok vs (thenE (rowA sts k) e) (fun _ z => thenE_lt hok z) n hn
theorem en_fit {h : Str} {os ws : List Str} {sts : List (List (St3 × Nat))} (hE : EnOk h os ws sts) : Fit (endD h sts) := by
  refine fit_end hE.nm.hn hE.l2 fun row hr => ?_
  have q := hE.rw row hr
  have := q.len
  have l2 := hE.l2
  exact ⟨by omega, fun r hm => by
    have v := (q.ev r hm).1.vw hE.nm
    have lt := (q.ev r hm).2
    exact ⟨v.pre.kd, v.pre.ot, v.pre.wd, by omega⟩⟩
abbrev keepE (e : St3) : Bool := !decide (e.2.2 = flt) || decide (e.1 = ("hear" : Str))
theorem keep_vw {vs : List St3} (h : ∀ e ∈ vs, PreE e) : ∀ e ∈ vs.filter keepE, VwE e := fun e he => by
  obtain ⟨h1, h2⟩ := List.mem_filter.mp he
  refine (h e h1).vw ?_
  rw [Bool.or_eq_true] at h2
  rcases h2 with h2 | h2
  · left
    intro z
    rw [decide_eq_true z] at h2
    cases h2
  · exact .inr (of_decide_eq_true h2)
def keepD : PyData → Bool
  | .tuple [.str a, _, .str c] => !decide (c = flt) || decide (a = ("hear" : Str))
  | _ => false
theorem keep_map (vs : List St3) : ((vs.map s3D).filter keepD).map (fun x => x) = (vs.filter keepE).map s3D := by
  rw [List.map_id', List.filter_map]
  rfl
abbrev NL : List Str := n_law ++ [("<tab>" : Str)]
theorem scL : FnScope NL ["script"] (defScope s_law) := ⟨rfl, rfl, rfl, by decide +kernel, rfl, by decide +kernel, by decide +kernel⟩
theorem scL_ph : ∀ y, NL[16]? = some y → ¬ Vis (defScope s_law) y := fun y h => by
  have : y = "<tab>" := by
    have h : some (("<tab>" : Str)) = some y := h
    injection h with h
    exact h.symm
  subst this
  intro z
  have e : (defScope s_law).names.lookup ("<tab>" : Str) = none := by decide +kernel
  unfold Vis at z
  rw [e] at z
  rcases z with z | z | z <;> cases z
def S_law : SpD := fun ds Φ => ∃ ns : List Int, ds = [.list (ns.map PyData.int)] ∧ ns.length ≤ 63 ∧ Φ (.bool true)
abbrev envW (PT : Addr) (ns : List Int) (i : Nat) (u v w : Int) (l ws : List Str) (poss : List Pos) (r : List (Option C)) : St' := ⟨0, [some (.d (.list (ns.map PyData.int))), some (.d (.int (i : Nat))), some (.own [.int u, .int v, .int w]), some (.d (nmL l)), some (.d (nmL ws))] ++ r ++ [some (tabC PT qR poss)]⟩
structure GsL (P : Program) (w : World) (K : PySem.W.Frag) (mg : Str → Option Value) (base : Heap) (PT : Addr) : Prop where
  gT : Fn P w K mg base "_law_take" 1 ["pot", "many"] (spP K S_law_take)
  gP : Fn P w K mg base "_law_pot" 1 ["script", "k"] (spO K S_law_pot)
  gN : Fn P w K mg base "_law_names" 2 ["pot", "many"] (spPO K S_law_names)
  gE : Fn P w K mg base "_law_end" 3 ["pot", "hand", "others", "words"] (spP K S_law_end)
  gR : Fn P w K mg base "_law_round_right" 8 ["pot", "hand", "other", "word"] (spP K S_law_round)
  gV : Fn P w K mg base "_law_view" 2 ["pot", "states", "spot", "others", "words"] (spP K S_law_view)
  gB : Fn P w K mg base "_law_behind" 2 ["states", "spot", "seen"] (spD K S_law_behind)
  gX : FnTab P w K mg base "_law_refusals_right" 10 ["pot", "own", "seen"] PT qR S_law_refs
  gA : Fn P w K mg base "events_at" 7 ["end", "state"] (spD K S_events_at)
  gD : Fn P w K mg base "is_done" 7 ["end", "state"] (spD K S_is_done)
  gAK : FnKw P w K mg base "events_at" 7 ["end", "state"] 0 ["state", "end"] (fun _ zs => zs.reverse) (spD K S_events_at)
  gDK : FnKw P w K mg base "is_done" 7 ["end", "state"] 0 ["state", "end"] (fun _ zs => zs.reverse) (spD K S_is_done)
  gK2 : FnKw P w K mg base "end_behind" 7 ["end", "view", "start"] 2 ["start"] (fun vs zs => vs ++ zs) (spD K S_end_behind)
  gK0 : FnKw P w K mg base "end_behind" 7 ["end", "view", "start"] 0 ["start", "end", "view"] (fun _ zs => zs.drop 1 ++ zs.take 1) (spD K S_end_behind)
  gDF : FnDf P w K mg base "end_behind" 7 ["end", "view", "start"] [.int 0] (spD K S_end_behind)
theorem dpAll_drop {K : PySem.W.Frag} {F : Hp} : ∀ {us : List V} {ds : List PyData} (n : Nat), DqAll K F us ds → DqAll K F (us.drop n) (ds.drop n)
  | _, _, 0, h => h
  | [], [], n + 1, .nil => .nil
  | u :: us, d :: ds, n + 1, .cons h1 h2 => dpAll_drop n h2
theorem dpAll_take {K : PySem.W.Frag} {F : Hp} : ∀ {us : List V} {ds : List PyData} (n : Nat), DqAll K F us ds → DqAll K F (us.take n) (ds.take n)
  | _, _, 0, h => .nil
  | [], [], n + 1, .nil => .nil
  | u :: us, d :: ds, n + 1, .cons h1 h2 => .cons h1 (dpAll_take n h2)
theorem ok_law {wW : World} (T : Tx mg) (hB : ∃ t, mg "BEGIN" = some (.int 0 t)) (G : GsL P wW K mg base PT) (F : Fd K "law" s_law [] [] f fd) : FnShX P wW K mg base CX0 12 f fd ["script"] (spLT K PT S_law) := by
  refine fnLTS 16 qR F scL (by decide) (by decide) scL_ph (fun ds Φ h => by obtain ⟨_, rfl, _⟩ := h; rfl) (fun B cdv hcv A outer s0 H E ds Φ hgd hr hp hS => ?_)
  obtain ⟨ns, rfl, hns, hΦ⟩ := hS
  have nd := scL.nd
  refine ds_cons (ds_for [1] (pi_range1 rfl T.range pa_w) (pg_name (i := 1) nd rfl (.inl rfl)) (wi_rng1 (da_cons (de_callB (call_max2 rfl) T.max boot_max (da_cons (de_int (da_cons (de_callB (call_min2 rfl) T.min boot_min (da_cons (de_int (da_cons (de_callB call_len T.len boot_len (da_cons (de_nm 0 (da_nil (rc_lenL rfl (da_nil (rc_int2 (da_nil (rc_int2 (da_nil ⟨_, rfl, ?_, ?_, ?_⟩)))))))))))))))))))))
  · rw [List.length_map]; split <;> (try split) <;> omega
  · rw [List.length_map]; split <;> (try split) <;> omega
  refine ⟨fun i => (fun δ => ∃ (r : List (Option C)) (poss : List Pos), r.length = 15 ∧ δ = ⟨0, some (.d (.list (ns.map PyData.int))) :: (r ++ [some (tabC PT qR poss)])⟩), ⟨List.replicate 15 none, [], rfl, rfl⟩, fun i y δ hy hI => ?_, fun δ hI => ?_⟩
  · obtain ⟨r, poss, hr15, rfl⟩ := hI
    obtain ⟨_, rfl⟩ := rng_get hy
    obtain ⟨c1, c2, c3, c4, c5, c6, c7, c8, c9, c10, c11, c12, c13, c14, c15, rfl⟩ : ∃ c1 c2 c3 c4 c5 c6 c7 c8 c9 c10 c11 c12 c13 c14 c15, r = [c1, c2, c3, c4, c5, c6, c7, c8, c9, c10, c11, c12, c13, c14, c15] := by
      match r, hr15 with
      | [c1, c2, c3, c4, c5, c6, c7, c8, c9, c10, c11, c12, c13, c14, c15], _ => exact ⟨_, _, _, _, _, _, _, _, _, _, _, _, _, _, _, rfl⟩
    refine wg_name ?_
    rw [show (0 + (i : Nat) : Int) = (i : Nat) by omega]
    refine ds_cons (ds_setO 2 (dl_f (k' := 11) G.gP hr (da_cons (de_nm 0 (da_cons (de_nm 1 (da_nil ⟨ns, i, rfl, fun x y => ?_⟩)))))) nd)
    refine ds_cons (ds_set 3 (hN := nd) (de_dl (dl_fPo2 (k' := 11) 2 G.gN hr (da_cons (de_bin op_add (de_int (de_fPo2 (k' := 11) 2 G.gT hr (da_cons (de_int (da_nil ⟨x, y, 0, 0, rfl, by decide, by decide, 3, rfl, by decide, by decide, by decide, fun d g0 g1 u1 v1 w1 hw1 hx1 => rd_I0 (da_nil ⟨u1, v1, w1, 1, rfl, hw1, hx1, (2 + d).toNat, ?_, ?_, by decide, fun l hl hld hln u v w hw hwx => ?_⟩)⟩))))))))))
    · show [PyData.int (2 + d)] = [.int (((2 + d).toNat : Nat) : Int)]
      rw [Int.toNat_of_nonneg (by omega)]
    · omega
    have hwx : w ≤ 60 := by omega
    clear hw1 hx1
    obtain ⟨h, os, rfl⟩ : ∃ h os, l = h :: os := by
      cases l with
      | nil => simp at hl; omega
      | cons h os => exact ⟨h, os, rfl⟩
    have hol : 1 ≤ os.length ∧ os.length ≤ 3 := by rw [List.length_cons] at hl; omega
    refine ds_cons (ds_set 4 (hN := nd) (de_dl (dl_fPo2 (k' := 11) 2 G.gN hr (da_cons (de_bin op_add (de_int (de_fPo2 (k' := 11) 2 G.gT hr (da_cons (de_int (da_nil ⟨u, v, w, 60, rfl, hw, hwx, 3, rfl, by decide, by decide, by decide, fun d2 g2 g3 u1 v1 w1 hw1 hx1 => rd_I0 (da_nil ⟨u1, v1, w1, 61, rfl, hw1, hx1, (1 + d2).toNat, ?_, ?_, by decide, fun ws hwl hwd hwn u v w hw hwx => ?_⟩)⟩))))))))))
    · show [PyData.int (1 + d2)] = [.int (((1 + d2).toNat : Nat) : Int)]
      rw [Int.toNat_of_nonneg (by omega)]
    · omega
    have hwx : w ≤ 100 := by omega
    clear hw1 hx1
    have hNm : Nms h os ws := ⟨hln h List.mem_cons_self, fun o ho => ⟨hln o (List.mem_cons_of_mem _ ho), fun z => (List.nodup_cons.mp hld).1 (z ▸ ho)⟩, hwn, hol.1, by omega, by omega, by omega⟩
    have at0 : atI ((h :: os).map PyData.str) 0 = some (.str h) := by rw [atI_nn (by decide)]; rfl
    obtain ⟨o, os', hos⟩ : ∃ o os', os = o :: os' := by
      cases os with
      | nil => simp at hol
      | cons o os' => exact ⟨o, os', rfl⟩
    have hoo : o ∈ os := by rw [hos]; exact List.mem_cons_self
    have at1 : atI ((h :: os).map PyData.str) 1 = some (.str o) := by rw [hos, atI_nn (by decide)]; rfl
    obtain ⟨wd, ws', hws⟩ : ∃ w ws', ws = w :: ws' := by
      cases ws with
      | nil => simp at hwl; omega
      | cons w ws' => exact ⟨w, ws', rfl⟩
    have hww : wd ∈ ws := by rw [hws]; exact List.mem_cons_self
    have atw : atI (ws.map PyData.str) 0 = some (.str wd) := by rw [hws, atI_nn (by decide)]; rfl
    have cut1 : DL.cutD ((h :: os).map PyData.str) (some 1) none = os.map PyData.str := by rw [cutD_from1]; rfl
    show DSs B _ _ (envW PT ns i u v w (h :: os) ws poss [c5, c6, c7, c8, c9, c10, c11, c12, c13, c14, c15]) _ _
    refine ds_cons (ds_set 5 (hN := nd) (de_fPo2 (k' := 11) 2 G.gE hr (da_cons (de_ix ix_list (de_nm 3 (de_int (rd_ixL at0 (da_cons (de_dl (dl_from (de_nm 3 ⟨_, rfl, da_cons (de_nm 4 (da_nil ⟨u, v, w, 100, rfl, hw, hwx, h, os, ws, ?_, hNm, by decide, fun sts m hEn hl6 hr4 hm1 hm2 u v w hw hwx => ?_⟩))⟩)))))))))))
    · rw [cut1]
    have hwx : w ≤ 300 := by omega
    have hE := hEn.end'
    have hok := hEn.sts
    have l1 := hEn.l1
    have l2 := hEn.l2
    refine ds_cons (ds_unpack [6, 7] (pg_two 6 7 nd) (de_nm 5 (wg_tup (wgs_cons (wg_name (wgs_cons (wg_name (wgs_nil ?_))))))))
    refine ds_cons (ds_if (dt_not (dt_val (de_fPo2 (k' := 11) 2 G.gR hr (da_cons (de_nm 6 (da_cons (de_ix ix_list (de_nm 3 (de_int (rd_ixL at1 (da_cons (de_ix ix_list (de_nm 4 (de_int (rd_ixL atw (da_nil ⟨u, v, w, 300, rfl, hw, hwx, h, o, wd, rfl, hNm.hn, (hNm.on o hoo).1, (hNm.on o hoo).2, hNm.wn wd hww, by decide, fun u v w hw hwx => ⟨_, rfl, ?_⟩⟩)))))))))))))))))
    have hwx : w ≤ 400 := by omega
    refine iteF (ds_nil ?_)
    have fit := en_fit hEn
    refine ds_cons (ds_set 8 (hN := nd) (de_callB (cr_repr hgd (room70 hr)) T.repr boot_repr (da_cons (de_nm 5 (da_nil (rc_show fit ?_))))))
    refine ds_cons (ds_for [9, 10] (pi_enumT T.enum pa_w) (pg_two 9 10 nd) (wi_enumT (da_cons (de_nm 7 (da_nil ⟨sts.map stD, rfl, fun j δ => ∃ c9 c10 c11, δ = envW PT ns i u v w (h :: os) ws poss [some (.d (endD h sts)), some (.d (.str h)), some (.d (stsD sts)), some (.d (.str (endD h sts).shown)), c9, c10, c11, c12, c13, c14, c15], ⟨c9, c10, c11, rfl⟩, fun j y δ hy hJ => ?_, fun δ hJ => ?_⟩)))))
    · obtain ⟨c9, c10, c11, rfl⟩ := hJ
      obtain ⟨e, hei, rfl⟩ := enum_get hy
      rw [List.getElem?_map, Option.map_eq_some_iff] at hei
      obtain ⟨row, hrow, rfl⟩ := hei
      have hrm := List.mem_of_getElem? hrow
      have hR := hEn.rw row hrm
      have hrl := hR.len
      have hvw : ∀ e ∈ row.map (·.1), VwE e := fun e he => by
        obtain ⟨r, hr', rfl⟩ := List.mem_map.mp he
        exact (hR.ev r hr').1.vw hNm
      have shE : Sh1 (.tuple ((row.map (·.1)).map s3D)) := sh_evs (by rw [List.length_map]; omega) hvw
      have emap : (row.map fun r => s3D r.1) = (row.map (·.1)).map s3D := by rw [List.map_map]; rfl
      refine wg_tup (wgs_cons (wg_name (wgs_cons (wg_name (wgs_nil ?_)))))
      refine ds_cons (ds_set 11 (hN := nd) (de_callTy call_tuple_of T.tup boot_tuple (da_cons (de_dl (dl_map [("step", 12)] nd (pi_tup pe_w) (blkOk_by (N := NL) (sc := defScope s_law) (by decide +kernel)) (fun _ _ _ _ _ => pg_name (i := 12) nd rfl (Or.inl rfl)) (wi_tup (de_nm 10 ⟨row.map rowD, rfl, ?_, cut3, fun B' y hp' hy => wg_name ?_, ?_⟩)))))))
      · rw [List.length_map]; omega
      · obtain ⟨r, hr', rfl⟩ := List.mem_map.mp hy
        intro s0 H0 C cl fp
        exact de_upto sl_tupA (de_nm 12 (ru_slT ⟨rfl, rfl⟩))
      rw [cut3s]
      refine da_nil (rc_tupleL rfl ?_)
      refine ds_last (ds_if (dt_pw (dw_or (dt_cmp op_ne (de_callB (cr_repr1 hgd (room70 hr)) T.repr boot_repr (da_cons (de_f (k' := 11) G.gA hr (da_cons (de_nm 5 (da_cons (de_nm 9 (da_nil ⟨h, sts, evAll os ws, j, row, rfl, hE, hrow, ?_⟩))))))))))))
      rw [emap]
      refine da_nil (rc_show1 shE (de_callB (cr_repr1 hgd (room70 hr)) T.repr boot_repr (da_cons (de_nm 11 (da_nil (rc_show1 shE (rd_neS ⟨_, rfl, ?_⟩)))))))
      rw [decide_eq_true rfl]
      refine iteF (dw_or1 (dt_cmp op_ne (de_callB (cr_repr1 hgd (room70 hr)) T.repr boot_repr (da_cons (de_f (k' := 11) G.gD hr (da_cons (de_nm 5 (da_cons (de_nm 9 (da_nil ⟨h, sts, evAll os ws, j, row, rfl, hE, hrow, da_nil (rc_show1 sh_bool ?_)⟩))))))))))
      refine de_callB (cr_repr1 hgd (room70 hr)) T.repr boot_repr (da_cons (de_cmp (op_eqD hr.units) (de_nm 11 (de_tup (da_nil ⟨by simp, rd_eqD ?_ rfl (da_nil (rc_show1 sh_bool (rd_neS ⟨_, rfl, ?_⟩)))⟩)))))
      · exact shp_sh (shp_tup (n := 1) fun d hd => by
          obtain ⟨e, he, rfl⟩ := List.mem_map.mp hd
          exact shp_s3 (hvw e he).ok) (by decide)
      have eb : PyData.eqv (.tuple ((row.map (·.1)).map s3D)) (.tuple []) = row.isEmpty := by
        cases row <;> rfl
      rw [eb, decide_eq_true rfl]
      exact iteF (ds_nil ⟨_, _, _, rfl⟩)
    · obtain ⟨c9, c10, c11, rfl⟩ := hJ
      obtain ⟨row, hrow⟩ : ∃ row, sts[0]? = some row := ⟨_, List.getElem?_eq_getElem l1⟩
      have hrm := List.mem_of_getElem? hrow
      have hR := hEn.rw row hrm
      have hvw : ∀ e ∈ row.map (·.1), VwE e := fun e he => by
        obtain ⟨r, hr', rfl⟩ := List.mem_map.mp he
        exact (hR.ev r hr').1.vw hNm
      have emap : (row.map fun r => s3D r.1) = (row.map (·.1)).map s3D := by rw [List.map_map]; rfl
      have shp3 : SeqAt.shaped (.tuple ((row.map (·.1)).map s3D)) = true := shp_sh (shp_tup (n := 1) fun d hd => by
        obtain ⟨e, he, rfl⟩ := List.mem_map.mp hd
        exact shp_s3 (hvw e he).ok) (by decide)
      refine ds_cons (ds_if (dt_pw (dw_or (dt_cmp (op_neD hr.units) (de_fKw0 (k' := 11) (fun zs => zs.reverse) G.gAK hr (pk_cons pe_w (pk_cons pe_w pk_nil)) (fun b => dpAll_revR b) (wa_cons (de_int (wa_cons (de_nm 5 (wa_nil ⟨rfl, h, sts, evAll os ws, 0, row, rfl, hE, hrow, de_f (k' := 11) G.gA hr (da_cons (de_nm 5 (da_cons (de_int (da_nil ⟨h, sts, evAll os ws, 0, row, rfl, hE, hrow, ?_⟩)))))⟩))))))))))
      rw [emap]
      refine rd_neD shp3 shp3 ⟨_, rfl, ?_⟩
      have sol : solid (.tuple ((row.map (·.1)).map s3D)) = true := solids_map solid_s3 _
      rw [(eqv_iff _ _ sol sol).mpr rfl]
      refine iteF (dw_or1 (dt_cmp op_ne (de_fKw0 (k' := 11) (fun zs => zs.reverse) G.gDK hr (pk_cons pe_w (pk_cons pe_w pk_nil)) (fun b => dpAll_revR b) (wa_cons (de_int (wa_cons (de_nm 5 (wa_nil ⟨rfl, h, sts, evAll os ws, 0, row, rfl, hE, hrow, de_f (k' := 11) G.gD hr (da_cons (de_nm 5 (da_cons (de_int (da_nil ⟨h, sts, evAll os ws, 0, row, rfl, hE, hrow, rd_neA rfl rfl rfl ⟨_, rfl, ?_⟩⟩)))))⟩))))))))
      rw [decide_eq_true rfl]
      refine iteF (ds_nil ?_)
      obtain ⟨tB, htB⟩ := hB
      refine ds_last (ds_for [13] (pi_range1 rfl T.range pa_w) (pg_name (i := 13) nd rfl (.inl rfl)) (wi_rng1 (da_cons (de_int (da_nil ⟨_, rfl, by decide, by decide, ?_⟩)))))
      refine ⟨(fun j δ => ∃ (u v w : Int) (poss : List Pos) (c9 c10 c11 c12 c13 c14 c15 : Option C), δ = envW PT ns i u v w (h :: os) ws poss [some (.d (endD h sts)), some (.d (.str h)), some (.d (stsD sts)), some (.d (.str (endD h sts).shown)), c9, c10, c11, c12, c13, c14, c15] ∧ 0 ≤ w ∧ w ≤ ((400 + 200 * j : Nat) : Int)), ⟨u, v, w, poss, c9, c10, c11, c12, c13, c14, c15, rfl, hw, by omega⟩, fun j y δ hy hJ => ?_, fun δ hJ => ?_⟩
      · obtain ⟨u, v, w, poss, c9, c10, c11, c12, c13, c14, c15, rfl, hw, hwx⟩ := hJ
        obtain ⟨hj, rfl⟩ := rng_get hy
        have hj12 : j < 12 := hj
        refine wg_name ?_
        have turn : ∀ (vs : List St3) (s : Nat) (u v w : Int), s < sts.length → vs.length ≤ 10 → (∀ e ∈ vs, PreE e) → 0 ≤ w → w ≤ ((400 + 200 * j + 150 : Nat) : Int) → DSs B (bodyX P wW K mg base NL "law" (defScope s_law) f cdv A outer s0 H E) ((forBv ((forBv ((defBody s_law).getD 0 (.Pass ⟨0, 0, 0, 0⟩))).getD 9 (.Pass ⟨0, 0, 0, 0⟩))).drop 2)
            (envW PT ns i u v w (h :: os) ws poss [some (.d (endD h sts)), some (.d (.str h)), some (.d (stsD sts)), some (.d (.str (endD h sts).shown)), some (.d (natD s)), c10, c11, c12, some (.d (.int (0 + (j : Nat)))), some (.d (.tuple (vs.map s3D))), c15])
            (fun δ => ∃ (u v w : Int) (poss : List Pos) (c9 c10 c11 c12 c13 c14 c15 : Option C), δ = envW PT ns i u v w (h :: os) ws poss [some (.d (endD h sts)), some (.d (.str h)), some (.d (stsD sts)), some (.d (.str (endD h sts).shown)), c9, c10, c11, c12, c13, c14, c15] ∧ 0 ≤ w ∧ w ≤ ((400 + 200 * (j + 1) : Nat) : Int)) fun y _ => Φ y := fun vs s u v w hs hvl hvp hw hwx => by
          refine ds_cons (ds_set 14 (hN := nd) (de_callTy call_tuple_of T.tup boot_tuple (da_cons (de_dl (dl_filt [("event", 15)] nd (pi_tup pe_w) (blkOk_by (N := NL) (sc := defScope s_law) (by decide +kernel)) (fun _ _ _ _ _ => pg_name (i := 15) nd rfl (Or.inl rfl)) (wi_tup (de_nm 14 ⟨vs.map s3D, rfl, ?_, keepD, (fun x => x), fun B' y hp' hy => wg_name ?_, ?_⟩)))))))
          · rw [List.length_map]; omega
          · obtain ⟨e, he, rfl⟩ := List.mem_map.mp hy
            intro s0 H0 C cl fp
            have ek : keepD (s3D e) = (!decide (e.2.2 = flt) || decide (e.1 = ("hear" : Str))) := rfl
            refine dt_pw (dw_or (dt_cmp op_ne (de_ix ix_tup (de_nm 15 (de_int (rd_ixT (z := .str e.2.2) rfl (de_str (rd_neS ⟨_, rfl, ?_⟩))))))))
            rw [show (Str.ofString "!") = flt from rfl, ek]
            by_cases e3 : e.2.2 = flt
            · rw [decide_eq_true e3]
              refine iteF (dw_or1 (dt_cmp op_eq (de_ix ix_tup (de_nm 15 (de_int (rd_ixT (z := .str e.1) rfl (de_str (rd_eqS ⟨_, rfl, ?_⟩))))))))
              refine ⟨rfl, rfl, fun _ s0 H0 C cl fp => de_nm 15 ⟨rfl, rfl⟩⟩
            · rw [decide_eq_false e3]
              exact iteT ⟨rfl, rfl, fun _ s0 H0 C cl fp => de_nm 15 ⟨rfl, rfl⟩⟩
          rw [keep_map]
          refine da_nil (rc_tupleL rfl ?_)
          have fl : (vs.filter keepE).length ≤ 10 := Nat.le_trans (List.length_filter_le _ _) hvl
          have fv : ∀ e ∈ vs.filter keepE, VwE e := keep_vw hvp
          generalize vs.filter keepE = vs at fl fv
          have rg := row_good (by omega : vs.length ≤ 1000) fv
          have wb := walk_beh hok vs
          have shO : ∀ s, s < sts.length → Sh1 (optD (behG sts (some s) vs)) := fun s hs => sh_opt fun n hn => by
            have := behG_lt hok vs (some s) (fun k hk => by injection hk with hk; omega) n hn
            omega
          have okv : ∀ e ∈ vs, OkE e := fun e he => (fv e he).ok
          refine ds_cons (ds_set 11 (hN := nd) (de_f (k' := 11) G.gB hr (da_cons (de_nm 7 (da_cons (de_nm 9 (da_cons (de_nm 14 (da_nil ⟨sts, s, vs, rfl, hs, hok, by omega, okv, ?_⟩)))))))))
          refine ds_cons (ds_if (dt_pw (dw_or (dt_cmp op_ne (de_callB (cr_repr1 hgd (room70 hr)) T.repr boot_repr (da_cons (de_fKw (k' := 11) (fun ds es => ds ++ es) G.gK2 hr (pk_cons pe_w pk_nil) (fun a b => dpAll_app a b) (da_cons (de_nm 5 (da_cons (de_nm 14 (da_nil (wa_cons (de_nm 9 (wa_nil ⟨rfl, rfl, h, sts, evAll os ws, vs.map s3D, s, rfl, hE, hs, rg.1, vwA_drop rg.2 _, ?_⟩)))))))))))))))
          rw [wb s hs]
          refine da_nil (rc_show1 (shO s hs) (de_callB (cr_repr1 hgd (room70 hr)) T.repr boot_repr (da_cons (de_nm 11 (da_nil (rc_show1 (shO s hs) (rd_neS ⟨_, rfl, ?_⟩)))))))
          rw [decide_eq_true rfl]
          refine iteF (dw_or1 (dt_cmp op_ne (de_callB (cr_repr hgd (room70 hr)) T.repr boot_repr (da_cons (de_nm 5 (da_nil (rc_show fit (de_nm 8 (rd_neS ⟨_, rfl, ?_⟩)))))))))
          rw [decide_eq_true rfl]
          refine iteF (ds_nil ?_)
          refine ds_cons (ds_if (dt_cmp op_ne (de_callB (cr_repr1 hgd (room70 hr)) T.repr boot_repr (da_cons (de_fKw0 (k' := 11) (fun zs => zs.drop 1 ++ zs.take 1) G.gK0 hr (pk_cons pe_w (pk_cons pe_w (pk_cons pe_w pk_nil))) (fun b => dpAll_app (dpAll_drop 1 b) (dpAll_take 1 b)) (wa_cons (de_nm 9 (wa_cons (de_nm 5 (wa_cons (de_nm 14 (wa_nil ⟨rfl, h, sts, evAll os ws, vs.map s3D, s, rfl, hE, hs, rg.1, vwA_drop rg.2 _, ?_⟩))))))))))))
          rw [wb s hs]
          refine da_nil (rc_show1 (shO s hs) (de_callB (cr_repr1 hgd (room70 hr)) T.repr boot_repr (da_cons (de_nm 11 (da_nil (rc_show1 (shO s hs) (rd_neS ⟨_, rfl, ?_⟩)))))))
          rw [decide_eq_true rfl]
          refine iteF (ds_nil ?_)
          refine ds_cons (ds_if (dt_pw (dw_or (dt_cmp op_ne (de_callB (cr_repr1 hgd (room70 hr)) T.repr boot_repr (da_cons (de_fDf (k' := 11) [.int 0] G.gDF hr (fun F => .cons (.int 0) .nil) (da_cons (de_nm 5 (da_cons (de_nm 14 (da_nil ⟨h, sts, evAll os ws, vs.map s3D, 0, rfl, hE, l1, rg.1, vwA_drop rg.2 _, ?_⟩))))))))))))
          rw [wb 0 l1]
          refine da_nil (rc_show1 (shO 0 l1) (de_callB (cr_repr1 hgd (room70 hr)) T.repr boot_repr (da_cons (de_f (k' := 11) G.gB hr (da_cons (de_nm 7 (da_cons (de_int (da_cons (de_nm 14 (da_nil ⟨sts, 0, vs, rfl, l1, hok, by omega, okv, da_nil (rc_show1 (shO 0 l1) (rd_neS ⟨_, rfl, ?_⟩))⟩)))))))))))
          rw [decide_eq_true rfl]
          refine iteF (dw_or1 (dt_cmp op_ne (de_glob (v := .int 0) htB ⟨_, rfl⟩ (fun _ => .int _) (de_int (rd_neI ⟨_, rfl, ?_⟩)))))
          rw [decide_eq_true rfl]
          refine iteF (ds_nil ?_)
          refine ds_last (ds_if (dt_not (dt_val (de_fPT (k' := 11) (poss := poss) 2 16 G.gX hgd hr (by decide) (da_cons (de_nm 5 (da_cons (de_nm 14 (da_nil ⟨u, v, w, 400 + 200 * j + 150, poss, rfl, rfl, hw, hwx, h, sts, evAll os ws, vs, rfl, hE, by omega, fv, by omega, fun m poss' hm1 hm2 u v w hw hwx => ⟨_, rfl, iteF (ds_nil ?_)⟩⟩)))))))))
          exact ⟨u, v, w, poss', _, _, _, _, _, _, _, rfl, hw, by omega⟩
        have hpre : ∀ row ∈ sts, row.length ≤ 8 ∧ ∀ r ∈ row, PreE r.1 := fun row hr => ⟨(hEn.rw row hr).len, fun r hm => (((hEn.rw row hr).ev r hm).1.vw hNm).pre⟩
        refine ds_cons (ds_set 9 (hN := nd) (de_bin op_mul (de_fPo2 (k' := 11) 2 G.gT hr (da_cons (de_callB call_len T.len boot_len (da_cons (de_nm 7 (da_nil (rc_lenT rfl (da_nil ⟨u, v, w, 400 + 200 * j, rfl, hw, hwx, _, rfl, ?_, ?_, ?_, fun d d0 d1 u v w hw hwx => de_fPo2 (k' := 11) 2 G.gT hr (da_cons (de_int (da_nil ⟨u, v, w, 400 + 200 * j + 1, rfl, hw, hwx, 2, rfl, by decide, by decide, ?_, fun e e0 e1 u v w hw hwx => rd_I ?_ ?_⟩)))⟩))))))))))
        · rw [List.length_map]; omega
        · rw [List.length_map]; omega
        · omega
        · omega
        · rw [List.length_map] at d1
          exact .inl ⟨by omega, by omega⟩
        rw [List.length_map] at d1
        obtain ⟨s, hsE, hs⟩ : ∃ s : Nat, d * e = (s : Nat) ∧ s < sts.length := by
          have : e = 0 ∨ e = 1 := by omega
          rcases this with rfl | rfl
          · exact ⟨0, by simp, l1⟩
          · exact ⟨d.toNat, by omega, by omega⟩
        rw [hsE]
        have view : ∀ n : Nat, n ≤ 1 → WdsOk os (ws ++ List.replicate n flt) := fun n hn => ⟨hol.1, by omega, fun o ho => (hNm.on o ho).1, by rw [List.length_append]; omega, by rw [List.length_append, List.length_replicate]; omega, fun w hw => by
          rcases List.mem_append.mp hw with hw | hw
          · exact .inl (hNm.wn w hw)
          · exact .inr (List.eq_of_mem_replicate hw)⟩
        refine ds_cons (ds_set 14 (hN := nd) (de_fPo2 (k' := 11) 2 G.gV hr (da_cons (de_nm 7 (da_cons (de_nm 9 (da_cons (de_dl (dl_from (de_nm 3 ⟨_, rfl, da_cons (de_dl (dl_cat (de_nm 4 ⟨_, rfl, de_dl (dl_rep (dl_lst (da_cons (de_str (da_nil ⟨by simp, de_callTy call_int1 T.int boot_int (da_cons (de_cmp op_gt (de_nm 13 (de_int (rd_B0 (da_nil (rc_intB ?_)))))))⟩)))))⟩)))⟩))))))))))
        have tail : ∀ n : Nat, n ≤ 1 → PyData.list (ws.map PyData.str ++ (List.replicate n [PyData.str "!"]).flatten) = nmL (ws ++ List.replicate n flt) := fun n hn => by
          have : n = 0 ∨ n = 1 := by omega
          rcases this with rfl | rfl <;> simp [nmL, flt]
        generalize decide ((8 : Int) < 0 + (j : Nat)) = bb
        have all : ∀ n : Nat, n ≤ 1 → (((bb = true ∧ n = 1) ∨ (bb = false ∧ n = 0))) → PyData.int (if bb = true then 1 else 0) = .int (n : Nat) := fun n hn hb => by
          rcases hb with ⟨rfl, rfl⟩ | ⟨rfl, rfl⟩ <;> rfl
        obtain ⟨n, hn1, hnb⟩ : ∃ n : Nat, n ≤ 1 ∧ ((bb = true ∧ n = 1) ∨ (bb = false ∧ n = 0)) := by
          cases bb
          · exact ⟨0, by decide, .inr ⟨rfl, rfl⟩⟩
          · exact ⟨1, by decide, .inl ⟨rfl, rfl⟩⟩
        refine ⟨n, all n hn1 hnb, by omega, by simp, _, rfl, ?_, ?_⟩
        · rw [PyProof.Rows.lm_len_rep_flat, List.length_map]
          simp only [List.length_singleton]
          omega
        refine da_nil ⟨u, v, w, 400 + 200 * j + 1 + 1, rfl, hw, hwx, sts, s, os, ws ++ List.replicate n flt, ?_, hok, hpre, hs, view n hn1, by omega, fun vs m hvl hvp hm1 hm2 u v w hw hwx => ?_⟩
        · rw [cut1, tail n hn1]; rfl
        exact turn vs s u v w hs hvl hvp hw (by omega)
      · obtain ⟨u, v, w, poss, c9, c10, c11, c12, c13, c14, c15, rfl, hw, hwx⟩ := hJ
        exact ⟨_, poss, rfl, rfl⟩
  · obtain ⟨r, poss, hr15, rfl⟩ := hI
    exact ds_last (ds_ret (de_bl hΦ))
end K3
set_option maxHeartbeats 200000
set_option Elab.async false
set_option linter.all false
set_option maxRecDepth 100000
set_option maxHeartbeats 4000000
namespace K3
open PySem PySem.Spec PyProof.Rows L2 DL
open PySem.W (alike alikeAll dataLt dataLe AllAlike Sortable EachIs keyToks keyToksAll lex_pre)
variable {P : Program} {w : World} {K : PySem.W.Frag} {mg : Str → Option Value} {base : Heap} {f : Addr} {fd : FuncData} {k : Nat}
theorem ok_LoomError_ini (hm : mg "ValueError" = none) (vV : PySem.W.findCls K (.type "ValueError") (.type "type") "__init__" = some (.val (.builtin "ValueError.__init__"))) (F : FunD K "__init__" "LoomError.__init__" (defArgs s_LoomError_ini) (defBody s_LoomError_ini) (defScope s_LoomError_ini) [] [] f fd) :
    FnOk P w K mg base CX0 1 f fd ["self", "text"] (spIni K) := by
  refine F.ok sc_LoomError_ini (fun vs H Q E h => ?_) (fun cdv A outer s H vs Q E hr h => ?_)
  · obtain ⟨a, C, m, rfl, _⟩ := h
    rfl
  · obtain ⟨a, C, m, rfl, hC, ha, q⟩ := h
    refine ⟨_, PSs.nox (pss_one (ps_expr (pe_veinit rfl hm vV (pa_cons (pe_var (i := 0) rfl (.inl rfl) (by decide) (by decide)) (pa_cons (pe_var (i := 1) rfl (.inl rfl) (by decide) (by decide)) pa_nil rfl) rfl)) rfl)), ?_⟩
    exact ⟨_, rfl, _, rfl, a, C, [.str m], rfl, by simp, hC, ha, q⟩
theorem fd_code {x qual : Str} {params : Arguments} {body : List Stmt} {scope : Scope} {dvs : List V} {kws : List (Str × V)} {p : Str × Option Str} (F : FunD K x qual params body scope dvs kws (He.fAd K p) fd) : fd.code = .ref (He.cT K p).1 := by
  obtain ⟨oc, od, dV, kV, doc, pm, an, cdv, ct, osl, rfl, lk, hcd, -, -⟩ := F.ex
  obtain ⟨c, rfl⟩ := He.codeIn_ref hcd
  have e := He.codeOf_eq (p := p) lk rfl
  show Value.ref c = .ref (He.codeOf K p)
  rw [e]
theorem vals_revR : ∀ {vs : List V} {us : List Value}, Vals vs us → Vals vs.reverse us.reverse
  | [], [], .nil => .nil
  | v :: vs, u :: us, .cons h1 h2 => by
    rw [List.reverse_cons, List.reverse_cons]
    exact Vals.append (vals_revR h2) (.cons h1 .nil)
theorem vals_rotR : ∀ {vs : List V} {us : List Value}, Vals vs us → Vals (vs.drop 1 ++ vs.take 1) (us.drop 1 ++ us.take 1)
  | [], [], .nil => .nil
  | v :: vs, u :: us, .cons h1 h2 => Vals.append (show Vals vs us from h2) (.cons h1 .nil)
end K3
set_option maxHeartbeats 200000
set_option Elab.async false
set_option linter.all false
set_option maxRecDepth 100000
set_option maxHeartbeats 2000000
namespace PySem.XT
open PySem.W PySem.Calls PyProof.Rows PySem.HandSPX Builtin Builtin.ObjectAttr
end PySem.XT
set_option maxHeartbeats 200000
set_option Elab.async false
set_option linter.all false
set_option maxRecDepth 100000
set_option maxHeartbeats 0
namespace K3
open PySem PySem.Spec PyProof.Rows L2 DL
def dd_is_name : He.DefD := ⟨("is_name", none), "is_name", "is_name", defArgs s_is_name, defBody s_is_name, defScope s_is_name, [], []⟩
def dd_is_number_below : He.DefD := ⟨("is_number_below", none), "is_number_below", "is_number_below", defArgs s_is_number_below, defBody s_is_number_below, defScope s_is_number_below, [], []⟩
def dd_is_tuple_of : He.DefD := ⟨("is_tuple_of", none), "is_tuple_of", "is_tuple_of", defArgs s_is_tuple_of, defBody s_is_tuple_of, defScope s_is_tuple_of, [], []⟩
def dd_is_end : He.DefD := ⟨("is_end", none), "is_end", "is_end", defArgs s_is_end, defBody s_is_end, defScope s_is_end, [], []⟩
def dd_is_end_among : He.DefD := ⟨("is_end_among", none), "is_end_among", "is_end_among", defArgs s_is_end_among, defBody s_is_end_among, defScope s_is_end_among, [], []⟩
def dd__is_new_event : He.DefD := ⟨("_is_new_event", none), "_is_new_event", "_is_new_event", defArgs s__is_new_event, defBody s__is_new_event, defScope s__is_new_event, [], []⟩
def dd_is_event : He.DefD := ⟨("is_event", none), "is_event", "is_event", defArgs s_is_event, defBody s_is_event, defScope s_is_event, [], []⟩
def dd_is_view : He.DefD := ⟨("is_view", none), "is_view", "is_view", defArgs s_is_view, defBody s_is_view, defScope s_is_view, [], []⟩
def dd_check_end : He.DefD := ⟨("check_end", none), "check_end", "check_end", defArgs s_check_end, defBody s_check_end, defScope s_check_end, [], []⟩
def dd_check_view : He.DefD := ⟨("check_view", none), "check_view", "check_view", defArgs s_check_view, defBody s_check_view, defScope s_check_view, [], []⟩
def dd_check_state : He.DefD := ⟨("check_state", none), "check_state", "check_state", defArgs s_check_state, defBody s_check_state, defScope s_check_state, [], []⟩
def dd_events_in : He.DefD := ⟨("events_in", none), "events_in", "events_in", defArgs s_events_in, defBody s_events_in, defScope s_events_in, [], []⟩
def dd_end_behind : He.DefD := ⟨("end_behind", none), "end_behind", "end_behind", defArgs s_end_behind, defBody s_end_behind, defScope s_end_behind, [], [("start", .int 0)]⟩
def dd_walk_along : He.DefD := ⟨("walk_along", none), "walk_along", "walk_along", defArgs s_walk_along, defBody s_walk_along, defScope s_walk_along, [], []⟩
def dd_events_at : He.DefD := ⟨("events_at", none), "events_at", "events_at", defArgs s_events_at, defBody s_events_at, defScope s_events_at, [], []⟩
def dd_is_done : He.DefD := ⟨("is_done", none), "is_done", "is_done", defArgs s_is_done, defBody s_is_done, defScope s_is_done, [], []⟩
def dd__law_pot : He.DefD := ⟨("_law_pot", none), "_law_pot", "_law_pot", defArgs s__law_pot, defBody s__law_pot, defScope s__law_pot, [], []⟩
def dd__law_take : He.DefD := ⟨("_law_take", none), "_law_take", "_law_take", defArgs s__law_take, defBody s__law_take, defScope s__law_take, [], []⟩
def dd__law_names : He.DefD := ⟨("_law_names", none), "_law_names", "_law_names", defArgs s__law_names, defBody s__law_names, defScope s__law_names, [], []⟩
def dd__law_row : He.DefD := ⟨("_law_row", none), "_law_row", "_law_row", defArgs s__law_row, defBody s__law_row, defScope s__law_row, [], []⟩
def dd__law_end : He.DefD := ⟨("_law_end", none), "_law_end", "_law_end", defArgs s__law_end, defBody s__law_end, defScope s__law_end, [], []⟩
def dd__law_then : He.DefD := ⟨("_law_then", none), "_law_then", "_law_then", defArgs s__law_then, defBody s__law_then, defScope s__law_then, [], []⟩
def dd__law_behind : He.DefD := ⟨("_law_behind", none), "_law_behind", "_law_behind", defArgs s__law_behind, defBody s__law_behind, defScope s__law_behind, [], []⟩
def dd__law_view : He.DefD := ⟨("_law_view", none), "_law_view", "_law_view", defArgs s__law_view, defBody s__law_view, defScope s__law_view, [], []⟩
def dd__law_no_view : He.DefD := ⟨("_law_no_view", none), "_law_no_view", "_law_no_view", defArgs s__law_no_view, defBody s__law_no_view, defScope s__law_no_view, [], []⟩
def dd__law_refused : He.DefD := ⟨("_law_refused", none), "_law_refused", "_law_refused", defArgs s__law_refused, defBody s__law_refused, defScope s__law_refused, [], []⟩
def dd__law_refusals_right : He.DefD := ⟨("_law_refusals_right", none), "_law_refusals_right", "_law_refusals_right", defArgs s__law_refusals_right, defBody s__law_refusals_right, defScope s__law_refusals_right, [], []⟩
def dd__law_round_right : He.DefD := ⟨("_law_round_right", none), "_law_round_right", "_law_round_right", defArgs s__law_round_right, defBody s__law_round_right, defScope s__law_round_right, [], []⟩
def dd_law : He.DefD := ⟨("law", none), "law", "law", defArgs s_law, defBody s_law, defScope s_law, [], []⟩
def dd_LoomError_ini : He.DefD := ⟨("LoomError", some "__init__"), "__init__", "LoomError.__init__", defArgs s_LoomError_ini, defBody s_LoomError_ini, defScope s_LoomError_ini, [], []⟩
def dd_NoPlace_ini : He.DefD := ⟨("NoPlace", some "__init__"), "__init__", "NoPlace.__init__", defArgs s_NoPlace_ini, defBody s_NoPlace_ini, defScope s_NoPlace_ini, [], []⟩
def hfn : List He.DefD := [dd_is_name, dd_is_number_below, dd_is_tuple_of, dd_is_end, dd_is_end_among, dd__is_new_event, dd_is_event, dd_is_view, dd_check_end, dd_check_view, dd_check_state, dd_events_in, dd_end_behind, dd_walk_along, dd_events_at, dd_is_done, dd__law_pot, dd__law_take, dd__law_names, dd__law_row, dd__law_end, dd__law_then, dd__law_behind, dd__law_view, dd__law_no_view, dd__law_refused, dd__law_refusals_right, dd__law_round_right, dd_law, dd_LoomError_ini, dd_NoPlace_ini]
def hfa : List He.Fa := ([.glo "is_name", .glo "is_number_below", .glo "is_tuple_of", .glo "is_end", .glo "is_end_among", .glo "_is_new_event", .glo "is_event", .glo "is_view", .glo "check_end", .glo "check_view", .glo "check_state", .glo "events_in", .glo "end_behind", .glo "walk_along", .glo "events_at", .glo "is_done", .glo "_law_pot", .glo "_law_take", .glo "_law_names", .glo "_law_row"] : List He.Fa) ++ ([.glo "_law_end", .glo "_law_then", .glo "_law_behind", .glo "_law_view", .glo "_law_no_view", .glo "_law_refused", .glo "_law_refusals_right", .glo "_law_round_right", .glo "law", .free "isinstance", .free "len", .free "all", .free "any", .free "tuple", .free "str", .free "int", .free "bool", .free "zip", .free "sorted", .free "set"] : List He.Fa) ++ ([.free "list", .free "range", .free "enumerate", .free "min", .free "max", .free "abs", .free "repr", .str "FAULT" "!", .int "MOST_LETTERS" 8, .free "ValueError", .glo "NoView", .exm "NoView" "NoView" true, .int "MOST_OF_END" 100, .int "BEGIN" 0, .glo "LoomError", .glo "NoPlace", .exm "NoPlace" "NoPlace" true, .free "IndexError"] : List He.Fa)
def hlo : List PySem.Str := ([("LoomError" : PySem.Str), ("NoEnd" : PySem.Str), ("NoView" : PySem.Str), ("NoHand" : PySem.Str), ("NoPlace" : PySem.Str), ("FAULT" : PySem.Str), ("MOST_LETTERS" : PySem.Str), ("is_name" : PySem.Str), ("is_number_below" : PySem.Str), ("is_tuple_of" : PySem.Str), ("BEGIN" : PySem.Str), ("MOST_OF_END" : PySem.Str), ("is_end" : PySem.Str), ("is_end_among" : PySem.Str), ("_is_new_event" : PySem.Str), ("is_event" : PySem.Str), ("is_view" : PySem.Str), ("check_end" : PySem.Str), ("check_view" : PySem.Str), ("check_state" : PySem.Str)] : List PySem.Str) ++ ([("events_in" : PySem.Str), ("end_behind" : PySem.Str), ("walk_along" : PySem.Str), ("events_at" : PySem.Str), ("is_done" : PySem.Str), ("_law_pot" : PySem.Str), ("_law_take" : PySem.Str), ("_law_names" : PySem.Str), ("_law_row" : PySem.Str), ("_law_end" : PySem.Str), ("_law_then" : PySem.Str), ("_law_behind" : PySem.Str), ("_law_view" : PySem.Str), ("_law_no_view" : PySem.Str), ("_law_refused" : PySem.Str), ("_law_refusals_right" : PySem.Str), ("_law_round_right" : PySem.Str)] : List PySem.Str)
abbrev hR : PySem.W.OpenRow := PySem.W.OpenLaw.row PySem.Challenge.rw_sayloom_k15_rows_of_events_done
def oexB (K : PySem.W.Frag) (C : Addr) : Bool :=
  (match K.lookup C with
    | some ⟨.type "type", _, .cls cd, sl⟩ => match cd.mro, sl.toList with
      | .ref C' :: bm, [_, _, _, _, some (.builtin n), _] => C' == C && n == "ValueError.__new__" && !cd.hasDel && cd.hasDict && HandSPX.refsVE bm
      | _, _ => false
    | _ => false)
  && decide (PySem.W.findIn K (.ref C) "__setattr__" = some (some (.builtin "object.__setattr__"))) && decide (PySem.W.subIn K (.ref C) (.type "BaseException") = some true) && decide (PySem.W.typeIn K (.ref C) = some (.type "type")) && PySem.W.keepIn K (.ref C)
def iniB (K : PySem.W.Frag) (C : Addr) : Bool := decide (PySem.W.findIn K (.ref C) "__init__" = some (some (.ref (He.fAd K ("LoomError", some "__init__"))))) && decide (PySem.W.typeIn K (.ref (He.fAd K ("LoomError", some "__init__"))) = some (.type "function"))
  && (match PySem.W.findCls K (.type "ValueError") (.type "type") "__init__" with | some (.val v) => decide (v = .builtin "ValueError.__init__") | _ => false)
def hx1 (K : PySem.W.Frag) (x : Str) : Bool := oexB K (He.ga K x) && iniB K (He.ga K x)
def hxm (K : PySem.W.Frag) : Bool := decide (PySem.W.specialIn K (.builtin "object.__class__") "__get__" = some (some (.builtin "getset_descriptor.__get__"))) && decide (PySem.W.takesIn K (.builtin "object.__class__") = some true) && decide (PySem.W.findIn K (.ref (He.ga K "NoView")) "__getattribute__" = some (some (.builtin "BaseException.__getattribute__"))) && decide (PySem.W.findIn K (.ref (He.ga K "NoView")) "__getattr__" = some none) && decide (PySem.W.subIn K (.ref (He.ga K "NoView")) (.type "BaseException") = some true) && decide (PySem.W.hasDictIn K (He.ga K "NoView") = true) && decide (PySem.W.findIn K (.ref (He.ga K "NoView")) "__class__" = some (some (.builtin "object.__class__"))) && decide (PySem.W.mroIn K (He.ga K "NoView") (.type "object") = some true) && decide (PySem.W.findIn K (.ref (He.ga K "NoPlace")) "__getattribute__" = some (some (.builtin "BaseException.__getattribute__"))) && decide (PySem.W.findIn K (.ref (He.ga K "NoPlace")) "__getattr__" = some none) && decide (PySem.W.subIn K (.ref (He.ga K "NoPlace")) (.type "BaseException") = some true) && decide (PySem.W.hasDictIn K (He.ga K "NoPlace") = true) && decide (PySem.W.findIn K (.ref (He.ga K "NoPlace")) "__class__" = some (some (.builtin "object.__class__"))) && decide (PySem.W.mroIn K (He.ga K "NoPlace") (.type "object") = some true) && decide (PySem.W.exmOne K (.ref (He.ga K "NoView")) (.ref (He.ga K "LoomError")) = some true) && decide (PySem.W.exmOne K (.ref (He.ga K "NoPlace")) (.ref (He.ga K "LoomError")) = some false) && decide (PySem.W.kitOne K (.ref (He.ga K "NoView")) (.ref (He.ga K "NoView")) = some true) && decide (PySem.W.kitOne K (.ref (He.ga K "NoView")) (.type "ValueError") = some true) && decide (PySem.W.kitOne K (.ref (He.ga K "NoPlace")) (.type "IndexError") = some true)
def hx (K : PySem.W.Frag) : Bool := ((hx1 K "NoView") && hxm K) && keB K (He.ga K "NoPlace") (He.fAd K ("NoPlace", some "__init__")) "place" ieT "IndexError.__new__" "IndexError" "IndexError.__init__"
def htf : List He.Defn := [("_law_refusals_right", none)]
abbrev hhk : PySem.W.Hook := He.hookX 4 hfa hfn [] htf hx
def hob (s : PySem.W.SharedT) : He.AlX := He.obsX 4 hfa hfn [] htf hx (HandSHeadRun.getT s)
theorem hob_eq (s : PySem.W.SharedT) : hob s = hhk.obs s.abs := He.obsX_eq (HandSHeadRun.getT_eq s)
theorem hrun (w : World) : HandSHeadRun.RunEq hR (PySem.W.view hR.prog [41]) hhk hob 4000 hlo w := by
  intro os
  kernel_rfl
end K3
set_option maxHeartbeats 200000
set_option Elab.async false
set_option linter.all false
set_option maxRecDepth 100000
set_option maxHeartbeats 4000000
namespace K3
open PySem PySem.Spec PyProof.Rows L2 DL
theorem hx1_ok {K : PySem.W.Frag} {x : Str} (h : hx1 K x = true) : OexC K (He.ga K x) ∧ PySem.W.findIn K (.ref (He.ga K x)) "__init__" = some (some (.ref (He.fAd K ("LoomError", some "__init__")))) ∧ PySem.W.typeIn K (.ref (He.fAd K ("LoomError", some "__init__"))) = some (.type "function") ∧
    PySem.W.findCls K (.type "ValueError") (.type "type") "__init__" = some (.val (.builtin "ValueError.__init__")) := by
  unfold hx1 iniB oexB at h
  simp only [Bool.and_eq_true, decide_eq_true_eq] at h
  obtain ⟨⟨⟨⟨⟨h1, h2⟩, h3⟩, h4⟩, h5⟩, ⟨h6, h7⟩, h8⟩ := h
  refine ⟨⟨?_, h2, h3, h4, h5⟩, h6, h7, ?_⟩
  · generalize He.ga K x = C at h1 ⊢
    split at h1
    · rename_i o dd cd sl e
      split at h1
      · rename_i C' bm k0 k1 k2 k3 n k5 e1 e2
        simp only [Bool.and_eq_true, beq_iff_eq, Bool.not_eq_true'] at h1
        obtain ⟨⟨⟨⟨q1, q2⟩, q3⟩, q4⟩, q5⟩ := h1
        obtain ⟨nm, bs, mro, N, q, hd, sn, sub, ab, col, del⟩ := cd
        obtain ⟨sl⟩ := sl
        simp only at e1 e2 q3 q4
        subst e1 e2 q1 q2 q3 q4
        exact ⟨_, _, _, _, _, _, _, _, _, _, _, _, _, _, _, e, q5⟩
      · cases h1
    · cases h1
  · split at h8
    · rename_i v e
      rw [e, of_decide_eq_true h8]
    · cases h8
theorem hxm_ok {K : PySem.W.Frag} (h : hxm K = true) : PySem.W.specialIn K (.builtin "object.__class__") "__get__" = some (some (.builtin "getset_descriptor.__get__")) ∧ PySem.W.takesIn K (.builtin "object.__class__") = some true ∧ PySem.W.findIn K (.ref (He.ga K "NoView")) "__getattribute__" = some (some (.builtin "BaseException.__getattribute__")) ∧ PySem.W.findIn K (.ref (He.ga K "NoView")) "__getattr__" = some none ∧ PySem.W.subIn K (.ref (He.ga K "NoView")) (.type "BaseException") = some true ∧ PySem.W.hasDictIn K (He.ga K "NoView") = true ∧ PySem.W.findIn K (.ref (He.ga K "NoView")) "__class__" = some (some (.builtin "object.__class__")) ∧ PySem.W.mroIn K (He.ga K "NoView") (.type "object") = some true ∧ PySem.W.findIn K (.ref (He.ga K "NoPlace")) "__getattribute__" = some (some (.builtin "BaseException.__getattribute__")) ∧ PySem.W.findIn K (.ref (He.ga K "NoPlace")) "__getattr__" = some none ∧ PySem.W.subIn K (.ref (He.ga K "NoPlace")) (.type "BaseException") = some true ∧ PySem.W.hasDictIn K (He.ga K "NoPlace") = true ∧ PySem.W.findIn K (.ref (He.ga K "NoPlace")) "__class__" = some (some (.builtin "object.__class__")) ∧ PySem.W.mroIn K (He.ga K "NoPlace") (.type "object") = some true ∧ PySem.W.exmOne K (.ref (He.ga K "NoView")) (.ref (He.ga K "LoomError")) = some true ∧ PySem.W.exmOne K (.ref (He.ga K "NoPlace")) (.ref (He.ga K "LoomError")) = some false ∧ PySem.W.kitOne K (.ref (He.ga K "NoView")) (.ref (He.ga K "NoView")) = some true ∧ PySem.W.kitOne K (.ref (He.ga K "NoView")) (.type "ValueError") = some true ∧ PySem.W.kitOne K (.ref (He.ga K "NoPlace")) (.type "IndexError") = some true := by
  unfold hxm at h
  simpa only [Bool.and_eq_true, decide_eq_true_eq, and_assoc] using h
theorem facts {P : Program} {w : World} {K : PySem.W.Frag} {h : Heap} {mg : Str → Option Value} {f : Addr} (X : K.In h) (G : h.Ns mainGlobals mg) (hfa' : mg ("law" : Str) = some (.ref f)) (sx : He.SaysX hfa hfn [] htf hx w h K) :
    ∃ fd : FuncData, (∀ (s : Shared) (v : Value), BindsTo s fd ⟨[v], []⟩ [("script", v)]) ∧ ∀ base : Heap, K.In base → base.Ns mainGlobals mg → LamX.TabB base mg (He.cT K ("_law_refusals_right", none)).1 (He.cT K ("_law_refusals_right", none)).2 → FnShX P w K mg base CX0 12 f fd ["script"] (spLT K (He.cT K ("_law_refusals_right", none)).2 S_law) := by
  have c := sx.t.d
  have ex := sx.more
  obtain ⟨fd_is_name, F_is_name⟩ := c.def_ 0 (d := dd_is_name) rfl
  have g_is_name : mg "is_name" = some (.ref (He.ga K "is_name")) := He.glo_ok X G (c.fact 0 (f := .glo "is_name") rfl)
  obtain ⟨fd_is_number_below, F_is_number_below⟩ := c.def_ 1 (d := dd_is_number_below) rfl
  have g_is_number_below : mg "is_number_below" = some (.ref (He.ga K "is_number_below")) := He.glo_ok X G (c.fact 1 (f := .glo "is_number_below") rfl)
  obtain ⟨fd_is_tuple_of, F_is_tuple_of⟩ := c.def_ 2 (d := dd_is_tuple_of) rfl
  have g_is_tuple_of : mg "is_tuple_of" = some (.ref (He.ga K "is_tuple_of")) := He.glo_ok X G (c.fact 2 (f := .glo "is_tuple_of") rfl)
  obtain ⟨fd_is_end, F_is_end⟩ := c.def_ 3 (d := dd_is_end) rfl
  have g_is_end : mg "is_end" = some (.ref (He.ga K "is_end")) := He.glo_ok X G (c.fact 3 (f := .glo "is_end") rfl)
  obtain ⟨fd_is_end_among, F_is_end_among⟩ := c.def_ 4 (d := dd_is_end_among) rfl
  have g_is_end_among : mg "is_end_among" = some (.ref (He.ga K "is_end_among")) := He.glo_ok X G (c.fact 4 (f := .glo "is_end_among") rfl)
  obtain ⟨fd__is_new_event, F__is_new_event⟩ := c.def_ 5 (d := dd__is_new_event) rfl
  have g__is_new_event : mg "_is_new_event" = some (.ref (He.ga K "_is_new_event")) := He.glo_ok X G (c.fact 5 (f := .glo "_is_new_event") rfl)
  obtain ⟨fd_is_event, F_is_event⟩ := c.def_ 6 (d := dd_is_event) rfl
  have g_is_event : mg "is_event" = some (.ref (He.ga K "is_event")) := He.glo_ok X G (c.fact 6 (f := .glo "is_event") rfl)
  obtain ⟨fd_is_view, F_is_view⟩ := c.def_ 7 (d := dd_is_view) rfl
  have g_is_view : mg "is_view" = some (.ref (He.ga K "is_view")) := He.glo_ok X G (c.fact 7 (f := .glo "is_view") rfl)
  obtain ⟨fd_check_end, F_check_end⟩ := c.def_ 8 (d := dd_check_end) rfl
  have g_check_end : mg "check_end" = some (.ref (He.ga K "check_end")) := He.glo_ok X G (c.fact 8 (f := .glo "check_end") rfl)
  obtain ⟨fd_check_view, F_check_view⟩ := c.def_ 9 (d := dd_check_view) rfl
  have g_check_view : mg "check_view" = some (.ref (He.ga K "check_view")) := He.glo_ok X G (c.fact 9 (f := .glo "check_view") rfl)
  obtain ⟨fd_check_state, F_check_state⟩ := c.def_ 10 (d := dd_check_state) rfl
  have g_check_state : mg "check_state" = some (.ref (He.ga K "check_state")) := He.glo_ok X G (c.fact 10 (f := .glo "check_state") rfl)
  obtain ⟨fd_events_in, F_events_in⟩ := c.def_ 11 (d := dd_events_in) rfl
  have g_events_in : mg "events_in" = some (.ref (He.ga K "events_in")) := He.glo_ok X G (c.fact 11 (f := .glo "events_in") rfl)
  obtain ⟨fd_end_behind, F_end_behind⟩ := c.def_ 12 (d := dd_end_behind) rfl
  have g_end_behind : mg "end_behind" = some (.ref (He.ga K "end_behind")) := He.glo_ok X G (c.fact 12 (f := .glo "end_behind") rfl)
  obtain ⟨fd_walk_along, F_walk_along⟩ := c.def_ 13 (d := dd_walk_along) rfl
  have g_walk_along : mg "walk_along" = some (.ref (He.ga K "walk_along")) := He.glo_ok X G (c.fact 13 (f := .glo "walk_along") rfl)
  obtain ⟨fd_events_at, F_events_at⟩ := c.def_ 14 (d := dd_events_at) rfl
  have g_events_at : mg "events_at" = some (.ref (He.ga K "events_at")) := He.glo_ok X G (c.fact 14 (f := .glo "events_at") rfl)
  obtain ⟨fd_is_done, F_is_done⟩ := c.def_ 15 (d := dd_is_done) rfl
  have g_is_done : mg "is_done" = some (.ref (He.ga K "is_done")) := He.glo_ok X G (c.fact 15 (f := .glo "is_done") rfl)
  obtain ⟨fd__law_pot, F__law_pot⟩ := c.def_ 16 (d := dd__law_pot) rfl
  have g__law_pot : mg "_law_pot" = some (.ref (He.ga K "_law_pot")) := He.glo_ok X G (c.fact 16 (f := .glo "_law_pot") rfl)
  obtain ⟨fd__law_take, F__law_take⟩ := c.def_ 17 (d := dd__law_take) rfl
  have g__law_take : mg "_law_take" = some (.ref (He.ga K "_law_take")) := He.glo_ok X G (c.fact 17 (f := .glo "_law_take") rfl)
  obtain ⟨fd__law_names, F__law_names⟩ := c.def_ 18 (d := dd__law_names) rfl
  have g__law_names : mg "_law_names" = some (.ref (He.ga K "_law_names")) := He.glo_ok X G (c.fact 18 (f := .glo "_law_names") rfl)
  obtain ⟨fd__law_row, F__law_row⟩ := c.def_ 19 (d := dd__law_row) rfl
  have g__law_row : mg "_law_row" = some (.ref (He.ga K "_law_row")) := He.glo_ok X G (c.fact 19 (f := .glo "_law_row") rfl)
  obtain ⟨fd__law_end, F__law_end⟩ := c.def_ 20 (d := dd__law_end) rfl
  have g__law_end : mg "_law_end" = some (.ref (He.ga K "_law_end")) := He.glo_ok X G (c.fact 20 (f := .glo "_law_end") rfl)
  obtain ⟨fd__law_then, F__law_then⟩ := c.def_ 21 (d := dd__law_then) rfl
  have g__law_then : mg "_law_then" = some (.ref (He.ga K "_law_then")) := He.glo_ok X G (c.fact 21 (f := .glo "_law_then") rfl)
  obtain ⟨fd__law_behind, F__law_behind⟩ := c.def_ 22 (d := dd__law_behind) rfl
  have g__law_behind : mg "_law_behind" = some (.ref (He.ga K "_law_behind")) := He.glo_ok X G (c.fact 22 (f := .glo "_law_behind") rfl)
  obtain ⟨fd__law_view, F__law_view⟩ := c.def_ 23 (d := dd__law_view) rfl
  have g__law_view : mg "_law_view" = some (.ref (He.ga K "_law_view")) := He.glo_ok X G (c.fact 23 (f := .glo "_law_view") rfl)
  obtain ⟨fd__law_no_view, F__law_no_view⟩ := c.def_ 24 (d := dd__law_no_view) rfl
  have g__law_no_view : mg "_law_no_view" = some (.ref (He.ga K "_law_no_view")) := He.glo_ok X G (c.fact 24 (f := .glo "_law_no_view") rfl)
  obtain ⟨fd__law_refused, F__law_refused⟩ := c.def_ 25 (d := dd__law_refused) rfl
  have g__law_refused : mg "_law_refused" = some (.ref (He.ga K "_law_refused")) := He.glo_ok X G (c.fact 25 (f := .glo "_law_refused") rfl)
  obtain ⟨fd__law_refusals_right, F__law_refusals_right⟩ := c.def_ 26 (d := dd__law_refusals_right) rfl
  have g__law_refusals_right : mg "_law_refusals_right" = some (.ref (He.ga K "_law_refusals_right")) := He.glo_ok X G (c.fact 26 (f := .glo "_law_refusals_right") rfl)
  obtain ⟨fd__law_round_right, F__law_round_right⟩ := c.def_ 27 (d := dd__law_round_right) rfl
  have g__law_round_right : mg "_law_round_right" = some (.ref (He.ga K "_law_round_right")) := He.glo_ok X G (c.fact 27 (f := .glo "_law_round_right") rfl)
  obtain ⟨fd_law, F_law⟩ := c.def_ 28 (d := dd_law) rfl
  have e := hfa'.symm.trans (He.glo_ok X G (c.fact 28 (f := .glo "law") rfl))
  cases e
  have T : Tx mg := ⟨He.free_ok X G (c.fact 29 (f := .free "isinstance") rfl), He.free_ok X G (c.fact 30 (f := .free "len") rfl), He.free_ok X G (c.fact 31 (f := .free "all") rfl), He.free_ok X G (c.fact 32 (f := .free "any") rfl), He.free_ok X G (c.fact 33 (f := .free "tuple") rfl), He.free_ok X G (c.fact 34 (f := .free "str") rfl), He.free_ok X G (c.fact 35 (f := .free "int") rfl), He.free_ok X G (c.fact 36 (f := .free "bool") rfl), He.free_ok X G (c.fact 37 (f := .free "zip") rfl), He.free_ok X G (c.fact 38 (f := .free "sorted") rfl), He.free_ok X G (c.fact 39 (f := .free "set") rfl), He.free_ok X G (c.fact 40 (f := .free "list") rfl), He.free_ok X G (c.fact 41 (f := .free "range") rfl), He.free_ok X G (c.fact 42 (f := .free "enumerate") rfl), He.free_ok X G (c.fact 43 (f := .free "min") rfl), He.free_ok X G (c.fact 44 (f := .free "max") rfl), He.free_ok X G (c.fact 45 (f := .free "abs") rfl), He.free_ok X G (c.fact 46 (f := .free "repr") rfl), He.str_ok X G (c.fact 47 (f := .str "FAULT" "!") rfl), He.int_ok X G (c.fact 48 (f := .int "MOST_LETTERS" 8) rfl)⟩
  obtain ⟨fd_LoomError_ini, F_LoomError_ini⟩ := c.def_ 29 (d := dd_LoomError_ini) rfl
  obtain ⟨fd_NoPlace_ini, F_NoPlace_ini⟩ := c.def_ 30 (d := dd_NoPlace_ini) rfl
  have mV : mg "ValueError" = none := He.free_ok X G (c.fact 49 (f := .free "ValueError") rfl)
  have bl := FunD.bindsA (ps := ["script"]) F_law fun _ _ _ _ _ _ us hl => match us, hl with | [_], _ => rfl
  refine ⟨fd_law, fun s v => bl s [v] rfl, fun base _ _ TB => ?_⟩
  obtain ⟨ex, ke_NoPlace⟩ := Bool.and_eq_true_iff.mp ex
  obtain ⟨ex, exm⟩ := Bool.and_eq_true_iff.mp ex
  have HX := hxm_ok exm
  have int_MOST_OF_END : ∃ t, mg "MOST_OF_END" = some (.int 100 t) := He.int_ok X G (c.fact 52 (f := .int "MOST_OF_END" 100) rfl)
  have int_BEGIN : ∃ t, mg "BEGIN" = some (.int 0 t) := He.int_ok X G (c.fact 53 (f := .int "BEGIN" 0) rfl)
  have glo_LoomError : mg "LoomError" = some (.ref (He.ga K "LoomError")) := He.glo_ok X G (c.fact 54 (f := .glo "LoomError") rfl)
  have glo_NoPlace : mg "NoPlace" = some (.ref (He.ga K "NoPlace")) := He.glo_ok X G (c.fact 55 (f := .glo "NoPlace") rfl)
  have exm_NoPlace_NoPlace := He.exm_ok (c.fact 56 (f := .exm "NoPlace" "NoPlace" true) rfl)
  have free_IndexError : mg "IndexError" = none := He.free_ok X G (c.fact 57 (f := .free "IndexError") rfl)
  obtain ⟨k1_NoPlace, k2_NoPlace, k3_NoPlace, k4_NoPlace, k5_NoPlace, k6_NoPlace⟩ := keB_ok ke_NoPlace
  have K_NoPlace : KeepX P w K mg base "NoPlace" (He.ga K "NoPlace") "IndexError" "IndexError.__new__" "IndexError.__init__" ieT "place" := ⟨bt_IE, k1_NoPlace, k2_NoPlace, k3_NoPlace, glo_NoPlace, _, fd_NoPlace_ini, k4_NoPlace, k5_NoPlace, FunD.bindsN F_NoPlace_ini (fun _ _ _ _ _ _ us hl => match us, hl with | [_, _], _ => rfl), ok_NoPlace_ini free_IndexError k6_NoPlace F_NoPlace_ini⟩
  obtain ⟨oC_NoView, iC_NoView, tI_NoView, vV_NoView⟩ := hx1_ok ex
  have mC_NoView : mg "NoView" = some (.ref (He.ga K "NoView")) := He.glo_ok X G (c.fact 50 (f := .glo "NoView") rfl)
  have xC_NoView := He.exm_ok (c.fact 51 (f := .exm "NoView" "NoView" true) rfl)
  have O_NoView : OwnX P w K mg base "NoView" (He.ga K "NoView") := ⟨oC_NoView, mC_NoView, _, fd_LoomError_ini, iC_NoView, tI_NoView, FunD.bindsN F_LoomError_ini (fun _ _ _ _ _ _ us hl => match us, hl with | [_, _], _ => rfl), ok_LoomError_ini mV vV_NoView F_LoomError_ini⟩
  have G_is_tuple_of : Fn P w K mg base "is_tuple_of" 1 ["thing", "least", "most"] (spD K S_is_tuple_of) := ⟨_, _, g_is_tuple_of, F_is_tuple_of.kp, FunD.bindsN F_is_tuple_of (fun _ _ _ _ _ _ us hl => match us, hl with | [_, _, _], _ => rfl), ok_is_tuple_of T F_is_tuple_of⟩
  have G_is_name : Fn P w K mg base "is_name" 1 ["thing"] (spD K S_is_name) := ⟨_, _, g_is_name, F_is_name.kp, FunD.bindsN F_is_name (fun _ _ _ _ _ _ us hl => match us, hl with | [_], _ => rfl), ok_is_name T F_is_name⟩
  have G_is_event : Fn P w K mg base "is_event" 2 ["thing"] (spD K S_is_event) := ⟨_, _, g_is_event, F_is_event.kp, FunD.bindsN F_is_event (fun _ _ _ _ _ _ us hl => match us, hl with | [_], _ => rfl), ok_is_event T G_is_name F_is_event⟩
  have G__is_new_event : Fn P w K mg base "_is_new_event" 3 ["event", "hand", "hands", "known"] (DL.spT P w K S_is_new_event) := ⟨_, _, g__is_new_event, F__is_new_event.kp, FunD.bindsN F__is_new_event (fun _ _ _ _ _ _ us hl => match us, hl with | [_, _, _, _], _ => rfl), ok__is_new_event G_is_event F__is_new_event⟩
  have G_is_end_among : Fn P w K mg base "is_end_among" 4 ["thing", "hands"] (spD K S_is_end_among) := ⟨_, _, g_is_end_among, F_is_end_among.kp, FunD.bindsN F_is_end_among (fun _ _ _ _ _ _ us hl => match us, hl with | [_, _], _ => rfl), ok_is_end_among T int_MOST_OF_END G_is_name G_is_tuple_of G__is_new_event F_is_end_among⟩
  have G_is_end : Fn P w K mg base "is_end" 5 ["thing"] (spD K S_is_end) := ⟨_, _, g_is_end, F_is_end.kp, FunD.bindsN F_is_end (fun _ _ _ _ _ _ us hl => match us, hl with | [_], _ => rfl), ok_is_end G_is_end_among F_is_end⟩
  have G_check_end : Fn P w K mg base "check_end" 6 ["end"] (spD K S_check_end) := ⟨_, _, g_check_end, F_check_end.kp, FunD.bindsN F_check_end (fun _ _ _ _ _ _ us hl => match us, hl with | [_], _ => rfl), ok_check_end G_is_end F_check_end⟩
  have A_name : Fn P w K mg base "is_name" 1 ["thing"] (spD K S_is_nameA) := ⟨_, _, g_is_name, F_is_name.kp, FunD.bindsN F_is_name (fun _ _ _ _ _ _ us hl => match us, hl with | [_], _ => rfl), ok_is_nameA T F_is_name⟩
  have A_event : Fn P w K mg base "is_event" 2 ["thing"] (spD K S_is_eventA) := ⟨_, _, g_is_event, F_is_event.kp, FunD.bindsN F_is_event (fun _ _ _ _ _ _ us hl => match us, hl with | [_], _ => rfl), ok_is_eventA T A_name F_is_event⟩
  have A_view : Fn P w K mg base "is_view" 3 ["thing"] (spD K S_is_view) := ⟨_, _, g_is_view, F_is_view.kp, FunD.bindsN F_is_view (fun _ _ _ _ _ _ us hl => match us, hl with | [_], _ => rfl), ok_is_view T A_event F_is_view⟩
  have X_check_view : FnX P w K mg base "check_view" 4 ["view"] (spDX K (S_check_viewX (He.ga K "NoView"))) := ⟨_, _, g_check_view, F_check_view.kp, FunD.bindsN F_check_view (fun _ _ _ _ _ _ us hl => match us, hl with | [_], _ => rfl), ok_check_view O_NoView A_view F_check_view⟩
  have G_check_viewG : Fn P w K mg base "check_view" 4 ["view"] (spD K S_check_viewG) := ⟨_, _, g_check_view, F_check_view.kp, FunD.bindsN F_check_view (fun _ _ _ _ _ _ us hl => match us, hl with | [_], _ => rfl), ok_check_viewG A_view F_check_view⟩
  have N_below : Fn P w K mg base "is_number_below" 1 ["thing", "bound"] (spD K S_number_below) := ⟨_, _, g_is_number_below, F_is_number_below.kp, FunD.bindsN F_is_number_below (fun _ _ _ _ _ _ us hl => match us, hl with | [_, _], _ => rfl), ok_number_below T F_is_number_below⟩
  have G_check_state : Fn P w K mg base "check_state" 2 ["end", "state"] (spD K S_check_state) := ⟨_, _, g_check_state, F_check_state.kp, FunD.bindsN F_check_state (fun _ _ _ _ _ _ us hl => match us, hl with | [_, _], _ => rfl), ok_check_state T N_below F_check_state⟩
  have P_check_state : FnXP P w K mg base "check_state" 3 ["end", "state"] (spDXP K (S_check_stateP (He.ga K "NoPlace"))) := ⟨_, _, g_check_state, F_check_state.kp, FunD.bindsN F_check_state (fun _ _ _ _ _ _ us hl => match us, hl with | [_, _], _ => rfl), okP_check_state T K_NoPlace N_below F_check_state⟩
  have G_events_in : Fn P w K mg base "events_in" 1 ["state"] (spD K S_events_in) := ⟨_, _, g_events_in, F_events_in.kp, FunD.bindsN F_events_in (fun _ _ _ _ _ _ us hl => match us, hl with | [_], _ => rfl), ok_events_in  F_events_in⟩
  have G_events_at : Fn P w K mg base "events_at" 7 ["end", "state"] (spD K S_events_at) := ⟨_, _, g_events_at, F_events_at.kp, FunD.bindsN F_events_at (fun _ _ _ _ _ _ us hl => match us, hl with | [_, _], _ => rfl), ok_events_at T G_check_end G_check_state G_events_in F_events_at⟩
  have G_is_done : Fn P w K mg base "is_done" 7 ["end", "state"] (spD K S_is_done) := ⟨_, _, g_is_done, F_is_done.kp, FunD.bindsN F_is_done (fun _ _ _ _ _ _ us hl => match us, hl with | [_, _], _ => rfl), ok_is_done G_check_end G_check_state F_is_done⟩
  have P_events_at : FnXP P w K mg base "events_at" 7 ["end", "state"] (spDXP K (S_end_stateP (He.ga K "NoPlace"))) := ⟨_, _, g_events_at, F_events_at.kp, FunD.bindsN F_events_at (fun _ _ _ _ _ _ us hl => match us, hl with | [_, _], _ => rfl), okP_events_at G_check_end P_check_state F_events_at⟩
  have P_is_done : FnXP P w K mg base "is_done" 7 ["end", "state"] (spDXP K (S_end_stateP (He.ga K "NoPlace"))) := ⟨_, _, g_is_done, F_is_done.kp, FunD.bindsN F_is_done (fun _ _ _ _ _ _ us hl => match us, hl with | [_, _], _ => rfl), okP_is_done G_check_end P_check_state F_is_done⟩
  have G_walk_along : Fn P w K mg base "walk_along" 1 ["states", "thing", "at"] (spD K S_walk_along) := ⟨_, _, g_walk_along, F_walk_along.kp, FunD.bindsN F_walk_along (fun _ _ _ _ _ _ us hl => match us, hl with | [_, _, _], _ => rfl), ok_walk_along T F_walk_along⟩
  have F_end_behind : Fd K "end_behind" s_end_behind [] [("start", .int 0)] (He.fAd K dd_end_behind.at_) fd_end_behind := F_end_behind
  have E0 := ok_end_behind (P := P) (w := w) (base := base) T G_check_end N_below G_walk_along G_check_viewG F_end_behind
  have EX := okX_end_behind (okV_end_behind T G_check_end N_below G_walk_along X_check_view F_end_behind) (okT_end_behind T G_check_end X_check_view F_end_behind) (okW_end_behind T G_check_end N_below X_check_view F_end_behind)
  have EP := okP_end_behind T K_NoPlace G_check_end N_below G_check_viewG F_end_behind
  have hbD := FunD.binds0 (ps := ["end", "view", "start"]) F_end_behind 2 (fun z => nomatch z) rfl (fun D doc pm an cdv ct us ks h1 h2 => match us, ks, h1, h2 with | [_, _], [_], _, _ => ⟨_, _, _, _, _, _, rfl, rfl, rfl⟩)
  obtain ⟨mv2, hb2⟩ := kbinds0 (ps := ["end", "view", "start"]) F_end_behind 2 ["start"] [] (fun vs _ zs => vs ++ zs) (fun z => nomatch z) (by simp) (fun r1 r2 r3 => r1.append r3) (fun D doc pm an cdv ct us mv ws h1 h2 h3 => match us, mv, ws, h1, h2, h3 with | [_, _], [], [_], _, _, _ => rfl)
  obtain ⟨mv3, hb3⟩ := kbinds0 (ps := ["end", "view", "start"]) F_end_behind 0 ["start", "end", "view"] [] (fun _ _ zs => zs.drop 1 ++ zs.take 1) (fun z => nomatch z) (by simp) (fun r1 r2 r3 => vals_rotR r3) (fun D doc pm an cdv ct us mv ws h1 h2 h3 => match us, mv, ws, h1, h2, h3 with | [], [], [_, _, _], _, _, _ => rfl)
  obtain ⟨mv4, hb4⟩ := kbinds0 (ps := ["end", "view", "start"]) F_end_behind 0 ["start", "view", "end"] [] (fun _ _ zs => zs.reverse) (fun z => nomatch z) (by simp) (fun r1 r2 r3 => vals_revR r3) (fun D doc pm an cdv ct us mv ws h1 h2 h3 => match us, mv, ws, h1, h2, h3 with | [], [], [_, _, _], _, _, _ => rfl)
  have DF : FnDf P w K mg base "end_behind" 7 ["end", "view", "start"] [.int 0] (spD K S_end_behind) := ⟨_, _, g_end_behind, F_end_behind.kp, hbD, E0⟩
  have XDF : FnXDf P w K mg base "end_behind" 7 ["end", "view", "start"] [.int 0] (spDX K (S_endX (He.ga K "NoView"))) := ⟨_, _, g_end_behind, F_end_behind.kp, hbD, EX⟩
  have K2 : FnKw P w K mg base "end_behind" 7 ["end", "view", "start"] 2 ["start"] (fun vs zs => vs ++ zs) (spD K S_end_behind) := ⟨_, _, _, g_end_behind, F_end_behind.kp, hb2, E0⟩
  have K0 : FnKw P w K mg base "end_behind" 7 ["end", "view", "start"] 0 ["start", "end", "view"] (fun _ zs => zs.drop 1 ++ zs.take 1) (spD K S_end_behind) := ⟨_, _, _, g_end_behind, F_end_behind.kp, hb3, E0⟩
  have XW : FnXKw P w K mg base "end_behind" 7 ["end", "view", "start"] 2 ["start"] (fun vs zs => vs ++ zs) (spDX K (S_endX (He.ga K "NoView"))) := ⟨_, _, _, g_end_behind, F_end_behind.kp, hb2, EX⟩
  have XP : FnXKw P w K mg base "end_behind" 7 ["end", "view", "start"] 2 ["start"] (fun vs zs => vs ++ zs) (spDXP K (S_end_behindP (He.ga K "NoPlace"))) := ⟨_, _, _, g_end_behind, F_end_behind.kp, hb2, EP⟩
  have XR : FnXKw P w K mg base "end_behind" 7 ["end", "view", "start"] 0 ["start", "view", "end"] (fun _ zs => zs.reverse) (spDXP K (S_end_behindP (He.ga K "NoPlace"))) := ⟨_, _, _, g_end_behind, F_end_behind.kp, hb4, EP⟩
  have AK : FnKw P w K mg base "events_at" 7 ["end", "state"] 0 ["state", "end"] (fun _ zs => zs.reverse) (spD K S_events_at) := ⟨_, _, _, g_events_at, F_events_at.kp, kbindsK F_events_at ["state", "end"] (fun l => l.reverse) vals_revR (fun _ _ _ _ _ _ ws hl => match ws, hl with | [_, _], _ => rfl), ok_events_at T G_check_end G_check_state G_events_in F_events_at⟩
  have DK : FnKw P w K mg base "is_done" 7 ["end", "state"] 0 ["state", "end"] (fun _ zs => zs.reverse) (spD K S_is_done) := ⟨_, _, _, g_is_done, F_is_done.kp, kbindsK F_is_done ["state", "end"] (fun l => l.reverse) vals_revR (fun _ _ _ _ _ _ ws hl => match ws, hl with | [_, _], _ => rfl), ok_is_done G_check_end G_check_state F_is_done⟩
  have xV : ExcC K (He.ga K "NoView") := ⟨HX.2.2.1, HX.2.2.2.1, HX.2.2.2.2.1, HX.2.2.2.2.2.1, HX.2.2.2.2.2.2.1, HX.1, HX.2.1, HX.2.2.2.2.2.2.2.1⟩
  have xP : ExcC K (He.ga K "NoPlace") := ⟨HX.2.2.2.2.2.2.2.2.1, HX.2.2.2.2.2.2.2.2.2.1, HX.2.2.2.2.2.2.2.2.2.2.1, HX.2.2.2.2.2.2.2.2.2.2.2.1, HX.2.2.2.2.2.2.2.2.2.2.2.2.1, HX.1, HX.2.1, HX.2.2.2.2.2.2.2.2.2.2.2.2.2.1⟩
  have V2 : Ref2 K mg (He.ga K "LoomError") (He.ga K "NoView") (He.ga K "NoPlace") := ⟨glo_LoomError, mC_NoView, glo_NoPlace, xV, xP, k2_NoPlace, k3_NoPlace, HX.2.2.2.2.2.2.2.2.2.2.2.2.2.2.1, HX.2.2.2.2.2.2.2.2.2.2.2.2.2.2.2.1, exm_NoPlace_NoPlace, HX.2.2.2.2.2.2.2.2.2.2.2.2.2.2.2.2.1, HX.2.2.2.2.2.2.2.2.2.2.2.2.2.2.2.2.2.1, HX.2.2.2.2.2.2.2.2.2.2.2.2.2.2.2.2.2.2, mV, free_IndexError⟩
  have SA : FnAsk P w K mg base "_law_refused" 9 8 ["ask"] (SG15 (He.ga K "NoView") (He.ga K "NoPlace")) := ⟨_, _, g__law_refused, F__law_refused.kp, FunD.bindsN F__law_refused (fun _ _ _ _ _ _ us hl => match us, hl with | [_], _ => rfl), ok__law_refused T V2 F__law_refused⟩
  have G__law_take : Fn P w K mg base "_law_take" 1 ["pot", "many"] (spP K S_law_take) := ⟨_, _, g__law_take, F__law_take.kp, FunD.bindsN F__law_take (fun _ _ _ _ _ _ us hl => match us, hl with | [_, _], _ => rfl), ok__law_take  F__law_take⟩
  have G__law_pot : Fn P w K mg base "_law_pot" 1 ["script", "k"] (spO K S_law_pot) := ⟨_, _, g__law_pot, F__law_pot.kp, FunD.bindsN F__law_pot (fun _ _ _ _ _ _ us hl => match us, hl with | [_, _], _ => rfl), ok__law_pot T F__law_pot⟩
  have G__law_names : Fn P w K mg base "_law_names" 2 ["pot", "many"] (spPO K S_law_names) := ⟨_, _, g__law_names, F__law_names.kp, FunD.bindsN F__law_names (fun _ _ _ _ _ _ us hl => match us, hl with | [_, _], _ => rfl), ok__law_names T G__law_take F__law_names⟩
  have G__law_row : Fn P w K mg base "_law_row" 2 ["pot", "others", "words", "many"] (spP K S_law_row) := ⟨_, _, g__law_row, F__law_row.kp, FunD.bindsN F__law_row (fun _ _ _ _ _ _ us hl => match us, hl with | [_, _, _, _], _ => rfl), ok__law_row T G__law_take F__law_row⟩
  have G__law_end : Fn P w K mg base "_law_end" 3 ["pot", "hand", "others", "words"] (spP K S_law_end) := ⟨_, _, g__law_end, F__law_end.kp, FunD.bindsN F__law_end (fun _ _ _ _ _ _ us hl => match us, hl with | [_, _, _, _], _ => rfl), ok__law_end T G__law_take G__law_row F__law_end⟩
  have G__law_then : Fn P w K mg base "_law_then" 1 ["states", "spot", "event"] (spD K S_law_then) := ⟨_, _, g__law_then, F__law_then.kp, FunD.bindsN F__law_then (fun _ _ _ _ _ _ us hl => match us, hl with | [_, _, _], _ => rfl), ok__law_then  F__law_then⟩
  have G__law_behind : Fn P w K mg base "_law_behind" 2 ["states", "spot", "seen"] (spD K S_law_behind) := ⟨_, _, g__law_behind, F__law_behind.kp, FunD.bindsN F__law_behind (fun _ _ _ _ _ _ us hl => match us, hl with | [_, _, _], _ => rfl), ok__law_behind G__law_then F__law_behind⟩
  have G__law_no_view : Fn P w K mg base "_law_no_view" 2 ["pot", "seen"] (spP K S_law_no_view) := ⟨_, _, g__law_no_view, F__law_no_view.kp, FunD.bindsN F__law_no_view (fun _ _ _ _ _ _ us hl => match us, hl with | [_, _], _ => rfl), ok__law_no_view T G__law_take F__law_no_view⟩
  have G__law_view : Fn P w K mg base "_law_view" 2 ["pot", "states", "spot", "others", "words"] (spP K S_law_view) := ⟨_, _, g__law_view, F__law_view.kp, FunD.bindsN F__law_view (fun _ _ _ _ _ _ us hl => match us, hl with | [_, _, _, _, _], _ => rfl), ok__law_view T G__law_take G__law_then F__law_view⟩
  have G__law_round_right : Fn P w K mg base "_law_round_right" 8 ["pot", "hand", "other", "word"] (spP K S_law_round) := ⟨_, _, g__law_round_right, F__law_round_right.kp, FunD.bindsN F__law_round_right (fun _ _ _ _ _ _ us hl => match us, hl with | [_, _, _, _], _ => rfl), ok__law_round_right T G__law_take K2 F__law_round_right⟩
  have XT : FnTab P w K mg base "_law_refusals_right" 10 ["pot", "own", "seen"] (He.cT K ("_law_refusals_right", none)).2 qR S_law_refs := ⟨_, _, g__law_refusals_right, F__law_refusals_right.kp, FunD.bindsN F__law_refusals_right (fun _ _ _ _ _ _ us hl => match us, hl with | [_, _, _], _ => rfl), ok__law_refusals_right T TB (fd_code F__law_refusals_right) G__law_take G__law_no_view XDF XW XP XR P_events_at P_is_done SA F__law_refusals_right⟩
  exact ok_law T int_BEGIN ⟨G__law_take, G__law_pot, G__law_names, G__law_end, G__law_round_right, G__law_view, G__law_behind, XT, G_events_at, G_is_done, AK, DK, K2, K0, DF⟩ F_law
end K3
set_option maxHeartbeats 200000
set_option Elab.async false
set_option linter.all false
open PySem PySem.W PySem.Calls PyProof.Rows
set_option maxRecDepth 100000 in
set_option maxHeartbeats 0 in
theorem PySem.Challenge.cw_sayloom_k15_rows_of_events_done_holds : PySem.Challenge.rw_sayloom_k15_rows_of_events_done.Holds := by
  w_on; o_law
  refine HandSHeadRun.head_any (r := OpenLaw.row PySem.Challenge.rw_sayloom_k15_rows_of_events_done) (q := view (OpenLaw.row PySem.Challenge.rw_sayloom_k15_rows_of_events_done).prog [41]) (H := K3.hhk) (ob := K3.hob) (M := 4000) (loose := K3.hlo) (d := HandSHeadRun.topDef (OpenLaw.row PySem.Challenge.rw_sayloom_k15_rows_of_events_done).prog 41) (kwd := []) K3.hob_eq
    (by kernel_rfl) (fun s => by kernel_rfl) K3.hrun (by kernel_rfl) (by kernel_rfl) (by kernel_rfl) (by rfl) (by first | assumption | decide +kernel) (by decide +kernel) ⟨rfl, rfl, rfl, rfl, rfl, by decide +kernel⟩ ?hw ?hc
  case hw => w_witness2
  case hc =>
    refine DL.walkShT (l := PySem.Challenge.rw_sayloom_k15_rows_of_events_done) (n := 63) (k := 12) (x := "script") rfl (by decide) (by kernel_rfl) ⟨rfl, by decide, by decide⟩ ?F
    intro w mg fa h Y G hmg0
    obtain ⟨K, KX, sx⟩ := Y
    have hmg : mg ("law" : PySem.Str) = some (.ref fa) := by
      have e : (HandSHeadRun.topDef (OpenLaw.row PySem.Challenge.rw_sayloom_k15_rows_of_events_done).prog 41).name = ("law" : PySem.Str) := by kernel_rfl
      rw [← e]
      exact hmg0
    obtain ⟨fd, hb, hF⟩ := K3.facts (P := (PySem.Challenge.rw_sayloom_k15_rows_of_events_done).prog) (w := w) KX G hmg sx
    have hm : ((("_law_refusals_right" : PySem.Str), none) : He.Defn) ∈ K3.htf := List.mem_cons_self
    refine ⟨K, fd, DL.spLT K (He.cT K ("_law_refusals_right", none)).2 K3.S_law, (He.cT K ("_law_refusals_right", none)).1, (He.cT K ("_law_refusals_right", none)).2, KX, sx.empty _ hm, sx.out _ hm, codeHd_of_K KX (sx.hd _ hm), hb, fun H a ns hl hT hne hS => ?_, hF⟩
    generalize (He.cT K ("_law_refusals_right", none)).2 = PT at hT hne
    have e : (fun b => if b = PT then none else H b : L2.Hp) a = H a := if_neg hne
    have hS' : L2.SqL K (fun b => if b = PT then none else H b) a (ns.map L2.V.int) := hS.imp (fun z => by
      unfold L2.Rd at z ⊢
      rw [e]
      exact z) id
    refine ⟨fun b => if b = PT then none else H b, [.list (ns.map PyData.int)], fun x => x = .bool true, fun b o z => ?_, .cons (.lst hS' ?_) .nil, if_pos rfl, hT, ⟨ns, rfl, hl, rfl⟩, fun v x F' H' _ hd hx => ?_⟩
    · have z : (if b = PT then none else H b) = some o := z
      by_cases c : b = PT
      · rw [if_pos c] at z; cases z
      · rw [if_neg c] at z; exact z
    · clear hl hS hS' e
      induction ns with
      | nil => exact .nil
      | cons n ns ih => exact .cons (.int n) ih
    · subst hx
      cases hd
      rfl

import PyProof.Rows.All
import Wide.All
import OpenK.AllK
import Wide.FinOn
import HandS.ForMost
import HandS.Wide
import HandS.Deep
import HandS.IsInst
import HandS.Flow
import HandS.AnyAll
import HandS.TupAny
import HandS.Strs
import HandS.Defaults
import HandS.Exc
import HandS.ExcOwn
import HandS.ExcCtx
import HandS.TryOnly
import HandS.WordsExc
import HandS.TupLe
import KE.LtSeq
import HandS.Style
import HandS.ExcIs
import HandS.HotCalls
import HandS.HeadHook1
import HandS.HeadHook4
import HandS.Iter
import HandS.GenList
import HandS.HeadWalk
import HandS.Rev
import HandS.Zip
import HandS.SetBool
import HandS.TupSets
import HandS.SortInts
import KE.KDictZip
import KE.GoesEnum
import KE.KItemsList
import HandS.ListItems
import HandS.RevTup
import KE.KRevIter
import HandS.Head0
import HandS.Head1
import HandS.Head2
import HandS.HeadEnd
import HandS.HeadHook2
import KE.KNestM
import PySem.Challenge.RW_guardwords_k67_terms_fit_and_give
set_option Elab.async false
set_option linter.all false
set_option maxRecDepth 100000
set_option maxHeartbeats 4000000
namespace Fs
open PySem L2
/-! ### values, cells, results -/
inductive W where
  | non | bl (b : Bool) | int (i : Int) | str (x : Str) | tup (xs : List W) | rol (xs : List W) | loc (n : Nat) | ty (n : String) | adr (a : Nat) | ltp (xs : List W)
inductive Cell where
  | lst (xs : List W)
  | dct (kvs : List (L2.Key × W))
abbrev Store := List Cell
def cellLst : Option Cell → Option (List W)
  | some (.lst xs) => some xs
  | _ => none
theorem cellLst_some {o : Option Cell} {xs : List W} (h : cellLst o = some xs) : o = some (.lst xs) := by
  cases o with
  | none => cases h
  | some c => cases c <;> cases h <;> rfl
structure Ex where
  cls : Str
  fs : List (Str × W)
inductive Res (α : Type) where
  | ok (a : α) (S : Store)
  | exc (e : Ex) (S : Store)
  | bad
def Res.bind {α β : Type} : Res α → (α → Store → Res β) → Res β
  | .ok a S, f => f a S
  | .exc e S, _ => .exc e S
  | .bad, _ => .bad
abbrev Lo := List (Option W)
abbrev DE := Lo → Store → Res W
abbrev DT := Lo → Store → Res Bool
abbrev DA := Lo → Store → Res (List W)
abbrev DF := List W → Store → Res W
inductive RS where
  | nx (ls : Lo) (S : Store) | rt (w : W) (S : Store) | bk (ls : Lo) (S : Store) | ct (ls : Lo) (S : Store) | ex (e : Ex) (ls : Lo) (S : Store) | bad
abbrev DS := Lo → Store → RS
/-! ### what stands for what -/
abbrev Mu := Nat → Option Addr
def RoL (K : PySem.W.Frag) (H : Hp) (a : Addr) (xs : List V) : Prop :=
  (∃ o, H a = some (.frz o (.lst xs))) ∨
    ∃ (o : Obj) (its : Array Value) (n : Nat), K.lookup a = some o ∧ o.cls = .type
      "list" ∧ o.dict = none ∧ o.data = .seq its n ∧ its.size ≤ sizeLine ∧ Vals xs its.toList
theorem RoL.seq {K : PySem.W.Frag} {H : Hp} {a : Addr} {xs : List V} (h : RoL K H a xs) : SqL K H a xs := by
  rcases h with ⟨o, h⟩ | h
  · exact .inl (.inr ⟨o, h⟩)
  · exact .inr h
/-- a tuple whose object is known to have no dict -/
def SqD (K : PySem.W.Frag) (H : Hp) (a : Addr) (xs : List V) : Prop :=
  (∃ o, H a = some (.frz o (.tup xs)) ∧ o.dict = none) ∨
    ∃ (o : Obj) (its : Array Value) (n : Nat), K.lookup a = some o ∧ o.cls = .type
      "tuple" ∧ o.dict = none ∧ o.data = .seq its n ∧ its.size ≤ sizeLine ∧ Vals xs its.toList
theorem SqD.t {K : PySem.W.Frag} {H : Hp} {a : Addr} {xs : List V} (h : SqD K H a xs) : SqT K H a xs := by
  rcases h with ⟨o, h, _⟩ | ⟨o, its, n, h1, h2, _, h3, h4, h5⟩
  · exact .inl (.inr ⟨o, h⟩)
  · exact .inr ⟨o, its, n, h1, h2, h3, h4, h5⟩
theorem SqD.of {K : PySem.W.Frag} {H : Hp} {a : Addr} {xs : List V} {o : Obj} (h : H a = some (.frz o (.tup xs))) (hd : o.dict = none) : SqD K H a xs := .inl ⟨o, h, hd⟩
mutual
inductive Vr (K : PySem.W.Frag) (μ : Mu) (H : Hp) : V → W → Prop
  | non : Vr K μ H .non .non
  | bl (b : Bool) : Vr K μ H (.bl b) (.bl b)
  | int (i : Int) : Vr K μ H (.int i) (.int i)
  | str (x : Str) : Vr K μ H (.str x) (.str x)
  | tup {a : Addr} {xs : List V} {ws : List W} : SqD K H a xs → VrA K μ H xs ws → Vr K μ H (.ref a) (.tup ws)
  | rol {a : Addr} {xs : List V} {ws : List W} : RoL K H a xs → VrA K μ H xs ws → Vr K μ H (.ref a) (.rol ws)
  | loc {n : Nat} {a : Addr} : μ n = some a → Vr K μ H (.ref a) (.loc n)
  | ty (n : String) : Vr K μ H (.ty n) (.ty n)
  | adr (a : Addr) : Vr K μ H (.ref a) (.adr a)
  | ltp {a : Addr} {xs : List V} {ws : List W} : SqT K H a xs → VrA K μ H xs ws → Vr K μ H (.ref a) (.ltp ws)
inductive VrA (K : PySem.W.Frag) (μ : Mu) (H : Hp) : List V → List W → Prop
  | nil : VrA K μ H [] []
  | cons {v : V} {vs : List V} {w : W} {ws : List W} : Vr K μ H v w → VrA K μ H vs ws → VrA K μ H (v :: vs) (w :: ws)
end
def fixO : HO → Bool
  | .tup _ => true
  | .frz _ _ => true
  | .xd _ => true
  | _ => false
/-- the tables of code objects that may grow -/
class Tabs where
  /-- the code object of a def, its table -/
  pr : Addr → Addr → Prop
def Tabs.is [Tabs] (P : Addr) : Prop := ∃ c, Tabs.pr c P
/-- the defs' code objects and their tables stand in the base -/
def TbOk [Tabs] (base : Heap) (mg : Str → Option Value) : Prop := ∀ c P, Tabs.pr c P → GxR.TabB base mg c P
variable [Tb : Tabs]
structure Gr (μ μ' : Mu) (H H' : Hp) : Prop where
  mu : ∀ n a, μ n = some a → μ' n = some a
  fx : ∀ a u, H a = some u → fixO u = true → H' a = some u
  kp : ∀ a u, H a = some u → (∀ n, μ n ≠ some a) → ¬ Tabs.is a → H' a = some u ∧ ∀ n, μ' n ≠ some a
theorem Gr.refl (μ : Mu) (H : Hp) : Gr μ μ H H := ⟨fun _ _ h => h, fun _ _ h _ => h, fun _ _ h q _ => ⟨h, q⟩⟩
theorem Gr.trans {μ μ1 μ2 : Mu} {H H1 H2 : Hp} (a : Gr μ μ1 H H1) (b : Gr μ1 μ2 H1 H2) : Gr μ μ2 H H2 :=
  ⟨fun n x h => b.mu n x (a.mu n x h), fun x u h q => b.fx x u (a.fx x u h q) q, fun x u h q t => b.kp x u (a.kp x u h q t).1 (a.kp x u h q t).2 t⟩
structure Gq (μ μ' : Mu) (H H' : Hp) : Prop where
  mu : ∀ n a, μ n = some a → μ' n = some a
  fx : ∀ a u, H a = some u → fixO u = true → H' a = some u
theorem Gr.q {μ μ' : Mu} {H H' : Hp} (g : Gr μ μ' H H') : Gq μ μ' H H' := ⟨g.mu, g.fx⟩
theorem Gq.sqt {K : PySem.W.Frag} {μ μ' : Mu} {H H' : Hp} {a : Addr} {xs : List V} (g : Gq μ μ' H H') (h : SqT K H a xs) : SqT K H' a xs := by
  rcases h with (h | ⟨o, h⟩) | h
  · exact .inl (.inl (g.fx _ _ h rfl))
  · exact .inl (.inr ⟨o, g.fx _ _ h rfl⟩)
  · exact .inr h
theorem Gq.sqd {K : PySem.W.Frag} {μ μ' : Mu} {H H' : Hp} {a : Addr} {xs : List V} (g : Gq μ μ' H H') (h : SqD K H a xs) : SqD K H' a xs := by
  rcases h with ⟨o, h, hd⟩ | h
  · exact .inl ⟨o, g.fx _ _ h rfl, hd⟩
  · exact .inr h
theorem Gq.rol {K : PySem.W.Frag} {μ μ' : Mu} {H H' : Hp} {a : Addr} {xs : List V} (g : Gq μ μ' H H') (h : RoL K H a xs) : RoL K H' a xs := by
  rcases h with ⟨o, h⟩ | h
  · exact .inl ⟨o, g.fx _ _ h rfl⟩
  · exact .inr h
mutual
theorem Vr.mono0 {K : PySem.W.Frag} {μ μ' : Mu} {H H' : Hp} (g : Gq μ μ' H H') : ∀ {w : W} {v : V}, Vr K μ H v w → Vr K μ' H' v w
  | .non, _, h => by cases h; exact .non
  | .bl b, _, h => by cases h; exact .bl b
  | .int b, _, h => by cases h; exact .int b
  | .str b, _, h => by cases h; exact .str b
  | .tup ws, _, h => by
    cases h with
    | tup h1 h2 => exact .tup (g.sqd h1) (VrA.mono0 g h2)
  | .rol ws, _, h => by
    cases h with
    | rol h1 h2 => exact .rol (g.rol h1) (VrA.mono0 g h2)
  | .loc n, _, h => by
    cases h with
    | loc h1 => exact .loc (g.mu _ _ h1)
  | .ty n, _, h => by cases h; exact .ty n
  | .adr a, _, h => by cases h; exact .adr a
  | .ltp ws, _, h => by
    cases h with
    | ltp h1 h2 => exact .ltp (g.sqt h1) (VrA.mono0 g h2)
theorem VrA.mono0 {K : PySem.W.Frag} {μ μ' : Mu} {H H' : Hp} (g : Gq μ μ' H H') : ∀ {ws : List W} {vs : List V}, VrA K μ H vs ws → VrA K μ' H' vs ws
  | [], _, h => by cases h; exact .nil
  | w :: ws, _, h => by
    cases h with
    | cons h1 h2 => exact .cons (Vr.mono0 g h1) (VrA.mono0 g h2)
end
theorem Gr.sqt {K : PySem.W.Frag} {μ μ' : Mu} {H H' : Hp} {a : Addr} {xs : List V} (g : Gr μ μ' H H') (h : SqT K H a xs) : SqT K H' a xs := g.q.sqt h
theorem Gr.rol {K : PySem.W.Frag} {μ μ' : Mu} {H H' : Hp} {a : Addr} {xs : List V} (g : Gr μ μ' H H') (h : RoL K H a xs) : RoL K H' a xs := g.q.rol h
theorem Vr.mono {K : PySem.W.Frag} {μ μ' : Mu} {H H' : Hp} (g : Gr μ μ' H H') {w : W} {v : V} (h : Vr K μ H v w) : Vr K μ' H' v w := h.mono0 g.q
theorem VrA.mono {K : PySem.W.Frag} {μ μ' : Mu} {H H' : Hp} (g : Gr μ μ' H H') {ws : List W} {vs : List V} (h : VrA K μ H vs ws) : VrA K μ' H' vs ws := h.mono0 g.q
omit Tb in
theorem VrA.length {K : PySem.W.Frag} {μ : Mu} {H : Hp} : ∀ {ws : List W} {vs : List V}, VrA K μ H vs ws → vs.length = ws.length
  | [], _, h => by cases h; rfl
  | w :: ws, _, h => by
    cases h with
    | cons h1 h2 => rw [List.length_cons, List.length_cons, VrA.length h2]
omit Tb in
theorem VrA.get {K : PySem.W.Frag} {μ : Mu} {H : Hp} : ∀ {ws : List W} {vs : List V} {i : Nat} {w : W}, VrA K μ H vs ws → ws[i]? = some w → ∃ v, vs[i]? = some v ∧ Vr K μ H v w
  | [], _, _, _, _, e => by simp at e
  | w :: ws, _, 0, _, h, e => by
    cases h with
    | cons h1 h2 =>
      simp at e
      subst e
      exact ⟨_, rfl, h1⟩
  | w :: ws, _, i + 1, _, h, e => by
    cases h with
    | cons h1 h2 =>
      obtain ⟨v, q1, q2⟩ := VrA.get (i := i) h2 (by simpa using e)
      exact ⟨v, by simpa using q1, q2⟩
omit Tb in
theorem VrA.append {K : PySem.W.Frag} {μ : Mu} {H : Hp} : ∀ {ws ws' : List W} {vs vs' : List V}, VrA K μ H vs ws → VrA K μ H vs' ws' → VrA K μ H (vs ++ vs') (ws ++ ws')
  | [], _, _, _, h, h' => by cases h; exact h'
  | w :: ws, _, _, _, h, h' => by
    cases h with
    | cons h1 h2 => exact .cons h1 (VrA.append h2 h')
omit Tb in
theorem VrA.set {K : PySem.W.Frag} {μ : Mu} {H : Hp} {v : V} {w : W} (r : Vr K μ H v w) : ∀ {ws : List W} {vs : List V} (i : Nat), VrA K μ H vs ws → VrA K μ H (vs.set i v) (ws.set i w)
  | [], _, _, h => by cases h; exact .nil
  | _ :: ws, _, 0, h => by
    cases h with
    | cons h1 h2 => exact .cons r h2
  | _ :: ws, _, i + 1, h => by
    cases h with
    | cons h1 h2 => exact .cons h1 (VrA.set r i h2)
omit Tb in
theorem VrA.take {K : PySem.W.Frag} {μ : Mu} {H : Hp} : ∀ {ws : List W} {vs : List V} (n : Nat), VrA K μ H vs ws → VrA K μ H (vs.take n) (ws.take n)
  | _, _, 0, _ => by simpa using VrA.nil
  | [], _, n + 1, h => by cases h; exact .nil
  | _ :: ws, _, n + 1, h => by
    cases h with
    | cons h1 h2 => exact .cons h1 (VrA.take n h2)
omit Tb in
theorem VrA.drop {K : PySem.W.Frag} {μ : Mu} {H : Hp} : ∀ {ws : List W} {vs : List V} (n : Nat), VrA K μ H vs ws → VrA K μ H (vs.drop n) (ws.drop n)
  | _, _, 0, h => by simpa using h
  | [], _, n + 1, h => by cases h; exact .nil
  | _ :: ws, _, n + 1, h => by
    cases h with
    | cons h1 h2 => exact VrA.drop n h2
omit Tb in
theorem VrA.ints {K : PySem.W.Frag} {μ : Mu} {H : Hp} : ∀ ns : List Int, VrA K μ H (ns.map V.int) (ns.map W.int)
  | [] => .nil
  | n :: r => .cons (.int n) (VrA.ints r)
/-! ### the store in the heap -/
def CellR (K : PySem.W.Frag) (μ : Mu) (H : Hp) (a : Addr) : Cell → Prop
  | .lst ws => ∃ xs, H a = some (.lst xs) ∧ VrA K μ H xs ws
  | .dct ws => ∃ xs : List (L2.Key × V), H a = some (.dK xs) ∧ xs.map (·.1) = ws.map (·.1) ∧ VrA K μ H (xs.map (·.2)) (ws.map (·.2))
structure Sim (K : PySem.W.Frag) (μ : Mu) (S : Store) (H : Hp) : Prop where
  cell : ∀ n c, S[n]? = some c → ∃ a, μ n = some a ∧ CellR K μ H a c
  inj : ∀ n n' a, μ n = some a → μ n' = some a → n = n'
  top : ∀ n, S.length ≤ n → μ n = none
  tab : ∀ P, Tabs.is P → GxR.TabG H P
omit Tb in
theorem tab_ne {H : Hp} {P p : Addr} (t : GxR.TabG H P) (h : H p = none) : P ≠ p := fun e => by
  obtain ⟨_, q, _⟩ := t
  rw [e, h] at q
  cases q
omit Tb in
theorem tab_upd {H : Hp} {P p : Addr} {u : HO} (t : GxR.TabG H P) (n : P ≠ p) : GxR.TabG (upd H p u) P := by
  obtain ⟨ps, q, r⟩ := t
  exact ⟨ps, (upd_ne n).trans q, r⟩
omit Tb in
theorem CellR.tab {K : PySem.W.Frag} {μ : Mu} {H : Hp} {a P : Addr} {c : Cell} (h : CellR K μ H a c) (t : GxR.TabG H P) : P ≠ a := fun e => by
  obtain ⟨_, q, _⟩ := t
  rw [e] at q
  cases c with
  | lst ws =>
    obtain ⟨xs, h1, _⟩ := h
    cases h1.symm.trans q
  | dct ws =>
    obtain ⟨xs, h1, _⟩ := h
    cases h1.symm.trans q
theorem CellR.mono0 {K : PySem.W.Frag} {μ μ' : Mu} {H H' : Hp} {a : Addr} (g : Gq μ μ' H H') (e : H' a = H a) : ∀ {c : Cell}, CellR K μ H a c → CellR K μ' H' a c
  | .lst ws, h => by
    obtain ⟨xs, h1, h2⟩ := h
    exact ⟨xs, by rw [e]; exact h1, h2.mono0 g⟩
  | .dct ws, h => by
    obtain ⟨xs, h1, h2, h3⟩ := h
    exact ⟨xs, by rw [e]; exact h1, h2, h3.mono0 g⟩
theorem CellR.mono {K : PySem.W.Frag} {μ μ' : Mu} {H H' : Hp} {a : Addr} (g : Gr μ μ' H H') (e : H' a = H a) {c : Cell} (h : CellR K μ H a c) : CellR K μ' H' a c := h.mono0 g.q e
omit Tb in
theorem CellR.nofix {K : PySem.W.Frag} {μ : Mu} {H : Hp} {a : Addr} : ∀ {c : Cell}, CellR K μ H a c → ∃ u, H a = some u ∧ fixO u = false
  | .lst ws, h => by
    obtain ⟨xs, h1, h2⟩ := h
    exact ⟨_, h1, rfl⟩
  | .dct ws, h => by
    obtain ⟨xs, h1, h2⟩ := h
    exact ⟨_, h1, rfl⟩
/-- a fresh object that is a value (a tuple) -/
theorem gr_new {μ : Mu} {H : Hp} {p : Addr} {u : HO} (hp : H p = none) : Gr μ μ H (upd H p u) := ⟨fun _ _ h => h, fun a o h _ => by
  rw [upd_ne (ne_of_none h hp)]
  exact h, fun a o h q _ => ⟨by rw [upd_ne (ne_of_none h hp)]; exact h, q⟩⟩
theorem Sim.new {K : PySem.W.Frag} {μ : Mu} {S : Store} {H : Hp} (s : Sim K μ S H) {p : Addr} {u : HO} (hp : H p = none) : Sim K μ S (upd H p u) :=
  ⟨fun n c h => by
    obtain ⟨a, h1, h2⟩ := s.cell n c h
    obtain ⟨o, h3, _⟩ := h2.nofix
    exact ⟨a, h1, h2.mono (gr_new hp) (upd_ne (ne_of_none h3 hp))⟩, s.inj, s.top, fun P q => tab_upd (s.tab P q) (tab_ne (s.tab P q) hp)⟩
def muAdd (μ : Mu) (n : Nat) (p : Addr) : Mu := fun k => if k = n then some p else μ k
omit Tb in
theorem muAdd_same {μ : Mu} {n : Nat} {p : Addr} : muAdd μ n p n = some p := by unfold muAdd; rw [if_pos rfl]
omit Tb in
theorem muAdd_ne {μ : Mu} {n k : Nat} {p : Addr} (h : k ≠ n) : muAdd μ n p k = μ k := by unfold muAdd; rw [if_neg h]
/-- a fresh list -/
theorem gr_cell {K : PySem.W.Frag} {μ : Mu} {S : Store} {H : Hp} (s : Sim K μ S H) {p : Addr} {u : HO} (hp : H p = none) : Gr μ (muAdd μ S.length p) H (upd H p u) :=
  ⟨fun n a h => by
    by_cases e : n = S.length
    · subst e; rw [s.top _ (Nat.le_refl _)] at h; cases h
    · rw [muAdd_ne e]; exact h, (gr_new (μ := μ) hp).fx, fun a o h q _ => ⟨by rw [upd_ne (ne_of_none h hp)]; exact h, fun n z => by
      by_cases e : n = S.length
      · subst e
        rw [muAdd_same] at z
        exact ne_of_none h hp (Option.some.inj z).symm
      · rw [muAdd_ne e] at z
        exact q n z⟩⟩
theorem Sim.lt {K : PySem.W.Frag} {μ : Mu} {S : Store} {H : Hp} (s : Sim K μ S H) {n : Nat} {a : Addr} (h : μ n = some a) : n < S.length := by
  by_cases e : n < S.length
  · exact e
  · rw [s.top n (by omega)] at h; cases h
theorem Sim.there {K : PySem.W.Frag} {μ : Mu} {S : Store} {H : Hp} (s : Sim K μ S H) {n : Nat} {a : Addr} (h : μ n = some a) : ∃ u, H a = some u ∧ fixO u = false := by
  have hl := s.lt h
  obtain ⟨a', h1, h2⟩ := s.cell n _ (List.getElem?_eq_getElem hl)
  rw [h1] at h
  cases h
  exact h2.nofix
theorem Sim.alloc {K : PySem.W.Frag} {μ : Mu} {S : Store} {H : Hp} (s : Sim K μ S H) {p : Addr} {u : HO} {c : Cell} (hp : H p = none) (hc : CellR K (muAdd μ S.length p) (upd H p u) p c) :
    Sim K (muAdd μ S.length p) (S ++ [c]) (upd H p u) := by
  refine ⟨fun n d h => ?_, fun n n' a h h' => ?_, fun n h => ?_, fun P q => tab_upd (s.tab P q) (tab_ne (s.tab P q) hp)⟩
  · by_cases e : n < S.length
    · rw [List.getElem?_append_left e] at h
      obtain ⟨a, h1, h2⟩ := s.cell n d h
      obtain ⟨o, h3, _⟩ := h2.nofix
      exact ⟨a, by rw [muAdd_ne (by omega)]; exact h1, h2.mono (gr_cell s hp) (upd_ne (ne_of_none h3 hp))⟩
    · by_cases e2 : n = S.length
      · subst e2
        rw [List.getElem?_append_right (Nat.le_refl _), Nat.sub_self] at h
        cases h
        exact ⟨p, muAdd_same, hc⟩
      · rw [List.getElem?_eq_none (by rw [List.length_append, List.length_singleton]; omega)] at h
        cases h
  · have key : ∀ k b, muAdd μ S.length p k = some b → (k = S.length ∧ b = p) ∨ (k ≠ S.length ∧ μ k = some b) := fun k b q => by
      by_cases e : k = S.length
      · subst e; rw [muAdd_same] at q; cases q; exact .inl ⟨rfl, rfl⟩
      · rw [muAdd_ne e] at q; exact .inr ⟨e, q⟩
    have no : ∀ k b, μ k = some b → b ≠ p := fun k b q => by
      obtain ⟨o, h3, _⟩ := s.there q
      exact ne_of_none h3 hp
    rcases key n a h with ⟨e1, e2⟩ | ⟨e1, e2⟩ <;> rcases key n' a h' with ⟨e3, e4⟩ | ⟨e3, e4⟩
    · rw [e1, e3]
    · exact absurd e2 (no _ _ e4)
    · exact absurd e4 (no _ _ e2)
    · exact s.inj n n' a e2 e4
  · rw [List.length_append, List.length_singleton] at h
    rw [muAdd_ne (by omega)]
    exact s.top n (by omega)
/-- a cell is written -/
theorem gr_write {K : PySem.W.Frag} {μ : Mu} {S : Store} {H : Hp} (s : Sim K μ S H) {n : Nat} {a : Addr} {u : HO} (h : μ n = some a) : Gr μ μ H (upd H a u) := ⟨fun _ _ h => h, fun b o hb hf => by
  obtain ⟨o', h3, h4⟩ := s.there h
  by_cases e : b = a
  · subst e
    rw [h3] at hb
    cases hb
    rw [h4] at hf
    cases hf
  · rw [upd_ne e]
    exact hb, fun b o hb q _ => ⟨by rw [upd_ne (fun z => q n (by rw [z]; exact h))]; exact hb, q⟩⟩
theorem Sim.write {K : PySem.W.Frag} {μ : Mu} {S : Store} {H : Hp} (s : Sim K μ S H) {n : Nat} {a : Addr} {u : HO} {c : Cell} (h : μ n = some a) (hc : CellR K μ (upd H a u) a c) : Sim K μ (S.set n c) (upd H a u) := by
  have ta : ∀ P, GxR.TabG H P → P ≠ a := fun P t => by
    obtain ⟨a', h1, h2⟩ := s.cell n _ (List.getElem?_eq_getElem (s.lt h))
    cases h1.symm.trans h
    exact h2.tab t
  refine ⟨fun k d hk => ?_, s.inj, fun k hk => s.top k (by rw [List.length_set] at hk; exact hk), fun P q => tab_upd (s.tab P q) (ta P (s.tab P q))⟩
  by_cases e : k = n
  · subst e
    rw [List.getElem?_set_self (s.lt h)] at hk
    cases hk
    exact ⟨a, h, hc⟩
  · rw [List.getElem?_set_ne (Ne.symm e)] at hk
    obtain ⟨b, h1, h2⟩ := s.cell k d hk
    exact ⟨b, h1, h2.mono (gr_write s h) (upd_ne fun z => e (s.inj k n a (by rw [← z]; exact h1) h))⟩
/-- the heap grows -/
theorem gr_ext {μ : Mu} {H H' : Hp} (k : ∀ b o, H b = some o → H' b = some o) : Gr μ μ H H' := ⟨fun _ _ h => h, fun a u h _ => k a u h, fun a u h q _ => ⟨k a u h, q⟩⟩
theorem Sim.ext {K : PySem.W.Frag} {μ : Mu} {S : Store} {H H' : Hp} (s : Sim K μ S H) (k : ∀ b o, H b = some o → H' b = some o) : Sim K μ S H' :=
  ⟨fun n c h => by
    obtain ⟨a, h1, h2⟩ := s.cell n c h
    obtain ⟨o, h3, _⟩ := h2.nofix
    exact ⟨a, h1, h2.mono (gr_ext k) (by rw [h3]; exact k _ _ h3)⟩, s.inj, s.top, fun P q => by
    obtain ⟨ps, e, r⟩ := s.tab P q
    exact ⟨ps, k _ _ e, r⟩⟩
/-- one that stands in the heap becomes a cell -/
theorem gr_add {K : PySem.W.Frag} {μ : Mu} {S : Store} {H H' : Hp} (s : Sim K μ S H) (k : ∀ b o, H b = some o → H' b = some o) {p : Addr} (hp : H p = none) : Gr μ (muAdd μ S.length p) H H' :=
  ⟨fun n a h => by rw [muAdd_ne (fun e => by rw [e, s.top _ (Nat.le_refl _)] at h; cases h)]; exact h, fun a u h _ => k a u h, fun a u h q _ => ⟨k a u h, fun n z => by
      by_cases e : n = S.length
      · subst e
        rw [muAdd_same] at z
        exact ne_of_none h hp (Option.some.inj z).symm
      · rw [muAdd_ne e] at z
        exact q n z⟩⟩
theorem Sim.add {K : PySem.W.Frag} {μ : Mu} {S : Store} {H : Hp} (s : Sim K μ S H) {p : Addr} {c : Cell} (hp : ∀ n, μ n ≠ some p) (hc : CellR K (muAdd μ S.length p) H p c) : Sim K (muAdd μ S.length p) (S ++ [c]) H := by
  have g : Gq μ (muAdd μ S.length p) H H := ⟨fun n a h => by rw [muAdd_ne (fun e => by rw [e, s.top _ (Nat.le_refl _)] at h; cases h)]; exact h, fun _ _ h _ => h⟩
  refine ⟨fun n d h => ?_, fun n n' a h h' => ?_, fun n h => ?_, s.tab⟩
  · by_cases e : n < S.length
    · rw [List.getElem?_append_left e] at h
      obtain ⟨a, h1, h2⟩ := s.cell n d h
      exact ⟨a, g.mu _ _ h1, h2.mono0 g rfl⟩
    · by_cases e2 : n = S.length
      · subst e2
        rw [List.getElem?_append_right (Nat.le_refl _), Nat.sub_self] at h
        cases h
        exact ⟨p, muAdd_same, hc⟩
      · rw [List.getElem?_eq_none (by rw [List.length_append, List.length_singleton]; omega)] at h
        cases h
  · have key : ∀ k b, muAdd μ S.length p k = some b → (k = S.length ∧ b = p) ∨ (k ≠ S.length ∧ μ k = some b) := fun k b q => by
      by_cases e : k = S.length
      · subst e; rw [muAdd_same] at q; cases q; exact .inl ⟨rfl, rfl⟩
      · rw [muAdd_ne e] at q; exact .inr ⟨e, q⟩
    rcases key n a h with ⟨e1, e2⟩ | ⟨e1, e2⟩ <;> rcases key n' a h' with ⟨e3, e4⟩ | ⟨e3, e4⟩
    · rw [e1, e3]
    · exact absurd (by rw [← e2]; exact e4) (hp _)
    · exact absurd (by rw [← e4]; exact e2) (hp _)
    · exact s.inj n n' a e2 e4
  · rw [List.length_append, List.length_singleton] at h
    rw [muAdd_ne (by omega)]
    exact s.top n (by omega)
theorem Sim.empty {K : PySem.W.Frag} {H : Hp} (t : ∀ P, Tabs.is P → GxR.TabG H P) : Sim K (fun _ => none) [] H := ⟨fun n c h => by simp at h, fun _ _ _ h => (by cases h), fun _ _ => rfl, t⟩
/-! ### slots -/
structure LR (K : PySem.W.Frag) (μ : Mu) (H : Hp) (σ : St) (ls : Lo) : Prop where
  len : σ.length = ls.length
  at_ : ∀ (i : Nat) (w : W), ls[i]? = some (some w) → ∃ v, σ[i]? = some (some v) ∧ Vr K μ H v w
theorem LR.mono {K : PySem.W.Frag} {μ μ' : Mu} {H H' : Hp} {σ : St} {ls : Lo} (g : Gr μ μ' H H') (h : LR K μ H σ ls) : LR K μ' H' σ ls := ⟨h.len, fun i w e => by
  obtain ⟨v, h1, h2⟩ := h.at_ i w e
  exact ⟨v, h1, h2.mono g⟩⟩
omit Tb in
theorem LR.set {K : PySem.W.Frag} {μ : Mu} {H : Hp} {σ : St} {ls : Lo} {i : Nat} {v : V} {w : W} (h : LR K μ H σ ls) (r : Vr K μ H v w) : LR K μ H (σ.set i (some v)) (ls.set i (some w)) := by
  refine ⟨by rw [List.length_set, List.length_set, h.len], fun j w' e => ?_⟩
  by_cases q : i = j
  · subst q
    by_cases hl : i < ls.length
    · rw [List.getElem?_set_self hl] at e
      cases e
      exact ⟨v, by rw [List.getElem?_set_self (by rw [h.len]; exact hl)], r⟩
    · rw [List.getElem?_eq_none (by rw [List.length_set]; omega)] at e
      cases e
  · rw [List.getElem?_set_ne q] at e
    rw [List.getElem?_set_ne q]
    exact h.at_ j w' e
def startW (N : Nat) (ws : List W) : Lo := ws.map some ++ List.replicate (N - ws.length) none
omit Tb in
theorem LR.atStart {K : PySem.W.Frag} {μ : Mu} {H : Hp} {N : List Str} {vs : List V} {ws : List W} (h : VrA K μ H vs ws) : LR K μ H (L2.start N vs) (startW N.length ws) := by
  have hl := h.length
  refine ⟨by unfold L2.start startW; rw [List.length_append, List.length_append, List.length_map, List.length_map, List.length_replicate, List.length_replicate, hl], fun i w e => ?_⟩
  unfold startW at e
  unfold L2.start
  by_cases q : i < ws.length
  · rw [List.getElem?_append_left (by rw [List.length_map]; exact q), List.getElem?_map] at e
    cases e1 : ws[i]? with
    | none => rw [e1] at e; cases e
    | some x =>
      rw [e1] at e
      cases e
      obtain ⟨v, h1, h2⟩ := h.get e1
      exact ⟨v, by rw [List.getElem?_append_left (by rw [List.length_map, hl]; exact q), List.getElem?_map, h1]; rfl, h2⟩
  · rw [List.getElem?_append_right (by rw [List.length_map]; omega)] at e
    have := List.mem_of_getElem? e
    have := List.eq_of_mem_replicate this
    cases this
/-! ### an exception, and what is wanted behind a result -/
def XR (mg : Str → Option Value) (K : PySem.W.Frag) (μ : Mu) (H : Hp) (e : Ex) (c : Value) (d : Option Addr) : Prop :=
  mg e.cls = some c ∧ ((e.fs = [] ∧ d = none) ∨ (e.fs ≠ [] ∧ ∃ a xs, d = some a ∧ H a = some (.xd xs) ∧ xs.map (·.1) = e.fs.map (·.1) ∧ VrA K μ H (xs.map (·.2)) (e.fs.map (·.2))))
def Bd {α β : Type} (K : PySem.W.Frag) (mg : Str → Option Value) (Rl : Mu → Hp → β → α → Prop) (E : XK) (μ : Mu) (H : Hp) (r : Res α) (Q : β → Hp → Prop) : Prop :=
  match r with
  | .ok a S => ∀ b H' μ', Gr μ μ' H H' → Sim K μ' S H' → Rl μ' H' b a → Q b H'
  | .exc e S => ∀ c d H' μ', Gr μ μ' H H' → Sim K μ' S H' → XR mg K μ' H' e c d → E c d H'
  | .bad => False
theorem Bd.mono {α β : Type} {K : PySem.W.Frag} {mg : Str → Option Value} {Rl : Mu → Hp → β → α → Prop} {E : XK} {μ μ1 : Mu} {H H1 : Hp} {Q : β → Hp → Prop} (g : Gr μ μ1 H H1) : ∀ {r : Res α}, Bd K mg Rl E μ H r Q → Bd K mg Rl E μ1 H1 r Q
  | .ok a S, h => fun b H' μ' g' => h b H' μ' (g.trans g')
  | .exc e S, h => fun c d H' μ' g' => h c d H' μ' (g.trans g')
  | .bad, h => h
theorem Bd.bind {α β γ δ : Type} {K : PySem.W.Frag} {mg : Str → Option Value} {Rl : Mu → Hp → β → α → Prop} {Rm : Mu → Hp → δ → γ → Prop} {E : XK} {μ : Mu} {H : Hp} {f : γ → Store → Res α} {Q : β → Hp → Prop} {Q1 : δ → Hp → Prop}
    (k : ∀ a S b H1 μ1, Gr μ μ1 H H1 → Sim K μ1 S H1 → Rm μ1 H1 b a → Bd K mg Rl E μ1 H1 (f a S) Q → Q1 b H1) : ∀ {r : Res γ}, Bd K mg Rl E μ H (r.bind f) Q → Bd K mg Rm E μ H r Q1
  | .ok a S, h => fun b H' μ' g s r => k a S b H' μ' g s r (Bd.mono g h)
  | .exc e S, h => h
  | .bad, h => h
abbrev RlV (K : PySem.W.Frag) : Mu → Hp → V → W → Prop := fun μ H v w => Vr K μ H v w
abbrev RlB : Mu → Hp → Bool → Bool → Prop := fun _ _ a b => a = b
abbrev RlA (K : PySem.W.Frag) : Mu → Hp → List V → List W → Prop := fun μ H v w => VrA K μ H v w
end Fs
set_option maxHeartbeats 4000000
/-! tuples that the program makes: their objects are known to have no dict -/
namespace Tx
open PySem PySem.Spec PyProof.Rows L2 Fs
section
variable {X : Cx} {pins : List (Addr × Obj)} {σ : L2.St} {H : Hp} {s : Shared} {xs : List V}
/-- a new tuple, its object known -/
theorem laidD {us : Array Value} (I : Inv X pins σ H s) (z : xs.length ≤ sizeLine) (r : Vals xs us.toList) :
    Inv X pins σ (upd H s.heap.objs.size (.frz { cls := .type "tuple", data := .seq us } (.tup xs))) { s with heap := s.heap.push { cls := .type "tuple", data := .seq us } } :=
  have new : (s.heap.push { cls := .type "tuple", data := .seq us }).get? s.heap.objs.size = some { cls := .type "tuple", data := .seq us } := Heap.get?_push_size _ rfl
  I.laid (fun _ _ => Heap.get?_push_of_some _) (Nat.le_refl s.heap.objs.size) ⟨new, z, us.toList, r, _, new, rfl, 0, by rw [Array.toArray_toList]⟩
/-- what stands at a fresh place -/
theorem newD {us : Array Value} {Q : VK} (I : Inv X pins σ H s) (z : xs.length ≤ sizeLine) (r : Vals xs us.toList) (q : ∀ p o, H p = none → o.dict = none → Q (.ref p) (upd H p (.frz o (.tup xs)))) :
    EP X pins σ Q (.ref s.heap.objs.size) { s with heap := s.heap.push { cls := .type "tuple", data := .seq us } } :=
  ⟨.ref s.heap.objs.size, _, laidD I z r, rfl, q s.heap.objs.size { cls := .type "tuple", data := .seq us } (I.hok.fresh (Nat.le_refl _)) rfl⟩
end
def tTupD (t : TA) : TE := fun σ H Q => t σ H fun xs H1 => xs.length ≤ sizeLine ∧ ∀ p o, H1 p = none → o.dict = none → Q (.ref p) (upd H1 p (.frz o (.tup xs)))
section
variable {X : Cx} {es : List Expr} {t : TA} {pos : Pos}
theorem pe_tupD {x1} (h : PA X es t) : PE X (.Tuple es x1 pos) (tTupD t) := ⟨fun pins s σ H Q I hq => wpAny_Tuple_spliced (thn (h.run pos pins s σ H _ I hq) fun us _ ⟨xs, _, J, r, small, k⟩ =>
  ⟨Nat.le_trans (Nat.le_of_eq r.length.symm) small, newD (us := us.toArray) J small (by simpa using r) k⟩)⟩
end
section
variable {X : Cx}
def rCatD (K : PySem.W.Frag) : R2 := fun x y H Q => ∃ a b xs ys, x = .ref a ∧ y = .ref b ∧ SqT K H a xs ∧ SqT K H b ys ∧ xs.length + ys.length ≤ sizeLine ∧
  (xs = [] → Q (.ref b) H) ∧ (xs ≠ [] → ys = [] → Q (.ref a) H) ∧ (xs ≠ [] → ys ≠ [] → ∀ p o, H p = none → o.dict = none → Q (.ref p) (upd H p (.frz o (.tup (xs ++ ys)))))
theorem op_catD : OpR X (binaryOp .Add) (rCatD X.K) := fun pins s σ H x y v u Q I rx ry ⟨a, b, xs, ys, ex, ey, ha, hb, hz, q0, q1, q2⟩ => by
  rcases Classical.em (xs = []) with hx | hx
  · exact op_catA pins s σ H x y v u Q I rx ry ⟨a, b, xs, ys, ex, ey, ha, hb, hz, q0, q1, (absurd hx ·)⟩
  · subst ex
    subst ey
    cases rx
    cases ry
    obtain ⟨_, r1, p1, _⟩ := I.tuple ha
    obtain ⟨_, r2, p2, _⟩ := I.tuple hb
    exact HT.cat_tup p1 p2 (hx ∘ r1.nil_iff.mp) (fun z => ⟨.ref a, H, I, rfl, q1 hx (r2.nil_iff.mp z)⟩) (fun z => newD I (List.length_append ▸ hz) (by simpa using r1.append r2) (q2 hx (z ∘ r2.nil_iff.mpr))) (r1.length ▸ r2.length ▸ hz)
def rSlD (K : PySem.W.Frag) : V → Option Int → Option Int → Hp → VK → Prop := fun x lo hi H Q => ∃ a xs, x = .ref a ∧ SqT K H a xs ∧
  (HT.sIx xs.length 0 lo = 0 ∧ HT.sIx xs.length xs.length hi = xs.length → Q (.ref a) H) ∧ (¬ (HT.sIx xs.length 0 lo = 0 ∧ HT.sIx xs.length xs.length hi = xs.length) → ∀ p o, H p = none → o.dict = none → Q (.ref p) (upd H p (.frz o (.tup (cutV xs lo hi)))))
theorem sl_tupD : SlR X (rSlD X.K) := fun pins s σ H x v vl vu lo hi sl Q I rx hs pl pu ⟨a, xs, ex, hx, q1, q2⟩ => by
  rcases Classical.em (HT.sIx xs.length 0 lo = 0 ∧ HT.sIx xs.length xs.length hi = xs.length) with hw | hw
  · exact sl_tupA pins s σ H x v vl vu lo hi sl Q I rx hs pl pu ⟨a, xs, ex, hx, q1, (absurd hw ·)⟩
  · subst ex
    cases rx
    obtain ⟨its, r, ht, short⟩ := I.tuple hx
    have same : xs.length = its.toArray.size := r.length.trans (List.size_toArray ..).symm
    have cut := newD (us := (its.toArray.toList.drop (HT.sIx xs.length 0 lo) |>.take (HT.sIx xs.length xs.length hi - HT.sIx xs.length 0 lo)).toArray) I (Nat.le_trans (cutV_length xs lo hi) short)
      (by unfold cutV; simpa using (r.drop (HT.sIx xs.length 0 lo)).take (HT.sIx xs.length xs.length hi - HT.sIx xs.length 0 lo)) (q2 hw)
    refine ⟨"tuple", _, PyProof.Rows.slot_tuple_getitem.lookup, ht.typeIs, HT.getItem_tuple_cut ht hs pl pu (same ▸ hw) ?_ (same ▸ short)⟩
    rw [← same]
    simpa using cut
theorem call_tupleD : CallR X (.type "tuple") (fun xs H Q => ∃ p ys, xs = [.ref p] ∧ ((SqL X.K H p ys ∧ ∀ l o, H l = none → o.dict = none → Q (.ref l) (upd H l (.frz o (.tup ys)))) ∨ (SqT X.K H p ys ∧ Q (.ref p) H))) := fun pins s σ H xs us Q I r ⟨p, ys, ex, h⟩ => by
  subst ex
  obtain ⟨_, rfl, rx⟩ := vals1 r
  cases rx
  cases h with
  | inl h =>
    obtain ⟨its, r', pl, hz⟩ := I.list h.1
    refine call_tuple_list pl.isList (fun h' kp => newD (I.kept (t' := s.toks) kp) hz (by simpa using r') h.2) ?_
    have := r'.length
    simp only [List.size_toArray]
    omega
  | inr h =>
    obtain ⟨_, _, pl, _⟩ := I.tuple h.1
    exact call_tuple_same pl ⟨.ref p, H, I, rfl, h.2⟩
end
end Tx
set_option maxHeartbeats 4000000
namespace Fs
open PySem L2
variable [Tb : Tabs]
/-! ### judgements -/
/-- what is wanted of an exception: its class, its dict, the slots, the heap -/
abbrev WE := Value → Option Addr → St → Hp → Prop
abbrev BdV (X : Cx) (Wx : WE) (σ : St) (μ : Mu) (H : Hp) (r : Res W) (Q : VK) : Prop := Bd X.K X.mg (RlV X.K) (fun c d H' => Wx c d σ H') μ H r Q
abbrev BdB (X : Cx) (Wx : WE) (σ : St) (μ : Mu) (H : Hp) (r : Res Bool) (Q : Bool → Hp → Prop) : Prop := Bd X.K X.mg RlB (fun c d H' => Wx c d σ H') μ H r Q
abbrev BdA (X : Cx) (Wx : WE) (σ : St) (μ : Mu) (H : Hp) (r : Res (List W)) (Q : List V → Hp → Prop) : Prop := Bd X.K X.mg (RlA X.K) (fun c d H' => Wx c d σ H') μ H r Q
def BdS (X : Cx) (Wx : WE) (μ : Mu) (H : Hp) (r : RS) (D : Ends) : Prop :=
  match r with
  | .nx ls S => ∀ σ' H' μ', Gr μ μ' H H' → Sim X.K μ' S H' → LR X.K μ' H' σ' ls → D.nx σ' H'
  | .rt w S => ∀ v H' μ', Gr μ μ' H H' → Sim X.K μ' S H' → Vr X.K μ' H' v w → D.rt v H'
  | .bk ls S => ∀ σ' H' μ', Gr μ μ' H H' → Sim X.K μ' S H' → LR X.K μ' H' σ' ls → D.bk σ' H'
  | .ct ls S => ∀ σ' H' μ', Gr μ μ' H H' → Sim X.K μ' S H' → LR X.K μ' H' σ' ls → D.ct σ' H'
  | .ex e ls S => ∀ σ' c d H' μ', Gr μ μ' H H' → Sim X.K μ' S H' → LR X.K μ' H' σ' ls → XR X.mg X.K μ' H' e c d → Wx c d σ' H'
  | .bad => False
theorem BdS.mono {X : Cx} {Wx : WE} {μ μ1 : Mu} {H H1 : Hp} {D : Ends} (g : Gr μ μ1 H H1) : ∀ {r : RS}, BdS X Wx μ H r D → BdS X Wx μ1 H1 r D
  | .nx ls S, h => fun σ' H' μ' g' => h σ' H' μ' (g.trans g')
  | .rt w S, h => fun v H' μ' g' => h v H' μ' (g.trans g')
  | .bk ls S, h => fun σ' H' μ' g' => h σ' H' μ' (g.trans g')
  | .ct ls S, h => fun σ' H' μ' g' => h σ' H' μ' (g.trans g')
  | .ex e ls S, h => fun σ' c d H' μ' g' => h σ' c d H' μ' (g.trans g')
  | .bad, h => h
structure SE (X : Cx) (Wx : WE) (e : Expr) (m : DE) : Prop where
  ex : ∃ t, PE X e t ∧ ∀ σ H μ ls S Q, LR X.K μ H σ ls → Sim X.K μ S H → BdV X Wx σ μ H (m ls S) Q → t σ H Q
structure ST (X : Cx) (Wx : WE) (e : Expr) (m : DT) : Prop where
  ex : ∃ t, PT X e t ∧ ∀ σ H μ ls S Q, LR X.K μ H σ ls → Sim X.K μ S H → BdB X Wx σ μ H (m ls S) Q → t σ H Q
structure SW (X : Cx) (Wx : WE) (e : Expr) (m : DT) : Prop where
  ex : ∃ t, PW X e t ∧ ∀ σ H μ ls S Q, LR X.K μ H σ ls → Sim X.K μ S H → BdB X Wx σ μ H (m ls S) Q → t σ H Q
structure SA (X : Cx) (Wx : WE) (es : List Expr) (m : DA) : Prop where
  ex : ∃ t, PA X es t ∧ ∀ σ H μ ls S Q, LR X.K μ H σ ls → Sim X.K μ S H → BdA X Wx σ μ H (m ls S) Q → t σ H Q
structure SS (X : Cx) (Wx : WE) (st : Stmt) (m : DS) : Prop where
  ex : ∃ t, PS X st t ∧ ∀ σ H μ ls S D, LR X.K μ H σ ls → Sim X.K μ S H → BdS X Wx μ H (m ls S) D → t D σ H
structure SSs (X : Cx) (Wx : WE) (st : List Stmt) (m : DS) : Prop where
  ex : ∃ t, PSs X st t ∧ ∀ σ H μ ls S D, LR X.K μ H σ ls → Sim X.K μ S H → BdS X Wx μ H (m ls S) D → t D σ H
/-! ### the denotations' combinators -/
def dVar (i : Nat) : DE := fun ls S => match ls[i]? with
  | some (some w) => .ok w S
  | _ => .bad
def dC (w : W) : DE := fun _ S => .ok w S
def dArgs : List DE → DA
  | [] => fun _ S => .ok [] S
  | a :: r => fun ls S => (a ls S).bind fun w S1 => (dArgs r ls S1).bind fun ws S2 => .ok (w :: ws) S2
def dTup (as : List DE) : DE := fun ls S => (dArgs as ls S).bind fun ws S1 => if ws.length ≤ sizeLine then .ok (.tup ws) S1 else .bad
def dLst (as : List DE) : DE := fun ls S => (dArgs as ls S).bind fun ws S1 => if ws.length ≤ sizeLine then .ok (.loc S1.length) (S1 ++ [.lst ws]) else .bad
def dOp (g : W → W → Store → Res W) (a b : DE) : DE := fun ls S => (a ls S).bind fun x S1 => (b ls S1).bind fun y S2 => g x y S2
def dUn (g : W → Store → Res W) (a : DE) : DE := fun ls S => (a ls S).bind fun x S1 => g x S1
/-- a call of a function of values -/
def dCall (f : DF) (as : List DE) : DE := fun ls S => (dArgs as ls S).bind fun ws S1 => f ws S1
def gTruth (w : W) (S : Store) : Res Bool :=
  match w with
  | .non => .ok false S
  | .bl b => .ok b S
  | .int i => .ok (i != 0) S
  | .str x => if x.length ≤ sizeLine then .ok ((x.length : Int) != 0) S else .bad
  | .tup ws => .ok (!ws.isEmpty) S
  | .rol ws => .ok (!ws.isEmpty) S
  | .loc n => match S[n]? with
    | some (.lst ws) => .ok (!ws.isEmpty) S
    | _ => .bad
  | _ => .bad
/-- an expression as a test -/
def dT (a : DE) : DT := fun ls S => (a ls S).bind gTruth
/-- one that gives True or False -/
def dTB (a : DE) : DT := fun ls S => (a ls S).bind fun w S1 => match w with
  | .bl b => .ok b S1
  | _ => .bad
def dNotT (a : DT) : DT := fun ls S => (a ls S).bind fun b S1 => .ok (!b) S1
def dAndT (a b : DT) : DT := fun ls S => (a ls S).bind fun c S1 => if c = true then b ls S1 else .ok false S1
def dOrT (a b : DT) : DT := fun ls S => (a ls S).bind fun c S1 => if c = true then .ok true S1 else b ls S1
/-- and, or, not as values -/
def dAnd (a b : DE) : DE := fun ls S => (a ls S).bind fun x S1 => (gTruth x S1).bind fun c S2 => if c = true then b ls S2 else .ok x S2
def dOr (a b : DE) : DE := fun ls S => (a ls S).bind fun x S1 => (gTruth x S1).bind fun c S2 => if c = true then .ok x S2 else b ls S2
def dNot (a : DE) : DE := fun ls S => (a ls S).bind fun x S1 => (gTruth x S1).bind fun c S2 => .ok (.bl (!c)) S2
def dIfE (c : DT) (a b : DE) : DE := fun ls S => (c ls S).bind fun k S1 => if k = true then a ls S1 else b ls S1
/-- a < b < c -/
def dChain (g g' : W → W → Store → Res W) (a b c : DE) : DE := fun ls S => (a ls S).bind fun x S1 => (b ls S1).bind fun y S2 => (g x y S2).bind fun k S3 => match k with
  | .bl true => (c ls S3).bind fun z S4 => g' y z S4
  | .bl false => .ok (.bl false) S3
  | _ => .bad
def rsOf (ls : Lo) (r : Res W) (k : W → Store → RS) : RS := match r with
  | .ok w S => k w S
  | .exc e S => .ex e ls S
  | .bad => .bad
def rsOfB (ls : Lo) (r : Res Bool) (k : Bool → Store → RS) : RS := match r with
  | .ok w S => k w S
  | .exc e S => .ex e ls S
  | .bad => .bad
def dNx : DS := fun ls S => .nx ls S
def dSeq (a b : DS) : DS := fun ls S => match a ls S with
  | .nx ls1 S1 => b ls1 S1
  | r => r
def dIf (c : DT) (a b : DS) : DS := fun ls S => rsOfB ls (c ls S) fun k S1 => if k = true then a ls S1 else b ls S1
def dSet (i : Nat) (a : DE) : DS := fun ls S => rsOf ls (a ls S) fun w S1 => .nx (ls.set i (some w)) S1
def dExpr (a : DE) : DS := fun ls S => rsOf ls (a ls S) fun _ S1 => .nx ls S1
def dRet (a : DE) : DS := fun ls S => rsOf ls (a ls S) fun w S1 => .rt w S1
def dRetN : DS := fun ls S => .rt .non S
def dBk : DS := fun ls S => .bk ls S
def dCt : DS := fun ls S => .ct ls S
/-- a def by its body -/
def mkF (N : Nat) (np : Nat) (m : DS) : DF := fun ws S => if ws.length = np then (match m (startW N ws) S with
  | .nx _ S' => .ok .non S'
  | .rt w S' => .ok w S'
  | .ex e _ S' => .exc e S'
  | _ => .bad) else .bad
/-! ### rules: names, constants, arguments -/
section
variable {X : Cx} {Wx : WE} {a b c e : Expr} {es : List Expr} {ma mb mc : DE} {pos : Pos}
theorem se_var (i : Nat) {x : Str} (hN : X.N[i]? = some x := by rfl) (hv : Vis X.env.scope x := by first | exact Or.inl rfl | exact Or.inr (Or.inl rfl) | exact Or.inr (Or.inr rfl)) (hd : (x == ("__debug__" : Str)) = false := by decide)
    (hcd : (x == ("__classdict__" : Str)) = false := by decide) : SE X Wx (.Name x pos) (dVar i) :=
  ⟨_, pe_var hN hv hd hcd, fun σ H μ ls S Q hL hS h => by
    unfold dVar at h
    split at h
    · rename_i w e
      obtain ⟨v, h1, h2⟩ := hL.at_ i w e
      exact ⟨v, h1, h v H μ (Gr.refl _ _) hS h2⟩
    · exact False.elim h⟩
theorem se_c {w : W} {v : V} (p : PE X e (tC v)) (r : ∀ μ H, Vr X.K μ H v w) : SE X Wx e (dC w) :=
  ⟨_, p, fun σ H μ ls S Q hL hS h => h v H μ (Gr.refl _ _) hS (r μ H)⟩
theorem se_int {i j} : SE X Wx (.Constant (.int i) j pos) (dC (.int i)) := se_c pe_int fun _ _ => .int i
theorem se_bl {i j} : SE X Wx (.Constant (.bool i) j pos) (dC (.bl i)) := se_c pe_bl fun _ _ => .bl i
theorem se_non {j} : SE X Wx (.Constant .none j pos) (dC .non) := se_c pe_non fun _ _ => .non
theorem se_str {i j} : SE X Wx (.Constant (.str i) j pos) (dC (.str i)) := se_c pe_str fun _ _ => .str i
theorem sa_nil : SA X Wx [] (dArgs []) := ⟨_, pa_nil, fun σ H μ ls S Q hL hS h => h [] H μ (Gr.refl _ _) hS .nil⟩
theorem sa_cons {as : List DE} (ha : SE X Wx e ma) (hr : SA X Wx es (dArgs as)) (hs : starEach (e :: es) X.env = (false, eval e X.env) :: starEach es X.env := by rfl) : SA X Wx (e :: es) (dArgs (ma :: as)) := by
  obtain ⟨t, p, q⟩ := ha.ex
  obtain ⟨t', p', q'⟩ := hr.ex
  refine ⟨_, pa_cons p p' hs, fun σ H μ ls S Q hL hS h => ?_⟩
  refine q σ H μ ls S _ hL hS (Bd.bind (fun w S1 v H1 μ1 g1 s1 r1 h1 => ?_) h)
  refine q' σ H1 μ1 ls S1 _ (hL.mono g1) s1 (Bd.bind (fun ws S2 vs H2 μ2 g2 s2 r2 h2 => ?_) h1)
  exact h2 (v :: vs) H2 μ2 (Gr.refl _ _) s2 (.cons (r1.mono g2) r2)
theorem se_tup {as : List DE} {x1} (ha : SA X Wx es (dArgs as)) : SE X Wx (.Tuple es x1 pos) (dTup as) := by
  obtain ⟨t, p, q⟩ := ha.ex
  refine ⟨_, Tx.pe_tupD p, fun σ H μ ls S Q hL hS h => ?_⟩
  refine q σ H μ ls S _ hL hS (Bd.bind (fun ws S1 vs H1 μ1 g1 s1 r1 h1 => ?_) h)
  by_cases hl : ws.length ≤ sizeLine
  · rw [if_pos hl] at h1
    refine ⟨by rw [r1.length]; exact hl, fun p o hp ho => ?_⟩
    exact h1 (.ref p) _ μ1 (gr_new hp) (s1.new hp) (.tup (.of upd_same ho) (r1.mono (gr_new hp)))
  · rw [if_neg hl] at h1
    exact False.elim h1
theorem se_lst {as : List DE} (ha : SA X Wx es (dArgs as)) : SE X Wx (.List es pos) (dLst as) := by
  obtain ⟨t, p, q⟩ := ha.ex
  refine ⟨_, pe_lst p, fun σ H μ ls S Q hL hS h => ?_⟩
  refine q σ H μ ls S _ hL hS (Bd.bind (fun ws S1 vs H1 μ1 g1 s1 r1 h1 => ?_) h)
  by_cases hl : ws.length ≤ sizeLine
  · rw [if_pos hl] at h1
    refine ⟨by rw [r1.length]; exact hl, fun p hp => ?_⟩
    exact h1 (.ref p) _ _ (gr_cell s1 hp) (s1.alloc hp ⟨_, upd_same, r1.mono (gr_cell s1 hp)⟩) (.loc muAdd_same)
  · rw [if_neg hl] at h1
    exact False.elim h1
/-! ### operators by values -/
/-- what a two-place operation on values is worth -/
structure SO (X : Cx) (f : Value → Value → Sem Value) (g : W → W → Store → Res W) : Prop where
  ex : ∃ r, OpR X f r ∧ ∀ (E : XK) x y H μ S wx wy Q, Sim X.K μ S H → Vr X.K μ H x wx → Vr X.K μ H y wy → Bd X.K X.mg (RlV X.K) E μ H (g wx wy S) Q → r x y H Q
theorem SO.or {f : Value → Value → Sem Value} {g1 g2 g : W → W → Store → Res W} (h1 : SO X f g1) (h2 : SO X f g2) (h : ∀ wx wy S, (g wx wy S = g1 wx wy S) ∨ g wx wy S = g2 wx wy S) : SO X f g := by
  obtain ⟨r1, o1, q1⟩ := h1.ex
  obtain ⟨r2, o2, q2⟩ := h2.ex
  refine ⟨fun x y H Q => r1 x y H Q ∨ r2 x y H Q, fun pins s σ H x y v u Q I rx ry hr => ?_, fun E x y H μ S wx wy Q hS rx ry hb => ?_⟩
  · rcases hr with hr | hr
    · exact o1 pins s σ H x y v u Q I rx ry hr
    · exact o2 pins s σ H x y v u Q I rx ry hr
  · rcases h wx wy S with e | e <;> rw [e] at hb
    · exact .inl (q1 E x y H μ S wx wy Q hS rx ry hb)
    · exact .inr (q2 E x y H μ S wx wy Q hS rx ry hb)
theorem se_opG {f : Value → Value → Sem Value} {g : W → W → Store → Res W} (ho : SO X f g) (ha : SE X Wx a ma) (hb : SE X Wx b mb)
    (mk : ∀ {r : R2} {ta tb : TE}, OpR X f r → PE X a ta → PE X b tb → PE X e (tOp r ta tb)) : SE X Wx e (dOp g ma mb) := by
  obtain ⟨r, o, q⟩ := ho.ex
  obtain ⟨t1, p1, q1⟩ := ha.ex
  obtain ⟨t2, p2, q2⟩ := hb.ex
  refine ⟨_, mk o p1 p2, fun σ H μ ls S Q hL hS h => ?_⟩
  refine q1 σ H μ ls S _ hL hS (Bd.bind (fun w1 S1 v1 H1 μ1 g1 s1 r1 h1 => ?_) h)
  refine q2 σ H1 μ1 ls S1 _ (hL.mono g1) s1 (Bd.bind (fun w2 S2 v2 H2 μ2 g2 s2 r2 h2 => ?_) h1)
  exact q _ v1 v2 H2 μ2 S2 w1 w2 Q s2 (r1.mono g2) r2 h2
theorem se_op {op : Operator} {g : W → W → Store → Res W} (ho : SO X (binaryOp op) g) (ha : SE X Wx a ma) (hb : SE X Wx b mb) : SE X Wx (.BinOp a op b pos) (dOp g ma mb) :=
  se_opG ho ha hb fun o p q => pe_op o p q
theorem se_cmp {op : CmpOp} {g : W → W → Store → Res W} (ho : SO X (compareOp op) g) (ha : SE X Wx a ma) (hb : SE X Wx b mb) (hm : behindInMarks op b = false := by first | exact nomark _ | rfl) : SE X Wx (.Compare a [op] [b] pos) (dOp g ma mb) :=
  se_opG ho ha hb fun o p q => pe_cmpR o p q hm
/-- a comparison as a test -/
theorem st_cmp {op : CmpOp} {g : W → W → Store → Res W} (ho : SO X (compareOp op) g) (ha : SE X Wx a ma) (hb : SE X Wx b mb) (hm : behindInMarks op b = false := by first | exact nomark _ | rfl) : ST X Wx (.Compare a [op] [b] pos) (dTB (dOp g ma mb)) := by
  obtain ⟨r, o, q⟩ := ho.ex
  obtain ⟨t1, p1, q1⟩ := ha.ex
  obtain ⟨t2, p2, q2⟩ := hb.ex
  refine ⟨_, pt_cmpR o p1 p2 hm, fun σ H μ ls S Q hL hS h => ?_⟩
  have h' : BdB X Wx σ μ H ((ma ls S).bind fun x S1 => (mb ls S1).bind fun y S2 => (g x y S2).bind fun w S3 => match w with
    | .bl b => .ok b S3
    | _ => .bad) Q := by
    unfold dTB dOp at h
    cases e1 : ma ls S with
    | ok x S1 =>
      rw [e1] at h
      simp only [Res.bind] at h ⊢
      cases e2 : mb ls S1 with
      | ok y S2 =>
        rw [e2] at h
        exact h
      | exc e S => rw [e2] at h; exact h
      | bad => rw [e2] at h; exact h
    | exc e S => rw [e1] at h; exact h
    | bad => rw [e1] at h; exact h
  refine q1 σ H μ ls S _ hL hS (Bd.bind (fun w1 S1 v1 H1 μ1 g1 s1 r1 h1 => ?_) h')
  refine q2 σ H1 μ1 ls S1 _ (hL.mono g1) s1 (Bd.bind (fun w2 S2 v2 H2 μ2 g2 s2 r2 h2 => ?_) h1)
  refine q _ v1 v2 H2 μ2 S2 w1 w2 _ s2 (r1.mono g2) r2 (Bd.bind (fun w3 S3 v3 H3 μ3 g3 s3 r3 h3 => ?_) h2)
  cases r3 with
  | bl k => exact ⟨k, rfl, h3 k H3 μ3 (Gr.refl _ _) s3 rfl⟩
  | _ => exact False.elim h3
end
end Fs
set_option maxHeartbeats 4000000
namespace Fs
open PySem L2
variable [Tb : Tabs]
/-! ### sequences -/
def lstW (S : Store) : W → Option (List W)
  | .rol ws => some ws
  | .loc n => match S[n]? with
    | some (.lst ws) => some ws
    | _ => none
  | _ => none
def seqW (S : Store) : W → Option (List W)
  | .tup ws => some ws
  | w => lstW S w
section
variable {K : PySem.W.Frag} {μ : Mu} {H : Hp} {S : Store}
theorem Sim.cellL (s : Sim K μ S H) {n : Nat} {ws : List W} {v : V} (h : S[n]? = some (.lst ws)) (r : Vr K μ H v (.loc n)) : ∃ a xs, v = .ref a ∧ μ n = some a ∧ H a = some (.lst xs) ∧ VrA K μ H xs ws := by
  cases r with
  | loc h1 =>
    obtain ⟨a, h2, xs, h3, h4⟩ := s.cell n _ h
    rw [h1] at h2
    cases h2
    exact ⟨_, xs, rfl, h1, h3, h4⟩
theorem lst_of (s : Sim K μ S H) {w : W} {ws : List W} {v : V} (h : lstW S w = some ws) (r : Vr K μ H v w) : ∃ a xs, v = .ref a ∧ SqL K H a xs ∧ VrA K μ H xs ws := by
  cases r with
  | rol h1 h2 =>
    cases h
    exact ⟨_, _, rfl, h1.seq, h2⟩
  | @loc n a h1 =>
    have h' : (match S[n]? with
      | some (.lst ws) => some ws
      | _ => none) = some ws := h
    split at h'
    · rename_i ws' e
      cases h'
      obtain ⟨a', xs, e1, _, e2, e3⟩ := s.cellL e (.loc h1)
      exact ⟨a', xs, e1, .of e2, e3⟩
    · cases h'
  | _ => exact absurd (show (none : Option (List W)) = some ws from h) (by simp)
theorem seq_of (s : Sim K μ S H) {w : W} {ws : List W} {v : V} (h : seqW S w = some ws) (r : Vr K μ H v w) : ∃ a xs, v = .ref a ∧ (SqL K H a xs ∨ SqT K H a xs) ∧ VrA K μ H xs ws := by
  cases r with
  | tup h1 h2 =>
    cases h
    exact ⟨_, _, rfl, .inr h1.t, h2⟩
  | rol h1 h2 =>
    obtain ⟨a, xs, e, q, r⟩ := lst_of s (w := .rol _) h (.rol h1 h2)
    exact ⟨a, xs, e, .inl q, r⟩
  | loc h1 =>
    obtain ⟨a, xs, e, q, r⟩ := lst_of s (w := .loc _) h (.loc h1)
    exact ⟨a, xs, e, .inl q, r⟩
  | _ => exact absurd (show (none : Option (List W)) = some ws from h) (by simp)
omit Tb in
theorem VrA.atI {ws : List W} {xs : List V} (h : VrA K μ H xs ws) {i : Int} {w : W} (e : L2.atI ws i = some w) : ∃ v, L2.atI xs i = some v ∧ Vr K μ H v w := by
  unfold L2.atI at e ⊢
  rw [h.length]
  cases q : ixN ws.length i with
  | none => simp [q] at e
  | some j =>
    rw [q] at e
    exact h.get e
end
/-! ### arithmetic -/
def gAdd (x y : W) (S : Store) : Res W := match x, y with
  | .int i, .int j => .ok (.int (i + j)) S
  | .str a, .str b => if a.length + b.length ≤ sizeLine then .ok (.str (a ++ b)) S else .bad
  | .tup a, .tup b => if a.length + b.length ≤ sizeLine then .ok (.tup (a ++ b)) S else .bad
  | .loc n, .loc m => match S[n]?, S[m]? with
    | some (.lst a), some (.lst b) => if a.length + b.length ≤ sizeLine then .ok (.loc S.length) (S ++ [.lst (a ++ b)]) else .bad
    | _, _ => .bad
  | _, _ => .bad
def gSub (x y : W) (S : Store) : Res W := match x, y with
  | .int i, .int j => .ok (.int (i - j)) S
  | _, _ => .bad
def gMul (x y : W) (S : Store) : Res W := match x, y with
  | .int i, .int j => if (-(2 ^ 64) < i ∧ i < 2 ^ 64) ∨ (-(2 ^ 64) < j ∧ j < 2 ^ 64) then .ok (.int (i * j)) S else if i.natAbs.log2 + j.natAbs.log2 < 1000000 then .ok (.int (i * j)) S else .bad
  | _, _ => .bad
def gDiv (x y : W) (S : Store) : Res W := match x, y with
  | .int i, .int j => if 0 < j ∧ j.natAbs.log2 < 9000 then .ok (.int (i / j)) S else .bad
  | _, _ => .bad
def gMod (x y : W) (S : Store) : Res W := match x, y with
  | .int i, .int j => if 0 < j then .ok (.int (i % j)) S else .bad
  | _, _ => .bad
def gPow (x y : W) (S : Store) : Res W := match x, y with
  | .int i, .int j => if 0 ≤ j ∧ j ≤ 1000000 ∧ i.natAbs < 2 ^ 64 then .ok (.int (i ^ j.toNat)) S else .bad
  | _, _ => .bad
section
variable {X : Cx}
theorem SO.ii {f : Value → Value → Sem Value} {C : Int → Int → Prop} {g : Int → Int → W} {g' : Int → Int → V} {G : W → W → Store → Res W} (o : OpR X f (rI C g')) (hg : ∀ i j μ H, Vr X.K μ H (g' i j) (g i j))
    (h : ∀ x y S, (∃ i j, x = .int i ∧ y = .int j ∧ C i j ∧ G x y S = .ok (g i j) S) ∨ G x y S = .bad) : SO X f G := by
  refine ⟨_, o, fun E x y H μ S wx wy Q hS rx ry hb => ?_⟩
  rcases h wx wy S with ⟨i, j, rfl, rfl, c, e⟩ | e <;> rw [e] at hb
  · cases rx
    cases ry
    exact ⟨i, j, rfl, rfl, c, hb _ H μ (Gr.refl _ _) hS (hg i j μ H)⟩
  · exact False.elim hb
omit Tb in
theorem rI0_of {f : Value → Value → Sem Value} {g' : Int → Int → V} (o : OpR X f (rI0 g')) : OpR X f (rI (fun _ _ => True) g') := by
  intro pins s σ H x y v u Q I rx ry h
  obtain ⟨i, j, e1, e2, _, q⟩ := h
  exact o pins s σ H x y v u Q I rx ry ⟨i, j, e1, e2, q⟩
def gAddI (x y : W) (S : Store) : Res W := match x, y with
  | .int i, .int j => .ok (.int (i + j)) S
  | _, _ => .bad
def gAddS (x y : W) (S : Store) : Res W := match x, y with
  | .str a, .str b => if a.length + b.length ≤ sizeLine then .ok (.str (a ++ b)) S else .bad
  | _, _ => .bad
def gAddT (x y : W) (S : Store) : Res W := match x, y with
  | .tup a, .tup b => if a.length + b.length ≤ sizeLine then .ok (.tup (a ++ b)) S else .bad
  | _, _ => .bad
def gAddL (x y : W) (S : Store) : Res W := match x, y with
  | .loc n, .loc m => match S[n]?, S[m]? with
    | some (.lst a), some (.lst b) => if a.length + b.length ≤ sizeLine then .ok (.loc S.length) (S ++ [.lst (a ++ b)]) else .bad
    | _, _ => .bad
  | _, _ => .bad
theorem so_addI : SO X (binaryOp .Add) gAddI := SO.ii (g := fun i j => .int (i + j)) (rI0_of op_add) (fun _ _ _ _ => .int _) fun x y S => by
  unfold gAddI
  split
  · exact .inl ⟨_, _, rfl, rfl, trivial, rfl⟩
  · exact .inr rfl
theorem so_addS : SO X (binaryOp .Add) gAddS := ⟨_, op_add_str, fun E x y H μ S wx wy Q hS rx ry hb => by
  unfold gAddS at hb
  split at hb
  · cases rx
    cases ry
    split at hb
    · rename_i h
      exact ⟨_, _, rfl, rfl, h, hb _ H μ (Gr.refl _ _) hS (.str _)⟩
    · exact False.elim hb
  · exact False.elim hb⟩
theorem so_addT : SO X (binaryOp .Add) gAddT := ⟨_, Tx.op_catD, fun E x y H μ S wx wy Q hS rx ry hb => by
  unfold gAddT at hb
  split at hb
  · rename_i a b
    cases rx with
    | @tup p xs _ h1 h2 =>
    cases ry with
    | @tup q ys _ h3 h4 =>
    split at hb
    · rename_i h
      refine ⟨_, _, _, _, rfl, rfl, h1.t, h3.t, by rw [h2.length, h4.length]; exact h, fun e => ?_, fun _ e => ?_, fun _ _ p o hp ho => ?_⟩
      · subst e
        cases h2
        exact hb _ H μ (Gr.refl _ _) hS (.tup h3 (by simpa using h4))
      · subst e
        cases h4
        exact hb _ H μ (Gr.refl _ _) hS (.tup h1 (by simpa using h2))
      · exact hb (.ref p) _ μ (gr_new hp) (hS.new hp) (.tup (.of upd_same ho) ((h2.append h4).mono (gr_new hp)))
    · exact False.elim hb
  · exact False.elim hb⟩
theorem so_addL : SO X (binaryOp .Add) gAddL := ⟨_, op_cat, fun E x y H μ S wx wy Q hS rx ry hb => by
  unfold gAddL at hb
  split at hb
  · rename_i n m
    split at hb
    · rename_i a b e1 e2
      split at hb
      · rename_i h
        obtain ⟨p, xs, rfl, _, h1, h2⟩ := hS.cellL e1 rx
        obtain ⟨q, ys, rfl, _, h3, h4⟩ := hS.cellL e2 ry
        refine ⟨_, _, _, _, rfl, rfl, h1, h3, by rw [h2.length, h4.length]; exact h, fun p hp => ?_⟩
        exact hb (.ref p) _ _ (gr_cell hS hp) (hS.alloc hp ⟨_, upd_same, (h2.append h4).mono (gr_cell hS hp)⟩) (.loc muAdd_same)
      · exact False.elim hb
    · exact False.elim hb
  · exact False.elim hb⟩
theorem so_add : SO X (binaryOp .Add) gAdd :=
  SO.or (SO.or so_addI so_addS (g := fun x y S => match x, y with | .int i, .int j => .ok (.int (i + j)) S | x, y => gAddS x y S) fun x y S => by
      cases x <;> cases y <;> first | exact .inl rfl | exact .inr rfl)
    (SO.or so_addT so_addL (g := fun x y S => match x, y with | .tup a, .tup b => gAddT (.tup a) (.tup b) S | x, y => gAddL x y S) fun x y S => by
      cases x <;> cases y <;> first | exact .inl rfl | exact .inr rfl) fun x y S => by
    cases x <;> cases y <;> first | exact .inl rfl | exact .inr rfl
theorem so_sub : SO X (binaryOp .Sub) gSub := SO.ii (g := fun i j => .int (i - j)) (rI0_of op_sub) (fun _ _ _ _ => .int _) fun x y S => by
  unfold gSub
  split
  · exact .inl ⟨_, _, rfl, rfl, trivial, rfl⟩
  · exact .inr rfl
theorem so_mul : SO X (binaryOp .Mult) gMul := by
  refine SO.or (g1 := fun x y S => match x, y with
    | .int i, .int j => if (-(2 ^ 64) < i ∧ i < 2 ^ 64) ∨ (-(2 ^ 64) < j ∧ j < 2 ^ 64) then .ok (.int (i * j)) S else .bad
    | _, _ => .bad) (g2 := fun x y S => match x, y with
    | .int i, .int j => if i.natAbs.log2 + j.natAbs.log2 < 1000000 then .ok (.int (i * j)) S else .bad
    | _, _ => .bad)
    (SO.ii (g := fun i j => .int (i * j)) op_mul (fun _ _ _ _ => .int _) fun x y S => ?_) (SO.ii (g := fun i j => .int (i * j)) op_mulW (fun _ _ _ _ => .int _) fun x y S => ?_) fun x y S => ?_
  · try dsimp only
    split
    · split
      · rename_i h
        exact .inl ⟨_, _, rfl, rfl, h, rfl⟩
      · exact .inr rfl
    · exact .inr rfl
  · try dsimp only
    split
    · split
      · rename_i h
        exact .inl ⟨_, _, rfl, rfl, h, rfl⟩
      · exact .inr rfl
    · exact .inr rfl
  · unfold gMul
    try dsimp only
    split
    · split
      · exact .inl rfl
      · exact .inr rfl
    · exact .inl rfl
theorem so_div : SO X (binaryOp .FloorDiv) gDiv := SO.ii (g := fun i j => .int (i / j)) op_fdivW (fun _ _ _ _ => .int _) fun x y S => by
  unfold gDiv
  split
  · split
    · rename_i h
      exact .inl ⟨_, _, rfl, rfl, h, rfl⟩
    · exact .inr rfl
  · exact .inr rfl
theorem so_mod : SO X (binaryOp .Mod) gMod := SO.ii (g := fun i j => .int (i % j)) op_mod (fun _ _ _ _ => .int _) fun x y S => by
  unfold gMod
  split
  · split
    · rename_i h
      exact .inl ⟨_, _, rfl, rfl, h, rfl⟩
    · exact .inr rfl
  · exact .inr rfl
theorem so_pow : SO X (binaryOp .Pow) gPow := SO.ii (g := fun i j => .int (i ^ j.toNat)) op_pow (fun _ _ _ _ => .int _) fun x y S => by
  unfold gPow
  split
  · split
    · rename_i h
      exact .inl ⟨_, _, rfl, rfl, h, rfl⟩
    · exact .inr rfl
  · exact .inr rfl
/-! ### comparisons of ints -/
def gCmp (p : Int → Int → Bool) (x y : W) (S : Store) : Res W := match x, y with
  | .int i, .int j => .ok (.bl (p i j)) S
  | _, _ => .bad
theorem so_cmp {f : Value → Value → Sem Value} {p : Int → Int → Bool} (o : OpR X f (rI0 fun i j => .bl (p i j))) : SO X f (gCmp p) := SO.ii (g := fun i j => .bl (p i j)) (rI0_of o) (fun _ _ _ _ => .bl _) fun x y S => by
  unfold gCmp
  split
  · exact .inl ⟨_, _, rfl, rfl, trivial, rfl⟩
  · exact .inr rfl
abbrev gLt := gCmp fun i j => decide (i < j)
abbrev gLe := gCmp fun i j => decide (i ≤ j)
abbrev gGt := gCmp fun i j => decide (j < i)
abbrev gGe := gCmp fun i j => decide (j ≤ i)
theorem so_lt : SO X (compareOp .Lt) gLt := so_cmp op_lt
theorem so_le : SO X (compareOp .LtE) gLe := so_cmp op_le
theorem so_gt : SO X (compareOp .Gt) gGt := so_cmp op_gt
theorem so_ge : SO X (compareOp .GtE) gGe := so_cmp op_ge
/-! ### is None -/
def gIsN (x y : W) (S : Store) : Res W := match y with
  | .non => .ok (.bl (match x with | .non => true | _ => false)) S
  | _ => .bad
def gNotN (x y : W) (S : Store) : Res W := match y with
  | .non => .ok (.bl (match x with | .non => false | _ => true)) S
  | _ => .bad
theorem so_isN : SO X (compareOp .Is) gIsN := ⟨_, op_isN, fun E x y H μ S wx wy Q hS rx ry hb => by
  unfold gIsN at hb
  split at hb
  · cases ry
    refine ⟨rfl, ?_⟩
    refine hb _ H μ (Gr.refl _ _) hS ?_
    cases rx <;> first | exact .bl true | exact .bl false
  · exact False.elim hb⟩
theorem so_notN : SO X (compareOp .IsNot) gNotN := ⟨_, op_notN, fun E x y H μ S wx wy Q hS rx ry hb => by
  unfold gNotN at hb
  split at hb
  · cases ry
    refine ⟨rfl, ?_⟩
    refine hb _ H μ (Gr.refl _ _) hS ?_
    cases rx <;> first | exact .bl true | exact .bl false
  · exact False.elim hb⟩
end
/-! ### data: equality, in -/
mutual
/-- without lists -/
def toD0 : W → PyData
  | .non => .none
  | .bl b => .bool b
  | .int i => .int i
  | .str x => .str x
  | .tup ws => .tuple (toDA0 ws)
  | _ => .dict []
def toDA0 : List W → List PyData
  | [] => []
  | w :: ws => toD0 w :: toDA0 ws
end
mutual
/-- lists (of data without lists) anywhere -/
def toD (S : Store) : W → PyData
  | .non => .none
  | .bl b => .bool b
  | .int i => .int i
  | .str x => .str x
  | .tup ws => .tuple (toDA S ws)
  | .rol ws => .list (toDA S ws)
  | .loc n => match S[n]? with
    | some (.lst ws) => .list (toDA0 ws)
    | _ => .dict []
  | _ => .dict []
def toDA (S : Store) : List W → List PyData
  | [] => []
  | w :: ws => toD S w :: toDA S ws
end
section
variable {K : PySem.W.Frag} {μ : Mu} {H : Hp} {S : Store}
mutual
theorem dp0_of : ∀ {w : W} {v : V}, Vr K μ H v w → (toD0 w).canLay0 = true → Dp K H v (toD0 w)
  | .non, _, h, _ => by cases h; unfold toD0; exact .non
  | .bl b, _, h, _ => by cases h; unfold toD0; exact .bl b
  | .int b, _, h, _ => by cases h; unfold toD0; exact .int b
  | .str b, _, h, _ => by cases h; unfold toD0; exact .str b
  | .tup ws, _, h, c => by
    cases h with
    | tup h1 h2 =>
      unfold toD0 at c ⊢
      unfold PyData.canLay0 at c
      exact .tup h1.t (dpA0_of h2 c)
  | .rol ws, _, h, c => by unfold toD0 at c; cases c
  | .loc n, _, h, c => by unfold toD0 at c; cases c
  | .ty n, _, h, c => by unfold toD0 at c; cases c
  | .adr n, _, h, c => by unfold toD0 at c; cases c
theorem dpA0_of : ∀ {ws : List W} {vs : List V}, VrA K μ H vs ws → PyData.canLayAll0 (toDA0 ws) = true → DpAll K H vs (toDA0 ws)
  | [], _, h, _ => by cases h; unfold toDA0; exact .nil
  | w :: ws, _, h, c => by
    cases h with
    | cons h1 h2 =>
      unfold toDA0 at c ⊢
      unfold PyData.canLayAll0 at c
      rw [Bool.and_eq_true] at c
      exact .cons (dp0_of h1 c.1) (dpA0_of h2 c.2)
end
mutual
theorem dp_of (s : Sim K μ S H) : ∀ {w : W} {v : V}, Vr K μ H v w → (toD S w).canLay0 = true → Dp K H v (toD S w)
  | .non, _, h, _ => by cases h; unfold toD; exact .non
  | .bl b, _, h, _ => by cases h; unfold toD; exact .bl b
  | .int b, _, h, _ => by cases h; unfold toD; exact .int b
  | .str b, _, h, _ => by cases h; unfold toD; exact .str b
  | .tup ws, _, h, c => by
    cases h with
    | tup h1 h2 =>
      unfold toD at c ⊢
      unfold PyData.canLay0 at c
      exact .tup h1.t (dpA_of s h2 c)
  | .rol ws, _, h, c => by
    cases h with
    | rol h1 h2 =>
      unfold toD at c ⊢
      unfold PyData.canLay0 at c
      exact .lst h1.seq (dpA_of s h2 c)
  | .loc n, _, h, c => by
    unfold toD at c ⊢
    split at c
    · rename_i ws e
      obtain ⟨a, xs, rfl, _, h1, h2⟩ := s.cellL e h
      unfold PyData.canLay0 at c
      exact .lst (.of h1) (dpA0_of h2 c)
    · cases c
  | .ty n, _, h, c => by unfold toD at c; cases c
  | .adr n, _, h, c => by unfold toD at c; cases c
theorem dpA_of (s : Sim K μ S H) : ∀ {ws : List W} {vs : List V}, VrA K μ H vs ws → PyData.canLayAll0 (toDA S ws) = true → DpAll K H vs (toDA S ws)
  | [], _, h, _ => by cases h; unfold toDA; exact .nil
  | w :: ws, _, h, c => by
    cases h with
    | cons h1 h2 =>
      unfold toDA at c ⊢
      unfold PyData.canLayAll0 at c
      rw [Bool.and_eq_true] at c
      exact .cons (dp_of s h1 c.1) (dpA_of s h2 c.2)
end
end
omit Tb in
theorem shaped_lay {d : PyData} (h : SeqAt.shaped d = true) : d.canLay0 = true := by
  unfold SeqAt.shaped at h
  rw [Bool.and_eq_true] at h
  exact h.1
def flatW : W → Bool
  | .non => true
  | .bl _ => true
  | .int _ => true
  | .str _ => true
  | _ => false
/-- == of flat values -/
def eqFl : W → W → Bool
  | .non, .non => true
  | .bl a, .bl b => a == b
  | .bl a, .int j => (if a then 1 else 0) == j
  | .int i, .bl b => i == (if b then 1 else 0)
  | .int i, .int j => i == j
  | .str x, .str y => x == y
  | _, _ => false
def gEqB (neg : Bool) (x y : W) (S : Store) : Res W := match x, y with
  | .int i, .int j => .ok (.bl (neg != decide (i = j))) S
  | .str i, .str j => .ok (.bl (neg != decide (i = j))) S
  | .bl i, .bl j => .ok (.bl (neg != decide (i = j))) S
  | x, y => if SeqAt.shaped (toD S x) = true ∧ SeqAt.shaped (toD S y) = true then .ok (.bl (neg != PyData.eqv (toD S x) (toD S y))) S else .bad
abbrev gEq := gEqB false
abbrev gNe := gEqB true
section
variable {X : Cx}
theorem so_eqv {neg : Bool} {op : CmpOp} (h1 : OpR X (compareOp op) (fun x y H Q => scal x y = true ∧ Q (.bl (neg != decide (x = y))) H))
    (h2 : OpR X (compareOp op) fun x y H Q => ∃ d e, Dp X.K H x d ∧ Dp X.K H y e ∧ SeqAt.shaped d = true ∧ SeqAt.shaped e = true ∧ Q (.bl (neg != PyData.eqv d e)) H) : SO X (compareOp op) (gEqB neg) := by
  refine SO.or (g1 := fun x y S => match x, y with
    | .int i, .int j => .ok (.bl (neg != decide (i = j))) S
    | .str i, .str j => .ok (.bl (neg != decide (i = j))) S
    | .bl i, .bl j => .ok (.bl (neg != decide (i = j))) S
    | _, _ => .bad) (g2 := fun x y S => if SeqAt.shaped (toD S x) = true ∧ SeqAt.shaped (toD S y) = true then .ok (.bl (neg != PyData.eqv (toD S x) (toD S y))) S else .bad) ⟨_, h1, ?_⟩ ⟨_, h2, ?_⟩ fun x y S => by
    cases x <;> cases y <;> first | exact .inr rfl | exact .inl rfl
  · intro E x y H μ S wx wy Q hS rx ry hb
    try dsimp only at hb
    split at hb
    · cases rx
      cases ry
      refine ⟨rfl, ?_⟩
      rw [decide_eq_decide.mpr (show (V.int _ = V.int _) ↔ _ from ⟨fun e => V.int.inj e, fun e => by rw [e]⟩)]
      exact hb _ H μ (Gr.refl _ _) hS (.bl _)
    · cases rx
      cases ry
      refine ⟨rfl, ?_⟩
      rw [decide_eq_decide.mpr (show (V.str _ = V.str _) ↔ _ from ⟨fun e => V.str.inj e, fun e => by rw [e]⟩)]
      exact hb _ H μ (Gr.refl _ _) hS (.bl _)
    · cases rx
      cases ry
      refine ⟨rfl, ?_⟩
      rw [decide_eq_decide.mpr (show (V.bl _ = V.bl _) ↔ _ from ⟨fun e => V.bl.inj e, fun e => by rw [e]⟩)]
      exact hb _ H μ (Gr.refl _ _) hS (.bl _)
    · exact False.elim hb
  · intro E x y H μ S wx wy Q hS rx ry hb
    try dsimp only at hb
    split at hb
    · rename_i c
      exact ⟨_, _, dp_of hS rx (shaped_lay c.1), dp_of hS ry (shaped_lay c.2), c.1, c.2, hb _ H μ (Gr.refl _ _) hS (.bl _)⟩
    · exact False.elim hb
omit Tb in
theorem false_bne (b : Bool) : (false != b) = b := by cases b <;> rfl
omit Tb in
theorem true_bne (b : Bool) : (true != b) = !b := by cases b <;> rfl
theorem so_eq (hu : X.A.units + 64 < cLine) : SO X (compareOp .Eq) gEq :=
  so_eqv (fun pins s σ H x y v u Q I rx ry h => op_eq pins s σ H x y v u Q I rx ry (by simp only [false_bne] at h; exact h)) (fun pins s σ H x y v u Q I rx ry h => op_eqD hu pins s σ H x y v u Q I rx ry (by simp only [false_bne] at h; exact h))
theorem so_ne (hu : X.A.units + 64 < cLine) : SO X (compareOp .NotEq) gNe :=
  so_eqv (fun pins s σ H x y v u Q I rx ry h => op_ne pins s σ H x y v u Q I rx ry (by simp only [true_bne] at h; exact h)) (fun pins s σ H x y v u Q I rx ry h => op_neD hu pins s σ H x y v u Q I rx ry (by simp only [true_bne] at h; exact h))
end
end Fs
set_option maxHeartbeats 4000000
namespace Fs
open PySem L2
variable [Tb : Tabs]
/-! ### in, not in -/
def allFlat (ws : List W) : Bool := ws.all flatW
def inFl (x : W) (ws : List W) : Bool := ws.any fun y => eqFl y x
def inD (S : Store) (x : W) (ws : List W) : Bool := ws.any fun y => PyData.eqv (toD S y) (toD S x)
/-- nothing is left out -/
def notLoc : W → Bool := fun _ => true
def gInB (neg : Bool) (x y : W) (S : Store) : Res W := match seqW S y with
  | some ws => if flatW x = true ∧ allFlat ws = true then .ok (.bl (neg != inFl x ws)) S
    else if SeqAt.shaped (toD S x) = true ∧ SeqAt.shaped (.tuple (toDA S ws)) = true ∧ notLoc y = true then .ok (.bl (neg != inD S x ws)) S else .bad
  | none => .bad
abbrev gIn := gInB false
abbrev gNotIn := gInB true
section
variable {K : PySem.W.Frag} {μ : Mu} {H : Hp} {S : Store}
omit Tb in
theorem flat_v {w : W} {v : V} (r : Vr K μ H v w) (f : flatW w = true) : flatV v = true := by
  cases r <;> first | rfl | cases f
omit Tb in
theorem flat_vs : ∀ {ws : List W} {vs : List V}, VrA K μ H vs ws → allFlat ws = true → vs.all flatV = true
  | [], _, h, _ => by cases h; rfl
  | w :: ws, _, h, f => by
    cases h with
    | cons h1 h2 =>
      unfold allFlat at f
      simp only [List.all_cons, Bool.and_eq_true] at f ⊢
      exact ⟨flat_v h1 f.1, flat_vs h2 f.2⟩
omit Tb in
theorem eq_fl {w w' : W} {v v' : V} (r : Vr K μ H v w) (r' : Vr K μ H v' w') (f : flatW w = true) (f' : flatW w' = true) : eqV v v' = eqFl w w' := by
  cases r <;> first | (cases r' <;> first | rfl | (cases f'; done)) | (cases f; done)
omit Tb in
theorem in_fl {x : V} {wx : W} (r : Vr K μ H x wx) (f : flatW wx = true) : ∀ {ws : List W} {vs : List V}, VrA K μ H vs ws → allFlat ws = true → inV x vs = inFl wx ws
  | [], _, h, _ => by cases h; rfl
  | w :: ws, _, h, q => by
    cases h with
    | cons h1 h2 =>
      unfold allFlat at q
      rw [List.all_cons, Bool.and_eq_true] at q
      have ih := in_fl r f h2 q.2
      unfold inV inFl at ih ⊢
      rw [List.any_cons, List.any_cons, ih, eq_fl h1 r q.1 f]
omit Tb in
theorem any_toDA (S : Store) (d : PyData) : ∀ ws : List W, ((toDA S ws).any fun z => PyData.eqv z d) = ws.any fun y => PyData.eqv (toD S y) d
  | [] => by unfold toDA; rfl
  | w :: ws => by
    unfold toDA
    rw [List.any_cons, List.any_cons, any_toDA S d ws]
end
section
variable {X : Cx}
def rInT (K : PySem.W.Frag) (neg : Bool) : R2 := fun x y H Q => ∃ d ds, Dp K H x d ∧ Dp K H y (.tuple ds) ∧ SeqAt.shaped d = true ∧ SeqAt.shaped (.tuple ds) = true ∧ Q (.bl (neg != ds.any fun z => PyData.eqv z d)) H
omit Tb in
theorem shT {ds : List PyData} (h : SeqAt.shaped (.tuple ds) = true) : SeqAt.shaped (.list ds) = true := by
  unfold SeqAt.shaped at h ⊢
  unfold PyData.canLay0 PyData.depth at h ⊢
  exact h
omit Tb in
theorem op_inT (hu : X.A.units + 65 < cLine) : OpR X (compareOp .In) (rInT X.K false) := by
  rintro pins s σ H x y v u Q I rx ry ⟨d, ds, hd, he, sd, se, q⟩
  obtain ⟨⟨as, r1⟩, bs, r2⟩ := And.intro (Dp.reads I d x v hd rx) (Dp.reads I (.tuple ds) y u he ry)
  refine SeqAt.in_tuple_reads r2 r1 (SeqAt.canLay_of_shaped (shT se)) (SeqAt.canLay_of_shaped sd) (PyProof.Rows.room_in_shaped sd hu) ⟨.bl _, H, I, rfl, ?_⟩
  rw [false_bne] at q
  exact q
omit Tb in
theorem op_notInT (hu : X.A.units + 65 < cLine) : OpR X (compareOp .NotIn) (rInT X.K true) := by
  rintro pins s σ H x y v u Q I rx ry ⟨d, ds, hd, he, sd, se, q⟩
  obtain ⟨⟨as, r1⟩, bs, r2⟩ := And.intro (Dp.reads I d x v hd rx) (Dp.reads I (.tuple ds) y u he ry)
  refine SeqAt.notIn_tuple_reads r2 r1 (SeqAt.canLay_of_shaped (shT se)) (SeqAt.canLay_of_shaped sd) (PyProof.Rows.room_in_shaped sd hu) ⟨.bl _, H, I, rfl, ?_⟩
  rw [true_bne] at q
  exact q
theorem so_inB {neg : Bool} {op : CmpOp} (h1 : OpR X (compareOp op) (rIn X.K neg)) (h2 : OpR X (compareOp op) (rInT X.K neg)) (h3 : OpR X (compareOp op) (fun x y H Q => ∃ d ds, Dp X.K H x d ∧ Dp X.K H y (.list ds) ∧ SeqAt.shaped d = true ∧ SeqAt.shaped (.list ds) = true ∧ Q (.bl (neg != ds.any fun z => PyData.eqv z d)) H)) : SO X (compareOp op) (gInB neg) := by
  refine ⟨fun x y H Q => rIn X.K neg x y H Q ∨ rInT X.K neg x y H Q ∨ ∃ d ds, Dp X.K H x d ∧ Dp X.K H y (.list ds) ∧ SeqAt.shaped d = true ∧ SeqAt.shaped (.list ds) = true ∧ Q (.bl (neg != ds.any fun z => PyData.eqv z d)) H, fun pins s σ H x y v u Q I rx ry h => ?_, fun E x y H μ S wx wy Q hS rx ry hb => ?_⟩
  · rcases h with h | h | h
    · exact h1 pins s σ H x y v u Q I rx ry h
    · exact h2 pins s σ H x y v u Q I rx ry h
    · exact h3 pins s σ H x y v u Q I rx ry h
  · unfold gInB at hb
    split at hb
    · rename_i ws e
      split at hb
      · rename_i f
        obtain ⟨a, xs, rfl, hq, r⟩ := seq_of hS e ry
        refine .inl ⟨a, xs, rfl, hq, flat_v rx f.1, flat_vs r f.2, ?_⟩
        rw [in_fl rx f.1 r f.2]
        have := hb (.bl (neg != inFl wx ws)) H μ (Gr.refl _ _) hS (.bl _)
        cases neg with
        | true => rw [true_bne] at this; exact this
        | false => rw [false_bne] at this; exact this
      · split at hb
        · rename_i f
          have q := hb (.bl (neg != inD S wx ws)) H μ (Gr.refl _ _) hS (.bl _)
          have eD : inD S wx ws = (toDA S ws).any fun z => PyData.eqv z (toD S wx) := (any_toDA S _ ws).symm
          rw [eD] at q
          have c1 := shaped_lay f.2.1
          unfold PyData.canLay0 at c1
          cases ry with
          | tup a1 a2 =>
            cases e
            exact .inr (.inl ⟨_, _, dp_of hS rx (shaped_lay f.1), .tup a1.t (dpA_of hS a2 c1), f.1, f.2.1, q⟩)
          | rol a1 a2 =>
            cases e
            exact .inr (.inr ⟨_, _, dp_of hS rx (shaped_lay f.1), .lst a1.seq (dpA_of hS a2 c1), f.1, shT f.2.1, q⟩)
          | loc b1 =>
            obtain ⟨l, ys, e1, k1, k2⟩ := lst_of hS (show lstW S (.loc _) = some ws from e) (.loc b1)
            cases e1
            exact .inr (.inr ⟨_, _, dp_of hS rx (shaped_lay f.1), .lst k1 (dpA_of hS k2 c1), f.1, shT f.2.1, q⟩)
          | _ => exact absurd (show (none : Option (List W)) = some ws from e) (by simp)
        · exact False.elim hb
    · exact False.elim hb
theorem so_in (hu : X.A.units + 65 < cLine) : SO X (compareOp .In) gIn := so_inB op_in_seq (op_inT hu) fun pins s σ H x y v u Q I rx ry h => op_inD hu pins s σ H x y v u Q I rx ry (by simp only [false_bne] at h; exact h)
theorem so_notIn (hu : X.A.units + 65 < cLine) : SO X (compareOp .NotIn) gNotIn := so_inB op_notIn_seq (op_notInT hu) fun pins s σ H x y v u Q I rx ry h => op_notInD hu pins s σ H x y v u Q I rx ry (by simp only [true_bne] at h; exact h)
end
/-! ### subscripts -/
def gIx (x y : W) (S : Store) : Res W := match x, y with
  | .str z, .int i => if z.length ≤ sizeLine then (match L2.atI z.cps.toList i with
    | some c => .ok (.str ⟨#[c]⟩) S
    | none => .bad) else .bad
  | .tup ws, .int i => match L2.atI ws i with
    | some w => .ok w S
    | none => .bad
  | x, .int i => match lstW S x with
    | some ws => (match L2.atI ws i with
      | some w => .ok w S
      | none => .bad)
    | none => .bad
  | _, _ => .bad
section
variable {X : Cx} {Wx : WE} {a b c e : Expr} {es : List Expr} {ma mb mc : DE} {pos : Pos}
omit Tb in
theorem ix_any : IxR X (fun x y H Q => rIxL X.K x y H Q ∨ rIxT X.K x y H Q ∨ rIxS x y H Q) := by
  rintro value slice pins s σ H x y v u Q I rx ry (h | h | h) hs
  · exact ix_list value slice pins s σ H x y v u Q I rx ry h hs
  · exact ix_tup value slice pins s σ H x y v u Q I rx ry h hs
  · exact ix_str value slice pins s σ H x y v u Q I rx ry h hs
theorem se_ix (ha : SE X Wx a ma) (hb : SE X Wx b mb) (hs : PlainIx b := by exact fun _ _ => rfl) : SE X Wx (.Subscript a b pos) (dOp gIx ma mb) := by
  obtain ⟨t1, p1, q1⟩ := ha.ex
  obtain ⟨t2, p2, q2⟩ := hb.ex
  refine ⟨_, pe_ix ix_any p1 p2 hs, fun σ H μ ls S Q hL hS h => ?_⟩
  refine q1 σ H μ ls S _ hL hS (Bd.bind (fun w1 S1 v1 H1 μ1 g1 s1 r1 h1 => ?_) h)
  refine q2 σ H1 μ1 ls S1 _ (hL.mono g1) s1 (Bd.bind (fun w2 S2 v2 H2 μ2 g2 s2 r2 h2 => ?_) h1)
  have r1 := r1.mono g2
  unfold gIx at h2
  split at h2
  · cases r1
    cases r2
    split at h2
    · rename_i hz
      split at h2
      · rename_i c ec
        exact .inr (.inr ⟨_, _, c, rfl, rfl, hz, ec, h2 _ H2 μ2 (Gr.refl _ _) s2 (.str _)⟩)
      · exact False.elim h2
    · exact False.elim h2
  · cases r2
    cases r1 with
    | tup a1 a2 =>
      split at h2
      · rename_i w ew
        obtain ⟨v, e1, e2⟩ := a2.atI ew
        exact .inr (.inl ⟨_, _, _, v, rfl, rfl, a1.t, e1, h2 _ H2 μ2 (Gr.refl _ _) s2 e2⟩)
      · exact False.elim h2
  · cases r2
    split at h2
    · rename_i ws ews
      split at h2
      · rename_i w ew
        obtain ⟨p, xs, rfl, a1, a2⟩ := lst_of s2 ews r1
        obtain ⟨v, e1, e2⟩ := a2.atI ew
        exact .inl ⟨_, _, _, v, rfl, rfl, a1, e1, h2 _ H2 μ2 (Gr.refl _ _) s2 e2⟩
      · exact False.elim h2
    · exact False.elim h2
  · exact False.elim h2
/-! ### truth, and, or, not, if -/
theorem tru_of {K : PySem.W.Frag} {mg : Str → Option Value} {E : XK} {μ : Mu} {H : Hp} {S : Store} {w : W} {v : V} {Q : Bool → Hp → Prop} (s : Sim K μ S H) (r : Vr K μ H v w) (h : Bd K mg RlB E μ H (gTruth w S) Q) : ∃ k, TruV K v H k ∧ Q k H ∧ gTruth w S = .ok k S := by
  have emp : ∀ {xs : List V} {ws : List W}, VrA K μ H xs ws → (!ws.isEmpty) = !xs.isEmpty := fun z => by cases z <;> rfl
  cases r with
  | non => exact ⟨false, rfl, h false H μ (Gr.refl _ _) s rfl, rfl⟩
  | bl b => exact ⟨b, rfl, h b H μ (Gr.refl _ _) s rfl, rfl⟩
  | int i => exact ⟨i != 0, rfl, h _ H μ (Gr.refl _ _) s rfl, rfl⟩
  | str x =>
    unfold gTruth at h ⊢
    dsimp only at h ⊢
    split at h
    · rename_i c
      exact ⟨_, ⟨c, rfl⟩, h _ H μ (Gr.refl _ _) s rfl, by rw [if_pos c]⟩
    · exact False.elim h
  | tup a1 a2 => exact ⟨_, .inr (.inl ⟨_, a1.t, emp a2⟩), h _ H μ (Gr.refl _ _) s rfl, rfl⟩
  | rol a1 a2 => exact ⟨_, .inl ⟨_, a1.seq, emp a2⟩, h _ H μ (Gr.refl _ _) s rfl, rfl⟩
  | @loc n a e =>
    have h' : Bd K mg RlB E μ H (match S[n]? with
      | some (.lst ws) => .ok (!ws.isEmpty) S
      | _ => .bad) Q := h
    have e' : gTruth (.loc n) S = (match S[n]? with
      | some (.lst ws) => .ok (!ws.isEmpty) S
      | _ => .bad) := rfl
    rw [e']
    split at h'
    · rename_i ws ew
      obtain ⟨a, xs, e1, _, e2, e3⟩ := s.cellL ew (.loc e)
      cases e1
      exact ⟨_, .inl ⟨xs, .of e2, emp e3⟩, h' _ H μ (Gr.refl _ _) s rfl, rfl⟩
    · exact False.elim h'
  | ty n => exact False.elim h
  | adr n => exact False.elim h
  | ltp _ _ => exact False.elim h
theorem st_tru (ha : SE X Wx a ma) (he : ∀ whole, isTrue a X.env whole = (do let v ← whole; standAt a.pos; holding [v] (truthy v)) := by intro _; rfl) : ST X Wx a (dT ma) := by
  obtain ⟨t1, p1, q1⟩ := ha.ex
  refine ⟨_, pt_truth p1 he, fun σ H μ ls S Q hL hS h => ?_⟩
  refine q1 σ H μ ls S _ hL hS (Bd.bind (fun w1 S1 v1 H1 μ1 g1 s1 r1 h1 => ?_) h)
  obtain ⟨k, e1, e2, _⟩ := tru_of s1 r1 h1
  exact ⟨k, e1, e2⟩
theorem st_not {m : DT} (ha : ST X Wx a m) : ST X Wx (.UnaryOp .Not a pos) (dNotT m) := by
  obtain ⟨t1, p1, q1⟩ := ha.ex
  refine ⟨_, pt_not p1, fun σ H μ ls S Q hL hS h => ?_⟩
  refine q1 σ H μ ls S _ hL hS (Bd.bind (fun w1 S1 v1 H1 μ1 g1 s1 r1 h1 => ?_) h)
  exact h1 _ H1 μ1 (Gr.refl _ _) s1 (by rw [r1])
theorem ite_bd {α β : Type} {K : PySem.W.Frag} {mg : Str → Option Value} {Rl : Mu → Hp → β → α → Prop} {E : XK} {μ : Mu} {H : Hp} {Q : β → Hp → Prop} {c : Bool} {x y : Res α} {P P' : Prop} (h : Bd K mg Rl E μ H (if c = true then x else y) Q)
    (h1 : Bd K mg Rl E μ H x Q → P) (h2 : Bd K mg Rl E μ H y Q → P') : if c = true then P else P' := by
  cases c with
  | true => exact iteT (h1 h)
  | false => exact iteF (h2 h)
theorem st_w {m : DT} (h : SW X Wx e m) : ST X Wx e m := by
  obtain ⟨t, p, q⟩ := h.ex
  exact ⟨t, p.pt, q⟩
theorem sw_and1 {m : DT} (ha : ST X Wx a m) : SW X Wx (.BoolOp .And [a] pos) m := by
  obtain ⟨t, p, q⟩ := ha.ex
  exact ⟨t, pw_and1 p, q⟩
theorem sw_or1 {m : DT} (ha : ST X Wx a m) : SW X Wx (.BoolOp .Or [a] pos) m := by
  obtain ⟨t, p, q⟩ := ha.ex
  exact ⟨t, pw_or1 p, q⟩
theorem sw_and {m1 m2 : DT} {rest : List Expr} (ha : ST X Wx a m1) (hb : SW X Wx (.BoolOp .And (b :: rest) pos) m2) : SW X Wx (.BoolOp .And (a :: b :: rest) pos) (dAndT m1 m2) := by
  obtain ⟨t1, p1, q1⟩ := ha.ex
  obtain ⟨t2, p2, q2⟩ := hb.ex
  refine ⟨_, pw_and p1 p2, fun σ H μ ls S Q hL hS h => ?_⟩
  refine q1 σ H μ ls S _ hL hS (Bd.bind (fun w1 S1 v1 H1 μ1 g1 s1 r1 h1 => ?_) h)
  cases r1
  exact ite_bd h1 (fun z => q2 σ H1 μ1 ls S1 Q (hL.mono g1) s1 z) fun z => z false H1 μ1 (Gr.refl _ _) s1 rfl
theorem sw_or {m1 m2 : DT} {rest : List Expr} (ha : ST X Wx a m1) (hb : SW X Wx (.BoolOp .Or (b :: rest) pos) m2) : SW X Wx (.BoolOp .Or (a :: b :: rest) pos) (dOrT m1 m2) := by
  obtain ⟨t1, p1, q1⟩ := ha.ex
  obtain ⟨t2, p2, q2⟩ := hb.ex
  refine ⟨_, pw_or p1 p2, fun σ H μ ls S Q hL hS h => ?_⟩
  refine q1 σ H μ ls S _ hL hS (Bd.bind (fun w1 S1 v1 H1 μ1 g1 s1 r1 h1 => ?_) h)
  cases r1
  exact ite_bd h1 (fun z => z true H1 μ1 (Gr.refl _ _) s1 rfl) fun z => q2 σ H1 μ1 ls S1 Q (hL.mono g1) s1 z
theorem se_one {op} (ha : SE X Wx a ma) : SE X Wx (.BoolOp op [a] pos) ma := by
  obtain ⟨t, p, q⟩ := ha.ex
  exact ⟨t, pe_one p, q⟩
theorem bd_tru {K : PySem.W.Frag} {mg : Str → Option Value} {E : XK} {μ : Mu} {H : Hp} {S : Store} {w : W} {v : V} {Q : VK} {f : Bool → Store → Res W} (s : Sim K μ S H) (r : Vr K μ H v w) (h : Bd K mg (RlV K) E μ H ((gTruth w S).bind f) Q) :
    ∃ k, TruV K v H k ∧ Bd K mg (RlV K) E μ H (f k S) Q := by
  cases e : gTruth w S with
  | bad => rw [e] at h; exact False.elim h
  | exc x S' =>
    exfalso
    unfold gTruth at e
    split at e <;> (try split at e) <;> cases e
  | ok k S' =>
    rw [e] at h
    obtain ⟨k', e1, _, e2⟩ := tru_of (mg := mg) (E := E) (Q := fun _ _ => True) s r (by rw [e]; exact fun _ _ _ _ _ _ => trivial)
    rw [e2] at e
    cases e
    exact ⟨_, e1, h⟩
theorem se_and {rest : List Expr} (ha : SE X Wx a ma) (hb : SE X Wx (.BoolOp .And (b :: rest) pos) mb) : SE X Wx (.BoolOp .And (a :: b :: rest) pos) (dAnd ma mb) := by
  obtain ⟨t1, p1, q1⟩ := ha.ex
  obtain ⟨t2, p2, q2⟩ := hb.ex
  refine ⟨_, pe_andT p1 p2, fun σ H μ ls S Q hL hS h => ?_⟩
  refine q1 σ H μ ls S _ hL hS (Bd.bind (fun w1 S1 v1 H1 μ1 g1 s1 r1 h1 => ?_) h)
  obtain ⟨k, e1, h2⟩ := bd_tru s1 r1 h1
  exact ⟨k, e1, ite_bd h2 (fun z => q2 σ H1 μ1 ls S1 Q (hL.mono g1) s1 z) fun z => z v1 H1 μ1 (Gr.refl _ _) s1 r1⟩
theorem se_or {rest : List Expr} (ha : SE X Wx a ma) (hb : SE X Wx (.BoolOp .Or (b :: rest) pos) mb) : SE X Wx (.BoolOp .Or (a :: b :: rest) pos) (dOr ma mb) := by
  obtain ⟨t1, p1, q1⟩ := ha.ex
  obtain ⟨t2, p2, q2⟩ := hb.ex
  refine ⟨_, pe_orT p1 p2, fun σ H μ ls S Q hL hS h => ?_⟩
  refine q1 σ H μ ls S _ hL hS (Bd.bind (fun w1 S1 v1 H1 μ1 g1 s1 r1 h1 => ?_) h)
  obtain ⟨k, e1, h2⟩ := bd_tru s1 r1 h1
  exact ⟨k, e1, ite_bd h2 (fun z => z v1 H1 μ1 (Gr.refl _ _) s1 r1) fun z => q2 σ H1 μ1 ls S1 Q (hL.mono g1) s1 z⟩
theorem se_not (ha : SE X Wx a ma) : SE X Wx (.UnaryOp .Not a pos) (dNot ma) := by
  obtain ⟨t1, p1, q1⟩ := ha.ex
  refine ⟨_, pe_notT p1, fun σ H μ ls S Q hL hS h => ?_⟩
  refine q1 σ H μ ls S _ hL hS (Bd.bind (fun w1 S1 v1 H1 μ1 g1 s1 r1 h1 => ?_) h)
  obtain ⟨k, e1, h2⟩ := bd_tru s1 r1 h1
  exact ⟨k, e1, h2 _ H1 μ1 (Gr.refl _ _) s1 (.bl _)⟩
theorem se_ifE {m : DT} (hc : ST X Wx c m) (ha : SE X Wx a ma) (hb : SE X Wx b mb) : SE X Wx (.IfExp c a b pos) (dIfE m ma mb) := by
  obtain ⟨t0, p0, q0⟩ := hc.ex
  obtain ⟨t1, p1, q1⟩ := ha.ex
  obtain ⟨t2, p2, q2⟩ := hb.ex
  refine ⟨_, pe_ifExp p0 p1 p2, fun σ H μ ls S Q hL hS h => ?_⟩
  refine q0 σ H μ ls S _ hL hS (Bd.bind (fun w1 S1 v1 H1 μ1 g1 s1 r1 h1 => ?_) h)
  cases r1
  exact ite_bd h1 (fun z => q1 σ H1 μ1 ls S1 Q (hL.mono g1) s1 z) fun z => q2 σ H1 μ1 ls S1 Q (hL.mono g1) s1 z
theorem se_chain {op op' : CmpOp} {g g' : W → W → Store → Res W} (ho : SO X (compareOp op) g) (ho' : SO X (compareOp op') g') (ha : SE X Wx a ma) (hb : SE X Wx b mb) (hc : SE X Wx c mc)
    (hm : lastMarks [op, op'] [b, c] = false := by with_unfolding_all rfl) : SE X Wx (.Compare a [op, op'] [b, c] pos) (dChain g g' ma mb mc) := by
  obtain ⟨r, o, q⟩ := ho.ex
  obtain ⟨r', o', q'⟩ := ho'.ex
  obtain ⟨t1, p1, q1⟩ := ha.ex
  obtain ⟨t2, p2, q2⟩ := hb.ex
  obtain ⟨t3, p3, q3⟩ := hc.ex
  refine ⟨_, pe_chain o o' p1 p2 p3 hm, fun σ H μ ls S Q hL hS h => ?_⟩
  refine q1 σ H μ ls S _ hL hS (Bd.bind (fun w1 S1 v1 H1 μ1 g1 s1 r1 h1 => ?_) h)
  refine q2 σ H1 μ1 ls S1 _ (hL.mono g1) s1 (Bd.bind (fun w2 S2 v2 H2 μ2 g2 s2 r2 h2 => ?_) h1)
  refine q _ v1 v2 H2 μ2 S2 w1 w2 _ s2 (r1.mono g2) r2 (Bd.bind (fun w3 S3 v3 H3 μ3 g3 s3 r3 h3 => ?_) h2)
  cases r3 with
  | bl k =>
    refine ⟨k, rfl, ?_⟩
    cases k with
    | true =>
      refine iteT (q3 σ H3 μ3 ls S3 _ (((hL.mono g1).mono g2).mono g3) s3 (Bd.bind (fun w4 S4 v4 H4 μ4 g4 s4 r4 h4 => ?_) h3))
      exact q' _ v2 v4 H4 μ4 S4 w2 w4 Q s4 ((r2.mono g3).mono g4) r4 h4
    | false => exact iteF (h3 (.bl false) H3 μ3 (Gr.refl _ _) s3 (.bl _))
  | _ => exact False.elim h3
/-! ### built-in calls -/
structure SC (X : Cx) (f : Value) (g : List W → Store → Res W) : Prop where
  ex : ∃ r, CallR X f r ∧ ∀ (E : XK) xs H μ S ws Q, Sim X.K μ S H → VrA X.K μ H xs ws → Bd X.K X.mg (RlV X.K) E μ H (g ws S) Q → r xs H Q
theorem se_callB {id : String} {g : List W → Store → Res W} {x : Str} {p : Pos} {as : List DE} (hc : SC X (.builtin id) g) (hm : X.mg x = none) (hv : bootBuiltins x = some (.builtin id)) (ha : SA X Wx (e :: es) (dArgs as)) (hg : Gl X x := by rfl) (hn : x ≠ "__name__" := by decide) (hdb : (x == ("__debug__" : Str)) = false := by decide)
    (he : starEach (e :: es) X.env = (false, eval e X.env) :: starEach es X.env := by rfl) (hpl : (backTo pos (starEach es X.env)).any (·.1) = false := by rfl) : SE X Wx (.Call (.Name x p) (e :: es) [] pos) (dCall g as) := by
  obtain ⟨r, c, q⟩ := hc.ex
  obtain ⟨t1, p1, q1⟩ := ha.ex
  refine ⟨_, pe_callB c hg hm hv p1 hn hdb he hpl, fun σ H μ ls S Q hL hS h => ?_⟩
  refine q1 σ H μ ls S _ hL hS (Bd.bind (fun w1 S1 v1 H1 μ1 g1 s1 r1 h1 => ?_) h)
  exact q _ v1 H1 μ1 S1 w1 Q s1 r1 h1
theorem se_callTy {id : String} {g : List W → Store → Res W} {x : Str} {p : Pos} {as : List DE} (hc : SC X (.type id) g) (hm : X.mg x = none) (hv : bootBuiltins x = some (.type id)) (ha : SA X Wx (e :: es) (dArgs as)) (hg : Gl X x := by rfl) (hn : x ≠ "__name__" := by decide) (hdb : (x == ("__debug__" : Str)) = false := by decide)
    (he : starEach (e :: es) X.env = (false, eval e X.env) :: starEach es X.env := by rfl) (hpl : (backTo pos (starEach es X.env)).any (·.1) = false := by rfl) : SE X Wx (.Call (.Name x p) (e :: es) [] pos) (dCall g as) := by
  obtain ⟨r, c, q⟩ := hc.ex
  obtain ⟨t1, p1, q1⟩ := ha.ex
  refine ⟨_, pe_callTy c hg hm hv p1 hn hdb he hpl, fun σ H μ ls S Q hL hS h => ?_⟩
  refine q1 σ H μ ls S _ hL hS (Bd.bind (fun w1 S1 v1 H1 μ1 g1 s1 r1 h1 => ?_) h)
  exact q _ v1 H1 μ1 S1 w1 Q s1 r1 h1
/-- a built-in's name as a value (a class for isinstance) -/
theorem se_ty {n : String} {x : Str} (hm : X.mg x = none) (hv : bootBuiltins x = some (.type n)) (hg : Gl X x := by rfl) (hn : x ≠ "__name__" := by decide) (hd : (x == ("__debug__" : Str)) = false := by decide) : SE X Wx (.Name x pos) (dC (.ty n)) :=
  se_c (v := .ty n) (pe_bltn hg hm hv rfl hn hd) fun _ _ => .ty n
def gLen (ws : List W) (S : Store) : Res W := match ws with
  | [.str x] => if x.length ≤ sizeLine then .ok (.int x.length) S else .bad
  | [w] => match seqW S w with
    | some us => .ok (.int us.length) S
    | none => .bad
  | _ => .bad
theorem sc_len : SC X (.builtin "len") gLen := ⟨_, call_len, fun E xs H μ S ws Q hS rx hb => by
  unfold gLen at hb
  split at hb
  · cases rx with
    | cons r1 r2 =>
      cases r2
      cases r1
      split at hb
      · rename_i c
        exact ⟨_, _, rfl, ⟨c, rfl⟩, hb _ H μ (Gr.refl _ _) hS (.int _)⟩
      · exact False.elim hb
  · cases rx with
    | cons r1 r2 =>
      cases r2
      split at hb
      · rename_i us eu
        obtain ⟨a, ys, rfl, hq, r⟩ := seq_of hS eu r1
        refine ⟨_, us.length, rfl, ?_, hb _ H μ (Gr.refl _ _) hS (.int _)⟩
        rcases hq with hq | hq
        · exact .inl ⟨ys, hq, r.length.symm⟩
        · exact .inr ⟨ys, hq, r.length.symm⟩
      · exact False.elim hb
  · exact False.elim hb⟩
def gAbs (ws : List W) (S : Store) : Res W := match ws with
  | [.int i] => .ok (.int (if i < 0 then -i else i)) S
  | _ => .bad
theorem sc_abs : SC X (.builtin "abs") gAbs := ⟨_, call_abs, fun E xs H μ S ws Q hS rx hb => by
  unfold gAbs at hb
  split at hb
  · cases rx with
    | cons r1 r2 =>
      cases r2
      cases r1
      exact ⟨_, rfl, hb _ H μ (Gr.refl _ _) hS (.int _)⟩
  · exact False.elim hb⟩
def gMax (ws : List W) (S : Store) : Res W := match ws with
  | [.int i, .int j] => .ok (.int (if j > i then j else i)) S
  | _ => .bad
def gMin (ws : List W) (S : Store) : Res W := match ws with
  | [.int i, .int j] => .ok (.int (if j < i then j else i)) S
  | _ => .bad
theorem sc_max (hc : X.calm = true) : SC X (.builtin "max") gMax := ⟨_, call_max2 hc, fun E xs H μ S ws Q hS rx hb => by
  unfold gMax at hb
  split at hb
  · cases rx with
    | cons r1 r2 =>
      cases r2 with
      | cons r2 r3 =>
        cases r3
        cases r1
        cases r2
        exact ⟨_, _, rfl, hb _ H μ (Gr.refl _ _) hS (.int _)⟩
  · exact False.elim hb⟩
theorem sc_min (hc : X.calm = true) : SC X (.builtin "min") gMin := ⟨_, call_min2 hc, fun E xs H μ S ws Q hS rx hb => by
  unfold gMin at hb
  split at hb
  · cases rx with
    | cons r1 r2 =>
      cases r2 with
      | cons r2 r3 =>
        cases r3
        cases r1
        cases r2
        exact ⟨_, _, rfl, hb _ H μ (Gr.refl _ _) hS (.int _)⟩
  · exact False.elim hb⟩
def gInt (ws : List W) (S : Store) : Res W := match ws with
  | [.int i] => .ok (.int i) S
  | [.bl b] => .ok (.int (if b then 1 else 0)) S
  | _ => .bad
theorem sc_int : SC X (.type "int") gInt := ⟨_, call_int1, fun E xs H μ S ws Q hS rx hb => by
  unfold gInt at hb
  split at hb
  · cases rx with
    | cons r1 r2 =>
      cases r2
      cases r1
      exact .inl ⟨_, rfl, hb _ H μ (Gr.refl _ _) hS (.int _)⟩
  · cases rx with
    | cons r1 r2 =>
      cases r2
      cases r1
      exact .inr ⟨_, rfl, hb _ H μ (Gr.refl _ _) hS (.int _)⟩
  · exact False.elim hb⟩
def gList (ws : List W) (S : Store) : Res W := match ws with
  | [w] => match seqW S w with
    | some us => .ok (.loc S.length) (S ++ [.lst us])
    | none => .bad
  | _ => .bad
theorem sc_list : SC X (.type "list") gList := ⟨_, call_list_of, fun E xs H μ S ws Q hS rx hb => by
  unfold gList at hb
  split at hb
  · cases rx with
    | cons r1 r2 =>
      cases r2
      split at hb
      · rename_i us eu
        obtain ⟨a, ys, rfl, hq, r⟩ := seq_of hS eu r1
        refine ⟨_, ys, rfl, hq, fun l hl => ?_⟩
        exact hb (.ref l) _ _ (gr_cell hS hl) (hS.alloc hl ⟨_, upd_same, r.mono (gr_cell hS hl)⟩) (.loc muAdd_same)
      · exact False.elim hb
  · exact False.elim hb⟩
def gTuple (ws : List W) (S : Store) : Res W := match ws with
  | [w] => match seqW S w with
    | some us => .ok (.tup us) S
    | none => .bad
  | _ => .bad
theorem sc_tuple : SC X (.type "tuple") gTuple := ⟨_, Tx.call_tupleD, fun E xs H μ S ws Q hS rx hb => by
  unfold gTuple at hb
  split at hb
  · cases rx with
    | cons r1 r2 =>
      cases r2
      split at hb
      · rename_i us eu
        have key : ∀ {w : W} {v : V}, lstW S w = some us → Vr X.K μ H v w → ∃ p ys, [v] = [V.ref p] ∧ ((SqL X.K H p ys ∧ ∀ l o, H l = none → o.dict = none → Q (.ref l) (upd H l (.frz o (.tup ys)))) ∨ (SqT X.K H p ys ∧ Q (.ref p) H)) := fun el r1 => by
          obtain ⟨a, ys, rfl, hq, r⟩ := lst_of hS el r1
          exact ⟨a, ys, rfl, .inl ⟨hq, fun l o hl ho => hb (.ref l) _ μ (gr_new hl) (hS.new hl) (.tup (.of upd_same ho) (r.mono (gr_new hl)))⟩⟩
        cases r1 with
        | tup h1 h2 => cases eu; exact ⟨_, _, rfl, .inr ⟨h1.t, hb _ H μ (Gr.refl _ _) hS (.tup h1 h2)⟩⟩
        | rol h1 h2 => exact key (w := .rol _) eu (.rol h1 h2)
        | loc h1 => exact key (w := .loc _) eu (.loc h1)
        | non => cases eu
        | bl => cases eu
        | int => cases eu
        | str => cases eu
        | ty => cases eu
        | adr => cases eu
        | ltp _ _ => cases eu
      · exact False.elim hb
  · exact False.elim hb⟩
def intsW : List W → Option (List Int)
  | [] => some []
  | .int i :: r => (intsW r).map (i :: ·)
  | _ => none
omit Tb in
theorem ints_of {K : PySem.W.Frag} {μ : Mu} {H : Hp} : ∀ {ws : List W} {vs : List V} {ns : List Int}, VrA K μ H vs ws → intsW ws = some ns → vs = ns.map V.int
  | [], _, ns, h, e => by cases h; cases e; rfl
  | w :: ws, _, ns, h, e => by
    cases h with
    | cons h1 h2 =>
      cases h1 <;> first | (unfold intsW at e; cases e; done) | skip
      rename_i i
      unfold intsW at e
      cases q : intsW ws with
      | none => simp [q] at e
      | some ms =>
        rw [q] at e
        cases e
        rw [ints_of h2 q]
        rfl
def gSum (ws : List W) (S : Store) : Res W := match ws with
  | [w] => match lstW S w with
    | some us => (match intsW us with
      | some ns => .ok (.int ns.sum) S
      | none => .bad)
    | none => .bad
  | _ => .bad
theorem sc_sum (hc : X.calm = true) : SC X (.builtin "sum") gSum := ⟨_, cr_sum hc, fun E xs H μ S ws Q hS rx hb => by
  unfold gSum at hb
  split at hb
  · cases rx with
    | cons r1 r2 =>
      cases r2
      split at hb
      · rename_i us eu
        split at hb
        · rename_i ns en
          obtain ⟨a, ys, rfl, hq, r⟩ := lst_of hS eu r1
          have e := ints_of r en
          subst e
          exact ⟨_, ns, rfl, hq, hb _ H μ (Gr.refl _ _) hS (.int _)⟩
        · exact False.elim hb
      · exact False.elim hb
  · exact False.elim hb⟩
/-! isinstance of a built-in class -/
def tyName : W → Option String
  | .non => some "NoneType"
  | .bl _ => some "bool"
  | .int _ => some "int"
  | .str _ => some "str"
  | .tup _ => some "tuple"
  | .rol _ => some "list"
  | .loc _ => some "list"
  | _ => none
def isiB (t n : String) : Option Bool :=
  if n = "tuple" then some (decide (t = "tuple")) else if n = "str" then some (decide (t = "str")) else if n = "bool" then some (decide (t = "bool")) else if n = "int" then some (decide (t = "int") || decide (t = "bool")) else if n = "list" then some (decide (t = "list")) else none
def gIsi (ws : List W) (S : Store) : Res W := match ws with
  | [w, .ty n] => match tyName w with
    | some t => (match isiB t n with
      | some b => (match w with
        | .loc k => (match S[k]? with
          | some (.lst _) => .ok (.bl b) S
          | _ => .bad)
        | _ => .ok (.bl b) S)
      | none => .bad)
    | none => .bad
  | _ => .bad
omit Tb in
theorem isi_kit {t n : String} {b : Bool} (ht : t = "NoneType" ∨ t = "bool" ∨ t = "int" ∨ t = "str" ∨ t = "tuple" ∨ t = "list") (h : isiB t n = some b) : kitB t n = some b := by
  have hn : n = "tuple" ∨ n = "str" ∨ n = "bool" ∨ n = "int" ∨ n = "list" := by
    unfold isiB at h
    split at h
    · exact .inl ‹_›
    · split at h
      · exact .inr (.inl ‹_›)
      · split at h
        · exact .inr (.inr (.inl ‹_›))
        · split at h
          · exact .inr (.inr (.inr (.inl ‹_›)))
          · split at h
            · exact .inr (.inr (.inr (.inr ‹_›)))
            · cases h
  rcases ht with rfl | rfl | rfl | rfl | rfl | rfl <;> rcases hn with rfl | rfl | rfl | rfl | rfl <;> (rw [← h]; decide +kernel)
theorem sc_isi : SC X (.builtin "isinstance") gIsi := ⟨_, call_isi, fun E xs H μ S ws Q hS rx hb => by
  unfold gIsi at hb
  split at hb
  · rename_i w n
    cases rx with
    | cons r1 r2 =>
      cases r2 with
      | cons r2 r3 =>
        cases r3
        cases r2
        split at hb
        · rename_i t et
          split at hb
          · rename_i b eb
            have ht : t = "NoneType" ∨ t = "bool" ∨ t = "int" ∨ t = "str" ∨ t = "tuple" ∨ t = "list" := by
              cases r1 <;> cases et <;> simp
            have hk := kit_ty (K := X.K) (isi_kit ht eb)
            have fin : ∀ {v : V}, TyX X.K H v (.type t) → Q (.bl b) H → rIsi X.K [v, .ty n] H Q := fun ty q => ⟨_, .ty n, .type t, .type n, b, rfl, .ty n, ty, hk, q⟩
            cases r1 with
            | non => cases et; exact fin (.base .non) (hb _ H μ (Gr.refl _ _) hS (.bl _))
            | bl x => cases et; exact fin (.base (.bl x)) (hb _ H μ (Gr.refl _ _) hS (.bl _))
            | int x => cases et; exact fin (.base (.int x)) (hb _ H μ (Gr.refl _ _) hS (.bl _))
            | str x => cases et; exact fin (.base (.str x)) (hb _ H μ (Gr.refl _ _) hS (.bl _))
            | tup a1 a2 =>
              cases et
              refine fin ?_ (hb _ H μ (Gr.refl _ _) hS (.bl _))
              rcases a1 with ⟨o, q, _⟩ | ⟨o, its, m, k1, k2, _⟩
              · exact .fTuple q
              · exact .kTuple k1 k2
            | rol a1 a2 =>
              cases et
              refine fin ?_ (hb _ H μ (Gr.refl _ _) hS (.bl _))
              rcases a1 with ⟨o, q⟩ | ⟨o, its, m, k1, k2, _⟩
              · exact .base (.frz q)
              · exact .kList k1 k2
            | @loc k a h1 =>
              cases et
              dsimp only at hb
              split at hb
              · rename_i us eu
                obtain ⟨a, ys, e1, _, e2, e3⟩ := hS.cellL eu (.loc h1)
                cases e1
                exact fin (.base (.lst e2)) (hb _ H μ (Gr.refl _ _) hS (.bl _))
              · exact False.elim hb
            | ty x => cases et
            | adr x => cases et
            | ltp _ _ => cases et
          · exact False.elim hb
        · exact False.elim hb
  · exact False.elim hb⟩
end
end Fs
set_option maxHeartbeats 4000000
namespace Fs
open PySem L2
variable [Tb : Tabs]
/-! ### statements -/
section
variable {X : Cx} {Wx : WE} {a b c e : Expr} {es : List Expr} {ma mb mc : DE} {pos : Pos} {st : Stmt} {sts : List Stmt}
theorem rs_bd {σ : St} {H : Hp} {μ : Mu} {ls : Lo} {D : Ends} {k : W → Store → RS} {Q : VK} (hL : LR X.K μ H σ ls)
    (f : ∀ w S v H1 μ1, Gr μ μ1 H H1 → Sim X.K μ1 S H1 → Vr X.K μ1 H1 v w → BdS X Wx μ1 H1 (k w S) D → Q v H1) : ∀ {r : Res W}, BdS X Wx μ H (rsOf ls r k) D → BdV X Wx σ μ H r Q
  | .ok w S, h => fun v H1 μ1 g s r => f w S v H1 μ1 g s r (BdS.mono g h)
  | .exc x S, h => fun c d H1 μ1 g s r => h σ c d H1 μ1 g s (hL.mono g) r
  | .bad, h => h
theorem rsB_bd {σ : St} {H : Hp} {μ : Mu} {ls : Lo} {D : Ends} {k : Bool → Store → RS} {Q : Bool → Hp → Prop} (hL : LR X.K μ H σ ls)
    (f : ∀ w S H1 μ1, Gr μ μ1 H H1 → Sim X.K μ1 S H1 → BdS X Wx μ1 H1 (k w S) D → Q w H1) : ∀ {r : Res Bool}, BdS X Wx μ H (rsOfB ls r k) D → BdB X Wx σ μ H r Q
  | .ok w S, h => fun v H1 μ1 g s r => by
    cases r
    exact f w S H1 μ1 g s (BdS.mono g h)
  | .exc x S, h => fun c d H1 μ1 g s r => h σ c d H1 μ1 g s (hL.mono g) r
  | .bad, h => h
theorem ss_nil : SSs X Wx [] dNx := ⟨_, pss_nil, fun σ H μ ls S D hL hS h => h σ H μ (Gr.refl _ _) hS hL⟩
theorem ss_one {m : DS} (h1 : SS X Wx st m) : SSs X Wx [st] m := by
  obtain ⟨t, p, q⟩ := h1.ex
  exact ⟨t, pss_one p, q⟩
theorem ss_cons {m n : DS} (h1 : SS X Wx st m) (h2 : SSs X Wx sts n) : SSs X Wx (st :: sts) (dSeq m n) := by
  obtain ⟨t1, p1, q1⟩ := h1.ex
  obtain ⟨t2, p2, q2⟩ := h2.ex
  refine ⟨_, pss_cons p1 p2, fun σ H μ ls S D hL hS h => ?_⟩
  refine q1 σ H μ ls S _ hL hS ?_
  unfold dSeq at h
  cases e : m ls S with
  | nx ls1 S1 =>
    rw [e] at h
    exact fun σ' H' μ' g s l => q2 σ' H' μ' ls1 S1 D l s (BdS.mono g h)
  | rt w S1 => rw [e] at h; exact h
  | bk ls1 S1 => rw [e] at h; exact h
  | ct ls1 S1 => rw [e] at h; exact h
  | ex x ls1 S1 => rw [e] at h; exact h
  | bad => rw [e] at h; exact h
theorem ss_set {i : Nat} {x : Str} {p : Pos} (hN : X.N.Nodup) (ha : SE X Wx a ma) (hi : X.N[i]? = some x := by rfl) (hx : Loc X.env.scope x := by first | exact Or.inl rfl | exact Or.inr rfl) (hs : swapsWith a (some (.Name x p)) pos.line X.env = pure false := by rfl) (hf : X.fn x = true ∨ X.env.scope.names.lookup x = some .local := by first | exact .inl rfl | exact .inr rfl | assumption) :
    SS X Wx (.Assign [.Name x p] a pos) (dSet i ma) := by
  obtain ⟨t1, p1, q1⟩ := ha.ex
  refine ⟨_, ps_set hN hi hx p1 hs hf, fun σ H μ ls S D hL hS h => ?_⟩
  refine q1 σ H μ ls S _ hL hS (rs_bd hL (fun w S1 v H1 μ1 g s r h1 => ?_) h)
  exact h1 _ H1 μ1 (Gr.refl _ _) s ((hL.mono g).set r)
theorem ss_expr (ha : SE X Wx a ma) (hs : swapsWith a none pos.line X.env = pure false := by rfl) : SS X Wx (.Expr a pos) (dExpr ma) := by
  obtain ⟨t1, p1, q1⟩ := ha.ex
  refine ⟨_, ps_expr p1 hs, fun σ H μ ls S D hL hS h => ?_⟩
  refine q1 σ H μ ls S _ hL hS (rs_bd hL (fun w S1 v H1 μ1 g s r h1 => ?_) h)
  exact h1 σ H1 μ1 (Gr.refl _ _) s (hL.mono g)
theorem ss_ret (ha : SE X Wx a ma) : SS X Wx (.Return (some a) pos) (dRet ma) := by
  obtain ⟨t1, p1, q1⟩ := ha.ex
  refine ⟨_, ps_ret p1, fun σ H μ ls S D hL hS h => ?_⟩
  refine q1 σ H μ ls S _ hL hS (rs_bd hL (fun w S1 v H1 μ1 g s r h1 => ?_) h)
  exact h1 v H1 μ1 (Gr.refl _ _) s r
theorem ss_if {m : DT} {m1 m2 : DS} {s1 s2 : List Stmt} (hc : ST X Wx c m) (h1 : SSs X Wx s1 m1) (h2 : SSs X Wx s2 m2) : SS X Wx (.If c s1 s2 pos) (dIf m m1 m2) := by
  obtain ⟨t0, p0, q0⟩ := hc.ex
  obtain ⟨t1, p1, q1⟩ := h1.ex
  obtain ⟨t2, p2, q2⟩ := h2.ex
  refine ⟨_, ps_if p0 p1 p2, fun σ H μ ls S D hL hS h => ?_⟩
  refine q0 σ H μ ls S _ hL hS (rsB_bd hL (fun w S1 H1 μ1 g s h1 => ?_) h)
  cases w with
  | true => exact iteT (q1 σ H1 μ1 ls S1 D (hL.mono g) s h1)
  | false => exact iteF (q2 σ H1 μ1 ls S1 D (hL.mono g) s h1)
/-! xs[i] = e -/
def dSetIx (a b c : DE) : DS := fun ls S => rsOf ls (c ls S) fun w S1 => rsOf ls (a ls S1) fun x S2 => rsOf ls (b ls S2) fun y S3 => match x, y with
  | .loc n, .int i => match S3[n]? with
    | some (.lst ws) => (match ixN ws.length i with
      | some j => .nx ls (S3.set n (.lst (ws.set j w)))
      | none => .bad)
    | _ => .bad
  | _, _ => .bad
theorem ss_setIx {p : Pos} (ha : SE X Wx a ma) (hb : SE X Wx b mb) (hc : SE X Wx c mc)
    (hg : ∀ {to ti : TE}, PE X a to → PE X b ti → PG X (.Subscript a b p) (L2.gSub to ti rSetL) := by exact fun h1 h2 => pg_sub h1 h2 set_list)
    (hs : swapsWithSole [.Subscript a b p] c pos.line X.env = pure false := by rfl) (hw : swappedStores [.Subscript a b p] c X.env = pure none := by rfl)
    (h1 : (assignEach [.Subscript a b p] X.env).map (·.2) = [assign (.Subscript a b p) X.env] := by rfl) : SS X Wx (.Assign [.Subscript a b p] c pos) (dSetIx ma mb mc) := by
  obtain ⟨t1, p1, q1⟩ := ha.ex
  obtain ⟨t2, p2, q2⟩ := hb.ex
  obtain ⟨t3, p3, q3⟩ := hc.ex
  refine ⟨_, ps_asg p3 (hg p1 p2) hs hw h1, fun σ H μ ls S D hL hS h => ?_⟩
  refine q3 σ H μ ls S _ hL hS (rs_bd hL (fun w S1 v H1 μ1 g1 s1 r1 h1 => ?_) h)
  have hL1 := hL.mono g1
  refine q1 σ H1 μ1 ls S1 _ hL1 s1 (rs_bd hL1 (fun x S2 v2 H2 μ2 g2 s2 r2 h2 => ?_) h1)
  have hL2 := hL1.mono g2
  refine q2 σ H2 μ2 ls S2 _ hL2 s2 (rs_bd hL2 (fun y S3 v3 H3 μ3 g3 s3 r3 h3 => ?_) h2)
  split at h3
  · rename_i n i
    split at h3
    · rename_i ws ew
      split at h3
      · rename_i j ej
        obtain ⟨p, xs, rfl, hm, e2, e3⟩ := s3.cellL ew (r2.mono g3)
        cases r3
        refine ⟨p, xs, i, j, rfl, rfl, e2, by rw [e3.length]; exact ej, ?_⟩
        have g := gr_write (u := HO.lst (xs.set j v)) s3 hm
        exact h3 σ _ μ3 g (s3.write hm ⟨_, upd_same, ((e3.mono g).set (((r1.mono g2).mono g3).mono g) j)⟩) ((hL2.mono g3).mono g)
      · exact False.elim h3
    · exact False.elim h3
  · exact False.elim h3
/-! xs.append(e) -/
def gAppend (x w : W) (S : Store) : Res W := match x with
  | .loc n => match S[n]? with
    | some (.lst ws) => if ws.length < sizeLine then .ok .non (S.set n (.lst (ws ++ [w]))) else .bad
    | _ => .bad
  | _ => .bad
def dAppend (a b : DE) : DE := fun ls S => (a ls S).bind fun x S1 => match lstW S1 x with
  | none => .bad
  | some _ => (b ls S1).bind fun w S2 => gAppend x w S2
theorem se_append {apos cpos : Pos} (ha : SE X Wx a ma) (hb : SA X Wx [b] (dArgs [mb]))
    (mk : ∀ {to : TE} {t : TA}, PE X a to → PA X [b] t → PE X (.Call (.Attribute a "append" apos) [b] [] cpos) (tBM X.K "list" rAppend to t) := by exact fun h1 h2 => pe_bm PySem.F.plainAttrs_list PySem.F.slot_list_append PySem.F.type_list_append mt_append h1 h2) :
    SE X Wx (.Call (.Attribute a "append" apos) [b] [] cpos) (dAppend ma mb) := by
  obtain ⟨t1, p1, q1⟩ := ha.ex
  obtain ⟨t2, p2, q2⟩ := hb.ex
  refine ⟨_, mk p1 p2, fun σ H μ ls S Q hL hS h => ?_⟩
  refine q1 σ H μ ls S _ hL hS (Bd.bind (fun x S1 v1 H1 μ1 g1 s1 r1 h1 => ?_) h)
  split at h1
  · exact False.elim h1
  · rename_i us eu
    obtain ⟨p0, xs0, e0, hq, _⟩ := lst_of s1 eu r1
    refine ⟨by rw [e0]; exact .inl ⟨rfl, xs0, hq⟩, ?_⟩
    have key : ∀ {r : Res W}, BdV X Wx σ μ1 H1 (r.bind fun w S2 => gAppend x w S2) Q → BdA X Wx σ μ1 H1 (r.bind fun w S1 => (Res.ok [] S1).bind fun ws S2 => Res.ok (w :: ws) S2) (fun vs H2 => rAppend v1 vs H2 Q) := fun {r} hr => by
      cases r with
      | bad => exact hr
      | exc e S => exact hr
      | ok w S2 =>
        intro vs H2 μ2 g2 s2 r2
        have hr' : BdV X Wx σ μ2 H2 (gAppend x w S2) Q := Bd.mono g2 hr
        cases r2 with
        | @cons v _ _ _ rv rn =>
          cases rn
          unfold gAppend at hr'
          split at hr'
          · rename_i n
            split at hr'
            · rename_i ws ew
              split at hr'
              · rename_i hl
                obtain ⟨p, xs, e1, hm, e2, e3⟩ := s2.cellL ew (r1.mono g2)
                refine ⟨p, xs, _, e1, rfl, e2, by rw [e3.length]; exact hl, ?_⟩
                have g := gr_write (u := HO.lst (xs ++ [v])) s2 hm
                exact hr' .non _ μ2 g (s2.write hm ⟨_, upd_same, (e3.mono g).append (.cons (rv.mono g) .nil)⟩) .non
              · exact False.elim hr'
            · exact False.elim hr'
          · exact False.elim hr'
    exact q2 σ H1 μ1 ls S1 _ (hL.mono g1) s1 (key h1)
/-! ### what a loop walks -/
structure Src where
  items : List W
  stay : Store → Prop
abbrev DI := Lo → Store → Res Src
def Jok (K : PySem.W.Frag) (μ1 : Mu) (H1 : Hp) (J : It) (src : Src) : Prop := ∀ i H μ S, Gr μ1 μ H1 H → Sim K μ S H → src.stay S →
  (src.items.length ≤ i → J.stop i H) ∧ ∀ w, src.items[i]? = some w → J.go i H ∧ ∀ x H', J.yld i H x H' → ∃ μ', Gr μ μ' H H' ∧ Sim K μ' S H' ∧ Vr K μ' H' x w
abbrev RlI (K : PySem.W.Frag) : Mu → Hp → It → Src → Prop := fun μ H J s => Jok K μ H J s
structure SI (X : Cx) (Wx : WE) (tg iter : Expr) (m : DI) : Prop where
  ex : ∃ wi, PI X tg iter wi ∧ ∀ σ H μ ls S (R : It → Hp → Prop), LR X.K μ H σ ls → Sim X.K μ S H → Bd X.K X.mg (RlI X.K) (fun c d H' => Wx c d σ H') μ H (m ls S) R → wi σ H R
def stayOf (w : W) (ws : List W) : Store → Prop := match w with
  | .loc n => fun S => S[n]? = some (.lst ws)
  | _ => fun _ => True
def dSeqI (a : DE) : DI := fun ls S => (a ls S).bind fun w S1 => match seqW S1 w with
  | some ws => .ok ⟨ws, stayOf w ws⟩ S1
  | none => .bad
theorem si_seq {tg : Expr} (ha : SE X Wx a ma) : SI X Wx tg a (dSeqI ma) := by
  obtain ⟨t1, p1, q1⟩ := ha.ex
  refine ⟨fun σ H R => iList X.K t1 σ H R ∨ iTup X.K t1 σ H R, ⟨fun pins s σ H R I h => ?_⟩, fun σ H μ ls S R hL hS h => ?_⟩
  · rcases h with h | h
    · exact (pi_list p1).run pins s σ H R I h
    · exact (pi_tup p1).run pins s σ H R I h
  · have hm : ∀ (P : W → Prop), (∀ w S1, ma ls S = .ok w S1 → P w) → P .non ∨ True := fun _ _ => .inr trivial
    unfold dSeqI at h
    cases e : ma ls S with
    | bad => rw [e] at h; exact False.elim h
    | exc x S1 =>
      rw [e] at h
      exact .inl (q1 σ H μ ls S _ hL hS (by rw [e]; exact h))
    | ok w S1 =>
      rw [e] at h
      dsimp only [Res.bind] at h
      split at h
      · rename_i ws ew
        by_cases ht : ∃ us, w = .tup us
        · obtain ⟨us, rfl⟩ := ht
          cases ew
          refine .inr (q1 σ H μ ls S _ hL hS ?_)
          rw [e]
          intro v H1 μ1 g1 s1 r1
          cases r1 with
          | @tup p xs _ a1 a2 =>
          refine ⟨p, rfl, ⟨xs, a1.t⟩, ?_⟩
          refine h _ H1 μ1 g1 s1 fun i H2 μ2 S2 g2 s2 _ => ⟨fun hi => ⟨xs, g2.sqt a1.t, by rw [a2.length]; exact hi⟩, fun w2 e2 => ?_⟩
          obtain ⟨v2, e3, r3⟩ := (a2.mono g2).get e2
          refine ⟨⟨xs, v2, g2.sqt a1.t, e3⟩, fun x H3 y => ?_⟩
          obtain ⟨rfl, y⟩ := y
          have := y xs (g2.sqt a1.t)
          rw [e3] at this
          cases this
          exact ⟨μ2, Gr.refl _ _, s2, r3⟩
        · have ew' : lstW S1 w = some ws := by
            cases w <;> first | exact ew | exact absurd ⟨_, rfl⟩ ht
          refine .inl (q1 σ H μ ls S _ hL hS ?_)
          rw [e]
          intro v H1 μ1 g1 s1 r1
          obtain ⟨p, xs, rfl, a1, a2⟩ := lst_of s1 ew' r1
          refine ⟨p, rfl, ⟨xs, a1⟩, ?_⟩
          refine h _ H1 μ1 g1 s1 fun i H2 μ2 S2 g2 s2 st => ?_
          have : ∃ ys, SqL X.K H2 p ys ∧ VrA X.K μ2 H2 ys ws := by
            cases r1 with
            | rol b1 b2 =>
              cases ew'
              exact ⟨_, (g2.rol b1).seq, b2.mono g2⟩
            | @loc n _ b1 =>
              have st' : S2[n]? = some (.lst ws) := st
              obtain ⟨p', ys, e1, _, e2, e3⟩ := s2.cellL st' (.loc (g2.mu _ _ b1))
              cases e1
              exact ⟨ys, .of e2, e3⟩
            | _ => exact absurd ew' (by simp [lstW])
          obtain ⟨ys, b1, b2⟩ := this
          refine ⟨fun hi => ⟨ys, b1, by rw [b2.length]; exact hi⟩, fun w2 e2 => ?_⟩
          obtain ⟨v2, e3, r3⟩ := b2.get e2
          refine ⟨⟨ys, v2, b1, e3⟩, fun x H3 y => ?_⟩
          obtain ⟨rfl, y⟩ := y
          have := y ys b1
          rw [e3] at this
          cases this
          exact ⟨μ2, Gr.refl _ _, s2, r3⟩
      · exact False.elim h
def rngW (lo : Int) (n : Nat) : List W := (List.range n).map fun (i : Nat) => W.int (lo + i)
omit Tb in
theorem rngW_get {lo : Int} {n i : Nat} {w : W} (h : (rngW lo n)[i]? = some w) : i < n ∧ w = .int (lo + i) := by
  unfold rngW at h
  rw [List.getElem?_map] at h
  by_cases hi : i < n
  · rw [List.getElem?_range hi] at h
    cases h
    exact ⟨hi, rfl⟩
  · rw [List.getElem?_eq_none (by simpa using hi)] at h
    cases h
omit Tb in
theorem rngW_len {lo : Int} {n : Nat} : (rngW lo n).length = n := by unfold rngW; simp
theorem jok_rng {K : PySem.W.Frag} {μ : Mu} {H : Hp} {lo : Int} {n : Nat} {st : Store → Prop} : Jok K μ H (Itr lo n) ⟨rngW lo n, st⟩ := fun i H2 μ2 S2 g2 s2 _ => by
  refine ⟨fun hi => ?_, fun w e => ?_⟩
  · have hi' : (rngW lo n).length ≤ i := hi
    rw [rngW_len] at hi'
    exact hi'
  · obtain ⟨h1, rfl⟩ := rngW_get e
    refine ⟨h1, fun x H3 y => ?_⟩
    obtain ⟨rfl, rfl⟩ := y
    exact ⟨μ2, Gr.refl _ _, s2, .int _⟩
def dRng1 (a : DE) : DI := fun ls S => (a ls S).bind fun w S1 => match w with
  | .int j => if -(2 ^ 62) ≤ j ∧ j < 2 ^ 62 then .ok ⟨rngW 0 j.toNat, fun _ => True⟩ S1 else .bad
  | _ => .bad
def dRng2 (a b : DE) : DI := fun ls S => (a ls S).bind fun w S1 => (b ls S1).bind fun w2 S2 => match w, w2 with
  | .int i, .int j => if -(2 ^ 62) ≤ i ∧ i < 2 ^ 62 ∧ -(2 ^ 62) ≤ j ∧ j < 2 ^ 62 then .ok ⟨rngW i (j - i).toNat, fun _ => True⟩ S2 else .bad
  | _, _ => .bad
theorem si_rng1 {tg : Expr} {p : Pos} (hm : X.mg "range" = none) (ha : SE X Wx a ma) (hg : Gl X "range" := by rfl) (hs : starEach [a] X.env = [(false, eval a X.env)] := by rfl) (hs' : starEach [a] X.env = (false, eval a X.env) :: starEach [] X.env := by rfl) : SI X Wx tg (.Call (.Name "range" p) [a] [] pos) (dRng1 ma) := by
  obtain ⟨t1, p1, q1⟩ := ha.ex
  refine ⟨_, pi_range1 hg hm (pa_cons p1 pa_nil hs') hs, fun σ H μ ls S R hL hS h => ?_⟩
  refine q1 σ H μ ls S _ hL hS (Bd.bind (fun w S1 v H1 μ1 g1 s1 r1 h1 => ?_) h)
  cases r1 with
  | int j =>
    dsimp only at h1
    split at h1
    · rename_i c
      exact ⟨j, rfl, c.1, c.2, h1 _ H1 μ1 (Gr.refl _ _) s1 jok_rng⟩
    · exact False.elim h1
  | _ => exact False.elim h1
/-! ### targets -/
abbrev DG := W → Lo → Option Lo
def dgName (i : Nat) : DG := fun w ls => some (ls.set i (some w))
structure SG (X : Cx) (tg : Expr) (sl : List Nat) (g : DG) : Prop where
  ex : ∃ t, PG X tg t ∧ ∀ σ H μ ls v w ls' (Q : St → Hp → Prop), LR X.K μ H σ ls → Vr X.K μ H v w → g w ls = some ls' →
    (∀ σ', LR X.K μ H σ' ls' → (∀ vs, (∀ j ∈ sl, j ∈ vs) → wipe σ' vs = wipe σ vs) → Q σ' H) → t v σ H Q
omit Tb in
theorem wipe_set {σ : St} {i : Nat} {x : Option V} : ∀ {vs : List Nat}, i ∈ vs → wipe (σ.set i x) vs = wipe σ vs
  | [], h => by cases h
  | v :: vs, h => by
    show (wipe (σ.set i x) vs).set v none = (wipe σ vs).set v none
    by_cases hi : i ∈ vs
    · rw [wipe_set hi]
    · have e : i = v := by
        rcases List.mem_cons.mp h with h | h
        · exact h
        · exact absurd h hi
      subst e
      have key : ∀ {us : List Nat}, i ∉ us → wipe (σ.set i x) us = (wipe σ us).set i x := fun {us} => by
        induction us with
        | nil => intro _; rfl
        | cons u us ih =>
          intro hu
          show (wipe (σ.set i x) us).set u none = ((wipe σ us).set u none).set i x
          have hne : i ≠ u := fun e => hu (by rw [e]; exact List.mem_cons_self)
          rw [ih fun z => hu (List.mem_cons_of_mem _ z), List.set_comm _ _ hne]
      rw [key hi, List.set_set]
omit Tb in
theorem sg_name {i : Nat} {x : Str} (hN : X.N.Nodup) (hi : X.N[i]? = some x := by rfl) (hx : Loc X.env.scope x := by first | exact Or.inl rfl | exact Or.inr rfl) (hf : X.fn x = true ∨ X.env.scope.names.lookup x = some .local := by first | exact .inl rfl | exact .inr rfl | assumption) : SG X (.Name x pos) [i] (dgName i) :=
  ⟨_, pg_name hN hi hx hf, fun σ H μ ls v w ls' Q hL r e q => by
    cases e
    exact q _ (hL.set r) fun vs h => wipe_set (h i (List.mem_singleton_self i))⟩
/-! ### for -/
open Classical in
noncomputable def dLoop (st : Store → Prop) (g : DG) (m : DS) : List W → Lo → Store → RS
  | [], ls, S => if st S then .nx ls S else .bad
  | w :: ws, ls, S => if st S then (match g w ls with
    | some ls0 => (match m ls0 S with
      | .nx ls1 S1 => dLoop st g m ws ls1 S1
      | .ct ls1 S1 => dLoop st g m ws ls1 S1
      | .bk ls1 S1 => .nx ls1 S1
      | r => r)
    | none => .bad) else .bad
def rsOfI (ls : Lo) (r : Res Src) (k : Src → Store → RS) : RS := match r with
  | .ok w S => k w S
  | .exc e S => .ex e ls S
  | .bad => .bad
noncomputable def dFor (it : DI) (g : DG) (m : DS) : DS := fun ls S => rsOfI ls (it ls S) fun src S1 => dLoop src.stay g m src.items ls S1
theorem ss_for {tg iter : Expr} {body : List Stmt} {sl : List Nat} {it : DI} {g : DG} {m : DS} (hp : PassesOwn (model X.prog X.w) X.A X.env X.xe) (hc : X.calm = true) (hi : SI X Wx tg iter it) (hg : SG X tg sl g) (hb : SSs X Wx body m)
    (hs : ∀ x, foldedSetIterable iter X.env x = pure x := by intro _; rfl) : SS X Wx (.For tg iter body [] pos) (dFor it g m) := by
  obtain ⟨wi, p1, q1⟩ := hi.ex
  obtain ⟨t2, p2, q2⟩ := hg.ex
  obtain ⟨t3, p3, q3⟩ := hb.ex
  refine ⟨_, ps_for hp hc p1 p2 p3 hs, fun σ H μ ls S D hL hS h => ?_⟩
  refine q1 σ H μ ls S _ hL hS ?_
  unfold dFor at h
  cases e : it ls S with
  | bad => rw [e] at h; exact h
  | exc x S1 =>
    rw [e] at h
    exact fun c d H1 μ1 g1 s1 r1 => h σ c d H1 μ1 g1 s1 (hL.mono g1) r1
  | ok src S1 =>
    rw [e] at h
    intro J H1 μ1 g1 s1 jk
    have h1 : BdS X Wx μ1 H1 (dLoop src.stay g m src.items ls S1) D := BdS.mono g1 h
    refine ⟨fun i k σ' H' => k = src.items.length - i ∧ i ≤ src.items.length ∧ ∃ μ' ls' S', Gr μ1 μ' H1 H' ∧ Sim X.K μ' S' H' ∧ LR X.K μ' H' σ' ls' ∧ BdS X Wx μ' H' (dLoop src.stay g m (src.items.drop i) ls' S') D,
      ⟨src.items.length, by simp, Nat.zero_le _, μ1, ls, S1, Gr.refl _ _, s1, hL.mono g1, by simpa using h1⟩, ?_⟩
    rintro i k σ' H' ⟨rfl, hle, μ', ls', S', g2, s2, l2, b2⟩
    by_cases hlt : i < src.items.length
    · rw [List.drop_eq_getElem_cons hlt] at b2
      unfold dLoop at b2
      split at b2
      · rename_i hst
        split at b2
        · rename_i ls0 e0
          obtain ⟨_, jj⟩ := jk i H' μ' S' g2 s2 hst
          obtain ⟨jgo, jy⟩ := jj _ (List.getElem?_eq_getElem hlt)
          refine .inr ⟨jgo, fun σ3 H3 => ∃ μ3 ls3 S3, Gr μ1 μ3 H1 H3 ∧ Sim X.K μ3 S3 H3 ∧ LR X.K μ3 H3 σ3 ls3 ∧ BdS X Wx μ3 H3 (dLoop src.stay g m (src.items.drop (i + 1)) ls3 S3) D, fun σ3 H3 n3 => ⟨_, by omega, rfl, hlt, n3⟩, fun x H3 y => ?_⟩
          obtain ⟨μ3, g3, s3, r3⟩ := jy x H3 y
          refine q2 σ' H3 μ3 ls' x _ ls0 _ (l2.mono g3) r3 e0 fun σ4 l4 _ => ?_
          refine q3 σ4 H3 μ3 ls0 S' _ l4 s3 ?_
          have b3 := BdS.mono g3 b2
          have g13 := g2.trans g3
          cases em : m ls0 S' with
          | nx lsa Sa =>
            rw [em] at b3
            exact fun σ5 H5 μ5 g5 s5 l5 => ⟨μ5, lsa, Sa, g13.trans g5, s5, l5, BdS.mono g5 b3⟩
          | ct lsa Sa =>
            rw [em] at b3
            exact fun σ5 H5 μ5 g5 s5 l5 => ⟨μ5, lsa, Sa, g13.trans g5, s5, l5, BdS.mono g5 b3⟩
          | bk lsa Sa => rw [em] at b3; exact b3
          | rt w Sa => rw [em] at b3; exact b3
          | ex w lsa Sa => rw [em] at b3; exact b3
          | bad => rw [em] at b3; exact b3
        · exact False.elim b2
      · exact False.elim b2
    · rw [List.drop_eq_nil_of_le (by omega)] at b2
      unfold dLoop at b2
      split at b2
      · rename_i hst
        obtain ⟨jj, _⟩ := jk i H' μ' S' g2 s2 hst
        exact .inl ⟨jj (by omega), b2 σ' H' μ' (Gr.refl _ _) s2 l2⟩
      · exact False.elim b2
end
end Fs
set_option maxHeartbeats 4000000
namespace Fs
open PySem L2
variable [Tb : Tabs]
/-- no exception is wanted -/
abbrev Wn : WE := fun _ _ _ _ => False
/-! ### readings that hang on the denotation alone -/
def cE (K : PySem.W.Frag) (mg : Str → Option Value) (Wx : WE) (m : DE) : TE := fun σ H Q => ∃ μ ls S, LR K μ H σ ls ∧ Sim K μ S H ∧ Bd K mg (RlV K) (fun c d H' => Wx c d σ H') μ H (m ls S) Q
def cT (K : PySem.W.Frag) (mg : Str → Option Value) (Wx : WE) (m : DT) : TT := fun σ H Q => ∃ μ ls S, LR K μ H σ ls ∧ Sim K μ S H ∧ Bd K mg RlB (fun c d H' => Wx c d σ H') μ H (m ls S) Q
def cG (K : PySem.W.Frag) (sl : List Nat) (g : DG) : TG := fun v σ H Q => ∃ μ ls w ls', LR K μ H σ ls ∧ Vr K μ H v w ∧ g w ls = some ls' ∧ ∀ σ', LR K μ H σ' ls' → (∀ vs, (∀ j ∈ sl, j ∈ vs) → wipe σ' vs = wipe σ vs) → Q σ' H
section
variable {X : Cx} {Wx : WE} {a b c e : Expr} {es : List Expr} {ma mb mc : DE} {pos : Pos} {st : Stmt} {sts : List Stmt}
theorem SE.canon (h : SE X Wx e ma) : PE X e (cE X.K X.mg Wx ma) := by
  obtain ⟨t, p, q⟩ := h.ex
  exact ⟨fun pins s σ H Q I ⟨μ, ls, S, h1, h2, h3⟩ => p.run pins s σ H Q I (q σ H μ ls S Q h1 h2 h3)⟩
theorem SG.canon {sl : List Nat} {g : DG} (h : SG X e sl g) : PG X e (cG X.K sl g) := by
  obtain ⟨t, p, q⟩ := h.ex
  exact ⟨fun pins s σ H v u Q I r ⟨μ, ls, w, ls', h1, h2, h3, h4⟩ => p.run pins s σ H v u Q I r (q σ H μ ls v w ls' Q h1 h2 h3 h4)⟩
structure STs (X : Cx) (Wx : WE) (es : List Expr) (m : DT) : Prop where
  ex : ∃ t, PTs X es t ∧ ∀ σ H μ ls S Q, LR X.K μ H σ ls → Sim X.K μ S H → BdB X Wx σ μ H (m ls S) Q → t σ H Q
def dYes : DT := fun _ S => .ok true S
theorem sts_nil : STs X Wx [] dYes := ⟨_, pts_nil, fun σ H μ ls S Q hL hS h => h true H μ (Gr.refl _ _) hS rfl⟩
theorem sts_one {m : DT} (h : ST X Wx e m) : STs X Wx [e] m := by
  obtain ⟨t, p, q⟩ := h.ex
  exact ⟨t, pts_one p, q⟩
theorem STs.canon {m : DT} (h : STs X Wx es m) : PTs X es (cT X.K X.mg Wx m) := by
  obtain ⟨t, p, q⟩ := h.ex
  exact ⟨fun pins s σ H Q I ⟨μ, ls, S, h1, h2, h3⟩ => p.run pins s σ H Q I (q σ H μ ls S Q h1 h2 h3)⟩
end
/-! ### list comprehensions -/
def wipeW (ls : Lo) : List Nat → Lo
  | [] => ls
  | v :: vs => (wipeW ls vs).set v none
omit Tb in
theorem LR.wipe {K : PySem.W.Frag} {μ : Mu} {H : Hp} {σ : St} {ls : Lo} (h : LR K μ H σ ls) : ∀ vs : List Nat, LR K μ H (wipe σ vs) (wipeW ls vs)
  | [] => h
  | v :: vs => by
    have ih := h.wipe vs
    refine ⟨by show ((L2.wipe σ vs).set v none).length = ((wipeW ls vs).set v none).length; rw [List.length_set, List.length_set, ih.len], fun i w e => ?_⟩
    have e' : ((wipeW ls vs).set v none)[i]? = some (some w) := e
    show ∃ x, ((L2.wipe σ vs).set v none)[i]? = some (some x) ∧ _
    by_cases hi : v = i
    · subst hi
      by_cases hl : v < (wipeW ls vs).length
      · rw [List.getElem?_set_self hl] at e'; cases e'
      · rw [List.getElem?_eq_none (by rw [List.length_set]; omega)] at e'; cases e'
    · rw [List.getElem?_set_ne hi] at e' ⊢
      exact ih.at_ i w e'
omit Tb in
theorem wipe_wipe (σ : St) : ∀ (vs us : List Nat), (∀ j ∈ us, j ∈ vs) → wipe (wipe σ vs) us = wipe σ vs
  | vs, [], _ => rfl
  | vs, u :: us, h => by
    show (wipe (wipe σ vs) us).set u none = wipe σ vs
    rw [wipe_wipe σ vs us fun j hj => h j (List.mem_cons_of_mem _ hj)]
    have key : ∀ {ws : List Nat}, u ∈ ws → (wipe σ ws).set u none = wipe σ ws := fun {ws} => by
      induction ws with
      | nil => intro h; cases h
      | cons w ws ih =>
        intro hu
        show ((wipe σ ws).set w none).set u none = (wipe σ ws).set w none
        by_cases e : w = u
        · subst e; rw [List.set_set]
        · have hu' : u ∈ ws := by
            rcases List.mem_cons.mp hu with q | q
            · exact absurd q.symm e
            · exact q
          rw [List.set_comm _ _ e, ih hu']
    exact key (h u List.mem_cons_self)
open Classical in
noncomputable def dLcLoop (st : Store → Prop) (g : DG) (tt : DT) (te : DE) (D : Nat) (ls : Lo) : List W → Store → Res W
  | [], S => if st S then .ok (.loc D) S else .bad
  | w :: ws, S => if st S then (match g w ls with
    | some ls2 => (tt ls2 S).bind fun b S1 => if b = true then (te ls2 S1).bind fun y S2 => (match cellLst S2[D]? with
        | some acc => if acc.length < sizeLine then dLcLoop st g tt te D ls ws (S2.set D (.lst (acc ++ [y]))) else .bad
        | none => .bad) else dLcLoop st g tt te D ls ws S1
    | none => .bad) else .bad
noncomputable def dLc (it : DI) (g : DG) (vs : List Nat) (tt : DT) (te : DE) : DE := fun ls S => (it ls S).bind fun src S1 => dLcLoop src.stay g tt te S1.length (wipeW ls vs) src.items (S1 ++ [.lst []])
section
variable {X : Cx} {elt tg iter : Expr} {ifs : List Expr} {scope : Scope} {own : List (Str × Nat)} {pos : Pos} {it : DI} {g : DG} {tt : DT} {te : DE} {sl : List Nat}
theorem lc_real {wi : TI} (q1 : ∀ σ H μ ls S (R : It → Hp → Prop), LR X.K μ H σ ls → Sim X.K μ S H → Bd X.K X.mg (RlI X.K) (fun c d H' => Wn c d σ H') μ H (it ls S) R → wi σ H R) (vs : List Nat) (hsl : ∀ j ∈ sl, j ∈ vs)
    {σ : St} {H : Hp} {μ : Mu} {ls : Lo} {S : Store} {Q : VK} (hL : LR X.K μ H σ ls) (hS : Sim X.K μ S H) (h : BdV X Wn σ μ H (dLc it g vs tt te ls S) Q) :
    tLc wi (cG X.K sl g) (cT X.K X.mg Wn tt) (cE X.K X.mg Wn te) vs σ H Q := by
  refine q1 σ H μ ls S _ hL hS (Bd.bind (fun src S1 J H1 μ1 g1 s1 jk h1 => ?_) h)
  intro D hD
  have gD := gr_cell (u := HO.lst []) s1 hD
  have sD := s1.alloc (c := .lst []) hD ⟨[], upd_same, .nil⟩
  refine ⟨fun i k H' => k = src.items.length - i ∧ i ≤ src.items.length ∧ ∃ μ' S', Gr (muAdd μ1 S1.length D) μ' (upd H1 D (.lst [])) H' ∧ Sim X.K μ' S' H' ∧ BdV X Wn σ μ' H' (dLcLoop src.stay g tt te S1.length (wipeW ls vs) (src.items.drop i) S') Q,
    ⟨src.items.length, by simp, Nat.zero_le _, _, _, Gr.refl _ _, sD, by simpa using Bd.mono gD h1⟩, ?_⟩
  rintro i k H' ⟨rfl, hle, μ', S', g2, s2, b2⟩
  have gg := gD.trans g2
  by_cases hlt : i < src.items.length
  · rw [List.drop_eq_getElem_cons hlt] at b2
    unfold dLcLoop at b2
    split at b2
    · rename_i hst
      split at b2
      · rename_i ls2 e2
        obtain ⟨_, jj⟩ := jk i H' μ' S' gg s2 hst
        obtain ⟨jgo, jy⟩ := jj _ (List.getElem?_eq_getElem hlt)
        refine .inr ⟨jgo, fun H3 => ∃ μ3 S3, Gr (muAdd μ1 S1.length D) μ3 (upd H1 D (.lst [])) H3 ∧ Sim X.K μ3 S3 H3 ∧ BdV X Wn σ μ3 H3 (dLcLoop src.stay g tt te S1.length (wipeW ls vs) (src.items.drop (i + 1)) S3) Q, fun H3 n3 => ⟨_, by omega, rfl, hlt, n3⟩, fun x H3 y => ?_⟩
        obtain ⟨μ3, g3, s3, r3⟩ := jy x H3 y
        refine ⟨μ3, wipeW ls vs, _, ls2, ((hL.mono g1).mono (gg.trans g3)).wipe vs, r3, e2, fun σ4 l4 w4 => ⟨?_, ?_⟩⟩
        · rw [w4 vs hsl, wipe_wipe σ vs vs fun _ z => z]
        refine ⟨μ3, ls2, S', l4, s3, Bd.bind (fun bb S4 b' H4 μ4 g4 s4 r4 h4 => ?_) (Bd.mono g3 b2)⟩
        cases r4
        cases bb with
        | false =>
          refine iteF ?_
          exact ⟨μ4, S4, g2.trans (g3.trans g4), s4, h4⟩
        | true =>
          refine iteT ⟨μ4, ls2, S4, l4.mono g4, s4, Bd.bind (fun yw S5 yv H5 μ5 g5 s5 r5 h5 => ?_) h4⟩
          split at h5
          · rename_i acc ea
            split at h5
            · rename_i hz
              have g25 := g2.trans (g3.trans (g4.trans g5))
              have hm : μ5 S1.length = some D := g25.mu _ _ muAdd_same
              obtain ⟨p, xs, e1, hm', e3, e4⟩ := s5.cellL (cellLst_some ea) (.loc hm)
              cases e1
              refine ⟨xs, e3, by rw [e4.length]; exact hz, μ5, _, g25.trans (gr_write s5 hm), s5.write (c := .lst _) hm ⟨_, upd_same, (e4.mono (gr_write s5 hm)).append (.cons (r5.mono (gr_write s5 hm)) .nil)⟩, Bd.mono (gr_write s5 hm) h5⟩
            · exact False.elim h5
          · exact False.elim h5
      · exact False.elim b2
    · exact False.elim b2
  · rw [List.drop_eq_nil_of_le (by omega)] at b2
    unfold dLcLoop at b2
    split at b2
    · rename_i hst
      obtain ⟨jj, _⟩ := jk i H' μ' S' gg s2 hst
      exact .inl ⟨jj (by omega), b2 _ H' μ' (Gr.refl _ _) s2 (.loc (g2.mu _ _ muAdd_same))⟩
    · exact False.elim b2
theorem se_lc (hc : X.calm = true) (hN : X.N.Nodup) (hi : SI X Wn tg iter it) (ok : BlkOk X.N X.env.scope scope own)
    (hg : ∀ (s : Shared) (H : Hp) (C : Addr) (cl : List (Str × Addr)) (fp : List Addr), SG (X.blk s H scope (compEnvC scope cl C X.env) fp) tg sl g) (ht : ∀ (s : Shared) (H : Hp) (C : Addr) (cl : List (Str × Addr)) (fp : List Addr), STs (X.blk s H scope (compEnvC scope cl C X.env) fp) Wn ifs tt)
    (he : ∀ (s : Shared) (H : Hp) (C : Addr) (cl : List (Str × Addr)) (fp : List Addr), SE (X.blk s H scope (compEnvC scope cl C X.env) fp) Wn elt te) (hsl : ∀ j ∈ sl, j ∈ own.map (·.2) := by decide) (hs : ∀ x, foldedSetIterable iter X.env x = pure x := by intro _; rfl) :
    SE X Wn (.ListComp elt [⟨tg, iter, ifs, 0⟩] scope pos) (dLc it g (own.map (·.2)) tt te) := by
  obtain ⟨wi, p1, q1⟩ := hi.ex
  exact ⟨_, pe_lc (g := cG X.K sl g) (tt := cT X.K X.mg Wn tt) (te := cE X.K X.mg Wn te) hc hN p1 ok (fun s H C cl fp => (hg s H C cl fp).canon) (fun s H C cl fp => (ht s H C cl fp).canon) (fun s H C cl fp => (he s H C cl fp).canon) hs, fun σ H μ ls S Q hL hS h => lc_real q1 _ hsl hL hS h⟩
theorem ss_setLc {i : Nat} {y : Str} {py spos : Pos} (hc : X.calm = true) (hN : X.N.Nodup)
    (hi : SI X Wn tg iter it) (ok : BlkOk X.N X.env.scope scope own)
    (hg : ∀ (s : Shared) (H : Hp) (C : Addr) (cl : List (Str × Addr)) (fp : List Addr), SG (X.blk s H scope (compEnvC scope cl C X.env) fp) tg sl g) (ht : ∀ (s : Shared) (H : Hp) (C : Addr) (cl : List (Str × Addr)) (fp : List Addr), STs (X.blk s H scope (compEnvC scope cl C X.env) fp) Wn ifs tt)
    (he : ∀ (s : Shared) (H : Hp) (C : Addr) (cl : List (Str × Addr)) (fp : List Addr), SE (X.blk s H scope (compEnvC scope cl C X.env) fp) Wn elt te) (hy : X.N[i]? = some y := by rfl) (hyl : X.env.scope.names.lookup y = some .local := by rfl)
    (hsw : swapsWith (.ListComp elt [⟨tg, iter, ifs, 0⟩] scope pos) (some (.Name y py)) spos.line X.env = pure true := by exact sw_true rfl rfl rfl (by decide +kernel)) (hsl : ∀ j ∈ sl, j ∈ own.map (·.2) := by decide) (hs : ∀ x, foldedSetIterable iter X.env x = pure x := by intro _; rfl) :
    SS X Wn (.Assign [.Name y py] (.ListComp elt [⟨tg, iter, ifs, 0⟩] scope pos) spos) (dSet i (dLc it g (own.map (·.2)) tt te)) := by
  obtain ⟨wi, p1, q1⟩ := hi.ex
  refine ⟨_, ps_setLc (g := cG X.K sl g) (tt := cT X.K X.mg Wn tt) (te := cE X.K X.mg Wn te) hc hN hy hyl hsw p1 ok (fun s H C cl fp => (hg s H C cl fp).canon) (fun s H C cl fp => (ht s H C cl fp).canon) (fun s H C cl fp => (he s H C cl fp).canon) hs, fun σ H μ ls S D hL hS h => ?_⟩
  refine lc_real q1 _ hsl hL hS (rs_bd hL (fun w S1 v H1 μ1 g s r h1 => ?_) h)
  exact h1 _ H1 μ1 (Gr.refl _ _) s ((hL.mono g).set r)
end
/-! ### unary minus -/
def gNeg (x : W) (S : Store) : Res W := match x with
  | .int i => .ok (.int (-i)) S
  | _ => .bad
section
variable {X : Cx} {Wx : WE} {a b c e : Expr} {es : List Expr} {ma mb mc : DE} {pos : Pos}
theorem se_neg (ha : SE X Wx a ma) : SE X Wx (.UnaryOp .USub a pos) (dUn gNeg ma) := by
  obtain ⟨t1, p1, q1⟩ := ha.ex
  refine ⟨_, pe_un un_neg p1, fun σ H μ ls S Q hL hS h => ?_⟩
  refine q1 σ H μ ls S _ hL hS (Bd.bind (fun w1 S1 v1 H1 μ1 g1 s1 r1 h1 => ?_) h)
  cases r1 with
  | int i => exact ⟨i, rfl, h1 _ H1 μ1 (Gr.refl _ _) s1 (.int _)⟩
  | _ => exact False.elim h1
end
/-! ### slices -/
abbrev DO := Lo → Store → Res (Option Int)
def dNoP : DO := fun _ S => .ok none S
def dPart (a : DE) : DO := fun ls S => (a ls S).bind fun w S1 => match w with
  | .int i => .ok (some i) S1
  | _ => .bad
def cutW (xs : List W) (lo hi : Option Int) : List W := (xs.drop (HT.sIx xs.length 0 lo)).take (HT.sIx xs.length xs.length hi - HT.sIx xs.length 0 lo)
def gSlice (x : W) (lo hi : Option Int) (S : Store) : Res W := match x with
  | .tup ws => .ok (.tup (cutW ws lo hi)) S
  | .str z => if z.length ≤ sizeLine then .ok (.str (cutS z lo hi)) S else .bad
  | x => match lstW S x with
    | some ws => .ok (.loc S.length) (S ++ [.lst (cutW ws lo hi)])
    | none => .bad
def dSl (a : DE) (lo hi : DO) : DE := fun ls S => (a ls S).bind fun x S1 => (lo ls S1).bind fun l S2 => (hi ls S2).bind fun h S3 => gSlice x l h S3
abbrev RlO : Mu → Hp → Option Int → Option Int → Prop := fun _ _ a b => a = b
structure SOp (X : Cx) (Wx : WE) (e : Option Expr) (m : DO) : Prop where
  ex : ∃ t, PO X e t ∧ ∀ σ H μ ls S Q, LR X.K μ H σ ls → Sim X.K μ S H → Bd X.K X.mg RlO (fun c d H' => Wx c d σ H') μ H (m ls S) Q → t σ H Q
section
variable {X : Cx} {Wx : WE} {a e : Expr} {ma : DE} {pos p2 : Pos} {lo hi : Option Expr} {ml mh : DO}
theorem so_none : SOp X Wx none dNoP := ⟨_, po_none, fun σ H μ ls S Q hL hS h => h none H μ (Gr.refl _ _) hS rfl⟩
theorem so_some (ha : SE X Wx a ma) : SOp X Wx (some a) (dPart ma) := by
  obtain ⟨t1, p1, q1⟩ := ha.ex
  refine ⟨_, po_some p1, fun σ H μ ls S Q hL hS h => ?_⟩
  refine q1 σ H μ ls S _ hL hS (Bd.bind (fun w1 S1 v1 H1 μ1 g1 s1 r1 h1 => ?_) h)
  cases r1 with
  | int i => exact ⟨i, rfl, h1 _ H1 μ1 (Gr.refl _ _) s1 rfl⟩
  | _ => exact False.elim h1
omit Tb in
theorem cutW_rel {K : PySem.W.Frag} {μ : Mu} {H : Hp} {ws : List W} {xs : List V} (h : VrA K μ H xs ws) (lo hi : Option Int) : VrA K μ H (cutV xs lo hi) (cutW ws lo hi) := by
  unfold cutV cutW
  rw [h.length]
  exact (h.drop _).take _
theorem se_slice (ha : SE X Wx a ma) (hl : SOp X Wx lo ml) (hh : SOp X Wx hi mh) : SE X Wx (.Subscript a (.Slice lo hi none p2) pos) (dSl ma ml mh) := by
  obtain ⟨t1, p1, q1⟩ := ha.ex
  obtain ⟨t2, p2, q2⟩ := hl.ex
  obtain ⟨t3, p3, q3⟩ := hh.ex
  refine ⟨_, pe_slice (SlR.or Tx.sl_tupD (SlR.or sl_str sl_list)) p1 p2 p3, fun σ H μ ls S Q hL hS h => ?_⟩
  refine q1 σ H μ ls S _ hL hS (Bd.bind (fun w1 S1 v1 H1 μ1 g1 s1 r1 h1 => ?_) h)
  refine q2 σ H1 μ1 ls S1 _ (hL.mono g1) s1 (Bd.bind (fun l S2 l' H2 μ2 g2 s2 r2 h2 => ?_) h1)
  cases r2
  refine q3 σ H2 μ2 ls S2 _ ((hL.mono g1).mono g2) s2 (Bd.bind (fun u S3 u' H3 μ3 g3 s3 r3 h3 => ?_) h2)
  cases r3
  have r1 := (r1.mono g2).mono g3
  unfold gSlice at h3
  split at h3
  · cases r1 with
    | @tup p xs _ a1 a2 =>
      refine .inl ⟨p, xs, rfl, a1.t, fun hw => ?_, fun _ q o hq ho => h3 (.ref q) _ μ3 (gr_new hq) (s3.new hq) (.tup (.of upd_same ho) ((cutW_rel a2 l u).mono (gr_new hq)))⟩
      have e : cutV xs l u = xs := by
        unfold cutV
        rw [hw.1, hw.2]
        simp
      have := cutW_rel a2 l u
      rw [e] at this
      exact h3 _ H3 μ3 (Gr.refl _ _) s3 (.tup a1 this)
  · cases r1
    split at h3
    · rename_i hz
      exact .inr (.inl ⟨_, rfl, hz, h3 _ H3 μ3 (Gr.refl _ _) s3 (.str _)⟩)
    · exact False.elim h3
  · split at h3
    · rename_i ws ew
      obtain ⟨p, xs, rfl, a1, a2⟩ := lst_of s3 ew r1
      exact .inr (.inr ⟨p, xs, rfl, a1, fun q hq => h3 (.ref q) _ _ (gr_cell s3 hq) (s3.alloc hq ⟨_, upd_same, (cutW_rel a2 l u).mono (gr_cell s3 hq)⟩) (.loc muAdd_same)⟩)
    · exact False.elim h3
end
/-! ### calls of defs, and defs -/
def spF (K : PySem.W.Frag) (mg : Str → Option Value) (n : Nat) (f : DF) : Sp := fun vs H Q _ => ∃ μ ws S, ws.length = n ∧ Sim K μ S H ∧ VrA K μ H vs ws ∧ Bd K mg (RlV K) E0 μ H (f ws S) Q
structure Fok (P : Program) (w : World) (K : PySem.W.Frag) (mg : Str → Option Value) (x : Str) (k : Nat) (ps : List Str) (fn : DF) : Prop where
  ex : ∃ (f : Addr) (fd : FuncData), (∀ base, TbOk base mg → FnOk P w K mg base CX0 k f fd ps (spF K mg ps.length fn)) ∧ mg x = some (.ref f) ∧ PySem.W.keepIn K (.ref f) = true ∧ Binds K fd ps [] ∧
    ∀ (s : Shared) (us : List Value), us.length = ps.length → BindsTo s fd ⟨us, []⟩ (ps.zip us)
theorem Fok.mono {P : Program} {w : World} {K : PySem.W.Frag} {mg : Str → Option Value} {x : Str} {k k' : Nat} {ps : List Str} {fn : DF} (h : Fok P w K mg x k ps fn) (hk : k ≤ k') : Fok P w K mg x k' ps fn := by
  obtain ⟨f, fd, h2, h3⟩ := h.ex
  exact ⟨f, fd, fun base tb => (h2 base tb).mono hk, h3⟩
section
variable {X : Cx} {e : Expr} {es : List Expr} {pos p : Pos}
theorem se_call {x : Str} {k k' : Nat} {ps : List Str} {fn : DF} {as : List DE} (h : Fok X.prog X.w X.K X.mg x k ps fn) (hr : Room k' X.A) (ha : SA X Wn (e :: es) (dArgs as)) (hk : k ≤ k' := by first | omega | (simp only [Nat.add_eq]; omega)) (tb : TbOk X.base X.mg := by assumption) (hg : Gl X x := by rfl) (hdb : (x == ("__debug__" : Str)) = false := by decide) (he : starEach (e :: es) X.env = (false, eval e X.env) :: starEach es X.env := by rfl) (hpl : (backTo pos (starEach es X.env)).any (·.1) = false := by rfl)
    (hn : as.length = ps.length := by rfl) : SE X Wn (.Call (.Name x p) (e :: es) [] pos) (dCall fn as) := by
  obtain ⟨f, fd, h2, h3, h4, h5, _⟩ := h.ex
  obtain ⟨t1, p1, q1⟩ := ha.ex
  refine ⟨_, pe_call (h2 X.base tb) (hr.mono hk) hg h3 h4 h5 .nil pass0 p1 hdb he hpl, fun σ H μ ls S Q hL hS h => ?_⟩
  have hlen : ∀ ws S', dArgs as ls S = .ok ws S' → ws.length = ps.length := by
    have key : ∀ (as : List DE) ls S ws S', dArgs as ls S = .ok ws S' → ws.length = as.length := fun as => by
      induction as with
      | nil => intro ls S ws S' e; cases e; rfl
      | cons a r ih =>
        intro ls S ws S' e
        unfold dArgs at e
        cases e1 : a ls S with
        | ok w S1 =>
          rw [e1] at e
          dsimp only [Res.bind] at e
          cases e2 : dArgs r ls S1 with
          | ok us S2 =>
            rw [e2] at e
            cases e
            rw [List.length_cons, List.length_cons, ih _ _ _ _ e2]
          | exc _ _ => rw [e2] at e; cases e
          | bad => rw [e2] at e; cases e
        | exc _ _ => rw [e1] at e; cases e
        | bad => rw [e1] at e; cases e
    intro ws S' e
    rw [key as ls S ws S' e, hn]
  unfold dCall at h
  cases ea : dArgs as ls S with
  | bad => rw [ea] at h; exact False.elim h
  | exc x S1 =>
    rw [ea] at h
    exact q1 σ H μ ls S _ hL hS (by rw [ea]; exact h)
  | ok ws S1 =>
    rw [ea] at h
    refine q1 σ H μ ls S _ hL hS ?_
    rw [ea]
    intro vs H1 μ1 g1 s1 r1
    rw [List.append_nil]
    exact ⟨μ1, ws, S1, hlen ws S1 ea, s1, r1, Bd.mono g1 h⟩
end
omit Tb in
theorem huE {k : Nat} {A : Around} (h : Room k A) : A.units + 64 < cLine := by
  have := h.un
  omega
omit Tb in
theorem huI {k : Nat} {A : Around} (h : Room k A) : A.units + 65 < cLine := by
  have := h.un
  omega
/-- where a def of the text stands -/
structure DefAt (K : PySem.W.Frag) (mg : Str → Option Value) (x : Str) (st : Stmt) : Prop where
  ex : ∃ f fd, FunD K x x (defArgs st) (defBody st) (defScope st) [] [] f fd ∧ mg x = some (.ref f)
section
variable {P : Program} {w : World} {K : PySem.W.Frag} {mg : Str → Option Value}
theorem Fok.of {x : Str} {st : Stmt} {k : Nat} {N ps : List Str} {m : DS} (F : DefAt K mg x st) (S : FnScope N ps (defScope st))
    (hbind : ∀ (kV doc pm : Value) (an : Option Addr) (cdv ct : Value) (us : List Value), us.length = ps.length → bindArgs (PySem.W.fnOf x x (defArgs st) (defBody st) (defScope st) .none kV doc pm an cdv ct) ⟨us, []⟩ = pure (ps.zip us))
    (hb : ∀ (base : Heap) (tb : TbOk base mg) (f : Addr) (cdv : Value) (A : Around) (outer : List Env) (s : Shared) (H : Hp) (E : XK), Room k (A.deeper (PyProof.Rows.envOfC x (defScope st) s.heap.objs.size f cdv)) →
      SSs (cxOf CX0 P w K mg base N x (defScope st) f cdv A outer s H E).nox Wn (defBody st) m) : Fok P w K mg x (k + 1) ps (mkF N.length ps.length m) := by
  obtain ⟨f, fd, F, hm⟩ := F.ex
  refine ⟨f, fd, fun base tb => ?_, hm, F.kp, F.bindsN hbind, F.bindsA hbind⟩
  refine F.ok S (fun vs H Q E h => ?_) (fun cdv A outer s H vs Q E hr h => ?_)
  · obtain ⟨μ, ws, S', h1, h2, h3, h4⟩ := h
    rw [h3.length, h1]
  · obtain ⟨μ, ws, S', h1, h2, h3, h4⟩ := h
    obtain ⟨t, p, q⟩ := (hb base tb f cdv A outer s H E hr).ex
    refine ⟨t, PSs.nox p, q _ H μ (startW N.length ws) S' _ (LR.atStart h3) h2 ?_⟩
    unfold mkF at h4
    rw [if_pos h1] at h4
    cases e : m (startW N.length ws) S' with
    | nx ls S1 => rw [e] at h4; exact fun σ' H' μ' g s l => h4 .non H' μ' g s .non
    | rt v S1 => rw [e] at h4; exact h4
    | bk ls S1 => rw [e] at h4; exact False.elim h4
    | ct ls S1 => rw [e] at h4; exact False.elim h4
    | ex x ls S1 => rw [e] at h4; exact fun σ' c d H' μ' g s l r => h4 c d H' μ' g s r
    | bad => rw [e] at h4; exact False.elim h4
/-- nothing is promised of what is stuck -/
theorem Fok.none {x : Str} {st : Stmt} {k : Nat} {ps : List Str} (F : DefAt K mg x st)
    (hbind : ∀ (kV doc pm : Value) (an : Option Addr) (cdv ct : Value) (us : List Value), us.length = ps.length → bindArgs (PySem.W.fnOf x x (defArgs st) (defBody st) (defScope st) .none kV doc pm an cdv ct) ⟨us, []⟩ = pure (ps.zip us)) :
    Fok P w K mg x k ps (fun _ _ => .bad) := by
  obtain ⟨f, fd, F, hm⟩ := F.ex
  have no : ∀ vs H Q E, ¬ spF K mg ps.length (fun _ _ => .bad) vs H Q E := fun vs H Q E h => by
    obtain ⟨μ, ws, S', h1, h2, h3, h4⟩ := h
    exact h4
  exact ⟨f, fd, fun base _ => ⟨fun vs H Q E h => absurd h (no vs H Q E), fun A outer s H args us vs Q E _ _ _ _ h => absurd h (no vs H Q E)⟩, hm, F.kp, F.bindsN hbind, F.bindsA hbind⟩
/-- the law: from a read-only list of ints to True -/
def spLaw (K : PySem.W.Frag) : Sp := fun vs H Q _ => ∃ (a : Addr) (ns : List Int), vs = [.ref a] ∧ RoL K H a (ns.map V.int) ∧ ns.length ≤ 63 ∧ (∀ P, Tabs.is P → GxR.TabG H P) ∧ ∀ H', Q (.bl true) H'
theorem law_fin {f : Addr} {k : Nat} {fn : DF} (O : Fok P w K mg "law" k ["script"] fn) (hm : mg "law" = some (.ref f))
    (h : ∀ ns : List Int, ns.length ≤ 63 → ∃ S, fn [.rol (ns.map W.int)] [] = .ok (.bl true) S) :
    ∃ fd : FuncData, (∀ (s : Shared) (v : Value), BindsTo s fd ⟨[v], []⟩ [("script", v)]) ∧ ∀ base : Heap, K.In base → base.Ns mainGlobals mg → TbOk base mg → FnOk P w K mg base CX0 k f fd ["script"] (spLaw K) := by
  obtain ⟨f', fd, h2, h3, h4, h5, h6⟩ := O.ex
  rw [hm] at h3
  cases h3
  refine ⟨fd, fun s v => h6 s [v] rfl, fun base _ _ tb => (h2 base tb).imp fun vs H Q E hs => ?_⟩
  obtain ⟨a, ns, rfl, hr, hl, tt, q⟩ := hs
  obtain ⟨S, e⟩ := h ns hl
  refine ⟨fun _ => none, [.rol (ns.map W.int)], [], rfl, Sim.empty tt, .cons (.rol hr (VrA.ints ns)) .nil, ?_⟩
  rw [e]
  intro v H' μ' g s r
  cases r
  exact q H'
end
end Fs
set_option maxHeartbeats 4000000
namespace Fs
open PySem L2
/-! ### evaluation, step by step -/
section
variable {α β : Type} {g g' : W → W → Store → Res W} {u : W → Store → Res W} {a b c : DE} {as : List DE} {ls : Lo} {S : Store} {w x y : W} {ws : List W} {tt t1 t2 : DT} {m n : DS} {f : DF} {i : Nat}
@[simp] theorem c_ev : dC w ls S = .ok w S := rfl
def argK2 (w : W) : Res (List W) → Res (List W)
  | .ok ws S => .ok (w :: ws) S
  | .exc e S => .exc e S
  | .bad => .bad
def argK (r : List DE) (ls : Lo) : Res W → Res (List W)
  | .ok w S => argK2 w (dArgs r ls S)
  | .exc e S => .exc e S
  | .bad => .bad
@[simp] theorem args_nil : dArgs [] ls S = .ok [] S := rfl
@[simp] theorem args_ev : dArgs (a :: as) ls S = argK as ls (a ls S) := by
  unfold dArgs argK
  cases a ls S <;> first | rfl | skip
  rename_i w S1
  show (dArgs as ls S1).bind _ = argK2 w (dArgs as ls S1)
  cases dArgs as ls S1 <;> rfl
@[simp] theorem argK_ok : argK as ls (.ok w S) = argK2 w (dArgs as ls S) := rfl
@[simp] theorem argK2_ok : argK2 w (.ok ws S) = .ok (w :: ws) S := rfl
def tupK : Res (List W) → Res W
  | .ok ws S => if ws.length ≤ sizeLine then .ok (.tup ws) S else .bad
  | .exc e S => .exc e S
  | .bad => .bad
@[simp] theorem tup_ev : dTup as ls S = tupK (dArgs as ls S) := by
  unfold dTup tupK
  cases dArgs as ls S <;> rfl
theorem tupK_ok (h : ws.length ≤ 100) : tupK (.ok ws S) = .ok (.tup ws) S := if_pos (Nat.le_trans h (by decide))
def lstK : Res (List W) → Res W
  | .ok ws S => if ws.length ≤ sizeLine then .ok (.loc S.length) (S ++ [.lst ws]) else .bad
  | .exc e S => .exc e S
  | .bad => .bad
@[simp] theorem lst_ev : dLst as ls S = lstK (dArgs as ls S) := by
  unfold dLst lstK
  cases dArgs as ls S <;> rfl
theorem lstK_ok (h : ws.length ≤ 100) : lstK (.ok ws S) = .ok (.loc S.length) (S ++ [.lst ws]) := if_pos (Nat.le_trans h (by decide))
@[simp] theorem tupK_ok' : tupK (.ok ws S) = if ws.length ≤ sizeLine then .ok (.tup ws) S else .bad := rfl
@[simp] theorem lstK_ok' : lstK (.ok ws S) = if ws.length ≤ sizeLine then .ok (.loc S.length) (S ++ [.lst ws]) else .bad := rfl
def opK2 (g : W → W → Store → Res W) (x : W) : Res W → Res W
  | .ok y S => g x y S
  | .exc e S => .exc e S
  | .bad => .bad
def opK (g : W → W → Store → Res W) (b : DE) (ls : Lo) : Res W → Res W
  | .ok x S => opK2 g x (b ls S)
  | .exc e S => .exc e S
  | .bad => .bad
@[simp] theorem op_ev : dOp g a b ls S = opK g b ls (a ls S) := by
  unfold dOp opK
  cases a ls S <;> first | rfl | skip
  rename_i w S1
  show (b ls S1).bind _ = opK2 g w (b ls S1)
  cases b ls S1 <;> rfl
@[simp] theorem opK_ok : opK g b ls (.ok x S) = opK2 g x (b ls S) := rfl
@[simp] theorem opK2_ok : opK2 g x (.ok y S) = g x y S := rfl
def unK (u : W → Store → Res W) : Res W → Res W
  | .ok y S => u y S
  | .exc e S => .exc e S
  | .bad => .bad
@[simp] theorem un_ev : dUn u a ls S = unK u (a ls S) := by
  unfold dUn unK
  cases a ls S <;> rfl
@[simp] theorem unK_ok : unK u (.ok x S) = u x S := rfl
def callK (f : DF) : Res (List W) → Res W
  | .ok y S => f y S
  | .exc e S => .exc e S
  | .bad => .bad
@[simp] theorem call_ev : dCall f as ls S = callK f (dArgs as ls S) := by
  unfold dCall callK
  cases dArgs as ls S <;> rfl
@[simp] theorem callK_ok : callK f (.ok ws S) = f ws S := rfl
def tK : Res W → Res Bool
  | .ok y S => gTruth y S
  | .exc e S => .exc e S
  | .bad => .bad
@[simp] theorem t_ev : dT a ls S = tK (a ls S) := by
  unfold dT tK
  cases a ls S <;> rfl
@[simp] theorem tK_ok : tK (.ok x S) = gTruth x S := rfl
@[simp] theorem tru_bl {k : Bool} : gTruth (.bl k) S = .ok k S := rfl
@[simp] theorem tru_non : gTruth .non S = .ok false S := rfl
@[simp] theorem tru_int {k : Int} : gTruth (.int k) S = .ok (k != 0) S := rfl
@[simp] theorem tru_tup : gTruth (.tup ws) S = .ok (!ws.isEmpty) S := rfl
def tbK : Res W → Res Bool
  | .ok (.bl b) S => .ok b S
  | .exc e S => .exc e S
  | _ => .bad
@[simp] theorem tb_ev : dTB a ls S = tbK (a ls S) := by
  unfold dTB tbK
  cases a ls S <;> first | rfl | skip
  rename_i w S1
  cases w <;> rfl
@[simp] theorem tbK_ok {k : Bool} : tbK (.ok (.bl k) S) = .ok k S := rfl
def ntK : Res Bool → Res Bool
  | .ok k S => .ok (!k) S
  | .exc e S => .exc e S
  | .bad => .bad
@[simp] theorem nt_ev : dNotT tt ls S = ntK (tt ls S) := by
  unfold dNotT ntK
  cases tt ls S <;> rfl
@[simp] theorem ntK_ok {k : Bool} : ntK (.ok k S) = .ok (!k) S := rfl
def aK (t2 : DT) (ls : Lo) : Res Bool → Res Bool
  | .ok true S => t2 ls S
  | .ok false S => .ok false S
  | .exc e S => .exc e S
  | .bad => .bad
@[simp] theorem and_ev : dAndT t1 t2 ls S = aK t2 ls (t1 ls S) := by
  unfold dAndT aK
  cases t1 ls S <;> first | rfl | skip
  rename_i k S1
  cases k <;> rfl
@[simp] theorem aK_t : aK t2 ls (.ok true S) = t2 ls S := rfl
@[simp] theorem aK_f : aK t2 ls (.ok false S) = .ok false S := rfl
def oK (t2 : DT) (ls : Lo) : Res Bool → Res Bool
  | .ok true S => .ok true S
  | .ok false S => t2 ls S
  | .exc e S => .exc e S
  | .bad => .bad
@[simp] theorem or_ev : dOrT t1 t2 ls S = oK t2 ls (t1 ls S) := by
  unfold dOrT oK
  cases t1 ls S <;> first | rfl | skip
  rename_i k S1
  cases k <;> rfl
@[simp] theorem oK_t : oK t2 ls (.ok true S) = .ok true S := rfl
@[simp] theorem oK_f : oK t2 ls (.ok false S) = t2 ls S := rfl
def avK2 (b : DE) (ls : Lo) (x : W) : Res Bool → Res W
  | .ok true S => b ls S
  | .ok false S => .ok x S
  | .exc e S => .exc e S
  | .bad => .bad
def avK (b : DE) (ls : Lo) : Res W → Res W
  | .ok x S => avK2 b ls x (gTruth x S)
  | .exc e S => .exc e S
  | .bad => .bad
@[simp] theorem av_ev : dAnd a b ls S = avK b ls (a ls S) := by
  unfold dAnd avK
  cases a ls S <;> first | rfl | skip
  rename_i k S1
  show (gTruth k S1).bind _ = avK2 b ls k (gTruth k S1)
  cases gTruth k S1 <;> first | rfl | skip
  rename_i q S2
  cases q <;> rfl
@[simp] theorem avK_ok : avK b ls (.ok x S) = avK2 b ls x (gTruth x S) := rfl
@[simp] theorem avK2_t : avK2 b ls x (.ok true S) = b ls S := rfl
@[simp] theorem avK2_f : avK2 b ls x (.ok false S) = .ok x S := rfl
def ovK2 (b : DE) (ls : Lo) (x : W) : Res Bool → Res W
  | .ok true S => .ok x S
  | .ok false S => b ls S
  | .exc e S => .exc e S
  | .bad => .bad
def ovK (b : DE) (ls : Lo) : Res W → Res W
  | .ok x S => ovK2 b ls x (gTruth x S)
  | .exc e S => .exc e S
  | .bad => .bad
@[simp] theorem ov_ev : dOr a b ls S = ovK b ls (a ls S) := by
  unfold dOr ovK
  cases a ls S <;> first | rfl | skip
  rename_i k S1
  show (gTruth k S1).bind _ = ovK2 b ls k (gTruth k S1)
  cases gTruth k S1 <;> first | rfl | skip
  rename_i q S2
  cases q <;> rfl
@[simp] theorem ovK_ok : ovK b ls (.ok x S) = ovK2 b ls x (gTruth x S) := rfl
@[simp] theorem ovK2_t : ovK2 b ls x (.ok true S) = .ok x S := rfl
@[simp] theorem ovK2_f : ovK2 b ls x (.ok false S) = b ls S := rfl
def nvK2 : Res Bool → Res W
  | .ok k S => .ok (.bl (!k)) S
  | .exc e S => .exc e S
  | .bad => .bad
def nvK : Res W → Res W
  | .ok x S => nvK2 (gTruth x S)
  | .exc e S => .exc e S
  | .bad => .bad
@[simp] theorem nv_ev : dNot a ls S = nvK (a ls S) := by
  unfold dNot nvK
  cases a ls S <;> first | rfl | skip
  rename_i k S1
  show (gTruth k S1).bind _ = nvK2 (gTruth k S1)
  cases gTruth k S1 <;> rfl
@[simp] theorem nvK_ok : nvK (.ok x S) = nvK2 (gTruth x S) := rfl
@[simp] theorem nvK2_ok {k : Bool} : nvK2 (.ok k S) = .ok (.bl (!k)) S := rfl
def ieK (a b : DE) (ls : Lo) : Res Bool → Res W
  | .ok true S => a ls S
  | .ok false S => b ls S
  | .exc e S => .exc e S
  | .bad => .bad
@[simp] theorem ie_ev : dIfE tt a b ls S = ieK a b ls (tt ls S) := by
  unfold dIfE ieK
  cases tt ls S <;> first | rfl | skip
  rename_i k S1
  cases k <;> rfl
@[simp] theorem ieK_t : ieK a b ls (.ok true S) = a ls S := rfl
@[simp] theorem ieK_f : ieK a b ls (.ok false S) = b ls S := rfl
def chK4 (g' : W → W → Store → Res W) (y : W) : Res W → Res W
  | .ok z S => g' y z S
  | .exc e S => .exc e S
  | .bad => .bad
def chK3 (g' : W → W → Store → Res W) (y : W) (c : DE) (ls : Lo) : Res W → Res W
  | .ok (.bl true) S => chK4 g' y (c ls S)
  | .ok (.bl false) S => .ok (.bl false) S
  | .exc e S => .exc e S
  | _ => .bad
def chK2 (g g' : W → W → Store → Res W) (x : W) (c : DE) (ls : Lo) : Res W → Res W
  | .ok y S => chK3 g' y c ls (g x y S)
  | .exc e S => .exc e S
  | .bad => .bad
def chK (g g' : W → W → Store → Res W) (b c : DE) (ls : Lo) : Res W → Res W
  | .ok x S => chK2 g g' x c ls (b ls S)
  | .exc e S => .exc e S
  | .bad => .bad
@[simp] theorem ch_ev : dChain g g' a b c ls S = chK g g' b c ls (a ls S) := by
  unfold dChain chK
  cases a ls S <;> first | rfl | skip
  rename_i x S1
  show (b ls S1).bind _ = chK2 g g' x c ls (b ls S1)
  cases b ls S1 <;> first | rfl | skip
  rename_i y S2
  show (g x y S2).bind _ = chK3 g' y c ls (g x y S2)
  cases g x y S2 <;> first | rfl | skip
  rename_i k S3
  cases k <;> first | rfl | skip
  rename_i k
  cases k <;> first | rfl | skip
  show (c ls S3).bind _ = chK4 g' y (c ls S3)
  cases c ls S3 <;> rfl
@[simp] theorem chK_ok : chK g g' b c ls (.ok x S) = chK2 g g' x c ls (b ls S) := rfl
@[simp] theorem chK2_ok : chK2 g g' x c ls (.ok y S) = chK3 g' y c ls (g x y S) := rfl
@[simp] theorem chK3_t : chK3 g' y c ls (.ok (.bl true) S) = chK4 g' y (c ls S) := rfl
@[simp] theorem chK3_f : chK3 g' y c ls (.ok (.bl false) S) = .ok (.bl false) S := rfl
@[simp] theorem chK4_ok : chK4 g' y (.ok w S) = g' y w S := rfl
/-! statements -/
@[simp] theorem nx_ev : dNx ls S = .nx ls S := rfl
@[simp] theorem bk_ev : dBk ls S = .bk ls S := rfl
@[simp] theorem ct_ev : dCt ls S = .ct ls S := rfl
@[simp] theorem rtn_ev : dRetN ls S = .rt .non S := rfl
def sqK (n : DS) : RS → RS
  | .nx ls S => n ls S
  | r => r
@[simp] theorem sq_ev : dSeq m n ls S = sqK n (m ls S) := by
  unfold dSeq sqK
  cases m ls S <;> rfl
@[simp] theorem sqK_nx : sqK n (.nx ls S) = n ls S := rfl
@[simp] theorem sqK_rt : sqK n (.rt w S) = .rt w S := rfl
@[simp] theorem sqK_bk : sqK n (.bk ls S) = .bk ls S := rfl
@[simp] theorem sqK_ct : sqK n (.ct ls S) = .ct ls S := rfl
def ifK (m n : DS) (ls : Lo) : Res Bool → RS
  | .ok true S => m ls S
  | .ok false S => n ls S
  | .exc e S => .ex e ls S
  | .bad => .bad
@[simp] theorem if_ev : dIf tt m n ls S = ifK m n ls (tt ls S) := by
  unfold dIf rsOfB ifK
  cases tt ls S <;> first | rfl | skip
  rename_i k S1
  cases k <;> rfl
@[simp] theorem ifK_t : ifK m n ls (.ok true S) = m ls S := rfl
@[simp] theorem ifK_f : ifK m n ls (.ok false S) = n ls S := rfl
def setK (i : Nat) (ls : Lo) : Res W → RS
  | .ok w S => .nx (ls.set i (some w)) S
  | .exc e S => .ex e ls S
  | .bad => .bad
@[simp] theorem set_ev : dSet i a ls S = setK i ls (a ls S) := by
  unfold dSet rsOf setK
  cases a ls S <;> rfl
@[simp] theorem setK_ok : setK i ls (.ok w S) = .nx (ls.set i (some w)) S := rfl
def exK (ls : Lo) : Res W → RS
  | .ok _ S => .nx ls S
  | .exc e S => .ex e ls S
  | .bad => .bad
@[simp] theorem ex_ev : dExpr a ls S = exK ls (a ls S) := by
  unfold dExpr rsOf exK
  cases a ls S <;> rfl
@[simp] theorem exK_ok : exK ls (.ok w S) = .nx ls S := rfl
def rtK (ls : Lo) : Res W → RS
  | .ok w S => .rt w S
  | .exc e S => .ex e ls S
  | .bad => .bad
@[simp] theorem rt_ev : dRet a ls S = rtK ls (a ls S) := by
  unfold dRet rsOf rtK
  cases a ls S <;> rfl
@[simp] theorem rtK_ok : rtK ls (.ok w S) = .rt w S := rfl
def sxL (n : Nat) (i : Int) (w : W) (ls : Lo) (S : Store) : Option Cell → RS
  | some (.lst ws) => (match ixN ws.length i with
    | some j => .nx ls (S.set n (.lst (ws.set j w)))
    | none => .bad)
  | _ => .bad
def sxK4 (w x y : W) (ls : Lo) (S : Store) : RS := match x, y with
  | .loc n, .int i => sxL n i w ls S S[n]?
  | _, _ => .bad
def sxK3 (w x : W) (ls : Lo) : Res W → RS
  | .ok y S => sxK4 w x y ls S
  | .exc e S => .ex e ls S
  | .bad => .bad
def sxK2 (w : W) (b : DE) (ls : Lo) : Res W → RS
  | .ok x S => sxK3 w x ls (b ls S)
  | .exc e S => .ex e ls S
  | .bad => .bad
def sxK (a b : DE) (ls : Lo) : Res W → RS
  | .ok w S => sxK2 w b ls (a ls S)
  | .exc e S => .ex e ls S
  | .bad => .bad
@[simp] theorem sx_ev : dSetIx a b c ls S = sxK a b ls (c ls S) := by
  unfold dSetIx sxK
  cases c ls S <;> rfl
@[simp] theorem sxK_ok : sxK a b ls (.ok w S) = sxK2 w b ls (a ls S) := rfl
@[simp] theorem sxK2_ok : sxK2 w b ls (.ok x S) = sxK3 w x ls (b ls S) := rfl
@[simp] theorem sxK3_ok {i : Int} {n : Nat} : sxK3 w (.loc n) ls (.ok (.int i) S) = sxL n i w ls S S[n]? := rfl
@[simp] theorem sxL_ok {i : Int} {n : Nat} : sxL n i w ls S (some (.lst ws)) = (match ixN ws.length i with
    | some j => .nx ls (S.set n (.lst (ws.set j w)))
    | none => .bad) := rfl
def apK2 (x : W) : Res W → Res W
  | .ok w S => gAppend x w S
  | .exc e S => .exc e S
  | .bad => .bad
def apK (b : DE) (ls : Lo) : Res W → Res W
  | .ok x S => (match lstW S x with
    | none => .bad
    | some _ => apK2 x (b ls S))
  | .exc e S => .exc e S
  | .bad => .bad
@[simp] theorem ap_ev : dAppend a b ls S = apK b ls (a ls S) := by
  unfold dAppend apK
  cases a ls S <;> first | rfl | skip
  rename_i x S1
  show (match lstW S1 x with | none => Res.bad | some _ => (b ls S1).bind _) = _
  dsimp only
  cases lstW S1 x <;> first | rfl | skip
  show (b ls S1).bind _ = apK2 x (b ls S1)
  cases b ls S1 <;> rfl
@[simp] theorem apK2_ok : apK2 x (.ok w S) = gAppend x w S := rfl
theorem apK_ok {us : List W} (h : lstW S x = some us) : apK b ls (.ok x S) = apK2 x (b ls S) := by
  show (match lstW S x with | none => Res.bad | some _ => apK2 x (b ls S)) = _
  rw [h]
/-! slices -/
def slK3 (x : W) (l : Option Int) : Res (Option Int) → Res W
  | .ok h S => gSlice x l h S
  | .exc e S => .exc e S
  | .bad => .bad
def slK2 (x : W) (hi : DO) (ls : Lo) : Res (Option Int) → Res W
  | .ok l S => slK3 x l (hi ls S)
  | .exc e S => .exc e S
  | .bad => .bad
def slK (lo hi : DO) (ls : Lo) : Res W → Res W
  | .ok x S => slK2 x hi ls (lo ls S)
  | .exc e S => .exc e S
  | .bad => .bad
variable {lo hi : DO} {l h : Option Int}
@[simp] theorem sl_ev : dSl a lo hi ls S = slK lo hi ls (a ls S) := by
  unfold dSl slK
  cases a ls S <;> first | rfl | skip
  rename_i x S1
  show (lo ls S1).bind _ = slK2 x hi ls (lo ls S1)
  cases lo ls S1 <;> first | rfl | skip
  rename_i l S2
  show (hi ls S2).bind _ = slK3 x l (hi ls S2)
  cases hi ls S2 <;> rfl
@[simp] theorem slK_ok : slK lo hi ls (.ok x S) = slK2 x hi ls (lo ls S) := rfl
@[simp] theorem slK2_ok : slK2 x hi ls (.ok l S) = slK3 x l (hi ls S) := rfl
@[simp] theorem slK3_ok : slK3 x l (.ok h S) = gSlice x l h S := rfl
@[simp] theorem nop_ev : dNoP ls S = .ok none S := rfl
def partK : Res W → Res (Option Int)
  | .ok (.int i) S => .ok (some i) S
  | .exc e S => .exc e S
  | _ => .bad
@[simp] theorem part_ev : dPart a ls S = partK (a ls S) := by
  unfold dPart partK
  cases a ls S <;> first | rfl | skip
  rename_i x S1
  cases x <;> rfl
@[simp] theorem partK_ok {i : Int} : partK (.ok (.int i) S) = .ok (some i) S := rfl
/-! defs -/
def mkK : RS → Res W
  | .nx _ S' => .ok .non S'
  | .rt w S' => .ok w S'
  | .ex e _ S' => .exc e S'
  | _ => .bad
@[simp] theorem mkK_nx : mkK (.nx ls S) = .ok .non S := rfl
@[simp] theorem mkK_rt : mkK (.rt w S) = .ok w S := rfl
theorem mk_ev {N np : Nat} (h : ws.length = np) : mkF N np m ws S = mkK (m (startW N ws) S) := by
  unfold mkF mkK
  rw [if_pos h]
  all_goals (cases m (startW N ws) S <;> rfl)
@[simp] theorem mk1_ev {N : Nat} {x1 : W} : mkF N 1 m [x1] S = mkK (m (some x1 :: List.replicate (N - 1) none) S) := mk_ev rfl
@[simp] theorem mk2_ev {N : Nat} {x1 x2 : W} : mkF N 2 m [x1, x2] S = mkK (m (some x1 :: some x2 :: List.replicate (N - 2) none) S) := mk_ev rfl
@[simp] theorem mk3_ev {N : Nat} {x1 x2 x3 : W} : mkF N 3 m [x1, x2, x3] S = mkK (m (some x1 :: some x2 :: some x3 :: List.replicate (N - 3) none) S) := mk_ev rfl
@[simp] theorem mk4_ev {N : Nat} {x1 x2 x3 x4 : W} : mkF N 4 m [x1, x2, x3, x4] S = mkK (m (some x1 :: some x2 :: some x3 :: some x4 :: List.replicate (N - 4) none) S) := mk_ev rfl
@[simp] theorem mk5_ev {N : Nat} {x1 x2 x3 x4 x5 : W} : mkF N 5 m [x1, x2, x3, x4, x5] S = mkK (m (some x1 :: some x2 :: some x3 :: some x4 :: some x5 :: List.replicate (N - 5) none) S) := mk_ev rfl
/-! operations -/
@[simp] theorem add_ii {i j : Int} : gAdd (.int i) (.int j) S = .ok (.int (i + j)) S := rfl
@[simp] theorem sub_ii {i j : Int} : gSub (.int i) (.int j) S = .ok (.int (i - j)) S := rfl
@[simp] theorem lt_ii {i j : Int} : gLt (.int i) (.int j) S = .ok (.bl (decide (i < j))) S := rfl
@[simp] theorem le_ii {i j : Int} : gLe (.int i) (.int j) S = .ok (.bl (decide (i ≤ j))) S := rfl
@[simp] theorem gt_ii {i j : Int} : gGt (.int i) (.int j) S = .ok (.bl (decide (j < i))) S := rfl
@[simp] theorem ge_ii {i j : Int} : gGe (.int i) (.int j) S = .ok (.bl (decide (j ≤ i))) S := rfl
@[simp] theorem eq_ii {i j : Int} : gEq (.int i) (.int j) S = .ok (.bl (decide (i = j))) S := by
  show Res.ok (W.bl (false != decide (i = j))) S = _
  rw [false_bne]
@[simp] theorem eq_ss {i j : Str} : gEq (.str i) (.str j) S = .ok (.bl (decide (i = j))) S := by
  show Res.ok (W.bl (false != decide (i = j))) S = _
  rw [false_bne]
@[simp] theorem eq_bb {i j : Bool} : gEq (.bl i) (.bl j) S = .ok (.bl (decide (i = j))) S := by
  show Res.ok (W.bl (false != decide (i = j))) S = _
  rw [false_bne]
@[simp] theorem ne_ii {i j : Int} : gNe (.int i) (.int j) S = .ok (.bl (!decide (i = j))) S := by
  show Res.ok (W.bl (true != decide (i = j))) S = _
  rw [true_bne]
@[simp] theorem ne_ss {i j : Str} : gNe (.str i) (.str j) S = .ok (.bl (!decide (i = j))) S := by
  show Res.ok (W.bl (true != decide (i = j))) S = _
  rw [true_bne]
@[simp] theorem ne_bb {i j : Bool} : gNe (.bl i) (.bl j) S = .ok (.bl (!decide (i = j))) S := by
  show Res.ok (W.bl (true != decide (i = j))) S = _
  rw [true_bne]
theorem mul_ii {i j : Int} (h : -(2 ^ 64) < j ∧ j < 2 ^ 64) : gMul (.int i) (.int j) S = .ok (.int (i * j)) S := if_pos (.inr h)
theorem mul_ii' {i j : Int} (h : -(2 ^ 64) < i ∧ i < 2 ^ 64) : gMul (.int i) (.int j) S = .ok (.int (i * j)) S := if_pos (.inl h)
theorem mod_ii {i j : Int} (h : 0 < j) : gMod (.int i) (.int j) S = .ok (.int (i % j)) S := if_pos h
theorem div_ii {i j : Int} (h : 0 < j ∧ j.natAbs.log2 < 9000) : gDiv (.int i) (.int j) S = .ok (.int (i / j)) S := if_pos h
@[simp] theorem neg_i {i : Int} : gNeg (.int i) S = .ok (.int (-i)) S := rfl
@[simp] theorem abs_i {i : Int} : gAbs [.int i] S = .ok (.int (if i < 0 then -i else i)) S := rfl
@[simp] theorem max_ii {i j : Int} : gMax [.int i, .int j] S = .ok (.int (if j > i then j else i)) S := rfl
@[simp] theorem min_ii {i j : Int} : gMin [.int i, .int j] S = .ok (.int (if j < i then j else i)) S := rfl
@[simp] theorem int_i {i : Int} : gInt [.int i] S = .ok (.int i) S := rfl
@[simp] theorem int_b {k : Bool} : gInt [.bl k] S = .ok (.int (if k then 1 else 0)) S := rfl
@[simp] theorem isN_non : gIsN .non .non S = .ok (.bl true) S := rfl
@[simp] theorem notN_non : gNotN .non .non S = .ok (.bl false) S := rfl
/-! subscripts of written sequences -/
@[simp] theorem var0_ev  {w : W} {r : Lo} {S : Store} : dVar 0 (some w :: r) S = .ok w S := rfl
@[simp] theorem set0_ev {α : Type}  {x y : α} {r : List α} : List.set (x :: r) 0 y = y :: r := rfl
@[simp] theorem var1_ev {x0 : Option W} {w : W} {r : Lo} {S : Store} : dVar 1 (x0 :: some w :: r) S = .ok w S := rfl
@[simp] theorem set1_ev {α : Type} {x0 : α} {x y : α} {r : List α} : List.set (x0 :: x :: r) 1 y = x0 :: y :: r := rfl
@[simp] theorem var2_ev {x0 : Option W} {x1 : Option W} {w : W} {r : Lo} {S : Store} : dVar 2 (x0 :: x1 :: some w :: r) S = .ok w S := rfl
@[simp] theorem set2_ev {α : Type} {x0 : α} {x1 : α} {x y : α} {r : List α} : List.set (x0 :: x1 :: x :: r) 2 y = x0 :: x1 :: y :: r := rfl
@[simp] theorem var3_ev {x0 : Option W} {x1 : Option W} {x2 : Option W} {w : W} {r : Lo} {S : Store} : dVar 3 (x0 :: x1 :: x2 :: some w :: r) S = .ok w S := rfl
@[simp] theorem set3_ev {α : Type} {x0 : α} {x1 : α} {x2 : α} {x y : α} {r : List α} : List.set (x0 :: x1 :: x2 :: x :: r) 3 y = x0 :: x1 :: x2 :: y :: r := rfl
@[simp] theorem var4_ev {x0 : Option W} {x1 : Option W} {x2 : Option W} {x3 : Option W} {w : W} {r : Lo} {S : Store} : dVar 4 (x0 :: x1 :: x2 :: x3 :: some w :: r) S = .ok w S := rfl
@[simp] theorem set4_ev {α : Type} {x0 : α} {x1 : α} {x2 : α} {x3 : α} {x y : α} {r : List α} : List.set (x0 :: x1 :: x2 :: x3 :: x :: r) 4 y = x0 :: x1 :: x2 :: x3 :: y :: r := rfl
@[simp] theorem var5_ev {x0 : Option W} {x1 : Option W} {x2 : Option W} {x3 : Option W} {x4 : Option W} {w : W} {r : Lo} {S : Store} : dVar 5 (x0 :: x1 :: x2 :: x3 :: x4 :: some w :: r) S = .ok w S := rfl
@[simp] theorem set5_ev {α : Type} {x0 : α} {x1 : α} {x2 : α} {x3 : α} {x4 : α} {x y : α} {r : List α} : List.set (x0 :: x1 :: x2 :: x3 :: x4 :: x :: r) 5 y = x0 :: x1 :: x2 :: x3 :: x4 :: y :: r := rfl
@[simp] theorem var6_ev {x0 : Option W} {x1 : Option W} {x2 : Option W} {x3 : Option W} {x4 : Option W} {x5 : Option W} {w : W} {r : Lo} {S : Store} : dVar 6 (x0 :: x1 :: x2 :: x3 :: x4 :: x5 :: some w :: r) S = .ok w S := rfl
@[simp] theorem set6_ev {α : Type} {x0 : α} {x1 : α} {x2 : α} {x3 : α} {x4 : α} {x5 : α} {x y : α} {r : List α} : List.set (x0 :: x1 :: x2 :: x3 :: x4 :: x5 :: x :: r) 6 y = x0 :: x1 :: x2 :: x3 :: x4 :: x5 :: y :: r := rfl
@[simp] theorem var7_ev {x0 : Option W} {x1 : Option W} {x2 : Option W} {x3 : Option W} {x4 : Option W} {x5 : Option W} {x6 : Option W} {w : W} {r : Lo} {S : Store} : dVar 7 (x0 :: x1 :: x2 :: x3 :: x4 :: x5 :: x6 :: some w :: r) S = .ok w S := rfl
@[simp] theorem set7_ev {α : Type} {x0 : α} {x1 : α} {x2 : α} {x3 : α} {x4 : α} {x5 : α} {x6 : α} {x y : α} {r : List α} : List.set (x0 :: x1 :: x2 :: x3 :: x4 :: x5 :: x6 :: x :: r) 7 y = x0 :: x1 :: x2 :: x3 :: x4 :: x5 :: x6 :: y :: r := rfl
@[simp] theorem var8_ev {x0 : Option W} {x1 : Option W} {x2 : Option W} {x3 : Option W} {x4 : Option W} {x5 : Option W} {x6 : Option W} {x7 : Option W} {w : W} {r : Lo} {S : Store} : dVar 8 (x0 :: x1 :: x2 :: x3 :: x4 :: x5 :: x6 :: x7 :: some w :: r) S = .ok w S := rfl
@[simp] theorem set8_ev {α : Type} {x0 : α} {x1 : α} {x2 : α} {x3 : α} {x4 : α} {x5 : α} {x6 : α} {x7 : α} {x y : α} {r : List α} : List.set (x0 :: x1 :: x2 :: x3 :: x4 :: x5 :: x6 :: x7 :: x :: r) 8 y = x0 :: x1 :: x2 :: x3 :: x4 :: x5 :: x6 :: x7 :: y :: r := rfl
@[simp] theorem var9_ev {x0 : Option W} {x1 : Option W} {x2 : Option W} {x3 : Option W} {x4 : Option W} {x5 : Option W} {x6 : Option W} {x7 : Option W} {x8 : Option W} {w : W} {r : Lo} {S : Store} : dVar 9 (x0 :: x1 :: x2 :: x3 :: x4 :: x5 :: x6 :: x7 :: x8 :: some w :: r) S = .ok w S := rfl
@[simp] theorem set9_ev {α : Type} {x0 : α} {x1 : α} {x2 : α} {x3 : α} {x4 : α} {x5 : α} {x6 : α} {x7 : α} {x8 : α} {x y : α} {r : List α} : List.set (x0 :: x1 :: x2 :: x3 :: x4 :: x5 :: x6 :: x7 :: x8 :: x :: r) 9 y = x0 :: x1 :: x2 :: x3 :: x4 :: x5 :: x6 :: x7 :: x8 :: y :: r := rfl
@[simp] theorem var10_ev {x0 : Option W} {x1 : Option W} {x2 : Option W} {x3 : Option W} {x4 : Option W} {x5 : Option W} {x6 : Option W} {x7 : Option W} {x8 : Option W} {x9 : Option W} {w : W} {r : Lo} {S : Store} : dVar 10 (x0 :: x1 :: x2 :: x3 :: x4 :: x5 :: x6 :: x7 :: x8 :: x9 :: some w :: r) S = .ok w S := rfl
@[simp] theorem set10_ev {α : Type} {x0 : α} {x1 : α} {x2 : α} {x3 : α} {x4 : α} {x5 : α} {x6 : α} {x7 : α} {x8 : α} {x9 : α} {x y : α} {r : List α} : List.set (x0 :: x1 :: x2 :: x3 :: x4 :: x5 :: x6 :: x7 :: x8 :: x9 :: x :: r) 10 y = x0 :: x1 :: x2 :: x3 :: x4 :: x5 :: x6 :: x7 :: x8 :: x9 :: y :: r := rfl
@[simp] theorem var11_ev {x0 : Option W} {x1 : Option W} {x2 : Option W} {x3 : Option W} {x4 : Option W} {x5 : Option W} {x6 : Option W} {x7 : Option W} {x8 : Option W} {x9 : Option W} {x10 : Option W} {w : W} {r : Lo} {S : Store} : dVar 11 (x0 :: x1 :: x2 :: x3 :: x4 :: x5 :: x6 :: x7 :: x8 :: x9 :: x10 :: some w :: r) S = .ok w S := rfl
@[simp] theorem set11_ev {α : Type} {x0 : α} {x1 : α} {x2 : α} {x3 : α} {x4 : α} {x5 : α} {x6 : α} {x7 : α} {x8 : α} {x9 : α} {x10 : α} {x y : α} {r : List α} : List.set (x0 :: x1 :: x2 :: x3 :: x4 :: x5 :: x6 :: x7 :: x8 :: x9 :: x10 :: x :: r) 11 y = x0 :: x1 :: x2 :: x3 :: x4 :: x5 :: x6 :: x7 :: x8 :: x9 :: x10 :: y :: r := rfl
@[simp] theorem var12_ev {x0 : Option W} {x1 : Option W} {x2 : Option W} {x3 : Option W} {x4 : Option W} {x5 : Option W} {x6 : Option W} {x7 : Option W} {x8 : Option W} {x9 : Option W} {x10 : Option W} {x11 : Option W} {w : W} {r : Lo} {S : Store} : dVar 12 (x0 :: x1 :: x2 :: x3 :: x4 :: x5 :: x6 :: x7 :: x8 :: x9 :: x10 :: x11 :: some w :: r) S = .ok w S := rfl
@[simp] theorem set12_ev {α : Type} {x0 : α} {x1 : α} {x2 : α} {x3 : α} {x4 : α} {x5 : α} {x6 : α} {x7 : α} {x8 : α} {x9 : α} {x10 : α} {x11 : α} {x y : α} {r : List α} : List.set (x0 :: x1 :: x2 :: x3 :: x4 :: x5 :: x6 :: x7 :: x8 :: x9 :: x10 :: x11 :: x :: r) 12 y = x0 :: x1 :: x2 :: x3 :: x4 :: x5 :: x6 :: x7 :: x8 :: x9 :: x10 :: x11 :: y :: r := rfl
theorem ixn0 {n : Nat} : ixN (n + 1) (0 : Int) = some 0 := by
  unfold ixN
  iterate 2 rw [if_pos (by omega)]
  rfl
theorem at0_ev {α : Type}  {x : α} {r : List α} : L2.atI (x :: r) (0 : Int) = some x := by
  unfold L2.atI
  rw [show (x :: r).length = r.length + 1 from rfl, ixn0]
  rfl
theorem ixn1 {n : Nat} : ixN (n + 2) (1 : Int) = some 1 := by
  unfold ixN
  iterate 2 rw [if_pos (by omega)]
  rfl
theorem at1_ev {α : Type} {x0 : α} {x : α} {r : List α} : L2.atI (x0 :: x :: r) (1 : Int) = some x := by
  unfold L2.atI
  rw [show (x0 :: x :: r).length = r.length + 2 from rfl, ixn1]
  rfl
theorem ixn2 {n : Nat} : ixN (n + 3) (2 : Int) = some 2 := by
  unfold ixN
  iterate 2 rw [if_pos (by omega)]
  rfl
theorem at2_ev {α : Type} {x0 : α} {x1 : α} {x : α} {r : List α} : L2.atI (x0 :: x1 :: x :: r) (2 : Int) = some x := by
  unfold L2.atI
  rw [show (x0 :: x1 :: x :: r).length = r.length + 3 from rfl, ixn2]
  rfl
theorem ixn3 {n : Nat} : ixN (n + 4) (3 : Int) = some 3 := by
  unfold ixN
  iterate 2 rw [if_pos (by omega)]
  rfl
theorem at3_ev {α : Type} {x0 : α} {x1 : α} {x2 : α} {x : α} {r : List α} : L2.atI (x0 :: x1 :: x2 :: x :: r) (3 : Int) = some x := by
  unfold L2.atI
  rw [show (x0 :: x1 :: x2 :: x :: r).length = r.length + 4 from rfl, ixn3]
  rfl
theorem ix_t {i : Int} (h : L2.atI ws i = some w) : gIx (.tup ws) (.int i) S = .ok w S := by
  show (match L2.atI ws i with | some w => Res.ok w S | none => Res.bad) = _
  rw [h]
theorem ix_l {i : Int} {us : List W} (h : lstW S x = some us) (h2 : L2.atI us i = some w) : gIx x (.int i) S = .ok w S := by
  cases x <;> first | (exact absurd (show (none : Option (List W)) = some us from h) (by simp); done) | skip
  · show (match lstW S (.rol _) with | some ws => (match L2.atI ws i with | some w => Res.ok w S | none => Res.bad) | none => Res.bad) = _
    rw [h]
    dsimp only
    rw [h2]
  · show (match lstW S (.loc _) with | some ws => (match L2.atI ws i with | some w => Res.ok w S | none => Res.bad) | none => Res.bad) = _
    rw [h]
    dsimp only
    rw [h2]
theorem ixt0 {x0 : W} : gIx (.tup (x0 :: ws)) (.int 0) S = .ok x0 S := ix_t at0_ev
theorem ixt1 {x0 x1 : W} : gIx (.tup (x0 :: x1 :: ws)) (.int 1) S = .ok x1 S := ix_t at1_ev
theorem ixt2 {x0 x1 x2 : W} : gIx (.tup (x0 :: x1 :: x2 :: ws)) (.int 2) S = .ok x2 S := ix_t at2_ev
theorem lst_loc {n : Nat} (h : S[n]? = some (.lst ws)) : lstW S (.loc n) = some ws := by
  show (match S[n]? with | some (.lst ws) => some ws | _ => none) = _
  rw [h]
theorem ixl {n : Nat} {i : Int} (h : S[n]? = some (.lst ws)) (h2 : L2.atI ws i = some w) : gIx (.loc n) (.int i) S = .ok w S := ix_l (lst_loc h) h2
@[simp] theorem len_tup : gLen [.tup ws] S = .ok (.int ws.length) S := rfl
@[simp] theorem len_rol : gLen [.rol ws] S = .ok (.int ws.length) S := rfl
theorem len_loc {n : Nat} (h : S[n]? = some (.lst ws)) : gLen [.loc n] S = .ok (.int ws.length) S := by
  show (match seqW S (.loc n) with | some us => Res.ok (W.int us.length) S | none => Res.bad) = _
  rw [show seqW S (.loc n) = lstW S (.loc n) from rfl, lst_loc h]
/-! loops -/
noncomputable def forK (g : DG) (m : DS) (ls : Lo) : Res Src → RS
  | .ok src S => dLoop src.stay g m src.items ls S
  | .exc e S => .ex e ls S
  | .bad => .bad
variable {it : DI} {gg : DG} {src : Src} {st : Store → Prop}
@[simp] theorem for_ev : dFor it gg m ls S = forK gg m ls (it ls S) := by
  unfold dFor rsOfI forK
  cases it ls S <;> rfl
@[simp] theorem forK_ok : forK gg m ls (.ok src S) = dLoop src.stay gg m src.items ls S := rfl
def siK2 (w : W) (S : Store) : Option (List W) → Res Src
  | some ws => .ok ⟨ws, stayOf w ws⟩ S
  | none => .bad
def siK : Res W → Res Src
  | .ok w S => siK2 w S (seqW S w)
  | .exc e S => .exc e S
  | .bad => .bad
@[simp] theorem si_ev : dSeqI a ls S = siK (a ls S) := by
  unfold dSeqI siK
  cases a ls S <;> rfl
@[simp] theorem siK_ok : siK (.ok w S) = siK2 w S (seqW S w) := rfl
@[simp] theorem siK2_ok : siK2 w S (some ws) = .ok ⟨ws, stayOf w ws⟩ S := rfl
def r1K : Res W → Res Src
  | .ok (.int j) S => if -(2 ^ 62) ≤ j ∧ j < 2 ^ 62 then .ok ⟨rngW 0 j.toNat, fun _ => True⟩ S else .bad
  | .exc e S => .exc e S
  | _ => .bad
@[simp] theorem r1_ev : dRng1 a ls S = r1K (a ls S) := by
  unfold dRng1 r1K
  cases a ls S <;> first | rfl | skip
  rename_i w S1
  cases w <;> rfl
theorem r1K_ok {j : Int} (h : -(2 ^ 62) ≤ j ∧ j < 2 ^ 62) : r1K (.ok (.int j) S) = .ok ⟨rngW 0 j.toNat, fun _ => True⟩ S := if_pos h
theorem loop_nil (h : st S) : dLoop st gg m [] ls S = .nx ls S := by
  unfold dLoop
  rw [if_pos h]
noncomputable def lpK (st : Store → Prop) (g : DG) (m : DS) (ws : List W) : RS → RS := fun r => match r with
  | .nx ls1 S1 => dLoop st g m ws ls1 S1
  | .ct ls1 S1 => dLoop st g m ws ls1 S1
  | .bk ls1 S1 => .nx ls1 S1
  | r => r
theorem loop_cons {ls0 : Lo} (h : st S) (h2 : gg w ls = some ls0) : dLoop st gg m (w :: ws) ls S = lpK st gg m ws (m ls0 S) := by
  unfold dLoop lpK
  rw [if_pos h, h2]
  all_goals dsimp only
  all_goals (cases m ls0 S <;> rfl)
end
end Fs
set_option maxHeartbeats 4000000
namespace Fs
open PySem L2
/-! ### loops by invariants -/
theorem loop_inv {st : Store → Prop} {gg : DG} {m : DS} (I : Nat → Lo → Store → Prop) (hst : ∀ i ls S, I i ls S → st S) : ∀ (items : List W) (k : Nat),
    (∀ i w ls S, items[i]? = some w → I (k + i) ls S → ∃ ls0 ls1 S1, gg w ls = some ls0 ∧ (m ls0 S = .nx ls1 S1 ∨ m ls0 S = .ct ls1 S1) ∧ I (k + i + 1) ls1 S1) →
    ∀ ls S, I k ls S → ∃ ls1 S1, dLoop st gg m items ls S = .nx ls1 S1 ∧ I (k + items.length) ls1 S1
  | [], k, _, ls, S, h => ⟨ls, S, loop_nil (hst _ _ _ h), h⟩
  | w :: ws, k, hs, ls, S, h => by
    obtain ⟨ls0, ls1, S1, e1, e2, h1⟩ := hs 0 w ls S rfl h
    have ih := loop_inv I hst ws (k + 1) (fun i w' ls' S' e h' => by
      have e3 : k + 1 + i = k + (i + 1) := by omega
      rw [e3] at h' ⊢
      exact hs (i + 1) w' ls' S' (by simpa using e) h') ls1 S1 h1
    obtain ⟨ls2, S2, e3, h2⟩ := ih
    refine ⟨ls2, S2, ?_, ?_⟩
    · rw [loop_cons (hst _ _ _ h) e1]
      rcases e2 with e2 | e2 <;> rw [e2] <;> exact e3
    · rw [List.length_cons, show k + (ws.length + 1) = k + 1 + ws.length by omega]
      exact h2
theorem sum_loc {S : Store} {n : Nat} {ws : List W} {ns : List Int} (h : S[n]? = some (.lst ws)) (h2 : intsW ws = some ns) : gSum [.loc n] S = .ok (.int ns.sum) S := by
  show (match lstW S (.loc n) with | some us => (match intsW us with | some ns => Res.ok (W.int ns.sum) S | none => Res.bad) | none => Res.bad) = _
  rw [lst_loc h]
  dsimp only
  rw [h2]
theorem tuple_loc {S : Store} {n : Nat} {ws : List W} (h : S[n]? = some (.lst ws)) : gTuple [.loc n] S = .ok (.tup ws) S := by
  show (match seqW S (.loc n) with | some us => Res.ok (W.tup us) S | none => Res.bad) = _
  rw [show seqW S (.loc n) = lstW S (.loc n) from rfl, lst_loc h]
theorem append_loc {S : Store} {n : Nat} {ws : List W} {w : W} (h : S[n]? = some (.lst ws)) (hl : ws.length < 100000) : gAppend (.loc n) w S = .ok .non (S.set n (.lst (ws ++ [w]))) := by
  show (match S[n]? with | some (.lst ws) => if ws.length < sizeLine then Res.ok W.non (S.set n (.lst (ws ++ [w]))) else .bad | _ => .bad) = _
  rw [h]
  exact if_pos (Nat.lt_of_lt_of_le hl (by decide))
/-! ### comprehensions -/
section
variable {it : DI} {vs : List Nat} {j : Nat} {tt : DT} {te : DE} {ls : Lo} {S S1 : Store} {ws : List W} {st : Store → Prop}
noncomputable def lcK (g : DG) (vs : List Nat) (tt : DT) (te : DE) (ls : Lo) : Res Src → Res W
  | .ok src S1 => dLcLoop src.stay g tt te S1.length (wipeW ls vs) src.items (S1 ++ [.lst []])
  | .exc e S => .exc e S
  | .bad => .bad
@[simp] theorem lc_ev {g : DG} : dLc it g vs tt te ls S = lcK g vs tt te ls (it ls S) := by
  unfold dLc lcK
  cases it ls S <;> rfl
theorem lcLoop_nil {g : DG} {D : Nat} (h : st S) : dLcLoop st g tt te D ls [] S = .ok (.loc D) S := by
  unfold dLcLoop
  rw [if_pos h]
theorem lcLoop_cons {g : DG} {D : Nat} {w : W} {ls2 : Lo} {S2 S3 : Store} {y : W} {acc : List W} (h : st S) (h1 : g w ls = some ls2) (h2 : tt ls2 S = .ok true S2) (h3 : te ls2 S2 = .ok y S3) (h4 : S3[D]? = some (.lst acc)) (h5 : acc.length < sizeLine) :
    dLcLoop st g tt te D ls (w :: ws) S = dLcLoop st g tt te D ls ws (S3.set D (.lst (acc ++ [y]))) := by
  rw [dLcLoop, if_pos h]
  simp only [h1, h2, h3, h4, Res.bind, cellLst, if_pos h5, if_true]
theorem lcLoop_skip {g : DG} {D : Nat} {w : W} {ls2 : Lo} {S2 : Store} (h : st S) (h1 : g w ls = some ls2) (h2 : tt ls2 S = .ok false S2) :
    dLcLoop st g tt te D ls (w :: ws) S = dLcLoop st g tt te D ls ws S2 := by
  rw [dLcLoop, if_pos h]
  simp only [h1, h2, Res.bind]
  rfl
/-- by an invariant over (turn, list so far, store) -/
theorem lcLoop_inv {g : DG} {D : Nat} (I : Nat → List W → Store → Prop) (hst : ∀ i acc S, I i acc S → st S) : ∀ (ws : List W) (k : Nat),
    (∀ i w acc S, ws[i]? = some w → I (k + i) acc S → ∃ ls2 b S2, g w ls = some ls2 ∧ tt ls2 S = .ok b S2 ∧ (b = false → I (k + i + 1) acc S2) ∧
      (b = true → ∃ y S3, te ls2 S2 = .ok y S3 ∧ S3[D]? = some (.lst acc) ∧ acc.length < 100000 ∧ I (k + i + 1) (acc ++ [y]) (S3.set D (.lst (acc ++ [y]))))) →
    ∀ acc S, I k acc S → ∃ acc1 S1, dLcLoop st g tt te D ls ws S = .ok (.loc D) S1 ∧ I (k + ws.length) acc1 S1
  | [], k, _, acc, S, h => ⟨acc, S, lcLoop_nil (hst _ _ _ h), h⟩
  | w :: ws, k, hs, acc, S, h => by
    obtain ⟨ls2, b, S2, e1, e2, hf, ht⟩ := hs 0 w acc S rfl h
    have ih := fun acc' S' h' => lcLoop_inv I hst ws (k + 1) (fun i w' ac S' e h' => by
      have e3 : k + 1 + i = k + (i + 1) := by omega
      rw [e3] at h' ⊢
      exact hs (i + 1) w' ac S' (by simpa using e) h') acc' S' h'
    rw [show k + (w :: ws).length = k + 1 + ws.length by rw [List.length_cons]; omega]
    cases b with
    | false =>
      rw [lcLoop_skip (hst _ _ _ h) e1 e2]
      exact ih acc S2 (hf rfl)
    | true =>
      obtain ⟨y, S3, e3, e4, e5, h3⟩ := ht rfl
      rw [lcLoop_cons (hst _ _ _ h) e1 e2 e3 e4 (Nat.lt_of_lt_of_le e5 (by decide))]
      exact ih _ _ h3
theorem get_mid {S cs : Store} {c : Cell} : (S ++ c :: cs)[S.length]? = some c := by
  rw [List.getElem?_append_right (Nat.le_refl _), Nat.sub_self]
  rfl
theorem set_mid {S cs : Store} {c d : Cell} : (S ++ c :: cs).set S.length d = S ++ d :: cs := by
  rw [List.set_append_right _ _ (Nat.le_refl _), Nat.sub_self]
  rfl
/-- what makes new cells alone -/
theorem lc_map {R : W → W → Prop} (hst : ∀ acc cs, st (S1 ++ .lst acc :: cs)) (hl : ws.length < 100000)
    (he : ∀ w S, w ∈ ws → ∃ y cs, te ((wipeW ls vs).set j (some w)) S = .ok y (S ++ cs) ∧ R w y) :
    ∃ ys cs, lcK (dgName j) vs dYes te ls (.ok ⟨ws, st⟩ S1) = .ok (.loc S1.length) (S1 ++ .lst ys :: cs) ∧ ys.length = ws.length ∧ ∀ (i : Nat) (w y : W), ws[i]? = some w → ys[i]? = some y → R w y := by
  have key := lcLoop_inv (st := st) (g := dgName j) (tt := dYes) (te := te) (ls := wipeW ls vs) (D := S1.length) (fun i acc S => (∃ cs, S = S1 ++ .lst acc :: cs) ∧ acc.length = i ∧ i ≤ ws.length ∧ ∀ (i : Nat) (w y : W), ws[i]? = some w → acc[i]? = some y → R w y)
    (fun i acc S h => by
      obtain ⟨⟨cs, rfl⟩, _⟩ := h
      exact hst _ _) ws 0 (fun i w acc S ew h => by
        obtain ⟨⟨cs, rfl⟩, h1, h2, h3⟩ := h
        obtain ⟨y, cs', e, r⟩ := he w (S1 ++ .lst acc :: cs) (List.mem_of_getElem? ew)
        refine ⟨_, true, _, rfl, rfl, fun z => (by cases z), fun _ => ⟨y, _, e, ?_, by omega, ?_, ?_, ?_, ?_⟩⟩
        · rw [List.append_assoc]
          exact get_mid
        · refine ⟨cs ++ cs', ?_⟩
          rw [List.append_assoc]
          exact set_mid
        · rw [List.length_append, h1]
          rfl
        · have := (List.getElem?_eq_some_iff.mp ew).1
          omega
        · intro i' w' y' e1 e2
          by_cases q : i' < acc.length
          · rw [List.getElem?_append_left q] at e2
            exact h3 i' w' y' e1 e2
          · by_cases q2 : i' = acc.length
            · subst q2
              rw [List.getElem?_append_right (Nat.le_refl _), Nat.sub_self] at e2
              cases e2
              rw [show acc.length = i by omega, ew] at e1
              cases e1
              exact r
            · rw [List.getElem?_eq_none (by rw [List.length_append, List.length_singleton]; omega)] at e2
              cases e2) [] (S1 ++ [.lst []]) ⟨⟨[], rfl⟩, rfl, Nat.zero_le _, fun i w y _ e => (by simp at e)⟩
  obtain ⟨ys, S2, e, ⟨cs, rfl⟩, h1, h2, h3⟩ := key
  exact ⟨ys, cs, e, by omega, h3⟩
end
end Fs
set_option maxHeartbeats 4000000
namespace Fs
open PySem L2
variable [Tb : Tabs]
/-! ### dicts: keys ints and texts -/
def keyW : W → Option L2.Key
  | .int i => some (.inl i)
  | .str x => some (.inr x)
  | _ => none
def dctW (S : Store) : W → Option (List (L2.Key × W))
  | .loc n => match S[n]? with
    | some (.dct kvs) => some kvs
    | _ => none
  | _ => none
def valW (kvs : List (L2.Key × W)) (k : L2.Key) : Option W := (kvs.find? fun kv => decide (kv.1 = k)).map (·.2)
def putW (kvs : List (L2.Key × W)) (k : L2.Key) (v : W) : List (L2.Key × W) :=
  if kvs.any fun kv => decide (kv.1 = k) then kvs.map fun kv => if kv.1 = k then (kv.1, v) else kv else kvs ++ [(k, v)]
def mergeW (kvs more : List (L2.Key × W)) : List (L2.Key × W) := more.foldl (fun acc kv => putW acc kv.1 kv.2) kvs
omit Tb in
theorem putK_def (kvs : List (L2.Key × V)) (k : L2.Key) (v : V) : putK kvs k v = if kvs.any fun kv => decide (kv.1 = k) then kvs.map fun kv => if kv.1 = k then (kv.1, v) else kv else kvs ++ [(k, v)] := rfl
/-- what a dict of ours stands for -/
inductive KVr (K : PySem.W.Frag) (μ : Mu) (H : Hp) : List (L2.Key × V) → List (L2.Key × W) → Prop
  | nil : KVr K μ H [] []
  | cons {k : L2.Key} {v : V} {w : W} {vs : List (L2.Key × V)} {ws : List (L2.Key × W)} : Vr K μ H v w → KVr K μ H vs ws → KVr K μ H ((k, v) :: vs) ((k, w) :: ws)
section
variable {K : PySem.W.Frag} {μ : Mu} {H : Hp} {S : Store}
omit Tb in
theorem KVr.of : ∀ {ws : List (L2.Key × W)} {vs : List (L2.Key × V)}, vs.map (·.1) = ws.map (·.1) → VrA K μ H (vs.map (·.2)) (ws.map (·.2)) → KVr K μ H vs ws
  | [], vs, e, h => by
    cases vs with
    | nil => exact .nil
    | cons a b => cases e
  | (k, w) :: ws, vs, e, h => by
    cases vs with
    | nil => cases e
    | cons a b =>
      obtain ⟨k', v⟩ := a
      rw [List.map_cons, List.map_cons] at e h
      injection e with e1 e2
      cases h with
      | cons h1 h2 =>
        have e1 : k' = k := e1
        subst e1
        exact .cons h1 (KVr.of e2 h2)
omit Tb in
theorem KVr.keys {ws : List (L2.Key × W)} {vs : List (L2.Key × V)} (h : KVr K μ H vs ws) : vs.map (·.1) = ws.map (·.1) := by
  induction h with
  | nil => rfl
  | cons _ _ ih => rw [List.map_cons, List.map_cons, ih]
omit Tb in
theorem KVr.vals {ws : List (L2.Key × W)} {vs : List (L2.Key × V)} (h : KVr K μ H vs ws) : VrA K μ H (vs.map (·.2)) (ws.map (·.2)) := by
  induction h with
  | nil => exact .nil
  | cons h1 _ ih => exact .cons h1 ih
omit Tb in
theorem KVr.length {ws : List (L2.Key × W)} {vs : List (L2.Key × V)} (h : KVr K μ H vs ws) : vs.length = ws.length := by
  induction h with
  | nil => rfl
  | cons h1 _ ih => rw [List.length_cons, List.length_cons, ih]
theorem KVr.mono {μ' : Mu} {H' : Hp} (g : Gr μ μ' H H') {ws : List (L2.Key × W)} {vs : List (L2.Key × V)} (h : KVr K μ H vs ws) : KVr K μ' H' vs ws := by
  induction h with
  | nil => exact .nil
  | cons h1 _ ih => exact .cons (h1.mono g) ih
theorem KVr.mono0 {μ' : Mu} {H' : Hp} (g : Gq μ μ' H H') {ws : List (L2.Key × W)} {vs : List (L2.Key × V)} (h : KVr K μ H vs ws) : KVr K μ' H' vs ws := by
  induction h with
  | nil => exact .nil
  | cons h1 _ ih => exact .cons (h1.mono0 g) ih
/-- a dict's value at a key: nothing or two that stand for one another -/
def OptR (K : PySem.W.Frag) (μ : Mu) (H : Hp) : Option V → Option W → Prop
  | none, none => True
  | some v, some w => Vr K μ H v w
  | _, _ => False
omit Tb in
theorem OptR.some {o : Option V} {x : W} (h : OptR K μ H o (some x)) : ∃ v, o = Option.some v ∧ Vr K μ H v x := by
  cases o with
  | none => exact False.elim h
  | some v => exact ⟨v, rfl, h⟩
omit Tb in
theorem OptR.isSome {o : Option V} {x : Option W} (h : OptR K μ H o x) : o.isSome = x.isSome := by
  cases o <;> cases x <;> first | rfl | exact False.elim h
omit Tb in
theorem KVr.val {ws : List (L2.Key × W)} {vs : List (L2.Key × V)} (h : KVr K μ H vs ws) (k : L2.Key) : OptR K μ H (valV vs k) (valW ws k) := by
  induction h with
  | nil => exact True.intro
  | @cons k' v w vs ws h1 _ ih =>
    by_cases e : k' = k
    · rw [valV_pos (p := (k', v)) e]
      have : valW ((k', w) :: ws) k = some w := by simp [valW, List.find?_cons, e]
      rw [this]
      exact h1
    · rw [valV_neg (p := (k', v)) e]
      have : valW ((k', w) :: ws) k = valW ws k := by simp [valW, List.find?_cons, e]
      rw [this]
      exact ih
omit Tb in
theorem KVr.any {ws : List (L2.Key × W)} {vs : List (L2.Key × V)} (h : KVr K μ H vs ws) (k : L2.Key) : (vs.any fun kv => decide (kv.1 = k)) = ws.any fun kv => decide (kv.1 = k) := by
  induction h with
  | nil => rfl
  | cons h1 _ ih => rw [List.any_cons, List.any_cons, ih]
omit Tb in
theorem KVr.append {ws ws' : List (L2.Key × W)} {vs vs' : List (L2.Key × V)} (h : KVr K μ H vs ws) (h' : KVr K μ H vs' ws') : KVr K μ H (vs ++ vs') (ws ++ ws') := by
  induction h with
  | nil => exact h'
  | cons h1 _ ih => exact .cons h1 ih
omit Tb in
theorem KVr.put {ws : List (L2.Key × W)} {vs : List (L2.Key × V)} (h : KVr K μ H vs ws) (k : L2.Key) {v : V} {w : W} (r : Vr K μ H v w) : KVr K μ H (putK vs k v) (putW ws k w) := by
  rw [putK_def]
  unfold putW
  rw [h.any k]
  cases ws.any fun kv => decide (kv.1 = k) with
  | false => exact h.append (.cons r .nil)
  | true =>
    rw [if_pos rfl, if_pos rfl]
    induction h with
    | nil => exact .nil
    | @cons k' v' w' vs ws h1 _ ih =>
      simp only [List.map_cons]
      by_cases e : k' = k
      · subst e
        rw [if_pos rfl, if_pos rfl]
        exact .cons r ih
      · rw [if_neg e, if_neg e]
        exact .cons h1 ih
omit Tb in
theorem KVr.merge {more : List (L2.Key × W)} {rs : List (L2.Key × V)} (h : KVr K μ H rs more) : ∀ {ws : List (L2.Key × W)} {vs : List (L2.Key × V)}, KVr K μ H vs ws → KVr K μ H (mergeK vs rs) (mergeW ws more) := by
  induction h with
  | nil => intro ws vs q; exact q
  | @cons k v w rs more h1 _ ih =>
    intro ws vs q
    exact ih (q.put k h1)
omit Tb in
theorem key_v {w : W} {v : V} {k : L2.Key} (r : Vr K μ H v w) (h : keyW w = some k) : v = kV k := by
  cases r <;> first | (cases h; rfl) | cases h
theorem Sim.cellD (s : Sim K μ S H) {w : W} {ws : List (L2.Key × W)} {v : V} (h : dctW S w = some ws) (r : Vr K μ H v w) : ∃ n a xs, w = .loc n ∧ v = .ref a ∧ μ n = some a ∧ H a = some (.dK xs) ∧ KVr K μ H xs ws := by
  cases r with
  | @loc n a h1 =>
    have h' : (match S[n]? with
      | some (.dct kvs) => some kvs
      | _ => none) = some ws := h
    split at h'
    · rename_i ws' e
      cases h'
      obtain ⟨a', h2, xs, h3, h4, h5⟩ := s.cell n _ e
      rw [h1] at h2
      cases h2
      exact ⟨n, a, xs, rfl, rfl, h1, h3, .of h4 h5⟩
    · cases h'
  | _ => exact absurd (show (none : Option (List (L2.Key × W))) = some ws from h) (by simp)
end
/-! ### in, not in, [] of dicts -/
def gDIn (neg : Bool) (x y : W) (S : Store) : Res W := match dctW S y, keyW x with
  | some kvs, some k => .ok (.bl (neg != (valW kvs k).isSome)) S
  | _, _ => .bad
def gDIx (x y : W) (S : Store) : Res W := match dctW S x, keyW y with
  | some kvs, some k => (match valW kvs k with
    | some w => .ok w S
    | none => .bad)
  | _, _ => .bad
section
variable {X : Cx} {Wx : WE} {a b c e : Expr} {es : List Expr} {ma mb mc : DE} {pos : Pos}
omit Tb in
theorem op_dNotIn (hu : X.A.units + 1 < cLine) : OpR X (compareOp .NotIn) (fun x y H Q => ∃ a o, y = .ref a ∧ DGet H a x o ∧ Q (.bl (!o.isSome)) H) := by
  rintro pins s σ H x y v u Q I rx ry ⟨a, o, ey, g, q⟩
  subst ey
  cases (show u = .ref a from ry)
  exact d_notIn hu I g rx fun s3 I3 => ⟨.bl (!o.isSome), H, I3, rfl, q⟩
theorem so_dInB {neg : Bool} {op : CmpOp} (h : OpR X (compareOp op) (fun x y H Q => ∃ a o, y = .ref a ∧ DGet H a x o ∧ Q (.bl (neg != o.isSome)) H)) : SO X (compareOp op) (gDIn neg) := ⟨_, h, fun E x y H μ S wx wy Q hS rx ry hb => by
  unfold gDIn at hb
  split at hb
  · rename_i kvs k e1 e2
    obtain ⟨n, a, xs, rfl, rfl, h1, h2, h3⟩ := hS.cellD e1 ry
    have ek := key_v rx e2
    subst ek
    refine ⟨a, _, rfl, DGet.k h2, ?_⟩
    rw [(h3.val k).isSome]
    exact hb _ H μ (Gr.refl _ _) hS (.bl _)
  · exact False.elim hb⟩
theorem so_dNotIn (hu : X.A.units + 1 < cLine) : SO X (compareOp .NotIn) (gDIn true) := so_dInB fun pins s σ H x y v u Q I rx ry h => op_dNotIn hu pins s σ H x y v u Q I rx ry (by simpa only [true_bne] using h)
theorem se_dIx (hu : X.A.units + 1 < cLine) (ha : SE X Wx a ma) (hb : SE X Wx b mb) (hs : NoSl b := by exact fun _ _ => rfl) : SE X Wx (.Subscript a b pos) (dOp gDIx ma mb) := by
  obtain ⟨t1, p1, q1⟩ := ha.ex
  obtain ⟨t2, p2, q2⟩ := hb.ex
  refine ⟨_, pe_dget hu p1 p2 hs, fun σ H μ ls S Q hL hS h => ?_⟩
  refine q1 σ H μ ls S _ hL hS (Bd.bind (fun w1 S1 v1 H1 μ1 g1 s1 r1 h1 => ?_) h)
  refine q2 σ H1 μ1 ls S1 _ (hL.mono g1) s1 (Bd.bind (fun w2 S2 v2 H2 μ2 g2 s2 r2 h2 => ?_) h1)
  have r1 := r1.mono g2
  unfold gDIx at h2
  split at h2
  · rename_i kvs k e1 e2
    obtain ⟨n, a, xs, rfl, rfl, h3, h4, h5⟩ := s2.cellD e1 r1
    have ek := key_v r2 e2
    subst ek
    split at h2
    · rename_i w ew
      have := h5.val k
      rw [ew] at this
      obtain ⟨v, ev, rv⟩ := this.some
      refine ⟨a, v, rfl, ?_, h2 v H2 μ2 (Gr.refl _ _) s2 rv⟩
      rw [← ev]
      exact DGet.k h4
    · exact False.elim h2
  · exact False.elim h2
/-! ### displays -/
def dPairs : List (DE × DE) → Lo → Store → Res (List (W × W))
  | [] => fun _ S => .ok [] S
  | (a, b) :: r => fun ls S => (a ls S).bind fun x S1 => (b ls S1).bind fun y S2 => (dPairs r ls S2).bind fun ps S3 => .ok ((x, y) :: ps) S3
inductive PrA (K : PySem.W.Frag) (μ : Mu) (H : Hp) : List (V × V) → List (W × W) → Prop
  | nil : PrA K μ H [] []
  | cons {k v : V} {x w : W} {vs : List (V × V)} {ws : List (W × W)} : Vr K μ H k x → Vr K μ H v w → PrA K μ H vs ws → PrA K μ H ((k, v) :: vs) ((x, w) :: ws)
abbrev RlP (K : PySem.W.Frag) : Mu → Hp → List (V × V) → List (W × W) → Prop := fun μ H v w => PrA K μ H v w
theorem PrA.mono {K : PySem.W.Frag} {μ μ' : Mu} {H H' : Hp} (g : Gr μ μ' H H') {ws : List (W × W)} {vs : List (V × V)} (h : PrA K μ H vs ws) : PrA K μ' H' vs ws := by
  induction h with
  | nil => exact .nil
  | cons h1 h2 _ ih => exact .cons (h1.mono g) (h2.mono g) ih
structure SPr (X : Cx) (Wx : WE) (pos : Pos) (keys : List (Option Expr)) (values : List Expr) (m : Lo → Store → Res (List (W × W))) : Prop where
  ex : ∃ trs, PPs X pos keys values trs ∧ ∀ σ H μ ls S Q, LR X.K μ H σ ls → Sim X.K μ S H → Bd X.K X.mg (RlP X.K) (fun c d H' => Wx c d σ H') μ H (m ls S) Q → tPairs trs σ H Q
theorem sp_nil : SPr X Wx pos [] [] (dPairs []) := ⟨_, pps_nil, fun σ H μ ls S Q hL hS h => h [] H μ (Gr.refl _ _) hS .nil⟩
theorem sp_cons {ks : List (Option Expr)} {vs : List Expr} {ms : List (DE × DE)} (ha : SE X Wx a ma) (hb : SE X Wx b mb) (hr : SPr X Wx pos ks vs (dPairs ms)) : SPr X Wx pos (some a :: ks) (b :: vs) (dPairs ((ma, mb) :: ms)) := by
  obtain ⟨t1, p1, q1⟩ := ha.ex
  obtain ⟨t2, p2, q2⟩ := hb.ex
  obtain ⟨t3, p3, q3⟩ := hr.ex
  refine ⟨_, pps_cons p1 p2 p3, fun σ H μ ls S Q hL hS h => ?_⟩
  refine q1 σ H μ ls S _ hL hS (Bd.bind (fun w1 S1 v1 H1 μ1 g1 s1 r1 h1 => ?_) h)
  refine q2 σ H1 μ1 ls S1 _ (hL.mono g1) s1 (Bd.bind (fun w2 S2 v2 H2 μ2 g2 s2 r2 h2 => ?_) h1)
  refine q3 σ H2 μ2 ls S2 _ ((hL.mono g1).mono g2) s2 (Bd.bind (fun w3 S3 v3 H3 μ3 g3 s3 r3 h3 => ?_) h2)
  exact h3 _ H3 μ3 (Gr.refl _ _) s3 (.cons ((r1.mono g2).mono g3) (r2.mono g3) r3)
def keysW : List (W × W) → Option (List (L2.Key × W))
  | [] => some []
  | (x, w) :: r => match keyW x, keysW r with
    | some k, some rs => some ((k, w) :: rs)
    | _, _ => none
omit Tb in
theorem keys_of {K : PySem.W.Frag} {μ : Mu} {H : Hp} {ws : List (W × W)} {vs : List (V × V)} (h : PrA K μ H vs ws) : ∀ {kvs : List (L2.Key × W)}, keysW ws = some kvs → ∃ xs : List (L2.Key × V), vs = xs.map (fun kv => (kV kv.1, kv.2)) ∧ KVr K μ H xs kvs := by
  induction h with
  | nil => intro kvs e; cases e; exact ⟨[], rfl, .nil⟩
  | @cons k v x w vs ws h1 h2 _ ih =>
    intro kvs e
    unfold keysW at e
    split at e
    · rename_i k' rs e1 e2
      cases e
      obtain ⟨xs, ex, rx⟩ := ih e2
      have ek := key_v h1 e1
      subst ek
      exact ⟨(k', v) :: xs, by rw [List.map_cons, ← ex], .cons h2 rx⟩
    · cases e
def dDisp (ps : List (DE × DE)) : DE := fun ls S => (dPairs ps ls S).bind fun qs S1 => match keysW qs with
  | some kvs => if kvs.length ≤ 15 then .ok (.loc S1.length) (S1 ++ [.dct (mergeW [] kvs)]) else .bad
  | none => .bad
theorem se_new : SE X Wx (.Dict [] [] pos) (dDisp []) := by
  refine ⟨_, pe_dnewK, fun σ H μ ls S Q hL hS h => ?_⟩
  intro p hp
  exact h (.ref p) _ _ (gr_cell hS hp) (hS.alloc (c := .dct []) hp ⟨[], upd_same, rfl, .nil⟩) (.loc muAdd_same)
theorem se_disp {keys : List (Option Expr)} {values : List Expr} {ps : List (DE × DE)} (hp : SPr X Wx pos keys values (dPairs ps)) (hall : keys.all (·.isSome) = true := by rfl) (hl : keys.length = values.length := by rfl) (h0 : keys ≠ [] := by exact fun z => by cases z)
    (h15 : keys.length ≤ 15 := by decide) : SE X Wx (.Dict keys values pos) (dDisp ps) := by
  obtain ⟨t1, p1, q1⟩ := hp.ex
  refine ⟨_, pe_disp p1 hall hl h0 h15, fun σ H μ ls S Q hL hS h => ?_⟩
  intro p hpn
  have hmu : ∀ n, μ n ≠ some p := fun n z => by
    obtain ⟨u, e, _⟩ := hS.there z
    rw [hpn] at e
    cases e
  refine q1 σ _ μ ls S _ (hL.mono (gr_new hpn)) (hS.new hpn) ?_
  unfold dDisp at h
  cases er : dPairs ps ls S with
  | bad => rw [er] at h; exact False.elim h
  | exc e S' =>
    rw [er] at h
    exact fun c d H' μ' g s x => h c d H' μ' ((gr_new hpn).trans g) s x
  | ok qs S1 =>
    rw [er] at h
    intro vs H2 μ2 g s r
    have fr : ¬ Tabs.is p := fun t => tab_ne (hS.tab p t) hpn rfl
    have hk2 := g.kp p _ upd_same hmu fr
    refine ⟨hk2.1, ?_⟩
    replace h : Bd X.K X.mg (RlV X.K) (fun c d H' => Wx c d σ H') μ H (match keysW qs with
      | some kvs => if kvs.length ≤ 15 then .ok (.loc S1.length) (S1 ++ [.dct (mergeW [] kvs)]) else .bad
      | none => .bad) Q := h
    split at h
    · rename_i kvs ek
      split at h
      · rename_i hz
        obtain ⟨xs, ex, rx⟩ := keys_of r ek
        refine ⟨xs, ex, by rw [rx.length]; exact hz, ?_⟩
        have gq : Gq μ2 μ2 H2 (upd H2 p (.dK (mergeK [] xs))) := ⟨fun _ _ z => z, fun a u z f => by
          rw [upd_ne (fun e => by subst e; rw [hk2.1] at z; cases z; cases f)]
          exact z⟩
        have s' : Sim X.K μ2 S1 (upd H2 p (.dK (mergeK [] xs))) := ⟨fun n c z => by
          obtain ⟨a, z1, z2⟩ := s.cell n c z
          exact ⟨a, z1, z2.mono0 gq (upd_ne fun e => hk2.2 n (by rw [← e]; exact z1))⟩, s.inj, s.top, fun P t => tab_upd (s.tab P t) fun e => fr (e ▸ t)⟩
        have mm : ∀ n a, μ2 n = some a → muAdd μ2 S1.length p n = some a := fun n a z => by rw [muAdd_ne (fun e => by rw [e, s.top _ (Nat.le_refl _)] at z; cases z)]; exact z
        have gq2 : Gq μ2 (muAdd μ2 S1.length p) H2 (upd H2 p (.dK (mergeK [] xs))) := ⟨mm, gq.fx⟩
        have rm := (rx.merge .nil).mono0 gq2
        have g' := (gr_new (u := .dK []) hpn).trans g
        refine h (.ref p) _ (muAdd μ2 S1.length p) ⟨fun n a z => mm n a (g'.mu n a z), fun a u z f => gq.fx a u (g'.fx a u z f) f, fun a u z f nt => ?_⟩ (s'.add (c := .dct _) hk2.2 ⟨_, upd_same, rm.keys, rm.vals⟩) (.loc muAdd_same)
        have hne : a ≠ p := fun e => by subst e; rw [hpn] at z; cases z
        obtain ⟨z1, z2⟩ := g'.kp a u z f nt
        refine ⟨by rw [upd_ne hne]; exact z1, fun n e => ?_⟩
        by_cases e' : n = S1.length
        · subst e'
          rw [muAdd_same] at e
          exact hne (Option.some.inj e).symm
        · rw [muAdd_ne e'] at e
          exact z2 n e
      · exact False.elim h
    · exact False.elim h
/-! ### dict(pairs) -/
def pairsW : List W → Option (List (L2.Key × W))
  | [] => some []
  | .tup [x, w] :: r => match keyW x, pairsW r with
    | some k, some rs => some ((k, w) :: rs)
    | _, _ => none
  | _ => none
omit Tb in
theorem pairs_ofW {K : PySem.W.Frag} {μ : Mu} {H : Hp} : ∀ {ws : List W} {vs : List V} {kvs : List (L2.Key × W)}, VrA K μ H vs ws → pairsW ws = some kvs → ∃ (ps : List Addr) (xs : List (L2.Key × V)), vs = ps.map V.ref ∧ Paired (fun p kv => SqT K H p [kV kv.1, kv.2]) ps xs ∧ KVr K μ H xs kvs
  | [], _, kvs, h, e => by
    cases h
    cases e
    exact ⟨[], [], rfl, .nil, .nil⟩
  | w0 :: ws, _, kvs, h, e => by
    cases h with
    | cons h1 h2 =>
      unfold pairsW at e
      split at e
      · rename_i heq
        cases heq
      · rename_i x w r heq
        injection heq with q1 q2
        subst q1
        subst q2
        split at e
        · rename_i k rs e1 e2
          cases e
          obtain ⟨ps, xs, ev, pr, kr⟩ := pairs_ofW h2 e2
          cases h1 with
          | @tup p ys _ t1 t2 =>
          cases t2 with
          | cons t2 t3 =>
            cases t3 with
            | cons t3 t4 =>
              cases t4
              have ek := key_v t2 e1
              subst ek
              exact ⟨p :: ps, (k, _) :: xs, by rw [List.map_cons, ← ev], .cons t1.t pr, .cons t3 kr⟩
        · cases e
      · cases e
def gDict (ws : List W) (S : Store) : Res W := match ws with
  | [w] => match lstW S w with
    | some us => (match pairsW us with
      | some kvs => .ok (.loc S.length) (S ++ [.dct (mergeW [] kvs)])
      | none => .bad)
    | none => .bad
  | _ => .bad
theorem sc_dict (hc : X.calm = true) : SC X (.type "dict") gDict := ⟨_, call_dictP hc, fun E xs H μ S ws Q hS rx hb => by
  unfold gDict at hb
  split at hb
  · cases rx with
    | cons r1 r2 =>
      cases r2
      split at hb
      · rename_i us eu
        split at hb
        · rename_i kvs ek
          obtain ⟨a, ys, rfl, hq, r⟩ := lst_of hS eu r1
          obtain ⟨ps, xs, rfl, pr, kr⟩ := pairs_ofW r ek
          refine ⟨a, ps, xs, rfl, hq, pr, fun p hp => ?_⟩
          have rm := (kr.merge .nil).mono (gr_cell (u := .dK (mergeK [] xs)) hS hp)
          exact hb (.ref p) _ _ (gr_cell hS hp) (hS.alloc (c := .dct _) hp ⟨_, upd_same, rm.keys, rm.vals⟩) (.loc muAdd_same)
        · exact False.elim hb
      · exact False.elim hb
  · exact False.elim hb⟩
end
end Fs
set_option maxHeartbeats 4000000
namespace Fs
open PySem L2
variable [Tb : Tabs]
/-! ### defs that may raise -/
def spX (K : PySem.W.Frag) (mg : Str → Option Value) (n : Nat) (f : DF) : Sp := fun vs H Q E => ∃ μ ws S, ws.length = n ∧ Sim K μ S H ∧ VrA K μ H vs ws ∧ Bd K mg (RlV K) E μ H (f ws S) Q
structure FokX (P : Program) (w : World) (K : PySem.W.Frag) (mg : Str → Option Value) (x : Str) (k : Nat) (ps : List Str) (fn : DF) : Prop where
  ex : ∃ (f : Addr) (fd : FuncData), (∀ base, TbOk base mg → FnOk P w K mg base (L2N.CX P w) k f fd ps (spX K mg ps.length fn)) ∧ mg x = some (.ref f) ∧ PySem.W.keepIn K (.ref f) = true ∧ Binds K fd ps [] ∧
    ∀ (s : Shared) (us : List Value), us.length = ps.length → BindsTo s fd ⟨us, []⟩ (ps.zip us)
omit Tb in
theorem args_len : ∀ (as : List DE) ls S ws S', dArgs as ls S = .ok ws S' → ws.length = as.length := fun as => by
  induction as with
  | nil => intro ls S ws S' e; cases e; rfl
  | cons a r ih =>
    intro ls S ws S' e
    unfold dArgs at e
    cases e1 : a ls S with
    | ok w S1 =>
      rw [e1] at e
      dsimp only [Res.bind] at e
      cases e2 : dArgs r ls S1 with
      | ok us S2 =>
        rw [e2] at e
        cases e
        rw [List.length_cons, List.length_cons, ih _ _ _ _ e2]
      | exc _ _ => rw [e2] at e; cases e
      | bad => rw [e2] at e; cases e
    | exc _ _ => rw [e1] at e; cases e
    | bad => rw [e1] at e; cases e
section
variable {X : Cx} {Wx : WX} {e : Expr} {es : List Expr} {pos p : Pos}
theorem se_callX {x : Str} {k k' : Nat} {ps : List Str} {fn : DF} {as : List DE} (h : FokX X.prog X.w X.K X.mg x k ps fn) (hr : Room k' X.A) (tk : L2N.Takes X Wx) (ha : SA X Wx (e :: es) (dArgs as)) (hk : k ≤ k' := by first | omega | (simp only [Nat.add_eq]; omega)) (tb : TbOk X.base X.mg := by assumption) (hg : Gl X x := by rfl) (hdb : (x == ("__debug__" : Str)) = false := by decide) (he : starEach (e :: es) X.env = (false, eval e X.env) :: starEach es X.env := by rfl) (hpl : (backTo pos (starEach es X.env)).any (·.1) = false := by rfl)
    (hn : as.length = ps.length := by rfl) : SE X Wx (.Call (.Name x p) (e :: es) [] pos) (dCall fn as) := by
  obtain ⟨f, fd, h2, h3, h4, h5, _⟩ := h.ex
  obtain ⟨t1, p1, q1⟩ := ha.ex
  refine ⟨_, pe_callS (E := L2.WE Wx) (h2 X.base tb) (hr.mono hk) hg h3 h4 h5 (fun σ => L2N.passAt tk σ) p1 hdb he hpl, fun σ H μ ls S Q hL hS h => ?_⟩
  have hlen : ∀ ws S', dArgs as ls S = .ok ws S' → ws.length = ps.length := fun ws S' e => by rw [args_len as ls S ws S' e, hn]
  unfold dCall at h
  cases ea : dArgs as ls S with
  | bad => rw [ea] at h; exact False.elim h
  | exc x S1 =>
    rw [ea] at h
    exact q1 σ H μ ls S _ hL hS (by rw [ea]; exact h)
  | ok ws S1 =>
    rw [ea] at h
    refine q1 σ H μ ls S _ hL hS ?_
    rw [ea]
    intro vs H1 μ1 g1 s1 r1
    exact ⟨μ1, ws, S1, hlen ws S1 ea, s1, r1, Bd.mono g1 h⟩
/-- raise X("..."), X an own class without __init__ -/
def dRaise (x : Str) : DS := fun ls S => .ex ⟨x, []⟩ ls S
theorem ss_raise {x : Str} {C : Addr} (hc : X.calm = true) (tk : L2N.Takes X Wx) (hm : X.mg x = some (.ref C)) (he : L2N.PMk X e fun σ H E => E (.ref C) none H) : SS X Wx (.Raise (some e) none pos) (dRaise x) :=
  ⟨_, L2N.ps_raise hc tk he, fun σ H μ ls S D hL hS h => h σ (.ref C) none H μ (Gr.refl _ _) hS hL ⟨hm, .inl ⟨rfl, rfl⟩⟩⟩
end
section
variable {P : Program} {w : World} {K : PySem.W.Frag} {mg : Str → Option Value}
/-- the context's wish of a def that may raise -/
theorem FokX.of {x : Str} {st : Stmt} {k : Nat} {N ps : List Str} {m : DS} (F : DefAt K mg x st) (S : FnScope N ps (defScope st))
    (hbind : ∀ (kV doc pm : Value) (an : Option Addr) (cdv ct : Value) (us : List Value), us.length = ps.length → bindArgs (PySem.W.fnOf x x (defArgs st) (defBody st) (defScope st) .none kV doc pm an cdv ct) ⟨us, []⟩ = pure (ps.zip us))
    (hb : ∀ (base : Heap) (tb : TbOk base mg) (f : Addr) (cdv : Value) (A : Around) (outer : List Env) (s : Shared) (H : Hp) (E : XK), Room k (A.deeper (PyProof.Rows.envOfC x (defScope st) s.heap.objs.size f cdv)) →
      L2N.Takes (cxOf (L2N.CX P w) P w K mg base N x (defScope st) f cdv A outer s H E) (fun cls d _ H => E cls d H) →
      SSs (cxOf (L2N.CX P w) P w K mg base N x (defScope st) f cdv A outer s H E) (fun cls d _ H => E cls d H) (defBody st) m) : FokX P w K mg x (k + 1) ps (mkF N.length ps.length m) := by
  obtain ⟨f, fd, F, hm⟩ := F.ex
  refine ⟨f, fd, fun base tb => ?_, hm, F.kp, F.bindsN hbind, F.bindsA hbind⟩
  refine F.ok S (fun vs H Q E h => ?_) (fun cdv A outer s H vs Q E hr h => ?_)
  · obtain ⟨μ, ws, S', h1, h2, h3, h4⟩ := h
    rw [h3.length, h1]
  · obtain ⟨μ, ws, S', h1, h2, h3, h4⟩ := h
    obtain ⟨t, p, q⟩ := (hb base tb f cdv A outer s H E hr (L2N.takes_of rfl rfl rfl rfl)).ex
    refine ⟨t, p, q _ H μ (startW N.length ws) S' _ (LR.atStart h3) h2 ?_⟩
    unfold mkF at h4
    rw [if_pos h1] at h4
    cases e : m (startW N.length ws) S' with
    | nx ls S1 => rw [e] at h4; exact fun σ' H' μ' g s l => h4 .non H' μ' g s .non
    | rt v S1 => rw [e] at h4; exact h4
    | bk ls S1 => rw [e] at h4; exact False.elim h4
    | ct ls S1 => rw [e] at h4; exact False.elim h4
    | ex x ls S1 => rw [e] at h4; exact fun σ' c d H' μ' g s l r => h4 c d H' μ' g s r
    | bad => rw [e] at h4; exact False.elim h4
end
end Fs
namespace Fs
open PySem L2
variable [Tb : Tabs]
/-! ### a block's reading by its denotation alone (what a try asks of its body: one reading for every wish) -/
def tSem (X : Cx) (Wx : WX) (m : DS) : TS := fun D σ H => ∃ μ ls S, LR X.K μ H σ ls ∧ Sim X.K μ S H ∧ BdS X Wx μ H (m ls S) D
theorem sem_of {X : Cx} {Wx : WX} {st : List Stmt} {m : DS} (h : SSs X Wx st m) : PSs X st (tSem X Wx m) := by
  obtain ⟨t, p, q⟩ := h.ex
  exact ⟨fun pins s σ H D I hw => by
    obtain ⟨μ, ls, S, h1, h2, h3⟩ := hw
    exact p.run pins s σ H D I (q σ H μ ls S D h1 h2 h3)⟩
end Fs
set_option maxHeartbeats 4000000
/-! the order of tuples, where the first unlike places alone need be comparable -/
namespace Od
open PySem PySem.SeqAt
open PySem.AutoSeq1 (wpAny_loadPart')
open PySem.MeetsSeq PySem.MeetsSeq2 PySem.MeetsSeq3
mutual
/-- a < b | a > b of data, where Python has it -/
def ordD (gt : Bool) : PyData → PyData → Option Bool
  | .int i, .int j => some (if gt then decide (j < i) else decide (i < j))
  | .tuple xs, .tuple ys => ordA gt xs ys
  | .list xs, .list ys => if gt then none else ordL xs ys
  | _, _ => none
def ordA (gt : Bool) : List PyData → List PyData → Option Bool
  | [], [] => some false
  | [], _ :: _ => some (!gt)
  | _ :: _, [] => some gt
  | x :: xs, y :: ys => if PyData.eqv x y = true then ordA gt xs ys else ordD gt x y
/-- lists: all pairs comparable -/
def ordL : List PyData → List PyData → Option Bool
  | [], [] => some false
  | [], _ :: _ => some true
  | _ :: _, [] => some false
  | x :: xs, y :: ys => match ordL xs ys with
    | some k => if PyData.eqv x y = true then some k else ordD false x y
    | none => none
end
end Od
namespace Fs
open PySem L2
variable [Tb : Tabs]
/-- < | > of numbers and nested tuples of numbers -/
def gOrd (gt : Bool) (x y : W) (S : Store) : Res W := match x, y with
  | .int i, .int j => .ok (.bl (if gt then decide (j < i) else decide (i < j))) S
  | x, y => if SeqAt.shaped (toD S x) = true ∧ SeqAt.shaped (toD S y) = true then (match Od.ordD gt (toD S x) (toD S y) with
    | some k => .ok (.bl k) S
    | none => .bad) else .bad
end Fs
set_option maxHeartbeats 4000000
/-! t[::-1] of a tuple; index and count -/
namespace Fs
open PySem L2
variable [Tb : Tabs]
omit Tb in
theorem VrA.reverse {K : PySem.W.Frag} {μ : Mu} {H : Hp} : ∀ {ws : List W} {vs : List V}, VrA K μ H vs ws → VrA K μ H vs.reverse ws.reverse
  | [], _, h => by cases h; exact .nil
  | w :: ws, _, h => by
    cases h with
    | cons h1 h2 =>
      simp only [List.reverse_cons]
      exact (VrA.reverse h2).append (.cons h1 .nil)
section
variable {X : Cx} {Wx : WE} {a b c e : Expr} {es : List Expr} {ma mb mc : DE} {pos : Pos}
/-! ### t.index(x), t of texts; l.index(x), l flat -/
/-! l.index(x), l.count(x), all flat -/
def posFl (z : W) : List W → Option Nat
  | [] => none
  | y :: ys => if eqFl y z = true then some 0 else (posFl z ys).map (· + 1)
omit Tb in
theorem posFl_some {z : W} : ∀ {ys : List W} {j : Nat}, posFl z ys = some j → (∃ y, ys[j]? = some y ∧ eqFl y z = true) ∧ ∀ m y, m < j → ys[m]? = some y → eqFl y z = false
  | [], j, h => by cases h
  | y :: ys, j, h => by
    unfold posFl at h
    cases e : eqFl y z with
    | true =>
      rw [e, if_pos rfl] at h
      cases h
      exact ⟨⟨y, rfl, e⟩, fun m _ hm => absurd hm (Nat.not_lt_zero _)⟩
    | false =>
      rw [e, if_neg Bool.false_ne_true] at h
      cases q : posFl z ys with
      | none => rw [q] at h; cases h
      | some i =>
        rw [q] at h
        cases h
        obtain ⟨h1, h2⟩ := posFl_some q
        refine ⟨h1, fun m y' hm ey => ?_⟩
        cases m with
        | zero => cases ey; exact e
        | succ m => exact h2 m y' (Nat.lt_of_succ_lt_succ hm) ey
def gLIx (x y : W) (S : Store) : Res W := match lstW S x with
  | some ws => if flatW y = true ∧ allFlat ws = true then (match posFl y ws with
    | some j => .ok (.int (j : Nat)) S
    | none => .bad) else .bad
  | none => .bad
/-- o.m(e) with o a list, by its values -/
def dLM (g : W → W → Store → Res W) (a b : DE) : DE := fun ls S => (a ls S).bind fun x S1 => match lstW S1 x with
  | none => .bad
  | some _ => (b ls S1).bind fun w S2 => g x w S2
theorem se_lm {name : Str} {g : W → W → Store → Res W} {r : V → List V → Hp → VK → Prop} {apos cpos : Pos} (ha : SE X Wx a ma) (hb : SA X Wx [b] (dArgs [mb]))
    (hr : ∀ (E : XK) v1 v w1 w μ H S ws xs p Q, Sim X.K μ S H → lstW S w1 = some ws → v1 = V.ref p → SqL X.K H p xs → VrA X.K μ H xs ws → Vr X.K μ H v w → Bd X.K X.mg (RlV X.K) E μ H (g w1 w S) Q → r v1 [v] H Q)
    (hn : ∀ w1 w S, lstW S w1 = none → g w1 w S = .bad)
    (mk : ∀ {to : TE} {t : TA}, PE X a to → PA X [b] t → PE X (.Call (.Attribute a name apos) [b] [] cpos) (tBM X.K "list" r to t)) :
    SE X Wx (.Call (.Attribute a name apos) [b] [] cpos) (dLM g ma mb) := by
  obtain ⟨t1, p1, q1⟩ := ha.ex
  obtain ⟨t2, p2, q2⟩ := hb.ex
  refine ⟨_, mk p1 p2, fun σ H μ ls S Q hL hS h => ?_⟩
  refine q1 σ H μ ls S _ hL hS (Bd.bind (fun x S1 v1 H1 μ1 g1 s1 r1 h1 => ?_) h)
  split at h1
  · exact False.elim h1
  · rename_i us eu
    obtain ⟨p0, xs0, e0, hq, _⟩ := lst_of s1 eu r1
    refine ⟨by rw [e0]; exact .inl ⟨rfl, xs0, hq⟩, ?_⟩
    have key : ∀ {y : Res W}, BdV X Wx σ μ1 H1 (y.bind fun w S2 => g x w S2) Q → BdA X Wx σ μ1 H1 (y.bind fun w S1 => (Res.ok [] S1).bind fun ws S2 => Res.ok (w :: ws) S2) (fun vs H2 => r v1 vs H2 Q) := fun {y} hy => by
      cases y with
      | bad => exact hy
      | exc e S => exact hy
      | ok w S2 =>
        intro vs H2 μ2 g2 s2 r2
        have hy' : BdV X Wx σ μ2 H2 (g x w S2) Q := Bd.mono g2 hy
        cases r2 with
        | @cons v _ _ _ rv rn =>
          cases rn
          cases el : lstW S2 x with
          | none => rw [hn _ _ _ el] at hy'; exact False.elim hy'
          | some ws =>
            obtain ⟨p, xs, e1, e2, e3⟩ := lst_of s2 el (r1.mono g2)
            exact hr _ v1 v x w μ2 H2 S2 ws xs p Q s2 el e1 e2 e3 rv hy'
    exact q2 σ H1 μ1 ls S1 _ (hL.mono g1) s1 (key h1)
omit Tb in
theorem allFlat_get {ws : List W} (f : allFlat ws = true) {m : Nat} {w : W} (e : ws[m]? = some w) : flatW w = true := List.all_eq_true.mp f w (List.mem_of_getElem? e)
theorem se_lindex {apos cpos : Pos} (ha : SE X Wx a ma) (hb : SA X Wx [b] (dArgs [mb]))
    (mk : ∀ {to : TE} {t : TA}, PE X a to → PA X [b] t → PE X (.Call (.Attribute a "index" apos) [b] [] cpos) (tBM X.K "list" (rIndex X.K) to t) := by exact fun h1 h2 => pe_bm PySem.F.plainAttrs_list PySem.F.slot_list_index PySem.F.type_list_index mt_index h1 h2) :
    SE X Wx (.Call (.Attribute a "index" apos) [b] [] cpos) (dLM gLIx ma mb) :=
  se_lm ha hb (fun E v1 v w1 w μ H S ws xs p Q s el e1 e2 e3 rv h => by
    unfold gLIx at h
    rw [el] at h
    dsimp only at h
    split at h
    · rename_i f
      split at h
      · rename_i j ej
        obtain ⟨⟨y, b1, b2⟩, b3⟩ := posFl_some ej
        obtain ⟨z, c1, c2⟩ := e3.get b1
        refine ⟨p, xs, v, j, z, e1, rfl, e2, flat_v rv f.1, flat_vs e3 f.2, c1, ?_, fun m z' hm ez => ?_, h _ H μ (Gr.refl _ _) s (.int _)⟩
        · rw [eq_fl c2 rv (allFlat_get f.2 b1) f.1]
          exact b2
        · have hl : m < ws.length := by
            have := (List.getElem?_eq_some_iff.mp ez).1
            rw [e3.length] at this
            exact this
          obtain ⟨z2, d1, d2⟩ := e3.get (List.getElem?_eq_getElem hl)
          rw [ez] at d1
          cases d1
          rw [eq_fl d2 rv (allFlat_get f.2 (List.getElem?_eq_getElem hl)) f.1]
          exact b3 m _ hm (List.getElem?_eq_getElem hl)
      · exact False.elim h
    · exact False.elim h) (fun w1 w S e => by unfold gLIx; rw [e]) mk
end
end Fs
set_option maxHeartbeats 4000000
/-! errors of own classes: raised, caught by a name, asked for their class -/
namespace Fs
open PySem L2
variable [Tb : Tabs]
open L2H (RoomH PinOk cxH inv_startH roomH_of)
/-! ### what is known of the classes -/
/-- a class without an __init__ of its own, that may be raised with a text -/
structure Err1 (K : PySem.W.Frag) (mg : Str → Option Value) (x : Str) : Prop where
  ex : ∃ C, mg x = some (.ref C) ∧ PySem.W.excIn K C He.veBase "ValueError.__new__" = true ∧ PySem.W.keepIn K (.ref C) = true ∧ PySem.W.subIn K (.ref C) (.type "BaseException") = some true ∧ PySem.W.typeIn K (.ref C) = some (.type "type")
/-- the classes ns: none under another, all under ValueError and under the class top -/
structure ErrT (K : PySem.W.Frag) (mg : Str → Option Value) (ns : List Str) (top : Str) : Prop where
  cls : ∀ x ∈ ns, ∃ C, mg x = some (.ref C) ∧ ExcC K C ∧ (∀ y ∈ ns, ∃ D, mg y = some (.ref D) ∧ PySem.W.kitOne K (.ref C) (.ref D) = some (decide (x = y))) ∧ PySem.W.kitOne K (.ref C) (.type "ValueError") = some true ∧
    ∃ G, mg top = some (.ref G) ∧ PySem.W.exmOne K (.ref C) (.ref G) = some true
section
variable {X : Cx} {Wx : WE} {pos p p2 p3 : Pos}
theorem ss_raiseO {x m : Str} {j : Nat} (hc : X.calm = true) (tk : L2N.Takes X Wx) (h : Err1 X.K X.mg x) (hg : Gl X x := by rfl) (hdb : (x == ("__debug__" : Str)) = false := by decide) :
    SS X Wx (.Raise (some (.Call (.Name x p) [.Constant (.str m) j p2] [] p3)) none pos) (dRaise x) := by
  obtain ⟨C, h1, h2, h3, h4, h5⟩ := h.ex
  exact ss_raise hc tk h1 (L2N.pmk_own PySem.F.excBase_ValueError h2 h1 h3 (raises_own h4 h5) hg hdb)
end
/-! ### the caught error -/
/-- in this context a's object is pinned: an instance of cls without a dict -/
structure PinX (X : Cx) (a : Addr) (cls : Value) : Prop where
  ex : ∃ oe : Obj, (a, oe) ∈ X.pn ∧ L2N.Zn cls none oe ∧ ∃ vs, oe.data = .fields vs
  hd : X.A.handled = some (.ref a)
omit Tb in
theorem call_isP {X : Cx} {a D : Addr} (C : ExcC X.K D) (hp : PinX X a (.ref D)) : CallR X (.builtin "isinstance") (rIsE X.K D a) := by
  rintro pins s σ H xs us Q I r ⟨c, cv, b, rfl, hcv, e, q⟩
  obtain ⟨u1, u2, rfl, rx, rt⟩ := vals2 r
  cases rx
  have ec := hcv _ rt
  subst ec
  obtain ⟨⟨oc, od, oda, osl⟩, hm, ⟨h1, h2, _⟩, vs, hv⟩ := hp.ex
  have hget := (I.pin _ (List.mem_append.mpr (.inl hm))).1
  dsimp only at h1 h2 hv
  subst h1 h2 hv
  exact PySem.W.kia_one (PySem.W.handS_kitx_exc C.hg C.hk C.hs C.hd C.ha C.hn C.ht C.hm) I.kIn ⟨hget, rfl, rfl, trivial⟩ e (fun z => nomatch z) fun tk => ⟨.bl b, H, I.kept (t' := tk) fun _ _ z => z, rfl, q⟩
/-- the slot i holds the caught error at a: b -/
def dIsE (i a : Nat) (b : Bool) : DE := fun ls S => match ls[i]? with
  | some (some (.adr a')) => if a' = a then .ok (.bl b) S else .bad
  | _ => .bad
section
variable {X : Cx} {Wx : WE} {pos p p1 p2 : Pos}
theorem se_isG {x y : Str} {a D : Addr} {b : Bool} {cv : Value} {c : V} (i : Nat) (C : ExcC X.K D) (hp : PinX X a (.ref D)) (hm : X.mg "isinstance" = none) (hy : PE X (.Name y p2) (tC c)) (hv : ∀ u, RelV c u → u = cv) (hk : PySem.W.kitOne X.K (.ref D) cv = some b)
    (hN : X.N[i]? = some x := by rfl) (hvis : Vis X.env.scope x := by first | exact Or.inl rfl | exact Or.inr (Or.inl rfl) | exact Or.inr (Or.inr rfl)) (hd : (x == ("__debug__" : Str)) = false := by decide) (hcd : (x == ("__classdict__" : Str)) = false := by decide) (hg : Gl X "isinstance" := by rfl)
    (hs1 : starEach [.Name x p1, .Name y p2] X.env = (false, eval (.Name x p1) X.env) :: starEach [.Name y p2] X.env := by rfl) (hs2 : starEach [.Name y p2] X.env = (false, eval (.Name y p2) X.env) :: starEach [] X.env := by rfl)
    (hpl : (backTo pos (starEach [.Name y p2] X.env)).any (·.1) = false := by rfl) : SE X Wx (.Call (.Name "isinstance" p) [.Name x p1, .Name y p2] [] pos) (dIsE i a b) := by
  refine ⟨_, pe_callB (call_isP C hp) hg hm (by decide +kernel) (pa_cons (pe_var hN hvis hd hcd) (pa_cons hy pa_nil hs2) hs1) (by decide) (by decide) hs1 hpl, fun σ H μ ls S Q hL hS h => ?_⟩
  unfold dIsE at h
  split at h
  · rename_i a' e
    split at h
    · rename_i ea
      subst ea
      obtain ⟨v, h1, h2⟩ := hL.at_ i _ e
      cases h2
      exact ⟨_, h1, c, cv, b, rfl, hv, hk, h _ H μ (Gr.refl _ _) hS (.bl b)⟩
    · exact False.elim h
  · exact False.elim h
theorem se_isO {x y cn top : Str} {ns : List Str} {a : Addr} {cls : Value} (i : Nat) (T : ErrT X.K X.mg ns top) (hc : cn ∈ ns) (hcm : X.mg cn = some cls) (hp : PinX X a cls) (hm : X.mg "isinstance" = none) (hy : y ∈ ns)
    (hN : X.N[i]? = some x := by rfl) (hvis : Vis X.env.scope x := by first | exact Or.inl rfl | exact Or.inr (Or.inl rfl) | exact Or.inr (Or.inr rfl)) (hd : (x == ("__debug__" : Str)) = false := by decide) (hcd : (x == ("__classdict__" : Str)) = false := by decide) (hg : Gl X "isinstance" := by rfl) (hgy : Gl X y := by rfl) (hdy : (y == ("__debug__" : Str)) = false := by decide)
    (hs1 : starEach [.Name x p1, .Name y p2] X.env = (false, eval (.Name x p1) X.env) :: starEach [.Name y p2] X.env := by rfl) (hs2 : starEach [.Name y p2] X.env = (false, eval (.Name y p2) X.env) :: starEach [] X.env := by rfl)
    (hpl : (backTo pos (starEach [.Name y p2] X.env)).any (·.1) = false := by rfl) : SE X Wx (.Call (.Name "isinstance" p) [.Name x p1, .Name y p2] [] pos) (dIsE i a (decide (cn = y))) := by
  obtain ⟨C, h1, h2, h3, _⟩ := T.cls cn hc
  rw [hcm] at h1
  cases h1
  obtain ⟨D, h4, h5⟩ := h3 y hy
  exact se_isG (c := .ref D) (cv := .ref D) i h2 hp hm (pe_glob hgy h4 rfl hdy) (fun u r => r) h5 hN hvis hd hcd hg hs1 hs2 hpl
theorem se_isV {x cn top : Str} {ns : List Str} {a : Addr} {cls : Value} (i : Nat) (T : ErrT X.K X.mg ns top) (hc : cn ∈ ns) (hcm : X.mg cn = some cls) (hp : PinX X a cls) (hm : X.mg "isinstance" = none) (hmv : X.mg "ValueError" = none)
    (hN : X.N[i]? = some x := by rfl) (hvis : Vis X.env.scope x := by first | exact Or.inl rfl | exact Or.inr (Or.inl rfl) | exact Or.inr (Or.inr rfl)) (hd : (x == ("__debug__" : Str)) = false := by decide) (hcd : (x == ("__classdict__" : Str)) = false := by decide) (hg : Gl X "isinstance" := by rfl) (hgy : Gl X "ValueError" := by rfl)
    (hs1 : starEach [.Name x p1, .Name "ValueError" p2] X.env = (false, eval (.Name x p1) X.env) :: starEach [.Name "ValueError" p2] X.env := by rfl) (hs2 : starEach [.Name "ValueError" p2] X.env = (false, eval (.Name "ValueError" p2) X.env) :: starEach [] X.env := by rfl)
    (hpl : (backTo pos (starEach [.Name "ValueError" p2] X.env)).any (·.1) = false := by rfl) : SE X Wx (.Call (.Name "isinstance" p) [.Name x p1, .Name "ValueError" p2] [] pos) (dIsE i a true) := by
  obtain ⟨C, h1, h2, _, h3, _⟩ := T.cls cn hc
  rw [hcm] at h1
  cases h1
  exact se_isG (c := .ty "ValueError") (cv := .type "ValueError") i h2 hp hm (pe_bltn hgy hmv (by decide +kernel) rfl) (fun u r => r) h3 hN hvis hd hcd hg hs1 hs2 hpl
end
omit Tb in
theorem PinX.hot {X : Cx} {a : Addr} {cls : Value} (hp : PinX X a cls) : L2H.HotC X := by
  obtain ⟨oe, hm, hz, vs, hv⟩ := hp.ex
  exact ⟨(a, oe), ⟨hp.hd, vs, hv, hz.2.2 vs hv⟩, hm⟩
omit Tb in
/-- nothing is let out -/
theorem takesN0 {X : Cx} : L2N.Takes X (fun _ _ _ _ => False) := fun _ _ x => by
  obtain ⟨_, _, _, _, _, _, _, _, _, _, _, _, _, _, _, _, no⟩ := x
  exact no.elim
/-! ### defs that are called with it -/
structure FnE (P : Program) (w : World) (K : PySem.W.Frag) (mg : Str → Option Value) (base : Heap) (k : Nat) (f : Addr) (fd : FuncData) (ps : List Str) (sp : Addr → Value → Sp) : Prop where
  len : ∀ a c vs H Q E, sp a c vs H Q E → vs.length = ps.length
  run : ∀ (A : Around) (outer : List Env) (s : Shared) (H : Hp) (args : Args) (us : List Value) (vs : List V) (Q : VK) (E : XK) (p : Addr × Obj) (cls : Value), RoomH k A → A.handled = some (.ref p.1) → PinOk outer H s p → L2N.Zn cls none p.2 → (∃ zs, p.2.data = .fields zs) →
    Env0 P w K mg base A outer s H → BindsTo s fd args (ps.zip us) → Vals vs us → sp p.1 cls vs H Q E → codeAny (model P w) A (.call (.ref f) args) (CR CX0 outer P w H s Q E) s
omit Tb in
theorem fnE_of {P : Program} {w : World} {K : PySem.W.Frag} {mg : Str → Option Value} {base : Heap} {k : Nat} {f : Addr} {fd : FuncData} {x : Str} {params : Arguments} {body : List Stmt} {scope : Scope} {N ps : List Str} {sp : Addr → Value → Sp}
    (F : FunD K x x params body scope [] [] f fd) (S : FnScope N ps scope) (len : ∀ a c vs H Q E, sp a c vs H Q E → vs.length = ps.length)
    (hb : ∀ (cdv : Value) (A : Around) (outer : List Env) (s : Shared) (H : Hp) (vs : List V) (Q : VK) (E : XK) (p : Addr × Obj) (cls : Value), A.handled = some (.ref p.1) → L2N.Zn cls none p.2 → (∃ zs, p.2.data = .fields zs) → RoomH k (A.deeper (PyProof.Rows.envOfC x scope s.heap.objs.size f cdv)) → sp p.1 cls vs H Q E →
      ∃ t, PSs (cxH CX0 P w K mg base N x scope f cdv A outer s H E p) body t ∧ t { nx := fun _ H' => Q .non H', rt := Q } (L2.start N vs) H) : FnE P w K mg base (k + 1) f fd ps sp := by
  obtain ⟨_, _, _, _, _, _, _, cdv, _, _, rfl, lk, hcd, _⟩ := F.ex
  refine ⟨len, fun A outer s H args us vs Q E p cls hr hdl hpin hz hf e0 hbd r hsp => ?_⟩
  have old : ∀ b o, base.get? b = some o → s.heap.get? b = some o := fun b o e => (e0.bs b o e).1
  have KX : K.In s.heap := e0.mod.kin.keeps old
  have knd : ∀ y ∈ ps.zip us, scope.names.lookup y.1 = some .local ∨ (scope.names.lookup y.1 = some .cell ∧ ((PySem.cellsFrom (s.heap.objs.size + 1) scope.names []).lookup y.1).isSome = true) := fun y hy => by
    obtain ⟨n, v⟩ := y
    exact (S.par n (List.of_mem_zip hy).1).imp id fun q => ⟨q, PySem.W.cellsFrom_some _ _ _ (.inl q)⟩
  refine PySem.codeAny_call_function hr.depth (KX _ _ lk) rfl S.co S.gen rfl (PySem.W.codeRec_of KX hcd) (hbd _ _ _ _ (PySem.wpAny_newFunctionEnv_cells S.kind knd fun env he s1 st => ?_))
  subst he
  refine ⟨(e0.mod.nolimit.keeps old).keeps st.toInCall.keep, PySem.codeAny_func ?_⟩
  obtain ⟨t, ht, hq⟩ := hb cdv A outer s H vs Q E p cls hdl hz hf (hr.deeper _) hsp
  refine wpAny_mono (ht.run [] s1 (L2.start N vs) H _ (inv_startH S hpin e0 (len _ _ _ _ _ _ hsp) r st) hq) (fun fl s' hs => ?_) fun _ _ z => z
  cases fl with
  | ret u =>
    obtain ⟨v, _, H', J, rv, q⟩ := hs
    exact ⟨v, H', J.os, J.bare, J.base, J.hok, rv, q⟩
  | next =>
    obtain ⟨σ', H', J, q⟩ := hs
    exact ⟨.non, H', J.os, J.bare, J.base, J.hok, rfl, q⟩
  | brk => exact hs.elim fun _ z => z.elim fun _ z => False.elim z.2
  | cont => exact hs.elim fun _ z => z.elim fun _ z => False.elim z.2
def spE (K : PySem.W.Frag) (mg : Str → Option Value) (ns : List Str) (n : Nat) (fn : Nat → Str → DF) : Addr → Value → Sp := fun a cls vs H Q _ =>
  ∃ μ ws S cn, cn ∈ ns ∧ mg cn = some cls ∧ ws.length = n ∧ Sim K μ S H ∧ VrA K μ H vs ws ∧ Bd K mg (RlV K) E0 μ H (fn a cn ws S) Q
structure FokE (P : Program) (w : World) (K : PySem.W.Frag) (mg : Str → Option Value) (ns : List Str) (x : Str) (k : Nat) (ps : List Str) (fn : Nat → Str → DF) : Prop where
  ex : ∃ (f : Addr) (fd : FuncData), (∀ base, TbOk base mg → FnE P w K mg base k f fd ps (spE K mg ns ps.length fn)) ∧ mg x = some (.ref f) ∧ PySem.W.keepIn K (.ref f) = true ∧ Binds K fd ps []
omit Tb in
theorem FnE.mono {P : Program} {w : World} {K : PySem.W.Frag} {mg : Str → Option Value} {base : Heap} {k k' : Nat} {f : Addr} {fd : FuncData} {ps : List Str} {sp : Addr → Value → Sp} (F : FnE P w K mg base k f fd ps sp) (h : k ≤ k') : FnE P w K mg base k' f fd ps sp :=
  ⟨F.len, fun A outer s H args us vs Q E p cls hr => F.run A outer s H args us vs Q E p cls (hr.mono h)⟩
section
variable {P : Program} {w : World} {K : PySem.W.Frag} {mg : Str → Option Value}
theorem FokE.of {ns : List Str} {x : Str} {st : Stmt} {k : Nat} {N ps : List Str} {m : Nat → Str → DS} (F : DefAt K mg x st) (S : FnScope N ps (defScope st))
    (hbind : ∀ (kV doc pm : Value) (an : Option Addr) (cdv ct : Value) (us : List Value), us.length = ps.length → bindArgs (PySem.W.fnOf x x (defArgs st) (defBody st) (defScope st) .none kV doc pm an cdv ct) ⟨us, []⟩ = pure (ps.zip us))
    (hb : ∀ (base : Heap) (tb : TbOk base mg) (f : Addr) (cdv : Value) (A : Around) (outer : List Env) (s : Shared) (H : Hp) (E : XK) (p : Addr × Obj) (cn : Str) (cls : Value), RoomH k (A.deeper (PyProof.Rows.envOfC x (defScope st) s.heap.objs.size f cdv)) → cn ∈ ns → mg cn = some cls →
      PinX (cxH CX0 P w K mg base N x (defScope st) f cdv A outer s H E p).nox p.1 cls → SSs (cxH CX0 P w K mg base N x (defScope st) f cdv A outer s H E p).nox Wn (defBody st) (m p.1 cn)) : FokE P w K mg ns x (k + 1) ps (fun a cn => mkF N.length ps.length (m a cn)) := by
  obtain ⟨f, fd, F, hm⟩ := F.ex
  refine ⟨f, fd, fun base tb => ?_, hm, F.kp, F.bindsN hbind⟩
  refine fnE_of F S (fun a c vs H Q E h => ?_) (fun cdv A outer s H vs Q E p cls hdl hz hf hr h => ?_)
  · obtain ⟨μ, ws, S', cn, _, _, h1, h2, h3, h4⟩ := h
    rw [h3.length, h1]
  · obtain ⟨μ, ws, S', cn, c1, c2, h1, h2, h3, h4⟩ := h
    obtain ⟨t, q1, q2⟩ := (hb base tb f cdv A outer s H E p cn cls hr c1 c2 ⟨⟨p.2, List.mem_singleton_self p, hz, hf⟩, hdl⟩).ex
    refine ⟨t, PSs.nox q1, q2 _ H μ (startW N.length ws) S' _ (LR.atStart h3) h2 ?_⟩
    have h4 : Bd K mg (RlV K) E0 μ H (mkF N.length ps.length (m p.1 cn) ws S') Q := h4
    unfold mkF at h4
    rw [if_pos h1] at h4
    cases e : m p.1 cn (startW N.length ws) S' with
    | nx ls S1 => rw [e] at h4; exact fun σ' H' μ' g s l => h4 .non H' μ' g s .non
    | rt v S1 => rw [e] at h4; exact h4
    | bk ls S1 => rw [e] at h4; exact False.elim h4
    | ct ls S1 => rw [e] at h4; exact False.elim h4
    | ex x ls S1 => rw [e] at h4; exact fun σ' c d H' μ' g s l r => h4 c d H' μ' g s r
    | bad => rw [e] at h4; exact False.elim h4
end
section
variable {X : Cx} {e : Expr} {es : List Expr} {pos p : Pos}
omit Tb in
theorem run_fnE {k : Nat} {f : Addr} {fd : FuncData} {ps : List Str} {sp : Addr → Value → Sp} {a : Addr} {cls : Value} {pins : List (Addr × Obj)} {σ : L2.St} {H : Hp} {s : Shared} {Q : VK} {us : List Value} {vs : List V} (F : FnE X.prog X.w X.K X.mg X.base k f fd ps sp) (hr : RoomH k X.A) (hp : PinX X a cls)
    (hb : Binds X.K fd ps []) (I : Inv X pins σ H s) (r : Vals vs us) (h : sp a cls vs H Q E0) : wpAny (model X.prog X.w) X.A (call (.ref f) us) (EP X pins σ Q) X.xe s := by
  obtain ⟨oe, hm, hz, hf⟩ := hp.ex
  have b := hb s us I.kIn (by rw [List.append_nil, ← r.length]; exact F.len _ _ _ _ _ _ h)
  rw [List.append_nil] at b
  obtain ⟨z1, z2, z3, z4, z5⟩ := I.pin (a, oe) (List.mem_append_left _ hm)
  have pin : PinOk X.stack H s (a, oe) := ⟨z1, z2, fun w => (List.mem_cons.mp (I.stkSub _ w)).elim z3 z4, z5⟩
  refine wpAny_call (codeAny_mono (F.run X.A X.stack s H ⟨us, []⟩ us vs Q E0 (a, oe) cls hr hp.hd pin hz hf I.env0 b r h) fun res s' hq => ?_)
  cases res with
  | error e => exact hq.elim
  | ok fl =>
    cases fl with
    | ret u => exact I.after hq
    | next => exact False.elim hq
    | brk => exact False.elim hq
    | cont => exact False.elim hq
theorem se_callE {ns : List Str} {x cn : Str} {k k' : Nat} {ps : List Str} {fn : Nat → Str → DF} {as : List DE} {a : Addr} {cls : Value} (h : FokE X.prog X.w X.K X.mg ns x k ps fn) (hr : RoomH k' X.A) (hp : PinX X a cls) (hc : cn ∈ ns) (hcm : X.mg cn = some cls) (ha : SA X Wn (e :: es) (dArgs as)) (hk : k ≤ k' := by first | omega | (simp only [Nat.add_eq]; omega))
    (tb : TbOk X.base X.mg := by assumption) (hg : Gl X x := by rfl) (hdb : (x == ("__debug__" : Str)) = false := by decide) (he : starEach (e :: es) X.env = (false, eval e X.env) :: starEach es X.env := by rfl) (hpl : (backTo pos (starEach es X.env)).any (·.1) = false := by rfl)
    (hn : as.length = ps.length := by rfl) : SE X Wn (.Call (.Name x p) (e :: es) [] pos) (dCall (fn a cn) as) := by
  obtain ⟨f, fd, h2, h3, h4, h5⟩ := h.ex
  obtain ⟨t1, p1, q1⟩ := ha.ex
  have pe : PE X (.Call (.Name x p) (e :: es) [] pos) (fun σ H Q => t1 σ H fun vs H1 => spE X.K X.mg ns ps.length fn a cls vs H1 Q E0) := by
    refine ⟨fun pins s σ H Q I h => ?_⟩
    refine wpAny_Call_Name_kw (ld_glob I hg h3 ?_ hdb)
    refine PySem.W.callWith_K (h₀ := X.base) I.ok.mod.kin h4 (thn (p1.run pos pins s σ H _ I h) fun us s1 ⟨vs, H1, I1, r, q⟩ => ⟨I1.kIn, ?_⟩) he hpl
    exact run_fnE ((h2 X.base tb).mono hk) hr hp h5 I1 r q
  refine ⟨_, pe, fun σ H μ ls S Q hL hS h => ?_⟩
  have hlen : ∀ ws S', dArgs as ls S = .ok ws S' → ws.length = ps.length := fun ws S' e => by rw [args_len as ls S ws S' e, hn]
  unfold dCall at h
  cases ea : dArgs as ls S with
  | bad => rw [ea] at h; exact False.elim h
  | exc x S1 =>
    rw [ea] at h
    exact q1 σ H μ ls S _ hL hS (by rw [ea]; exact h)
  | ok ws S1 =>
    rw [ea] at h
    refine q1 σ H μ ls S _ hL hS ?_
    rw [ea]
    intro vs H1 μ1 g1 s1 r1
    exact ⟨μ1, ws, S1, cn, hc, hcm, hlen ws S1 ea, s1, r1, Bd.mono g1 h⟩
/-- where something may be raised: a def that raises nothing -/
def noX (f : DF) : DF := fun ws S => match f ws S with
  | .exc _ _ => .bad
  | r => r
omit Tb in
theorem noX_ok {f : DF} {ws : List W} {w : W} {S S' : Store} (h : f ws S = .ok w S') : noX f ws S = .ok w S' := by
  unfold noX
  rw [h]
theorem se_call0 {Wx : WE} {x : Str} {k k' : Nat} {ps : List Str} {fn : DF} {as : List DE} (h : Fok X.prog X.w X.K X.mg x k ps fn) (hr : Room k' X.A) (ha : SA X Wx (e :: es) (dArgs as)) (hk : k ≤ k' := by first | omega | (simp only [Nat.add_eq]; omega)) (tb : TbOk X.base X.mg := by assumption) (hg : Gl X x := by rfl) (hdb : (x == ("__debug__" : Str)) = false := by decide) (he : starEach (e :: es) X.env = (false, eval e X.env) :: starEach es X.env := by rfl) (hpl : (backTo pos (starEach es X.env)).any (·.1) = false := by rfl)
    (hn : as.length = ps.length := by rfl) : SE X Wx (.Call (.Name x p) (e :: es) [] pos) (dCall (noX fn) as) := by
  obtain ⟨f, fd, h2, h3, h4, h5, _⟩ := h.ex
  obtain ⟨t1, p1, q1⟩ := ha.ex
  refine ⟨_, pe_call (h2 X.base tb) (hr.mono hk) hg h3 h4 h5 .nil pass0 p1 hdb he hpl, fun σ H μ ls S Q hL hS h => ?_⟩
  have hlen : ∀ ws S', dArgs as ls S = .ok ws S' → ws.length = ps.length := fun ws S' e => by rw [args_len as ls S ws S' e, hn]
  unfold dCall at h
  cases ea : dArgs as ls S with
  | bad => rw [ea] at h; exact False.elim h
  | exc x S1 =>
    rw [ea] at h
    exact q1 σ H μ ls S _ hL hS (by rw [ea]; exact h)
  | ok ws S1 =>
    rw [ea] at h
    refine q1 σ H μ ls S _ hL hS ?_
    rw [ea]
    intro vs H1 μ1 g1 s1 r1
    rw [List.append_nil]
    refine ⟨μ1, ws, S1, hlen ws S1 ea, s1, r1, ?_⟩
    have h' : BdV X Wx σ μ H (noX fn ws S1) Q := h
    unfold noX at h'
    cases ef : fn ws S1 with
    | ok w S2 => rw [ef] at h'; exact Bd.mono (r := Res.ok w S2) g1 h'
    | exc e S2 => rw [ef] at h'; exact False.elim h'
    | bad => rw [ef] at h'; exact False.elim h'
end
/-! ### try: .. except top as n: .. -/
/-- the name n goes behind the suite; nothing is raised there -/
def unb (i : Nat) : RS → RS
  | .nx ls S => .nx (ls.set i none) S
  | .bk ls S => .bk (ls.set i none) S
  | .ct ls S => .ct (ls.set i none) S
  | .rt w S => .rt w S
  | _ => .bad
def dTry (ns : List Str) (i : Nat) (m : DS) (h : Nat → Str → DS) : DS := fun ls S => match m ls S with
  | .ex e ls1 S1 => if e.cls ∈ ns ∧ e.fs.isEmpty = true then unb i (h 0 e.cls (ls1.set i (some (.adr 0))) S1) else .bad
  | r => r
omit Tb in
theorem LR.unset {K : PySem.W.Frag} {μ : Mu} {H : Hp} {σ : L2.St} {ls : Lo} (i : Nat) (h : LR K μ H σ ls) : LR K μ H (σ.set i none) (ls.set i none) := by
  refine ⟨by rw [List.length_set, List.length_set, h.len], fun j w' e => ?_⟩
  by_cases q : i = j
  · subst q
    by_cases hl : i < ls.length
    · rw [List.getElem?_set_self hl] at e
      cases e
    · rw [List.getElem?_eq_none (by rw [List.length_set]; omega)] at e
      cases e
  · rw [List.getElem?_set_ne q] at e
    rw [List.getElem?_set_ne q]
    exact h.at_ j w' e
theorem unb_bd {X : Cx} {Wx : WE} {μ : Mu} {H : Hp} {D : Ends} (i : Nat) : ∀ {r : RS}, BdS X Wx μ H (unb i r) D → BdS X Wn μ H r { nx := fun σ' H' => D.nx (σ'.set i none) H', rt := D.rt, bk := fun σ' H' => D.bk (σ'.set i none) H', ct := fun σ' H' => D.ct (σ'.set i none) H' }
  | .nx ls S, h => fun σ' H' μ' g s l => h (σ'.set i none) H' μ' g s (l.unset i)
  | .rt w S, h => h
  | .bk ls S, h => fun σ' H' μ' g s l => h (σ'.set i none) H' μ' g s (l.unset i)
  | .ct ls S, h => fun σ' H' μ' g s l => h (σ'.set i none) H' μ' g s (l.unset i)
  | .ex e ls S, h => False.elim h
  | .bad, h => False.elim h
section
variable {X : Cx} {Wx : WE} {x n : Str} {i : Nat} {body suite : List Stmt} {b₀ : Stmt} {np pos pos' : Pos} {m : DS} {h : Nat → Str → DS} {ns : List Str}
theorem ss_try (hN : X.N.Nodup) (T : ErrT X.K X.mg ns x) (tk : L2N.Takes X Wx) (hb : ∀ (W : WX) (pn : List (Addr × Obj)) (xe : Value → Shared → Prop), L2N.Takes (X.tr pn xe) W → PassesOwn (model X.prog X.w) X.A X.env xe → SSs (X.tr pn xe) W body m)
    (hsu : ∀ (a : Addr) (oe : Obj) (cn : Str) (cls : Value) (pn : List (Addr × Obj)), cn ∈ ns → X.mg cn = some cls → PinX (X.suite a ((a, oe) :: pn)) a cls → SSs (X.suite a ((a, oe) :: pn)) Wn (b₀ :: suite) (h a cn))
    (hpar : ∀ (a : Nat) (cn : Str) (ls : Lo) (S : Store), cn ∈ ns → unb i (h a cn (ls.set i (some (.adr a))) S) = unb i (h 0 cn (ls.set i (some (.adr 0))) S))
    (hs : X.stack = X.env :: X.outer := by rfl) (hf : X.env.frame = some X.env.locals := by rfl) (hi : X.N[i]? = some n := by rfl) (hln : X.env.kindOf n = some .local := by rfl) (hg : Gl X x := by rfl) (hdb : (x == ("__debug__" : Str)) = false := by decide)
    (hne : ns ≠ [] := by decide) : SS X Wx (.Try body [.ExceptHandler (some (.Name x np)) (some n) (b₀ :: suite) pos'] [] [] pos) (dTry ns i m h) := by
  obtain ⟨c0, hc0⟩ := List.exists_mem_of_ne_nil ns hne
  obtain ⟨_, _, _, _, _, G, hG, _⟩ := T.cls c0 hc0
  refine ⟨_, L2N.ps_try_as (tb := fun W => tSem X W m) (ts := fun a cls d => fun D σ H => ∃ cn, cn ∈ ns ∧ X.mg cn = some cls ∧ d = none ∧ tSem X Wn (h a cn) D σ H) (Wout := Wx) (c := .ref G) hs hf hN hi hln ⟨hg, hdb, .inl hG⟩ tk
    (fun W pn xe tk' hp => sem_of (X := X.tr pn xe) (hb W pn xe tk' hp)) (fun a oe cls d pn hz hfs => ⟨fun pins s σ H D I hw => ?_⟩), fun σ H μ ls S D hL hS hd => ⟨μ, ls, S, hL, hS, ?_⟩⟩
  · obtain ⟨cn, c1, c2, rfl, hw⟩ := hw
    exact (sem_of (X := X.suite a ((a, oe) :: pn)) (hsu a oe cn cls pn c1 c2 ⟨⟨oe, List.mem_cons_self, hz, hfs⟩, rfl⟩)).run pins s σ H D I hw
  · unfold dTry at hd
    cases e : m ls S with
    | nx ls S1 => rw [e] at hd; exact hd
    | rt v S1 => rw [e] at hd; exact hd
    | bk ls S1 => rw [e] at hd; exact hd
    | ct ls S1 => rw [e] at hd; exact hd
    | bad => rw [e] at hd; exact hd
    | ex x ls1 S1 =>
      rw [e] at hd
      dsimp only at hd
      split at hd
      · rename_i c
        intro σ' cls d H' μ' g s l xr
        obtain ⟨x1, x2⟩ := xr
        have hd0 : d = none := by
          rcases x2 with ⟨_, z⟩ | ⟨z, _⟩
          · exact z
          · exact absurd (by simpa using c.2) z
        obtain ⟨C, h1, _, _, _, G', hG', hex⟩ := T.cls _ c.1
        rw [x1] at h1
        cases h1
        rw [hG] at hG'
        cases hG'
        refine ⟨true, hex, fun _ a ha => ⟨x.cls, c.1, x1, hd0, μ', ls1.set i (some (.adr a)), S1, l.set (.adr a), s, ?_⟩, fun z => nomatch z⟩
        have q := BdS.mono g hd
        rw [← hpar a x.cls ls1 S1 c.1] at q
        exact unb_bd i q
      · exact False.elim hd
end
end Fs
namespace Fs
open PySem L2
variable [Tb : Tabs]
open L2H (RoomH)
omit Tb in
theorem huEH {k : Nat} {A : Around} (h : RoomH k A) : A.units + 64 < cLine := by
  have := h.un
  omega
omit Tb in
theorem roomM {k : Nat} {A : Around} {v : Option Value} (h : Room k A) : RoomH k (A.mark v) := ⟨h.dp, h.un⟩
theorem FokX.none {P : Program} {w : World} {K : PySem.W.Frag} {mg : Str → Option Value} {x : Str} {st : Stmt} {k : Nat} {ps : List Str} (F : DefAt K mg x st)
    (hbind : ∀ (kV doc pm : Value) (an : Option Addr) (cdv ct : Value) (us : List Value), us.length = ps.length → bindArgs (PySem.W.fnOf x x (defArgs st) (defBody st) (defScope st) .none kV doc pm an cdv ct) ⟨us, []⟩ = pure (ps.zip us)) :
    FokX P w K mg x k ps (fun _ _ => .bad) := by
  obtain ⟨f, fd, F, hm⟩ := F.ex
  have no : ∀ vs H Q E, ¬ spX K mg ps.length (fun _ _ => .bad) vs H Q E := fun vs H Q E h => by
    obtain ⟨μ, ws, S, h1, h2, h3, h4⟩ := h
    exact h4
  exact ⟨f, fd, fun base _ => ⟨fun vs H Q E h => absurd h (no vs H Q E), fun A outer s H args us vs Q E _ _ _ _ h => absurd h (no vs H Q E)⟩, hm, F.kp, F.bindsN hbind, F.bindsA hbind⟩
/-! what hangs on the error's place alone -/
omit Tb in
theorem isE0 {a : Nat} {b : Bool} {r : Lo} {S : Store} : dIsE 0 a b (some (.adr a) :: r) S = .ok (.bl b) S := if_pos rfl
end Fs
namespace Fs
open PySem L2
variable [Tb : Tabs]
/-! ### the classes' facts, looked up -/
def exCB (K : PySem.W.Frag) (D : Addr) : Bool := He.eqO (PySem.W.findIn K (.ref D) "__getattribute__") (some (some (.builtin "BaseException.__getattribute__"))) && (He.eqO (PySem.W.findIn K (.ref D) "__getattr__") (some none) && (decide (PySem.W.subIn K (.ref D) (.type "BaseException") = some true) &&
  (PySem.W.hasDictIn K D && (He.eqO (PySem.W.findIn K (.ref D) "__class__") (some (some (.builtin "object.__class__"))) && (He.eqO (PySem.W.specialIn K (.builtin "object.__class__") "__get__") (some (some (.builtin "getset_descriptor.__get__"))) &&
  (decide (PySem.W.takesIn K (.builtin "object.__class__") = some true) && decide (PySem.W.mroIn K D (.type "object") = some true)))))))
omit Tb in
theorem exC_of {K : PySem.W.Frag} {D : Addr} (h : exCB K D = true) : ExcC K D := by
  simp only [exCB, Bool.and_eq_true] at h
  obtain ⟨h1, h2, h3, h4, h5, h6, h7, h8⟩ := h
  exact ⟨He.eqO_ok h1, He.eqO_ok h2, of_decide_eq_true h3, h4, He.eqO_ok h5, He.eqO_ok h6, of_decide_eq_true h7, of_decide_eq_true h8⟩
def errB (K : PySem.W.Frag) (ns : List Str) (top : Str) : Bool := ns.all fun x => exCB K (He.ga K x) && ((ns.all fun y => decide (PySem.W.kitOne K (.ref (He.ga K x)) (.ref (He.ga K y)) = some (decide (x = y)))) &&
  (decide (PySem.W.kitOne K (.ref (He.ga K x)) (.type "ValueError") = some true) && decide (PySem.W.exmOne K (.ref (He.ga K x)) (.ref (He.ga K top)) = some true)))
omit Tb in
theorem errT_of {K : PySem.W.Frag} {mg : Str → Option Value} {ns : List Str} {top : Str} (hg : ∀ x ∈ ns, mg x = some (.ref (He.ga K x))) (ht : mg top = some (.ref (He.ga K top))) (h : errB K ns top = true) : ErrT K mg ns top := by
  refine ⟨fun x hx => ?_⟩
  have hx' := List.all_eq_true.mp h x hx
  simp only [Bool.and_eq_true] at hx'
  obtain ⟨h1, h2, h3, h4⟩ := hx'
  refine ⟨_, hg x hx, exC_of h1, fun y hy => ⟨_, hg y hy, of_decide_eq_true (List.all_eq_true.mp h2 y hy)⟩, of_decide_eq_true h3, _, ht, of_decide_eq_true h4⟩
omit Tb in
theorem err1_of {K : PySem.W.Frag} {mg : Str → Option Value} {x : Str} (hg : mg x = some (.ref (He.ga K x))) (h : (He.Fa.exc x).ok K = true) : Err1 K mg x := by
  obtain ⟨h1, h2, h3, h4⟩ := He.exc_ok h
  exact ⟨_, hg, h1, h2, h3, h4⟩
end Fs
set_option maxHeartbeats 4000000
namespace Fs
open PySem L2
/-! ### evaluation of the newer words -/
section
variable {g : W → W → Store → Res W} {a b : DE} {ls : Lo} {S S1 S2 : Store} {w x y : W} {ws us : List W} {m n : DS} {f : DF} {i : Nat} {e : Ex}
theorem lm_ok (h1 : a ls S = .ok x S1) (h2 : lstW S1 x = some ws) (h3 : b ls S1 = .ok y S2) : dLM g a b ls S = g x y S2 := by
  unfold dLM
  rw [h1]
  show (match lstW S1 x with | none => Res.bad | some _ => (b ls S1).bind fun w S2 => g x w S2) = _
  rw [h2]
  dsimp only
  rw [h3]
  rfl
theorem lix_ok {j : Nat} (h : lstW S x = some ws) (f1 : flatW y = true) (f2 : allFlat ws = true) (h2 : posFl y ws = some j) : gLIx x y S = .ok (.int (j : Nat)) S := by
  unfold gLIx
  rw [h]
  dsimp only
  rw [if_pos ⟨f1, f2⟩, h2]
@[simp] theorem ord_ii {gt : Bool} {i j : Int} : gOrd gt (.int i) (.int j) S = .ok (.bl (if gt then decide (j < i) else decide (i < j))) S := rfl
@[simp] theorem raise_ev {x : Str} : dRaise x ls S = .ex ⟨x, []⟩ ls S := rfl
theorem try_rt {ns : List Str} {h : Nat → Str → DS} (e : m ls S = .rt w S1) : dTry ns i m h ls S = .rt w S1 := by
  unfold dTry
  rw [e]
theorem try_ex {ns : List Str} {h : Nat → Str → DS} {ls1 : Lo} {x : Str} (e : m ls S = .ex ⟨x, []⟩ ls1 S1) (hx : x ∈ ns) : dTry ns i m h ls S = unb i (h 0 x (ls1.set i (some (.adr 0))) S1) := by
  unfold dTry
  rw [e]
  dsimp only
  rw [if_pos ⟨hx, rfl⟩]
/-- a, then a list behind a list -/
theorem add_ll {p q : Nat} (h1 : S[p]? = some (.lst ws)) (h2 : S[q]? = some (.lst us)) (hl : ws.length + us.length ≤ 1000) : gAdd (.loc p) (.loc q) S = .ok (.loc S.length) (S ++ [.lst (ws ++ us)]) := by
  show gAddL (.loc p) (.loc q) S = _
  unfold gAddL
  dsimp only
  rw [h1, h2]
  exact if_pos (Nat.le_trans hl (by decide))
end
/-! ### a text is walked -/
end Fs
set_option maxHeartbeats 4000000
/-! any, all over a generator expression whose elements call: the consumer -/
set_option maxHeartbeats 4000000
set_option maxHeartbeats 4000000
/-! the generator's own context, and that it holds where the generator begins -/
set_option maxHeartbeats 4000000
/-! any, all over a generator expression: the rules -/
set_option maxHeartbeats 4000000
/-! any, all over a generator expression, by denotations -/
namespace Fs
open PySem L2
end Fs
namespace Fs
open PySem L2
end Fs
namespace Fs
open PySem L2
/-- a module's constant: a tuple of texts -/
def CstT (K : PySem.W.Frag) (mg : Str → Option Value) (x : Str) (zs : List Str) : Prop :=
  ∃ a, mg x = some (.ref a) ∧ ∃ (o : Obj) (its : Array Value) (n : Nat), K.lookup a = some o ∧ (o.cls = .type "tuple" ∧ o.dict = none) ∧ o.data = .seq its n ∧ its.size ≤ sizeLine ∧ Vals (zs.map V.str) its.toList
section
variable [Tb : Tabs]
theorem cst_v {K : PySem.W.Frag} {μ : Mu} {H : Hp} : ∀ zs : List Str, VrA K μ H (zs.map V.str) (zs.map W.str)
  | [] => .nil
  | z :: zs => .cons (.str z) (cst_v zs)
theorem se_cst {X : Cx} {Wx : WE} {x : Str} {zs : List Str} {pos : Pos} (h : CstT X.K X.mg x zs) (hg : Gl X x := by rfl) (hd : (x == ("__debug__" : Str)) = false := by decide) : SE X Wx (.Name x pos) (dC (.tup (zs.map W.str))) := by
  obtain ⟨a, hm, o, its, n, h1, ⟨h2, h3⟩, h4, h5, h6⟩ := h
  exact se_c (pe_glob (v := .ref a) hg hm rfl hd) fun μ H => .tup (.inr ⟨o, its, n, h1, h2, h3, h4, h5, h6⟩) (cst_v zs)
end
/-- the head's look at it -/
def strsB : List Value → List Str → Bool
  | [], [] => true
  | .str y _ :: vs, z :: zs => decide (y = z) && strsB vs zs
  | _, _ => false
def cstB (K : PySem.W.Frag) (x : Str) (zs : List Str) : Bool := match K.lookup (He.ga K x) with
  | some ⟨.type c, none, .seq its _, _⟩ => decide (c = "tuple") && (decide (its.size ≤ sizeLine) && strsB its.toList zs)
  | _ => false
theorem strs_of : ∀ {vs : List Value} {zs : List Str}, strsB vs zs = true → Vals (zs.map V.str) vs
  | [], [], _ => .nil
  | .str y t :: vs, z :: zs, h => by
    simp only [strsB, Bool.and_eq_true, decide_eq_true_eq] at h
    obtain ⟨rfl, h⟩ := h
    exact .cons ⟨t, rfl⟩ (strs_of h)
theorem cst_of {K : PySem.W.Frag} {mg : Str → Option Value} {x : Str} {zs : List Str} (g : mg x = some (.ref (He.ga K x))) (h : cstB K x zs = true) : CstT K mg x zs := by
  unfold cstB at h
  split at h
  · rename_i c its n sl e
    simp only [Bool.and_eq_true, decide_eq_true_eq] at h
    obtain ⟨rfl, h1, h2⟩ := h
    exact ⟨_, g, _, its, n, e, ⟨rfl, rfl⟩, rfl, h1, strs_of h2⟩
  · cases h
end Fs
set_option maxHeartbeats 4000000
/-! the law's end where defs have tables -/
namespace Fs
open PySem L2
variable [Tb : Tabs]
/-- from any sequence of ints -/
def spLawT (K : PySem.W.Frag) : Sp := fun vs H Q _ => ∃ (a : Addr) (ns : List Int), vs = [.ref a] ∧ SqL K H a (ns.map V.int) ∧ ns.length ≤ 63 ∧ (∀ P, Tabs.is P → GxR.TabG H P) ∧ ∀ H', Q (.bl true) H'
section
variable {P : Program} {w : World} {K : PySem.W.Frag} {mg : Str → Option Value} {base : Heap}
omit Tb in
/-- a list that the heap tells is told as one that stays -/
theorem freeze {A : Around} {outer : List Env} {s : Shared} {H : Hp} {a : Addr} {xs : List V} (e0 : Env0 P w K mg base A outer s H) (h : H a = some (.lst xs)) :
    ∃ o, Env0 P w K mg base A outer s (upd H a (.frz o (.lst xs))) ∧ ∀ Q u s', CE outer P w (upd H a (.frz o (.lst xs))) s Q u s' → CE outer P w H s Q u s' := by
  have it := e0.hok a _ h
  obtain ⟨o, there⟩ : ∃ o, s.heap.get? a = some o := ⟨_, (Classical.choose_spec (Classical.choose_spec it.2)).2⟩
  have off : ∀ b, H b = none → b ≠ a := fun b n e => by rw [e, h] at n; cases n
  have same : ∀ b, b ≠ a → upd H a (.frz o (.lst xs)) b = H b := fun b n => upd_ne n
  have oth : ∀ b u, H b = some u → u ≠ .lst xs → upd H a (.frz o (.lst xs)) b = some u := fun b u e n => (same b fun z => n (by rw [z, h] at e; exact (Option.some.inj e).symm)).trans e
  refine ⟨o, { e0 with bs := fun b ob e => ⟨(e0.bs b ob e).1, (same b (off b (e0.bs b ob e).2)).trans (e0.bs b ob e).2⟩, frf := fun b hb => (same b (off b (e0.frf b hb))).trans (e0.frf b hb), hok := fun b u e => ?_ }, fun Q u s' ⟨v, H', os, br, un, hok, r, q⟩ => ⟨v, H', os, br, ?_, hok, r, q⟩⟩
  · rcases Classical.em (b = a) with z | z
    · rw [z, upd_same] at e
      cases e
      rw [z]
      exact ⟨there, it⟩
    · rw [same b z] at e
      exact (e0.hok b u e).stay (fun _ _ _ z => z) (fun d y => oth d _ y nofun) fun d ys y => oth d _ y nofun
  · exact
      { keep := fun b ob e n => un.keep b ob e ((same b (off b n)).trans n)
        slot := fun b ob e n => un.slot b ob e ((same b (off b n)).trans n)
        free := fun b ob e n => un.free b ob e ((same b (off b n)).trans n)
        there := un.there
        tups := fun b ys e => un.tups b ys (oth b _ e nofun)
        frzs := fun b ob y e => un.frzs b ob y (oth b _ e nofun)
        tbls := fun b ps e => un.tbls b ps (oth b _ e nofun) }
theorem spLaw_T {f : Addr} {k : Nat} {fd : FuncData} (F : FnOk P w K mg base CX0 k f fd ["script"] (spLaw K)) : FnOk P w K mg base CX0 k f fd ["script"] (spLawT K) := by
  refine ⟨fun vs H Q E ⟨a, ns, e, _⟩ => by rw [e]; rfl, fun A outer s H args us vs Q E hr e0 hb r hsp => ?_⟩
  obtain ⟨a, ns, rfl, hq, hl, tt, q⟩ := hsp
  rcases hq with (h | ⟨o, h⟩) | h
  · obtain ⟨o, e1, back⟩ := freeze e0 h
    have tt2 : ∀ T, Tabs.is T → GxR.TabG (upd H a (.frz o (.lst (ns.map V.int)))) T := fun T t => tab_upd (tt T t) fun z => by
      obtain ⟨ps, y, _⟩ := tt T t
      rw [z, h] at y
      cases y
    refine codeAny_mono (F.run A outer s _ args us [.ref a] Q E hr e1 hb r ⟨a, ns, rfl, .inl ⟨o, upd_same⟩, hl, tt2, q⟩) fun res s' y => ?_
    match res, y with
    | .ok (.ret u), y => exact back Q u s' y
  · exact F.run A outer s H args us [.ref a] Q E hr e0 hb r ⟨a, ns, rfl, .inl ⟨o, h⟩, hl, tt, q⟩
  · exact F.run A outer s H args us [.ref a] Q E hr e0 hb r ⟨a, ns, rfl, .inr h, hl, tt, q⟩
end
end Fs
namespace Fs
open PySem L2
end Fs
set_option maxHeartbeats 4000000
/-! targets that are tuples of names -/
namespace Fs
open PySem L2
variable [Tb : Tabs]
section
variable {X : Cx} {Wx : WE} {pos : Pos}
/-- a, b, .. = value -/
def dUnp (g : DG) (a : DE) : DS := fun ls S => rsOf ls (a ls S) fun w S1 => match g w ls with
  | some ls' => .nx ls' S1
  | none => .bad
end
end Fs
set_option maxHeartbeats 4000000
/-! lists repeated, turned round, walked from the end; the least of a list; xs[i] += e -/
namespace Fs
open PySem PyProof.Rows L2
variable [Tb : Tabs]
section
variable {X : Cx} {Wx : WE} {a b c e : Expr} {ma mb mc : DE} {pos p p2 : Pos}
/-! the least of a list -/
/-! t[::-1] of a tuple or a list -/
omit Tb in
theorem VrA.rev {K : PySem.W.Frag} {μ : Mu} {H : Hp} {xs : List V} {ws : List W} (h : VrA K μ H xs ws) : VrA K μ H xs.reverse ws.reverse := VrA.reverse h
/-! reversed(e), walked -/
/-! xs[i] += e -/
end
end Fs
set_option maxHeartbeats 4000000
/-! zip of two lists or of two tuples, walked -/
namespace Fs
open PySem PyProof.Rows L2
end Fs
set_option maxHeartbeats 4000000
/-! set comprehensions, whatever stands in the set -/
namespace Sc
open PySem PySem.Spec PyProof.Rows L2 PpSet
abbrev bare (w : World) : Obj := ⟨.type "set", none, .set #[] 0 (.fresh 0 0 (!w.params.followText "set-order")), #[]⟩
end Sc
set_option maxHeartbeats 4000000
/-! sorted({..}), by denotations -/
namespace Fs
open PySem PyProof.Rows L2
end Fs
set_option maxHeartbeats 4000000
/-! sets of whole numbers, sets of pairs of them -/
namespace Fs
open PySem PyProof.Rows L2
/-! whole numbers -/
end Fs
set_option maxHeartbeats 4000000
/-! sets of pairs of small whole numbers -/
namespace Fs
open PySem PyProof.Rows L2
variable [Tb : Tabs]
/-- a pair that stands in a set -/
def PairAt (K : PySem.W.Frag) (μ : Mu) (H : Hp) (p : Addr × List Int) : Prop := ∃ x y, p.2 = [x, y] ∧ (0 ≤ x ∧ x < 64) ∧ (0 ≤ y ∧ y < 64) ∧ Vr K μ H (.ref p.1) (.tup [.int x, .int y])
omit Tb in
theorem vra_ints2 {K : PySem.W.Frag} {μ : Mu} {H : Hp} {xs : List V} {x y : Int} (h : VrA K μ H xs [.int x, .int y]) : xs = [x, y].map V.int := by
  cases h with
  | cons h1 h2 =>
    cases h2 with
    | cons h2 h3 =>
      cases h3
      cases h1
      cases h2
      rfl
theorem PairAt.sqt {K : PySem.W.Frag} {μ : Mu} {H : Hp} {p : Addr × List Int} (h : PairAt K μ H p) : SqT K H p.1 (p.2.map V.int) := by
  obtain ⟨x, y, e, _, _, r⟩ := h
  rw [e]
  cases r with
  | tup h1 h2 =>
    have := vra_ints2 h2
    subst this
    exact h1.t
theorem PairAt.mono {K : PySem.W.Frag} {μ μ' : Mu} {H H' : Hp} {p : Addr × List Int} (g : Gq μ μ' H H') (h : PairAt K μ H p) : PairAt K μ' H' p := by
  obtain ⟨x, y, e, b1, b2, r⟩ := h
  exact ⟨x, y, e, b1, b2, r.mono0 g⟩
end Fs
set_option maxHeartbeats 4000000
/-! small words for the generated texts -/
namespace Fs
open PySem L2
variable [Tb : Tabs]
omit Tb in
theorem u8 {k : Nat} {A : Around} (r : Room k A) : A.units + 8 < cLine := by
  have := r.un
  omega
end Fs
set_option maxHeartbeats 4000000
/-! any(a list of truths); d.get(k, x); d[k] = v -/
namespace Fs
open PySem L2
variable [Tb : Tabs]
omit Tb in
theorem huD {k : Nat} {A : Around} (h : Room k A) : A.units + 1 < cLine := by
  have := u8 h
  omega
section
variable {X : Cx} {Wx : WE} {a b c e : Expr} {ma mb mc : DE} {pos : Pos}
/-! d.get(k, x) -/
def gDGet (x y z : W) (S : Store) : Res W := match dctW S x, keyW y with
  | some kvs, some k => .ok ((valW kvs k).getD z) S
  | _, _ => .bad
def dGet2 (a b c : DE) : DE := fun ls S => (a ls S).bind fun x S1 => match dctW S1 x with
  | none => .bad
  | some _ => (b ls S1).bind fun y S2 => (c ls S2).bind fun z S3 => gDGet x y z S3
theorem se_get2 {apos cpos : Pos} (hu : X.A.units + 1 < cLine) (ha : SE X Wx a ma) (hb : SE X Wx b mb) (hc : SE X Wx c mc) (m : M2 X a "get" apos b c cpos := by exact ⟨rfl, rfl, rfl, rfl⟩) :
    SE X Wx (.Call (.Attribute a "get" apos) [b, c] [] cpos) (dGet2 ma mb mc) := by
  obtain ⟨t1, p1, q1⟩ := ha.ex
  obtain ⟨t2, p2, q2⟩ := hb.ex
  obtain ⟨t3, p3, q3⟩ := hc.ex
  refine ⟨_, pe_dget2 hu p1 p2 p3 m, fun σ H μ ls S Q hL hS h => ?_⟩
  refine q1 σ H μ ls S _ hL hS (Bd.bind (fun w1 S1 v1 H1 μ1 g1 s1 r1 h1 => ?_) h)
  split at h1
  · exact False.elim h1
  · rename_i kvs0 e0
    obtain ⟨n0, a0, xs0, rfl, rfl, h30, h40, h50⟩ := s1.cellD e0 r1
    refine ⟨a0, rfl, .inl ⟨_, .inl h40⟩, ?_⟩
    have hL1 := hL.mono g1
    refine q2 σ H1 μ1 ls S1 _ hL1 s1 (Bd.bind (fun w2 S2 v2 H2 μ2 g2 s2 r2 h2 => ?_) h1)
    have hL2 := hL1.mono g2
    refine q3 σ H2 μ2 ls S2 _ hL2 s2 (Bd.bind (fun w3 S3 v3 H3 μ3 g3 s3 r3 h3 => ?_) h2)
    have r1' := (r1.mono g2).mono g3
    have r2' := r2.mono g3
    unfold gDGet at h3
    split at h3
    · rename_i kvs k e1 e2
      obtain ⟨n, a, xs, hn, ha', h4, h5, h6⟩ := s3.cellD e1 r1'
      cases hn
      cases ha'
      have ek := key_v r2' e2
      subst ek
      refine ⟨_, DGet.k h5, ?_⟩
      have := h6.val k
      cases ew : valW kvs k with
      | none =>
        rw [ew] at this h3
        cases ev : valV xs k with
        | none => exact h3 v3 H3 μ3 (Gr.refl _ _) s3 r3
        | some v =>
          rw [ev] at this
          exact False.elim this
      | some w =>
        rw [ew] at this h3
        obtain ⟨v, ev, rv⟩ := this.some
        rw [ev]
        exact h3 v H3 μ3 (Gr.refl _ _) s3 rv
    · exact False.elim h3
/-! d[k] = v -/
end
end Fs
set_option maxHeartbeats 4000000
namespace Fs
open PySem L2
/-! ### from the end backwards: what is wanted of a value, of a test, of a row -/
def Ve (m : DE) (ls : Lo) (S : Store) (Q : W → Store → Prop) : Prop := ∃ w S', m ls S = .ok w S' ∧ Q w S'
def Vt (m : DT) (ls : Lo) (S : Store) (Q : Bool → Store → Prop) : Prop := ∃ b S', m ls S = .ok b S' ∧ Q b S'
def Va (as : List DE) (ls : Lo) (S : Store) (Q : List W → Store → Prop) : Prop := ∃ ws S', dArgs as ls S = .ok ws S' ∧ Q ws S'
def Vf (f : DF) (ws : List W) (S : Store) (Q : W → Store → Prop) : Prop := ∃ w S', f ws S = .ok w S' ∧ Q w S'
def Vo (g : W → W → Store → Res W) (x y : W) (S : Store) (Q : W → Store → Prop) : Prop := ∃ w S', g x y S = .ok w S' ∧ Q w S'
def Vu (u : W → Store → Res W) (x : W) (S : Store) (Q : W → Store → Prop) : Prop := ∃ w S', u x S = .ok w S' ∧ Q w S'
def Vg (x : W) (S : Store) (Q : Bool → Store → Prop) : Prop := ∃ b S', gTruth x S = .ok b S' ∧ Q b S'
def Vd (o : DO) (ls : Lo) (S : Store) (Q : Option Int → Store → Prop) : Prop := ∃ x S', o ls S = .ok x S' ∧ Q x S'
def Vz (x : W) (l h : Option Int) (S : Store) (Q : W → Store → Prop) : Prop := ∃ w S', gSlice x l h S = .ok w S' ∧ Q w S'
def Vi (it : DI) (ls : Lo) (S : Store) (Q : Src → Store → Prop) : Prop := ∃ r S', it ls S = .ok r S' ∧ Q r S'
def Vbl (w : W) (S : Store) (Q : Bool → Store → Prop) : Prop := ∃ b, w = .bl b ∧ Q b S
def Vint (w : W) (S : Store) (Q : Int → Store → Prop) : Prop := ∃ i, w = .int i ∧ Q i S
abbrev Cb (b : Bool) (X Y : Prop) : Prop := (b = true → X) ∧ (b = false → Y)
def Vs (m : DS) (ls : Lo) (S : Store) (N : Lo → Store → Prop) (R : RS → Prop) : Prop := match m ls S with
  | .nx l s => N l s
  | r => R r
/-- the end of a def -/
def rtQ (Q : W → Store → Prop) : RS → Prop
  | .rt w s => Q w s
  | _ => False
def Vl (src : Src) (g : DG) (m : DS) (ls : Lo) (S : Store) (N : Lo → Store → Prop) (R : RS → Prop) : Prop := match dLoop src.stay g m src.items ls S with
  | .nx l s => N l s
  | r => R r
/-- within a loop -/
def lpQ (I N : Lo → Store → Prop) (R : RS → Prop) : RS → Prop
  | .ct l s => I l s
  | .bk l s => N l s
  | r => R r
def Vc (src : Src) (g : DG) (vs : List Nat) (tt : DT) (te : DE) (ls : Lo) (S : Store) (Q : W → Store → Prop) : Prop := ∃ w S', lcK g vs tt te ls (.ok src S) = .ok w S' ∧ Q w S'
section
variable {a b c : DE} {as : List DE} {ls : Lo} {S S' : Store} {Q : W → Store → Prop} {QB : Bool → Store → Prop} {QA : List W → Store → Prop} {QO : Option Int → Store → Prop} {QI : Src → Store → Prop} {QN : Int → Store → Prop}
  {r0 : Nat} {N : Lo → Store → Prop} {R : RS → Prop} {w x y z : W} {ws : List W} {t t1 t2 : DT} {m n : DS} {f : DF} {i : Nat} {g g' : W → W → Store → Res W} {u : W → Store → Res W} {lo hi : DO} {B : Bool} {j k : Int} {it : DI} {dg : DG}
theorem ve_var (h : ls[i]? = some (some w)) (q : Q w S) : Ve (dVar i) ls S Q := ⟨w, S, by unfold dVar; rw [h], q⟩
theorem ve_v0 {r : Lo} (q : Q w S) : Ve (dVar 0) (some w :: r) S Q := ve_var rfl q
theorem ve_v1 {x0 : Option W} {r : Lo} (q : Q w S) : Ve (dVar 1) (x0 :: some w :: r) S Q := ve_var rfl q
theorem ve_v2 {x0 x1 : Option W} {r : Lo} (q : Q w S) : Ve (dVar 2) (x0 :: x1 :: some w :: r) S Q := ve_var rfl q
theorem ve_v3 {x0 x1 x2 : Option W} {r : Lo} (q : Q w S) : Ve (dVar 3) (x0 :: x1 :: x2 :: some w :: r) S Q := ve_var rfl q
theorem ve_v4 {x0 x1 x2 x3 : Option W} {r : Lo} (q : Q w S) : Ve (dVar 4) (x0 :: x1 :: x2 :: x3 :: some w :: r) S Q := ve_var rfl q
theorem ve_v5 {x0 x1 x2 x3 x4 : Option W} {r : Lo} (q : Q w S) : Ve (dVar 5) (x0 :: x1 :: x2 :: x3 :: x4 :: some w :: r) S Q := ve_var rfl q
theorem ve_v6 {x0 x1 x2 x3 x4 x5 : Option W} {r : Lo} (q : Q w S) : Ve (dVar 6) (x0 :: x1 :: x2 :: x3 :: x4 :: x5 :: some w :: r) S Q := ve_var rfl q
theorem ve_v7 {x0 x1 x2 x3 x4 x5 x6 : Option W} {r : Lo} (q : Q w S) : Ve (dVar 7) (x0 :: x1 :: x2 :: x3 :: x4 :: x5 :: x6 :: some w :: r) S Q := ve_var rfl q
theorem ve_v8 {x0 x1 x2 x3 x4 x5 x6 x7 : Option W} {r : Lo} (q : Q w S) : Ve (dVar 8) (x0 :: x1 :: x2 :: x3 :: x4 :: x5 :: x6 :: x7 :: some w :: r) S Q := ve_var rfl q
theorem ve_v9 {x0 x1 x2 x3 x4 x5 x6 x7 x8 : Option W} {r : Lo} (q : Q w S) : Ve (dVar 9) (x0 :: x1 :: x2 :: x3 :: x4 :: x5 :: x6 :: x7 :: x8 :: some w :: r) S Q := ve_var rfl q
theorem ve_v10 {x0 x1 x2 x3 x4 x5 x6 x7 x8 x9 : Option W} {r : Lo} (q : Q w S) : Ve (dVar 10) (x0 :: x1 :: x2 :: x3 :: x4 :: x5 :: x6 :: x7 :: x8 :: x9 :: some w :: r) S Q := ve_var rfl q
theorem ve_v11 {x0 x1 x2 x3 x4 x5 x6 x7 x8 x9 x10 : Option W} {r : Lo} (q : Q w S) : Ve (dVar 11) (x0 :: x1 :: x2 :: x3 :: x4 :: x5 :: x6 :: x7 :: x8 :: x9 :: x10 :: some w :: r) S Q := ve_var rfl q
theorem ve_v12 {x0 x1 x2 x3 x4 x5 x6 x7 x8 x9 x10 x11 : Option W} {r : Lo} (q : Q w S) : Ve (dVar 12) (x0 :: x1 :: x2 :: x3 :: x4 :: x5 :: x6 :: x7 :: x8 :: x9 :: x10 :: x11 :: some w :: r) S Q := ve_var rfl q
theorem ve_v13 {x0 x1 x2 x3 x4 x5 x6 x7 x8 x9 x10 x11 x12 : Option W} {r : Lo} (q : Q w S) : Ve (dVar 13) (x0 :: x1 :: x2 :: x3 :: x4 :: x5 :: x6 :: x7 :: x8 :: x9 :: x10 :: x11 :: x12 :: some w :: r) S Q := ve_var rfl q
theorem ve_v14 {x0 x1 x2 x3 x4 x5 x6 x7 x8 x9 x10 x11 x12 x13 : Option W} {r : Lo} (q : Q w S) : Ve (dVar 14) (x0 :: x1 :: x2 :: x3 :: x4 :: x5 :: x6 :: x7 :: x8 :: x9 :: x10 :: x11 :: x12 :: x13 :: some w :: r) S Q := ve_var rfl q
theorem ve_v15 {x0 x1 x2 x3 x4 x5 x6 x7 x8 x9 x10 x11 x12 x13 x14 : Option W} {r : Lo} (q : Q w S) : Ve (dVar 15) (x0 :: x1 :: x2 :: x3 :: x4 :: x5 :: x6 :: x7 :: x8 :: x9 :: x10 :: x11 :: x12 :: x13 :: x14 :: some w :: r) S Q := ve_var rfl q
theorem ve_v16 {x0 x1 x2 x3 x4 x5 x6 x7 x8 x9 x10 x11 x12 x13 x14 x15 : Option W} {r : Lo} (q : Q w S) : Ve (dVar 16) (x0 :: x1 :: x2 :: x3 :: x4 :: x5 :: x6 :: x7 :: x8 :: x9 :: x10 :: x11 :: x12 :: x13 :: x14 :: x15 :: some w :: r) S Q := ve_var rfl q
theorem ve_v17 {x0 x1 x2 x3 x4 x5 x6 x7 x8 x9 x10 x11 x12 x13 x14 x15 x16 : Option W} {r : Lo} (q : Q w S) : Ve (dVar 17) (x0 :: x1 :: x2 :: x3 :: x4 :: x5 :: x6 :: x7 :: x8 :: x9 :: x10 :: x11 :: x12 :: x13 :: x14 :: x15 :: x16 :: some w :: r) S Q := ve_var rfl q
theorem ve_v18 {x0 x1 x2 x3 x4 x5 x6 x7 x8 x9 x10 x11 x12 x13 x14 x15 x16 x17 : Option W} {r : Lo} (q : Q w S) : Ve (dVar 18) (x0 :: x1 :: x2 :: x3 :: x4 :: x5 :: x6 :: x7 :: x8 :: x9 :: x10 :: x11 :: x12 :: x13 :: x14 :: x15 :: x16 :: x17 :: some w :: r) S Q := ve_var rfl q
theorem ve_v19 {x0 x1 x2 x3 x4 x5 x6 x7 x8 x9 x10 x11 x12 x13 x14 x15 x16 x17 x18 : Option W} {r : Lo} (q : Q w S) : Ve (dVar 19) (x0 :: x1 :: x2 :: x3 :: x4 :: x5 :: x6 :: x7 :: x8 :: x9 :: x10 :: x11 :: x12 :: x13 :: x14 :: x15 :: x16 :: x17 :: x18 :: some w :: r) S Q := ve_var rfl q
theorem ve_v20 {x0 x1 x2 x3 x4 x5 x6 x7 x8 x9 x10 x11 x12 x13 x14 x15 x16 x17 x18 x19 : Option W} {r : Lo} (q : Q w S) : Ve (dVar 20) (x0 :: x1 :: x2 :: x3 :: x4 :: x5 :: x6 :: x7 :: x8 :: x9 :: x10 :: x11 :: x12 :: x13 :: x14 :: x15 :: x16 :: x17 :: x18 :: x19 :: some w :: r) S Q := ve_var rfl q
theorem ve_v21 {x0 x1 x2 x3 x4 x5 x6 x7 x8 x9 x10 x11 x12 x13 x14 x15 x16 x17 x18 x19 x20 : Option W} {r : Lo} (q : Q w S) : Ve (dVar 21) (x0 :: x1 :: x2 :: x3 :: x4 :: x5 :: x6 :: x7 :: x8 :: x9 :: x10 :: x11 :: x12 :: x13 :: x14 :: x15 :: x16 :: x17 :: x18 :: x19 :: x20 :: some w :: r) S Q := ve_var rfl q
theorem ve_v22 {x0 x1 x2 x3 x4 x5 x6 x7 x8 x9 x10 x11 x12 x13 x14 x15 x16 x17 x18 x19 x20 x21 : Option W} {r : Lo} (q : Q w S) : Ve (dVar 22) (x0 :: x1 :: x2 :: x3 :: x4 :: x5 :: x6 :: x7 :: x8 :: x9 :: x10 :: x11 :: x12 :: x13 :: x14 :: x15 :: x16 :: x17 :: x18 :: x19 :: x20 :: x21 :: some w :: r) S Q := ve_var rfl q
theorem ve_v23 {x0 x1 x2 x3 x4 x5 x6 x7 x8 x9 x10 x11 x12 x13 x14 x15 x16 x17 x18 x19 x20 x21 x22 : Option W} {r : Lo} (q : Q w S) : Ve (dVar 23) (x0 :: x1 :: x2 :: x3 :: x4 :: x5 :: x6 :: x7 :: x8 :: x9 :: x10 :: x11 :: x12 :: x13 :: x14 :: x15 :: x16 :: x17 :: x18 :: x19 :: x20 :: x21 :: x22 :: some w :: r) S Q := ve_var rfl q
theorem ve_v24 {x0 x1 x2 x3 x4 x5 x6 x7 x8 x9 x10 x11 x12 x13 x14 x15 x16 x17 x18 x19 x20 x21 x22 x23 : Option W} {r : Lo} (q : Q w S) : Ve (dVar 24) (x0 :: x1 :: x2 :: x3 :: x4 :: x5 :: x6 :: x7 :: x8 :: x9 :: x10 :: x11 :: x12 :: x13 :: x14 :: x15 :: x16 :: x17 :: x18 :: x19 :: x20 :: x21 :: x22 :: x23 :: some w :: r) S Q := ve_var rfl q
theorem ve_v25 {x0 x1 x2 x3 x4 x5 x6 x7 x8 x9 x10 x11 x12 x13 x14 x15 x16 x17 x18 x19 x20 x21 x22 x23 x24 : Option W} {r : Lo} (q : Q w S) : Ve (dVar 25) (x0 :: x1 :: x2 :: x3 :: x4 :: x5 :: x6 :: x7 :: x8 :: x9 :: x10 :: x11 :: x12 :: x13 :: x14 :: x15 :: x16 :: x17 :: x18 :: x19 :: x20 :: x21 :: x22 :: x23 :: x24 :: some w :: r) S Q := ve_var rfl q
theorem ve_c (q : Q w S) : Ve (dC w) ls S Q := ⟨w, S, rfl, q⟩
theorem ve_op (h : Ve a ls S fun x s => Ve b ls s fun y s' => Vo g x y s' Q) : Ve (dOp g a b) ls S Q := by
  obtain ⟨x, S1, e1, y, S2, e2, w, S3, e3, q⟩ := h
  exact ⟨w, S3, by rw [op_ev, e1, opK_ok, e2, opK2_ok, e3], q⟩
theorem ve_un (h : Ve a ls S fun x s => Vu u x s Q) : Ve (dUn u a) ls S Q := by
  obtain ⟨x, S1, e1, w, S3, e3, q⟩ := h
  exact ⟨w, S3, by rw [un_ev, e1, unK_ok, e3], q⟩
theorem ve_call (h : Va as ls S fun ws s => Vf f ws s Q) : Ve (dCall f as) ls S Q := by
  obtain ⟨x, S1, e1, w, S3, e3, q⟩ := h
  exact ⟨w, S3, by rw [call_ev, e1, callK_ok, e3], q⟩
theorem va_nil (q : QA [] S) : Va [] ls S QA := ⟨_, _, rfl, q⟩
theorem va_cons (h : Ve a ls S fun w s => Va as ls s fun ws s' => QA (w :: ws) s') : Va (a :: as) ls S QA := by
  obtain ⟨x, S1, e1, ws, S2, e2, q⟩ := h
  exact ⟨_, S2, by rw [args_ev, e1, argK_ok, e2, argK2_ok], q⟩
theorem dArgs_len : ∀ {as : List DE} {ls : Lo} {S S' : Store} {ws : List W}, dArgs as ls S = .ok ws S' → ws.length = as.length
  | [], _, _, _, _, e => by cases e; rfl
  | a :: as, ls, S, S', ws, e => by
    rw [args_ev] at e
    cases e1 : a ls S with
    | ok w S1 =>
      rw [e1, argK_ok] at e
      cases e2 : dArgs as ls S1 with
      | ok us S2 =>
        rw [e2, argK2_ok] at e
        cases e
        rw [List.length_cons, List.length_cons, dArgs_len e2]
      | exc _ _ => rw [e2] at e; cases e
      | bad => rw [e2] at e; cases e
    | exc _ _ => rw [e1] at e; cases e
    | bad => rw [e1] at e; cases e
theorem ve_tup (hl : as.length ≤ 100) (h : Va as ls S fun ws s => Q (.tup ws) s) : Ve (dTup as) ls S Q := by
  obtain ⟨ws, S1, e1, q⟩ := h
  exact ⟨_, S1, by rw [tup_ev, e1, tupK_ok (by rw [dArgs_len e1]; exact hl)], q⟩
theorem ve_lst (hl : as.length ≤ 100) (h : Va as ls S fun ws s => Q (.loc s.length) (s ++ [.lst ws])) : Ve (dLst as) ls S Q := by
  obtain ⟨ws, S1, e1, q⟩ := h
  exact ⟨_, _, by rw [lst_ev, e1, lstK_ok (by rw [dArgs_len e1]; exact hl)], q⟩
theorem vbl (q : QB B S) : Vbl (.bl B) S QB := ⟨B, rfl, q⟩
theorem vint (q : QN j S) : Vint (.int j) S QN := ⟨j, rfl, q⟩
theorem vt_t (h : Ve a ls S fun w s => Vg w s QB) : Vt (dT a) ls S QB := by
  obtain ⟨x, S1, e1, b, S2, e2, q⟩ := h
  exact ⟨b, S2, by rw [t_ev, e1, tK_ok, e2], q⟩
theorem vt_tb (h : Ve a ls S fun w s => Vbl w s QB) : Vt (dTB a) ls S QB := by
  obtain ⟨x, S1, e1, b, rfl, q⟩ := h
  exact ⟨b, S1, by rw [tb_ev, e1, tbK_ok], q⟩
theorem vt_not (h : Vt t ls S fun b s => QB (!b) s) : Vt (dNotT t) ls S QB := by
  obtain ⟨b, S1, e1, q⟩ := h
  exact ⟨_, S1, by rw [nt_ev, e1, ntK_ok], q⟩
theorem vt_yes (q : QB true S) : Vt dYes ls S QB := ⟨true, S, rfl, q⟩
theorem vt_and (h : Vt t1 ls S fun b s => Cb b (Vt t2 ls s QB) (QB false s)) : Vt (dAndT t1 t2) ls S QB := by
  obtain ⟨b, S1, e1, q⟩ := h
  cases b with
  | true =>
    obtain ⟨b2, S2, e2, q2⟩ := q.1 rfl
    exact ⟨b2, S2, by rw [and_ev, e1, aK_t, e2], q2⟩
  | false => exact ⟨false, S1, by rw [and_ev, e1, aK_f], q.2 rfl⟩
theorem vt_or (h : Vt t1 ls S fun b s => Cb b (QB true s) (Vt t2 ls s QB)) : Vt (dOrT t1 t2) ls S QB := by
  obtain ⟨b, S1, e1, q⟩ := h
  cases b with
  | false =>
    obtain ⟨b2, S2, e2, q2⟩ := q.2 rfl
    exact ⟨b2, S2, by rw [or_ev, e1, oK_f, e2], q2⟩
  | true => exact ⟨true, S1, by rw [or_ev, e1, oK_t], q.1 rfl⟩
theorem ve_and (h : Ve a ls S fun x s => Vg x s fun c s' => Cb c (Ve b ls s' Q) (Q x s')) : Ve (dAnd a b) ls S Q := by
  obtain ⟨x, S1, e1, c, S2, e2, q⟩ := h
  cases c with
  | true =>
    obtain ⟨w, S3, e3, q3⟩ := q.1 rfl
    exact ⟨w, S3, by rw [av_ev, e1, avK_ok, e2, avK2_t, e3], q3⟩
  | false => exact ⟨x, S2, by rw [av_ev, e1, avK_ok, e2, avK2_f], q.2 rfl⟩
theorem ve_or (h : Ve a ls S fun x s => Vg x s fun c s' => Cb c (Q x s') (Ve b ls s' Q)) : Ve (dOr a b) ls S Q := by
  obtain ⟨x, S1, e1, c, S2, e2, q⟩ := h
  cases c with
  | false =>
    obtain ⟨w, S3, e3, q3⟩ := q.2 rfl
    exact ⟨w, S3, by rw [ov_ev, e1, ovK_ok, e2, ovK2_f, e3], q3⟩
  | true => exact ⟨x, S2, by rw [ov_ev, e1, ovK_ok, e2, ovK2_t], q.1 rfl⟩
theorem ve_not (h : Ve a ls S fun x s => Vg x s fun c s' => Q (.bl (!c)) s') : Ve (dNot a) ls S Q := by
  obtain ⟨x, S1, e1, c, S2, e2, q⟩ := h
  exact ⟨_, S2, by rw [nv_ev, e1, nvK_ok, e2, nvK2_ok], q⟩
theorem ve_ifE (h : Vt t ls S fun c s => Cb c (Ve a ls s Q) (Ve b ls s Q)) : Ve (dIfE t a b) ls S Q := by
  obtain ⟨c, S1, e1, q⟩ := h
  cases c with
  | true =>
    obtain ⟨w, S3, e3, q3⟩ := q.1 rfl
    exact ⟨w, S3, by rw [ie_ev, e1, ieK_t, e3], q3⟩
  | false =>
    obtain ⟨w, S3, e3, q3⟩ := q.2 rfl
    exact ⟨w, S3, by rw [ie_ev, e1, ieK_f, e3], q3⟩
theorem ve_chain (h : Ve a ls S fun x s => Ve b ls s fun y s1 => Vo g x y s1 fun k s2 => Vbl k s2 fun k s3 => Cb k (Ve c ls s3 fun z s4 => Vo g' y z s4 Q) (Q (.bl false) s3)) : Ve (dChain g g' a b c) ls S Q := by
  obtain ⟨x, S1, e1, y, S2, e2, k, S3, e3, k, rfl, q⟩ := h
  cases k with
  | true =>
    obtain ⟨z, S4, e4, w, S5, e5, q5⟩ := q.1 rfl
    exact ⟨w, S5, by rw [ch_ev, e1, chK_ok, e2, chK2_ok, e3, chK3_t, e4, chK4_ok, e5], q5⟩
  | false => exact ⟨_, S3, by rw [ch_ev, e1, chK_ok, e2, chK2_ok, e3, chK3_f], q.2 rfl⟩
theorem vd_none (q : QO none S) : Vd dNoP ls S QO := ⟨none, S, rfl, q⟩
theorem vd_part (h : Ve a ls S fun w s => Vint w s fun i s => QO (some i) s) : Vd (dPart a) ls S QO := by
  obtain ⟨x, S1, e1, i, rfl, q⟩ := h
  exact ⟨some i, S1, by rw [part_ev, e1, partK_ok], q⟩
theorem ve_sl (h : Ve a ls S fun x s => Vd lo ls s fun l s1 => Vd hi ls s1 fun h s2 => Vz x l h s2 Q) : Ve (dSl a lo hi) ls S Q := by
  obtain ⟨x, S1, e1, l, S2, e2, h, S3, e3, w, S4, e4, q⟩ := h
  exact ⟨w, S4, by rw [sl_ev, e1, slK_ok, e2, slK2_ok, e3, slK3_ok, e4], q⟩
/-! rows -/
theorem Vs.mono {m : DS} {ls : Lo} {S : Store} {N N' : Lo → Store → Prop} {R : RS → Prop} (h : Vs m ls S N R) (q : ∀ l s, N l s → N' l s) : Vs m ls S N' R := by
  unfold Vs at h ⊢
  cases e : m ls S with
  | nx l s => rw [e] at h; exact q _ _ h
  | _ => rw [e] at h; exact h
def endQ (N : Lo → Store → Prop) (R : RS → Prop) : RS → Prop
  | .nx l s => N l s
  | r => R r
theorem vs_of {r : RS} (e : m ls S = r) (q : endQ N R r) : Vs m ls S N R := by
  show endQ N R (m ls S)
  rw [e]
  exact q
theorem vs_nx (q : N ls S) : Vs dNx ls S N R := q
theorem vs_bk (q : R (.bk ls S)) : Vs dBk ls S N R := q
theorem vs_ct (q : R (.ct ls S)) : Vs dCt ls S N R := q
theorem vs_retN (q : R (.rt .non S)) : Vs dRetN ls S N R := q
theorem vs_ret (h : Ve a ls S fun w s => R (.rt w s)) : Vs (dRet a) ls S N R := by
  obtain ⟨w, S1, e, q⟩ := h
  exact vs_of (r := .rt w S1) (by rw [rt_ev, e, rtK_ok]) q
theorem vs_set (i : Nat) (h : Ve a ls S fun w s => N (ls.set i (some w)) s) : Vs (dSet i a) ls S N R := by
  obtain ⟨w, S1, e, q⟩ := h
  exact vs_of (r := .nx (ls.set i (some w)) S1) (by rw [set_ev, e, setK_ok]) q
theorem vs_s0 {x0 : Option W} {r : Lo} (h : Ve a (x0 :: r) S fun w s => N (some w :: r) s) : Vs (dSet 0 a) (x0 :: r) S N R := vs_set 0 h
theorem vs_s1 {x0 x1 : Option W} {r : Lo} (h : Ve a (x0 :: x1 :: r) S fun w s => N (x0 :: some w :: r) s) : Vs (dSet 1 a) (x0 :: x1 :: r) S N R := vs_set 1 h
theorem vs_s2 {x0 x1 x2 : Option W} {r : Lo} (h : Ve a (x0 :: x1 :: x2 :: r) S fun w s => N (x0 :: x1 :: some w :: r) s) : Vs (dSet 2 a) (x0 :: x1 :: x2 :: r) S N R := vs_set 2 h
theorem vs_s3 {x0 x1 x2 x3 : Option W} {r : Lo} (h : Ve a (x0 :: x1 :: x2 :: x3 :: r) S fun w s => N (x0 :: x1 :: x2 :: some w :: r) s) : Vs (dSet 3 a) (x0 :: x1 :: x2 :: x3 :: r) S N R := vs_set 3 h
theorem vs_s4 {x0 x1 x2 x3 x4 : Option W} {r : Lo} (h : Ve a (x0 :: x1 :: x2 :: x3 :: x4 :: r) S fun w s => N (x0 :: x1 :: x2 :: x3 :: some w :: r) s) : Vs (dSet 4 a) (x0 :: x1 :: x2 :: x3 :: x4 :: r) S N R := vs_set 4 h
theorem vs_s5 {x0 x1 x2 x3 x4 x5 : Option W} {r : Lo} (h : Ve a (x0 :: x1 :: x2 :: x3 :: x4 :: x5 :: r) S fun w s => N (x0 :: x1 :: x2 :: x3 :: x4 :: some w :: r) s) : Vs (dSet 5 a) (x0 :: x1 :: x2 :: x3 :: x4 :: x5 :: r) S N R := vs_set 5 h
theorem vs_s6 {x0 x1 x2 x3 x4 x5 x6 : Option W} {r : Lo} (h : Ve a (x0 :: x1 :: x2 :: x3 :: x4 :: x5 :: x6 :: r) S fun w s => N (x0 :: x1 :: x2 :: x3 :: x4 :: x5 :: some w :: r) s) : Vs (dSet 6 a) (x0 :: x1 :: x2 :: x3 :: x4 :: x5 :: x6 :: r) S N R := vs_set 6 h
theorem vs_s7 {x0 x1 x2 x3 x4 x5 x6 x7 : Option W} {r : Lo} (h : Ve a (x0 :: x1 :: x2 :: x3 :: x4 :: x5 :: x6 :: x7 :: r) S fun w s => N (x0 :: x1 :: x2 :: x3 :: x4 :: x5 :: x6 :: some w :: r) s) : Vs (dSet 7 a) (x0 :: x1 :: x2 :: x3 :: x4 :: x5 :: x6 :: x7 :: r) S N R := vs_set 7 h
theorem vs_s8 {x0 x1 x2 x3 x4 x5 x6 x7 x8 : Option W} {r : Lo} (h : Ve a (x0 :: x1 :: x2 :: x3 :: x4 :: x5 :: x6 :: x7 :: x8 :: r) S fun w s => N (x0 :: x1 :: x2 :: x3 :: x4 :: x5 :: x6 :: x7 :: some w :: r) s) : Vs (dSet 8 a) (x0 :: x1 :: x2 :: x3 :: x4 :: x5 :: x6 :: x7 :: x8 :: r) S N R := vs_set 8 h
theorem vs_s9 {x0 x1 x2 x3 x4 x5 x6 x7 x8 x9 : Option W} {r : Lo} (h : Ve a (x0 :: x1 :: x2 :: x3 :: x4 :: x5 :: x6 :: x7 :: x8 :: x9 :: r) S fun w s => N (x0 :: x1 :: x2 :: x3 :: x4 :: x5 :: x6 :: x7 :: x8 :: some w :: r) s) : Vs (dSet 9 a) (x0 :: x1 :: x2 :: x3 :: x4 :: x5 :: x6 :: x7 :: x8 :: x9 :: r) S N R := vs_set 9 h
theorem vs_s10 {x0 x1 x2 x3 x4 x5 x6 x7 x8 x9 x10 : Option W} {r : Lo} (h : Ve a (x0 :: x1 :: x2 :: x3 :: x4 :: x5 :: x6 :: x7 :: x8 :: x9 :: x10 :: r) S fun w s => N (x0 :: x1 :: x2 :: x3 :: x4 :: x5 :: x6 :: x7 :: x8 :: x9 :: some w :: r) s) : Vs (dSet 10 a) (x0 :: x1 :: x2 :: x3 :: x4 :: x5 :: x6 :: x7 :: x8 :: x9 :: x10 :: r) S N R := vs_set 10 h
theorem vs_s11 {x0 x1 x2 x3 x4 x5 x6 x7 x8 x9 x10 x11 : Option W} {r : Lo} (h : Ve a (x0 :: x1 :: x2 :: x3 :: x4 :: x5 :: x6 :: x7 :: x8 :: x9 :: x10 :: x11 :: r) S fun w s => N (x0 :: x1 :: x2 :: x3 :: x4 :: x5 :: x6 :: x7 :: x8 :: x9 :: x10 :: some w :: r) s) : Vs (dSet 11 a) (x0 :: x1 :: x2 :: x3 :: x4 :: x5 :: x6 :: x7 :: x8 :: x9 :: x10 :: x11 :: r) S N R := vs_set 11 h
theorem vs_s12 {x0 x1 x2 x3 x4 x5 x6 x7 x8 x9 x10 x11 x12 : Option W} {r : Lo} (h : Ve a (x0 :: x1 :: x2 :: x3 :: x4 :: x5 :: x6 :: x7 :: x8 :: x9 :: x10 :: x11 :: x12 :: r) S fun w s => N (x0 :: x1 :: x2 :: x3 :: x4 :: x5 :: x6 :: x7 :: x8 :: x9 :: x10 :: x11 :: some w :: r) s) : Vs (dSet 12 a) (x0 :: x1 :: x2 :: x3 :: x4 :: x5 :: x6 :: x7 :: x8 :: x9 :: x10 :: x11 :: x12 :: r) S N R := vs_set 12 h
theorem vs_s13 {x0 x1 x2 x3 x4 x5 x6 x7 x8 x9 x10 x11 x12 x13 : Option W} {r : Lo} (h : Ve a (x0 :: x1 :: x2 :: x3 :: x4 :: x5 :: x6 :: x7 :: x8 :: x9 :: x10 :: x11 :: x12 :: x13 :: r) S fun w s => N (x0 :: x1 :: x2 :: x3 :: x4 :: x5 :: x6 :: x7 :: x8 :: x9 :: x10 :: x11 :: x12 :: some w :: r) s) : Vs (dSet 13 a) (x0 :: x1 :: x2 :: x3 :: x4 :: x5 :: x6 :: x7 :: x8 :: x9 :: x10 :: x11 :: x12 :: x13 :: r) S N R := vs_set 13 h
theorem vs_s14 {x0 x1 x2 x3 x4 x5 x6 x7 x8 x9 x10 x11 x12 x13 x14 : Option W} {r : Lo} (h : Ve a (x0 :: x1 :: x2 :: x3 :: x4 :: x5 :: x6 :: x7 :: x8 :: x9 :: x10 :: x11 :: x12 :: x13 :: x14 :: r) S fun w s => N (x0 :: x1 :: x2 :: x3 :: x4 :: x5 :: x6 :: x7 :: x8 :: x9 :: x10 :: x11 :: x12 :: x13 :: some w :: r) s) : Vs (dSet 14 a) (x0 :: x1 :: x2 :: x3 :: x4 :: x5 :: x6 :: x7 :: x8 :: x9 :: x10 :: x11 :: x12 :: x13 :: x14 :: r) S N R := vs_set 14 h
theorem vs_s15 {x0 x1 x2 x3 x4 x5 x6 x7 x8 x9 x10 x11 x12 x13 x14 x15 : Option W} {r : Lo} (h : Ve a (x0 :: x1 :: x2 :: x3 :: x4 :: x5 :: x6 :: x7 :: x8 :: x9 :: x10 :: x11 :: x12 :: x13 :: x14 :: x15 :: r) S fun w s => N (x0 :: x1 :: x2 :: x3 :: x4 :: x5 :: x6 :: x7 :: x8 :: x9 :: x10 :: x11 :: x12 :: x13 :: x14 :: some w :: r) s) : Vs (dSet 15 a) (x0 :: x1 :: x2 :: x3 :: x4 :: x5 :: x6 :: x7 :: x8 :: x9 :: x10 :: x11 :: x12 :: x13 :: x14 :: x15 :: r) S N R := vs_set 15 h
theorem vs_s16 {x0 x1 x2 x3 x4 x5 x6 x7 x8 x9 x10 x11 x12 x13 x14 x15 x16 : Option W} {r : Lo} (h : Ve a (x0 :: x1 :: x2 :: x3 :: x4 :: x5 :: x6 :: x7 :: x8 :: x9 :: x10 :: x11 :: x12 :: x13 :: x14 :: x15 :: x16 :: r) S fun w s => N (x0 :: x1 :: x2 :: x3 :: x4 :: x5 :: x6 :: x7 :: x8 :: x9 :: x10 :: x11 :: x12 :: x13 :: x14 :: x15 :: some w :: r) s) : Vs (dSet 16 a) (x0 :: x1 :: x2 :: x3 :: x4 :: x5 :: x6 :: x7 :: x8 :: x9 :: x10 :: x11 :: x12 :: x13 :: x14 :: x15 :: x16 :: r) S N R := vs_set 16 h
theorem vs_s17 {x0 x1 x2 x3 x4 x5 x6 x7 x8 x9 x10 x11 x12 x13 x14 x15 x16 x17 : Option W} {r : Lo} (h : Ve a (x0 :: x1 :: x2 :: x3 :: x4 :: x5 :: x6 :: x7 :: x8 :: x9 :: x10 :: x11 :: x12 :: x13 :: x14 :: x15 :: x16 :: x17 :: r) S fun w s => N (x0 :: x1 :: x2 :: x3 :: x4 :: x5 :: x6 :: x7 :: x8 :: x9 :: x10 :: x11 :: x12 :: x13 :: x14 :: x15 :: x16 :: some w :: r) s) : Vs (dSet 17 a) (x0 :: x1 :: x2 :: x3 :: x4 :: x5 :: x6 :: x7 :: x8 :: x9 :: x10 :: x11 :: x12 :: x13 :: x14 :: x15 :: x16 :: x17 :: r) S N R := vs_set 17 h
theorem vs_s18 {x0 x1 x2 x3 x4 x5 x6 x7 x8 x9 x10 x11 x12 x13 x14 x15 x16 x17 x18 : Option W} {r : Lo} (h : Ve a (x0 :: x1 :: x2 :: x3 :: x4 :: x5 :: x6 :: x7 :: x8 :: x9 :: x10 :: x11 :: x12 :: x13 :: x14 :: x15 :: x16 :: x17 :: x18 :: r) S fun w s => N (x0 :: x1 :: x2 :: x3 :: x4 :: x5 :: x6 :: x7 :: x8 :: x9 :: x10 :: x11 :: x12 :: x13 :: x14 :: x15 :: x16 :: x17 :: some w :: r) s) : Vs (dSet 18 a) (x0 :: x1 :: x2 :: x3 :: x4 :: x5 :: x6 :: x7 :: x8 :: x9 :: x10 :: x11 :: x12 :: x13 :: x14 :: x15 :: x16 :: x17 :: x18 :: r) S N R := vs_set 18 h
theorem vs_s19 {x0 x1 x2 x3 x4 x5 x6 x7 x8 x9 x10 x11 x12 x13 x14 x15 x16 x17 x18 x19 : Option W} {r : Lo} (h : Ve a (x0 :: x1 :: x2 :: x3 :: x4 :: x5 :: x6 :: x7 :: x8 :: x9 :: x10 :: x11 :: x12 :: x13 :: x14 :: x15 :: x16 :: x17 :: x18 :: x19 :: r) S fun w s => N (x0 :: x1 :: x2 :: x3 :: x4 :: x5 :: x6 :: x7 :: x8 :: x9 :: x10 :: x11 :: x12 :: x13 :: x14 :: x15 :: x16 :: x17 :: x18 :: some w :: r) s) : Vs (dSet 19 a) (x0 :: x1 :: x2 :: x3 :: x4 :: x5 :: x6 :: x7 :: x8 :: x9 :: x10 :: x11 :: x12 :: x13 :: x14 :: x15 :: x16 :: x17 :: x18 :: x19 :: r) S N R := vs_set 19 h
theorem vs_s20 {x0 x1 x2 x3 x4 x5 x6 x7 x8 x9 x10 x11 x12 x13 x14 x15 x16 x17 x18 x19 x20 : Option W} {r : Lo} (h : Ve a (x0 :: x1 :: x2 :: x3 :: x4 :: x5 :: x6 :: x7 :: x8 :: x9 :: x10 :: x11 :: x12 :: x13 :: x14 :: x15 :: x16 :: x17 :: x18 :: x19 :: x20 :: r) S fun w s => N (x0 :: x1 :: x2 :: x3 :: x4 :: x5 :: x6 :: x7 :: x8 :: x9 :: x10 :: x11 :: x12 :: x13 :: x14 :: x15 :: x16 :: x17 :: x18 :: x19 :: some w :: r) s) : Vs (dSet 20 a) (x0 :: x1 :: x2 :: x3 :: x4 :: x5 :: x6 :: x7 :: x8 :: x9 :: x10 :: x11 :: x12 :: x13 :: x14 :: x15 :: x16 :: x17 :: x18 :: x19 :: x20 :: r) S N R := vs_set 20 h
theorem vs_s21 {x0 x1 x2 x3 x4 x5 x6 x7 x8 x9 x10 x11 x12 x13 x14 x15 x16 x17 x18 x19 x20 x21 : Option W} {r : Lo} (h : Ve a (x0 :: x1 :: x2 :: x3 :: x4 :: x5 :: x6 :: x7 :: x8 :: x9 :: x10 :: x11 :: x12 :: x13 :: x14 :: x15 :: x16 :: x17 :: x18 :: x19 :: x20 :: x21 :: r) S fun w s => N (x0 :: x1 :: x2 :: x3 :: x4 :: x5 :: x6 :: x7 :: x8 :: x9 :: x10 :: x11 :: x12 :: x13 :: x14 :: x15 :: x16 :: x17 :: x18 :: x19 :: x20 :: some w :: r) s) : Vs (dSet 21 a) (x0 :: x1 :: x2 :: x3 :: x4 :: x5 :: x6 :: x7 :: x8 :: x9 :: x10 :: x11 :: x12 :: x13 :: x14 :: x15 :: x16 :: x17 :: x18 :: x19 :: x20 :: x21 :: r) S N R := vs_set 21 h
theorem vs_s22 {x0 x1 x2 x3 x4 x5 x6 x7 x8 x9 x10 x11 x12 x13 x14 x15 x16 x17 x18 x19 x20 x21 x22 : Option W} {r : Lo} (h : Ve a (x0 :: x1 :: x2 :: x3 :: x4 :: x5 :: x6 :: x7 :: x8 :: x9 :: x10 :: x11 :: x12 :: x13 :: x14 :: x15 :: x16 :: x17 :: x18 :: x19 :: x20 :: x21 :: x22 :: r) S fun w s => N (x0 :: x1 :: x2 :: x3 :: x4 :: x5 :: x6 :: x7 :: x8 :: x9 :: x10 :: x11 :: x12 :: x13 :: x14 :: x15 :: x16 :: x17 :: x18 :: x19 :: x20 :: x21 :: some w :: r) s) : Vs (dSet 22 a) (x0 :: x1 :: x2 :: x3 :: x4 :: x5 :: x6 :: x7 :: x8 :: x9 :: x10 :: x11 :: x12 :: x13 :: x14 :: x15 :: x16 :: x17 :: x18 :: x19 :: x20 :: x21 :: x22 :: r) S N R := vs_set 22 h
theorem vs_s23 {x0 x1 x2 x3 x4 x5 x6 x7 x8 x9 x10 x11 x12 x13 x14 x15 x16 x17 x18 x19 x20 x21 x22 x23 : Option W} {r : Lo} (h : Ve a (x0 :: x1 :: x2 :: x3 :: x4 :: x5 :: x6 :: x7 :: x8 :: x9 :: x10 :: x11 :: x12 :: x13 :: x14 :: x15 :: x16 :: x17 :: x18 :: x19 :: x20 :: x21 :: x22 :: x23 :: r) S fun w s => N (x0 :: x1 :: x2 :: x3 :: x4 :: x5 :: x6 :: x7 :: x8 :: x9 :: x10 :: x11 :: x12 :: x13 :: x14 :: x15 :: x16 :: x17 :: x18 :: x19 :: x20 :: x21 :: x22 :: some w :: r) s) : Vs (dSet 23 a) (x0 :: x1 :: x2 :: x3 :: x4 :: x5 :: x6 :: x7 :: x8 :: x9 :: x10 :: x11 :: x12 :: x13 :: x14 :: x15 :: x16 :: x17 :: x18 :: x19 :: x20 :: x21 :: x22 :: x23 :: r) S N R := vs_set 23 h
theorem vs_s24 {x0 x1 x2 x3 x4 x5 x6 x7 x8 x9 x10 x11 x12 x13 x14 x15 x16 x17 x18 x19 x20 x21 x22 x23 x24 : Option W} {r : Lo} (h : Ve a (x0 :: x1 :: x2 :: x3 :: x4 :: x5 :: x6 :: x7 :: x8 :: x9 :: x10 :: x11 :: x12 :: x13 :: x14 :: x15 :: x16 :: x17 :: x18 :: x19 :: x20 :: x21 :: x22 :: x23 :: x24 :: r) S fun w s => N (x0 :: x1 :: x2 :: x3 :: x4 :: x5 :: x6 :: x7 :: x8 :: x9 :: x10 :: x11 :: x12 :: x13 :: x14 :: x15 :: x16 :: x17 :: x18 :: x19 :: x20 :: x21 :: x22 :: x23 :: some w :: r) s) : Vs (dSet 24 a) (x0 :: x1 :: x2 :: x3 :: x4 :: x5 :: x6 :: x7 :: x8 :: x9 :: x10 :: x11 :: x12 :: x13 :: x14 :: x15 :: x16 :: x17 :: x18 :: x19 :: x20 :: x21 :: x22 :: x23 :: x24 :: r) S N R := vs_set 24 h
theorem vs_s25 {x0 x1 x2 x3 x4 x5 x6 x7 x8 x9 x10 x11 x12 x13 x14 x15 x16 x17 x18 x19 x20 x21 x22 x23 x24 x25 : Option W} {r : Lo} (h : Ve a (x0 :: x1 :: x2 :: x3 :: x4 :: x5 :: x6 :: x7 :: x8 :: x9 :: x10 :: x11 :: x12 :: x13 :: x14 :: x15 :: x16 :: x17 :: x18 :: x19 :: x20 :: x21 :: x22 :: x23 :: x24 :: x25 :: r) S fun w s => N (x0 :: x1 :: x2 :: x3 :: x4 :: x5 :: x6 :: x7 :: x8 :: x9 :: x10 :: x11 :: x12 :: x13 :: x14 :: x15 :: x16 :: x17 :: x18 :: x19 :: x20 :: x21 :: x22 :: x23 :: x24 :: some w :: r) s) : Vs (dSet 25 a) (x0 :: x1 :: x2 :: x3 :: x4 :: x5 :: x6 :: x7 :: x8 :: x9 :: x10 :: x11 :: x12 :: x13 :: x14 :: x15 :: x16 :: x17 :: x18 :: x19 :: x20 :: x21 :: x22 :: x23 :: x24 :: x25 :: r) S N R := vs_set 25 h
theorem vs_expr (h : Ve a ls S fun w s => N ls s) : Vs (dExpr a) ls S N R := by
  obtain ⟨w, S1, e, q⟩ := h
  exact vs_of (r := .nx ls S1) (by rw [ex_ev, e, exK_ok]) q
theorem vs_seq (h : Vs m ls S (fun l s => Vs n l s N R) R) : Vs (dSeq m n) ls S N R := by
  unfold Vs at h ⊢
  rw [sq_ev]
  cases e : m ls S with
  | nx l s => rw [e] at h; exact h
  | _ => rw [e] at h; exact h
theorem vs_seqS (h : Vs (dSet i a) ls S (fun l s => Vs n l s N R) R) : Vs (dSeq (dSet i a) n) ls S N R := vs_seq h
theorem vs_seqR (h : Vs (dIf t (dRet a) dNx) ls S (fun l s => Vs n l s N R) R) : Vs (dSeq (dIf t (dRet a) dNx) n) ls S N R := vs_seq h
theorem vs_seqN (h : Vs (dIf t dRetN dNx) ls S (fun l s => Vs n l s N R) R) : Vs (dSeq (dIf t dRetN dNx) n) ls S N R := vs_seq h
theorem vs_seqU (h : Vs (dUnp dg a) ls S (fun l s => Vs n l s N R) R) : Vs (dSeq (dUnp dg a) n) ls S N R := vs_seq h
theorem vs_seqE (h : Vs (dExpr a) ls S (fun l s => Vs n l s N R) R) : Vs (dSeq (dExpr a) n) ls S N R := vs_seq h
theorem vs_seqX (h : Vs (dSetIx a b c) ls S (fun l s => Vs n l s N R) R) : Vs (dSeq (dSetIx a b c) n) ls S N R := vs_seq h
theorem vs_seqF (h : Vs (dFor it dg m) ls S (fun l s => Vs n l s N R) R) : Vs (dSeq (dFor it dg m) n) ls S N R := vs_seq h
theorem vs_seqC (h : Vs (dIf t dCt dNx) ls S (fun l s => Vs n l s N R) R) : Vs (dSeq (dIf t dCt dNx) n) ls S N R := vs_seq h
theorem vs_seqB (h : Vs (dIf t dBk dNx) ls S (fun l s => Vs n l s N R) R) : Vs (dSeq (dIf t dBk dNx) n) ls S N R := vs_seq h
theorem vs_if (h : Vt t ls S fun b s => Cb b (Vs m ls s N R) (Vs n ls s N R)) : Vs (dIf t m n) ls S N R := by
  obtain ⟨b, S1, e, q⟩ := h
  unfold Vs
  rw [if_ev, e]
  cases b with
  | true => exact q.1 rfl
  | false => exact q.2 rfl
theorem vs_unp (h : Ve a ls S fun w s => ∃ l, dg w ls = some l ∧ N l s) : Vs (dUnp dg a) ls S N R := by
  obtain ⟨w, S1, e, l, e2, q⟩ := h
  refine vs_of (r := .nx l S1) ?_ q
  unfold dUnp
  rw [e]
  show (match dg w ls with | some ls' => RS.nx ls' S1 | none => .bad) = _
  rw [e2]
theorem vs_for (h : Vi it ls S fun src s => Vl src dg m ls s N R) : Vs (dFor it dg m) ls S N R := by
  obtain ⟨src, S1, e, q⟩ := h
  unfold Vs
  have : dFor it dg m ls S = dLoop src.stay dg m src.items ls S1 := by
    unfold dFor
    rw [e]
    rfl
  rw [this]
  exact q
theorem vi_seq (h : Ve a ls S fun w s => ∃ ws, seqW s w = some ws ∧ QI ⟨ws, stayOf w ws⟩ s) : Vi (dSeqI a) ls S QI := by
  obtain ⟨w, S1, e, ws, e2, q⟩ := h
  refine ⟨_, S1, ?_, q⟩
  unfold dSeqI
  rw [e]
  show (match seqW S1 w with | some ws => Res.ok _ S1 | none => .bad) = _
  rw [e2]
theorem vi_r1 (h : Ve a ls S fun w s => ∃ n : Nat, w = .int (n : Int) ∧ n ≤ 1000000 ∧ QI ⟨(List.range n).map fun (i : Nat) => W.int (0 + (i : Int)), fun _ => True⟩ s) : Vi (dRng1 a) ls S QI := by
  obtain ⟨w, S1, e, n, rfl, hn, q⟩ := h
  refine ⟨_, S1, ?_, q⟩
  rw [r1_ev, e, r1K_ok (by omega)]
  unfold rngW
  rw [Int.toNat_natCast]
theorem vi_r2 (h : Ve a ls S fun w s => Ve b ls s fun w2 s => ∃ (i : Int) (n : Nat), w = .int i ∧ w2 = .int (i + n) ∧ n ≤ 1000000 ∧ -1000000 ≤ i ∧ i ≤ 1000000 ∧ QI ⟨(List.range n).map fun (k : Nat) => W.int (i + (k : Int)), fun _ => True⟩ s) : Vi (dRng2 a b) ls S QI := by
  obtain ⟨w, S1, e, w2, S2, e2, i, n, rfl, rfl, hn, h1, h2, q⟩ := h
  refine ⟨_, S2, ?_, q⟩
  have hh : -(2 ^ 62) ≤ i ∧ i < 2 ^ 62 ∧ -(2 ^ 62) ≤ i + (n : Int) ∧ i + (n : Int) < 2 ^ 62 := by omega
  have e3 : dRng2 a b ls S = (Res.ok (W.int i) S1).bind fun w S1 => (b ls S1).bind fun w2 S2 => match w, w2 with
    | .int i, .int j => if -(2 ^ 62) ≤ i ∧ i < 2 ^ 62 ∧ -(2 ^ 62) ≤ j ∧ j < 2 ^ 62 then .ok ⟨rngW i (j - i).toNat, fun _ => True⟩ S2 else .bad
    | _, _ => .bad := by
    rw [← e]
    rfl
  rw [e3]
  dsimp only [Res.bind]
  rw [e2]
  dsimp only [Res.bind]
  rw [if_pos hh]
  unfold rngW
  rw [show (i + (n : Int) - i).toNat = n by omega]
/-- by an invariant -/
theorem vl_inv {src : Src} (I : Nat → Lo → Store → Prop) (hst : ∀ i ls S, I i ls S → src.stay S) (h0 : I 0 ls S)
    (hs : ∀ i w l s, src.items[i]? = some w → I i l s → ∃ l0, dg w l = some l0 ∧ Vs m l0 s (I (i + 1)) (lpQ (I (i + 1)) N R))
    (he : ∀ l s, I src.items.length l s → N l s) : Vl src dg m ls S N R := by
  have key : ∀ (items : List W) (k : Nat), (∀ i w l s, items[i]? = some w → I (k + i) l s → ∃ l0, dg w l = some l0 ∧ Vs m l0 s (I (k + i + 1)) (lpQ (I (k + i + 1)) N R)) →
      (∀ l s, I (k + items.length) l s → N l s) → ∀ ls S, I k ls S → (match dLoop src.stay dg m items ls S with | .nx l s => N l s | r => R r) := by
    intro items
    induction items with
    | nil =>
      intro k _ he ls S h
      rw [loop_nil (hst _ _ _ h)]
      exact he _ _ h
    | cons w ws ih =>
      intro k hs he ls S h
      obtain ⟨l0, e0, q⟩ := hs 0 w ls S rfl h
      have ih' := ih (k + 1) (fun i w' l s e h' => by
        have e3 : k + 1 + i = k + (i + 1) := by omega
        rw [e3] at h' ⊢
        exact hs (i + 1) w' l s (by simpa using e) h') (fun l s h => he l s (by rw [List.length_cons, show k + (ws.length + 1) = k + 1 + ws.length by omega]; exact h))
      rw [loop_cons (hst _ _ _ h) e0]
      unfold Vs at q
      cases e : m l0 S with
      | nx l s => rw [e] at q; exact ih' l s q
      | ct l s => rw [e] at q; exact ih' l s q
      | bk l s => rw [e] at q; exact q
      | rt _ _ => rw [e] at q; exact q
      | ex _ _ _ => rw [e] at q; exact q
      | bad => rw [e] at q; exact q
  exact key src.items 0 (fun i w l s e h => by
    rw [Nat.zero_add] at h ⊢
    exact hs i w l s e h) (fun l s h => he l s (by rwa [Nat.zero_add] at h)) ls S h0
theorem ve_lc {vs : List Nat} (h : Vi it ls S fun src s => Vc src dg vs t a ls s Q) : Ve (dLc it dg vs t a) ls S Q := by
  obtain ⟨src, S1, e, w, S2, e2, q⟩ := h
  exact ⟨w, S2, by rw [lc_ev, e, e2], q⟩
/-- a comprehension by an invariant over (turn, list so far, store) -/
theorem vc_inv {src : Src} {vs : List Nat} (I : Nat → List W → Store → Prop) (hst : ∀ i acc s, I i acc s → src.stay s) (h0 : I 0 [] (S ++ [.lst []]))
    (hs : ∀ i w acc s, src.items[i]? = some w → I i acc s → ∃ l2, dg w (wipeW ls vs) = some l2 ∧ Vt t l2 s fun b s2 => Cb b
      (Ve a l2 s2 fun y s3 => s3[S.length]? = some (.lst acc) ∧ acc.length < 100000 ∧ I (i + 1) (acc ++ [y]) (s3.set S.length (.lst (acc ++ [y])))) (I (i + 1) acc s2))
    (he : ∀ acc s, I src.items.length acc s → Q (.loc S.length) s) : Vc src dg vs t a ls S Q := by
  have := lcLoop_inv (st := src.stay) (g := dg) (tt := t) (te := a) (ls := wipeW ls vs) (D := S.length) I hst src.items 0 (fun i w acc s e h => by
    rw [Nat.zero_add] at h ⊢
    obtain ⟨l2, e1, b, s2, e2, q⟩ := hs i w acc s e h
    refine ⟨l2, b, s2, e1, e2, fun hb => q.2 hb, fun hb => ?_⟩
    obtain ⟨y, s3, e3, e4, e5, q3⟩ := q.1 hb
    exact ⟨y, s3, e3, e4, e5, q3⟩) [] (S ++ [.lst []]) h0
  obtain ⟨acc1, S1, e, h⟩ := this
  rw [Nat.zero_add] at h
  exact ⟨_, S1, e, he acc1 S1 h⟩
theorem dg_n2 {x0 x1 x2 : Option W} {r : Lo} {w : W} : dgName 2 w (x0 :: x1 :: x2 :: r) = some (x0 :: x1 :: some w :: r) := rfl
theorem dg_n3 {x0 x1 x2 x3 : Option W} {r : Lo} {w : W} : dgName 3 w (x0 :: x1 :: x2 :: x3 :: r) = some (x0 :: x1 :: x2 :: some w :: r) := rfl
theorem dg_n4 {x0 x1 x2 x3 x4 : Option W} {r : Lo} {w : W} : dgName 4 w (x0 :: x1 :: x2 :: x3 :: x4 :: r) = some (x0 :: x1 :: x2 :: x3 :: some w :: r) := rfl
theorem dg_n6 {x0 x1 x2 x3 x4 x5 x6 : Option W} {r : Lo} {w : W} : dgName 6 w (x0 :: x1 :: x2 :: x3 :: x4 :: x5 :: x6 :: r) = some (x0 :: x1 :: x2 :: x3 :: x4 :: x5 :: some w :: r) := rfl
theorem dg_n10 {x0 x1 x2 x3 x4 x5 x6 x7 x8 x9 x10 : Option W} {r : Lo} {w : W} : dgName 10 w (x0 :: x1 :: x2 :: x3 :: x4 :: x5 :: x6 :: x7 :: x8 :: x9 :: x10 :: r) = some (x0 :: x1 :: x2 :: x3 :: x4 :: x5 :: x6 :: x7 :: x8 :: x9 :: some w :: r) := rfl
theorem dg_n13 {x0 x1 x2 x3 x4 x5 x6 x7 x8 x9 x10 x11 x12 x13 : Option W} {r : Lo} {w : W} : dgName 13 w (x0 :: x1 :: x2 :: x3 :: x4 :: x5 :: x6 :: x7 :: x8 :: x9 :: x10 :: x11 :: x12 :: x13 :: r) = some (x0 :: x1 :: x2 :: x3 :: x4 :: x5 :: x6 :: x7 :: x8 :: x9 :: x10 :: x11 :: x12 :: some w :: r) := rfl
/-! defs -/
theorem vf_of (e : f ws S = .ok w S') (q : Q w S') : Vf f ws S Q := ⟨w, S', e, q⟩
theorem vf_mk {M np : Nat} (hl : ws.length = np) (h : Vs m (startW M ws) S (fun _ s => Q .non s) (rtQ Q)) : Vf (mkF M np m) ws S Q := by
  unfold Vs at h
  cases e : m (startW M ws) S with
  | nx l s =>
    rw [e] at h
    exact ⟨.non, s, by rw [mk_ev hl, e]; rfl, h⟩
  | rt w s =>
    rw [e] at h
    exact ⟨w, s, by rw [mk_ev hl, e]; rfl, h⟩
  | bk _ _ => rw [e] at h; exact h.elim
  | ct _ _ => rw [e] at h; exact h.elim
  | ex _ _ _ => rw [e] at h; exact h.elim
  | bad => rw [e] at h; exact h.elim
/-! two ways -/
theorem cb_t {X Y : Prop} (h : X) : Cb true X Y := ⟨fun _ => h, fun e => (by cases e)⟩
theorem cb_f {X Y : Prop} (h : Y) : Cb false X Y := ⟨fun e => (by cases e), fun _ => h⟩
theorem cb_nt {X Y : Prop} (h : Y) : Cb (!true) X Y := ⟨fun e => (by cases e), fun _ => h⟩
theorem cb_nf {X Y : Prop} (h : X) : Cb (!false) X Y := ⟨fun _ => h, fun e => (by cases e)⟩
/-! operations -/
theorem vo_of (e : g x y S = .ok w S') (q : Q w S') : Vo g x y S Q := ⟨w, S', e, q⟩
theorem vo_add (q : Q (.int (j + k)) S) : Vo gAdd (.int j) (.int k) S Q := ⟨_, _, rfl, q⟩
theorem vo_sub (q : Q (.int (j - k)) S) : Vo gSub (.int j) (.int k) S Q := ⟨_, _, rfl, q⟩
theorem vo_mull (h : -(2 ^ 64) < j ∧ j < 2 ^ 64) (q : Q (.int (j * k)) S) : Vo gMul (.int j) (.int k) S Q := ⟨_, _, mul_ii' h, q⟩
theorem vo_lt (q : Q (.bl (decide (j < k))) S) : Vo gLt (.int j) (.int k) S Q := ⟨_, _, lt_ii, q⟩
theorem vo_le (q : Q (.bl (decide (j ≤ k))) S) : Vo gLe (.int j) (.int k) S Q := ⟨_, _, le_ii, q⟩
theorem vo_gt (q : Q (.bl (decide (k < j))) S) : Vo gGt (.int j) (.int k) S Q := ⟨_, _, gt_ii, q⟩
theorem vo_ge (q : Q (.bl (decide (k ≤ j))) S) : Vo gGe (.int j) (.int k) S Q := ⟨_, _, ge_ii, q⟩
theorem vo_eq (q : Q (.bl (decide (j = k))) S) : Vo gEq (.int j) (.int k) S Q := ⟨_, _, eq_ii, q⟩
theorem vo_ne (q : Q (.bl (!decide (j = k))) S) : Vo gNe (.int j) (.int k) S Q := ⟨_, _, ne_ii, q⟩
theorem vo_eqs {p r : Str} (q : Q (.bl (decide (p = r))) S) : Vo gEq (.str p) (.str r) S Q := ⟨_, _, eq_ss, q⟩
theorem vo_nes {p r : Str} (q : Q (.bl (!decide (p = r))) S) : Vo gNe (.str p) (.str r) S Q := ⟨_, _, ne_ss, q⟩
theorem vo_eqb {p r : Bool} (q : Q (.bl (decide (p = r))) S) : Vo gEq (.bl p) (.bl r) S Q := ⟨_, _, eq_bb, q⟩
theorem vo_neb {p r : Bool} (q : Q (.bl (!decide (p = r))) S) : Vo gNe (.bl p) (.bl r) S Q := ⟨_, _, ne_bb, q⟩
theorem vo_ix (h : L2.atI ws j = some w) (q : Q w S) : Vo gIx (.tup ws) (.int j) S Q := ⟨w, S, by
  show (match L2.atI ws j with | some w => Res.ok w S | none => .bad) = _
  rw [h], q⟩
theorem atI_nn {α : Type} {xs : List α} {i : Int} {a : α} (h0 : 0 ≤ i) (h : xs[i.toNat]? = some a) : L2.atI xs i = some a := by
  have hl := (List.getElem?_eq_some_iff.mp h).1
  unfold L2.atI ixN
  rw [if_pos h0, if_pos (by omega)]
  exact h
theorem vo_ix0 {r : List W} (q : Q w S) : Vo gIx (.tup (w :: r)) (.int 0) S Q := vo_ix (ws := w :: r) (atI_nn (by decide) rfl) q
theorem vo_ix1 {x0 : W} {r : List W} (q : Q w S) : Vo gIx (.tup (x0 :: w :: r)) (.int 1) S Q := vo_ix (ws := x0 :: w :: r) (atI_nn (by decide) rfl) q
theorem vo_ix2 {x0 x1 : W} {r : List W} (q : Q w S) : Vo gIx (.tup (x0 :: x1 :: w :: r)) (.int 2) S Q := vo_ix (ws := x0 :: x1 :: w :: r) (atI_nn (by decide) rfl) q
theorem vo_ix3 {x0 x1 x2 : W} {r : List W} (q : Q w S) : Vo gIx (.tup (x0 :: x1 :: x2 :: w :: r)) (.int 3) S Q := vo_ix (ws := x0 :: x1 :: x2 :: w :: r) (atI_nn (by decide) rfl) q
theorem vo_ix4 {x0 x1 x2 x3 : W} {r : List W} (q : Q w S) : Vo gIx (.tup (x0 :: x1 :: x2 :: x3 :: w :: r)) (.int 4) S Q := vo_ix (ws := x0 :: x1 :: x2 :: x3 :: w :: r) (atI_nn (by decide) rfl) q
theorem vo_ix5 {x0 x1 x2 x3 x4 : W} {r : List W} (q : Q w S) : Vo gIx (.tup (x0 :: x1 :: x2 :: x3 :: x4 :: w :: r)) (.int 5) S Q := vo_ix (ws := x0 :: x1 :: x2 :: x3 :: x4 :: w :: r) (atI_nn (by decide) rfl) q
theorem vo_ixl {p : Nat} (hp : S[p]? = some (.lst ws)) (h : L2.atI ws j = some w) (q : Q w S) : Vo gIx (.loc p) (.int j) S Q := ⟨w, S, ixl hp h, q⟩
theorem vf_len (q : Q (.int (ws.length : Int)) S) : Vf gLen [.tup ws] S Q := ⟨_, _, len_tup, q⟩
theorem vf_tuple {p : Nat} (h : S[p]? = some (.lst ws)) (q : Q (.tup ws) S) : Vf gTuple [.loc p] S Q := ⟨_, _, tuple_loc h, q⟩
theorem vg_b (q : QB B S) : Vg (.bl B) S QB := ⟨B, S, rfl, q⟩
theorem vg_i (q : QB (j != 0) S) : Vg (.int j) S QB := ⟨_, S, rfl, q⟩
theorem vg_t (q : QB (!ws.isEmpty) S) : Vg (.tup ws) S QB := ⟨_, S, rfl, q⟩
theorem vg_n (q : QB false S) : Vg .non S QB := ⟨_, S, rfl, q⟩
end
end Fs
set_option maxHeartbeats 4000000
/-! list(enumerate(v)): the pairs are kept by the list that takes them -/
namespace En
open PySem PySem.W PySem.Calls PyProof.Rows PyProof.V PySem.Spec
/-- a pair has come out: the number c and the item x in a new tuple behind all that was -/
structure Out (s : Shared) (e it : Addr) (c : Int) (x : Value) (tk : Tok) (h' : Heap) : Prop where
  pair : h'.get? s.heap.objs.size = some { cls := .type "tuple", data := .seq #[.int c tk, x] }
  size : h'.objs.size = s.heap.objs.size + 1
  keep : ∀ b o, b ≠ e ∧ b ≠ it → s.heap.get? b = some o → h'.get? b = some o
/-- the enumerate after its first pair: it still knows that pair, whose tuple T lives -/
structure Held (h : Heap) (e it : Addr) (c : Int) (T : Addr) : Prop where
  ex : ∃ old f, IsEnumHeld h e it c old T f
  live : ∃ oT, h.get? T = some oT
  off : T ≠ e ∧ T ≠ it
section
variable {prog : Program} {w : World} {A : Around} {E : Value → Shared → Prop} {s : Shared} {e it T : Addr} {fp : List Addr} {n i : Nat} {c : Int} {P : Nat → Value → Prop} {St : Nat → Heap → Prop}
theorem Held.step {Q : Value → Shared → Prop} (D : Draws prog w A it fp n P St) (L : Held s.heap e it c T) (hst : St i s.heap) (hlt : i < n) (hne : e ≠ it) (hef : e ∉ fp)
    (k : ∀ x h' tk, P i x → Held h' e it (c + 1) T → St (i + 1) h' → Out s e it c x tk h' → Q (.ref s.heap.objs.size) { s with heap := h', toks := tk + 1 }) :
    wpAny (model prog w) A (Builtin.«enumerate.__next__» ⟨[.ref e], []⟩) (fun r z => ∃ v, r = .done (.ret v) ∧ Q v z) E s := by
  obtain ⟨⟨old, f, he⟩, ⟨oT, hT⟩, hTe, hTi⟩ := L
  have big : e < s.heap.objs.size := Heap.lt_size he
  refine wpAny_bind (m := field (.ref e) 2) (wpAny_field he rfl (x := .ref it) rfl (wpAny_bind (D.item i s _ _ hlt hst fun x h1 tk px st1 sb1 => ?_)))
  have he1 : IsEnumHeld h1 e it c old T f := (sb1.2 e hne).trans he
  refine wpAny_bind (m := field (.ref e) 3) (wpAny_field (s := { s with heap := h1, toks := tk }) he1 rfl (x := rawInt c) rfl (wpAny_bind (m := field (.ref e) 4) (wpAny_field (s := { s with heap := h1, toks := tk }) he1 rfl (x := .none) rfl
    (wpAny_bind (m := mkInt c) (wpAny_mkInt (wpAny_bind (m := setField (.ref e) 3 (rawInt (c + 1))) (wpAny_setField_rec (s := { s with heap := h1, toks := tk + 1 }) he1 (by simp) fun h2 he2 sb2 =>
      wpAny_bind (m := setField (.ref e) 4 .none) (wpAny_setField_rec (s := { s with heap := h2, toks := tk + 1 }) he2 (by simp) fun h3 he3 sb3 => wpAny_bind (m := newTuple [.int c tk, x]) (wpAny_newTuple ?_)))))))))
  -- what stands behind the new tuple
  have he3 : IsEnumHeld h3 e it (c + 1) old T f := he3
  have up3 : ∀ b o, b ≠ e → h1.get? b = some o → h3.get? b = some o := fun b o hb q => Heap.SameBut.extBut sb3 b o hb (Heap.SameBut.extBut sb2 b o hb q)
  have len3 : h3.objs.size = s.heap.objs.size := (sb3.1.trans sb2.1).trans sb1.1
  let h4 := h3.push { cls := .type "tuple", data := .seq #[.int c tk, x] }
  have up4 : ∀ b o, b ≠ e → h1.get? b = some o → h4.get? b = some o := fun b o hb q => Heap.get?_push_of_some _ (up3 b o hb q)
  have all4 : ∀ b o, b ≠ e → b ≠ it → s.heap.get? b = some o → h4.get? b = some o := fun b o p q r => up4 b o p (Heap.SameBut.extBut sb1 b o q r)
  refine wpAny_bind (m := Builtin.SmallTypes.ownedTupleIsFree (.ref e)) (wpAny_tupleHeld_enum (s := { s with heap := h4, toks := tk + 1 }) (Heap.get?_push_of_some _ he3) (all4 T oT hTe hTi hT) fun h5 he5 sb5 => ?_)
  have up5 : ∀ b o, b ≠ e → h4.get? b = some o → h5.get? b = some o := Heap.SameBut.extBut sb5
  have tup4 : h4.get? s.heap.objs.size = some { cls := .type "tuple", data := .seq #[.int c tk, x] } := len3 ▸ Heap.get?_push_size _ rfl
  rw [len3]
  refine wpAny_pure ⟨_, rfl, k x h5 tk px ⟨⟨old, true, he5⟩, ⟨oT, up5 T oT hTe (all4 T oT hTe hTi hT)⟩, hTe, hTi⟩ (D.frame _ _ _ st1 fun b hb o q => up5 b o (fun z => hef (z ▸ hb)) (up4 b o (fun z => hef (z ▸ hb)) q)) ⟨up5 _ _ (Nat.ne_of_gt big) tup4, ?_, fun b o ⟨p, q⟩ r => up5 b o p (all4 b o p q r)⟩⟩
  exact sb5.1.trans ((Heap.size_push ..).trans (congrArg (· + 1) len3))
theorem Held.next {Q : Option Value → Shared → Prop} (D : Draws prog w A.in1 it fp n P St) (L : Held s.heap e it c T) (hst : St i s.heap) (hlt : i < n) (hne : e ≠ it) (hef : e ∉ fp)
    (k : ∀ x h' tk, P i x → Held h' e it (c + 1) T → St (i + 1) h' → Out s e it c x tk h' → Q (some (.ref s.heap.objs.size)) { s with heap := h', toks := tk + 1 }) : wpAny (model prog w) A (pyNext (.ref e)) Q E s := by
  obtain ⟨old, f, he⟩ := id L.ex
  have ty : s.TypeIs (.ref e) "enumerate" := ⟨_, he, rfl⟩
  exact wpAny_bind (wpAny_attempt (wpAny_callSpecial?_slot ty F.slot_enumerate_next (wpAny_call_entry F.slot_enumerate_next ty F.entry_enumerate_next (L.step D hst hlt hne hef fun x h' tk p l st o => wpAny_pure (k x h' tk p l st o)) (F.args_enumerate_next_1 _))))
theorem Held.stop {Q : Option Value → Shared → Prop} (D : Draws prog w A.in1 it fp n P St) (L : Held s.heap e it c T) (hst : St n s.heap) (k : ∀ h', Heap.ExtBut it s.heap h' → Q none { s with heap := h' }) : wpAny (model prog w) A (pyNext (.ref e)) Q E s := by
  obtain ⟨old, f, he⟩ := L.ex
  have ty : s.TypeIs (.ref e) "enumerate" := ⟨_, he, rfl⟩
  refine wpAny_bind (wpAny_attempt (wpAny_callSpecial?_slot ty F.slot_enumerate_next (wpAny_call_entry F.slot_enumerate_next ty F.entry_enumerate_next ?_ (F.args_enumerate_next_1 _))))
  exact wpAny_bind (m := field (.ref e) 2) (wpAny_field he rfl (x := .ref it) rfl (wpAny_bind (D.done s _ _ hst fun h' x ext ⟨o, ho, hc⟩ => wpAny_bind (wpAny_isInstance (b := true) ⟨o, ho, hc⟩ isSubtype_stop (wpAny_pure (k h' ext))))))
end
/-- none of its pairs has come out, or the last one lives -/
def Est (h : Heap) (e it S : Addr) (i : Nat) : Prop := (∃ old, IsEnum h e it i old) ∨ ∃ T, Held h e it i T ∧ T ≠ S
theorem Est.up {h h' : Heap} {e it S : Addr} {i : Nat} (x : Est h e it S i) (k : ∀ b o, b ≠ S → h.get? b = some o → h'.get? b = some o) (ne : e ≠ S) : Est h' e it S i :=
  x.imp (fun ⟨old, q⟩ => ⟨old, k e _ ne q⟩) fun ⟨T, ⟨⟨old, f, q⟩, ⟨oT, l⟩, off⟩, away⟩ => ⟨T, ⟨⟨old, f, k e _ ne q⟩, ⟨oT, k T _ away l⟩, off⟩, away⟩
section
variable {prog : Program} {w : World} {A : Around} {E : Value → Shared → Prop} {s : Shared} {e it S : Addr} {fp : List Addr} {n i : Nat} {P : Nat → Value → Prop} {St : Nat → Heap → Prop}
theorem Est.next {Q : Option Value → Shared → Prop} (D : Draws prog w A.in1 it fp n P St) (L : Est s.heap e it S i) (hst : St i s.heap) (hlt : i < n) (hne : e ≠ it) (hef : e ∉ fp) (small : S < s.heap.objs.size ∧ it < s.heap.objs.size)
    (k : ∀ x h' tk, P i x → Est h' e it S (i + 1) → St (i + 1) h' → Out s e it i x tk h' → Q (some (.ref s.heap.objs.size)) { s with heap := h', toks := tk + 1 }) : wpAny (model prog w) A (pyNext (.ref e)) Q E s := by
  have one : ((i : Int) + 1) = ((i + 1 : Nat) : Int) := (Int.natCast_succ i).symm
  rcases L with ⟨old, he⟩ | ⟨T, L, away⟩
  · refine wpAny_pyNext_enum_itemC D he hst hlt hne hef fun x h' tk px out st' pr sz up => k x h' tk px (.inr ⟨s.heap.objs.size, ⟨⟨_, false, one ▸ out⟩, ⟨_, pr⟩, ?_, Nat.ne_of_gt small.2⟩, Nat.ne_of_gt small.1⟩) st' ⟨pr, sz, fun b o q => up b o q.1 q.2⟩
    exact Nat.ne_of_gt (Heap.lt_size he)
  · exact L.next D hst hlt hne hef fun x h' tk px L' st' out => k x h' tk px (.inr ⟨T, one ▸ L', away⟩) st' out
theorem Est.stop {Q : Option Value → Shared → Prop} (D : Draws prog w A.in1 it fp n P St) (L : Est s.heap e it S n) (hst : St n s.heap) (k : ∀ h', Heap.ExtBut it s.heap h' → Q none { s with heap := h' }) : wpAny (model prog w) A (pyNext (.ref e)) Q E s :=
  L.elim (fun ⟨_, he⟩ => wpAny_pyNext_enum_endD D he hst k) fun ⟨_, L, _⟩ => L.stop D hst k
end
/-- the list at S has taken the first pairs: as, each a tuple of its number and item -/
structure Taken (us : List Value) (S : Addr) (h : Heap) (as : List Addr) : Prop where
  list : ∃ acc c, h.get? S = some { cls := .type "list", data := .seq acc c } ∧ acc.toList = as.map Value.ref
  rise : as.Pairwise (· < ·)
  above : ∀ a ∈ as, S < a
  pair : ∀ (j : Nat) (a : Addr), as[j]? = some a → ∃ tk x, us[j]? = some x ∧ h.get? a = some { cls := .type "tuple", data := .seq #[.int (j : Int) tk, x] }
theorem Taken.there {us : List Value} {S : Addr} {h : Heap} {as : List Addr} (t : Taken us S h as) {a : Addr} (ha : a ∈ as) : a < h.objs.size := by
  obtain ⟨j, hj⟩ := List.getElem?_of_mem ha
  obtain ⟨_, _, _, q⟩ := t.pair j a hj
  exact Heap.lt_size q
section
variable {prog : Program} {w : World} {A : Around} {z : Shared} {R : Result → Shared → Prop} {us : List Value} {P : Nat → Value → Prop} {St : Nat → Heap → Prop} {fp : List Addr} {S e it : Addr} {h₀ : Heap} {res : Value}
/-- list.extend's loop over the enumerate -/
theorem take_all (D : Draws prog w A.in1.in1 it fp us.length P St) (hP : ∀ i x, P i x → us[i]? = some x) (eS : e < S) (iS : it < S) (hne : e ≠ it) (hef : e ∉ fp) (hSf : S ∉ fp) (small : us.length ≤ sizeLine)
    (k : ∀ h tk as, (∀ b o, b ≠ S → b ≠ e → b ≠ it → h₀.get? b = some o → h.get? b = some o) → as.length = us.length → Taken us S h as → R (.ok (.ret res)) { z with heap := h, toks := tk }) :
    ∀ (m : Nat) (h : Heap) (tk : Nat) (as : List Addr), as.length + m = us.length → Est h e it S as.length → St as.length h → (∀ b o, b ≠ S → b ≠ e → b ≠ it → h₀.get? b = some o → h.get? b = some o) → Taken us S h as →
      codeAny (model prog w) A (.builtin "list.extend.loop" ⟨[.ref S, .ref e, res], []⟩) R { z with heap := h, toks := tk }
  | m, h, tk, as, hm, L, st, kp, t => by
    apply codeAny_builtin PySem.F.entry_extend_loop
    rw [Around.under_plainId PySem.F.plain_extend_loop ⟨[.ref S, .ref e, res], []⟩]
    obtain ⟨acc, c, hS, ha⟩ := t.list
    match m with
    | 0 =>
      have full : as.length = us.length := hm
      rw [full] at L st
      refine wpAny_bind (m := pyNext (.ref e)) (L.stop (A := A.in1) (s := { z with heap := h, toks := tk }) D st fun h' x => ?_)
      refine wpAny_pure (k h' tk as (fun b o p q r y => x b o r (kp b o p q r y)) full ⟨⟨acc, c, x S _ (Nat.ne_of_gt iS) hS, ha⟩, t.rise, t.above, fun j a hj => ?_⟩)
      obtain ⟨t1, x1, u1, y⟩ := t.pair j a hj
      exact ⟨t1, x1, u1, x a _ (Nat.ne_of_gt (Nat.lt_trans iS (t.above a (List.mem_of_getElem? hj)))) y⟩
    | m + 1 =>
      have lt : as.length < us.length := by omega
      have ltS : S < h.objs.size := Heap.lt_size hS
      refine wpAny_bind (m := pyNext (.ref e)) (L.next (A := A.in1) (s := { z with heap := h, toks := tk }) D st lt hne hef ⟨ltS, Nat.lt_trans iS ltS⟩ fun x h' tk' px L' st' o => ?_)
      have hS' : h'.get? S = some { cls := .type "list", data := .seq acc c } := o.keep S _ ⟨Nat.ne_of_gt eS, Nat.ne_of_gt iS⟩ hS
      let h2 := h'.update S (Obj.mapSeq (·.push (Value.ref h.objs.size)))
      have up : ∀ b ob, b ≠ S → h'.get? b = some ob → h2.get? b = some ob := fun b ob q y => (Heap.get?_update_other _ _ (Ne.symm q)).trans y
      have len : acc.size = as.length := Array.length_toList.symm.trans ((congrArg List.length ha).trans (List.length_map ..))
      have ndS : ∀ b, b ∈ fp → b ≠ S := fun b hb q => hSf (q ▸ hb)
      have t' : Taken us S h2 (as ++ [h.objs.size]) := by
        refine ⟨⟨_, _, Heap.get?_update_self _ hS' rfl, ?_⟩, List.pairwise_append.mpr ⟨t.rise, List.pairwise_singleton .., ?_⟩, ?_, ?_⟩
        · rw [Array.toList_push, ha, List.map_append, List.map_singleton]
        · intro a p b q
          exact List.mem_singleton.mp q ▸ t.there p
        · intro a p
          exact (List.mem_append.mp p).elim (t.above a) fun q => List.mem_singleton.mp q ▸ ltS
        · intro j a hj
          rcases Nat.lt_or_ge j as.length with p | p
          · obtain ⟨t1, x1, u1, y⟩ := t.pair j a ((List.getElem?_append_left p).symm.trans hj)
            have big := t.above a (List.mem_of_getElem? ((List.getElem?_append_left p).symm.trans hj))
            exact ⟨t1, x1, u1, up a _ (Nat.ne_of_gt big) (o.keep a _ ⟨Nat.ne_of_gt (Nat.lt_trans eS big), Nat.ne_of_gt (Nat.lt_trans iS big)⟩ y)⟩
          · rw [List.getElem?_append_right p, List.getElem?_singleton] at hj
            split at hj
            · rename_i z0
              have ej : j = as.length := by omega
              subst ej
              cases hj
              exact ⟨tk', x, hP _ _ px, up _ _ (Nat.ne_of_gt ltS) o.pair⟩
            · cases hj
      have go := take_all D hP eS iS hne hef hSf small k m h2 (tk' + 1) (as ++ [h.objs.size]) (by rw [List.length_append, List.length_singleton]; omega) (by rw [List.length_append, List.length_singleton]; exact L'.up up (Nat.ne_of_lt eS))
        (by rw [List.length_append, List.length_singleton]; exact D.frame _ _ _ st' fun b hb ob y => up b ob (ndS b hb) y) (fun b ob p q r y => up b ob p (o.keep b ob ⟨q, r⟩ (kp b ob p q r y))) t'
      exact wpAny_bind (m := updateSeq S (·.push (Value.ref h.objs.size))) (wpAny_updateSeq (s := { z with heap := h', toks := tk' + 1 }) hS' rfl (wpAny_pure ⟨plainId_quiet PySem.F.plain_extend_loop _, go⟩) (by rw [len]; omega) (by show (acc.push _).size ≤ sizeLine + 1; rw [Array.size_push, len]; omega))
end
end En
set_option maxHeartbeats 4000000
namespace En
open PySem PySem.W PySem.Calls PyProof.Rows PyProof.V PySem.Spec
theorem no_len : typeLookup (.type "enumerate") "__len__" = pure none := (typeLookup_type ..).trans (by rw [builtinLookup_eq_fast]; kernel_rfl)
theorem no_hint : typeLookup (.type "enumerate") "__length_hint__" = pure none := (typeLookup_type ..).trans (by rw [builtinLookup_eq_fast]; kernel_rfl)
/-- the new enumerate over an iterator at i -/
def enumOb (i : Addr) : Obj := { cls := .type "enumerate", data := .fields #[.none, .bool false, .ref i, rawInt 0, .none, .none] }
theorem made1 {v : Value} {o : Obj} {Hh : Heap → Prop} (B : Begins v o Hh) : Meets (Builtin.«enumerate.__new__» ⟨[.type "enumerate", v], []⟩) fun _ R s =>
    Hh s.heap ∧ R (.ok (.ret (.ref (s.heap.push o).objs.size))) { s with heap := (s.heap.push o).push (enumOb s.heap.objs.size) } :=
  Meets.of_wp fun prog w A R ⟨hp, g, d, tk, os⟩ ⟨at_, res⟩ => by
    have sub := sub_enumerate
    have iter {A' : Around} {E : Value → Shared → Prop} {Q : Value → Shared → Prop} : Q (.ref hp.objs.size) ⟨hp.push o, g, d, tk, os⟩ → wpAny (model prog w) A' (pyIter v) Q E ⟨hp, g, d, tk, os⟩ := B.iter prog w _ _ ⟨hp, g, d, tk, os⟩ _ at_
    wp_walk using iter
    refine wpAny_stack_any fun _ => wpAny_pure ?_
    split
    · rename_i c _ _ _ _ _
      rcases Bool.eq_false_or_eq_true (c == Value.type "enumerate") with q | q
      all_goals
        rw [q]
        wp_walk using iter
        exact ⟨_, rfl, res⟩
    · wp_walk using iter
      exact ⟨_, rfl, res⟩
section
variable {prog : Program} {w : World} {A : Around} {E : Value → Shared → Prop} {s : Shared}
/-- enumerate(v) -/
theorem call_enum1 {v : Value} {o : Obj} {Hh : Heap → Prop} {Q : Value → Shared → Prop} (B : Begins v o Hh) (at_ : Hh s.heap)
    (k : ∀ h', IsEnum h' (s.heap.objs.size + 1) s.heap.objs.size 0 .none → h'.get? s.heap.objs.size = some o → h'.objs.size = s.heap.objs.size + 2 → (∀ b u, s.heap.get? b = some u → h'.get? b = some u) →
      Q (.ref (s.heap.objs.size + 1)) { s with heap := h' }) : wpAny (model prog w) A (call (.type "enumerate") [v]) Q E s := by
  have z1 : (s.heap.push o).objs.size = s.heap.objs.size + 1 := Heap.size_push ..
  have new : IsEnum ((s.heap.push o).push (enumOb s.heap.objs.size)) (s.heap.objs.size + 1) s.heap.objs.size 0 .none := z1 ▸ Heap.get?_push_size (s.heap.push o) (o := enumOb s.heap.objs.size) rfl
  apply callType_new F.called_enumerate (by decide) (F.typeCall_enumerate_1 v) (F.newCall_enumerate_1 v) (fun obj => F.args_object_init_2 obj v) F.entry_enumerate_new (made1 B)
  refine ⟨at_, ?_⟩
  rw [z1]
  exact ⟨⟨_, new, rfl⟩, k _ new (Heap.get?_push_of_some _ (Heap.get?_push_size _ B.free)) ((Heap.size_push ..).trans (congrArg (· + 1) z1)) fun b u q => Heap.get?_push_of_some _ (Heap.get?_push_of_some _ q)⟩
end
section
variable {prog : Program} {w : World} {A : Around} {E : Value → Shared → Prop} {s : Shared} {us : List Value} {P : Nat → Value → Prop} {St : Nat → Heap → Prop} {fp : List Addr} {e it : Addr} {old : Value}
/-- list(e), e an enumerate that has not begun -/
theorem list_of {Q : Value → Shared → Prop} (D : Draws prog w A.in1.in1.in1 it fp us.length P St) (hP : ∀ i x, P i x → us[i]? = some x) (low : ∀ b ∈ fp, b < s.heap.objs.size) (itf : it ∈ fp) (hne : e ≠ it) (hef : e ∉ fp) (small : us.length ≤ sizeLine)
    (he : IsEnum s.heap e it 0 old) (hst : St 0 s.heap)
    (k : ∀ h tk as, (∀ b o, b ≠ e → b ≠ it → s.heap.get? b = some o → h.get? b = some o) → as.length = us.length → Taken us s.heap.objs.size h as → Q (.ref s.heap.objs.size) { s with heap := h, toks := tk }) :
    wpAny (model prog w) A (call (.type "list") [.ref e]) Q E s := by
  let S := s.heap.objs.size
  let h1 := s.heap.push { cls := .type "list", data := .seq #[] }
  have S1 : h1.get? S = some { cls := .type "list", data := .seq #[] } := Heap.get?_push_size _ rfl
  have up1 : ∀ b o, s.heap.get? b = some o → h1.get? b = some o := fun b o q => Heap.get?_push_of_some _ q
  have eS : e < S := Heap.lt_size he
  have nS : ∀ b o, s.heap.get? b = some o → b ≠ S := fun b o q => Nat.ne_of_lt (Heap.lt_size q)
  refine callType_codes (Q₁ := fun ob z => ob = .ref S ∧ z = { s with heap := h1 }) PySem.F.called_list (PySem.F.typeCall_list_1 (.ref e)) PySem.F.entry_list_init (code_list_new _ ⟨rfl, rfl⟩) ?_
  rintro _ _ ⟨rfl, rfl⟩
  refine ⟨⟨_, S1, rfl⟩, PySem.F.args_list_init_2 _ _, ?_⟩
  -- __init__ empties the list, lets go of nothing, looks for a length, makes room, and extends
  let h2 := h1.update S (Obj.mapSeq fun _ => #[])
  let h4 := (h2.update S (Obj.mapSeq (·.push Value.none))).update S (Obj.mapSeq (·.pop))
  have S2 := Heap.get?_update_self (Obj.mapSeq fun _ => (#[] : Array Value)) S1 rfl
  have S3 := Heap.get?_update_self (Obj.mapSeq (·.push Value.none)) S2 rfl
  have S4 := Heap.get?_update_self (Obj.mapSeq (·.pop)) S3 rfl
  have keep : ∀ {h : Heap} (f : Obj → Obj) b o, b ≠ S → h.get? b = some o → (h.update S f).get? b = some o := fun f b o q y => (Heap.get?_update_other _ _ (Ne.symm q)).trans y
  have up2 : ∀ b o, s.heap.get? b = some o → h2.get? b = some o := fun b o q => keep _ b o (nS b o q) (up1 b o q)
  have up4 : ∀ b o, s.heap.get? b = some o → h4.get? b = some o := fun b o q => keep _ b o (nS b o q) (keep _ b o (nS b o q) (up2 b o q))
  have ty2 : ({ s with heap := h2 } : Shared).TypeIs (.ref e) "enumerate" := ⟨_, up2 _ _ he, rfl⟩
  have go := take_all (A := A.in1) (z := s) (R := wants (fun r z => r = Value.none ∧ Q (.ref S) z) E) (h₀ := s.heap) (res := .none) D hP eS (low it itf) hne hef (fun q => Nat.lt_irrefl _ (low _ q)) small
    (fun h tk as kp l t => ⟨rfl, k h tk as (fun b o p q y => kp b o (nS b o y) p q y) l t⟩) us.length h4 s.toks [] (Nat.zero_add _) (.inl ⟨old, up4 _ _ he⟩) (D.frame _ _ _ hst fun b _ o y => up4 b o y) (fun b o _ _ _ y => up4 b o y)
    ⟨⟨_, _, S4, rfl⟩, List.Pairwise.nil, (fun _ q => absurd q List.not_mem_nil), fun j _ q => by simp at q⟩
  refine wpAny_bind (m := Builtin.List.listItems (.ref S)) ?_
  delta Builtin.List.listItems
  refine wpAny_bind (wpAny_seqItems S1 rfl (wpAny_pure (wpAny_bind (m := updateSeq S fun _ => #[]) (wpAny_updateSeq S1 rfl (wpAny_bind (wpAny_letGo ?_))))))
  show wpAny _ _ (Builtin.List.listExtendWith (.ref S) (.ref e) .none) _ _ { s with heap := h2 }
  delta Builtin.List.listExtendWith
  refine wpAny_bind (wpAny_typeOf ty2 ?_)
  have other : Builtin.List.listSameRef (.ref S) (.ref e) = false := by simp [Builtin.List.listSameRef, Nat.ne_of_gt eS]
  simp only [other, show (Value.type "enumerate" == Value.type "list") = false by decide, show (Value.type "enumerate" == Value.type "tuple") = false by decide, Bool.or_self, if_neg Bool.false_ne_true]
  refine wpAny_bind (wpAny_pyIter_enum (s := { s with heap := h2 }) (up2 _ _ he) (wpAny_bind (wpAny_holding ?_)))
  delta Builtin.List.listLengthHint
  refine wpAny_bind (wpAny_specialOf ty2 no_len (wpAny_bind (m := specialOf (Value.ref e) (Str.ofString "__length_hint__")) (wpAny_specialOf ty2 no_hint (wpAny_pure ?_))))
  refine wpAny_bind (m := rule "list.extend.makes-room") (wpAny_rule (wpAny_bind (m := Builtin.List.listTouch (.ref S)) (wpAny_bind (m := updateSeq S (·.push .none)) (wpAny_updateSeq S2 rfl (wpAny_updateSeq S3 rfl ?_)))))
  exact wpAny_pure ⟨plainId_quiet PySem.F.plain_extend_loop _, go⟩
end
end En
set_option maxHeartbeats 4000000
/-! for i, x in enumerate(a tuple or a list); xs.extend(ys) -/
namespace Ew
open PySem PySem.W PySem.Calls PyProof.Rows PyProof.V PySem.Spec L2
/-- where the enumerate of a tuple stands ahead of its turn i -/
structure Stands (e it a : Addr) (i : Nat) (h : Heap) : Prop where
  enum : ∃ old, IsEnum h e it ((i : Nat) : Int) old
  iter : h.IsTupleIter it a i
  apart : e ≠ it
theorem Stands.keep {e it a : Addr} {i : Nat} {h h' : Heap} (z : Stands e it a i h) (k : ∀ b ∈ [e, it], ∀ o, h.get? b = some o → h'.get? b = some o) : Stands e it a i h' :=
  ⟨z.enum.imp fun _ q => k e (.head _) _ q, z.iter.at fun o q => k it (.tail _ (.head _)) o q, z.apart⟩
end Ew
namespace Fs
open PySem L2
variable [Tb : Tabs]
section
variable {X : Cx} {Wx : WE} {a : Expr} {ma : DE} {pos p tpos : Pos} {kk : Nat} {elts : List Expr}
/-! xs.extend(ys) -/
def dExtend (a b : DE) : DE := fun ls S => (a ls S).bind fun x S1 => match lstW S1 x with
  | none => .bad
  | some _ => (b ls S1).bind fun y S2 => match x, y with
    | .loc n, .loc m => match S2[n]?, S2[m]? with
      | some (.lst us), some (.lst vs) => if us.length + vs.length ≤ sizeLine then .ok .non (S2.set n (.lst (us ++ vs))) else .bad
      | _, _ => .bad
    | _, _ => .bad
theorem se_extend {b : Expr} {mb : DE} {apos cpos : Pos} (ha : SE X Wx a ma) (hb : SE X Wx b mb) (hs : starEach [b] X.env = (false, eval b X.env) :: starEach [] X.env := by rfl)
    (mk : ∀ {to : TE} {t : TA}, PE X a to → PA X [b] t → PE X (.Call (.Attribute a "extend" apos) [b] [] cpos) (tBM X.K "list" rExtend to t) := by exact fun h1 h2 => pe_bm PySem.F.plainAttrs_list PySem.F.slot_list_extend PySem.F.type_list_extend mt_extend h1 h2) :
    SE X Wx (.Call (.Attribute a "extend" apos) [b] [] cpos) (dExtend ma mb) := by
  obtain ⟨t1, p1, q1⟩ := ha.ex
  obtain ⟨t2, p2, q2⟩ := hb.ex
  refine ⟨_, mk p1 (pa_cons p2 pa_nil hs), fun σ H μ ls S Q hL hS h => ?_⟩
  refine q1 σ H μ ls S _ hL hS (Bd.bind (fun x S1 v1 H1 μ1 g1 s1 r1 h1 => ?_) h)
  split at h1
  · exact False.elim h1
  · rename_i us eu
    obtain ⟨p0, xs0, e0, hq, _⟩ := lst_of s1 eu r1
    refine ⟨by rw [e0]; exact .inl ⟨rfl, xs0, hq⟩, ?_⟩
    refine q2 σ H1 μ1 ls S1 _ (hL.mono g1) s1 (Bd.bind (fun y S2 v2 H2 μ2 g2 s2 r2 h2 => ?_) h1)
    split at h2
    · rename_i n m
      split at h2
      · rename_i us vs e1 e2
        split at h2
        · rename_i small
          obtain ⟨p, xs, rfl, hm, a1, a2⟩ := s2.cellL e1 (r1.mono g2)
          obtain ⟨p', ys, rfl, hm', b1, b2⟩ := s2.cellL e2 r2
          refine ⟨p, p', xs, ys, rfl, rfl, a1, b1, by rw [a2.length, b2.length]; exact small, ?_⟩
          have g := gr_write (u := HO.lst (xs ++ ys)) s2 hm
          exact h2 .non _ μ2 g (s2.write hm ⟨_, upd_same, (a2.mono g).append (b2.mono g)⟩) .non
        · exact False.elim h2
      · exact False.elim h2
    · exact False.elim h2
end
end Fs
namespace Fs
open PySem L2
section
variable {a b : DE} {ls : Lo} {S : Store} {N : Lo → Store → Prop} {R : RS → Prop} {QI : Src → Store → Prop}
theorem vs_ext (h : Ve a ls S fun x s => ∃ p us, x = .loc p ∧ s[p]? = some (.lst us) ∧ Ve b ls s fun y s' => ∃ m us vs, y = .loc m ∧ s'[p]? = some (.lst us) ∧ s'[m]? = some (.lst vs) ∧ us.length + vs.length ≤ 100000 ∧ N ls (s'.set p (.lst (us ++ vs)))) : Vs (dExpr (dExtend a b)) ls S N R := by
  obtain ⟨x, S1, e1, p, us, rfl, e2, y, S2, e3, m, us', vs, rfl, e4, e5, hl, q⟩ := h
  refine vs_of (r := .nx ls (S2.set p (.lst (us' ++ vs)))) ?_ q
  have : dExtend a b ls S = .ok .non (S2.set p (.lst (us' ++ vs))) := by
    unfold dExtend
    rw [e1]
    show (match lstW S1 (.loc p) with | none => Res.bad | some _ => _) = _
    rw [lst_loc e2]
    dsimp only
    rw [e3]
    show (match S2[p]?, S2[m]? with | some (.lst us), some (.lst vs) => if us.length + vs.length ≤ sizeLine then Res.ok W.non (S2.set p (.lst (us ++ vs))) else .bad | _, _ => .bad) = _
    rw [e4, e5]
    exact if_pos (Nat.le_trans hl (by decide))
  rw [ex_ev, this, exK_ok]
end
end Fs
set_option maxHeartbeats 4000000
namespace Fs
open PySem L2
/-! ### from the end backwards: dicts, classes, numbers -/
def Vps (ps : List (DE × DE)) (ls : Lo) (S : Store) (Q : List (W × W) → Store → Prop) : Prop := ∃ qs S', dPairs ps ls S = .ok qs S' ∧ Q qs S'
section
variable {a b c : DE} {ps : List (DE × DE)} {ls : Lo} {S : Store} {Q : W → Store → Prop} {QP : List (W × W) → Store → Prop} {w x y : W} {p : Nat} {kvs : List (L2.Key × W)} {k : L2.Key} {i j : Int} {ws : List W}
theorem vps_nil (q : QP [] S) : Vps [] ls S QP := ⟨_, _, rfl, q⟩
theorem vps_cons (h : Ve a ls S fun x s => Ve b ls s fun y s1 => Vps ps ls s1 fun qs s2 => QP ((x, y) :: qs) s2) : Vps ((a, b) :: ps) ls S QP := by
  obtain ⟨x, S1, e1, y, S2, e2, qs, S3, e3, q⟩ := h
  refine ⟨_, S3, ?_, q⟩
  unfold dPairs
  rw [e1]
  dsimp only [Res.bind]
  rw [e2]
  dsimp only [Res.bind]
  rw [e3]
theorem ve_disp (h : Vps ps ls S fun qs s => ∃ kvs, keysW qs = some kvs ∧ kvs.length ≤ 15 ∧ Q (.loc s.length) (s ++ [.dct (mergeW [] kvs)])) : Ve (dDisp ps) ls S Q := by
  obtain ⟨qs, S1, e1, kvs, e2, hl, q⟩ := h
  refine ⟨_, _, ?_, q⟩
  unfold dDisp
  rw [e1]
  dsimp only [Res.bind]
  rw [e2]
  exact if_pos hl
theorem dct_at (h : S[p]? = some (.dct kvs)) : dctW S (.loc p) = some kvs := by
  show (match S[p]? with | some (.dct kvs) => some kvs | _ => none) = _
  rw [h]
theorem ve_get2 (h : Ve a ls S fun x s => ∃ p kvs, x = .loc p ∧ s[p]? = some (.dct kvs) ∧ Ve b ls s fun y s1 => Ve c ls s1 fun z s2 => ∃ kvs k, s2[p]? = some (.dct kvs) ∧ keyW y = some k ∧ Q ((valW kvs k).getD z) s2) : Ve (dGet2 a b c) ls S Q := by
  obtain ⟨x, S1, e1, p, kvs, rfl, h1, y, S2, e2, z, S3, e3, kvs', k, h2, hk, q⟩ := h
  refine ⟨_, S3, ?_, q⟩
  unfold dGet2
  rw [e1]
  dsimp only [Res.bind]
  rw [dct_at h1]
  dsimp only
  rw [e2]
  dsimp only [Res.bind]
  rw [e3]
  dsimp only [Res.bind]
  unfold gDGet
  rw [dct_at h2, hk]
theorem vo_dnin (h : S[p]? = some (.dct kvs)) (hk : keyW x = some k) (q : Q (.bl (!(valW kvs k).isSome)) S) : Vo (gDIn true) x (.loc p) S Q := by
  refine ⟨_, S, ?_, q⟩
  unfold gDIn
  rw [dct_at h, hk]
  dsimp only
  rw [true_bne]
theorem vo_dix (h : S[p]? = some (.dct kvs)) (hk : keyW x = some k) (hv : valW kvs k = some w) (q : Q w S) : Vo gDIx (.loc p) x S Q := by
  refine ⟨w, S, ?_, q⟩
  unfold gDIx
  rw [dct_at h, hk]
  dsimp only
  rw [hv]
theorem vu_neg (q : Q (.int (-i)) S) : Vu gNeg (.int i) S Q := ⟨_, S, rfl, q⟩
theorem vo_isN0 (q : Q (.bl true) S) : Vo gIsN .non .non S Q := ⟨_, S, rfl, q⟩
theorem vo_isNt (q : Q (.bl false) S) : Vo gIsN (.tup ws) .non S Q := ⟨_, S, rfl, q⟩
theorem vo_isNi (q : Q (.bl false) S) : Vo gIsN (.int i) .non S Q := ⟨_, S, rfl, q⟩
theorem vo_isNs {z : Str} (q : Q (.bl false) S) : Vo gIsN (.str z) .non S Q := ⟨_, S, rfl, q⟩
theorem vo_notN0 (q : Q (.bl false) S) : Vo gNotN .non .non S Q := ⟨_, S, rfl, q⟩
theorem vo_notNt (q : Q (.bl true) S) : Vo gNotN (.tup ws) .non S Q := ⟨_, S, rfl, q⟩
theorem vo_notNi (q : Q (.bl true) S) : Vo gNotN (.int i) .non S Q := ⟨_, S, rfl, q⟩
theorem vo_notNs {z : Str} (q : Q (.bl true) S) : Vo gNotN (.str z) .non S Q := ⟨_, S, rfl, q⟩
theorem vf_int (q : Q (.int i) S) : Vf gInt [.int i] S Q := ⟨_, S, rfl, q⟩
theorem vf_intT (q : Q (.int 1) S) : Vf gInt [.bl true] S Q := ⟨_, S, rfl, q⟩
theorem vf_intF (q : Q (.int 0) S) : Vf gInt [.bl false] S Q := ⟨_, S, rfl, q⟩
theorem vf_isiTT (q : Q (.bl true) S) : Vf gIsi [.tup ws, .ty "tuple"] S Q := ⟨_, S, rfl, q⟩
theorem vf_isiTI (q : Q (.bl false) S) : Vf gIsi [.int i, .ty "tuple"] S Q := ⟨_, S, rfl, q⟩
theorem vf_isiTS {z : Str} (q : Q (.bl false) S) : Vf gIsi [.str z, .ty "tuple"] S Q := ⟨_, S, rfl, q⟩
theorem vf_isiTN (q : Q (.bl false) S) : Vf gIsi [.non, .ty "tuple"] S Q := ⟨_, S, rfl, q⟩
theorem vf_isiST (q : Q (.bl false) S) : Vf gIsi [.tup ws, .ty "str"] S Q := ⟨_, S, rfl, q⟩
theorem vf_isiSI (q : Q (.bl false) S) : Vf gIsi [.int i, .ty "str"] S Q := ⟨_, S, rfl, q⟩
theorem vf_isiSS {z : Str} (q : Q (.bl true) S) : Vf gIsi [.str z, .ty "str"] S Q := ⟨_, S, rfl, q⟩
theorem vf_isiIT (q : Q (.bl false) S) : Vf gIsi [.tup ws, .ty "int"] S Q := ⟨_, S, rfl, q⟩
theorem vf_isiII (q : Q (.bl true) S) : Vf gIsi [.int i, .ty "int"] S Q := ⟨_, S, rfl, q⟩
theorem vf_isiIS {z : Str} (q : Q (.bl false) S) : Vf gIsi [.str z, .ty "int"] S Q := ⟨_, S, rfl, q⟩
theorem vf_isiBI (q : Q (.bl false) S) : Vf gIsi [.int i, .ty "bool"] S Q := ⟨_, S, rfl, q⟩
theorem vf_isiBT (q : Q (.bl false) S) : Vf gIsi [.tup ws, .ty "bool"] S Q := ⟨_, S, rfl, q⟩
theorem vf_isiBS {z : Str} (q : Q (.bl false) S) : Vf gIsi [.str z, .ty "bool"] S Q := ⟨_, S, rfl, q⟩
theorem cb_id {b : Bool} {X Y : Prop} (h : Cb b X Y) : Cb b X Y := h
theorem cb_dt {P : Prop} {_ : Decidable P} {X Y : Prop} (hp : P) (h : X) : Cb (decide P) X Y := ⟨fun _ => h, fun e => absurd hp (of_decide_eq_false e)⟩
theorem cb_df {P : Prop} {_ : Decidable P} {X Y : Prop} (hp : ¬ P) (h : Y) : Cb (decide P) X Y := ⟨fun e => absurd (of_decide_eq_true e) hp, fun _ => h⟩
theorem cb_ndt {P : Prop} {_ : Decidable P} {X Y : Prop} (hp : P) (h : Y) : Cb (!decide P) X Y := ⟨fun e => (by rw [decide_eq_true hp] at e; cases e), fun _ => h⟩
theorem cb_ndf {P : Prop} {_ : Decidable P} {X Y : Prop} (hp : ¬ P) (h : X) : Cb (!decide P) X Y := ⟨fun _ => h, fun e => (by rw [decide_eq_false hp] at e; cases e)⟩
theorem vf_intdT {P : Prop} {_ : Decidable P} (hp : P) (q : Q (.int 1) S) : Vf gInt [.bl (decide P)] S Q := by
  rw [decide_eq_true hp]
  exact vf_intT q
theorem vf_intdF {P : Prop} {_ : Decidable P} (hp : ¬ P) (q : Q (.int 0) S) : Vf gInt [.bl (decide P)] S Q := by
  rw [decide_eq_false hp]
  exact vf_intF q
theorem Vf.mono {f : DF} {us : List W} {Q' : W → Store → Prop} (h : Vf f us S Q) (q : ∀ w s, Q w s → Q' w s) : Vf f us S Q' := by
  obtain ⟨w, s, e, z⟩ := h
  exact ⟨w, s, e, q w s z⟩
end
/-! a text among texts -/
theorem inFl_txt {x : Str} : ∀ ns : List Str, inFl (.str x) (ns.map .str) = decide (x ∈ ns)
  | [] => rfl
  | n :: r => by
    show ((n == x) || inFl (.str x) (r.map .str)) = _
    rw [inFl_txt r]
    by_cases e : n = x
    · subst e; simp
    · have e' : ¬ x = n := fun q => e q.symm
      simp [e, e']
theorem flat_txt : ∀ ns : List Str, allFlat (ns.map .str) = true
  | [] => rfl
  | n :: r => flat_txt r
theorem in_txt {neg : Bool} {x : Str} {y : W} {ns : List Str} {S : Store} (h : seqW S y = some (ns.map .str)) : gInB neg (.str x) y S = .ok (.bl (neg != decide (x ∈ ns))) S := by
  unfold gInB
  rw [h]
  dsimp only
  rw [if_pos ⟨rfl, flat_txt ns⟩, inFl_txt]
theorem in_txtL {neg : Bool} {x : Str} {p : Nat} {ns : List Str} {S : Store} (h : S[p]? = some (.lst (ns.map .str))) : gInB neg (.str x) (.loc p) S = .ok (.bl (neg != decide (x ∈ ns))) S := in_txt (show seqW S (.loc p) = some (ns.map .str) from lst_loc h)
section
variable {S : Store} {Q : W → Store → Prop} {x a b c : Str}
theorem vo_int2 (q : Q (.bl (decide (x ∈ ([a, b] : List Str)))) S) : Vo gIn (.str x) (.tup [.str a, .str b]) S Q := ⟨_, S, by show gInB false _ _ _ = _; rw [in_txt (ns := [a, b]) rfl, false_bne], q⟩
theorem vo_inl2 (q : Q (.bl (decide (x ∈ ([a, b] : List Str)))) (S ++ [Cell.lst [.str a, .str b]])) : Vo gIn (.str x) (.loc S.length) (S ++ [Cell.lst [.str a, .str b]]) Q := ⟨_, _, (in_txtL (neg := false) (x := x) (p := S.length) (ns := [a, b]) (S := S ++ [Cell.lst _]) (get_mid (cs := []))).trans (by rw [false_bne]; rfl), q⟩
theorem vo_nint2 (q : Q (.bl (!decide (x ∈ ([a, b] : List Str)))) S) : Vo gNotIn (.str x) (.tup [.str a, .str b]) S Q := ⟨_, S, by show gInB true _ _ _ = _; rw [in_txt (ns := [a, b]) rfl, true_bne], q⟩
theorem vo_ninl2 (q : Q (.bl (!decide (x ∈ ([a, b] : List Str)))) (S ++ [Cell.lst [.str a, .str b]])) : Vo gNotIn (.str x) (.loc S.length) (S ++ [Cell.lst [.str a, .str b]]) Q := ⟨_, _, (in_txtL (neg := true) (x := x) (p := S.length) (ns := [a, b]) (S := S ++ [Cell.lst _]) (get_mid (cs := []))).trans (by rw [true_bne]; rfl), q⟩
theorem vo_int3 (q : Q (.bl (decide (x ∈ ([a, b, c] : List Str)))) S) : Vo gIn (.str x) (.tup [.str a, .str b, .str c]) S Q := ⟨_, S, by show gInB false _ _ _ = _; rw [in_txt (ns := [a, b, c]) rfl, false_bne], q⟩
theorem vo_inl3 (q : Q (.bl (decide (x ∈ ([a, b, c] : List Str)))) (S ++ [Cell.lst [.str a, .str b, .str c]])) : Vo gIn (.str x) (.loc S.length) (S ++ [Cell.lst [.str a, .str b, .str c]]) Q := ⟨_, _, (in_txtL (neg := false) (x := x) (p := S.length) (ns := [a, b, c]) (S := S ++ [Cell.lst _]) (get_mid (cs := []))).trans (by rw [false_bne]; rfl), q⟩
theorem vo_nint3 (q : Q (.bl (!decide (x ∈ ([a, b, c] : List Str)))) S) : Vo gNotIn (.str x) (.tup [.str a, .str b, .str c]) S Q := ⟨_, S, by show gInB true _ _ _ = _; rw [in_txt (ns := [a, b, c]) rfl, true_bne], q⟩
theorem vo_ninl3 (q : Q (.bl (!decide (x ∈ ([a, b, c] : List Str)))) (S ++ [Cell.lst [.str a, .str b, .str c]])) : Vo gNotIn (.str x) (.loc S.length) (S ++ [Cell.lst [.str a, .str b, .str c]]) Q := ⟨_, _, (in_txtL (neg := true) (x := x) (p := S.length) (ns := [a, b, c]) (S := S ++ [Cell.lst _]) (get_mid (cs := []))).trans (by rw [true_bne]; rfl), q⟩
end
section
variable {S : Store} {Q : W → Store → Prop} {a b c d e : W}
theorem vf_len0 (q : Q (.int 0) S) : Vf gLen [.tup []] S Q := ⟨_, S, rfl, q⟩
theorem vf_len1 (q : Q (.int 1) S) : Vf gLen [.tup [a]] S Q := ⟨_, S, rfl, q⟩
theorem vf_len2 (q : Q (.int 2) S) : Vf gLen [.tup [a, b]] S Q := ⟨_, S, rfl, q⟩
theorem vf_len3 (q : Q (.int 3) S) : Vf gLen [.tup [a, b, c]] S Q := ⟨_, S, rfl, q⟩
theorem vf_len4 (q : Q (.int 4) S) : Vf gLen [.tup [a, b, c, d]] S Q := ⟨_, S, rfl, q⟩
theorem vf_len5 (q : Q (.int 5) S) : Vf gLen [.tup [a, b, c, d, e]] S Q := ⟨_, S, rfl, q⟩
end
end Fs
set_option maxHeartbeats 4000000
/-! max(a list of integers) -/
namespace Fs
open PySem L2
end Fs
set_option maxHeartbeats 4000000
/-! tuple(reversed(t)), t a tuple -/
namespace Rv1
open PySem PySem.W PySem.Calls PyProof.Rows PyProof.V PySem.Spec L2 RT
section
variable {prog : Program} {w : World} {A : Around} {E : Value → Shared → Prop} {s : Shared}
/-- the walk of a reversed tuple -/
theorem walk (hh : A.handled = none) (it t : Addr) (apart : t ≠ it) (us : Array Value) (small : us.size ≤ sizeLine) :
    Walks prog w A it [it, t] [it] us.size (fun i v => us[us.size - 1 - i]? = some v) fun i h => i ≤ us.size ∧ IsRt h it t ((us.size : Int) - 1 - (i : Int)) ∧ IsTup h t us where
  sub := fun b hb => by
    rw [List.mem_singleton.mp hb]
    exact .head _
  frame := fun _ _ _ z k => ⟨z.1, z.2.1.at fun o e => k it (.head _) o e, by
    obtain ⟨o, e, r⟩ := z.2.2
    exact ⟨o, k t (.tail _ (.head _)) o e, r⟩⟩
  item := fun i s Q E lt z q => by
    have at_ : (us.size : Int) - 1 - (i : Int) = ((us.size - 1 - i : Nat) : Int) := by omega
    have rt := z.2.1
    rw [at_] at rt
    have get : us[us.size - 1 - i]? = some (us[us.size - 1 - i]'(by omega)) := Array.getElem?_eq_getElem (by omega)
    refine next_rt_item rt z.2.2 get small fun h' rt' same => ?_
    have on : ((us.size - 1 - i : Nat) : Int) - 1 = (us.size : Int) - 1 - ((i + 1 : Nat) : Int) := by omega
    rw [on] at rt'
    refine q _ h' (s.toks + 1) get ⟨lt, rt', ?_⟩ fun b o hb e => same.extBut b o (fun c => hb (c ▸ .head _)) e
    obtain ⟨o, e, r⟩ := z.2.2
    exact ⟨o, (same.2 t apart).trans e, r⟩
  done := fun s Q E z q => by
    have at_ : (us.size : Int) - 1 - (us.size : Int) = -1 := by omega
    have rt := z.2.1
    rw [at_] at rt
    exact next_rt_end hh rt fun h' ext => q h' s.toks fun b o hb e => ext b o (fun c => hb (c ▸ .head _)) e
  self := fun _ _ _ _ z q => iter_rt z.2.1 q
end
end Rv1
set_option maxHeartbeats 4000000
namespace Rv1
open PySem PySem.W PySem.Calls PyProof.Rows PyProof.V PySem.Spec L2 RT
theorem nolen_rt : typeLookup (.type "reversed") "__len__" = pure none := (typeLookup_type ..).trans (by rw [builtinLookup_eq_fast]; kernel_rfl)
theorem hint_rt : typeLookup (.type "reversed") "__length_hint__" = pure (some (.builtin "reversed.__length_hint__")) := (typeLookup_type ..).trans (by rw [builtinLookup_eq_fast]; kernel_rfl)
theorem slot_hint : Slot "reversed" "__length_hint__" "reversed.__length_hint__" :=
  .of (owner := "reversed") (n := "__length_hint__") (by rw [typeLookup_type, builtinLookup_eq_fast]; kernel_rfl) (by decide +kernel) (by decide +kernel) (by decide +kernel)
    (by first | exact .inl (by decide +kernel) | exact .inr (by decide +kernel)) (by rw [isSubtype_type]; kernel_rfl)
theorem entry_hint : entryFor table "reversed.__length_hint__" = some Builtin.«reversed.__length_hint__» := entryFor_of_tree (by kernel_rfl)
theorem bind_hint (v : Value) : bindSpecial (.builtin "reversed.__length_hint__") v = pure (.builtin "reversed.__length_hint__", [v]) := by
  unfold bindSpecial
  have ty : typeOf (.builtin "reversed.__length_hint__") = pure (.type "method_descriptor") := by first | rfl | kernel_rfl
  rw [ty]
  rfl
theorem args_hint (a : Value) : argsOk "reversed.__length_hint__" ⟨[a], []⟩ := by
  unfold argsOk; rw [signature?_of (id := "reversed.__length_hint__") (n := ['_', '_', 't', 'n', 'i', 'h', '_', 'h', 't', 'g', 'n', 'e', 'l', '_', '_']) (o := ['d', 'e', 's', 'r', 'e', 'v', 'e', 'r']) (by kernel_rfl) owner_rt]; kernel_rfl
section
variable {prog : Program} {w : World} {A : Around} {E : Value → Shared → Prop} {s : Shared}
theorem hint_v {it t : Addr} {us : Array Value} {Q : Bool → Shared → Prop} (rt : IsRt s.heap it t ((us.size : Int) - 1)) (tp : IsTup s.heap t us) (small : us.size ≤ sizeLine)
    (q : ∀ tk, Q (us.size != 0) { s with toks := tk }) : wpAny (model prog w) A (Builtin.List.listLengthHint (.ref it)) Q E s := by
  have T := rt.typeIs
  unfold Builtin.List.listLengthHint
  refine wpAny_bind (wpAny_specialOf T nolen_rt ?_)
  try dsimp only
  refine wpAny_bind (wpAny_specialOf T hint_rt ?_)
  generalize hid : ("reversed.__length_hint__" : String) = id0
  wp_delta
  rw [show splitId id0 = some ("reversed", "__length_hint__") from by subst hid; decide +kernel]
  subst hid
  refine wpAny_bind (wpAny_isInstance (b := true) T (by rw [isSubtype_type]; kernel_rfl) ?_)
  try dsimp only
  rw [if_neg (by decide), if_neg (by decide +kernel)]
  refine wpAny_bind (wpAny_rule ?_)
  refine wpAny_bind (wpAny_of_eq (bind_hint _) ?_)
  try dsimp only
  have body : ∀ {A : Around} {E : Value → Shared → Prop} {R : Fin → Shared → Prop}, (∀ tk, R (.done (.ret (.int us.size tk))) { s with toks := tk + 1 }) → wpAny (model prog w) A (Builtin.«reversed.__length_hint__» ⟨[.ref it], []⟩) R E s := by
    intro A E R r
    obtain ⟨o, ho, hc, hd⟩ := id rt
    unfold Builtin.«reversed.__length_hint__»
    refine wpAny_bind (wpAny_of_eq (a := .ref it) rfl ?_)
    try dsimp only
    refine wpAny_bind (wpAny_field ho hd (x := .ref t) rfl ?_)
    try dsimp only
    rw [if_neg (show ¬ (Value.ref t == Value.none) = true from Bool.false_ne_true)]
    try dsimp only
    have big : (us.size : Int) < 2 ^ 63 := by
      have := line63
      omega
    refine wpAny_bind (PyProof.Rows.len_tuple tp big ?_)
    refine wpAny_bind (wpAny_of_eq (a := some (us.size : Int)) rfl ?_)
    try dsimp only
    refine wpAny_bind (wpAny_field (s := { s with toks := s.toks + 1 + 1 }) ho hd (x := rawInt ((us.size : Int) - 1)) rfl ?_)
    show wpAny _ _ (if (us.size : Int) < ((us.size : Int) - 1) + 1 then _ else _) _ _ _
    rw [if_neg (by omega), show (us.size : Int) - 1 + 1 = us.size by omega]
    show wpAny _ _ (mkInt (us.size : Int) >>= fun v => ret v) _ _ _
    refine wpAny_bind (wpAny_mkInt ?_)
    exact wpAny_pure (r _)
  refine wpAny_bind (wpAny_attempt (wpAny_call_entry slot_hint T entry_hint (body fun tk => ⟨_, rfl, ?_⟩) (args_hint _)))
  have big : (us.size : Int) < 2 ^ 63 := by
    have := line63
    omega
  have fits : Builtin.List.listFitsIndex (us.size : Int) = true := by
    unfold Builtin.List.listFitsIndex
    rw [Bool.and_eq_true]
    exact ⟨decide_eq_true (Int.le_trans (by decide) (Int.natCast_nonneg _)), decide_eq_true big⟩
  have long : Builtin.List.listTooLong ((us.size : Int)).toNat = false := by
    rw [Int.toNat_natCast]
    exact notLongL small
  have low : ¬ (us.size : Int) < 0 := by omega
  have no : ((us.size : Int) != 0) = (us.size != 0) := by
    rcases Nat.eq_zero_or_pos us.size with h | h
    · rw [h]; rfl
    · rw [bne_iff_ne.mpr (by omega), bne_iff_ne.mpr (by omega)]
  rw [← no] at q
  clear no big small tp rt
  generalize hn : (us.size : Int) = n at *
  simp only [asInt?, pure_bind, fits, long, Bool.not_true, Bool.false_eq_true, if_false, low]
  exact wpAny_pure (q _)
/-- all that the iterator has, in a list -/
theorem all_v {it t : Addr} {us : Array Value} {Q : List Value → Shared → Prop} (hh : A.handled = none) (rt : IsRt s.heap it t ((us.size : Int) - 1)) (tp : IsTup s.heap t us) (apart : t ≠ it) (small : us.size ≤ sizeLine)
    (q : ∀ (h' : Heap) (tk : Nat) (acc : Array Value), (∀ b o, b ≠ it → s.heap.get? b = some o → h'.get? b = some o) → ItemsOf (fun i v => us[us.size - 1 - i]? = some v) acc us.size → Q acc.toList { s with heap := h', toks := tk }) :
    wpAny (model prog w) A (collect (.ref it)) Q E s := by
  have G := (walk (prog := prog) (w := w) (A := A.in1) hh it t apart us small).toS
  have ltI : it < s.heap.objs.size := by obtain ⟨o, e, _⟩ := id rt; exact Heap.lt_size e
  have ltT : t < s.heap.objs.size := by obtain ⟨o, e, _⟩ := id tp; exact Heap.lt_size e
  have out : s.heap.objs.size ∉ [it, t] := fun c => by
    rcases List.mem_cons.mp c with c | c
    · exact Nat.lt_irrefl _ (c ▸ ltI)
    · exact Nat.lt_irrefl _ ((List.mem_singleton.mp c) ▸ ltT)
  unfold collect
  refine wpAny_bind (wpAny_runValue (codeAny_builtin F.entry_proto_collect ?_))
  rw [Around.under_plainId F.plain_proto_collect _]
  refine wpAny_bind (wpAny_newObj_type (T := "list") ?_)
  refine wpAny_pure ⟨plainId_quiet F.plain_list_iadd _, codeAny_builtin F.entry_list_iadd ?_⟩
  rw [Around.under_plainId F.plain_list_iadd _]
  obtain ⟨h1, e1⟩ : ∃ h1, h1 = s.heap.push { cls := .type "list", data := .seq ([] : List Value).toArray } := ⟨_, rfl⟩
  have up : ∀ b o, s.heap.get? b = some o → h1.get? b = some o := fun b o e => e1 ▸ Heap.get?_push_of_some _ e
  have new : h1.get? s.heap.objs.size = some { cls := .type "list", data := .seq ([] : List Value).toArray } := e1 ▸ Heap.get?_push_size _ rfl
  have rt1 : IsRt h1 it t ((us.size : Int) - 1) := rt.at fun o e => up it o e
  have tp1 : IsTup h1 t us := by
    obtain ⟨o, e, r⟩ := tp
    exact ⟨o, up t o e, r⟩
  rw [← e1]
  have T1 : ({ s with heap := h1 } : Shared).TypeIs (.ref it) "reversed" := IsRt.typeIs (s := { s with heap := h1 }) rt1
  have other : Builtin.List.listSameRef (.ref s.heap.objs.size) (.ref it) = false := by
    show (s.heap.objs.size == it) = false
    exact beq_eq_false_iff_ne.mpr (Nat.ne_of_gt ltI)
  show wpAny _ A.in1 (Builtin.List.listExtendWith (.ref s.heap.objs.size) (.ref it) (.ref s.heap.objs.size)) _ _ _
  unfold Builtin.List.listExtendWith
  refine wpAny_bind (wpAny_typeOf T1 ?_)
  rw [if_neg (by rw [other]; decide)]
  refine wpAny_bind (iter_rt (s := { s with heap := h1 }) rt1 ?_)
  refine wpAny_bind (wpAny_holding (hint_v (s := { s with heap := h1 }) rt1 tp1 small fun tk => ?_))
  have after : ∀ {h2 : Heap}, (∀ b o, b ≠ s.heap.objs.size → h1.get? b = some o → h2.get? b = some o) → IsRt h2 it t ((us.size : Int) - 1 - ((0 : Nat) : Int)) ∧ IsTup h2 t us := fun {h2} keep => by
    constructor
    · rw [show (us.size : Int) - 1 - ((0 : Nat) : Int) = (us.size : Int) - 1 by omega]
      exact rt1.at fun o e => keep it o (Nat.ne_of_lt ltI) e
    · obtain ⟨o, e, r⟩ := tp1
      exact ⟨o, keep t o (Nat.ne_of_lt ltT) e, r⟩
  by_cases z : (us.size != 0) = true
  · rw [z, Bool.true_or, if_pos rfl]
    refine wpAny_bind (wpAny_rule (wpAny_bind ?_))
    show wpAny _ A.in1 (updateSeq s.heap.objs.size (·.push .none) >>= fun _ => updateSeq s.heap.objs.size (·.pop)) _ _ _
    have n1 := Heap.get?_update_self (Obj.mapSeq (·.push Value.none)) new rfl
    have new2 := Heap.get?_update_self (Obj.mapSeq (·.pop)) n1 rfl
    have keep : ∀ b o, b ≠ s.heap.objs.size → h1.get? b = some o → ((h1.update s.heap.objs.size (Obj.mapSeq (·.push Value.none))).update s.heap.objs.size (Obj.mapSeq (·.pop))).get? b = some o :=
      fun b o ne e => (Heap.get?_update_other _ _ ne.symm).trans ((Heap.get?_update_other _ _ ne.symm).trans e)
    obtain ⟨rt2, tp2⟩ := after keep
    refine wpAny_bind (wpAny_updateSeq new rfl (wpAny_updateSeq n1 rfl ?_))
    refine wpAny_pure ⟨plainId_quiet F.plain_extend_loop _, codeAny_extend_loopS G small _ out _ us.size 0 _ _ _ rfl (Nat.zero_le _) ⟨Nat.zero_le _, rt2, tp2⟩ new2 (ItemsOf.nil _) fun s' got c' moved at_ all => ?_⟩
    show wpAny _ A (load s.heap.objs.size >>= _) _ _ s'
    refine wpAny_bind (wpAny_load at_ (wpAny_pure ?_))
    rw [Moved.eq_with moved]
    refine q s'.heap s'.toks got (fun b o far e => moved.heap b o (fun c => ?_) (keep b o (Nat.ne_of_lt (Heap.lt_size e)) (up b o e))) all
    rcases List.mem_cons.mp c with c | c
    · exact Nat.ne_of_lt (Heap.lt_size e) c
    · exact far (List.mem_singleton.mp c)
  · have z' : (us.size != 0) = false := Bool.not_eq_true _ ▸ z
    rw [z', if_neg (by decide)]
    have new2 := new
    have keep : ∀ b o, b ≠ s.heap.objs.size → h1.get? b = some o → h1.get? b = some o := fun _ _ _ e => e
    obtain ⟨rt2, tp2⟩ := after keep
    refine wpAny_pure ⟨plainId_quiet F.plain_extend_loop _, codeAny_extend_loopS G small _ out _ us.size 0 _ _ _ rfl (Nat.zero_le _) ⟨Nat.zero_le _, rt2, tp2⟩ new2 (ItemsOf.nil _) fun s' got c' moved at_ all => ?_⟩
    show wpAny _ A (load s.heap.objs.size >>= _) _ _ s'
    refine wpAny_bind (wpAny_load at_ (wpAny_pure ?_))
    rw [Moved.eq_with moved]
    refine q s'.heap s'.toks got (fun b o far e => moved.heap b o (fun c => ?_) (keep b o (Nat.ne_of_lt (Heap.lt_size e)) (up b o e))) all
    rcases List.mem_cons.mp c with c | c
    · exact Nat.ne_of_lt (Heap.lt_size e) c
    · exact far (List.mem_singleton.mp c)
end
end Rv1
set_option maxHeartbeats 4000000
/-! list(enumerate(e)) of a list or a tuple, as a rule -/
namespace En
open PySem PySem.Spec PyProof.Rows L2
def obAt (h : Heap) (a : Addr) : Obj := (h.get? a).getD { cls := .none, data := .fields #[] }
open Classical in
/-- the list at S, and the pairs at as, are told from now on -/
noncomputable def told (h : Heap) (H : Hp) (S : Addr) (as : List Addr) (xs : List V) : Hp := fun b =>
  if b = S then some (.lst (as.map V.ref)) else if q : ∃ j : Nat, as[j]? = some b then some (.frz (obAt h b) (.tup [.int (choose q : Nat), xs.getD (choose q) .non])) else H b
section
variable {h : Heap} {H : Hp} {S : Addr} {as : List Addr} {xs : List V}
theorem told_list : told h H S as xs S = some (.lst (as.map V.ref)) := if_pos rfl
theorem told_off {b : Addr} (n : b ≠ S) (q : b ∉ as) : told h H S as xs b = H b := (if_neg n).trans (dif_neg fun ⟨_, e⟩ => q (List.mem_of_getElem? e))
theorem told_pair {j : Nat} {b : Addr} (nd : as.Nodup) (n : b ≠ S) (e : as[j]? = some b) : told h H S as xs b = some (.frz (obAt h b) (.tup [.int (j : Nat), xs.getD j .non])) := by
  have q : ∃ j : Nat, as[j]? = some b := ⟨j, e⟩
  have same : Classical.choose q = j := (List.getElem?_inj (List.getElem?_eq_some_iff.mp (Classical.choose_spec q)).1 nd).mp ((Classical.choose_spec q).trans e.symm)
  refine (if_neg n).trans ((dif_pos q).trans ?_)
  rw [same]
end
/-- what the caller is told -/
structure Told (H H' : Hp) (S : Addr) (as : List Addr) (xs : List V) : Prop where
  old : ∀ b o, H b = some o → H' b = some o
  new : H S = none
  list : H' S = some (.lst (as.map V.ref))
  len : as.length = xs.length
  pair : ∀ (j : Nat) (a : Addr), as[j]? = some a → ∃ o x, xs[j]? = some x ∧ H' a = some (.frz o (.tup [.int (j : Nat), x])) ∧ o.dict = none
theorem tell {X : Cx} {pins : List (Addr × Obj)} {σ : L2.St} {H : Hp} {s : Shared} {S : Addr} {h : Heap} {tk : Nat} {xs : List V} {us : List Value} {as : List Addr} (I : Inv X pins σ H s) (small : xs.length ≤ sizeLine) (rv : Vals xs us) (hS : s.heap.objs.size ≤ S)
    (kp : ∀ b o, s.heap.get? b = some o → h.get? b = some o) (hl : as.length = us.length) (t : Taken us S h as) : Told H (told h H S as xs) S as xs ∧ Inv X pins σ (told h H S as xs) { s with heap := h, toks := tk } := by
  obtain ⟨acc, c, onS, ha⟩ := t.list
  have nd : as.Nodup := t.rise.imp Nat.ne_of_lt
  have notS : ∀ a ∈ as, a ≠ S := fun a q => Nat.ne_of_gt (t.above a q)
  have fresh : ∀ b, s.heap.objs.size ≤ b → H b = none := fun b q => I.hok.fresh q
  have freshA : ∀ a ∈ as, H a = none := fun a q => fresh a (Nat.le_trans hS (Nat.le_of_lt (t.above a q)))
  have old : ∀ b o, H b = some o → told h H S as xs b = some o := fun b o e => by
    rw [told_off (fun z => by rw [z, fresh S hS] at e; cases e) (fun z => by rw [freshA b z] at e; cases e)]
    exact e
  have below : ∀ b o, s.heap.get? b = some o → told h H S as xs b = H b := fun b o e => told_off (fun z => Nat.not_lt.mpr hS (z ▸ Heap.lt_size e)) fun z => Nat.not_lt.mpr (Nat.le_trans hS (Nat.le_of_lt (t.above b z))) (Heap.lt_size e)
  have pairs : ∀ (j : Nat) (a : Addr), as[j]? = some a → ∃ o x u tk, xs[j]? = some x ∧ us[j]? = some u ∧ RelV x u ∧ told h H S as xs a = some (.frz o (.tup [.int (j : Nat), x])) ∧ o = { cls := .type "tuple", data := .seq #[.int (j : Nat) tk, u] } ∧ h.get? a = some o := fun j a e => by
    obtain ⟨tk, u, eu, q⟩ := t.pair j a e
    have lx : j < xs.length := by rw [rv.length, ← hl]; exact (List.getElem?_eq_some_iff.mp e).1
    obtain ⟨u', eu', r⟩ := rv.get (List.getElem?_eq_getElem lx)
    cases eu.symm.trans eu'
    refine ⟨_, xs[j], u, tk, List.getElem?_eq_getElem lx, eu, r, ?_, rfl, q⟩
    rw [told_pair nd (notS a (List.mem_of_getElem? e)) e, List.getD_eq_getElem?_getD, List.getElem?_eq_getElem lx]
    unfold obAt
    rw [q]
    rfl
  refine ⟨⟨old, fresh S hS, told_list, hl.trans rv.length.symm, fun j a e => ?_⟩, ?_⟩
  · obtain ⟨o, x, u, tk', q1, _, _, q2, rfl, _⟩ := pairs j a e
    exact ⟨_, x, q1, q2, rfl⟩
  · have un : Un (frs X.stack) [] H (told h H S as xs) s.heap h :=
      { keep := fun b o e _ _ _ => kp b o e
        slot := fun b o e _ _ _ => ⟨o.slots, kp b o e⟩
        free := fun b o e n _ => (below b o e).trans n
        there := fun b o e _ => ⟨o, kp b o e⟩
        tups := fun b ys e => old b _ e
        frzs := fun b o u e => old b _ e
        tbls := fun b ps e => ⟨#[], (old b _ e).trans (by rw [Array.append_empty])⟩ }
    refine I.call' (s' := { s with heap := h, toks := tk }) (ch := []) rfl un (fun b u e => ?_) I.bare fun b no => absurd no List.not_mem_nil
    rcases Classical.em (b = S) with rfl | n
    · cases told_list.symm.trans e
      refine ⟨?_, acc.toList, c, ?_, by rw [Array.toArray_toList]; exact onS⟩
      · rw [List.length_map, hl, ← rv.length]
        exact small
      · rw [ha]
        exact LiI.vals_refs as
    rcases Classical.em (b ∈ as) with q | q
    · obtain ⟨j, ej⟩ := List.getElem?_of_mem q
      obtain ⟨o, x, u1, tk', q1, _, r, q2, rfl, q3⟩ := pairs j b ej
      cases q2.symm.trans e
      exact ⟨q3, by show 2 ≤ sizeLine; decide, [.int (j : Nat) tk', u1], .cons ⟨_, rfl⟩ (.cons r .nil), _, q3, rfl, _, rfl⟩
    · rw [told_off n q] at e
      exact (I.hok b u e).stay (fun d v _ => kp d v) (fun d => old d _) fun d ys => old d _
def tListEnum (K : PySem.W.Frag) (te : TE) : TE := fun σ H Q => te σ H fun x H1 => ∃ (a : Addr) (xs : List V), x = .ref a ∧ (SqL K H1 a xs ∨ SqT K H1 a xs) ∧ ∀ (H' : Hp) (p : Addr) (ts : List Addr), Told H1 H' p ts xs → Q (.ref p) H'
section
variable {X : Cx} {e : Expr} {te : TE} {p p2 cpos pos : Pos}
/-- list(enumerate(e)) -/
theorem pe_listEnum (hc : X.calm = true) (he : PE X e te) (hm : X.mg "list" = none) (hm2 : X.mg "enumerate" = none) (hg : Gl X "list" := by rfl) (hg2 : Gl X "enumerate" := by rfl)
    (inner : starEach [e] X.env = [(false, eval e X.env)] := by rfl) (outer : starEach [.Call (.Name "enumerate" p2) [e] [] cpos] X.env = [(false, eval (.Call (.Name "enumerate" p2) [e] [] cpos) X.env)] := by rfl) :
    PE X (.Call (.Name "list" p) [.Call (.Name "enumerate" p2) [e] [] cpos] [] pos) (tListEnum X.K te) := ⟨fun pins s σ H Q I hq => by
  apply wpAny_Call_Name_kw
  refine ld_blt I hg hm boot_list (PyProof.Rows.callWith_type1 ?_ outer rfl)
  rw [outer]
  refine Calls.spliced_cons (wpAny_Call_Name_kw (ld_blt I hg2 hm2 boot_enumerate (PyProof.Rows.callWith_type1 ?_ inner rfl)))
  rw [inner]
  refine Calls.spliced_cons (thn (he.run pins s σ H _ I hq) fun u s1 ⟨x, H1, I1, rx, a, xs, ex, src, k⟩ => Calls.spliced_nil ?_)
  subst ex
  cases (rx : u = Value.ref a)
  have calm : X.A.handled = none := I1.ok.hd hc
  -- from the new enumerate on
  have rest : ∀ (us : List Value) (h' : Heap) (St : Nat → Heap → Prop), Vals xs us → xs.length ≤ sizeLine → a < s1.heap.objs.size → Draws X.prog X.w X.A.in1.in1.in1 s1.heap.objs.size [s1.heap.objs.size, a] us.length (fun i v => us[i]? = some v) St → St 0 h' →
      IsEnum h' (s1.heap.objs.size + 1) s1.heap.objs.size 0 .none → h'.objs.size = s1.heap.objs.size + 2 → (∀ b o, s1.heap.get? b = some o → h'.get? b = some o) →
      wpAny (model X.prog X.w) X.A (call (.type "list") [.ref (s1.heap.objs.size + 1)]) (EP X pins σ Q) X.xe { s1 with heap := h' } := fun us h' St rv small ha D st en sz up => by
    have both : ∀ b ∈ [s1.heap.objs.size, a], b < s1.heap.objs.size + 1 := fun b q => by
      rcases List.mem_cons.mp q with rfl | q
      · exact Nat.lt_succ_self _
      · exact List.mem_singleton.mp q ▸ Nat.lt_succ_of_lt ha
    refine list_of (s := { s1 with heap := h' }) (us := us) D (fun _ _ q => q) (fun b q => ?_) List.mem_cons_self (Nat.succ_ne_self _) (fun q => Nat.lt_irrefl _ (both _ q)) (rv.length ▸ small) en st fun h2 tk as kp l t => ?_
    · show b < h'.objs.size
      rw [sz]
      exact Nat.lt_trans (both b q) (Nat.lt_succ_self _)
    · have lo : ∀ b o, s1.heap.get? b = some o → h2.get? b = some o := fun b o q => kp b o (Nat.ne_of_lt (Nat.lt_succ_of_lt (Heap.lt_size q))) (Nat.ne_of_lt (Heap.lt_size q)) (up b o q)
      obtain ⟨T, J⟩ := tell (tk := tk) (h := h2) I1 small rv (show s1.heap.objs.size ≤ h'.objs.size by rw [sz]; exact Nat.le_add_right _ 2) lo l t
      exact ⟨.ref h'.objs.size, _, J, rfl, k _ _ as T⟩
  rcases src with q | q
  · obtain ⟨us, rv, pl, small⟩ := I1.list q
    have ha := pl.lt
    refine call_enum1 (begins_list a us.toArray) pl.isList fun h' en hit sz up => Calls.spliced_nil (rest us h' (fun i h => h.IsListIter s1.heap.objs.size a i ∧ h.IsList a us.toArray) rv small ha ?_ ⟨⟨_, hit, rfl, rfl⟩, pl.isList.at fun o e => up _ o e⟩ en sz up)
    simpa using Draws.list (A := X.A.in1.in1.in1) calm s1.heap.objs.size a (Nat.ne_of_lt ha) us.toArray
  · obtain ⟨us, rv, pl, small⟩ := I1.tuple q
    have ha := pl.lt
    have tp : s1.heap.IsTuple a us.toArray := pl
    refine call_enum1 (begins_tuple a us.toArray) tp fun h' en hit sz up => Calls.spliced_nil (rest us h' (fun i h => h.IsTupleIter s1.heap.objs.size a i ∧ h.IsTuple a us.toArray) rv small ha ?_ ⟨⟨_, hit, rfl, rfl⟩, tp.at fun o e => up _ o e⟩ en sz up)
    simpa using Draws.tuple (A := X.A.in1.in1.in1) calm s1.heap.objs.size a (Nat.ne_of_lt ha) us.toArray⟩
end
end En
namespace Fs
open PySem L2
variable [Tb : Tabs]
def numW : Nat → List W → List W
  | _, [] => []
  | i, x :: r => .tup [.int (i : Int), x] :: numW (i + 1) r
/-- list(enumerate(e)) -/
def gLE (w : W) (S : Store) : Res W := match seqW S w with
  | some us => .ok (.loc S.length) (S ++ [.lst (numW 0 us)])
  | none => .bad
omit Tb in
theorem num_of {K : PySem.W.Frag} {μ : Mu} {H : Hp} : ∀ {us : List W} {xs : List V} {ts : List Addr} (i : Nat), VrA K μ H xs us → ts.length = xs.length →
    (∀ (j : Nat) (a : Addr), ts[j]? = some a → ∃ o x, xs[j]? = some x ∧ H a = some (.frz o (.tup [.int ((i + j : Nat) : Int), x])) ∧ o.dict = none) → VrA K μ H (ts.map V.ref) (numW i us)
  | _, [], [], i, .nil, _, _ => .nil
  | _, x :: xs, t :: ts, i, .cons h1 h2, hl, p => by
    obtain ⟨o, y, ey, e, ho⟩ := p 0 t rfl
    cases ey
    have next := num_of (i + 1) h2 (Nat.succ.inj hl) fun j a q => by
      obtain ⟨o, y, ey, e, ho⟩ := p (j + 1) a q
      exact ⟨o, y, ey, by rw [show i + 1 + j = i + (j + 1) by omega]; exact e, ho⟩
    exact .cons (.tup (.of e ho) (.cons (.int _) (.cons h1 .nil))) next
section
variable {X : Cx} {Wx : WE} {e : Expr} {me : DE} {p p2 cpos pos : Pos}
theorem se_listEnum (hc : X.calm = true) (hm : X.mg "list" = none) (hm2 : X.mg "enumerate" = none) (he : SE X Wx e me) (hg : Gl X "list" := by rfl) (hg2 : Gl X "enumerate" := by rfl)
    (inner : starEach [e] X.env = [(false, eval e X.env)] := by rfl) (outer : starEach [.Call (.Name "enumerate" p2) [e] [] cpos] X.env = [(false, eval (.Call (.Name "enumerate" p2) [e] [] cpos) X.env)] := by rfl) :
    SE X Wx (.Call (.Name "list" p) [.Call (.Name "enumerate" p2) [e] [] cpos] [] pos) (dUn gLE me) := by
  obtain ⟨t1, p1, q1⟩ := he.ex
  refine ⟨_, En.pe_listEnum hc p1 hm hm2 hg hg2 inner outer, fun σ H μ ls S Q hL hS h => ?_⟩
  refine q1 σ H μ ls S _ hL hS (Bd.bind (fun w1 S1 v1 H1 μ1 g1 s1 r1 h1 => ?_) h)
  unfold gLE at h1
  split at h1
  · rename_i us eu
    obtain ⟨a, ys, rfl, hq, r⟩ := seq_of s1 eu r1
    refine ⟨a, ys, rfl, hq, fun H' q ts T => ?_⟩
    have g := gr_add s1 T.old T.new
    have s' := s1.ext T.old
    have hmu : ∀ n, μ1 n ≠ some q := fun n z => by
      obtain ⟨u, e, _⟩ := s1.there z
      rw [T.new] at e
      cases e
    have rr := num_of (K := X.K) (μ := muAdd μ1 S1.length q) (H := H') 0 (r.mono g) T.len (by simpa using T.pair)
    exact h1 (.ref q) H' _ g (s'.add (c := .lst _) hmu ⟨_, T.list, rr⟩) (.loc muAdd_same)
  · exact False.elim h1
end
end Fs
set_option maxHeartbeats 4000000
/-! tuple(x), x a reversed tuple: what collecting it gives -/
namespace Rv1
open PySem PySem.W PySem.Calls PyProof.Rows PyProof.V PySem.Spec L2 RT
section
variable {prog : Program} {w : World} {A : Around} {E : Value → Shared → Prop} {s : Shared}
theorem made_v {it : Addr} (ok : Heap → Array Value → Prop) {Q : Value → Shared → Prop} (ty : s.TypeIs (.ref it) "reversed")
    (all : ∀ (B : Around) (R : List Value → Shared → Prop), B.handled = A.handled → (∀ (h' : Heap) (tk : Nat) (acc : Array Value), ok h' acc → R acc.toList { s with heap := h', toks := tk }) → wpAny (model prog w) B (collect (.ref it)) R E s)
    (few : ∀ h' acc, ok h' acc → acc.size ≤ sizeLine)
    (q : ∀ (h' : Heap) (tk : Nat) (acc : Array Value), ok h' acc → Q (.ref h'.objs.size) { s with heap := h'.push { cls := .type "tuple", data := .seq acc }, toks := tk }) :
    wpAny (model prog w) A (call (.type "tuple") [.ref it]) Q E s := by
  refine callType_codes (Q₁ := fun r s1 => s1.TypeIs r "tuple" ∧ Q r s1) F.called_tuple (F.typeCall_tuple_1 _) F.entry_object_init (codeAny_of_tree ?_) fun r s1 h1 =>
    ⟨h1.1, F.args_object_init_2 r _, object_init_meets F.called_tuple.init.lookup F.called_tuple.made (by decide) prog w A.in1 _ s1 ⟨h1.1, rfl, h1.2⟩⟩
  refine wpAny_bind (m := checkBuiltinCall "tuple.__new__" ⟨[.type "tuple", .ref it], []⟩) (wpAny_of_eq (F.newCall_tuple_1 _) (wpAny_pure ⟨plainId_quiet F.plain_tuple_new _, codeAny_builtin F.entry_tuple_new ?_⟩))
  rw [Around.under_plainId F.plain_tuple_new _]
  have _i := sub_tuple_self
  have _j := init_tuple_lookup
  have _k := madeHere_tuple
  wp_walk using wpAny_typeOf ty, all
  · exact rfl
  · intro h' tk acc k
    have small := few h' acc k
    show wpAny _ _ (Builtin.Tuple.tupleExact acc.toList.toArray >>= ret) _ _ { s with heap := h', toks := tk }
    rw [Array.toArray_toList]
    exact wpAny_bind (wpAny_newObj_type (wpAny_pure ⟨⟨_, Heap.get?_push_size _ rfl, rfl⟩, q h' tk acc k⟩) small)
end
end Rv1
namespace Rv1
open PySem PySem.Spec PyProof.Rows L2 RT Fs
section
variable {X : Cx}
/-- tuple(reversed(x)), x a tuple: a new tuple, its object known -/
def tBackT (K : PySem.W.Frag) (te : TE) : TE := fun σ H Q => te σ H fun v H1 => ∃ (a : Addr) (xs : List V), v = .ref a ∧ SqT K H1 a xs ∧ ∀ p o, H1 p = none → o.dict = none → Q (.ref p) (upd H1 p (.frz o (.tup xs.reverse)))
theorem pe_backT {e : Expr} {te : TE} {p p2 pos pos2 : Pos} (calm : X.calm = true) (free : X.mg "tuple" = none) (free2 : X.mg "reversed" = none) (he : PE X e te) (gl : Gl X "tuple" := by rfl) (gl2 : Gl X "reversed" := by rfl)
    (st : starEach [e] X.env = (false, eval e X.env) :: starEach [] X.env := by rfl) (st2 : starEach [.Call (.Name "reversed" p2) [e] [] pos2] X.env = (false, eval (.Call (.Name "reversed" p2) [e] [] pos2) X.env) :: starEach [] X.env := by rfl) :
    PE X (.Call (.Name "tuple" p) [.Call (.Name "reversed" p2) [e] [] pos2] [] pos) (tBackT X.K te) := by
  refine ⟨fun pins s σ H Q I h => Call_ (ld_blt I gl free boot_tuple (PyProof.Rows.callWith_type1 (PyProof.Rows.args_cons ?_ st2) st2 rfl))⟩
  refine Call_ (ld_blt I gl2 free2 PyProof.Rows.boot_reversed (PyProof.Rows.callWith_type1 (PyProof.Rows.args_cons ?_ st) st rfl))
  refine thn (he.run pins s σ H _ I h) fun u s1 ⟨v, H1, I1, r1, a, xs, ev, hq, q⟩ => ?_
  cases ev
  cases (r1 : u = Value.ref a)
  obtain ⟨its, rv, tp, z⟩ := I1.tuple hq
  have n63 := line63
  have size : its.toArray.size = xs.length := List.size_toArray.trans rv.length.symm
  refine args_nil (call_reversed_tup tp (fun B G R k => len_tuple tp (by omega) k) (args_nil ?_))
  obtain ⟨h1, e1⟩ : ∃ h1, h1 = s1.heap.push (rtObj a ((its.toArray.size : Int) - 1)) := ⟨_, rfl⟩
  have up : ∀ b o, s1.heap.get? b = some o → h1.get? b = some o := fun b o e => e1 ▸ Heap.get?_push_of_some _ e
  have rt1 : IsRt h1 s1.heap.objs.size a ((its.toArray.size : Int) - 1) := e1 ▸ ⟨_, Heap.get?_push_size _ rfl, rfl, rfl⟩
  have lt : a < s1.heap.objs.size := by
    obtain ⟨o, e, _⟩ := tp
    exact Heap.lt_size e
  have tp1 : IsTup h1 a its.toArray := by
    obtain ⟨o, e, r⟩ := tp
    exact ⟨o, up a o e, r⟩
  have few : its.toArray.size ≤ sizeLine := by omega
  rw [← e1]
  refine made_v (s := { s1 with heap := h1, toks := s1.toks + 1 + 1 }) (fun h' acc => (∀ b o, b ≠ s1.heap.objs.size → h1.get? b = some o → h'.get? b = some o) ∧ ItemsOf (fun i v => its.toArray[its.toArray.size - 1 - i]? = some v) acc its.toArray.size)
    (IsRt.typeIs (s := { s1 with heap := h1, toks := s1.toks + 1 + 1 }) rt1) (fun B R hB k => all_v (s := { s1 with heap := h1, toks := s1.toks + 1 + 1 }) (hB.trans (I1.ok.hd calm)) rt1 tp1 (Nat.ne_of_lt lt) few fun h' tk acc c1 c2 => k h' tk acc ⟨c1, c2⟩)
    (fun h' acc k => Nat.le_trans (Nat.le_of_eq k.2.1) few) fun h' tk acc ⟨k1, k2⟩ => ?_
  have I3 : L2.Inv X pins σ H1 { s1 with heap := h', toks := tk } := I1.kept (t' := tk) fun b o e => k1 b o (Nat.ne_of_lt (Heap.lt_size e)) (up b o e)
  exact Tx.newD (us := acc) I3 (by rw [List.length_reverse]; exact z) (vals_rev rv k2) q
end
end Rv1
namespace Fs
open PySem PyProof.Rows L2
variable [Tb : Tabs]
section
variable {X : Cx} {Wx : WE} {a : Expr} {ma : DE} {pos pos2 p p2 : Pos}
def gTupRev (x : W) (S : Store) : Res W := match x with
  | .tup ws => .ok (.tup ws.reverse) S
  | _ => .bad
theorem se_tupRev (calm : X.calm = true) (free : X.mg "tuple" = none) (free2 : X.mg "reversed" = none) (ha : SE X Wx a ma) (gl : Gl X "tuple" := by rfl) (gl2 : Gl X "reversed" := by rfl)
    (st : starEach [a] X.env = (false, eval a X.env) :: starEach [] X.env := by rfl) (st2 : starEach [.Call (.Name "reversed" p2) [a] [] pos2] X.env = (false, eval (.Call (.Name "reversed" p2) [a] [] pos2) X.env) :: starEach [] X.env := by rfl) :
    SE X Wx (.Call (.Name "tuple" p) [.Call (.Name "reversed" p2) [a] [] pos2] [] pos) (dUn gTupRev ma) := by
  obtain ⟨t1, q, q1⟩ := ha.ex
  refine ⟨_, Rv1.pe_backT calm free free2 q gl gl2 st st2, fun σ H μ ls S Q hL hS h => ?_⟩
  refine q1 σ H μ ls S _ hL hS (Bd.bind (fun w S1 v H1 μ1 g1 s1 r1 h1 => ?_) h)
  unfold gTupRev at h1
  split at h1
  · rename_i ws
    cases r1 with
    | @tup l xs _ a1 a2 =>
      exact ⟨l, xs, rfl, a1.t, fun o u hq ho => h1 (.ref o) _ μ1 (gr_new hq) (s1.new hq) (.tup (.of upd_same ho) (a2.rev.mono (gr_new hq)))⟩
  · exact False.elim h1
end
end Fs
set_option maxHeartbeats 4000000
/-! the end of a list's walk while an exception is handled -/
namespace Ht
open PySem PySem.Spec PyProof.Rows L2 HotX
section
variable {prog : Program} {w : World} {A : Around} {E : Value → Shared → Prop} {s : Shared}
/-- what the end of a walk raises, and who catches it -/
theorem stops {x1 : Addr} {R : Option Value → Shared → Prop} (hot : HotAt A x1 s.heap)
    (q : ∀ h', (∀ b o, s.heap.get? b = some o → h'.get? b = some o) → R none { s with heap := h' }) :
    wpAny (model prog w) A (Builtin.SmallTypes.stopIteration : Sem PySem.Fin) (fun _ _ => False)
      (fun e s1 => ∃ h' a, e = .ref a ∧ s1 = { s with heap := h' } ∧ s1.TypeIs (.ref a) "StopIteration" ∧ R none { s with heap := h' }) s := by
  obtain ⟨handled, ox, fx, h1, d1, c1⟩ := hot
  unfold Builtin.SmallTypes.stopIteration
  refine wpAny_bind ?_
  simp only [newExc, newTuple]
  refine wpAny_bind (wpAny_newObj_type ?_ (by size_fits))
  refine wpAny_bind (m := firstArgMember _ _) (wpAny_of_eq (a := Value.none) (by first | rfl | (simp only [firstArgMember]; rfl)) (wpAny_newObj_type ?_ (by size_fits)))
  have old : ∀ {h : Heap} {o o' : Obj} {b : Addr} {c : Obj}, h.get? b = some c → ((h.push o).push o').get? b = some c := fun e => Heap.get?_push_of_some _ (Heap.get?_push_of_some _ e)
  have young : x1 ≠ (s.heap.push { cls := .type "tuple", data := .seq #[] }).objs.size := Nat.ne_of_lt (Heap.lt_size (Heap.get?_push_of_some _ h1))
  refine raiseNew_hot ⟨handled, ox, fx, old h1, d1, c1⟩ young (Heap.get?_push_size _ rfl) rfl (by first | (simp; done) | (simp; omega) | (simp only [Array.size_append]; simp; omega)) ?_
  refine ⟨_, _, rfl, rfl, ⟨_, Heap.get?_update_self _ (Heap.get?_push_size _ rfl) rfl, rfl⟩, q _ fun b o e => ?_⟩
  rw [Heap.get?_update_other _ _ (Nat.ne_of_gt (Heap.lt_size (Heap.get?_push_of_some _ e)))]
  exact old e
theorem end_hot {it l x1 : Addr} {i : Nat} {us : Array Value} {Q : Option Value → Shared → Prop} (hot : HotAt A x1 s.heap) (ti : s.heap.IsListIter it l i) (tl : s.heap.IsList l us) (none_left : us[i]? = none)
    (q : ∀ h', (∀ b o, b ≠ it → s.heap.get? b = some o → h'.get? b = some o) → Q none { s with heap := h' }) : wpAny (model prog w) A (pyNext (.ref it)) Q E s := by
  obtain ⟨o, eo, _, data⟩ := id ti
  obtain ⟨u, eu, _, n, items⟩ := tl
  obtain ⟨handled, ox, fx, h1, d1, c1⟩ := hot
  have apart : x1 ≠ it := fun e => by
    subst e
    rw [eo] at h1
    cases h1
    rw [data] at d1
    cases d1
    cases c1
  unfold pyNext
  refine wpAny_bind (wpAny_attempt (wpAny_callSpecial?_slot (name := Str.ofString "__next__") ti.typeIs slot_listiter_next (wpAny_call_entry slot_listiter_next ti.typeIs entry_listiter_next ?_ (args_listiter_next _))))
  refine wpAny_bind (m := slotArgs "__next__" 0 _) (wpAny_pure (wpAny_bind (m := field (.ref it) 0) (wpAny_field eo data (x := .ref l) rfl ?_)))
  rw [if_neg (show ¬ ((Value.ref l == Value.none) = true) from Bool.false_ne_true)]
  refine wpAny_bind (m := field (.ref it) 1) (wpAny_field eo data (x := .int i 0) rfl (wpAny_bind (m := seqItems? (.ref l)) (wpAny_seqItems eu items ?_)))
  simp only [Int.toNat_natCast, none_left]
  refine wpAny_bind (wpAny_rule (wpAny_bind (wpAny_setField eo data (by simp) ?_)))
  have hot1 : HotAt A.in1 x1 (s.heap.update it (Obj.mapFields fun x => x.setIfInBounds 0 Value.none)) := ⟨handled, ox, fx, (Heap.get?_update_other _ _ apart.symm).trans h1, d1, c1⟩
  refine wpAny_mono (stops (R := fun r t => Q r t) (s := { s with heap := s.heap.update it (Obj.mapFields fun x => x.setIfInBounds 0 Value.none) }) hot1 fun h' k => q h' fun b o2 far e => k b o2 ((Heap.get?_update_other _ _ (Ne.symm far)).trans e)) (fun _ _ no => no.elim) ?_
  rintro e s1 ⟨h', a, rfl, rfl, ty, r⟩
  exact wpAny_bind (wpAny_isInstance (T := "StopIteration") (b := true) ty isSubtype_stop (wpAny_pure r))
end
/-- what a walk gives and where it ends, while an exception is handled -/
structure TurnS (P : Program) (w : World) (K : PySem.W.Frag) (tg : Expr) (J : It) (fp : List Addr) (it : Addr) (tn : Nat → Heap → Prop) : Prop where
  calm : Turn P w K tg J fp it tn
  item : ∀ (X : Cx), X.prog = P → X.w = w → X.K = K → ∀ (i : Nat) (s : Shared) (σ : L2.St) (H : Hp) (E : Value → Shared → Prop), L2.Inv X [] σ H s → (∀ b ∈ fp, FpOk X [] H b) → tn i s.heap → J.go i H →
    wpAny (model P w) X.A (pyNext (.ref it)) (fun r s1 => ∃ u, r = some u ∧ wpAny (model P w) X.A (letOwnedTupleGo tg (.ref it) u) (fun _ s2 => ∃ x H', L2.Inv X [] σ H' s2 ∧ RelV x u ∧ J.yld i H x H' ∧ tn (i + 1) s2.heap ∧ ∀ b ∈ fp, H' b = none) E s1) E s
  done : ∀ (X : Cx), X.prog = P → X.w = w → X.K = K → ∀ (i : Nat) (s : Shared) (σ : L2.St) (H : Hp) (E : Value → Shared → Prop) (x1 : Addr), HotAt X.A x1 s.heap → L2.Inv X [] σ H s → (∀ b ∈ fp, FpOk X [] H b) → tn i s.heap → J.stop i H →
    wpAny (model P w) X.A (pyNext (.ref it)) (fun r s1 => r = none ∧ L2.Inv X [] σ H s1) E s
theorem turn_listS {P : Program} {w : World} {K : PySem.W.Frag} {tg : Expr} (a it : Addr) : TurnS P w K tg (Itl K a) [it] it (fun i h => h.IsListIter it a i) :=
  have T : Turn P w K tg (Itl K a) [it] it (fun i h => h.IsListIter it a i) := turn_list a it
  { calm := T
    item := fun X eP ew eK i s σ H E I fine st go => by
      subst eP ew eK
      obtain ⟨xs, x, hq, hx⟩ := go
      obtain ⟨us, same, pl, _⟩ := I.list hq
      obtain ⟨u, hu, ru⟩ := same.get hx
      obtain ⟨f0, f1, _, f3, f4, f5⟩ := fine it List.mem_cons_self
      refine wpAny_pyNext_list_item st pl.isList (x := u) (List.getElem?_toArray.trans hu) fun h1 st1 moved => ?_
      obtain ⟨o, eo, co, da⟩ := id st1
      exact ⟨u, rfl, go_of (s := { s with heap := h1 }) eo co da (by decide) ⟨x, H, I.turned (t' := s.toks) (fun b o far e => (moved.2 b far).trans e) f0 f1 f3 f4 f5, ru, ⟨rfl, fun ys hy => I.list_inj hy hq ▸ hx⟩, st1, fun b hb => (fine b hb).1⟩⟩
    done := fun X eP ew eK i s σ H E x1 hot I fine st stop => by
      subst eP ew eK
      obtain ⟨xs, hq, hx⟩ := stop
      obtain ⟨us, same, pl, _⟩ := I.list hq
      obtain ⟨f0, f1, _, f3, f4, f5⟩ := fine it List.mem_cons_self
      have out : us.toArray[i]? = none := List.getElem?_toArray.trans (List.getElem?_eq_none (by rw [← same.length]; exact hx))
      exact end_hot hot st pl.isList out fun h1 far => ⟨rfl, I.turned (t' := s.toks) far f0 f1 f3 f4 f5⟩ }
end Ht
set_option maxHeartbeats 4000000
/-! list comprehensions while an exception is handled -/
namespace Ht
open PySem PySem.Spec PyProof.Rows L2 HotX
/-- a walk's source -/
def PIES (X : Cx) (pins : List (Addr × Obj)) (σ : L2.St) (tg : Expr) (R : It → Hp → Prop) (itv : Value) (b : Shared) : Prop :=
  ∃ (it : Addr) (fp : List Addr) (tn : Nat → Heap → Prop) (J : It) (H : Hp), itv = .ref it ∧ L2.Inv X pins σ H b ∧ TurnS X.prog X.w X.K tg J fp it tn ∧ tn 0 b.heap ∧ (∀ p ∈ fp, FpOk X pins H p) ∧ R J H
structure PIS (X : Cx) (tg iter : Expr) (wi : TI) : Prop where
  run : ∀ (pins : List (Addr × Obj)) (s : Shared) (σ : L2.St) (H : Hp) (R : It → Hp → Prop), L2.Inv X pins σ H s → wi σ H R →
    wpAny (model X.prog X.w) X.A (eval iter X.env) (fun v a => wpAny (model X.prog X.w) X.A (pyIter v) (PIES X pins σ tg R) X.xe a) X.xe s
section
variable {X : Cx} {elt tg iter : Expr} {ifs : List Expr} {scope : Scope} {own : List (PySem.Str × Nat)} {pos : Pos} {wi : TI} {g : TG} {tt : TT} {te : TE}
theorem pis_list {l : Expr} {tl : TE} (hl : PE X l tl) : PIS X tg l (iList X.K tl) := ⟨fun pins s σ H R I h => thn (hl.run pins s σ H _ I h) fun v a ⟨x, H1, I1, r1, l1, ex, ⟨xs, hq⟩, q⟩ => by
  subst ex
  cases r1
  obtain ⟨us, _, p, _⟩ := I1.list hq
  refine wpAny_pyIter_list p.isList ⟨a.heap.objs.size, [a.heap.objs.size], _, _, H1, rfl, I1.kept (t' := a.toks) fun b o e => Heap.get?_push_of_some _ e, turn_listS l1 _, ⟨_, Heap.get?_push_size _ rfl, rfl, rfl⟩, fun b hb => ?_, q⟩
  cases List.mem_singleton.mp hb
  exact I1.fpOk (Nat.le_refl _) (I1.hok.fresh (Nat.le_refl _))⟩
/-- one element's way into the list at D -/
def Elem (g : TG) (tt : TT) (te : TE) (vs : List Nat) (σ : L2.St) (D : Addr) (Nx : Hp → Prop) (x : V) (H : Hp) : Prop :=
  g x (wipe σ vs) H fun σ2 H2 => wipe σ2 vs = wipe σ vs ∧ tt σ2 H2 fun b H3 =>
    if b = true then te σ2 H3 fun y H4 => ∃ acc, H4 D = some (.lst acc) ∧ acc.length < sizeLine ∧ Nx (upd H4 D (.lst (acc ++ [y])))
    else Nx H3
/-- a turn that goes, in the comprehension's own context -/
theorem turn_go {Y : Cx} {M : Shared → Prop} {R : Result → Shared → Prop} {env : Env} {J : It} {fp : List Addr} {it D : Addr} {tn : Nat → Heap → Prop} {i : Nat} {σ : L2.St} {H : Hp} {s : Shared} {vs : List Nat} {Nx : Hp → Prop} 
    (he : Y.env = env) (hx : Y.xe = fun _ _ => False) (T : TurnS Y.prog Y.w Y.K tg J fp it tn) (pg : PG Y tg g) (pt : PTs Y ifs tt) (pe : PE Y elt te)
    (safe : ∀ (σ' : L2.St) (H' : Hp) (s' : Shared), Inv Y [] σ' H' s' → (∀ b ∈ fp, H' b = none) → ∀ b ∈ fp, FpOk Y [] H' b)
    (I : Inv Y [] (wipe σ vs) H s) (st : tn i s.heap) (nf : ∀ b ∈ fp, H b = none) (go : J.go i H) (elem : ∀ x H', J.yld i H x H' → Elem g tt te vs σ D Nx x H')
    (done : ∀ s' H', Inv Y [] (wipe σ vs) H' s' → tn (i + 1) s'.heap → (∀ b ∈ fp, H' b = none) → Nx H' → M s') :
    wpAny (model Y.prog Y.w) Y.A (pyNext (.ref it)) (fun r s₁ => match r with
      | none => R (.ok .next) s₁
      | some v => wpAny (model Y.prog Y.w) Y.A (letOwnedTupleGo tg (.ref it) v) (fun _ a => wpAny (model Y.prog Y.w) Y.A (assign tg env v) (fun _ b =>
          wpAny (model Y.prog Y.w) Y.A (forIn ifs true fun c r => if r = true then do let ok ← isTrue c env (eval c env); pure (ForInStep.yield ok) else pure (ForInStep.yield r)) (fun ok c =>
            if ok = true then wpAny (model Y.prog Y.w) Y.A (eval elt env) (fun z d =>
              wpAny (model Y.prog Y.w) Y.A (call (.builtin "list.append") [.ref D, z]) (fun _ e => M e) (notedBy (model Y.prog Y.w) Y.A env fun e s' => R (.error e) s') d) (notedBy (model Y.prog Y.w) Y.A env fun e s' => R (.error e) s') c
            else M c) (notedBy (model Y.prog Y.w) Y.A env fun e s' => R (.error e) s') b) (notedBy (model Y.prog Y.w) Y.A env fun e s' => R (.error e) s') a) (notedBy (model Y.prog Y.w) Y.A env fun e s' => R (.error e) s') s₁) (notedBy (model Y.prog Y.w) Y.A env fun e s' => R (.error e) s') s := by
  subst he
  refine thnF (T.item Y rfl rfl rfl i s _ H (fun _ _ => False) I (safe _ _ _ I nf) st go) fun r a ⟨u, eu, next⟩ => ?_
  subst eu
  refine thnF next fun _ b ⟨x, H1, I1, rx, yx, st1, nf1⟩ => ?_
  -- the iterator's objects stay as they are from here on
  have kept := T.calm.obj _ _ st1
  have pins := I1.pinned (safe _ _ _ I1 nf1) kept
  have back : ∀ {σ2 : L2.St} {H' : Hp} {s' : Shared}, wipe σ2 vs = wipe σ vs → Inv Y ([] ++ pinsAt fp b.heap) σ2 H' s' → Nx H' → M s' := fun {σ2 H' s'} hw J2 nx => by
    have there : ∀ p ∈ fp, ∀ o, b.heap.get? p = some o → s'.heap.get? p = some o ∧ H' p = none := fun p hp o e => by
      have q := J2.pin (p, o) (List.mem_append_right _ (List.mem_append_right _ (mem_pinsAt hp e)))
      exact ⟨q.1, q.2.1⟩
    refine done s' H' ((J2.unpinned (pins := [])).weak (hw ▸ wipe_length ..) fun j v e => (wipe_some (hw.symm ▸ e)).1) (T.calm.keep _ _ _ st1 fun p hp o e => (there p hp o e).1) (fun p hp => ?_) nx
    obtain ⟨o, e, _⟩ := kept p hp
    exact (there p hp o e).2
  have runG := pg.run _ b _ H1 x u _ pins rx (elem x H1 yx)
  rw [hx] at runG
  refine thnF runG fun _ c ⟨σ2, H2, I2, hw, q2⟩ => ?_
  have runT := pt.run _ c σ2 H2 _ I2 q2
  rw [hx] at runT
  refine thnF runT fun ok d ⟨H3, I3, q3⟩ => ?_
  cases ok with
  | false => exact back hw I3 q3
  | true =>
    have runE := pe.run _ d σ2 H3 _ I3 q3
    rw [hx] at runE
    refine thnF runE fun z e ⟨y, H4, I4, ry, acc, hD, room, nx⟩ => ?_
    exact app_ok (X := Y) I4 hD room ry fun f I5 => back hw I5 nx
/-- the set's comprehension: its reading -/
theorem pe_lcH (hc : L2H.HotC X) (hN : X.N.Nodup) (hi : PIS X tg iter wi) (ok : BlkOk X.N X.env.scope scope own)
    (hg : ∀ (s : Shared) (H : Hp) (C : Addr) (cl : List (PySem.Str × Addr)) (fp : List Addr), PG (X.blk s H scope (compEnvC scope cl C X.env) fp) tg g)
    (ht : ∀ (s : Shared) (H : Hp) (C : Addr) (cl : List (PySem.Str × Addr)) (fp : List Addr), PTs (X.blk s H scope (compEnvC scope cl C X.env) fp) ifs tt)
    (he : ∀ (s : Shared) (H : Hp) (C : Addr) (cl : List (PySem.Str × Addr)) (fp : List Addr), PE (X.blk s H scope (compEnvC scope cl C X.env) fp) elt te) (hs : ∀ x, foldedSetIterable iter X.env x = pure x) :
    PE X (.ListComp elt [⟨tg, iter, ifs, 0⟩] scope pos) (tLc wi g tt te (own.map (·.2))) := by
  refine ⟨fun pins s σ H Q I h => ?_⟩
  rw [eval_ListComp]
  have cells : closureFor scope X.env = pure (cloFrom X.env.cells scope.names []) := closure_ok fun y hy e => (ok.free y hy e).elim (fun q => I.ok.has _ (.inl q)) (fun q => I.ok.has _ (.inr q))
  refine wpAny_comprehension_free (use := none) rfl hs cells ok.kind (fun y hy e => e ▸ ok.uniq y hy) ?_
  refine thn (hi.run pins s σ H _ I h) fun _ a walk => thn walk fun _ b ⟨it, fp, tn, J, H1, eit, I1, T, st, safe, q⟩ => ?_
  subst eit
  refine wpAny_newObj_type (newEnv_comp ?_) (show 0 ≤ sizeLine by decide)
  have fresh : H1 b.heap.objs.size = none := I1.hok.fresh (Nat.le_refl _)
  obtain ⟨W, ⟨m, w0⟩, turns⟩ := q b.heap.objs.size fresh
  -- the set, told
  generalize hD : b.heap.objs.size = D at w0 turns fresh ⊢
  generalize hZ : upd H1 D (.lst []) = Z at w0
  generalize hc1 : ({ b with heap := b.heap.push { cls := .type "list", data := .seq ([] : List Value).toArray } } : Shared) = c
  have hh : c.heap = b.heap.push { cls := .type "list", data := .seq ([] : List Value).toArray } := by rw [← hc1]
  have I2 : Inv X pins σ Z c := by
    rw [← hc1, ← hZ, ← hD]
    exact I1.laid (t' := b.toks) (fun _ _ e => Heap.get?_push_of_some _ e) (Nat.le_refl _) ⟨Nat.zero_le _, [], 0, .nil, Heap.get?_push_size _ rfl⟩
  obtain ⟨px, ⟨hot, vx, dx, cx⟩, inX⟩ := hc
  obtain ⟨gx, nx, _, fx, _⟩ := I2.pin px (List.mem_append_left _ inX)
  have young : ∀ p ∈ fp, p < D := fun p hp => by
    obtain ⟨o, e, _⟩ := T.calm.obj _ _ st p hp
    exact hD ▸ Heap.lt_size e
  have safe2 : ∀ p ∈ fp, FpOk X pins Z p ∧ p < c.heap.objs.size := fun p hp => by
    refine ⟨⟨?_, (safe p hp).2⟩, ?_⟩
    · rw [← hZ, upd_ne (Nat.ne_of_lt (young p hp))]
      exact (safe p hp).1
    · rw [hh, Heap.size_push, hD]
      exact Nat.lt_succ_of_lt (young p hp)
  have notfp : px.1 ∉ fp := fun hm => (safe2 px.1 hm).1.2.2.2.2.2 px (List.mem_append_left _ inX) rfl
  have outX : px.1 ∉ (X.blk c Z scope (compEnvC scope [] 0 X.env) fp).fs := fun hm => by
    obtain ⟨_, _, k1, k2, _⟩ := I2.pin px (List.mem_append_left _ inX)
    exact (List.mem_cons.mp (I2.stkSub px.1 hm)).elim k1 k2
  have st2 : tn 0 c.heap := T.calm.keep _ _ _ st fun p _ o e => hh ▸ Heap.get?_push_of_some _ e
  -- the comprehension's own context
  have I3 := block_start I2 ok hN safe2
  generalize hC : c.heap.objs.size = C at I3
  generalize hcl : cellsFrom (C + 1) scope.names (cloFrom X.env.cells scope.names []) = cl at I3
  have pg := hg c Z C cl fp
  have pt := ht c Z C cl fp
  have pe := he c Z C cl fp
  generalize hd : ({ c with heap := pushCells (c.heap.push { cls := .type "dict", data := .dict #[] }) scope.names } : Shared) = d at I3
  have st3 : tn 0 d.heap := T.calm.keep _ _ _ st2 fun p _ o e => by
    rw [← hd]
    exact pushCells_keeps _ _ _ _ (Heap.get?_push_of_some _ e)
  have loop : codeAny (model X.prog X.w) X.A (.compLoop (.ListComp elt [⟨tg, iter, ifs, 0⟩] scope pos) 0 (.ref it) (.ref D) (compEnvC scope cl C X.env))
      (compPost (model X.prog X.w) X.A X.xe none (EP X pins σ Q) (.ref D) C) d := by
    refine compLoop_any (fun n z => ∃ i H', Inv (X.blk c Z scope (compEnvC scope cl C X.env) fp) [] (wipe σ (own.map (·.2))) H' z ∧ tn i z.heap ∧ (∀ p ∈ fp, H' p = none) ∧ W i n H')
      ?_ m ⟨0, Z, I3, st3, fun p hp => (safe2 p hp).1.1, w0⟩
    rintro n z ⟨i, H2, J2, stz, nf, wz⟩
    have own_safe : ∀ (σ' : L2.St) (H' : Hp) (s' : Shared), Inv (X.blk c Z scope (compEnvC scope cl C X.env) fp) [] σ' H' s' → (∀ p ∈ fp, H' p = none) → ∀ p ∈ fp, FpOk (X.blk c Z scope (compEnvC scope cl C X.env) fp) [] H' p := fun σ' H' s' J3 hn p hp =>
      ⟨hn p hp, (J3.ok.exf p hp).1, J3.ok.exfs p hp, .inl hp, fun x cc e => (J3.ok.exf p hp).2 x cc e, fun pr hpr => absurd (show pr ∈ ([] : List (Addr × Obj)) ++ [] from hpr) (by simp)⟩
    rcases turns i n H2 wz with ⟨stop, qq⟩ | ⟨go, Nx, further, elem⟩
    · refine thnF (T.done (X.blk c Z scope (compEnvC scope cl C X.env) fp) rfl rfl rfl i z _ H2 (fun _ _ => False) px.1 ⟨hot, px.2, vx, J2.base.keep px.1 px.2 gx nx outX notfp, dx, cx⟩ J2 (own_safe _ _ _ J2 nf) stz stop) fun r y ⟨er, J4⟩ => ?_
      subst er
      have home : Inv X pins σ H2 y := I2.call' (ch := fp) J4.os J4.base J4.hok J4.bare fun p hp => by
        obtain ⟨_, k1, _, k3, k4, k5⟩ := (safe2 p hp).1
        exact ⟨k3, k1, k4, k5⟩
      have noC : H2 C = none := J4.free
      obtain ⟨mm, ns, _⟩ := J4.loc
      refine ⟨mm, ns, fun h' same => ?_⟩
      obtain ⟨f0, f1, _, f3, f4, f5⟩ := I2.fpOk (Nat.le_of_eq hC) noC
      exact ⟨.ref D, H2, home.turned (t' := y.toks) (fun p o hp e => (same.2 p hp).trans e) f0 f1 f3 f4 f5, rfl, qq⟩
    · exact turn_go (Y := X.blk c Z scope (compEnvC scope cl C X.env) fp) rfl rfl T pg pt pe own_safe J2 stz nf go elem fun s' H' J5 st5 nf5 nx => by
        obtain ⟨m', lt, w'⟩ := further H' nx
        exact ⟨m', lt, i + 1, H', J5, st5, nf5, w'⟩
  exact codeAny_compStart_list loop (T.calm.self X.A 0 _ _ _ st3 loop)
end
end Ht
set_option maxHeartbeats 4000000
/-! a list comprehension while an exception is handled, as a rule -/
namespace Fs
open PySem PySem.Spec PyProof.Rows L2
variable [Tb : Tabs]
structure SIH (X : Cx) (Wx : WE) (tg iter : Expr) (m : DI) : Prop where
  ex : ∃ wi, Ht.PIS X tg iter wi ∧ ∀ σ H μ ls S (R : It → Hp → Prop), LR X.K μ H σ ls → Sim X.K μ S H → Bd X.K X.mg (RlI X.K) (fun c d H' => Wx c d σ H') μ H (m ls S) R → wi σ H R
/-- a list as a source -/
def dLstI (a : DE) : DI := fun ls S => (a ls S).bind fun w S1 => match lstW S1 w with
  | some ws => .ok ⟨ws, stayOf w ws⟩ S1
  | none => .bad
section
variable {X : Cx} {Wx : WE} {a : Expr} {ma : DE}
theorem sih_lst {tg : Expr} (ha : SE X Wx a ma) : SIH X Wx tg a (dLstI ma) := by
  obtain ⟨t1, p1, q1⟩ := ha.ex
  refine ⟨_, Ht.pis_list p1, fun σ H μ ls S R hL hS h => ?_⟩
  refine q1 σ H μ ls S _ hL hS (Bd.bind (fun w S1 v H1 μ1 g1 s1 r1 h1 => ?_) h)
  split at h1
  · rename_i ws ew
    obtain ⟨p, xs, rfl, a1, a2⟩ := lst_of s1 ew r1
    refine ⟨p, rfl, ⟨xs, a1⟩, h1 _ H1 μ1 (Gr.refl _ _) s1 fun i H2 μ2 S2 g2 s2 st => ?_⟩
    obtain ⟨ys, b1, b2⟩ : ∃ ys, SqL X.K H2 p ys ∧ VrA X.K μ2 H2 ys ws := by
      cases r1 with
      | rol c1 c2 =>
        cases ew
        exact ⟨_, (g2.rol c1).seq, c2.mono g2⟩
      | @loc n _ c1 =>
        obtain ⟨_, ys, e1, _, e2, e3⟩ := s2.cellL (show S2[n]? = some (.lst ws) from st) (.loc (g2.mu _ _ c1))
        cases e1
        exact ⟨ys, .of e2, e3⟩
      | _ => cases ew
    refine ⟨fun over => ⟨ys, b1, by rw [b2.length]; exact over⟩, fun w2 e2 => ?_⟩
    obtain ⟨v2, e3, r3⟩ := b2.get e2
    refine ⟨⟨ys, v2, b1, e3⟩, fun x H3 y => ?_⟩
    obtain ⟨rfl, y⟩ := y
    cases e3.symm.trans (y ys b1)
    exact ⟨μ2, Gr.refl _ _, s2, r3⟩
  · exact False.elim h1
end
section
variable {X : Cx} {elt tg iter : Expr} {ifs : List Expr} {scope : Scope} {own : List (Str × Nat)} {pos : Pos} {it : DI} {g : DG} {tt : DT} {te : DE} {sl : List Nat}
theorem se_lcH (hc : L2H.HotC X) (hN : X.N.Nodup) (hi : SIH X Wn tg iter it) (ok : BlkOk X.N X.env.scope scope own)
    (hg : ∀ (s : Shared) (H : Hp) (C : Addr) (cl : List (Str × Addr)) (fp : List Addr), SG (X.blk s H scope (compEnvC scope cl C X.env) fp) tg sl g) (ht : ∀ (s : Shared) (H : Hp) (C : Addr) (cl : List (Str × Addr)) (fp : List Addr), STs (X.blk s H scope (compEnvC scope cl C X.env) fp) Wn ifs tt)
    (he : ∀ (s : Shared) (H : Hp) (C : Addr) (cl : List (Str × Addr)) (fp : List Addr), SE (X.blk s H scope (compEnvC scope cl C X.env) fp) Wn elt te) (hsl : ∀ j ∈ sl, j ∈ own.map (·.2) := by decide) (hs : ∀ x, foldedSetIterable iter X.env x = pure x := by intro _; rfl) :
    SE X Wn (.ListComp elt [⟨tg, iter, ifs, 0⟩] scope pos) (dLc it g (own.map (·.2)) tt te) := by
  obtain ⟨wi, p1, q1⟩ := hi.ex
  exact ⟨_, Ht.pe_lcH (g := cG X.K sl g) (tt := cT X.K X.mg Wn tt) (te := cE X.K X.mg Wn te) hc hN p1 ok (fun s H C cl fp => (hg s H C cl fp).canon) (fun s H C cl fp => (ht s H C cl fp).canon) (fun s H C cl fp => (he s H C cl fp).canon) hs, fun σ H μ ls S Q hL hS h => lc_real q1 _ hsl hL hS h⟩
end
end Fs
set_option maxHeartbeats 4000000
namespace G
open PySem L2 Fs
def topS (i : Nat) : Stmt := PySem.Challenge.pw_guardwords_k67_terms_fit_and_give.main.body.getD i (.Pass ⟨0, 0, 0, 0⟩)
def errNs : List Str := ["BadLetter", "BadCondition", "BadTerm", "OtherKinds", "Unread", "NotPlain", "NotSingle", "TooMany", "UnknownName", "TooLarge", "WrongUse", "InUse", "Circle", "NothingToUndo"]
abbrev s__is_number : Stmt := topS 18
theorem sc__is_number : FnScope ["value"] ["value"] (defScope s__is_number) := ⟨rfl, rfl, rfl, by decide +kernel, rfl, by decide +kernel, by decide +kernel⟩
noncomputable def d__is_number : DS :=
  (dRet (dAnd (dCall gIsi [(dVar 0), (dC (.ty "int"))]) (dNot (dCall gIsi [(dVar 0), (dC (.ty "bool"))]))))
noncomputable def f__is_number : DF := mkF 1 1 d__is_number
abbrev s__is_form : Stmt := topS 19
theorem sc__is_form : FnScope ["value", "head", "size"] ["value", "head", "size"] (defScope s__is_form) := ⟨rfl, rfl, rfl, by decide +kernel, rfl, by decide +kernel, by decide +kernel⟩
noncomputable def d__is_form : DS :=
  (dRet (dAnd (dOp gEq (dCall gLen [(dVar 0)]) (dVar 2)) (dOp gEq (dOp gIx (dVar 0) (dC (.int 0))) (dVar 1))))
noncomputable def f__is_form : DF := mkF 3 3 d__is_form
abbrev s__is_case : Stmt := topS 20
theorem sc__is_case : FnScope ["kinds", "value"] ["kinds", "value"] (defScope s__is_case) := ⟨rfl, rfl, rfl, by decide +kernel, rfl, by decide +kernel, by decide +kernel⟩
noncomputable def d__is_case : DS :=
  (dRet (dAnd (dCall f__is_number [(dVar 1)]) (dChain gLe gLt (dC (.int 0)) (dVar 1) (dCall gLen [(dVar 0)]))))
noncomputable def f__is_case : DF := mkF 2 2 d__is_case
abbrev s_is_letter : Stmt := topS 17
theorem sc_is_letter : FnScope ["kind", "value", "head"] ["kind", "value"] (defScope s_is_letter) := ⟨rfl, rfl, rfl, by decide +kernel, rfl, by decide +kernel, by decide +kernel⟩
noncomputable def d_is_letter (self : DF) : DS :=
  (dSeq (dSet 2 (dOp gIx (dVar 0) (dC (.int 0))))
  (dSeq (dIf (dTB (dOp gEq (dVar 2) (dC (.str (PySem.Str.ofString "names"))))) (dRet (dOp gIn (dVar 1) (dOp gIx (dVar 0) (dC (.int 1))))) dNx)
  (dSeq (dIf (dTB (dOp gEq (dVar 2) (dC (.str (PySem.Str.ofString "integers"))))) (dRet (dCall f__is_number [(dVar 1)])) dNx)
  (dSeq (dIf (dNotT (dT (dCall gIsi [(dVar 1), (dC (.ty "tuple"))]))) (dRet (dC (.bl false))) dNx)
  (dSeq (dIf (dTB (dOp gEq (dVar 2) (dC (.str (PySem.Str.ofString "pair"))))) (dRet (dAnd (dCall f__is_form [(dVar 1), (dC (.str (PySem.Str.ofString "pair"))), (dC (.int 3))]) (dAnd (dCall self [(dOp gIx (dVar 0) (dC (.int 1))), (dOp gIx (dVar 1) (dC (.int 1)))]) (dCall self [(dOp gIx (dVar 0) (dC (.int 2))), (dOp gIx (dVar 1) (dC (.int 2)))])))) dNx)
  (dSeq (dIf (dTB (dOp gEq (dVar 2) (dC (.str (PySem.Str.ofString "either"))))) (dRet (dAnd (dCall f__is_form [(dVar 1), (dC (.str (PySem.Str.ofString "case"))), (dC (.int 3))]) (dAnd (dCall f__is_case [(dOp gIx (dVar 0) (dC (.int 1))), (dOp gIx (dVar 1) (dC (.int 1)))]) (dCall self [(dOp gIx (dOp gIx (dVar 0) (dC (.int 1))) (dOp gIx (dVar 1) (dC (.int 1)))), (dOp gIx (dVar 1) (dC (.int 2)))])))) dNx)
  (dRet (dOr (dOp gEq (dVar 1) (dTup [(dC (.str (PySem.Str.ofString "none")))])) (dAnd (dCall f__is_form [(dVar 1), (dC (.str (PySem.Str.ofString "some"))), (dC (.int 2))]) (dCall self [(dOp gIx (dVar 0) (dC (.int 1))), (dOp gIx (dVar 1) (dC (.int 1)))]))))))))))
noncomputable def f_is_letter : Nat → DF
  | 0 => fun _ _ => .bad
  | n + 1 => mkF 3 2 (d_is_letter (f_is_letter n))
abbrev s_steps_from : Stmt := topS 21
theorem sc_steps_from : FnScope ["kind"] ["kind"] (defScope s_steps_from) := ⟨rfl, rfl, rfl, by decide +kernel, rfl, by decide +kernel, by decide +kernel⟩
noncomputable def d_steps_from : DS :=
  (dSeq (dIf (dTB (dOp gEq (dOp gIx (dVar 0) (dC (.int 0))) (dC (.str (PySem.Str.ofString "pair"))))) (dRet (dLst [(dTup [(dC (.str (PySem.Str.ofString "first"))), (dOp gIx (dVar 0) (dC (.int 1)))]), (dTup [(dC (.str (PySem.Str.ofString "second"))), (dOp gIx (dVar 0) (dC (.int 2)))])])) dNx)
  (dSeq (dIf (dTB (dOp gEq (dOp gIx (dVar 0) (dC (.int 0))) (dC (.str (PySem.Str.ofString "either"))))) (dRet (dUn gLE (dOp gIx (dVar 0) (dC (.int 1))))) dNx)
  (dSeq (dIf (dTB (dOp gEq (dOp gIx (dVar 0) (dC (.int 0))) (dC (.str (PySem.Str.ofString "maybe"))))) (dRet (dLst [(dTup [(dC (.str (PySem.Str.ofString "some"))), (dOp gIx (dVar 0) (dC (.int 1)))])])) dNx)
  (dRet (dLst [])))))
noncomputable def f_steps_from : DF := mkF 1 1 d_steps_from
abbrev s_kind_at : Stmt := topS 22
theorem sc_kind_at : FnScope ["kind", "path", "step", "below"] ["kind", "path"] (defScope s_kind_at) := ⟨rfl, rfl, rfl, by decide +kernel, rfl, by decide +kernel, by decide +kernel⟩
noncomputable def d_kind_at : DS :=
  (dSeq (dFor (dSeqI (dVar 1)) (dgName 2) (dSeq (dSet 3 (dCall gDict [(dCall f_steps_from [(dVar 0)])]))
    (dSeq (dIf (dTB (dOp (gDIn true) (dVar 2) (dVar 3))) (dRet (dC .non)) dNx)
    (dSet 0 (dOp gDIx (dVar 3) (dVar 2))))))
  (dRet (dVar 0)))
noncomputable def f_kind_at : DF := mkF 4 2 d_kind_at
abbrev s__parts_of : Stmt := topS 24
theorem sc__parts_of : FnScope ["letter"] ["letter"] (defScope s__parts_of) := ⟨rfl, rfl, rfl, by decide +kernel, rfl, by decide +kernel, by decide +kernel⟩
noncomputable def d__parts_of : DS :=
  (dSeq (dIf (dOrT (dNotT (dT (dCall gIsi [(dVar 0), (dC (.ty "tuple"))]))) (dTB (dOp gEq (dVar 0) (dTup [(dC (.str (PySem.Str.ofString "none")))])))) (dRet (dDisp [])) dNx)
  (dSeq (dIf (dTB (dOp gEq (dOp gIx (dVar 0) (dC (.int 0))) (dC (.str (PySem.Str.ofString "pair"))))) (dRet (dDisp [((dC (.str (PySem.Str.ofString "first"))), (dOp gIx (dVar 0) (dC (.int 1)))), ((dC (.str (PySem.Str.ofString "second"))), (dOp gIx (dVar 0) (dC (.int 2))))])) dNx)
  (dSeq (dIf (dTB (dOp gEq (dOp gIx (dVar 0) (dC (.int 0))) (dC (.str (PySem.Str.ofString "case"))))) (dRet (dDisp [((dOp gIx (dVar 0) (dC (.int 1))), (dOp gIx (dVar 0) (dC (.int 2))))])) dNx)
  (dRet (dDisp [((dC (.str (PySem.Str.ofString "some"))), (dOp gIx (dVar 0) (dC (.int 1))))])))))
noncomputable def f__parts_of : DF := mkF 1 1 d__parts_of
abbrev s_part_at : Stmt := topS 23
theorem sc_part_at : FnScope ["letter", "path", "step", "parts"] ["letter", "path"] (defScope s_part_at) := ⟨rfl, rfl, rfl, by decide +kernel, rfl, by decide +kernel, by decide +kernel⟩
noncomputable def d_part_at : DS :=
  (dSeq (dFor (dSeqI (dVar 1)) (dgName 2) (dSeq (dSet 3 (dCall f__parts_of [(dVar 0)]))
    (dSeq (dIf (dTB (dOp (gDIn true) (dVar 2) (dVar 3))) (dRet (dC .non)) dNx)
    (dSet 0 (dOp gDIx (dVar 3) (dVar 2))))))
  (dRet (dVar 0)))
noncomputable def f_part_at : DF := mkF 4 2 d_part_at
abbrev s__fits : Stmt := topS 28
theorem sc__fits : FnScope ["kind", "other", "term", "head"] ["kind", "other", "term"] (defScope s__fits) := ⟨rfl, rfl, rfl, by decide +kernel, rfl, by decide +kernel, by decide +kernel⟩
noncomputable def d__fits (self : DF) : DS :=
  (dSeq (dSet 3 (dOp gIx (dVar 2) (dC (.int 0))))
  (dSeq (dIf (dTB (dOp gEq (dVar 3) (dC (.str (PySem.Str.ofString "always"))))) (dRet (dCall (f_is_letter 4) [(dVar 1), (dOp gIx (dVar 2) (dC (.int 1)))])) dNx)
  (dSeq (dIf (dTB (dOp gEq (dVar 3) (dC (.str (PySem.Str.ofString "read"))))) (dRet (dOp gEq (dCall f_kind_at [(dVar 0), (dOp gIx (dVar 2) (dC (.int 1)))]) (dVar 1))) dNx)
  (dSeq (dIf (dTB (dOp gIn (dVar 3) (dTup [(dC (.str (PySem.Str.ofString "plus"))), (dC (.str (PySem.Str.ofString "minus")))]))) (dRet (dAnd (dOp gEq (dCall f_kind_at [(dVar 0), (dOp gIx (dVar 2) (dC (.int 1)))]) (dC (.tup [.str (PySem.Str.ofString "integers")]))) (dOp gEq (dVar 1) (dC (.tup [.str (PySem.Str.ofString "integers")]))))) dNx)
  (dSeq (dIf (dTB (dOp gEq (dVar 3) (dC (.str (PySem.Str.ofString "pair"))))) (dRet (dAnd (dOp gEq (dOp gIx (dVar 1) (dC (.int 0))) (dC (.str (PySem.Str.ofString "pair")))) (dAnd (dCall self [(dVar 0), (dOp gIx (dVar 1) (dC (.int 1))), (dOp gIx (dVar 2) (dC (.int 1)))]) (dCall self [(dVar 0), (dOp gIx (dVar 1) (dC (.int 2))), (dOp gIx (dVar 2) (dC (.int 2)))])))) dNx)
  (dSeq (dIf (dTB (dOp gEq (dVar 3) (dC (.str (PySem.Str.ofString "case"))))) (dRet (dAnd (dOp gEq (dOp gIx (dVar 1) (dC (.int 0))) (dC (.str (PySem.Str.ofString "either")))) (dAnd (dOp gLt (dOp gIx (dVar 2) (dC (.int 1))) (dCall gLen [(dOp gIx (dVar 1) (dC (.int 1)))])) (dCall self [(dVar 0), (dOp gIx (dOp gIx (dVar 1) (dC (.int 1))) (dOp gIx (dVar 2) (dC (.int 1)))), (dOp gIx (dVar 2) (dC (.int 2)))])))) dNx)
  (dRet (dAnd (dOp gEq (dOp gIx (dVar 1) (dC (.int 0))) (dC (.str (PySem.Str.ofString "maybe")))) (dCall self [(dVar 0), (dOp gIx (dVar 1) (dC (.int 1))), (dOp gIx (dVar 2) (dC (.int 1)))])))))))))
noncomputable def f__fits : Nat → DF
  | 0 => fun _ _ => .bad
  | n + 1 => mkF 4 3 (d__fits (f__fits n))
abbrev s_check_term : Stmt := topS 27
theorem sc_check_term : FnScope ["kind", "other", "term"] ["kind", "other", "term"] (defScope s_check_term) := ⟨rfl, rfl, rfl, by decide +kernel, rfl, by decide +kernel, by decide +kernel⟩
noncomputable def d_check_term : DS :=
  (dIf (dNotT (dT (dCall (noX (f__fits 4)) [(dVar 0), (dVar 1), (dVar 2)]))) (dRaise "BadTerm") dNx)
noncomputable def f_check_term : DF := mkF 3 3 d_check_term
abbrev s_gives : Stmt := topS 29
theorem sc_gives : FnScope ["term", "letter", "head", "parts", "part"] ["term", "letter"] (defScope s_gives) := ⟨rfl, rfl, rfl, by decide +kernel, rfl, by decide +kernel, by decide +kernel⟩
noncomputable def d_gives (self : DF) : DS :=
  (dSeq (dSet 2 (dOp gIx (dVar 0) (dC (.int 0))))
  (dSeq (dIf (dTB (dOp gEq (dVar 2) (dC (.str (PySem.Str.ofString "always"))))) (dRet (dOp gIx (dVar 0) (dC (.int 1)))) dNx)
  (dSeq (dIf (dTB (dOp gEq (dVar 2) (dC (.str (PySem.Str.ofString "pair"))))) (dSeq (dSet 3 (dLc (dSeqI (dSl (dVar 0) (dPart (dC (.int 1))) dNoP)) (dgName 4) [4] dYes (dCall self [(dVar 4), (dVar 1)])))
    (dRet (dIfE (dTB (dOp gIn (dC .non) (dVar 3))) (dC .non) (dTup [(dC (.str (PySem.Str.ofString "pair"))), (dOp gIx (dVar 3) (dC (.int 0))), (dOp gIx (dVar 3) (dC (.int 1)))])))) dNx)
  (dSeq (dIf (dTB (dOp gIn (dVar 2) (dTup [(dC (.str (PySem.Str.ofString "case"))), (dC (.str (PySem.Str.ofString "some")))]))) (dSeq (dSet 4 (dCall self [(dOp gIx (dVar 0) (dUn gNeg (dC (.int 1)))), (dVar 1)]))
    (dRet (dIfE (dTB (dOp gIsN (dVar 4) (dC .non))) (dC .non) (dOp gAdd (dSl (dVar 0) dNoP (dPart (dUn gNeg (dC (.int 1))))) (dTup [(dVar 4)]))))) dNx)
  (dSeq (dSet 4 (dCall f_part_at [(dVar 1), (dOp gIx (dVar 0) (dC (.int 1)))]))
  (dSeq (dIf (dOrT (dTB (dOp gIsN (dVar 4) (dC .non))) (dTB (dOp gEq (dVar 2) (dC (.str (PySem.Str.ofString "read")))))) (dRet (dVar 4)) dNx)
  (dRet (dIfE (dTB (dOp gEq (dVar 2) (dC (.str (PySem.Str.ofString "plus"))))) (dOp gAdd (dVar 4) (dOp gIx (dVar 0) (dC (.int 2)))) (dOp gSub (dOp gIx (dVar 0) (dC (.int 2))) (dVar 4))))))))))
noncomputable def f_gives : Nat → DF
  | 0 => fun _ _ => .bad
  | n + 1 => mkF 5 2 (d_gives (f_gives n))
abbrev s__law_tape : Stmt := topS 31
theorem sc__law_tape : FnScope ["script", "mixed", "cell"] ["script"] (defScope s__law_tape) := ⟨rfl, rfl, rfl, by decide +kernel, rfl, by decide +kernel, by decide +kernel⟩
noncomputable def d__law_tape : DS :=
  (dSeq (dSet 1 (dC (.int 7)))
  (dSeq (dFor (dSeqI (dVar 0)) (dgName 2) (dSet 1 (dOp gMod (dCall gInt [(dOp gAdd (dOp gMul (dVar 1) (dC (.int 31))) (dCall gAbs [(dCall gInt [(dVar 2)])]))]) (dC (.int 2147483647)))))
  (dRet (dLst [(dCall gList [(dVar 0)]), (dC (.int 0)), (dC (.int 0)), (dVar 1)]))))
noncomputable def f__law_tape : DF := mkF 3 1 d__law_tape
abbrev s__law_draw : Stmt := topS 32
theorem sc__law_draw : FnScope ["tape", "many", "place", "number"] ["tape", "many"] (defScope s__law_draw) := ⟨rfl, rfl, rfl, by decide +kernel, rfl, by decide +kernel, by decide +kernel⟩
noncomputable def d__law_draw : DS :=
  (dSeq (dIf (dTB (dOp gEq (dOp gIx (dVar 0) (dC (.int 2))) (dC (.int 0)))) (dSeq (dSet 2 (dOp gIx (dVar 0) (dC (.int 1))))
    (dSeq (dSet 3 (dC (.int 0)))
    (dSeq (dIf (dTB (dOp gLt (dVar 2) (dCall gLen [(dOp gIx (dVar 0) (dC (.int 0)))]))) (dSet 3 (dCall gAbs [(dCall gInt [(dOp gIx (dOp gIx (dVar 0) (dC (.int 0))) (dVar 2))])])) (dSeq (dSetIx (dVar 0) (dC (.int 3)) (dOp gMod (dCall gInt [(dOp gAdd (dOp gAdd (dOp gMul (dOp gIx (dVar 0) (dC (.int 3))) (dC (.int 48271))) (dVar 2)) (dC (.int 1)))]) (dC (.int 2147483647))))
      (dSet 3 (dOp gIx (dVar 0) (dC (.int 3))))))
    (dSeq (dSetIx (dVar 0) (dC (.int 1)) (dOp gAdd (dVar 2) (dC (.int 1))))
    (dSeq (dIf (dTB (dOp gLt (dVar 3) (dOp gPow (dC (.int 10)) (dC (.int 18))))) (dSeq (dSet 3 (dOp gMod (dCall gInt [(dOp gAdd (dOp gAdd (dOp gMul (dVar 3) (dC (.int 48271))) (dOp gMul (dVar 2) (dC (.int 69621)))) (dC (.int 5)))]) (dC (.int 2147483647))))
      (dSeq (dSet 3 (dOp gMod (dCall gInt [(dOp gMul (dVar 3) (dC (.int 69621)))]) (dC (.int 2147483629))))
      (dRet (dOp gMod (dCall gInt [(dVar 3)]) (dCall gMax [(dVar 1), (dC (.int 1))]))))) dNx)
    (dSetIx (dVar 0) (dC (.int 2)) (dVar 3))))))) dNx)
  (dSeq (dSet 3 (dOp gIx (dVar 0) (dC (.int 2))))
  (dSeq (dSetIx (dVar 0) (dC (.int 2)) (dOp gDiv (dVar 3) (dCall gMax [(dVar 1), (dC (.int 2))])))
  (dRet (dOp gMod (dCall gInt [(dVar 3)]) (dCall gMax [(dVar 1), (dC (.int 1))]))))))
noncomputable def f__law_draw : DF := mkF 4 2 d__law_draw
abbrev s__law_whole : Stmt := topS 33
theorem sc__law_whole : FnScope ["told"] ["told"] (defScope s__law_whole) := ⟨rfl, rfl, rfl, by decide +kernel, rfl, by decide +kernel, by decide +kernel⟩
noncomputable def d__law_whole : DS :=
  (dRet (dAnd (dCall gIsi [(dVar 0), (dC (.ty "int"))]) (dNot (dCall gIsi [(dVar 0), (dC (.ty "bool"))]))))
noncomputable def f__law_whole : DF := mkF 1 1 d__law_whole
abbrev s__law_names : Stmt := topS 34
theorem sc__law_names : FnScope ["tape", "signs", "fixed", "stem", "names", "k", "name"] ["tape"] (defScope s__law_names) := ⟨rfl, rfl, rfl, by decide +kernel, rfl, by decide +kernel, by decide +kernel⟩
noncomputable def d__law_names : DS :=
  (dSeq (dSet 1 (dC (.str (PySem.Str.ofString "abcdexyzABZ0189 !\"#$&'()*+,-./:;<=>?\x40[\\]^_{|}~"))))
  (dSeq (dSet 2 (dLst [(dC (.str (PySem.Str.ofString "none"))), (dC (.str (PySem.Str.ofString "pair"))), (dC (.str (PySem.Str.ofString "case"))), (dC (.str (PySem.Str.ofString "some"))), (dC (.str (PySem.Str.ofString "true"))), (dC (.str (PySem.Str.ofString "0")))]))
  (dSeq (dSet 3 (dOp gIx (dLst [(dC (.str (PySem.Str.ofString ""))), (dC (.str (PySem.Str.ofString ""))), (dC (.str (PySem.Str.ofString ""))), (dC (.str (PySem.Str.ofString "case"))), (dC (.str (PySem.Str.ofString "a ,")))]) (dCall f__law_draw [(dVar 0), (dC (.int 5))])))
  (dSeq (dSet 4 (dLst []))
  (dSeq (dFor (dRng1 (dOp gIx (dLst [(dC (.int 1)), (dC (.int 2)), (dC (.int 2)), (dC (.int 3)), (dC (.int 3)), (dC (.int 4))]) (dCall f__law_draw [(dVar 0), (dC (.int 6))]))) (dgName 5) (dSeq (dSet 6 (dOp gAdd (dVar 3) (dOp gIx (dVar 1) (dCall f__law_draw [(dVar 0), (dCall gLen [(dVar 1)])]))))
    (dSeq (dIf (dTB (dOp gEq (dCall f__law_draw [(dVar 0), (dC (.int 3))]) (dC (.int 0)))) (dSet 6 (dOp gAdd (dVar 6) (dOp gIx (dVar 1) (dCall f__law_draw [(dVar 0), (dCall gLen [(dVar 1)])])))) dNx)
    (dSeq (dIf (dTB (dOp gEq (dCall f__law_draw [(dVar 0), (dC (.int 8))]) (dC (.int 0)))) (dSet 6 (dOp gIx (dVar 2) (dCall f__law_draw [(dVar 0), (dC (.int 6))]))) dNx)
    (dIf (dTB (dOp gNotIn (dVar 6) (dVar 4))) (dExpr (dAppend (dVar 4) (dVar 6))) dNx)))))
  (dRet (dCall gTuple [(dVar 4)])))))))
noncomputable def f__law_names : DF := mkF 7 1 d__law_names
abbrev s__law_kinds : Stmt := topS 35
theorem sc__law_kinds : FnScope ["kind", "piece"] ["kind"] (defScope s__law_kinds) := ⟨rfl, rfl, rfl, by decide +kernel, rfl, by decide +kernel, by decide +kernel⟩
noncomputable def d__law_kinds (self : DF) : DS :=
  (dSeq (dIf (dTB (dOp gEq (dOp gIx (dVar 0) (dC (.int 0))) (dC (.str (PySem.Str.ofString "pair"))))) (dRet (dOp gAdd (dOp gAdd (dC (.int 1)) (dCall self [(dOp gIx (dVar 0) (dC (.int 1)))])) (dCall self [(dOp gIx (dVar 0) (dC (.int 2)))]))) dNx)
  (dSeq (dIf (dTB (dOp gEq (dOp gIx (dVar 0) (dC (.int 0))) (dC (.str (PySem.Str.ofString "either"))))) (dRet (dOp gAdd (dC (.int 1)) (dCall gSum [(dLc (dSeqI (dOp gIx (dVar 0) (dC (.int 1)))) (dgName 1) [1] dYes (dCall self [(dVar 1)]))]))) dNx)
  (dSeq (dIf (dTB (dOp gEq (dOp gIx (dVar 0) (dC (.int 0))) (dC (.str (PySem.Str.ofString "maybe"))))) (dRet (dOp gAdd (dC (.int 1)) (dCall self [(dOp gIx (dVar 0) (dC (.int 1)))]))) dNx)
  (dRet (dC (.int 1))))))
noncomputable def f__law_kinds : Nat → DF
  | 0 => fun _ _ => .bad
  | n + 1 => mkF 2 1 (d__law_kinds (f__law_kinds n))
abbrev s__law_kind : Stmt := topS 36
theorem sc__law_kind : FnScope ["tape", "depth", "many", "choice", "first", "left", "parts", "kinds", "k", "piece"] ["tape", "depth", "many"] (defScope s__law_kind) := ⟨rfl, rfl, rfl, by decide +kernel, rfl, by decide +kernel, by decide +kernel⟩
noncomputable def d__law_kind (self : DF) : DS :=
  (dSeq (dSet 3 (dCall f__law_draw [(dVar 0), (dC (.int 8))]))
  (dSeq (dIf (dOrT (dTB (dOp gEq (dVar 1) (dC (.int 1)))) (dOrT (dTB (dOp gEq (dVar 2) (dC (.int 1)))) (dTB (dOp gLt (dVar 3) (dC (.int 2)))))) (dSeq (dIf (dTB (dOp gEq (dCall f__law_draw [(dVar 0), (dC (.int 3))]) (dC (.int 0)))) (dRet (dTup [(dC (.str (PySem.Str.ofString "names"))), (dCall f__law_names [(dVar 0)])])) dNx)
    (dRet (dTup [(dC (.str (PySem.Str.ofString "integers")))]))) dNx)
  (dSeq (dIf (dOrT (dTB (dOp gEq (dVar 2) (dC (.int 2)))) (dTB (dOp gEq (dVar 3) (dC (.int 2))))) (dRet (dTup [(dC (.str (PySem.Str.ofString "maybe"))), (dCall self [(dVar 0), (dOp gSub (dVar 1) (dC (.int 1))), (dOp gSub (dVar 2) (dC (.int 1)))])])) dNx)
  (dSeq (dIf (dTB (dOp gLt (dVar 3) (dC (.int 6)))) (dSeq (dSet 4 (dCall self [(dVar 0), (dOp gSub (dVar 1) (dC (.int 1))), (dOp gSub (dVar 2) (dC (.int 2)))]))
    (dRet (dTup [(dC (.str (PySem.Str.ofString "pair"))), (dVar 4), (dCall self [(dVar 0), (dOp gSub (dVar 1) (dC (.int 1))), (dOp gSub (dOp gSub (dVar 2) (dC (.int 1))) (dCall (f__law_kinds 4) [(dVar 4)]))])]))) dNx)
  (dSeq (dSet 5 (dOp gSub (dVar 2) (dC (.int 1))))
  (dSeq (dSet 6 (dOp gAdd (dC (.int 1)) (dCall f__law_draw [(dVar 0), (dCall gMin [(dC (.int 3)), (dVar 5)])])))
  (dSeq (dSet 7 (dLst []))
  (dSeq (dFor (dRng1 (dVar 6)) (dgName 8) (dSeq (dSet 9 (dCall self [(dVar 0), (dOp gSub (dVar 1) (dC (.int 1))), (dOp gSub (dVar 5) (dOp gSub (dOp gSub (dVar 6) (dC (.int 1))) (dVar 8)))]))
    (dSeq (dExpr (dAppend (dVar 7) (dVar 9)))
    (dSet 5 (dOp gSub (dVar 5) (dCall (f__law_kinds 4) [(dVar 9)]))))))
  (dRet (dTup [(dC (.str (PySem.Str.ofString "either"))), (dCall gTuple [(dVar 7)])]))))))))))
noncomputable def f__law_kind : Nat → DF
  | 0 => fun _ _ => .bad
  | n + 1 => mkF 10 3 (d__law_kind (f__law_kind n))
abbrev s__law_any_kind : Stmt := topS 37
theorem sc__law_any_kind : FnScope ["tape", "choice"] ["tape"] (defScope s__law_any_kind) := ⟨rfl, rfl, rfl, by decide +kernel, rfl, by decide +kernel, by decide +kernel⟩
noncomputable def d__law_any_kind : DS :=
  (dSeq (dSet 1 (dCall f__law_draw [(dVar 0), (dC (.int 5))]))
  (dSeq (dIf (dTB (dOp gLt (dVar 1) (dC (.int 2)))) (dRet (dTup [(dC (.str (PySem.Str.ofString "integers")))])) dNx)
  (dRet (dCall (f__law_kind 4) [(dVar 0), (dC (.int 3)), (dOp gIx (dLst [(dC (.int 6)), (dC (.int 3)), (dC (.int 6))]) (dOp gSub (dVar 1) (dC (.int 2))))]))))
noncomputable def f__law_any_kind : DF := mkF 2 1 d__law_any_kind
abbrev s__law_integer : Stmt := topS 38
theorem sc__law_integer : FnScope ["tape", "top", "choice", "number"] ["tape", "top"] (defScope s__law_integer) := ⟨rfl, rfl, rfl, by decide +kernel, rfl, by decide +kernel, by decide +kernel⟩
noncomputable def d__law_integer : DS :=
  (dSeq (dSet 2 (dCall f__law_draw [(dVar 0), (dC (.int 5))]))
  (dSeq (dSet 3 (dCall f__law_draw [(dVar 0), (dOp gIx (dLst [(dC (.int 2)), (dOp gAdd (dVar 1) (dC (.int 1))), (dOp gAdd (dVar 1) (dC (.int 14))), (dOp gPow (dC (.int 10)) (dC (.int 9))), (dOp gSub (dOp gPow (dC (.int 10)) (dC (.int 30))) (dC (.int 99)))]) (dVar 2))]))
  (dSeq (dIf (dTB (dOp gEq (dVar 2) (dC (.int 3)))) (dSet 3 (dOp gAdd (dOp gMul (dVar 3) (dOp gPow (dC (.int 10)) (dC (.int 21)))) (dCall f__law_draw [(dVar 0), (dOp gPow (dC (.int 10)) (dC (.int 9)))]))) dNx)
  (dRet (dOp gIx (dLst [(dVar 3), (dUn gNeg (dVar 3))]) (dCall f__law_draw [(dVar 0), (dC (.int 2))]))))))
noncomputable def f__law_integer : DF := mkF 4 2 d__law_integer
abbrev s__law_letter : Stmt := topS 39
theorem sc__law_letter : FnScope ["tape", "kind", "theory", "first", "i"] ["tape", "kind", "theory"] (defScope s__law_letter) := ⟨rfl, rfl, rfl, by decide +kernel, rfl, by decide +kernel, by decide +kernel⟩
noncomputable def d__law_letter (self : DF) : DS :=
  (dSeq (dIf (dTB (dOp gEq (dOp gIx (dVar 1) (dC (.int 0))) (dC (.str (PySem.Str.ofString "names"))))) (dRet (dOp gIx (dOp gIx (dVar 1) (dC (.int 1))) (dCall f__law_draw [(dVar 0), (dCall gLen [(dOp gIx (dVar 1) (dC (.int 1)))])]))) dNx)
  (dSeq (dIf (dTB (dOp gEq (dOp gIx (dVar 1) (dC (.int 0))) (dC (.str (PySem.Str.ofString "integers"))))) (dRet (dCall f__law_integer [(dVar 0), (dOp gIx (dVar 2) (dC (.int 0)))])) dNx)
  (dSeq (dIf (dTB (dOp gEq (dOp gIx (dVar 1) (dC (.int 0))) (dC (.str (PySem.Str.ofString "pair"))))) (dSeq (dSet 3 (dCall self [(dVar 0), (dOp gIx (dVar 1) (dC (.int 1))), (dVar 2)]))
    (dRet (dTup [(dC (.str (PySem.Str.ofString "pair"))), (dVar 3), (dCall self [(dVar 0), (dOp gIx (dVar 1) (dC (.int 2))), (dVar 2)])]))) dNx)
  (dSeq (dIf (dTB (dOp gEq (dOp gIx (dVar 1) (dC (.int 0))) (dC (.str (PySem.Str.ofString "either"))))) (dSeq (dSet 4 (dCall f__law_draw [(dVar 0), (dCall gLen [(dOp gIx (dVar 1) (dC (.int 1)))])]))
    (dRet (dTup [(dC (.str (PySem.Str.ofString "case"))), (dVar 4), (dCall self [(dVar 0), (dOp gIx (dOp gIx (dVar 1) (dC (.int 1))) (dVar 4)), (dVar 2)])]))) dNx)
  (dSeq (dIf (dTB (dOp gEq (dCall f__law_draw [(dVar 0), (dC (.int 3))]) (dC (.int 0)))) (dRet (dTup [(dC (.str (PySem.Str.ofString "none")))])) dNx)
  (dRet (dTup [(dC (.str (PySem.Str.ofString "some"))), (dCall self [(dVar 0), (dOp gIx (dVar 1) (dC (.int 1))), (dVar 2)])])))))))
noncomputable def f__law_letter : Nat → DF
  | 0 => fun _ _ => .bad
  | n + 1 => mkF 5 3 (d__law_letter (f__law_letter n))
abbrev s__law_is_letter : Stmt := topS 40
theorem sc__law_is_letter : FnScope ["kind", "told"] ["kind", "told"] (defScope s__law_is_letter) := ⟨rfl, rfl, rfl, by decide +kernel, rfl, by decide +kernel, by decide +kernel⟩
noncomputable def d__law_is_letter (self : DF) : DS :=
  (dSeq (dIf (dTB (dOp gEq (dOp gIx (dVar 0) (dC (.int 0))) (dC (.str (PySem.Str.ofString "names"))))) (dRet (dAnd (dCall gIsi [(dVar 1), (dC (.ty "str"))]) (dOp gIn (dVar 1) (dOp gIx (dVar 0) (dC (.int 1)))))) dNx)
  (dSeq (dIf (dTB (dOp gEq (dOp gIx (dVar 0) (dC (.int 0))) (dC (.str (PySem.Str.ofString "integers"))))) (dRet (dCall f__law_whole [(dVar 1)])) dNx)
  (dSeq (dIf (dOrT (dNotT (dT (dCall gIsi [(dVar 1), (dC (.ty "tuple"))]))) (dOrT (dTB (dOp gEq (dCall gLen [(dVar 1)]) (dC (.int 0)))) (dNotT (dT (dCall gIsi [(dOp gIx (dVar 1) (dC (.int 0))), (dC (.ty "str"))]))))) (dRet (dC (.bl false))) dNx)
  (dSeq (dIf (dTB (dOp gEq (dOp gIx (dVar 0) (dC (.int 0))) (dC (.str (PySem.Str.ofString "pair"))))) (dSeq (dIf (dOrT (dTB (dOp gNe (dOp gIx (dVar 1) (dC (.int 0))) (dC (.str (PySem.Str.ofString "pair"))))) (dTB (dOp gNe (dCall gLen [(dVar 1)]) (dC (.int 3))))) (dRet (dC (.bl false))) dNx)
    (dRet (dAnd (dCall self [(dOp gIx (dVar 0) (dC (.int 1))), (dOp gIx (dVar 1) (dC (.int 1)))]) (dCall self [(dOp gIx (dVar 0) (dC (.int 2))), (dOp gIx (dVar 1) (dC (.int 2)))])))) dNx)
  (dSeq (dIf (dTB (dOp gEq (dOp gIx (dVar 0) (dC (.int 0))) (dC (.str (PySem.Str.ofString "either"))))) (dSeq (dIf (dOrT (dTB (dOp gNe (dOp gIx (dVar 1) (dC (.int 0))) (dC (.str (PySem.Str.ofString "case"))))) (dOrT (dTB (dOp gNe (dCall gLen [(dVar 1)]) (dC (.int 3)))) (dNotT (dT (dCall f__law_whole [(dOp gIx (dVar 1) (dC (.int 1)))]))))) (dRet (dC (.bl false))) dNx)
    (dSeq (dIf (dOrT (dTB (dOp gLt (dOp gIx (dVar 1) (dC (.int 1))) (dC (.int 0)))) (dTB (dOp gGe (dOp gIx (dVar 1) (dC (.int 1))) (dCall gLen [(dOp gIx (dVar 0) (dC (.int 1)))])))) (dRet (dC (.bl false))) dNx)
    (dRet (dCall self [(dOp gIx (dOp gIx (dVar 0) (dC (.int 1))) (dOp gIx (dVar 1) (dC (.int 1)))), (dOp gIx (dVar 1) (dC (.int 2)))])))) dNx)
  (dSeq (dIf (dTB (dOp gEq (dOp gIx (dVar 1) (dC (.int 0))) (dC (.str (PySem.Str.ofString "none"))))) (dRet (dOp gEq (dCall gLen [(dVar 1)]) (dC (.int 1)))) dNx)
  (dRet (dAnd (dOp gEq (dOp gIx (dVar 1) (dC (.int 0))) (dC (.str (PySem.Str.ofString "some")))) (dAnd (dOp gEq (dCall gLen [(dVar 1)]) (dC (.int 2))) (dCall self [(dOp gIx (dVar 0) (dC (.int 1))), (dOp gIx (dVar 1) (dC (.int 1)))]))))))))))
noncomputable def f__law_is_letter : Nat → DF
  | 0 => fun _ _ => .bad
  | n + 1 => mkF 2 2 (d__law_is_letter (f__law_is_letter n))
abbrev s__law_same : Stmt := topS 41
theorem sc__law_same : FnScope ["told", "due", "k"] ["told", "due"] (defScope s__law_same) := ⟨rfl, rfl, rfl, by decide +kernel, rfl, by decide +kernel, by decide +kernel⟩
noncomputable def d__law_same (self : DF) : DS :=
  (dSeq (dIf (dTB (dOp gIsN (dVar 1) (dC .non))) (dRet (dOp gIsN (dVar 0) (dC .non))) dNx)
  (dSeq (dIf (dT (dCall gIsi [(dVar 1), (dC (.ty "tuple"))])) (dSeq (dIf (dOrT (dNotT (dT (dCall gIsi [(dVar 0), (dC (.ty "tuple"))]))) (dTB (dOp gNe (dCall gLen [(dVar 0)]) (dCall gLen [(dVar 1)])))) (dRet (dC (.bl false))) dNx)
    (dSeq (dFor (dRng1 (dCall gLen [(dVar 1)])) (dgName 2) (dIf (dNotT (dT (dCall self [(dOp gIx (dVar 0) (dVar 2)), (dOp gIx (dVar 1) (dVar 2))]))) (dRet (dC (.bl false))) dNx))
    (dRet (dC (.bl true))))) dNx)
  (dSeq (dIf (dT (dCall gIsi [(dVar 1), (dC (.ty "bool"))])) (dRet (dAnd (dCall gIsi [(dVar 0), (dC (.ty "bool"))]) (dOp gEq (dVar 0) (dVar 1)))) dNx)
  (dSeq (dIf (dT (dCall gIsi [(dVar 1), (dC (.ty "str"))])) (dRet (dAnd (dCall gIsi [(dVar 0), (dC (.ty "str"))]) (dOp gEq (dVar 0) (dVar 1)))) dNx)
  (dRet (dAnd (dCall f__law_whole [(dVar 0)]) (dOp gEq (dVar 0) (dVar 1))))))))
noncomputable def f__law_same : Nat → DF
  | 0 => fun _ _ => .bad
  | n + 1 => mkF 3 2 (d__law_same (f__law_same n))
abbrev s__law_pick : Stmt := topS 42
theorem sc__law_pick : FnScope ["tape", "rows"] ["tape", "rows"] (defScope s__law_pick) := ⟨rfl, rfl, rfl, by decide +kernel, rfl, by decide +kernel, by decide +kernel⟩
noncomputable def d__law_pick : DS :=
  (dRet (dOp gIx (dVar 1) (dCall f__law_draw [(dVar 0), (dCall gLen [(dVar 1)])])))
noncomputable def f__law_pick : DF := mkF 2 2 d__law_pick
abbrev s__law_error : Stmt := topS 43
theorem sc__law_error : FnScope ["wrong", "flags", "flag"] ["wrong"] (defScope s__law_error) := ⟨rfl, rfl, rfl, by decide +kernel, rfl, by decide +kernel, by decide +kernel⟩
noncomputable def d__law_error (a : Nat) (cn : Str) : DS :=
  (dSeq (dSet 1 (dLst [(dIsE 0 a (decide (cn = "BadLetter"))), (dIsE 0 a (decide (cn = "BadCondition"))), (dIsE 0 a (decide (cn = "BadTerm")))]))
  (dSeq (dSet 1 (dOp gAdd (dVar 1) (dLst [(dIsE 0 a (decide (cn = "OtherKinds"))), (dIsE 0 a (decide (cn = "Unread"))), (dIsE 0 a (decide (cn = "NotPlain")))])))
  (dSeq (dSet 1 (dOp gAdd (dVar 1) (dLst [(dIsE 0 a (decide (cn = "NotSingle"))), (dIsE 0 a (decide (cn = "TooMany"))), (dIsE 0 a (decide (cn = "UnknownName")))])))
  (dSeq (dSet 1 (dOp gAdd (dVar 1) (dLst [(dIsE 0 a (decide (cn = "Circle"))), (dIsE 0 a (decide (cn = "TooLarge"))), (dIsE 0 a (decide (cn = "WrongUse")))])))
  (dSeq (dSet 1 (dOp gAdd (dVar 1) (dLst [(dIsE 0 a (decide (cn = "InUse"))), (dIsE 0 a (decide (cn = "NothingToUndo")))])))
  (dSeq (dIf (dOrT (dNotT (dT (dIsE 0 a true))) (dTB (dOp gNe (dCall gLen [(dLc (dLstI (dVar 1)) (dgName 2) [2] (dT (dVar 2)) (dVar 2))]) (dC (.int 1))))) (dRet (dUn gNeg (dC (.int 1)))) dNx)
  (dRet (dLM gLIx (dVar 1) (dC (.bl true))))))))))
noncomputable def f__law_error (a : Nat) (cn : Str) : DF := mkF 3 1 (d__law_error a cn)
abbrev s__law_over : Stmt := topS 44
theorem sc__law_over : FnScope ["kind", "numbers", "found", "others", "first", "second", "i", "one"] ["kind", "numbers"] (defScope s__law_over) := ⟨rfl, rfl, rfl, by decide +kernel, rfl, by decide +kernel, by decide +kernel⟩
noncomputable def d__law_over (self : DF) : DS :=
  (dSeq (dIf (dTB (dOp gEq (dOp gIx (dVar 0) (dC (.int 0))) (dC (.str (PySem.Str.ofString "names"))))) (dRet (dCall gList [(dOp gIx (dVar 0) (dC (.int 1)))])) dNx)
  (dSeq (dIf (dTB (dOp gEq (dOp gIx (dVar 0) (dC (.int 0))) (dC (.str (PySem.Str.ofString "integers"))))) (dRet (dCall gList [(dVar 1)])) dNx)
  (dSeq (dSet 2 (dLst []))
  (dSeq (dIf (dTB (dOp gEq (dOp gIx (dVar 0) (dC (.int 0))) (dC (.str (PySem.Str.ofString "pair"))))) (dSeq (dSet 3 (dCall self [(dOp gIx (dVar 0) (dC (.int 2))), (dVar 1)]))
    (dSeq (dFor (dSeqI (dCall self [(dOp gIx (dVar 0) (dC (.int 1))), (dVar 1)])) (dgName 4) (dExpr (dExtend (dVar 2) (dLc (dSeqI (dVar 3)) (dgName 5) [5] dYes (dTup [(dC (.str (PySem.Str.ofString "pair"))), (dVar 4), (dVar 5)])))))
    (dRet (dVar 2)))) dNx)
  (dSeq (dIf (dTB (dOp gEq (dOp gIx (dVar 0) (dC (.int 0))) (dC (.str (PySem.Str.ofString "either"))))) (dSeq (dFor (dRng1 (dCall gLen [(dOp gIx (dVar 0) (dC (.int 1)))])) (dgName 6) (dExpr (dExtend (dVar 2) (dLc (dSeqI (dCall self [(dOp gIx (dOp gIx (dVar 0) (dC (.int 1))) (dVar 6)), (dVar 1)])) (dgName 7) [7] dYes (dTup [(dC (.str (PySem.Str.ofString "case"))), (dVar 6), (dVar 7)])))))
    (dRet (dVar 2))) dNx)
  (dRet (dOp gAdd (dLst [(dTup [(dC (.str (PySem.Str.ofString "none")))])]) (dLc (dSeqI (dCall self [(dOp gIx (dVar 0) (dC (.int 1))), (dVar 1)])) (dgName 7) [7] dYes (dTup [(dC (.str (PySem.Str.ofString "some"))), (dVar 7)])))))))))
noncomputable def f__law_over : Nat → DF
  | 0 => fun _ _ => .bad
  | n + 1 => mkF 8 2 (d__law_over (f__law_over n))
abbrev s__law_small : Stmt := topS 45
theorem sc__law_small : FnScope ["tape", "kind", "limit", "numbers", "k"] ["tape", "kind", "limit"] (defScope s__law_small) := ⟨rfl, rfl, rfl, by decide +kernel, rfl, by decide +kernel, by decide +kernel⟩
noncomputable def d__law_small : DS :=
  (dSeq (dSet 3 (dLc (dRng1 (dC (.int 2))) (dgName 4) [4] dYes (dOp gSub (dCall f__law_draw [(dVar 0), (dOp gAdd (dOp gMul (dC (.int 2)) (dVar 2)) (dC (.int 1)))]) (dVar 2))))
  (dRet (dCall f__law_pick [(dVar 0), (dCall (f__law_over 4) [(dVar 1), (dVar 3)])])))
noncomputable def f__law_small : DF := mkF 5 3 d__law_small
abbrev s__law_paths : Stmt := topS 46
theorem sc__law_paths : FnScope ["kind", "found", "row", "i"] ["kind"] (defScope s__law_paths) := ⟨rfl, rfl, rfl, by decide +kernel, rfl, by decide +kernel, by decide +kernel⟩
noncomputable def d__law_paths (self : DF) : DS :=
  (dSeq (dSet 1 (dLst [(dTup [(dTup []), (dVar 0)])]))
  (dSeq (dIf (dTB (dOp gEq (dOp gIx (dVar 0) (dC (.int 0))) (dC (.str (PySem.Str.ofString "pair"))))) (dSeq (dSet 1 (dOp gAdd (dVar 1) (dLc (dSeqI (dCall self [(dOp gIx (dVar 0) (dC (.int 1)))])) (dgName 2) [2] dYes (dTup [(dOp gAdd (dTup [(dC (.str (PySem.Str.ofString "first")))]) (dOp gIx (dVar 2) (dC (.int 0)))), (dOp gIx (dVar 2) (dC (.int 1)))]))))
    (dSet 1 (dOp gAdd (dVar 1) (dLc (dSeqI (dCall self [(dOp gIx (dVar 0) (dC (.int 2)))])) (dgName 2) [2] dYes (dTup [(dOp gAdd (dTup [(dC (.str (PySem.Str.ofString "second")))]) (dOp gIx (dVar 2) (dC (.int 0)))), (dOp gIx (dVar 2) (dC (.int 1)))]))))) dNx)
  (dSeq (dIf (dTB (dOp gEq (dOp gIx (dVar 0) (dC (.int 0))) (dC (.str (PySem.Str.ofString "either"))))) (dFor (dRng1 (dCall gLen [(dOp gIx (dVar 0) (dC (.int 1)))])) (dgName 3) (dSet 1 (dOp gAdd (dVar 1) (dLc (dSeqI (dCall self [(dOp gIx (dOp gIx (dVar 0) (dC (.int 1))) (dVar 3))])) (dgName 2) [2] dYes (dTup [(dOp gAdd (dTup [(dVar 3)]) (dOp gIx (dVar 2) (dC (.int 0)))), (dOp gIx (dVar 2) (dC (.int 1)))]))))) dNx)
  (dSeq (dIf (dTB (dOp gEq (dOp gIx (dVar 0) (dC (.int 0))) (dC (.str (PySem.Str.ofString "maybe"))))) (dSet 1 (dOp gAdd (dVar 1) (dLc (dSeqI (dCall self [(dOp gIx (dVar 0) (dC (.int 1)))])) (dgName 2) [2] dYes (dTup [(dOp gAdd (dTup [(dC (.str (PySem.Str.ofString "some")))]) (dOp gIx (dVar 2) (dC (.int 0)))), (dOp gIx (dVar 2) (dC (.int 1)))])))) dNx)
  (dRet (dVar 1))))))
noncomputable def f__law_paths : Nat → DF
  | 0 => fun _ _ => .bad
  | n + 1 => mkF 4 1 (d__law_paths (f__law_paths n))
abbrev s__law_kind_at : Stmt := topS 47
theorem sc__law_kind_at : FnScope ["kind", "path", "step"] ["kind", "path"] (defScope s__law_kind_at) := ⟨rfl, rfl, rfl, by decide +kernel, rfl, by decide +kernel, by decide +kernel⟩
noncomputable def d__law_kind_at : DS :=
  (dSeq (dIf (dNotT (dT (dCall gIsi [(dVar 1), (dC (.ty "tuple"))]))) (dRet (dC .non)) dNx)
  (dSeq (dFor (dSeqI (dVar 1)) (dgName 2) (dIf (dAndT (dTB (dOp gEq (dOp gIx (dVar 0) (dC (.int 0))) (dC (.str (PySem.Str.ofString "pair"))))) (dAndT (dT (dCall gIsi [(dVar 2), (dC (.ty "str"))])) (dTB (dOp gIn (dVar 2) (dLst [(dC (.str (PySem.Str.ofString "first"))), (dC (.str (PySem.Str.ofString "second")))]))))) (dSet 0 (dOp gIx (dVar 0) (dOp gAdd (dC (.int 1)) (dCall gInt [(dOp gEq (dVar 2) (dC (.str (PySem.Str.ofString "second"))))])))) (dIf (dAndT (dTB (dOp gEq (dOp gIx (dVar 0) (dC (.int 0))) (dC (.str (PySem.Str.ofString "maybe"))))) (dAndT (dT (dCall gIsi [(dVar 2), (dC (.ty "str"))])) (dTB (dOp gEq (dVar 2) (dC (.str (PySem.Str.ofString "some"))))))) (dSet 0 (dOp gIx (dVar 0) (dC (.int 1)))) (dIf (dAndT (dTB (dOp gEq (dOp gIx (dVar 0) (dC (.int 0))) (dC (.str (PySem.Str.ofString "either"))))) (dAndT (dT (dCall f__law_whole [(dVar 2)])) (dAndT (dTB (dOp gGe (dVar 2) (dC (.int 0)))) (dTB (dOp gLt (dVar 2) (dCall gLen [(dOp gIx (dVar 0) (dC (.int 1)))])))))) (dSet 0 (dOp gIx (dOp gIx (dVar 0) (dC (.int 1))) (dVar 2))) (dRet (dC .non))))))
  (dRet (dVar 0))))
noncomputable def f__law_kind_at : DF := mkF 3 2 d__law_kind_at
abbrev s__law_at : Stmt := topS 48
theorem sc__law_at : FnScope ["letter", "path", "step", "head"] ["letter", "path"] (defScope s__law_at) := ⟨rfl, rfl, rfl, by decide +kernel, rfl, by decide +kernel, by decide +kernel⟩
noncomputable def d__law_at : DS :=
  (dSeq (dFor (dSeqI (dVar 1)) (dgName 2) (dSeq (dIf (dNotT (dT (dCall gIsi [(dVar 0), (dC (.ty "tuple"))]))) (dRet (dC .non)) dNx)
    (dSeq (dSet 3 (dGet2 (dDisp [((dC (.str (PySem.Str.ofString "first"))), (dC (.str (PySem.Str.ofString "pair")))), ((dC (.str (PySem.Str.ofString "second"))), (dC (.str (PySem.Str.ofString "pair")))), ((dC (.str (PySem.Str.ofString "some"))), (dC (.str (PySem.Str.ofString "some"))))]) (dVar 2) (dC (.str (PySem.Str.ofString "case")))))
    (dSeq (dIf (dOrT (dTB (dOp gNe (dOp gIx (dVar 0) (dC (.int 0))) (dVar 3))) (dAndT (dTB (dOp gEq (dVar 3) (dC (.str (PySem.Str.ofString "case"))))) (dTB (dOp gNe (dOp gIx (dVar 0) (dC (.int 1))) (dVar 2))))) (dRet (dC .non)) dNx)
    (dSet 0 (dOp gIx (dVar 0) (dOp gAdd (dC (.int 1)) (dCall gInt [(dOp gNotIn (dVar 2) (dLst [(dC (.str (PySem.Str.ofString "first"))), (dC (.str (PySem.Str.ofString "some")))]))]))))))))
  (dRet (dVar 0)))
noncomputable def f__law_at : DF := mkF 4 2 d__law_at
abbrev s__law_term : Stmt := topS 49
theorem sc__law_term : FnScope ["tape", "paths", "other", "limit", "fitting", "row", "choice", "path", "first", "i"] ["tape", "paths", "other", "limit"] (defScope s__law_term) := ⟨rfl, rfl, rfl, by decide +kernel, rfl, by decide +kernel, by decide +kernel⟩
noncomputable def d__law_term (self : DF) : DS :=
  (dSeq (dSet 4 (dLc (dSeqI (dVar 1)) (dgName 5) [5] (dTB (dOp gEq (dOp gIx (dVar 5) (dC (.int 1))) (dVar 2))) (dOp gIx (dVar 5) (dC (.int 0)))))
  (dSeq (dSet 6 (dCall f__law_draw [(dVar 0), (dC (.int 8))]))
  (dSeq (dIf (dAndT (dT (dVar 4)) (dTB (dOp gGt (dVar 6) (dC (.int 2))))) (dSeq (dSet 7 (dCall f__law_pick [(dVar 0), (dVar 4)]))
    (dSeq (dIf (dAndT (dTB (dOp gEq (dOp gIx (dVar 2) (dC (.int 0))) (dC (.str (PySem.Str.ofString "integers"))))) (dTB (dOp gGt (dVar 6) (dC (.int 4))))) (dRet (dTup [(dOp gIx (dLst [(dC (.str (PySem.Str.ofString "plus"))), (dC (.str (PySem.Str.ofString "minus")))]) (dOp gMod (dCall gInt [(dVar 6)]) (dC (.int 2)))), (dVar 7), (dOp gSub (dCall f__law_draw [(dVar 0), (dOp gAdd (dOp gMul (dC (.int 2)) (dVar 3)) (dC (.int 1)))]) (dVar 3))])) dNx)
    (dRet (dTup [(dC (.str (PySem.Str.ofString "read"))), (dVar 7)])))) dNx)
  (dSeq (dIf (dAndT (dTB (dOp gEq (dOp gIx (dVar 2) (dC (.int 0))) (dC (.str (PySem.Str.ofString "pair"))))) (dTB (dOp gGt (dVar 6) (dC (.int 0))))) (dSeq (dSet 8 (dCall self [(dVar 0), (dVar 1), (dOp gIx (dVar 2) (dC (.int 1))), (dVar 3)]))
    (dRet (dTup [(dC (.str (PySem.Str.ofString "pair"))), (dVar 8), (dCall self [(dVar 0), (dVar 1), (dOp gIx (dVar 2) (dC (.int 2))), (dVar 3)])]))) dNx)
  (dSeq (dIf (dAndT (dTB (dOp gEq (dOp gIx (dVar 2) (dC (.int 0))) (dC (.str (PySem.Str.ofString "either"))))) (dTB (dOp gGt (dVar 6) (dC (.int 0))))) (dSeq (dSet 9 (dCall f__law_draw [(dVar 0), (dCall gLen [(dOp gIx (dVar 2) (dC (.int 1)))])]))
    (dRet (dTup [(dC (.str (PySem.Str.ofString "case"))), (dVar 9), (dCall self [(dVar 0), (dVar 1), (dOp gIx (dOp gIx (dVar 2) (dC (.int 1))) (dVar 9)), (dVar 3)])]))) dNx)
  (dSeq (dIf (dAndT (dTB (dOp gEq (dOp gIx (dVar 2) (dC (.int 0))) (dC (.str (PySem.Str.ofString "maybe"))))) (dTB (dOp gGt (dVar 6) (dC (.int 0))))) (dRet (dTup [(dC (.str (PySem.Str.ofString "some"))), (dCall self [(dVar 0), (dVar 1), (dOp gIx (dVar 2) (dC (.int 1))), (dVar 3)])])) dNx)
  (dRet (dTup [(dC (.str (PySem.Str.ofString "always"))), (dCall f__law_small [(dVar 0), (dVar 2), (dVar 3)])]))))))))
noncomputable def f__law_term : Nat → DF
  | 0 => fun _ _ => .bad
  | n + 1 => mkF 10 4 (d__law_term (f__law_term n))
abbrev s__law_gives : Stmt := topS 50
theorem sc__law_gives : FnScope ["term", "letter", "head", "cut", "parts", "one", "found"] ["term", "letter"] (defScope s__law_gives) := ⟨rfl, rfl, rfl, by decide +kernel, rfl, by decide +kernel, by decide +kernel⟩
noncomputable def d__law_gives (self : DF) : DS :=
  (dSeq (dSet 2 (dOp gIx (dVar 0) (dC (.int 0))))
  (dSeq (dIf (dTB (dOp gEq (dVar 2) (dC (.str (PySem.Str.ofString "always"))))) (dRet (dOp gIx (dVar 0) (dC (.int 1)))) dNx)
  (dSeq (dIf (dTB (dOp gIn (dVar 2) (dLst [(dC (.str (PySem.Str.ofString "pair"))), (dC (.str (PySem.Str.ofString "case"))), (dC (.str (PySem.Str.ofString "some")))]))) (dSeq (dSet 3 (dOp gAdd (dC (.int 1)) (dCall gInt [(dOp gEq (dVar 2) (dC (.str (PySem.Str.ofString "case"))))])))
    (dSeq (dSet 4 (dLc (dSeqI (dSl (dVar 0) (dPart (dVar 3)) dNoP)) (dgName 5) [5] dYes (dCall self [(dVar 5), (dVar 1)])))
    (dSeq (dIf (dTB (dOp gIn (dC .non) (dVar 4))) (dRet (dC .non)) dNx)
    (dRet (dOp gAdd (dSl (dVar 0) dNoP (dPart (dVar 3))) (dCall gTuple [(dVar 4)])))))) dNx)
  (dSeq (dSet 6 (dCall f__law_at [(dVar 1), (dOp gIx (dVar 0) (dC (.int 1)))]))
  (dSeq (dIf (dOrT (dTB (dOp gIsN (dVar 6) (dC .non))) (dTB (dOp gEq (dVar 2) (dC (.str (PySem.Str.ofString "read")))))) (dRet (dVar 6)) dNx)
  (dSeq (dIf (dTB (dOp gEq (dVar 2) (dC (.str (PySem.Str.ofString "plus"))))) (dRet (dOp gAdd (dVar 6) (dOp gIx (dVar 0) (dC (.int 2))))) dNx)
  (dRet (dOp gSub (dOp gIx (dVar 0) (dC (.int 2))) (dVar 6)))))))))
noncomputable def f__law_gives : Nat → DF
  | 0 => fun _ _ => .bad
  | n + 1 => mkF 7 2 (d__law_gives (f__law_gives n))
abbrev s__law_term_suits : Stmt := topS 51
theorem sc__law_term_suits : FnScope ["kind", "other", "term", "head", "found"] ["kind", "other", "term"] (defScope s__law_term_suits) := ⟨rfl, rfl, rfl, by decide +kernel, rfl, by decide +kernel, by decide +kernel⟩
noncomputable def d__law_term_suits (self : DF) : DS :=
  (dSeq (dIf (dOrT (dNotT (dT (dCall gIsi [(dVar 2), (dC (.ty "tuple"))]))) (dOrT (dTB (dOp gLt (dCall gLen [(dVar 2)]) (dC (.int 2)))) (dNotT (dT (dCall gIsi [(dOp gIx (dVar 2) (dC (.int 0))), (dC (.ty "str"))]))))) (dRet (dC (.bl false))) dNx)
  (dSeq (dSet 3 (dOp gIx (dVar 2) (dC (.int 0))))
  (dSeq (dIf (dTB (dOp gEq (dVar 3) (dC (.str (PySem.Str.ofString "always"))))) (dRet (dAnd (dOp gEq (dCall gLen [(dVar 2)]) (dC (.int 2))) (dCall (f__law_is_letter 4) [(dVar 1), (dOp gIx (dVar 2) (dC (.int 1)))]))) dNx)
  (dSeq (dIf (dTB (dOp gEq (dVar 3) (dC (.str (PySem.Str.ofString "pair"))))) (dSeq (dIf (dOrT (dTB (dOp gNe (dCall gLen [(dVar 2)]) (dC (.int 3)))) (dTB (dOp gNe (dOp gIx (dVar 1) (dC (.int 0))) (dC (.str (PySem.Str.ofString "pair")))))) (dRet (dC (.bl false))) dNx)
    (dRet (dAnd (dCall self [(dVar 0), (dOp gIx (dVar 1) (dC (.int 1))), (dOp gIx (dVar 2) (dC (.int 1)))]) (dCall self [(dVar 0), (dOp gIx (dVar 1) (dC (.int 2))), (dOp gIx (dVar 2) (dC (.int 2)))])))) dNx)
  (dSeq (dIf (dTB (dOp gEq (dVar 3) (dC (.str (PySem.Str.ofString "case"))))) (dSeq (dIf (dOrT (dTB (dOp gNe (dCall gLen [(dVar 2)]) (dC (.int 3)))) (dOrT (dTB (dOp gNe (dOp gIx (dVar 1) (dC (.int 0))) (dC (.str (PySem.Str.ofString "either"))))) (dNotT (dT (dCall f__law_whole [(dOp gIx (dVar 2) (dC (.int 1)))]))))) (dRet (dC (.bl false))) dNx)
    (dRet (dAnd (dOp gGe (dOp gIx (dVar 2) (dC (.int 1))) (dC (.int 0))) (dAnd (dOp gLt (dOp gIx (dVar 2) (dC (.int 1))) (dCall gLen [(dOp gIx (dVar 1) (dC (.int 1)))])) (dCall self [(dVar 0), (dOp gIx (dOp gIx (dVar 1) (dC (.int 1))) (dOp gIx (dVar 2) (dC (.int 1)))), (dOp gIx (dVar 2) (dC (.int 2)))]))))) dNx)
  (dSeq (dIf (dTB (dOp gEq (dVar 3) (dC (.str (PySem.Str.ofString "some"))))) (dRet (dAnd (dOp gEq (dCall gLen [(dVar 2)]) (dC (.int 2))) (dAnd (dOp gEq (dOp gIx (dVar 1) (dC (.int 0))) (dC (.str (PySem.Str.ofString "maybe")))) (dCall self [(dVar 0), (dOp gIx (dVar 1) (dC (.int 1))), (dOp gIx (dVar 2) (dC (.int 1)))])))) dNx)
  (dSeq (dSet 4 (dCall f__law_kind_at [(dVar 0), (dOp gIx (dVar 2) (dC (.int 1)))]))
  (dSeq (dIf (dTB (dOp gEq (dVar 3) (dC (.str (PySem.Str.ofString "read"))))) (dRet (dAnd (dOp gEq (dCall gLen [(dVar 2)]) (dC (.int 2))) (dAnd (dOp gNotN (dVar 4) (dC .non)) (dOp gEq (dVar 4) (dVar 1))))) dNx)
  (dSeq (dIf (dOrT (dTB (dOp gNotIn (dVar 3) (dLst [(dC (.str (PySem.Str.ofString "plus"))), (dC (.str (PySem.Str.ofString "minus")))]))) (dOrT (dTB (dOp gNe (dCall gLen [(dVar 2)]) (dC (.int 3)))) (dNotT (dT (dCall f__law_whole [(dOp gIx (dVar 2) (dC (.int 2)))]))))) (dRet (dC (.bl false))) dNx)
  (dRet (dAnd (dOp gNotN (dVar 4) (dC .non)) (dAnd (dOp gEq (dOp gIx (dVar 4) (dC (.int 0))) (dC (.str (PySem.Str.ofString "integers")))) (dOp gEq (dOp gIx (dVar 1) (dC (.int 0))) (dC (.str (PySem.Str.ofString "integers"))))))))))))))))
noncomputable def f__law_term_suits : Nat → DF
  | 0 => fun _ _ => .bad
  | n + 1 => mkF 5 3 (d__law_term_suits (f__law_term_suits n))
abbrev s__law_turned : Stmt := topS 52
theorem sc__law_turned : FnScope ["kind", "one"] ["kind"] (defScope s__law_turned) := ⟨rfl, rfl, rfl, by decide +kernel, rfl, by decide +kernel, by decide +kernel⟩
noncomputable def d__law_turned (self : DF) : DS :=
  (dSeq (dIf (dTB (dOp gEq (dOp gIx (dVar 0) (dC (.int 0))) (dC (.str (PySem.Str.ofString "names"))))) (dRet (dTup [(dC (.str (PySem.Str.ofString "names"))), (dUn gTupRev (dOp gIx (dVar 0) (dC (.int 1))))])) dNx)
  (dSeq (dIf (dTB (dOp gEq (dOp gIx (dVar 0) (dC (.int 0))) (dC (.str (PySem.Str.ofString "pair"))))) (dRet (dTup [(dC (.str (PySem.Str.ofString "pair"))), (dCall self [(dOp gIx (dVar 0) (dC (.int 1)))]), (dCall self [(dOp gIx (dVar 0) (dC (.int 2)))])])) dNx)
  (dSeq (dIf (dTB (dOp gEq (dOp gIx (dVar 0) (dC (.int 0))) (dC (.str (PySem.Str.ofString "either"))))) (dRet (dTup [(dC (.str (PySem.Str.ofString "either"))), (dCall gTuple [(dLc (dSeqI (dOp gIx (dVar 0) (dC (.int 1)))) (dgName 1) [1] dYes (dCall self [(dVar 1)]))])])) dNx)
  (dSeq (dIf (dTB (dOp gEq (dOp gIx (dVar 0) (dC (.int 0))) (dC (.str (PySem.Str.ofString "maybe"))))) (dRet (dTup [(dC (.str (PySem.Str.ofString "maybe"))), (dCall self [(dOp gIx (dVar 0) (dC (.int 1)))])])) dNx)
  (dRet (dVar 0))))))
noncomputable def f__law_turned : Nat → DF
  | 0 => fun _ _ => .bad
  | n + 1 => mkF 2 1 (d__law_turned (f__law_turned n))
abbrev s__law_other_kind : Stmt := topS 53
theorem sc__law_other_kind : FnScope ["tape", "kind", "choice", "turned", "drawn"] ["tape", "kind"] (defScope s__law_other_kind) := ⟨rfl, rfl, rfl, by decide +kernel, rfl, by decide +kernel, by decide +kernel⟩
noncomputable def d__law_other_kind : DS :=
  (dSeq (dSet 2 (dCall f__law_draw [(dVar 0), (dC (.int 4))]))
  (dSeq (dSet 3 (dCall (f__law_turned 4) [(dVar 1)]))
  (dSeq (dIf (dAndT (dTB (dOp gLt (dVar 2) (dC (.int 2)))) (dTB (dOp gNe (dVar 3) (dVar 1)))) (dRet (dVar 3)) dNx)
  (dSeq (dIf (dAndT (dTB (dOp gEq (dVar 2) (dC (.int 2)))) (dTB (dOp gIn (dOp gIx (dVar 1) (dC (.int 0))) (dLst [(dC (.str (PySem.Str.ofString "names"))), (dC (.str (PySem.Str.ofString "integers")))])))) (dRet (dTup [(dC (.str (PySem.Str.ofString "maybe"))), (dVar 1)])) dNx)
  (dSeq (dSet 4 (dCall (f__law_kind 4) [(dVar 0), (dC (.int 2)), (dC (.int 4))]))
  (dSeq (dIf (dTB (dOp gEq (dVar 4) (dVar 1))) (dRet (dOp gIx (dLst [(dTup [(dC (.str (PySem.Str.ofString "names"))), (dTup [(dC (.str (PySem.Str.ofString "x")))])]), (dTup [(dC (.str (PySem.Str.ofString "integers")))])]) (dCall gInt [(dOp gEq (dOp gIx (dVar 1) (dC (.int 0))) (dC (.str (PySem.Str.ofString "names"))))]))) dNx)
  (dRet (dVar 4))))))))
noncomputable def f__law_other_kind : DF := mkF 5 2 d__law_other_kind
abbrev s__law_wild_leaf : Stmt := topS 54
theorem sc__law_wild_leaf : FnScope ["tape", "kinds", "choice", "path", "k"] ["tape", "kinds"] (defScope s__law_wild_leaf) := ⟨rfl, rfl, rfl, by decide +kernel, rfl, by decide +kernel, by decide +kernel⟩
noncomputable def d__law_wild_leaf : DS :=
  (dSeq (dSet 2 (dCall f__law_draw [(dVar 0), (dC (.int 4))]))
  (dSeq (dIf (dTB (dOp gEq (dVar 2) (dC (.int 0)))) (dRet (dTup [(dC (.str (PySem.Str.ofString "always"))), (dCall f__law_small [(dVar 0), (dCall f__law_pick [(dVar 0), (dVar 1)]), (dC (.int 20))])])) dNx)
  (dSeq (dSet 3 (dCall gTuple [(dLc (dRng1 (dCall f__law_draw [(dVar 0), (dC (.int 4))])) (dgName 4) [4] dYes (dCall f__law_pick [(dVar 0), (dLst [(dC (.str (PySem.Str.ofString "first"))), (dC (.str (PySem.Str.ofString "second"))), (dC (.str (PySem.Str.ofString "some"))), (dC (.int 0)), (dC (.int 1)), (dC (.int 2))])]))]))
  (dSeq (dIf (dTB (dOp gEq (dVar 2) (dC (.int 1)))) (dRet (dTup [(dC (.str (PySem.Str.ofString "read"))), (dVar 3)])) dNx)
  (dRet (dTup [(dOp gIx (dLst [(dC (.str (PySem.Str.ofString "plus"))), (dC (.str (PySem.Str.ofString "minus")))]) (dOp gSub (dVar 2) (dC (.int 2)))), (dVar 3), (dOp gSub (dCall f__law_draw [(dVar 0), (dC (.int 41))]) (dC (.int 20)))]))))))
noncomputable def f__law_wild_leaf : DF := mkF 5 2 d__law_wild_leaf
abbrev s__law_spoilt : Stmt := topS 55
theorem sc__law_spoilt : FnScope ["tape", "term", "kinds", "head", "deeper", "leaf", "choice"] ["tape", "term", "kinds"] (defScope s__law_spoilt) := ⟨rfl, rfl, rfl, by decide +kernel, rfl, by decide +kernel, by decide +kernel⟩
noncomputable def d__law_spoilt (self : DF) : DS :=
  (dSeq (dSet 3 (dOp gIx (dVar 1) (dC (.int 0))))
  (dSeq (dSet 4 (dOp gGt (dCall f__law_draw [(dVar 0), (dC (.int 3))]) (dC (.int 0))))
  (dSeq (dIf (dAndT (dTB (dOp gEq (dVar 3) (dC (.str (PySem.Str.ofString "pair"))))) (dT (dVar 4))) (dSeq (dIf (dTB (dOp gEq (dCall f__law_draw [(dVar 0), (dC (.int 2))]) (dC (.int 0)))) (dRet (dTup [(dC (.str (PySem.Str.ofString "pair"))), (dCall self [(dVar 0), (dOp gIx (dVar 1) (dC (.int 1))), (dVar 2)]), (dOp gIx (dVar 1) (dC (.int 2)))])) dNx)
    (dRet (dTup [(dC (.str (PySem.Str.ofString "pair"))), (dOp gIx (dVar 1) (dC (.int 1))), (dCall self [(dVar 0), (dOp gIx (dVar 1) (dC (.int 2))), (dVar 2)])]))) dNx)
  (dSeq (dIf (dAndT (dTB (dOp gEq (dVar 3) (dC (.str (PySem.Str.ofString "case"))))) (dT (dVar 4))) (dSeq (dIf (dTB (dOp gEq (dCall f__law_draw [(dVar 0), (dC (.int 3))]) (dC (.int 0)))) (dRet (dTup [(dC (.str (PySem.Str.ofString "case"))), (dCall f__law_draw [(dVar 0), (dC (.int 3))]), (dOp gIx (dVar 1) (dC (.int 2)))])) dNx)
    (dRet (dTup [(dC (.str (PySem.Str.ofString "case"))), (dOp gIx (dVar 1) (dC (.int 1))), (dCall self [(dVar 0), (dOp gIx (dVar 1) (dC (.int 2))), (dVar 2)])]))) dNx)
  (dSeq (dIf (dAndT (dTB (dOp gEq (dVar 3) (dC (.str (PySem.Str.ofString "some"))))) (dT (dVar 4))) (dRet (dTup [(dC (.str (PySem.Str.ofString "some"))), (dCall self [(dVar 0), (dOp gIx (dVar 1) (dC (.int 1))), (dVar 2)])])) dNx)
  (dSeq (dSet 5 (dCall f__law_wild_leaf [(dVar 0), (dVar 2)]))
  (dSeq (dSet 6 (dCall f__law_draw [(dVar 0), (dC (.int 4))]))
  (dSeq (dIf (dAndT (dTB (dOp gIn (dVar 3) (dLst [(dC (.str (PySem.Str.ofString "pair"))), (dC (.str (PySem.Str.ofString "case"))), (dC (.str (PySem.Str.ofString "some")))]))) (dTB (dOp gEq (dVar 6) (dC (.int 0))))) (dRet (dTup [(dC (.str (PySem.Str.ofString "some"))), (dVar 5)])) dNx)
  (dSeq (dIf (dAndT (dTB (dOp gIn (dVar 3) (dLst [(dC (.str (PySem.Str.ofString "pair"))), (dC (.str (PySem.Str.ofString "case"))), (dC (.str (PySem.Str.ofString "some")))]))) (dTB (dOp gEq (dVar 6) (dC (.int 1))))) (dRet (dTup [(dC (.str (PySem.Str.ofString "case"))), (dCall f__law_draw [(dVar 0), (dC (.int 3))]), (dVar 5)])) dNx)
  (dSeq (dIf (dAndT (dTB (dOp gEq (dVar 3) (dC (.str (PySem.Str.ofString "pair"))))) (dTB (dOp gEq (dVar 6) (dC (.int 2))))) (dRet (dTup [(dC (.str (PySem.Str.ofString "pair"))), (dVar 5), (dCall f__law_wild_leaf [(dVar 0), (dVar 2)])])) dNx)
  (dRet (dVar 5))))))))))))
noncomputable def f__law_spoilt : Nat → DF
  | 0 => fun _ _ => .bad
  | n + 1 => mkF 7 3 (d__law_spoilt (f__law_spoilt n))
abbrev s__law_checked : Stmt := topS 56
theorem sc__law_checked : FnScope ["kind", "other", "term", "wrong"] ["kind", "other", "term"] (defScope s__law_checked) := ⟨rfl, rfl, rfl, by decide +kernel, rfl, by decide +kernel, by decide +kernel⟩
noncomputable def d__law_checked : DS :=
  (dTry errNs 3 (dRet (dTup [(dC (.str (PySem.Str.ofString "told"))), (dCall f_check_term [(dVar 0), (dVar 1), (dVar 2)])])) (fun a cn => (dRet (dTup [(dC (.str (PySem.Str.ofString "refused"))), (dCall (f__law_error a cn) [(dVar 3)])]))))
noncomputable def f__law_checked : DF := mkF 4 3 d__law_checked
abbrev s_law : Stmt := topS 57
theorem sc_law : FnScope ["script", "tape", "kind", "other", "paths", "early", "turn", "term", "letters", "k", "letter", "wild", "asked", "row", "due"] ["script"] (defScope s_law) := ⟨rfl, rfl, rfl, by decide +kernel, rfl, by decide +kernel, by decide +kernel⟩
noncomputable def d_law : DS :=
  (dSeq (dSet 1 (dCall f__law_tape [(dVar 0)]))
  (dSeq (dSet 2 (dCall f__law_any_kind [(dVar 1)]))
  (dSeq (dSet 3 (dCall f__law_any_kind [(dVar 1)]))
  (dSeq (dSet 4 (dCall (f__law_paths 4) [(dVar 2)]))
  (dSeq (dSet 5 (dOp gEq (dCall f__law_draw [(dVar 1), (dC (.int 2))]) (dC (.int 0))))
  (dSeq (dFor (dRng1 (dC (.int 3))) (dgName 6) (dSeq (dSet 7 (dCall (f__law_term 4) [(dVar 1), (dVar 4), (dVar 3), (dC (.int 20))]))
    (dSeq (dSet 8 (dLc (dRng1 (dC (.int 2))) (dgName 9) [9] dYes (dCall (f__law_letter 4) [(dVar 1), (dVar 2), (dTup [(dC (.int 20)), (dC (.int 12))])])))
    (dSeq (dIf (dAndT (dT (dVar 5)) (dNotT (dT (dCall (f__law_same 4) [(dCall f__law_checked [(dVar 2), (dVar 3), (dVar 7)]), (dTup [(dC (.str (PySem.Str.ofString "told"))), (dC .non)])])))) (dRet (dC (.bl false))) dNx)
    (dSeq (dFor (dSeqI (dOp gAdd (dVar 8) (dSl (dVar 8) dNoP (dPart (dC (.int 1)))))) (dgName 10) (dIf (dNotT (dT (dCall (f__law_same 4) [(dCall (f_gives 4) [(dVar 7), (dVar 10)]), (dCall (f__law_gives 4) [(dVar 7), (dVar 10)])]))) (dRet (dC (.bl false))) dNx))
    (dSeq (dSet 11 (dCall (f__law_spoilt 4) [(dVar 1), (dVar 7), (dLst [(dVar 2), (dVar 3)])]))
    (dSeq (dSet 12 (dLst [(dTup [(dVar 2), (dVar 3), (dVar 7)]), (dTup [(dVar 2), (dVar 3), (dVar 11)]), (dTup [(dCall f__law_other_kind [(dVar 1), (dVar 2)]), (dVar 3), (dVar 7)])]))
    (dSeq (dSet 12 (dOp gAdd (dVar 12) (dLst [(dTup [(dVar 2), (dCall f__law_other_kind [(dVar 1), (dVar 3)]), (dVar 7)]), (dTup [(dVar 2), (dVar 3), (dVar 7)])])))
    (dFor (dSeqI (dVar 12)) (dgName 13) (dSeq (dSet 14 (dTup [(dC (.str (PySem.Str.ofString "told"))), (dC .non)]))
      (dSeq (dIf (dNotT (dT (dCall (f__law_term_suits 4) [(dOp gIx (dVar 13) (dC (.int 0))), (dOp gIx (dVar 13) (dC (.int 1))), (dOp gIx (dVar 13) (dC (.int 2)))]))) (dSet 14 (dTup [(dC (.str (PySem.Str.ofString "refused"))), (dC (.int 2))])) dNx)
      (dIf (dNotT (dT (dCall (f__law_same 4) [(dCall f__law_checked [(dOp gIx (dVar 13) (dC (.int 0))), (dOp gIx (dVar 13) (dC (.int 1))), (dOp gIx (dVar 13) (dC (.int 2)))]), (dVar 14)]))) (dRet (dC (.bl false))) dNx))))))))))))
  (dRet (dC (.bl true)))))))))
noncomputable def f_law : DF := mkF 15 1 d_law
end G
set_option maxHeartbeats 4000000
namespace G
open PySem L2 Fs
/-! the number of an error -/
theorem get_end {S : Store} {c : Cell} : (S ++ [c])[S.length]? = some c := by
  rw [List.getElem?_append_right (Nat.le_refl _), Nat.sub_self]
  rfl
theorem get_old {S cs : Store} {n : Nat} {c : Cell} (h : S[n]? = some c) : (S ++ cs)[n]? = some c := by
  rw [List.getElem?_append_left (List.getElem?_eq_some_iff.mp h).1]
  exact h
abbrev eqn (cn : Str) (x : String) : W := .bl (decide (cn = (PySem.Str.ofString x)))
/-- flags = flags + [..] -/
theorem more3 {a n : Nat} {cn : Str} {S : Store} {ws : List W} {b1 b2 b3 : Bool} (h : S[n]? = some (.lst ws)) (hl : ws.length ≤ 20) :
    dSet 1 (dOp gAdd (dVar 1) (dLst [dIsE 0 a b1, dIsE 0 a b2, dIsE 0 a b3])) [some (.adr a), some (.loc n), none] S = .nx [some (.adr a), some (.loc (S.length + 1)), none] (S ++ [.lst [.bl b1, .bl b2, .bl b3], .lst (ws ++ [.bl b1, .bl b2, .bl b3])]) := by
  have e : dOp gAdd (dVar 1) (dLst [dIsE 0 a b1, dIsE 0 a b2, dIsE 0 a b3]) [some (.adr a), some (.loc n), none] S = .ok (.loc (S.length + 1)) (S ++ [.lst [.bl b1, .bl b2, .bl b3], .lst (ws ++ [.bl b1, .bl b2, .bl b3])]) := by
    rw [op_ev, var1_ev, opK_ok, lst_ev, args_ev, isE0, argK_ok, args_ev, isE0, argK_ok, args_ev, isE0, argK_ok, args_nil, argK2_ok, argK2_ok, argK2_ok, lstK_ok (by simp), opK2_ok]
    rw [add_ll (get_old h) get_end (by simp; omega), List.length_append]
    simp
  rw [set_ev, e, setK_ok, set1_ev]
theorem more2 {a n : Nat} {cn : Str} {S : Store} {ws : List W} {b1 b2 : Bool} (h : S[n]? = some (.lst ws)) (hl : ws.length ≤ 20) :
    dSet 1 (dOp gAdd (dVar 1) (dLst [dIsE 0 a b1, dIsE 0 a b2])) [some (.adr a), some (.loc n), none] S = .nx [some (.adr a), some (.loc (S.length + 1)), none] (S ++ [.lst [.bl b1, .bl b2], .lst (ws ++ [.bl b1, .bl b2])]) := by
  have e : dOp gAdd (dVar 1) (dLst [dIsE 0 a b1, dIsE 0 a b2]) [some (.adr a), some (.loc n), none] S = .ok (.loc (S.length + 1)) (S ++ [.lst [.bl b1, .bl b2], .lst (ws ++ [.bl b1, .bl b2])]) := by
    rw [op_ev, var1_ev, opK_ok, lst_ev, args_ev, isE0, argK_ok, args_ev, isE0, argK_ok, args_nil, argK2_ok, argK2_ok, lstK_ok (by simp), opK2_ok]
    rw [add_ll (get_old h) get_end (by simp; omega), List.length_append]
    simp
  rw [set_ev, e, setK_ok, set1_ev]
theorem sqK_nx {n : DS} {ls : Lo} {S : Store} : sqK n (.nx ls S) = n ls S := rfl
def fl3 (cn : Str) (x y z : String) : List W := [eqn cn x, eqn cn y, eqn cn z]
def flE (cn : Str) : List W := (((fl3 cn "BadLetter" "BadCondition" "BadTerm" ++ fl3 cn "OtherKinds" "Unread" "NotPlain") ++ fl3 cn "NotSingle" "TooMany" "UnknownName") ++ fl3 cn "Circle" "TooLarge" "WrongUse") ++ [eqn cn "InUse", eqn cn "NothingToUndo"]
/-- the lists that are made on the way -/
def errC (cn : Str) : List Cell := [.lst (fl3 cn "BadLetter" "BadCondition" "BadTerm"),
  .lst (fl3 cn "OtherKinds" "Unread" "NotPlain"), .lst (fl3 cn "BadLetter" "BadCondition" "BadTerm" ++ fl3 cn "OtherKinds" "Unread" "NotPlain"),
  .lst (fl3 cn "NotSingle" "TooMany" "UnknownName"), .lst ((fl3 cn "BadLetter" "BadCondition" "BadTerm" ++ fl3 cn "OtherKinds" "Unread" "NotPlain") ++ fl3 cn "NotSingle" "TooMany" "UnknownName"),
  .lst (fl3 cn "Circle" "TooLarge" "WrongUse"), .lst (((fl3 cn "BadLetter" "BadCondition" "BadTerm" ++ fl3 cn "OtherKinds" "Unread" "NotPlain") ++ fl3 cn "NotSingle" "TooMany" "UnknownName") ++ fl3 cn "Circle" "TooLarge" "WrongUse"),
  .lst [eqn cn "InUse", eqn cn "NothingToUndo"], .lst (flE cn)]
def errNo (cn : Str) : Nat := (posFl (.bl true) (flE cn)).getD 99
theorem errNo_all : ∀ cn ∈ errNs, posFl (.bl true) (flE cn) = some (errNo cn) ∧ ((flE cn).countP fun z => eqFl z (.bl true)) = 1 := by decide +kernel
theorem flE_flat {cn : Str} : allFlat (flE cn) = true := rfl
theorem lc_filter {vs : List Nat} {j : Nat} {tt : DT} {te : DE} {ls : Lo} {S1 : Store} {ws : List W} {st : Store → Prop} {p : W → Bool} (hst : ∀ acc, st (S1 ++ [.lst acc])) (hl : ws.length < 100000)
    (ht : ∀ w S, w ∈ ws → tt ((wipeW ls vs).set j (some w)) S = .ok (p w) S) (he : ∀ w S, w ∈ ws → te ((wipeW ls vs).set j (some w)) S = .ok w S) :
    lcK (dgName j) vs tt te ls (.ok ⟨ws, st⟩ S1) = .ok (.loc S1.length) (S1 ++ [.lst (ws.filter p)]) := by
  have key : ∀ (us : List W) (acc : List W), (∀ w ∈ us, w ∈ ws) → acc.length + us.length < 100000 → dLcLoop st (dgName j) tt te S1.length (wipeW ls vs) us (S1 ++ [.lst acc]) = .ok (.loc S1.length) (S1 ++ [.lst (acc ++ us.filter p)]) := by
    intro us
    induction us with
    | nil =>
      intro acc _ _
      rw [lcLoop_nil (hst _), List.filter_nil, List.append_nil]
    | cons u us ih =>
      intro acc hm hz
      have hu := hm u List.mem_cons_self
      have hm' : ∀ w ∈ us, w ∈ ws := fun w hw => hm w (List.mem_cons_of_mem _ hw)
      rw [List.length_cons] at hz
      cases e : p u with
      | true =>
        rw [lcLoop_cons (hst _) rfl (by rw [ht u _ hu, e]) (he u _ hu) (get_mid (cs := [])) (Nat.lt_of_lt_of_le (m := 100000) (by omega) (by decide)), set_mid, ih _ hm' (by rw [List.length_append, List.length_singleton]; omega), List.filter_cons_of_pos e, List.append_assoc]
        rfl
      | false =>
        rw [lcLoop_skip (hst _) rfl (by rw [ht u _ hu, e]), ih _ hm' (by omega), List.filter_cons_of_neg (by rw [e]; exact Bool.false_ne_true)]
  have := key ws [] (fun _ h => h) (by simpa using hl)
  rw [List.nil_append] at this
  exact this
def flT (cn : Str) : List W := (flE cn).filter fun z => eqFl z (.bl true)
/-- the store behind the asking -/
def errD (cn : Str) : List Cell := errC cn ++ [.lst (flT cn)]
theorem flE_bl {cn : Str} {w : W} (h : w ∈ flE cn) : ∃ b, w = .bl b := by
  have : ∀ l : List W, (∀ w ∈ l, ∃ b, w = .bl b) ↔ l.all (fun w => match w with | .bl _ => true | _ => false) = true := by
    intro l
    rw [List.all_eq_true]
    constructor
    · intro k w hw
      obtain ⟨b, rfl⟩ := k w hw
      rfl
    · intro k w hw
      have := k w hw
      cases w <;> first | exact ⟨_, rfl⟩ | exact absurd this Bool.false_ne_true
  exact (this (flE cn)).mpr rfl w h
theorem err_ev {a : Nat} {cn : Str} {S : Store} (hc : cn ∈ errNs) : f__law_error a cn [.adr a] S = .ok (.int (errNo cn)) (S ++ errD cn) := by
  obtain ⟨h1, h2⟩ := errNo_all cn hc
  have e0 : dSet 1 (dLst [(dIsE 0 a (decide (cn = "BadLetter"))), (dIsE 0 a (decide (cn = "BadCondition"))), (dIsE 0 a (decide (cn = "BadTerm")))]) [some (.adr a), none, none] S = .nx [some (.adr a), some (.loc S.length), none] (S ++ [.lst (fl3 cn "BadLetter" "BadCondition" "BadTerm")]) := by
    rw [set_ev, lst_ev, args_ev, isE0, argK_ok, args_ev, isE0, argK_ok, args_ev, isE0, argK_ok, args_nil, argK2_ok, argK2_ok, argK2_ok, lstK_ok (by simp), setK_ok]
    rfl
  have key : d__law_error a cn [some (.adr a), none, none] S = .rt (.int (errNo cn)) (S ++ errD cn) := by
    unfold d__law_error
    rw [sq_ev, e0, sqK_nx]
    rw [sq_ev, more3 (cn := cn) get_end (by simp [fl3]), sqK_nx]
    rw [sq_ev, more3 (cn := cn) (ws := fl3 cn "BadLetter" "BadCondition" "BadTerm" ++ fl3 cn "OtherKinds" "Unread" "NotPlain") (by
      rw [List.getElem?_append_right (by simp)]
      simp [fl3]) (by simp [fl3]), sqK_nx]
    rw [sq_ev, more3 (cn := cn) (ws := (fl3 cn "BadLetter" "BadCondition" "BadTerm" ++ fl3 cn "OtherKinds" "Unread" "NotPlain") ++ fl3 cn "NotSingle" "TooMany" "UnknownName") (by
      rw [List.getElem?_append_right (by simp)]
      simp [fl3]) (by simp [fl3]), sqK_nx]
    rw [sq_ev, more2 (cn := cn) (ws := ((fl3 cn "BadLetter" "BadCondition" "BadTerm" ++ fl3 cn "OtherKinds" "Unread" "NotPlain") ++ fl3 cn "NotSingle" "TooMany" "UnknownName") ++ fl3 cn "Circle" "TooLarge" "WrongUse") (by
      rw [List.getElem?_append_right (by simp)]
      simp [fl3]) (by simp [fl3]), sqK_nx]
    have eS : ∀ n : Nat, n = S.length + 8 → (S ++ errC cn)[n]? = some (.lst (flE cn)) := fun n hn => by
      rw [hn, List.getElem?_append_right (by simp)]
      simp [errC]
    have lE : ∀ n : Nat, n = S.length + 8 → lstW (S ++ errC cn) (.loc n) = some (flE cn) := fun n hn => lst_loc (eS n hn)
    generalize hn : (S ++ [Cell.lst (fl3 cn "BadLetter" "BadCondition" "BadTerm")] ++ _ ++ _ ++ _).length + 1 = n
    have hn' : n = S.length + 8 := by
      rw [← hn]
      simp
    rw [show (S ++ [Cell.lst (fl3 cn "BadLetter" "BadCondition" "BadTerm")] ++ _ ++ _ ++ _ ++ _) = S ++ errC cn by simp [errC, flE, fl3]]
    have one : (flT cn).length = 1 := by
      rw [← h2, List.countP_eq_length_filter]
      rfl
    have turn : ∀ (w : W) (S2 : Store), w ∈ flE cn → ∃ b, w = .bl b ∧ eqFl w (.bl true) = b := fun w S2 hw => by
      obtain ⟨b, rfl⟩ := flE_bl hw
      exact ⟨b, rfl, by cases b <;> rfl⟩
    have lc := lc_filter (S1 := S ++ errC cn) (ls := [some (.adr a), some (.loc n), none]) (vs := [2]) (j := 2) (tt := dT (dVar 2)) (te := dVar 2) (ws := flE cn) (st := stayOf (.loc n) (flE cn)) (p := fun z => eqFl z (.bl true))
      (fun acc => by
        show ((S ++ errC cn) ++ [Cell.lst acc])[n]? = some (Cell.lst (flE cn))
        exact get_old (eS n hn'))
      (by simp [flE, fl3])
      (fun w S2 hw => by
        obtain ⟨b, rfl, e⟩ := turn w S2 hw
        rw [e]
        rfl)
      (fun w S2 hw => rfl)
    have si : dLstI (dVar 1) [some (.adr a), some (.loc n), none] (S ++ errC cn) = .ok ⟨flE cn, stayOf (.loc n) (flE cn)⟩ (S ++ errC cn) := by
      unfold dLstI
      rw [var1_ev]
      dsimp only [Res.bind]
      rw [lE n hn']
    have c1 : dCall gLen [dLc (dLstI (dVar 1)) (dgName 2) [2] (dT (dVar 2)) (dVar 2)] [some (.adr a), some (.loc n), none] (S ++ errC cn) = .ok (.int 1) (S ++ errD cn) := by
      rw [call_ev, args_ev, lc_ev, si, lc, argK_ok, args_nil, argK2_ok, callK_ok, len_loc get_end]
      show Res.ok (W.int ((flT cn).length : Int)) _ = _
      rw [one]
      unfold errD
      rw [← List.append_assoc]
      rfl
    have lD : lstW (S ++ errD cn) (.loc n) = some (flE cn) := by
      unfold errD
      rw [← List.append_assoc]
      exact lst_loc (get_old (eS n hn'))
    have c2 : dLM gLIx (dVar 1) (dC (.bl true)) [some (.adr a), some (.loc n), none] (S ++ errD cn) = .ok (.int (errNo cn)) (S ++ errD cn) := by
      rw [lm_ok var1_ev lD c_ev, lix_ok lD rfl flE_flat h1]
    rw [sq_ev, if_ev, or_ev, nt_ev, t_ev, isE0, tK_ok]
    show sqK _ (ifK _ _ _ (dTB _ _ _)) = _
    rw [tb_ev, op_ev, c1, opK_ok, c_ev, opK2_ok, ne_ii, tbK_ok]
    show sqK _ (dNx _ _) = _
    rw [nx_ev, sqK_nx, rt_ev, c2, rtK_ok]
  unfold f__law_error
  rw [mk1_ev]
  show mkK (d__law_error a cn [some (.adr a), none, none] S) = _
  rw [key]
  rfl
end G
set_option maxHeartbeats 4000000
namespace G
open PySem L2 Fs
/-- the call of _law_error with the caught error hangs on its class alone -/
theorem err_call {i a : Nat} {cn : Str} {ls : Lo} {S : Store} (hc : cn ∈ errNs) (hi : i < ls.length) : dCall (f__law_error a cn) [dVar i] (ls.set i (some (.adr a))) S = .ok (.int (errNo cn)) (S ++ errD cn) := by
  have e : dVar i (ls.set i (some (.adr a))) S = .ok (.adr a) S := by
    unfold dVar
    rw [List.getElem?_set_self hi]
  rw [call_ev, args_ev, e, argK_ok, args_nil, argK2_ok, callK_ok, err_ev hc]
theorem err_call' {i a : Nat} {cn : Str} {ls : Lo} {S : Store} (hi : ¬ i < ls.length) : dCall (f__law_error a cn) [dVar i] (ls.set i (some (.adr a))) S = .bad := by
  have e : dVar i (ls.set i (some (.adr a))) S = .bad := by
    unfold dVar
    rw [List.getElem?_eq_none (by rw [List.length_set]; omega)]
  rw [call_ev, args_ev, e]
  rfl
theorem ret_told {i : Nat} {cn : Str} {ls : Lo} {S : Store} {h : Str} (a : Nat) (hc : cn ∈ errNs) (hi : i < ls.length) : unb i (dRet (dTup [dC (.str h), dCall (f__law_error a cn) [dVar i]]) (ls.set i (some (.adr a))) S) = .rt (.tup [.str h, .int (errNo cn)]) (S ++ errD cn) := by
  rw [rt_ev, tup_ev, args_ev, c_ev, argK_ok, args_ev, err_call hc hi, argK_ok, args_nil, argK2_ok, argK2_ok, tupK_ok (by simp)]
  rfl
theorem par__law_checked (a : Nat) (cn : Str) (ls : Lo) (S : Store) (hc : cn ∈ errNs) :
    unb 3 (dRet (dTup [dC (.str (PySem.Str.ofString "refused")), dCall (f__law_error a cn) [dVar 3]]) (ls.set 3 (some (.adr a))) S) = unb 3 (dRet (dTup [dC (.str (PySem.Str.ofString "refused")), dCall (f__law_error 0 cn) [dVar 3]]) (ls.set 3 (some (.adr 0))) S) := by
  by_cases hi : 3 < ls.length
  · rw [ret_told a hc hi, ret_told 0 hc hi]
  · rw [rt_ev, rt_ev, tup_ev, tup_ev, args_ev, args_ev, c_ev, c_ev, argK_ok, argK_ok, args_ev, args_ev, err_call' hi, err_call' hi]
    rfl
end G
set_option maxHeartbeats 4000000
namespace G
open PySem L2 Fs
variable [Tb : Tabs]
structure Facts (K : PySem.W.Frag) (mg : Str → Option Value) : Prop where
  d__is_number : DefAt K mg "_is_number" s__is_number
  d__is_form : DefAt K mg "_is_form" s__is_form
  d__is_case : DefAt K mg "_is_case" s__is_case
  d_is_letter : DefAt K mg "is_letter" s_is_letter
  d_steps_from : DefAt K mg "steps_from" s_steps_from
  d_kind_at : DefAt K mg "kind_at" s_kind_at
  d__parts_of : DefAt K mg "_parts_of" s__parts_of
  d_part_at : DefAt K mg "part_at" s_part_at
  d__fits : DefAt K mg "_fits" s__fits
  d_check_term : DefAt K mg "check_term" s_check_term
  d_gives : DefAt K mg "gives" s_gives
  d__law_tape : DefAt K mg "_law_tape" s__law_tape
  d__law_draw : DefAt K mg "_law_draw" s__law_draw
  d__law_whole : DefAt K mg "_law_whole" s__law_whole
  d__law_names : DefAt K mg "_law_names" s__law_names
  d__law_kinds : DefAt K mg "_law_kinds" s__law_kinds
  d__law_kind : DefAt K mg "_law_kind" s__law_kind
  d__law_any_kind : DefAt K mg "_law_any_kind" s__law_any_kind
  d__law_integer : DefAt K mg "_law_integer" s__law_integer
  d__law_letter : DefAt K mg "_law_letter" s__law_letter
  d__law_is_letter : DefAt K mg "_law_is_letter" s__law_is_letter
  d__law_same : DefAt K mg "_law_same" s__law_same
  d__law_pick : DefAt K mg "_law_pick" s__law_pick
  d__law_error : DefAt K mg "_law_error" s__law_error
  d__law_over : DefAt K mg "_law_over" s__law_over
  d__law_small : DefAt K mg "_law_small" s__law_small
  d__law_paths : DefAt K mg "_law_paths" s__law_paths
  d__law_kind_at : DefAt K mg "_law_kind_at" s__law_kind_at
  d__law_at : DefAt K mg "_law_at" s__law_at
  d__law_term : DefAt K mg "_law_term" s__law_term
  d__law_gives : DefAt K mg "_law_gives" s__law_gives
  d__law_term_suits : DefAt K mg "_law_term_suits" s__law_term_suits
  d__law_turned : DefAt K mg "_law_turned" s__law_turned
  d__law_other_kind : DefAt K mg "_law_other_kind" s__law_other_kind
  d__law_wild_leaf : DefAt K mg "_law_wild_leaf" s__law_wild_leaf
  d__law_spoilt : DefAt K mg "_law_spoilt" s__law_spoilt
  d__law_checked : DefAt K mg "_law_checked" s__law_checked
  d_law : DefAt K mg "law" s_law
  m_ValueError : mg "ValueError" = none
  m_abs : mg "abs" = none
  m_bool : mg "bool" = none
  m_dict : mg "dict" = none
  m_enumerate : mg "enumerate" = none
  m_int : mg "int" = none
  m_isinstance : mg "isinstance" = none
  m_len : mg "len" = none
  m_list : mg "list" = none
  m_max : mg "max" = none
  m_min : mg "min" = none
  m_range : mg "range" = none
  m_reversed : mg "reversed" = none
  m_str : mg "str" = none
  m_sum : mg "sum" = none
  m_tuple : mg "tuple" = none
  r_BadTerm : Err1 K mg "BadTerm"
  c_INTEGERS : CstT K mg "INTEGERS" [(PySem.Str.ofString "integers")]
  errs : ErrT K mg errNs "GuardError"
section
variable {P : Program} {w : World} {K : PySem.W.Frag} {mg : Str → Option Value}
theorem ok__is_number (T : Facts K mg) : Fok P w K mg "_is_number" 1 ["value"] f__is_number := by
  refine Fok.of (k := 0) T.d__is_number sc__is_number (fun _ _ _ _ _ _ us hl => match us, hl with | [_], _ => rfl) (fun base tb f cdv A outer s H E hr => ?_)
  exact (ss_one (ss_ret (se_and (se_callB sc_isi T.m_isinstance (by decide +kernel) (sa_cons (se_var 0) (sa_cons (se_ty T.m_int (by decide +kernel)) sa_nil))) (se_one (se_not (se_callB sc_isi T.m_isinstance (by decide +kernel) (sa_cons (se_var 0) (sa_cons (se_ty T.m_bool (by decide +kernel)) sa_nil))))))))
theorem ok__is_form (T : Facts K mg) : Fok P w K mg "_is_form" 1 ["value", "head", "size"] f__is_form := by
  refine Fok.of (k := 0) T.d__is_form sc__is_form (fun _ _ _ _ _ _ us hl => match us, hl with | [_, _, _], _ => rfl) (fun base tb f cdv A outer s H E hr => ?_)
  exact (ss_one (ss_ret (se_and (se_cmp (so_eq (huE hr)) (se_callB sc_len T.m_len (by decide +kernel) (sa_cons (se_var 0) sa_nil)) (se_var 2)) (se_one (se_cmp (so_eq (huE hr)) (se_ix (se_var 0) se_int) (se_var 1))))))
theorem ok__is_case (T : Facts K mg) : Fok P w K mg "_is_case" 2 ["kinds", "value"] f__is_case := by
  refine Fok.of (k := 1) T.d__is_case sc__is_case (fun _ _ _ _ _ _ us hl => match us, hl with | [_, _], _ => rfl) (fun base tb f cdv A outer s H E hr => ?_)
  exact (ss_one (ss_ret (se_and (se_call (ok__is_number T) hr (sa_cons (se_var 1) sa_nil)) (se_one (se_chain so_le so_lt se_int (se_var 1) (se_callB sc_len T.m_len (by decide +kernel) (sa_cons (se_var 0) sa_nil)))))))
theorem ok_is_letter (T : Facts K mg) : ∀ n : Nat, Fok P w K mg "is_letter" (2 + n) ["kind", "value"] (f_is_letter n)
  | 0 => Fok.none (ps := ["kind", "value"]) T.d_is_letter (fun _ _ _ _ _ _ us hl => match us, hl with | [_, _], _ => rfl)
  | n + 1 => by
    have self_ok := ok_is_letter T n
    refine Fok.of T.d_is_letter sc_is_letter (fun _ _ _ _ _ _ us hl => match us, hl with | [_, _], _ => rfl) (fun base tb f cdv A outer s H E hr => ?_)
    exact (ss_cons (ss_set (i := 2) sc_is_letter.nd (se_ix (se_var 0) se_int))
  (ss_cons (ss_if (st_cmp (so_eq (huE hr)) (se_var 2) se_str) (ss_one (ss_ret (se_cmp (so_in (huI hr)) (se_var 1) (se_ix (se_var 0) se_int)))) ss_nil)
  (ss_cons (ss_if (st_cmp (so_eq (huE hr)) (se_var 2) se_str) (ss_one (ss_ret (se_call (ok__is_number T) hr (sa_cons (se_var 1) sa_nil)))) ss_nil)
  (ss_cons (ss_if (st_not (st_tru (se_callB sc_isi T.m_isinstance (by decide +kernel) (sa_cons (se_var 1) (sa_cons (se_ty T.m_tuple (by decide +kernel)) sa_nil))))) (ss_one (ss_ret se_bl)) ss_nil)
  (ss_cons (ss_if (st_cmp (so_eq (huE hr)) (se_var 2) se_str) (ss_one (ss_ret (se_and (se_call (ok__is_form T) hr (sa_cons (se_var 1) (sa_cons se_str (sa_cons se_int sa_nil)))) (se_and (se_call self_ok hr (sa_cons (se_ix (se_var 0) se_int) (sa_cons (se_ix (se_var 1) se_int) sa_nil))) (se_one (se_call self_ok hr (sa_cons (se_ix (se_var 0) se_int) (sa_cons (se_ix (se_var 1) se_int) sa_nil)))))))) ss_nil)
  (ss_cons (ss_if (st_cmp (so_eq (huE hr)) (se_var 2) se_str) (ss_one (ss_ret (se_and (se_call (ok__is_form T) hr (sa_cons (se_var 1) (sa_cons se_str (sa_cons se_int sa_nil)))) (se_and (se_call (ok__is_case T) hr (sa_cons (se_ix (se_var 0) se_int) (sa_cons (se_ix (se_var 1) se_int) sa_nil))) (se_one (se_call self_ok hr (sa_cons (se_ix (se_ix (se_var 0) se_int) (se_ix (se_var 1) se_int)) (sa_cons (se_ix (se_var 1) se_int) sa_nil)))))))) ss_nil)
  (ss_one (ss_ret (se_or (se_cmp (so_eq (huE hr)) (se_var 1) (se_tup (sa_cons se_str sa_nil))) (se_one (se_and (se_call (ok__is_form T) hr (sa_cons (se_var 1) (sa_cons se_str (sa_cons se_int sa_nil)))) (se_one (se_call self_ok hr (sa_cons (se_ix (se_var 0) se_int) (sa_cons (se_ix (se_var 1) se_int) sa_nil)))))))))))))))
theorem ok_steps_from (T : Facts K mg) : Fok P w K mg "steps_from" 1 ["kind"] f_steps_from := by
  refine Fok.of (k := 0) T.d_steps_from sc_steps_from (fun _ _ _ _ _ _ us hl => match us, hl with | [_], _ => rfl) (fun base tb f cdv A outer s H E hr => ?_)
  exact (ss_cons (ss_if (st_cmp (so_eq (huE hr)) (se_ix (se_var 0) se_int) se_str) (ss_one (ss_ret (se_lst (sa_cons (se_tup (sa_cons se_str (sa_cons (se_ix (se_var 0) se_int) sa_nil))) (sa_cons (se_tup (sa_cons se_str (sa_cons (se_ix (se_var 0) se_int) sa_nil))) sa_nil))))) ss_nil)
  (ss_cons (ss_if (st_cmp (so_eq (huE hr)) (se_ix (se_var 0) se_int) se_str) (ss_one (ss_ret (se_listEnum rfl T.m_list T.m_enumerate (se_ix (se_var 0) se_int)))) ss_nil)
  (ss_cons (ss_if (st_cmp (so_eq (huE hr)) (se_ix (se_var 0) se_int) se_str) (ss_one (ss_ret (se_lst (sa_cons (se_tup (sa_cons se_str (sa_cons (se_ix (se_var 0) se_int) sa_nil))) sa_nil)))) ss_nil)
  (ss_one (ss_ret (se_lst sa_nil))))))
theorem ok_kind_at (T : Facts K mg) : Fok P w K mg "kind_at" 2 ["kind", "path"] f_kind_at := by
  refine Fok.of (k := 1) T.d_kind_at sc_kind_at (fun _ _ _ _ _ _ us hl => match us, hl with | [_, _], _ => rfl) (fun base tb f cdv A outer s H E hr => ?_)
  exact (ss_cons (ss_for PassesOwn.never rfl (si_seq (se_var 1)) (sg_name (i := 2) sc_kind_at.nd) (ss_cons (ss_set (i := 3) sc_kind_at.nd (se_callTy (sc_dict rfl) T.m_dict (by decide +kernel) (sa_cons (se_call (ok_steps_from T) hr (sa_cons (se_var 0) sa_nil)) sa_nil)))
    (ss_cons (ss_if (st_cmp (so_dNotIn (huD hr)) (se_var 2) (se_var 3)) (ss_one (ss_ret se_non)) ss_nil)
    (ss_one (ss_set (i := 0) sc_kind_at.nd (se_dIx (huD hr) (se_var 3) (se_var 2)))))))
  (ss_one (ss_ret (se_var 0))))
theorem ok__parts_of (T : Facts K mg) : Fok P w K mg "_parts_of" 1 ["letter"] f__parts_of := by
  refine Fok.of (k := 0) T.d__parts_of sc__parts_of (fun _ _ _ _ _ _ us hl => match us, hl with | [_], _ => rfl) (fun base tb f cdv A outer s H E hr => ?_)
  exact (ss_cons (ss_if (st_w (sw_or (st_not (st_tru (se_callB sc_isi T.m_isinstance (by decide +kernel) (sa_cons (se_var 0) (sa_cons (se_ty T.m_tuple (by decide +kernel)) sa_nil))))) (sw_or1 (st_cmp (so_eq (huE hr)) (se_var 0) (se_tup (sa_cons se_str sa_nil)))))) (ss_one (ss_ret se_new)) ss_nil)
  (ss_cons (ss_if (st_cmp (so_eq (huE hr)) (se_ix (se_var 0) se_int) se_str) (ss_one (ss_ret (se_disp (sp_cons se_str (se_ix (se_var 0) se_int) (sp_cons se_str (se_ix (se_var 0) se_int) sp_nil))))) ss_nil)
  (ss_cons (ss_if (st_cmp (so_eq (huE hr)) (se_ix (se_var 0) se_int) se_str) (ss_one (ss_ret (se_disp (sp_cons (se_ix (se_var 0) se_int) (se_ix (se_var 0) se_int) sp_nil)))) ss_nil)
  (ss_one (ss_ret (se_disp (sp_cons se_str (se_ix (se_var 0) se_int) sp_nil)))))))
theorem ok_part_at (T : Facts K mg) : Fok P w K mg "part_at" 2 ["letter", "path"] f_part_at := by
  refine Fok.of (k := 1) T.d_part_at sc_part_at (fun _ _ _ _ _ _ us hl => match us, hl with | [_, _], _ => rfl) (fun base tb f cdv A outer s H E hr => ?_)
  exact (ss_cons (ss_for PassesOwn.never rfl (si_seq (se_var 1)) (sg_name (i := 2) sc_part_at.nd) (ss_cons (ss_set (i := 3) sc_part_at.nd (se_call (ok__parts_of T) hr (sa_cons (se_var 0) sa_nil)))
    (ss_cons (ss_if (st_cmp (so_dNotIn (huD hr)) (se_var 2) (se_var 3)) (ss_one (ss_ret se_non)) ss_nil)
    (ss_one (ss_set (i := 0) sc_part_at.nd (se_dIx (huD hr) (se_var 3) (se_var 2)))))))
  (ss_one (ss_ret (se_var 0))))
theorem ok__fits (T : Facts K mg) : ∀ n : Nat, Fok P w K mg "_fits" (6 + n) ["kind", "other", "term"] (f__fits n)
  | 0 => Fok.none (ps := ["kind", "other", "term"]) T.d__fits (fun _ _ _ _ _ _ us hl => match us, hl with | [_, _, _], _ => rfl)
  | n + 1 => by
    have self_ok := ok__fits T n
    refine Fok.of T.d__fits sc__fits (fun _ _ _ _ _ _ us hl => match us, hl with | [_, _, _], _ => rfl) (fun base tb f cdv A outer s H E hr => ?_)
    exact (ss_cons (ss_set (i := 3) sc__fits.nd (se_ix (se_var 2) se_int))
  (ss_cons (ss_if (st_cmp (so_eq (huE hr)) (se_var 3) se_str) (ss_one (ss_ret (se_call (ok_is_letter T 4) hr (sa_cons (se_var 1) (sa_cons (se_ix (se_var 2) se_int) sa_nil))))) ss_nil)
  (ss_cons (ss_if (st_cmp (so_eq (huE hr)) (se_var 3) se_str) (ss_one (ss_ret (se_cmp (so_eq (huE hr)) (se_call (ok_kind_at T) hr (sa_cons (se_var 0) (sa_cons (se_ix (se_var 2) se_int) sa_nil))) (se_var 1)))) ss_nil)
  (ss_cons (ss_if (st_cmp (so_in (huI hr)) (se_var 3) (se_tup (sa_cons se_str (sa_cons se_str sa_nil)))) (ss_one (ss_ret (se_and (se_cmp (so_eq (huE hr)) (se_call (ok_kind_at T) hr (sa_cons (se_var 0) (sa_cons (se_ix (se_var 2) se_int) sa_nil))) (se_cst (x := "INTEGERS") (zs := [(PySem.Str.ofString "integers")]) T.c_INTEGERS)) (se_one (se_cmp (so_eq (huE hr)) (se_var 1) (se_cst (x := "INTEGERS") (zs := [(PySem.Str.ofString "integers")]) T.c_INTEGERS)))))) ss_nil)
  (ss_cons (ss_if (st_cmp (so_eq (huE hr)) (se_var 3) se_str) (ss_one (ss_ret (se_and (se_cmp (so_eq (huE hr)) (se_ix (se_var 1) se_int) se_str) (se_and (se_call self_ok hr (sa_cons (se_var 0) (sa_cons (se_ix (se_var 1) se_int) (sa_cons (se_ix (se_var 2) se_int) sa_nil)))) (se_one (se_call self_ok hr (sa_cons (se_var 0) (sa_cons (se_ix (se_var 1) se_int) (sa_cons (se_ix (se_var 2) se_int) sa_nil))))))))) ss_nil)
  (ss_cons (ss_if (st_cmp (so_eq (huE hr)) (se_var 3) se_str) (ss_one (ss_ret (se_and (se_cmp (so_eq (huE hr)) (se_ix (se_var 1) se_int) se_str) (se_and (se_cmp so_lt (se_ix (se_var 2) se_int) (se_callB sc_len T.m_len (by decide +kernel) (sa_cons (se_ix (se_var 1) se_int) sa_nil))) (se_one (se_call self_ok hr (sa_cons (se_var 0) (sa_cons (se_ix (se_ix (se_var 1) se_int) (se_ix (se_var 2) se_int)) (sa_cons (se_ix (se_var 2) se_int) sa_nil))))))))) ss_nil)
  (ss_one (ss_ret (se_and (se_cmp (so_eq (huE hr)) (se_ix (se_var 1) se_int) se_str) (se_one (se_call self_ok hr (sa_cons (se_var 0) (sa_cons (se_ix (se_var 1) se_int) (sa_cons (se_ix (se_var 2) se_int) sa_nil))))))))))))))
theorem ok_check_term (T : Facts K mg) : FokX P w K mg "check_term" 11 ["kind", "other", "term"] f_check_term := by
  refine FokX.of (k := 10) T.d_check_term sc_check_term (fun _ _ _ _ _ _ us hl => match us, hl with | [_, _, _], _ => rfl) (fun base tb f cdv A outer s H E hr tk => ?_)
  exact (ss_one (ss_if (st_not (st_tru (se_call0 (ok__fits T 4) hr (sa_cons (se_var 0) (sa_cons (se_var 1) (sa_cons (se_var 2) sa_nil)))))) (ss_one (ss_raiseO rfl tk T.r_BadTerm)) ss_nil))
theorem ok_gives (T : Facts K mg) : ∀ n : Nat, Fok P w K mg "gives" (2 + n) ["term", "letter"] (f_gives n)
  | 0 => Fok.none (ps := ["term", "letter"]) T.d_gives (fun _ _ _ _ _ _ us hl => match us, hl with | [_, _], _ => rfl)
  | n + 1 => by
    have self_ok := ok_gives T n
    refine Fok.of T.d_gives sc_gives (fun _ _ _ _ _ _ us hl => match us, hl with | [_, _], _ => rfl) (fun base tb f cdv A outer s H E hr => ?_)
    exact (ss_cons (ss_set (i := 2) sc_gives.nd (se_ix (se_var 0) se_int))
  (ss_cons (ss_if (st_cmp (so_eq (huE hr)) (se_var 2) se_str) (ss_one (ss_ret (se_ix (se_var 0) se_int))) ss_nil)
  (ss_cons (ss_if (st_cmp (so_eq (huE hr)) (se_var 2) se_str) (ss_cons (ss_setLc (i := 3) rfl sc_gives.nd (si_seq (se_slice (se_var 0) (so_some se_int) so_none)) (blkOk_by (own := [("part", 4)]) (by rfl)) (fun _ _ _ _ _ => (sg_name (i := 4) sc_gives.nd)) (fun _ _ _ _ _ => sts_nil) (fun _ _ _ _ _ => (se_call self_ok hr (sa_cons (se_var 4) (sa_cons (se_var 1) sa_nil)))))
    (ss_one (ss_ret (se_ifE (st_cmp (so_in (huI hr)) se_non (se_var 3)) se_non (se_tup (sa_cons se_str (sa_cons (se_ix (se_var 3) se_int) (sa_cons (se_ix (se_var 3) se_int) sa_nil)))))))) ss_nil)
  (ss_cons (ss_if (st_cmp (so_in (huI hr)) (se_var 2) (se_tup (sa_cons se_str (sa_cons se_str sa_nil)))) (ss_cons (ss_set (i := 4) sc_gives.nd (se_call self_ok hr (sa_cons (se_ix (se_var 0) (se_neg se_int)) (sa_cons (se_var 1) sa_nil))))
    (ss_one (ss_ret (se_ifE (st_cmp so_isN (se_var 4) se_non) se_non (se_op so_add (se_slice (se_var 0) so_none (so_some (se_neg se_int))) (se_tup (sa_cons (se_var 4) sa_nil))))))) ss_nil)
  (ss_cons (ss_set (i := 4) sc_gives.nd (se_call (ok_part_at T) hr (sa_cons (se_var 1) (sa_cons (se_ix (se_var 0) se_int) sa_nil))))
  (ss_cons (ss_if (st_w (sw_or (st_cmp so_isN (se_var 4) se_non) (sw_or1 (st_cmp (so_eq (huE hr)) (se_var 2) se_str)))) (ss_one (ss_ret (se_var 4))) ss_nil)
  (ss_one (ss_ret (se_ifE (st_cmp (so_eq (huE hr)) (se_var 2) se_str) (se_op so_add (se_var 4) (se_ix (se_var 0) se_int)) (se_op so_sub (se_ix (se_var 0) se_int) (se_var 4)))))))))))
theorem ok__law_tape (T : Facts K mg) : Fok P w K mg "_law_tape" 1 ["script"] f__law_tape := by
  refine Fok.of (k := 0) T.d__law_tape sc__law_tape (fun _ _ _ _ _ _ us hl => match us, hl with | [_], _ => rfl) (fun base tb f cdv A outer s H E hr => ?_)
  exact (ss_cons (ss_set (i := 1) sc__law_tape.nd se_int)
  (ss_cons (ss_for PassesOwn.never rfl (si_seq (se_var 0)) (sg_name (i := 2) sc__law_tape.nd) (ss_one (ss_set (i := 1) sc__law_tape.nd (se_op so_mod (se_callTy sc_int T.m_int (by decide +kernel) (sa_cons (se_op so_add (se_op so_mul (se_var 1) se_int) (se_callB sc_abs T.m_abs (by decide +kernel) (sa_cons (se_callTy sc_int T.m_int (by decide +kernel) (sa_cons (se_var 2) sa_nil)) sa_nil))) sa_nil)) se_int))))
  (ss_one (ss_ret (se_lst (sa_cons (se_callTy sc_list T.m_list (by decide +kernel) (sa_cons (se_var 0) sa_nil)) (sa_cons se_int (sa_cons se_int (sa_cons (se_var 1) sa_nil)))))))))
theorem ok__law_draw (T : Facts K mg) : Fok P w K mg "_law_draw" 1 ["tape", "many"] f__law_draw := by
  refine Fok.of (k := 0) T.d__law_draw sc__law_draw (fun _ _ _ _ _ _ us hl => match us, hl with | [_, _], _ => rfl) (fun base tb f cdv A outer s H E hr => ?_)
  exact (ss_cons (ss_if (st_cmp (so_eq (huE hr)) (se_ix (se_var 0) se_int) se_int) (ss_cons (ss_set (i := 2) sc__law_draw.nd (se_ix (se_var 0) se_int))
    (ss_cons (ss_set (i := 3) sc__law_draw.nd se_int)
    (ss_cons (ss_if (st_cmp so_lt (se_var 2) (se_callB sc_len T.m_len (by decide +kernel) (sa_cons (se_ix (se_var 0) se_int) sa_nil))) (ss_one (ss_set (i := 3) sc__law_draw.nd (se_callB sc_abs T.m_abs (by decide +kernel) (sa_cons (se_callTy sc_int T.m_int (by decide +kernel) (sa_cons (se_ix (se_ix (se_var 0) se_int) (se_var 2)) sa_nil)) sa_nil)))) (ss_cons (ss_setIx (se_var 0) se_int (se_op so_mod (se_callTy sc_int T.m_int (by decide +kernel) (sa_cons (se_op so_add (se_op so_add (se_op so_mul (se_ix (se_var 0) se_int) se_int) (se_var 2)) se_int) sa_nil)) se_int))
      (ss_one (ss_set (i := 3) sc__law_draw.nd (se_ix (se_var 0) se_int)))))
    (ss_cons (ss_setIx (se_var 0) se_int (se_op so_add (se_var 2) se_int))
    (ss_cons (ss_if (st_cmp so_lt (se_var 3) (se_op so_pow se_int se_int)) (ss_cons (ss_set (i := 3) sc__law_draw.nd (se_op so_mod (se_callTy sc_int T.m_int (by decide +kernel) (sa_cons (se_op so_add (se_op so_add (se_op so_mul (se_var 3) se_int) (se_op so_mul (se_var 2) se_int)) se_int) sa_nil)) se_int))
      (ss_cons (ss_set (i := 3) sc__law_draw.nd (se_op so_mod (se_callTy sc_int T.m_int (by decide +kernel) (sa_cons (se_op so_mul (se_var 3) se_int) sa_nil)) se_int))
      (ss_one (ss_ret (se_op so_mod (se_callTy sc_int T.m_int (by decide +kernel) (sa_cons (se_var 3) sa_nil)) (se_callB (sc_max rfl) T.m_max (by decide +kernel) (sa_cons (se_var 1) (sa_cons se_int sa_nil)))))))) ss_nil)
    (ss_one (ss_setIx (se_var 0) se_int (se_var 3)))))))) ss_nil)
  (ss_cons (ss_set (i := 3) sc__law_draw.nd (se_ix (se_var 0) se_int))
  (ss_cons (ss_setIx (se_var 0) se_int (se_op so_div (se_var 3) (se_callB (sc_max rfl) T.m_max (by decide +kernel) (sa_cons (se_var 1) (sa_cons se_int sa_nil)))))
  (ss_one (ss_ret (se_op so_mod (se_callTy sc_int T.m_int (by decide +kernel) (sa_cons (se_var 3) sa_nil)) (se_callB (sc_max rfl) T.m_max (by decide +kernel) (sa_cons (se_var 1) (sa_cons se_int sa_nil)))))))))
theorem ok__law_whole (T : Facts K mg) : Fok P w K mg "_law_whole" 1 ["told"] f__law_whole := by
  refine Fok.of (k := 0) T.d__law_whole sc__law_whole (fun _ _ _ _ _ _ us hl => match us, hl with | [_], _ => rfl) (fun base tb f cdv A outer s H E hr => ?_)
  exact (ss_one (ss_ret (se_and (se_callB sc_isi T.m_isinstance (by decide +kernel) (sa_cons (se_var 0) (sa_cons (se_ty T.m_int (by decide +kernel)) sa_nil))) (se_one (se_not (se_callB sc_isi T.m_isinstance (by decide +kernel) (sa_cons (se_var 0) (sa_cons (se_ty T.m_bool (by decide +kernel)) sa_nil))))))))
theorem ok__law_names (T : Facts K mg) : Fok P w K mg "_law_names" 2 ["tape"] f__law_names := by
  refine Fok.of (k := 1) T.d__law_names sc__law_names (fun _ _ _ _ _ _ us hl => match us, hl with | [_], _ => rfl) (fun base tb f cdv A outer s H E hr => ?_)
  exact (ss_cons (ss_set (i := 1) sc__law_names.nd se_str)
  (ss_cons (ss_set (i := 2) sc__law_names.nd (se_lst (sa_cons se_str (sa_cons se_str (sa_cons se_str (sa_cons se_str (sa_cons se_str (sa_cons se_str sa_nil))))))))
  (ss_cons (ss_set (i := 3) sc__law_names.nd (se_ix (se_lst (sa_cons se_str (sa_cons se_str (sa_cons se_str (sa_cons se_str (sa_cons se_str sa_nil)))))) (se_call (ok__law_draw T) hr (sa_cons (se_var 0) (sa_cons se_int sa_nil)))))
  (ss_cons (ss_set (i := 4) sc__law_names.nd (se_lst sa_nil))
  (ss_cons (ss_for PassesOwn.never rfl (si_rng1 T.m_range (se_ix (se_lst (sa_cons se_int (sa_cons se_int (sa_cons se_int (sa_cons se_int (sa_cons se_int (sa_cons se_int sa_nil))))))) (se_call (ok__law_draw T) hr (sa_cons (se_var 0) (sa_cons se_int sa_nil))))) (sg_name (i := 5) sc__law_names.nd) (ss_cons (ss_set (i := 6) sc__law_names.nd (se_op so_add (se_var 3) (se_ix (se_var 1) (se_call (ok__law_draw T) hr (sa_cons (se_var 0) (sa_cons (se_callB sc_len T.m_len (by decide +kernel) (sa_cons (se_var 1) sa_nil)) sa_nil))))))
    (ss_cons (ss_if (st_cmp (so_eq (huE hr)) (se_call (ok__law_draw T) hr (sa_cons (se_var 0) (sa_cons se_int sa_nil))) se_int) (ss_one (ss_set (i := 6) sc__law_names.nd (se_op so_add (se_var 6) (se_ix (se_var 1) (se_call (ok__law_draw T) hr (sa_cons (se_var 0) (sa_cons (se_callB sc_len T.m_len (by decide +kernel) (sa_cons (se_var 1) sa_nil)) sa_nil))))))) ss_nil)
    (ss_cons (ss_if (st_cmp (so_eq (huE hr)) (se_call (ok__law_draw T) hr (sa_cons (se_var 0) (sa_cons se_int sa_nil))) se_int) (ss_one (ss_set (i := 6) sc__law_names.nd (se_ix (se_var 2) (se_call (ok__law_draw T) hr (sa_cons (se_var 0) (sa_cons se_int sa_nil)))))) ss_nil)
    (ss_one (ss_if (st_cmp (so_notIn (huI hr)) (se_var 6) (se_var 4)) (ss_one (ss_expr (se_append (se_var 4) (sa_cons (se_var 6) sa_nil)))) ss_nil))))))
  (ss_one (ss_ret (se_callTy sc_tuple T.m_tuple (by decide +kernel) (sa_cons (se_var 4) sa_nil)))))))))
theorem ok__law_kinds (T : Facts K mg) : ∀ n : Nat, Fok P w K mg "_law_kinds" (0 + n) ["kind"] (f__law_kinds n)
  | 0 => Fok.none (ps := ["kind"]) T.d__law_kinds (fun _ _ _ _ _ _ us hl => match us, hl with | [_], _ => rfl)
  | n + 1 => by
    have self_ok := ok__law_kinds T n
    refine Fok.of T.d__law_kinds sc__law_kinds (fun _ _ _ _ _ _ us hl => match us, hl with | [_], _ => rfl) (fun base tb f cdv A outer s H E hr => ?_)
    exact (ss_cons (ss_if (st_cmp (so_eq (huE hr)) (se_ix (se_var 0) se_int) se_str) (ss_one (ss_ret (se_op so_add (se_op so_add se_int (se_call self_ok hr (sa_cons (se_ix (se_var 0) se_int) sa_nil))) (se_call self_ok hr (sa_cons (se_ix (se_var 0) se_int) sa_nil))))) ss_nil)
  (ss_cons (ss_if (st_cmp (so_eq (huE hr)) (se_ix (se_var 0) se_int) se_str) (ss_one (ss_ret (se_op so_add se_int (se_callB (sc_sum rfl) T.m_sum (by decide +kernel) (sa_cons (se_lc rfl sc__law_kinds.nd (si_seq (se_ix (se_var 0) se_int)) (blkOk_by (own := [("piece", 1)]) (by rfl)) (fun _ _ _ _ _ => (sg_name (i := 1) sc__law_kinds.nd)) (fun _ _ _ _ _ => sts_nil) (fun _ _ _ _ _ => (se_call self_ok hr (sa_cons (se_var 1) sa_nil)))) sa_nil))))) ss_nil)
  (ss_cons (ss_if (st_cmp (so_eq (huE hr)) (se_ix (se_var 0) se_int) se_str) (ss_one (ss_ret (se_op so_add se_int (se_call self_ok hr (sa_cons (se_ix (se_var 0) se_int) sa_nil))))) ss_nil)
  (ss_one (ss_ret se_int)))))
theorem ok__law_kind (T : Facts K mg) : ∀ n : Nat, Fok P w K mg "_law_kind" (4 + n) ["tape", "depth", "many"] (f__law_kind n)
  | 0 => Fok.none (ps := ["tape", "depth", "many"]) T.d__law_kind (fun _ _ _ _ _ _ us hl => match us, hl with | [_, _, _], _ => rfl)
  | n + 1 => by
    have self_ok := ok__law_kind T n
    refine Fok.of T.d__law_kind sc__law_kind (fun _ _ _ _ _ _ us hl => match us, hl with | [_, _, _], _ => rfl) (fun base tb f cdv A outer s H E hr => ?_)
    exact (ss_cons (ss_set (i := 3) sc__law_kind.nd (se_call (ok__law_draw T) hr (sa_cons (se_var 0) (sa_cons se_int sa_nil))))
  (ss_cons (ss_if (st_w (sw_or (st_cmp (so_eq (huE hr)) (se_var 1) se_int) (sw_or (st_cmp (so_eq (huE hr)) (se_var 2) se_int) (sw_or1 (st_cmp so_lt (se_var 3) se_int))))) (ss_cons (ss_if (st_cmp (so_eq (huE hr)) (se_call (ok__law_draw T) hr (sa_cons (se_var 0) (sa_cons se_int sa_nil))) se_int) (ss_one (ss_ret (se_tup (sa_cons se_str (sa_cons (se_call (ok__law_names T) hr (sa_cons (se_var 0) sa_nil)) sa_nil))))) ss_nil)
    (ss_one (ss_ret (se_tup (sa_cons se_str sa_nil))))) ss_nil)
  (ss_cons (ss_if (st_w (sw_or (st_cmp (so_eq (huE hr)) (se_var 2) se_int) (sw_or1 (st_cmp (so_eq (huE hr)) (se_var 3) se_int)))) (ss_one (ss_ret (se_tup (sa_cons se_str (sa_cons (se_call self_ok hr (sa_cons (se_var 0) (sa_cons (se_op so_sub (se_var 1) se_int) (sa_cons (se_op so_sub (se_var 2) se_int) sa_nil)))) sa_nil))))) ss_nil)
  (ss_cons (ss_if (st_cmp so_lt (se_var 3) se_int) (ss_cons (ss_set (i := 4) sc__law_kind.nd (se_call self_ok hr (sa_cons (se_var 0) (sa_cons (se_op so_sub (se_var 1) se_int) (sa_cons (se_op so_sub (se_var 2) se_int) sa_nil)))))
    (ss_one (ss_ret (se_tup (sa_cons se_str (sa_cons (se_var 4) (sa_cons (se_call self_ok hr (sa_cons (se_var 0) (sa_cons (se_op so_sub (se_var 1) se_int) (sa_cons (se_op so_sub (se_op so_sub (se_var 2) se_int) (se_call (ok__law_kinds T 4) hr (sa_cons (se_var 4) sa_nil))) sa_nil)))) sa_nil))))))) ss_nil)
  (ss_cons (ss_set (i := 5) sc__law_kind.nd (se_op so_sub (se_var 2) se_int))
  (ss_cons (ss_set (i := 6) sc__law_kind.nd (se_op so_add se_int (se_call (ok__law_draw T) hr (sa_cons (se_var 0) (sa_cons (se_callB (sc_min rfl) T.m_min (by decide +kernel) (sa_cons se_int (sa_cons (se_var 5) sa_nil))) sa_nil)))))
  (ss_cons (ss_set (i := 7) sc__law_kind.nd (se_lst sa_nil))
  (ss_cons (ss_for PassesOwn.never rfl (si_rng1 T.m_range (se_var 6)) (sg_name (i := 8) sc__law_kind.nd) (ss_cons (ss_set (i := 9) sc__law_kind.nd (se_call self_ok hr (sa_cons (se_var 0) (sa_cons (se_op so_sub (se_var 1) se_int) (sa_cons (se_op so_sub (se_var 5) (se_op so_sub (se_op so_sub (se_var 6) se_int) (se_var 8))) sa_nil)))))
    (ss_cons (ss_expr (se_append (se_var 7) (sa_cons (se_var 9) sa_nil)))
    (ss_one (ss_set (i := 5) sc__law_kind.nd (se_op so_sub (se_var 5) (se_call (ok__law_kinds T 4) hr (sa_cons (se_var 9) sa_nil))))))))
  (ss_one (ss_ret (se_tup (sa_cons se_str (sa_cons (se_callTy sc_tuple T.m_tuple (by decide +kernel) (sa_cons (se_var 7) sa_nil)) sa_nil)))))))))))))
theorem ok__law_any_kind (T : Facts K mg) : Fok P w K mg "_law_any_kind" 9 ["tape"] f__law_any_kind := by
  refine Fok.of (k := 8) T.d__law_any_kind sc__law_any_kind (fun _ _ _ _ _ _ us hl => match us, hl with | [_], _ => rfl) (fun base tb f cdv A outer s H E hr => ?_)
  exact (ss_cons (ss_set (i := 1) sc__law_any_kind.nd (se_call (ok__law_draw T) hr (sa_cons (se_var 0) (sa_cons se_int sa_nil))))
  (ss_cons (ss_if (st_cmp so_lt (se_var 1) se_int) (ss_one (ss_ret (se_tup (sa_cons se_str sa_nil)))) ss_nil)
  (ss_one (ss_ret (se_call (ok__law_kind T 4) hr (sa_cons (se_var 0) (sa_cons se_int (sa_cons (se_ix (se_lst (sa_cons se_int (sa_cons se_int (sa_cons se_int sa_nil)))) (se_op so_sub (se_var 1) se_int)) sa_nil))))))))
theorem ok__law_integer (T : Facts K mg) : Fok P w K mg "_law_integer" 2 ["tape", "top"] f__law_integer := by
  refine Fok.of (k := 1) T.d__law_integer sc__law_integer (fun _ _ _ _ _ _ us hl => match us, hl with | [_, _], _ => rfl) (fun base tb f cdv A outer s H E hr => ?_)
  exact (ss_cons (ss_set (i := 2) sc__law_integer.nd (se_call (ok__law_draw T) hr (sa_cons (se_var 0) (sa_cons se_int sa_nil))))
  (ss_cons (ss_set (i := 3) sc__law_integer.nd (se_call (ok__law_draw T) hr (sa_cons (se_var 0) (sa_cons (se_ix (se_lst (sa_cons se_int (sa_cons (se_op so_add (se_var 1) se_int) (sa_cons (se_op so_add (se_var 1) se_int) (sa_cons (se_op so_pow se_int se_int) (sa_cons (se_op so_sub (se_op so_pow se_int se_int) se_int) sa_nil)))))) (se_var 2)) sa_nil))))
  (ss_cons (ss_if (st_cmp (so_eq (huE hr)) (se_var 2) se_int) (ss_one (ss_set (i := 3) sc__law_integer.nd (se_op so_add (se_op so_mul (se_var 3) (se_op so_pow se_int se_int)) (se_call (ok__law_draw T) hr (sa_cons (se_var 0) (sa_cons (se_op so_pow se_int se_int) sa_nil)))))) ss_nil)
  (ss_one (ss_ret (se_ix (se_lst (sa_cons (se_var 3) (sa_cons (se_neg (se_var 3)) sa_nil))) (se_call (ok__law_draw T) hr (sa_cons (se_var 0) (sa_cons se_int sa_nil)))))))))
theorem ok__law_letter (T : Facts K mg) : ∀ n : Nat, Fok P w K mg "_law_letter" (2 + n) ["tape", "kind", "theory"] (f__law_letter n)
  | 0 => Fok.none (ps := ["tape", "kind", "theory"]) T.d__law_letter (fun _ _ _ _ _ _ us hl => match us, hl with | [_, _, _], _ => rfl)
  | n + 1 => by
    have self_ok := ok__law_letter T n
    refine Fok.of T.d__law_letter sc__law_letter (fun _ _ _ _ _ _ us hl => match us, hl with | [_, _, _], _ => rfl) (fun base tb f cdv A outer s H E hr => ?_)
    exact (ss_cons (ss_if (st_cmp (so_eq (huE hr)) (se_ix (se_var 1) se_int) se_str) (ss_one (ss_ret (se_ix (se_ix (se_var 1) se_int) (se_call (ok__law_draw T) hr (sa_cons (se_var 0) (sa_cons (se_callB sc_len T.m_len (by decide +kernel) (sa_cons (se_ix (se_var 1) se_int) sa_nil)) sa_nil)))))) ss_nil)
  (ss_cons (ss_if (st_cmp (so_eq (huE hr)) (se_ix (se_var 1) se_int) se_str) (ss_one (ss_ret (se_call (ok__law_integer T) hr (sa_cons (se_var 0) (sa_cons (se_ix (se_var 2) se_int) sa_nil))))) ss_nil)
  (ss_cons (ss_if (st_cmp (so_eq (huE hr)) (se_ix (se_var 1) se_int) se_str) (ss_cons (ss_set (i := 3) sc__law_letter.nd (se_call self_ok hr (sa_cons (se_var 0) (sa_cons (se_ix (se_var 1) se_int) (sa_cons (se_var 2) sa_nil)))))
    (ss_one (ss_ret (se_tup (sa_cons se_str (sa_cons (se_var 3) (sa_cons (se_call self_ok hr (sa_cons (se_var 0) (sa_cons (se_ix (se_var 1) se_int) (sa_cons (se_var 2) sa_nil)))) sa_nil))))))) ss_nil)
  (ss_cons (ss_if (st_cmp (so_eq (huE hr)) (se_ix (se_var 1) se_int) se_str) (ss_cons (ss_set (i := 4) sc__law_letter.nd (se_call (ok__law_draw T) hr (sa_cons (se_var 0) (sa_cons (se_callB sc_len T.m_len (by decide +kernel) (sa_cons (se_ix (se_var 1) se_int) sa_nil)) sa_nil))))
    (ss_one (ss_ret (se_tup (sa_cons se_str (sa_cons (se_var 4) (sa_cons (se_call self_ok hr (sa_cons (se_var 0) (sa_cons (se_ix (se_ix (se_var 1) se_int) (se_var 4)) (sa_cons (se_var 2) sa_nil)))) sa_nil))))))) ss_nil)
  (ss_cons (ss_if (st_cmp (so_eq (huE hr)) (se_call (ok__law_draw T) hr (sa_cons (se_var 0) (sa_cons se_int sa_nil))) se_int) (ss_one (ss_ret (se_tup (sa_cons se_str sa_nil)))) ss_nil)
  (ss_one (ss_ret (se_tup (sa_cons se_str (sa_cons (se_call self_ok hr (sa_cons (se_var 0) (sa_cons (se_ix (se_var 1) se_int) (sa_cons (se_var 2) sa_nil)))) sa_nil))))))))))
theorem ok__law_is_letter (T : Facts K mg) : ∀ n : Nat, Fok P w K mg "_law_is_letter" (1 + n) ["kind", "told"] (f__law_is_letter n)
  | 0 => Fok.none (ps := ["kind", "told"]) T.d__law_is_letter (fun _ _ _ _ _ _ us hl => match us, hl with | [_, _], _ => rfl)
  | n + 1 => by
    have self_ok := ok__law_is_letter T n
    refine Fok.of T.d__law_is_letter sc__law_is_letter (fun _ _ _ _ _ _ us hl => match us, hl with | [_, _], _ => rfl) (fun base tb f cdv A outer s H E hr => ?_)
    exact (ss_cons (ss_if (st_cmp (so_eq (huE hr)) (se_ix (se_var 0) se_int) se_str) (ss_one (ss_ret (se_and (se_callB sc_isi T.m_isinstance (by decide +kernel) (sa_cons (se_var 1) (sa_cons (se_ty T.m_str (by decide +kernel)) sa_nil))) (se_one (se_cmp (so_in (huI hr)) (se_var 1) (se_ix (se_var 0) se_int)))))) ss_nil)
  (ss_cons (ss_if (st_cmp (so_eq (huE hr)) (se_ix (se_var 0) se_int) se_str) (ss_one (ss_ret (se_call (ok__law_whole T) hr (sa_cons (se_var 1) sa_nil)))) ss_nil)
  (ss_cons (ss_if (st_w (sw_or (st_not (st_tru (se_callB sc_isi T.m_isinstance (by decide +kernel) (sa_cons (se_var 1) (sa_cons (se_ty T.m_tuple (by decide +kernel)) sa_nil))))) (sw_or (st_cmp (so_eq (huE hr)) (se_callB sc_len T.m_len (by decide +kernel) (sa_cons (se_var 1) sa_nil)) se_int) (sw_or1 (st_not (st_tru (se_callB sc_isi T.m_isinstance (by decide +kernel) (sa_cons (se_ix (se_var 1) se_int) (sa_cons (se_ty T.m_str (by decide +kernel)) sa_nil))))))))) (ss_one (ss_ret se_bl)) ss_nil)
  (ss_cons (ss_if (st_cmp (so_eq (huE hr)) (se_ix (se_var 0) se_int) se_str) (ss_cons (ss_if (st_w (sw_or (st_cmp (so_ne (huE hr)) (se_ix (se_var 1) se_int) se_str) (sw_or1 (st_cmp (so_ne (huE hr)) (se_callB sc_len T.m_len (by decide +kernel) (sa_cons (se_var 1) sa_nil)) se_int)))) (ss_one (ss_ret se_bl)) ss_nil)
    (ss_one (ss_ret (se_and (se_call self_ok hr (sa_cons (se_ix (se_var 0) se_int) (sa_cons (se_ix (se_var 1) se_int) sa_nil))) (se_one (se_call self_ok hr (sa_cons (se_ix (se_var 0) se_int) (sa_cons (se_ix (se_var 1) se_int) sa_nil)))))))) ss_nil)
  (ss_cons (ss_if (st_cmp (so_eq (huE hr)) (se_ix (se_var 0) se_int) se_str) (ss_cons (ss_if (st_w (sw_or (st_cmp (so_ne (huE hr)) (se_ix (se_var 1) se_int) se_str) (sw_or (st_cmp (so_ne (huE hr)) (se_callB sc_len T.m_len (by decide +kernel) (sa_cons (se_var 1) sa_nil)) se_int) (sw_or1 (st_not (st_tru (se_call (ok__law_whole T) hr (sa_cons (se_ix (se_var 1) se_int) sa_nil)))))))) (ss_one (ss_ret se_bl)) ss_nil)
    (ss_cons (ss_if (st_w (sw_or (st_cmp so_lt (se_ix (se_var 1) se_int) se_int) (sw_or1 (st_cmp so_ge (se_ix (se_var 1) se_int) (se_callB sc_len T.m_len (by decide +kernel) (sa_cons (se_ix (se_var 0) se_int) sa_nil)))))) (ss_one (ss_ret se_bl)) ss_nil)
    (ss_one (ss_ret (se_call self_ok hr (sa_cons (se_ix (se_ix (se_var 0) se_int) (se_ix (se_var 1) se_int)) (sa_cons (se_ix (se_var 1) se_int) sa_nil))))))) ss_nil)
  (ss_cons (ss_if (st_cmp (so_eq (huE hr)) (se_ix (se_var 1) se_int) se_str) (ss_one (ss_ret (se_cmp (so_eq (huE hr)) (se_callB sc_len T.m_len (by decide +kernel) (sa_cons (se_var 1) sa_nil)) se_int))) ss_nil)
  (ss_one (ss_ret (se_and (se_cmp (so_eq (huE hr)) (se_ix (se_var 1) se_int) se_str) (se_and (se_cmp (so_eq (huE hr)) (se_callB sc_len T.m_len (by decide +kernel) (sa_cons (se_var 1) sa_nil)) se_int) (se_one (se_call self_ok hr (sa_cons (se_ix (se_var 0) se_int) (sa_cons (se_ix (se_var 1) se_int) sa_nil))))))))))))))
theorem ok__law_same (T : Facts K mg) : ∀ n : Nat, Fok P w K mg "_law_same" (1 + n) ["told", "due"] (f__law_same n)
  | 0 => Fok.none (ps := ["told", "due"]) T.d__law_same (fun _ _ _ _ _ _ us hl => match us, hl with | [_, _], _ => rfl)
  | n + 1 => by
    have self_ok := ok__law_same T n
    refine Fok.of T.d__law_same sc__law_same (fun _ _ _ _ _ _ us hl => match us, hl with | [_, _], _ => rfl) (fun base tb f cdv A outer s H E hr => ?_)
    exact (ss_cons (ss_if (st_cmp so_isN (se_var 1) se_non) (ss_one (ss_ret (se_cmp so_isN (se_var 0) se_non))) ss_nil)
  (ss_cons (ss_if (st_tru (se_callB sc_isi T.m_isinstance (by decide +kernel) (sa_cons (se_var 1) (sa_cons (se_ty T.m_tuple (by decide +kernel)) sa_nil)))) (ss_cons (ss_if (st_w (sw_or (st_not (st_tru (se_callB sc_isi T.m_isinstance (by decide +kernel) (sa_cons (se_var 0) (sa_cons (se_ty T.m_tuple (by decide +kernel)) sa_nil))))) (sw_or1 (st_cmp (so_ne (huE hr)) (se_callB sc_len T.m_len (by decide +kernel) (sa_cons (se_var 0) sa_nil)) (se_callB sc_len T.m_len (by decide +kernel) (sa_cons (se_var 1) sa_nil)))))) (ss_one (ss_ret se_bl)) ss_nil)
    (ss_cons (ss_for PassesOwn.never rfl (si_rng1 T.m_range (se_callB sc_len T.m_len (by decide +kernel) (sa_cons (se_var 1) sa_nil))) (sg_name (i := 2) sc__law_same.nd) (ss_one (ss_if (st_not (st_tru (se_call self_ok hr (sa_cons (se_ix (se_var 0) (se_var 2)) (sa_cons (se_ix (se_var 1) (se_var 2)) sa_nil))))) (ss_one (ss_ret se_bl)) ss_nil)))
    (ss_one (ss_ret se_bl)))) ss_nil)
  (ss_cons (ss_if (st_tru (se_callB sc_isi T.m_isinstance (by decide +kernel) (sa_cons (se_var 1) (sa_cons (se_ty T.m_bool (by decide +kernel)) sa_nil)))) (ss_one (ss_ret (se_and (se_callB sc_isi T.m_isinstance (by decide +kernel) (sa_cons (se_var 0) (sa_cons (se_ty T.m_bool (by decide +kernel)) sa_nil))) (se_one (se_cmp (so_eq (huE hr)) (se_var 0) (se_var 1)))))) ss_nil)
  (ss_cons (ss_if (st_tru (se_callB sc_isi T.m_isinstance (by decide +kernel) (sa_cons (se_var 1) (sa_cons (se_ty T.m_str (by decide +kernel)) sa_nil)))) (ss_one (ss_ret (se_and (se_callB sc_isi T.m_isinstance (by decide +kernel) (sa_cons (se_var 0) (sa_cons (se_ty T.m_str (by decide +kernel)) sa_nil))) (se_one (se_cmp (so_eq (huE hr)) (se_var 0) (se_var 1)))))) ss_nil)
  (ss_one (ss_ret (se_and (se_call (ok__law_whole T) hr (sa_cons (se_var 0) sa_nil)) (se_one (se_cmp (so_eq (huE hr)) (se_var 0) (se_var 1))))))))))
theorem ok__law_pick (T : Facts K mg) : Fok P w K mg "_law_pick" 2 ["tape", "rows"] f__law_pick := by
  refine Fok.of (k := 1) T.d__law_pick sc__law_pick (fun _ _ _ _ _ _ us hl => match us, hl with | [_, _], _ => rfl) (fun base tb f cdv A outer s H E hr => ?_)
  exact (ss_one (ss_ret (se_ix (se_var 1) (se_call (ok__law_draw T) hr (sa_cons (se_var 0) (sa_cons (se_callB sc_len T.m_len (by decide +kernel) (sa_cons (se_var 1) sa_nil)) sa_nil))))))
theorem ok__law_error (T : Facts K mg) : FokE P w K mg errNs "_law_error" 1 ["wrong"] f__law_error := by
  refine FokE.of (k := 0) (m := d__law_error) T.d__law_error sc__law_error (fun _ _ _ _ _ _ us hl => match us, hl with | [_], _ => rfl) (fun base tb f cdv A outer s H E p cn cls hr hcn hcm hp => ?_)
  exact (ss_cons (ss_set (i := 1) sc__law_error.nd (se_lst (sa_cons (se_isO 0 T.errs hcn hcm hp T.m_isinstance (by decide)) (sa_cons (se_isO 0 T.errs hcn hcm hp T.m_isinstance (by decide)) (sa_cons (se_isO 0 T.errs hcn hcm hp T.m_isinstance (by decide)) sa_nil)))))
  (ss_cons (ss_set (i := 1) sc__law_error.nd (se_op so_add (se_var 1) (se_lst (sa_cons (se_isO 0 T.errs hcn hcm hp T.m_isinstance (by decide)) (sa_cons (se_isO 0 T.errs hcn hcm hp T.m_isinstance (by decide)) (sa_cons (se_isO 0 T.errs hcn hcm hp T.m_isinstance (by decide)) sa_nil))))))
  (ss_cons (ss_set (i := 1) sc__law_error.nd (se_op so_add (se_var 1) (se_lst (sa_cons (se_isO 0 T.errs hcn hcm hp T.m_isinstance (by decide)) (sa_cons (se_isO 0 T.errs hcn hcm hp T.m_isinstance (by decide)) (sa_cons (se_isO 0 T.errs hcn hcm hp T.m_isinstance (by decide)) sa_nil))))))
  (ss_cons (ss_set (i := 1) sc__law_error.nd (se_op so_add (se_var 1) (se_lst (sa_cons (se_isO 0 T.errs hcn hcm hp T.m_isinstance (by decide)) (sa_cons (se_isO 0 T.errs hcn hcm hp T.m_isinstance (by decide)) (sa_cons (se_isO 0 T.errs hcn hcm hp T.m_isinstance (by decide)) sa_nil))))))
  (ss_cons (ss_set (i := 1) sc__law_error.nd (se_op so_add (se_var 1) (se_lst (sa_cons (se_isO 0 T.errs hcn hcm hp T.m_isinstance (by decide)) (sa_cons (se_isO 0 T.errs hcn hcm hp T.m_isinstance (by decide)) sa_nil)))))
  (ss_cons (ss_if (st_w (sw_or (st_not (st_tru (se_isV 0 T.errs hcn hcm hp T.m_isinstance T.m_ValueError))) (sw_or1 (st_cmp (so_ne (huEH hr)) (se_callB sc_len T.m_len (by decide +kernel) (sa_cons (se_lcH (PinX.hot hp) sc__law_error.nd (sih_lst (se_var 1)) (blkOk_by (own := [("flag", 2)]) (by rfl)) (fun _ _ _ _ _ => (sg_name (i := 2) sc__law_error.nd)) (fun _ _ _ _ _ => (sts_one (st_tru (se_var 2)))) (fun _ _ _ _ _ => (se_var 2))) sa_nil)) se_int)))) (ss_one (ss_ret (se_neg se_int))) ss_nil)
  (ss_one (ss_ret (se_lindex (se_var 1) (sa_cons se_bl sa_nil))))))))))
theorem ok__law_over (T : Facts K mg) : ∀ n : Nat, Fok P w K mg "_law_over" (0 + n) ["kind", "numbers"] (f__law_over n)
  | 0 => Fok.none (ps := ["kind", "numbers"]) T.d__law_over (fun _ _ _ _ _ _ us hl => match us, hl with | [_, _], _ => rfl)
  | n + 1 => by
    have self_ok := ok__law_over T n
    refine Fok.of T.d__law_over sc__law_over (fun _ _ _ _ _ _ us hl => match us, hl with | [_, _], _ => rfl) (fun base tb f cdv A outer s H E hr => ?_)
    exact (ss_cons (ss_if (st_cmp (so_eq (huE hr)) (se_ix (se_var 0) se_int) se_str) (ss_one (ss_ret (se_callTy sc_list T.m_list (by decide +kernel) (sa_cons (se_ix (se_var 0) se_int) sa_nil)))) ss_nil)
  (ss_cons (ss_if (st_cmp (so_eq (huE hr)) (se_ix (se_var 0) se_int) se_str) (ss_one (ss_ret (se_callTy sc_list T.m_list (by decide +kernel) (sa_cons (se_var 1) sa_nil)))) ss_nil)
  (ss_cons (ss_set (i := 2) sc__law_over.nd (se_lst sa_nil))
  (ss_cons (ss_if (st_cmp (so_eq (huE hr)) (se_ix (se_var 0) se_int) se_str) (ss_cons (ss_set (i := 3) sc__law_over.nd (se_call self_ok hr (sa_cons (se_ix (se_var 0) se_int) (sa_cons (se_var 1) sa_nil))))
    (ss_cons (ss_for PassesOwn.never rfl (si_seq (se_call self_ok hr (sa_cons (se_ix (se_var 0) se_int) (sa_cons (se_var 1) sa_nil)))) (sg_name (i := 4) sc__law_over.nd) (ss_one (ss_expr (se_extend (se_var 2) (se_lc rfl sc__law_over.nd (si_seq (se_var 3)) (blkOk_by (own := [("second", 5)]) (by rfl)) (fun _ _ _ _ _ => (sg_name (i := 5) sc__law_over.nd)) (fun _ _ _ _ _ => sts_nil) (fun _ _ _ _ _ => (se_tup (sa_cons se_str (sa_cons (se_var 4) (sa_cons (se_var 5) sa_nil))))))))))
    (ss_one (ss_ret (se_var 2))))) ss_nil)
  (ss_cons (ss_if (st_cmp (so_eq (huE hr)) (se_ix (se_var 0) se_int) se_str) (ss_cons (ss_for PassesOwn.never rfl (si_rng1 T.m_range (se_callB sc_len T.m_len (by decide +kernel) (sa_cons (se_ix (se_var 0) se_int) sa_nil))) (sg_name (i := 6) sc__law_over.nd) (ss_one (ss_expr (se_extend (se_var 2) (se_lc rfl sc__law_over.nd (si_seq (se_call self_ok hr (sa_cons (se_ix (se_ix (se_var 0) se_int) (se_var 6)) (sa_cons (se_var 1) sa_nil)))) (blkOk_by (own := [("one", 7)]) (by rfl)) (fun _ _ _ _ _ => (sg_name (i := 7) sc__law_over.nd)) (fun _ _ _ _ _ => sts_nil) (fun _ _ _ _ _ => (se_tup (sa_cons se_str (sa_cons (se_var 6) (sa_cons (se_var 7) sa_nil))))))))))
    (ss_one (ss_ret (se_var 2)))) ss_nil)
  (ss_one (ss_ret (se_op so_add (se_lst (sa_cons (se_tup (sa_cons se_str sa_nil)) sa_nil)) (se_lc rfl sc__law_over.nd (si_seq (se_call self_ok hr (sa_cons (se_ix (se_var 0) se_int) (sa_cons (se_var 1) sa_nil)))) (blkOk_by (own := [("one", 7)]) (by rfl)) (fun _ _ _ _ _ => (sg_name (i := 7) sc__law_over.nd)) (fun _ _ _ _ _ => sts_nil) (fun _ _ _ _ _ => (se_tup (sa_cons se_str (sa_cons (se_var 7) sa_nil)))))))))))))
theorem ok__law_small (T : Facts K mg) : Fok P w K mg "_law_small" 5 ["tape", "kind", "limit"] f__law_small := by
  refine Fok.of (k := 4) T.d__law_small sc__law_small (fun _ _ _ _ _ _ us hl => match us, hl with | [_, _, _], _ => rfl) (fun base tb f cdv A outer s H E hr => ?_)
  exact (ss_cons (ss_setLc (i := 3) rfl sc__law_small.nd (si_rng1 T.m_range se_int) (blkOk_by (own := [("k", 4)]) (by rfl)) (fun _ _ _ _ _ => (sg_name (i := 4) sc__law_small.nd)) (fun _ _ _ _ _ => sts_nil) (fun _ _ _ _ _ => (se_op so_sub (se_call (ok__law_draw T) hr (sa_cons (se_var 0) (sa_cons (se_op so_add (se_op so_mul se_int (se_var 2)) se_int) sa_nil))) (se_var 2))))
  (ss_one (ss_ret (se_call (ok__law_pick T) hr (sa_cons (se_var 0) (sa_cons (se_call (ok__law_over T 4) hr (sa_cons (se_var 1) (sa_cons (se_var 3) sa_nil))) sa_nil))))))
theorem ok__law_paths (T : Facts K mg) : ∀ n : Nat, Fok P w K mg "_law_paths" (0 + n) ["kind"] (f__law_paths n)
  | 0 => Fok.none (ps := ["kind"]) T.d__law_paths (fun _ _ _ _ _ _ us hl => match us, hl with | [_], _ => rfl)
  | n + 1 => by
    have self_ok := ok__law_paths T n
    refine Fok.of T.d__law_paths sc__law_paths (fun _ _ _ _ _ _ us hl => match us, hl with | [_], _ => rfl) (fun base tb f cdv A outer s H E hr => ?_)
    exact (ss_cons (ss_set (i := 1) sc__law_paths.nd (se_lst (sa_cons (se_tup (sa_cons (se_tup sa_nil) (sa_cons (se_var 0) sa_nil))) sa_nil)))
  (ss_cons (ss_if (st_cmp (so_eq (huE hr)) (se_ix (se_var 0) se_int) se_str) (ss_cons (ss_set (i := 1) sc__law_paths.nd (se_op so_add (se_var 1) (se_lc rfl sc__law_paths.nd (si_seq (se_call self_ok hr (sa_cons (se_ix (se_var 0) se_int) sa_nil))) (blkOk_by (own := [("row", 2)]) (by rfl)) (fun _ _ _ _ _ => (sg_name (i := 2) sc__law_paths.nd)) (fun _ _ _ _ _ => sts_nil) (fun _ _ _ _ _ => (se_tup (sa_cons (se_op so_add (se_tup (sa_cons se_str sa_nil)) (se_ix (se_var 2) se_int)) (sa_cons (se_ix (se_var 2) se_int) sa_nil)))))))
    (ss_one (ss_set (i := 1) sc__law_paths.nd (se_op so_add (se_var 1) (se_lc rfl sc__law_paths.nd (si_seq (se_call self_ok hr (sa_cons (se_ix (se_var 0) se_int) sa_nil))) (blkOk_by (own := [("row", 2)]) (by rfl)) (fun _ _ _ _ _ => (sg_name (i := 2) sc__law_paths.nd)) (fun _ _ _ _ _ => sts_nil) (fun _ _ _ _ _ => (se_tup (sa_cons (se_op so_add (se_tup (sa_cons se_str sa_nil)) (se_ix (se_var 2) se_int)) (sa_cons (se_ix (se_var 2) se_int) sa_nil))))))))) ss_nil)
  (ss_cons (ss_if (st_cmp (so_eq (huE hr)) (se_ix (se_var 0) se_int) se_str) (ss_one (ss_for PassesOwn.never rfl (si_rng1 T.m_range (se_callB sc_len T.m_len (by decide +kernel) (sa_cons (se_ix (se_var 0) se_int) sa_nil))) (sg_name (i := 3) sc__law_paths.nd) (ss_one (ss_set (i := 1) sc__law_paths.nd (se_op so_add (se_var 1) (se_lc rfl sc__law_paths.nd (si_seq (se_call self_ok hr (sa_cons (se_ix (se_ix (se_var 0) se_int) (se_var 3)) sa_nil))) (blkOk_by (own := [("row", 2)]) (by rfl)) (fun _ _ _ _ _ => (sg_name (i := 2) sc__law_paths.nd)) (fun _ _ _ _ _ => sts_nil) (fun _ _ _ _ _ => (se_tup (sa_cons (se_op so_add (se_tup (sa_cons (se_var 3) sa_nil)) (se_ix (se_var 2) se_int)) (sa_cons (se_ix (se_var 2) se_int) sa_nil)))))))))) ss_nil)
  (ss_cons (ss_if (st_cmp (so_eq (huE hr)) (se_ix (se_var 0) se_int) se_str) (ss_one (ss_set (i := 1) sc__law_paths.nd (se_op so_add (se_var 1) (se_lc rfl sc__law_paths.nd (si_seq (se_call self_ok hr (sa_cons (se_ix (se_var 0) se_int) sa_nil))) (blkOk_by (own := [("row", 2)]) (by rfl)) (fun _ _ _ _ _ => (sg_name (i := 2) sc__law_paths.nd)) (fun _ _ _ _ _ => sts_nil) (fun _ _ _ _ _ => (se_tup (sa_cons (se_op so_add (se_tup (sa_cons se_str sa_nil)) (se_ix (se_var 2) se_int)) (sa_cons (se_ix (se_var 2) se_int) sa_nil)))))))) ss_nil)
  (ss_one (ss_ret (se_var 1)))))))
theorem ok__law_kind_at (T : Facts K mg) : Fok P w K mg "_law_kind_at" 2 ["kind", "path"] f__law_kind_at := by
  refine Fok.of (k := 1) T.d__law_kind_at sc__law_kind_at (fun _ _ _ _ _ _ us hl => match us, hl with | [_, _], _ => rfl) (fun base tb f cdv A outer s H E hr => ?_)
  exact (ss_cons (ss_if (st_not (st_tru (se_callB sc_isi T.m_isinstance (by decide +kernel) (sa_cons (se_var 1) (sa_cons (se_ty T.m_tuple (by decide +kernel)) sa_nil))))) (ss_one (ss_ret se_non)) ss_nil)
  (ss_cons (ss_for PassesOwn.never rfl (si_seq (se_var 1)) (sg_name (i := 2) sc__law_kind_at.nd) (ss_one (ss_if (st_w (sw_and (st_cmp (so_eq (huE hr)) (se_ix (se_var 0) se_int) se_str) (sw_and (st_tru (se_callB sc_isi T.m_isinstance (by decide +kernel) (sa_cons (se_var 2) (sa_cons (se_ty T.m_str (by decide +kernel)) sa_nil)))) (sw_and1 (st_cmp (so_in (huI hr)) (se_var 2) (se_lst (sa_cons se_str (sa_cons se_str sa_nil)))))))) (ss_one (ss_set (i := 0) sc__law_kind_at.nd (se_ix (se_var 0) (se_op so_add se_int (se_callTy sc_int T.m_int (by decide +kernel) (sa_cons (se_cmp (so_eq (huE hr)) (se_var 2) se_str) sa_nil)))))) (ss_one (ss_if (st_w (sw_and (st_cmp (so_eq (huE hr)) (se_ix (se_var 0) se_int) se_str) (sw_and (st_tru (se_callB sc_isi T.m_isinstance (by decide +kernel) (sa_cons (se_var 2) (sa_cons (se_ty T.m_str (by decide +kernel)) sa_nil)))) (sw_and1 (st_cmp (so_eq (huE hr)) (se_var 2) se_str))))) (ss_one (ss_set (i := 0) sc__law_kind_at.nd (se_ix (se_var 0) se_int))) (ss_one (ss_if (st_w (sw_and (st_cmp (so_eq (huE hr)) (se_ix (se_var 0) se_int) se_str) (sw_and (st_tru (se_call (ok__law_whole T) hr (sa_cons (se_var 2) sa_nil))) (sw_and (st_cmp so_ge (se_var 2) se_int) (sw_and1 (st_cmp so_lt (se_var 2) (se_callB sc_len T.m_len (by decide +kernel) (sa_cons (se_ix (se_var 0) se_int) sa_nil)))))))) (ss_one (ss_set (i := 0) sc__law_kind_at.nd (se_ix (se_ix (se_var 0) se_int) (se_var 2)))) (ss_one (ss_ret se_non)))))))))
  (ss_one (ss_ret (se_var 0)))))
theorem ok__law_at (T : Facts K mg) : Fok P w K mg "_law_at" 1 ["letter", "path"] f__law_at := by
  refine Fok.of (k := 0) T.d__law_at sc__law_at (fun _ _ _ _ _ _ us hl => match us, hl with | [_, _], _ => rfl) (fun base tb f cdv A outer s H E hr => ?_)
  exact (ss_cons (ss_for PassesOwn.never rfl (si_seq (se_var 1)) (sg_name (i := 2) sc__law_at.nd) (ss_cons (ss_if (st_not (st_tru (se_callB sc_isi T.m_isinstance (by decide +kernel) (sa_cons (se_var 0) (sa_cons (se_ty T.m_tuple (by decide +kernel)) sa_nil))))) (ss_one (ss_ret se_non)) ss_nil)
    (ss_cons (ss_set (i := 3) sc__law_at.nd (se_get2 (huD hr) (se_disp (sp_cons se_str se_str (sp_cons se_str se_str (sp_cons se_str se_str sp_nil)))) (se_var 2) se_str))
    (ss_cons (ss_if (st_w (sw_or (st_cmp (so_ne (huE hr)) (se_ix (se_var 0) se_int) (se_var 3)) (sw_or1 (st_w (sw_and (st_cmp (so_eq (huE hr)) (se_var 3) se_str) (sw_and1 (st_cmp (so_ne (huE hr)) (se_ix (se_var 0) se_int) (se_var 2)))))))) (ss_one (ss_ret se_non)) ss_nil)
    (ss_one (ss_set (i := 0) sc__law_at.nd (se_ix (se_var 0) (se_op so_add se_int (se_callTy sc_int T.m_int (by decide +kernel) (sa_cons (se_cmp (so_notIn (huI hr)) (se_var 2) (se_lst (sa_cons se_str (sa_cons se_str sa_nil)))) sa_nil))))))))))
  (ss_one (ss_ret (se_var 0))))
theorem ok__law_term (T : Facts K mg) : ∀ n : Nat, Fok P w K mg "_law_term" (5 + n) ["tape", "paths", "other", "limit"] (f__law_term n)
  | 0 => Fok.none (ps := ["tape", "paths", "other", "limit"]) T.d__law_term (fun _ _ _ _ _ _ us hl => match us, hl with | [_, _, _, _], _ => rfl)
  | n + 1 => by
    have self_ok := ok__law_term T n
    refine Fok.of T.d__law_term sc__law_term (fun _ _ _ _ _ _ us hl => match us, hl with | [_, _, _, _], _ => rfl) (fun base tb f cdv A outer s H E hr => ?_)
    exact (ss_cons (ss_setLc (i := 4) rfl sc__law_term.nd (si_seq (se_var 1)) (blkOk_by (own := [("row", 5)]) (by rfl)) (fun _ _ _ _ _ => (sg_name (i := 5) sc__law_term.nd)) (fun _ _ _ _ _ => (sts_one (st_cmp (so_eq (huE hr)) (se_ix (se_var 5) se_int) (se_var 2)))) (fun _ _ _ _ _ => (se_ix (se_var 5) se_int)))
  (ss_cons (ss_set (i := 6) sc__law_term.nd (se_call (ok__law_draw T) hr (sa_cons (se_var 0) (sa_cons se_int sa_nil))))
  (ss_cons (ss_if (st_w (sw_and (st_tru (se_var 4)) (sw_and1 (st_cmp so_gt (se_var 6) se_int)))) (ss_cons (ss_set (i := 7) sc__law_term.nd (se_call (ok__law_pick T) hr (sa_cons (se_var 0) (sa_cons (se_var 4) sa_nil))))
    (ss_cons (ss_if (st_w (sw_and (st_cmp (so_eq (huE hr)) (se_ix (se_var 2) se_int) se_str) (sw_and1 (st_cmp so_gt (se_var 6) se_int)))) (ss_one (ss_ret (se_tup (sa_cons (se_ix (se_lst (sa_cons se_str (sa_cons se_str sa_nil))) (se_op so_mod (se_callTy sc_int T.m_int (by decide +kernel) (sa_cons (se_var 6) sa_nil)) se_int)) (sa_cons (se_var 7) (sa_cons (se_op so_sub (se_call (ok__law_draw T) hr (sa_cons (se_var 0) (sa_cons (se_op so_add (se_op so_mul se_int (se_var 3)) se_int) sa_nil))) (se_var 3)) sa_nil)))))) ss_nil)
    (ss_one (ss_ret (se_tup (sa_cons se_str (sa_cons (se_var 7) sa_nil))))))) ss_nil)
  (ss_cons (ss_if (st_w (sw_and (st_cmp (so_eq (huE hr)) (se_ix (se_var 2) se_int) se_str) (sw_and1 (st_cmp so_gt (se_var 6) se_int)))) (ss_cons (ss_set (i := 8) sc__law_term.nd (se_call self_ok hr (sa_cons (se_var 0) (sa_cons (se_var 1) (sa_cons (se_ix (se_var 2) se_int) (sa_cons (se_var 3) sa_nil))))))
    (ss_one (ss_ret (se_tup (sa_cons se_str (sa_cons (se_var 8) (sa_cons (se_call self_ok hr (sa_cons (se_var 0) (sa_cons (se_var 1) (sa_cons (se_ix (se_var 2) se_int) (sa_cons (se_var 3) sa_nil))))) sa_nil))))))) ss_nil)
  (ss_cons (ss_if (st_w (sw_and (st_cmp (so_eq (huE hr)) (se_ix (se_var 2) se_int) se_str) (sw_and1 (st_cmp so_gt (se_var 6) se_int)))) (ss_cons (ss_set (i := 9) sc__law_term.nd (se_call (ok__law_draw T) hr (sa_cons (se_var 0) (sa_cons (se_callB sc_len T.m_len (by decide +kernel) (sa_cons (se_ix (se_var 2) se_int) sa_nil)) sa_nil))))
    (ss_one (ss_ret (se_tup (sa_cons se_str (sa_cons (se_var 9) (sa_cons (se_call self_ok hr (sa_cons (se_var 0) (sa_cons (se_var 1) (sa_cons (se_ix (se_ix (se_var 2) se_int) (se_var 9)) (sa_cons (se_var 3) sa_nil))))) sa_nil))))))) ss_nil)
  (ss_cons (ss_if (st_w (sw_and (st_cmp (so_eq (huE hr)) (se_ix (se_var 2) se_int) se_str) (sw_and1 (st_cmp so_gt (se_var 6) se_int)))) (ss_one (ss_ret (se_tup (sa_cons se_str (sa_cons (se_call self_ok hr (sa_cons (se_var 0) (sa_cons (se_var 1) (sa_cons (se_ix (se_var 2) se_int) (sa_cons (se_var 3) sa_nil))))) sa_nil))))) ss_nil)
  (ss_one (ss_ret (se_tup (sa_cons se_str (sa_cons (se_call (ok__law_small T) hr (sa_cons (se_var 0) (sa_cons (se_var 2) (sa_cons (se_var 3) sa_nil)))) sa_nil)))))))))))
theorem ok__law_gives (T : Facts K mg) : ∀ n : Nat, Fok P w K mg "_law_gives" (1 + n) ["term", "letter"] (f__law_gives n)
  | 0 => Fok.none (ps := ["term", "letter"]) T.d__law_gives (fun _ _ _ _ _ _ us hl => match us, hl with | [_, _], _ => rfl)
  | n + 1 => by
    have self_ok := ok__law_gives T n
    refine Fok.of T.d__law_gives sc__law_gives (fun _ _ _ _ _ _ us hl => match us, hl with | [_, _], _ => rfl) (fun base tb f cdv A outer s H E hr => ?_)
    exact (ss_cons (ss_set (i := 2) sc__law_gives.nd (se_ix (se_var 0) se_int))
  (ss_cons (ss_if (st_cmp (so_eq (huE hr)) (se_var 2) se_str) (ss_one (ss_ret (se_ix (se_var 0) se_int))) ss_nil)
  (ss_cons (ss_if (st_cmp (so_in (huI hr)) (se_var 2) (se_lst (sa_cons se_str (sa_cons se_str (sa_cons se_str sa_nil))))) (ss_cons (ss_set (i := 3) sc__law_gives.nd (se_op so_add se_int (se_callTy sc_int T.m_int (by decide +kernel) (sa_cons (se_cmp (so_eq (huE hr)) (se_var 2) se_str) sa_nil))))
    (ss_cons (ss_setLc (i := 4) rfl sc__law_gives.nd (si_seq (se_slice (se_var 0) (so_some (se_var 3)) so_none)) (blkOk_by (own := [("one", 5)]) (by rfl)) (fun _ _ _ _ _ => (sg_name (i := 5) sc__law_gives.nd)) (fun _ _ _ _ _ => sts_nil) (fun _ _ _ _ _ => (se_call self_ok hr (sa_cons (se_var 5) (sa_cons (se_var 1) sa_nil)))))
    (ss_cons (ss_if (st_cmp (so_in (huI hr)) se_non (se_var 4)) (ss_one (ss_ret se_non)) ss_nil)
    (ss_one (ss_ret (se_op so_add (se_slice (se_var 0) so_none (so_some (se_var 3))) (se_callTy sc_tuple T.m_tuple (by decide +kernel) (sa_cons (se_var 4) sa_nil)))))))) ss_nil)
  (ss_cons (ss_set (i := 6) sc__law_gives.nd (se_call (ok__law_at T) hr (sa_cons (se_var 1) (sa_cons (se_ix (se_var 0) se_int) sa_nil))))
  (ss_cons (ss_if (st_w (sw_or (st_cmp so_isN (se_var 6) se_non) (sw_or1 (st_cmp (so_eq (huE hr)) (se_var 2) se_str)))) (ss_one (ss_ret (se_var 6))) ss_nil)
  (ss_cons (ss_if (st_cmp (so_eq (huE hr)) (se_var 2) se_str) (ss_one (ss_ret (se_op so_add (se_var 6) (se_ix (se_var 0) se_int)))) ss_nil)
  (ss_one (ss_ret (se_op so_sub (se_ix (se_var 0) se_int) (se_var 6))))))))))
theorem ok__law_term_suits (T : Facts K mg) : ∀ n : Nat, Fok P w K mg "_law_term_suits" (5 + n) ["kind", "other", "term"] (f__law_term_suits n)
  | 0 => Fok.none (ps := ["kind", "other", "term"]) T.d__law_term_suits (fun _ _ _ _ _ _ us hl => match us, hl with | [_, _, _], _ => rfl)
  | n + 1 => by
    have self_ok := ok__law_term_suits T n
    refine Fok.of T.d__law_term_suits sc__law_term_suits (fun _ _ _ _ _ _ us hl => match us, hl with | [_, _, _], _ => rfl) (fun base tb f cdv A outer s H E hr => ?_)
    exact (ss_cons (ss_if (st_w (sw_or (st_not (st_tru (se_callB sc_isi T.m_isinstance (by decide +kernel) (sa_cons (se_var 2) (sa_cons (se_ty T.m_tuple (by decide +kernel)) sa_nil))))) (sw_or (st_cmp so_lt (se_callB sc_len T.m_len (by decide +kernel) (sa_cons (se_var 2) sa_nil)) se_int) (sw_or1 (st_not (st_tru (se_callB sc_isi T.m_isinstance (by decide +kernel) (sa_cons (se_ix (se_var 2) se_int) (sa_cons (se_ty T.m_str (by decide +kernel)) sa_nil))))))))) (ss_one (ss_ret se_bl)) ss_nil)
  (ss_cons (ss_set (i := 3) sc__law_term_suits.nd (se_ix (se_var 2) se_int))
  (ss_cons (ss_if (st_cmp (so_eq (huE hr)) (se_var 3) se_str) (ss_one (ss_ret (se_and (se_cmp (so_eq (huE hr)) (se_callB sc_len T.m_len (by decide +kernel) (sa_cons (se_var 2) sa_nil)) se_int) (se_one (se_call (ok__law_is_letter T 4) hr (sa_cons (se_var 1) (sa_cons (se_ix (se_var 2) se_int) sa_nil))))))) ss_nil)
  (ss_cons (ss_if (st_cmp (so_eq (huE hr)) (se_var 3) se_str) (ss_cons (ss_if (st_w (sw_or (st_cmp (so_ne (huE hr)) (se_callB sc_len T.m_len (by decide +kernel) (sa_cons (se_var 2) sa_nil)) se_int) (sw_or1 (st_cmp (so_ne (huE hr)) (se_ix (se_var 1) se_int) se_str)))) (ss_one (ss_ret se_bl)) ss_nil)
    (ss_one (ss_ret (se_and (se_call self_ok hr (sa_cons (se_var 0) (sa_cons (se_ix (se_var 1) se_int) (sa_cons (se_ix (se_var 2) se_int) sa_nil)))) (se_one (se_call self_ok hr (sa_cons (se_var 0) (sa_cons (se_ix (se_var 1) se_int) (sa_cons (se_ix (se_var 2) se_int) sa_nil))))))))) ss_nil)
  (ss_cons (ss_if (st_cmp (so_eq (huE hr)) (se_var 3) se_str) (ss_cons (ss_if (st_w (sw_or (st_cmp (so_ne (huE hr)) (se_callB sc_len T.m_len (by decide +kernel) (sa_cons (se_var 2) sa_nil)) se_int) (sw_or (st_cmp (so_ne (huE hr)) (se_ix (se_var 1) se_int) se_str) (sw_or1 (st_not (st_tru (se_call (ok__law_whole T) hr (sa_cons (se_ix (se_var 2) se_int) sa_nil)))))))) (ss_one (ss_ret se_bl)) ss_nil)
    (ss_one (ss_ret (se_and (se_cmp so_ge (se_ix (se_var 2) se_int) se_int) (se_and (se_cmp so_lt (se_ix (se_var 2) se_int) (se_callB sc_len T.m_len (by decide +kernel) (sa_cons (se_ix (se_var 1) se_int) sa_nil))) (se_one (se_call self_ok hr (sa_cons (se_var 0) (sa_cons (se_ix (se_ix (se_var 1) se_int) (se_ix (se_var 2) se_int)) (sa_cons (se_ix (se_var 2) se_int) sa_nil)))))))))) ss_nil)
  (ss_cons (ss_if (st_cmp (so_eq (huE hr)) (se_var 3) se_str) (ss_one (ss_ret (se_and (se_cmp (so_eq (huE hr)) (se_callB sc_len T.m_len (by decide +kernel) (sa_cons (se_var 2) sa_nil)) se_int) (se_and (se_cmp (so_eq (huE hr)) (se_ix (se_var 1) se_int) se_str) (se_one (se_call self_ok hr (sa_cons (se_var 0) (sa_cons (se_ix (se_var 1) se_int) (sa_cons (se_ix (se_var 2) se_int) sa_nil))))))))) ss_nil)
  (ss_cons (ss_set (i := 4) sc__law_term_suits.nd (se_call (ok__law_kind_at T) hr (sa_cons (se_var 0) (sa_cons (se_ix (se_var 2) se_int) sa_nil))))
  (ss_cons (ss_if (st_cmp (so_eq (huE hr)) (se_var 3) se_str) (ss_one (ss_ret (se_and (se_cmp (so_eq (huE hr)) (se_callB sc_len T.m_len (by decide +kernel) (sa_cons (se_var 2) sa_nil)) se_int) (se_and (se_cmp so_notN (se_var 4) se_non) (se_one (se_cmp (so_eq (huE hr)) (se_var 4) (se_var 1))))))) ss_nil)
  (ss_cons (ss_if (st_w (sw_or (st_cmp (so_notIn (huI hr)) (se_var 3) (se_lst (sa_cons se_str (sa_cons se_str sa_nil)))) (sw_or (st_cmp (so_ne (huE hr)) (se_callB sc_len T.m_len (by decide +kernel) (sa_cons (se_var 2) sa_nil)) se_int) (sw_or1 (st_not (st_tru (se_call (ok__law_whole T) hr (sa_cons (se_ix (se_var 2) se_int) sa_nil)))))))) (ss_one (ss_ret se_bl)) ss_nil)
  (ss_one (ss_ret (se_and (se_cmp so_notN (se_var 4) se_non) (se_and (se_cmp (so_eq (huE hr)) (se_ix (se_var 4) se_int) se_str) (se_one (se_cmp (so_eq (huE hr)) (se_ix (se_var 1) se_int) se_str)))))))))))))))
theorem ok__law_turned (T : Facts K mg) : ∀ n : Nat, Fok P w K mg "_law_turned" (0 + n) ["kind"] (f__law_turned n)
  | 0 => Fok.none (ps := ["kind"]) T.d__law_turned (fun _ _ _ _ _ _ us hl => match us, hl with | [_], _ => rfl)
  | n + 1 => by
    have self_ok := ok__law_turned T n
    refine Fok.of T.d__law_turned sc__law_turned (fun _ _ _ _ _ _ us hl => match us, hl with | [_], _ => rfl) (fun base tb f cdv A outer s H E hr => ?_)
    exact (ss_cons (ss_if (st_cmp (so_eq (huE hr)) (se_ix (se_var 0) se_int) se_str) (ss_one (ss_ret (se_tup (sa_cons se_str (sa_cons (se_tupRev rfl T.m_tuple T.m_reversed (se_ix (se_var 0) se_int)) sa_nil))))) ss_nil)
  (ss_cons (ss_if (st_cmp (so_eq (huE hr)) (se_ix (se_var 0) se_int) se_str) (ss_one (ss_ret (se_tup (sa_cons se_str (sa_cons (se_call self_ok hr (sa_cons (se_ix (se_var 0) se_int) sa_nil)) (sa_cons (se_call self_ok hr (sa_cons (se_ix (se_var 0) se_int) sa_nil)) sa_nil)))))) ss_nil)
  (ss_cons (ss_if (st_cmp (so_eq (huE hr)) (se_ix (se_var 0) se_int) se_str) (ss_one (ss_ret (se_tup (sa_cons se_str (sa_cons (se_callTy sc_tuple T.m_tuple (by decide +kernel) (sa_cons (se_lc rfl sc__law_turned.nd (si_seq (se_ix (se_var 0) se_int)) (blkOk_by (own := [("one", 1)]) (by rfl)) (fun _ _ _ _ _ => (sg_name (i := 1) sc__law_turned.nd)) (fun _ _ _ _ _ => sts_nil) (fun _ _ _ _ _ => (se_call self_ok hr (sa_cons (se_var 1) sa_nil)))) sa_nil)) sa_nil))))) ss_nil)
  (ss_cons (ss_if (st_cmp (so_eq (huE hr)) (se_ix (se_var 0) se_int) se_str) (ss_one (ss_ret (se_tup (sa_cons se_str (sa_cons (se_call self_ok hr (sa_cons (se_ix (se_var 0) se_int) sa_nil)) sa_nil))))) ss_nil)
  (ss_one (ss_ret (se_var 0)))))))
theorem ok__law_other_kind (T : Facts K mg) : Fok P w K mg "_law_other_kind" 9 ["tape", "kind"] f__law_other_kind := by
  refine Fok.of (k := 8) T.d__law_other_kind sc__law_other_kind (fun _ _ _ _ _ _ us hl => match us, hl with | [_, _], _ => rfl) (fun base tb f cdv A outer s H E hr => ?_)
  exact (ss_cons (ss_set (i := 2) sc__law_other_kind.nd (se_call (ok__law_draw T) hr (sa_cons (se_var 0) (sa_cons se_int sa_nil))))
  (ss_cons (ss_set (i := 3) sc__law_other_kind.nd (se_call (ok__law_turned T 4) hr (sa_cons (se_var 1) sa_nil)))
  (ss_cons (ss_if (st_w (sw_and (st_cmp so_lt (se_var 2) se_int) (sw_and1 (st_cmp (so_ne (huE hr)) (se_var 3) (se_var 1))))) (ss_one (ss_ret (se_var 3))) ss_nil)
  (ss_cons (ss_if (st_w (sw_and (st_cmp (so_eq (huE hr)) (se_var 2) se_int) (sw_and1 (st_cmp (so_in (huI hr)) (se_ix (se_var 1) se_int) (se_lst (sa_cons se_str (sa_cons se_str sa_nil))))))) (ss_one (ss_ret (se_tup (sa_cons se_str (sa_cons (se_var 1) sa_nil))))) ss_nil)
  (ss_cons (ss_set (i := 4) sc__law_other_kind.nd (se_call (ok__law_kind T 4) hr (sa_cons (se_var 0) (sa_cons se_int (sa_cons se_int sa_nil)))))
  (ss_cons (ss_if (st_cmp (so_eq (huE hr)) (se_var 4) (se_var 1)) (ss_one (ss_ret (se_ix (se_lst (sa_cons (se_tup (sa_cons se_str (sa_cons (se_tup (sa_cons se_str sa_nil)) sa_nil))) (sa_cons (se_tup (sa_cons se_str sa_nil)) sa_nil))) (se_callTy sc_int T.m_int (by decide +kernel) (sa_cons (se_cmp (so_eq (huE hr)) (se_ix (se_var 1) se_int) se_str) sa_nil))))) ss_nil)
  (ss_one (ss_ret (se_var 4)))))))))
theorem ok__law_wild_leaf (T : Facts K mg) : Fok P w K mg "_law_wild_leaf" 6 ["tape", "kinds"] f__law_wild_leaf := by
  refine Fok.of (k := 5) T.d__law_wild_leaf sc__law_wild_leaf (fun _ _ _ _ _ _ us hl => match us, hl with | [_, _], _ => rfl) (fun base tb f cdv A outer s H E hr => ?_)
  exact (ss_cons (ss_set (i := 2) sc__law_wild_leaf.nd (se_call (ok__law_draw T) hr (sa_cons (se_var 0) (sa_cons se_int sa_nil))))
  (ss_cons (ss_if (st_cmp (so_eq (huE hr)) (se_var 2) se_int) (ss_one (ss_ret (se_tup (sa_cons se_str (sa_cons (se_call (ok__law_small T) hr (sa_cons (se_var 0) (sa_cons (se_call (ok__law_pick T) hr (sa_cons (se_var 0) (sa_cons (se_var 1) sa_nil))) (sa_cons se_int sa_nil)))) sa_nil))))) ss_nil)
  (ss_cons (ss_set (i := 3) sc__law_wild_leaf.nd (se_callTy sc_tuple T.m_tuple (by decide +kernel) (sa_cons (se_lc rfl sc__law_wild_leaf.nd (si_rng1 T.m_range (se_call (ok__law_draw T) hr (sa_cons (se_var 0) (sa_cons se_int sa_nil)))) (blkOk_by (own := [("k", 4)]) (by rfl)) (fun _ _ _ _ _ => (sg_name (i := 4) sc__law_wild_leaf.nd)) (fun _ _ _ _ _ => sts_nil) (fun _ _ _ _ _ => (se_call (ok__law_pick T) hr (sa_cons (se_var 0) (sa_cons (se_lst (sa_cons se_str (sa_cons se_str (sa_cons se_str (sa_cons se_int (sa_cons se_int (sa_cons se_int sa_nil))))))) sa_nil))))) sa_nil)))
  (ss_cons (ss_if (st_cmp (so_eq (huE hr)) (se_var 2) se_int) (ss_one (ss_ret (se_tup (sa_cons se_str (sa_cons (se_var 3) sa_nil))))) ss_nil)
  (ss_one (ss_ret (se_tup (sa_cons (se_ix (se_lst (sa_cons se_str (sa_cons se_str sa_nil))) (se_op so_sub (se_var 2) se_int)) (sa_cons (se_var 3) (sa_cons (se_op so_sub (se_call (ok__law_draw T) hr (sa_cons (se_var 0) (sa_cons se_int sa_nil))) se_int) sa_nil))))))))))
theorem ok__law_spoilt (T : Facts K mg) : ∀ n : Nat, Fok P w K mg "_law_spoilt" (6 + n) ["tape", "term", "kinds"] (f__law_spoilt n)
  | 0 => Fok.none (ps := ["tape", "term", "kinds"]) T.d__law_spoilt (fun _ _ _ _ _ _ us hl => match us, hl with | [_, _, _], _ => rfl)
  | n + 1 => by
    have self_ok := ok__law_spoilt T n
    refine Fok.of T.d__law_spoilt sc__law_spoilt (fun _ _ _ _ _ _ us hl => match us, hl with | [_, _, _], _ => rfl) (fun base tb f cdv A outer s H E hr => ?_)
    exact (ss_cons (ss_set (i := 3) sc__law_spoilt.nd (se_ix (se_var 1) se_int))
  (ss_cons (ss_set (i := 4) sc__law_spoilt.nd (se_cmp so_gt (se_call (ok__law_draw T) hr (sa_cons (se_var 0) (sa_cons se_int sa_nil))) se_int))
  (ss_cons (ss_if (st_w (sw_and (st_cmp (so_eq (huE hr)) (se_var 3) se_str) (sw_and1 (st_tru (se_var 4))))) (ss_cons (ss_if (st_cmp (so_eq (huE hr)) (se_call (ok__law_draw T) hr (sa_cons (se_var 0) (sa_cons se_int sa_nil))) se_int) (ss_one (ss_ret (se_tup (sa_cons se_str (sa_cons (se_call self_ok hr (sa_cons (se_var 0) (sa_cons (se_ix (se_var 1) se_int) (sa_cons (se_var 2) sa_nil)))) (sa_cons (se_ix (se_var 1) se_int) sa_nil)))))) ss_nil)
    (ss_one (ss_ret (se_tup (sa_cons se_str (sa_cons (se_ix (se_var 1) se_int) (sa_cons (se_call self_ok hr (sa_cons (se_var 0) (sa_cons (se_ix (se_var 1) se_int) (sa_cons (se_var 2) sa_nil)))) sa_nil))))))) ss_nil)
  (ss_cons (ss_if (st_w (sw_and (st_cmp (so_eq (huE hr)) (se_var 3) se_str) (sw_and1 (st_tru (se_var 4))))) (ss_cons (ss_if (st_cmp (so_eq (huE hr)) (se_call (ok__law_draw T) hr (sa_cons (se_var 0) (sa_cons se_int sa_nil))) se_int) (ss_one (ss_ret (se_tup (sa_cons se_str (sa_cons (se_call (ok__law_draw T) hr (sa_cons (se_var 0) (sa_cons se_int sa_nil))) (sa_cons (se_ix (se_var 1) se_int) sa_nil)))))) ss_nil)
    (ss_one (ss_ret (se_tup (sa_cons se_str (sa_cons (se_ix (se_var 1) se_int) (sa_cons (se_call self_ok hr (sa_cons (se_var 0) (sa_cons (se_ix (se_var 1) se_int) (sa_cons (se_var 2) sa_nil)))) sa_nil))))))) ss_nil)
  (ss_cons (ss_if (st_w (sw_and (st_cmp (so_eq (huE hr)) (se_var 3) se_str) (sw_and1 (st_tru (se_var 4))))) (ss_one (ss_ret (se_tup (sa_cons se_str (sa_cons (se_call self_ok hr (sa_cons (se_var 0) (sa_cons (se_ix (se_var 1) se_int) (sa_cons (se_var 2) sa_nil)))) sa_nil))))) ss_nil)
  (ss_cons (ss_set (i := 5) sc__law_spoilt.nd (se_call (ok__law_wild_leaf T) hr (sa_cons (se_var 0) (sa_cons (se_var 2) sa_nil))))
  (ss_cons (ss_set (i := 6) sc__law_spoilt.nd (se_call (ok__law_draw T) hr (sa_cons (se_var 0) (sa_cons se_int sa_nil))))
  (ss_cons (ss_if (st_w (sw_and (st_cmp (so_in (huI hr)) (se_var 3) (se_lst (sa_cons se_str (sa_cons se_str (sa_cons se_str sa_nil))))) (sw_and1 (st_cmp (so_eq (huE hr)) (se_var 6) se_int)))) (ss_one (ss_ret (se_tup (sa_cons se_str (sa_cons (se_var 5) sa_nil))))) ss_nil)
  (ss_cons (ss_if (st_w (sw_and (st_cmp (so_in (huI hr)) (se_var 3) (se_lst (sa_cons se_str (sa_cons se_str (sa_cons se_str sa_nil))))) (sw_and1 (st_cmp (so_eq (huE hr)) (se_var 6) se_int)))) (ss_one (ss_ret (se_tup (sa_cons se_str (sa_cons (se_call (ok__law_draw T) hr (sa_cons (se_var 0) (sa_cons se_int sa_nil))) (sa_cons (se_var 5) sa_nil)))))) ss_nil)
  (ss_cons (ss_if (st_w (sw_and (st_cmp (so_eq (huE hr)) (se_var 3) se_str) (sw_and1 (st_cmp (so_eq (huE hr)) (se_var 6) se_int)))) (ss_one (ss_ret (se_tup (sa_cons se_str (sa_cons (se_var 5) (sa_cons (se_call (ok__law_wild_leaf T) hr (sa_cons (se_var 0) (sa_cons (se_var 2) sa_nil))) sa_nil)))))) ss_nil)
  (ss_one (ss_ret (se_var 5)))))))))))))
theorem ok__law_checked (T : Facts K mg) : Fok P w K mg "_law_checked" 12 ["kind", "other", "term"] f__law_checked := by
  refine Fok.of (k := 11) T.d__law_checked sc__law_checked (fun _ _ _ _ _ _ us hl => match us, hl with | [_, _, _], _ => rfl) (fun base tb f cdv A outer s H E hr => ?_)
  exact (ss_one (ss_try (i := 3) (h := fun a cn => (dRet (dTup [(dC (.str (PySem.Str.ofString "refused"))), (dCall (f__law_error a cn) [(dVar 3)])]))) sc__law_checked.nd T.errs takesN0 (fun W pn xe tk hp => (ss_one (ss_ret (se_tup (sa_cons se_str (sa_cons (se_callX (ok_check_term T) hr tk (sa_cons (se_var 0) (sa_cons (se_var 1) (sa_cons (se_var 2) sa_nil)))) sa_nil)))))) (fun a oe cn cls pn hcn hcm hp => by
    have hr := roomM (v := some (.ref a)) hr
    exact (ss_one (ss_ret (se_tup (sa_cons se_str (sa_cons (se_callE (ok__law_error T) hr hp hcn hcm (sa_cons (se_var 3) sa_nil)) sa_nil)))))) par__law_checked))
theorem ok_law (T : Facts K mg) : Fok P w K mg "law" 13 ["script"] f_law := by
  refine Fok.of (k := 12) T.d_law sc_law (fun _ _ _ _ _ _ us hl => match us, hl with | [_], _ => rfl) (fun base tb f cdv A outer s H E hr => ?_)
  exact (ss_cons (ss_set (i := 1) sc_law.nd (se_call (ok__law_tape T) hr (sa_cons (se_var 0) sa_nil)))
  (ss_cons (ss_set (i := 2) sc_law.nd (se_call (ok__law_any_kind T) hr (sa_cons (se_var 1) sa_nil)))
  (ss_cons (ss_set (i := 3) sc_law.nd (se_call (ok__law_any_kind T) hr (sa_cons (se_var 1) sa_nil)))
  (ss_cons (ss_set (i := 4) sc_law.nd (se_call (ok__law_paths T 4) hr (sa_cons (se_var 2) sa_nil)))
  (ss_cons (ss_set (i := 5) sc_law.nd (se_cmp (so_eq (huE hr)) (se_call (ok__law_draw T) hr (sa_cons (se_var 1) (sa_cons se_int sa_nil))) se_int))
  (ss_cons (ss_for PassesOwn.never rfl (si_rng1 T.m_range se_int) (sg_name (i := 6) sc_law.nd) (ss_cons (ss_set (i := 7) sc_law.nd (se_call (ok__law_term T 4) hr (sa_cons (se_var 1) (sa_cons (se_var 4) (sa_cons (se_var 3) (sa_cons se_int sa_nil))))))
    (ss_cons (ss_setLc (i := 8) rfl sc_law.nd (si_rng1 T.m_range se_int) (blkOk_by (own := [("k", 9)]) (by rfl)) (fun _ _ _ _ _ => (sg_name (i := 9) sc_law.nd)) (fun _ _ _ _ _ => sts_nil) (fun _ _ _ _ _ => (se_call (ok__law_letter T 4) hr (sa_cons (se_var 1) (sa_cons (se_var 2) (sa_cons (se_tup (sa_cons se_int (sa_cons se_int sa_nil))) sa_nil))))))
    (ss_cons (ss_if (st_w (sw_and (st_tru (se_var 5)) (sw_and1 (st_not (st_tru (se_call (ok__law_same T 4) hr (sa_cons (se_call (ok__law_checked T) hr (sa_cons (se_var 2) (sa_cons (se_var 3) (sa_cons (se_var 7) sa_nil)))) (sa_cons (se_tup (sa_cons se_str (sa_cons se_non sa_nil))) sa_nil)))))))) (ss_one (ss_ret se_bl)) ss_nil)
    (ss_cons (ss_for PassesOwn.never rfl (si_seq (se_op so_add (se_var 8) (se_slice (se_var 8) so_none (so_some se_int)))) (sg_name (i := 10) sc_law.nd) (ss_one (ss_if (st_not (st_tru (se_call (ok__law_same T 4) hr (sa_cons (se_call (ok_gives T 4) hr (sa_cons (se_var 7) (sa_cons (se_var 10) sa_nil))) (sa_cons (se_call (ok__law_gives T 4) hr (sa_cons (se_var 7) (sa_cons (se_var 10) sa_nil))) sa_nil))))) (ss_one (ss_ret se_bl)) ss_nil)))
    (ss_cons (ss_set (i := 11) sc_law.nd (se_call (ok__law_spoilt T 4) hr (sa_cons (se_var 1) (sa_cons (se_var 7) (sa_cons (se_lst (sa_cons (se_var 2) (sa_cons (se_var 3) sa_nil))) sa_nil)))))
    (ss_cons (ss_set (i := 12) sc_law.nd (se_lst (sa_cons (se_tup (sa_cons (se_var 2) (sa_cons (se_var 3) (sa_cons (se_var 7) sa_nil)))) (sa_cons (se_tup (sa_cons (se_var 2) (sa_cons (se_var 3) (sa_cons (se_var 11) sa_nil)))) (sa_cons (se_tup (sa_cons (se_call (ok__law_other_kind T) hr (sa_cons (se_var 1) (sa_cons (se_var 2) sa_nil))) (sa_cons (se_var 3) (sa_cons (se_var 7) sa_nil)))) sa_nil)))))
    (ss_cons (ss_set (i := 12) sc_law.nd (se_op so_add (se_var 12) (se_lst (sa_cons (se_tup (sa_cons (se_var 2) (sa_cons (se_call (ok__law_other_kind T) hr (sa_cons (se_var 1) (sa_cons (se_var 3) sa_nil))) (sa_cons (se_var 7) sa_nil)))) (sa_cons (se_tup (sa_cons (se_var 2) (sa_cons (se_var 3) (sa_cons (se_var 7) sa_nil)))) sa_nil)))))
    (ss_one (ss_for PassesOwn.never rfl (si_seq (se_var 12)) (sg_name (i := 13) sc_law.nd) (ss_cons (ss_set (i := 14) sc_law.nd (se_tup (sa_cons se_str (sa_cons se_non sa_nil))))
      (ss_cons (ss_if (st_not (st_tru (se_call (ok__law_term_suits T 4) hr (sa_cons (se_ix (se_var 13) se_int) (sa_cons (se_ix (se_var 13) se_int) (sa_cons (se_ix (se_var 13) se_int) sa_nil)))))) (ss_one (ss_set (i := 14) sc_law.nd (se_tup (sa_cons se_str (sa_cons se_int sa_nil))))) ss_nil)
      (ss_one (ss_if (st_not (st_tru (se_call (ok__law_same T 4) hr (sa_cons (se_call (ok__law_checked T) hr (sa_cons (se_ix (se_var 13) se_int) (sa_cons (se_ix (se_var 13) se_int) (sa_cons (se_ix (se_var 13) se_int) sa_nil)))) (sa_cons (se_var 14) sa_nil))))) (ss_one (ss_ret se_bl)) ss_nil))))))))))))))
  (ss_one (ss_ret se_bl))))))))
end
end G
set_option maxHeartbeats 4000000
namespace G
open PySem L2 Fs
/-! ### the tape -/
def Tp (S : Store) (t s : Nat) : Prop := ∃ (ns : List Int) (a b c : Int), S[t]? = some (.lst [.loc s, .int a, .int b, .int c]) ∧ S[s]? = some (.lst (ns.map W.int)) ∧ 0 ≤ a ∧ s ≠ t
def Fr (t : Nat) (S S' : Store) : Prop := S.length ≤ S'.length ∧ ∀ (n : Nat) (c : Cell), n ≠ t → S[n]? = some c → S'[n]? = some c
theorem Fr.refl (t : Nat) (S : Store) : Fr t S S := ⟨Nat.le_refl _, fun _ _ _ h => h⟩
theorem Fr.trans {t : Nat} {S S1 S2 : Store} (a : Fr t S S1) (b : Fr t S1 S2) : Fr t S S2 := ⟨Nat.le_trans a.1 b.1, fun n c h e => b.2 n c h (a.2 n c h e)⟩
theorem fr_set {t : Nat} {S : Store} {c : Cell} : Fr t S (S.set t c) := ⟨by rw [List.length_set]; exact Nat.le_refl _, fun n d h e => by rw [List.getElem?_set_ne (Ne.symm h)]; exact e⟩
theorem fr_app {t : Nat} {S : Store} {cs : List Cell} : Fr t S (S ++ cs) := ⟨by rw [List.length_append]; omega, fun n d h e => by
  rw [List.getElem?_append_left]
  · exact e
  · exact (List.getElem?_eq_some_iff.mp e).1⟩
theorem lt_of {S : Store} {n : Nat} {c : Cell} (h : S[n]? = some c) : n < S.length := (List.getElem?_eq_some_iff.mp h).1
theorem get_set {S : Store} {n : Nat} {c d : Cell} (h : S[n]? = some d) : (S.set n c)[n]? = some c := List.getElem?_set_self (lt_of h)
theorem Tp.app {S : Store} {t s : Nat} {cs : List Cell} (h : Tp S t s) : Tp (S ++ cs) t s := by
  obtain ⟨ns, a, b, c, h1, h2, h3⟩ := h
  exact ⟨ns, a, b, c, by rw [List.getElem?_append_left (lt_of h1)]; exact h1, by rw [List.getElem?_append_left (lt_of h2)]; exact h2, h3⟩
theorem Tp.lt {S : Store} {t s : Nat} (h : Tp S t s) : t < S.length ∧ s < S.length := by
  obtain ⟨ns, a, b, c, h1, h2, h3⟩ := h
  exact ⟨lt_of h1, lt_of h2⟩
/-- the tape's cell is written -/
theorem Tp.put {S : Store} {t s : Nat} {ns : List Int} {a b c : Int} {d : Cell} (h1 : S[t]? = some d) (hne : s ≠ t) (h2 : S[s]? = some (.lst (ns.map W.int))) (h0 : 0 ≤ a) : Tp (S.set t (.lst [.loc s, .int a, .int b, .int c])) t s :=
  ⟨ns, a, b, c, get_set h1, by rw [List.getElem?_set_ne (Ne.symm hne)]; exact h2, h0, hne⟩
/-- some other cell is written -/
theorem Tp.other {S : Store} {t s n : Nat} {c : Cell} (h : Tp S t s) (hn : n ≠ t) (hs : n ≠ s) : Tp (S.set n c) t s := by
  obtain ⟨ns, a, b, e, h1, h2, h3⟩ := h
  exact ⟨ns, a, b, e, by rw [List.getElem?_set_ne hn]; exact h1, by rw [List.getElem?_set_ne hs]; exact h2, h3⟩
theorem Fr.put {t : Nat} {S0 S : Store} {n : Nat} {c : Cell} (h : Fr t S0 S) (hn : S0.length ≤ n) : Fr t S0 (S.set n c) := ⟨by rw [List.length_set]; exact h.1, fun k d hk e => by
  have := lt_of e
  rw [List.getElem?_set_ne (by omega)]
  exact h.2 k d hk e⟩
theorem Fr.get {t : Nat} {S0 S : Store} {n : Nat} {c : Cell} (h : Fr t S0 S) (hn : n ≠ t) (e : S0[n]? = some c) : S[n]? = some c := h.2 n c hn e
theorem pow18 {S : Store} : gPow (.int 10) (.int 18) S = .ok (.int 1000000000000000000) S := by
  show (if (0 : Int) ≤ 18 ∧ (18 : Int) ≤ 1000000 ∧ (10 : Int).natAbs < 2 ^ 64 then Res.ok (W.int (10 ^ (18 : Int).toNat)) S else .bad) = _
  rw [if_pos (by decide)]
  rfl
theorem pos_of {m : Int} {j : Int} (hj : 0 < j) : 0 < (if m < j then j else m) := by split <;> omega
theorem log_of {m : Int} {j : Int} (h : m.natAbs.log2 < 9000) (hj : j.natAbs.log2 < 9000) : (if m < j then j else m).natAbs.log2 < 9000 := by split <;> assumption
def many (m : Int) : Int := if m < 1 then 1 else m
theorem atNat {α : Type} {xs : List α} {a : Int} (h0 : 0 ≤ a) (h1 : a < (xs.length : Int)) : ∃ x, L2.atI xs a = some x ∧ x ∈ xs := by
  have hk : a.toNat < xs.length := by omega
  refine ⟨xs[a.toNat], ?_, List.getElem_mem hk⟩
  unfold L2.atI ixN
  rw [if_pos h0, if_pos h1]
  exact List.getElem?_eq_getElem hk
theorem mem_int {ns : List Int} {w : W} (h : w ∈ ns.map W.int) : ∃ i, w = .int i := by
  obtain ⟨i, _, rfl⟩ := List.mem_map.mp h
  exact ⟨i, rfl⟩
theorem ixn_lit {n : Nat} {i : Int} (h0 : 0 ≤ i) (h : i < (n : Int)) : ixN n i = some i.toNat := by
  unfold ixN
  rw [if_pos h0, if_pos h]
/-- what a draw is worth -/
def DrP (t s : Nat) (S : Store) (m : Int) (r : Res W) : Prop := ∃ k S', r = .ok (.int k) S' ∧ Tp S' t s ∧ Fr t S S' ∧ 0 ≤ k ∧ k < many m
theorem draw_ok {S : Store} {t s : Nat} {m : Int} (h : Tp S t s) (hm : m.natAbs.log2 < 9000) : DrP t s S m (f__law_draw [.loc t, .int m] S) := by
  obtain ⟨ns, a, b, c, ht, hs, ha, hne⟩ := h
  have m1 : 0 < (if m < 1 then 1 else m : Int) := pos_of (by decide)
  have m2 : 0 < (if m < 2 then 2 else m : Int) := pos_of (by decide)
  have l2 : (if m < 2 then 2 else m : Int).natAbs.log2 < 9000 := log_of hm (by decide)
  have lo : ∀ i : Int, 0 ≤ i % (if m < 1 then 1 else m) := fun i => Int.emod_nonneg _ (by omega)
  have hi : ∀ i : Int, i % (if m < 1 then 1 else m) < many m := fun i => Int.emod_lt_of_pos _ m1
  have gs : ∀ c, (S.set t c)[t]? = some c := fun c => get_set ht
  by_cases hb : b = 0
  · subst hb
    by_cases hl : a < (ns.length : Int)
    · -- a number of the script
      obtain ⟨x, ex, hx⟩ := atNat (xs := ns.map W.int) ha (by simpa using hl)
      obtain ⟨i, rfl⟩ := mem_int hx
      generalize hj : (if i < 0 then -i else i) = j
      by_cases hs18 : j < 1000000000000000000
      · simp [f__law_draw, d__law_draw, ixl ht at0_ev, ixl ht at1_ev, ixl ht at2_ev, len_loc hs, hl, ixl hs ex, hj, ht, ixn_lit, pow18, hs18, mul_ii, mod_ii m1, mod_ii, gs]
        exact ⟨_, _, rfl, Tp.put ht hne hs (by omega), fr_set, lo _, hi _⟩
      · simp [f__law_draw, d__law_draw, ixl ht at0_ev, ixl ht at1_ev, ixl ht at2_ev, len_loc hs, hl, ixl hs ex, hj, ht, ixn_lit, pow18, hs18, mul_ii, mod_ii m1, mod_ii, gs, ixl (gs _) at2_ev, div_ii ⟨m2, l2⟩]
        exact ⟨_, _, rfl, Tp.put ht hne hs (by omega), fr_set, lo _, hi _⟩
    · -- behind the script's end
      generalize hj : (c * 48271 + a + 1) % 2147483647 = j
      have hj0 : j < 1000000000000000000 := by omega
      simp [f__law_draw, d__law_draw, ixl ht at0_ev, ixl ht at1_ev, ixl ht at2_ev, ixl ht at3_ev, len_loc hs, hl, hj, hj0, ht, ixn_lit, pow18, mul_ii, mod_ii m1, mod_ii, gs, ixl (gs _) at3_ev]
      exact ⟨_, _, rfl, Tp.put ht hne hs (by omega), fr_set, lo _, hi _⟩
  · simp [f__law_draw, d__law_draw, ixl ht at2_ev, hb, ht, ixn_lit, div_ii ⟨m2, l2⟩, mod_ii m1]
    exact ⟨_, _, rfl, Tp.put ht hne hs ha, fr_set, lo _, hi _⟩
theorem log_big {m : Int} (h1 : -10000000000000000000000000000000000000000 ≤ m) (h2 : m ≤ 10000000000000000000000000000000000000000) : m.natAbs.log2 < 9000 := by
  have h : m.natAbs < 2 ^ 200 := by
    have e : (2 : Nat) ^ 200 = 1606938044258990275541962092341162602522202993782792835301376 := by decide
    rw [e]
    omega
  exact Nat.lt_trans (PySem.Flt.log2_lt_of (by decide) h) (by decide)
/-- a draw by a written number -/
theorem draw_n {S : Store} {t s : Nat} (m : Int) (h : Tp S t s) (h1 : 1 ≤ m := by omega) (h2 : m ≤ 10000000000000000000000000000000000000000 := by omega) : ∃ k S', f__law_draw [.loc t, .int m] S = .ok (.int k) S' ∧ Tp S' t s ∧ Fr t S S' ∧ 0 ≤ k ∧ k < m := by
  obtain ⟨k, S', e, a, b, c, d⟩ := draw_ok h (log_big (by omega) h2)
  refine ⟨k, S', e, a, b, c, ?_⟩
  unfold many at d
  rw [if_neg (by omega)] at d
  exact d
/-! ### texts -/
def SOK (n : Nat) (x : Str) : Prop := PyData.strOk x = true ∧ x.length ≤ n
theorem SOK.mono {m n : Nat} {x : Str} (h : SOK m x) (hm : m ≤ n) : SOK n x := ⟨h.1, Nat.le_trans h.2 hm⟩
theorem str_len (x y : Str) : (x ++ y).length = x.length + y.length := by
  show (x.cps ++ y.cps).size = x.cps.size + y.cps.size
  rw [Array.size_append]
theorem SOK.add {m n : Nat} {x y : Str} (hx : SOK m x) (hy : SOK n y) : SOK (m + n) (x ++ y) := by
  refine ⟨?_, by rw [str_len]; have := hx.2; have := hy.2; omega⟩
  have h1 := hx.1
  have h2 := hy.1
  unfold PyData.strOk at h1 h2 ⊢
  show (x.cps ++ y.cps).all _ = true
  rw [Array.all_append, h1, h2]
  rfl
theorem add_ss {x y : Str} {S : Store} (h : x.length + y.length ≤ 1000) : gAdd (.str x) (.str y) S = .ok (.str (x ++ y)) S := if_pos (Nat.le_trans h (by decide))
theorem ix_s {z : Str} {i : Int} {S : Store} (hz : z.length ≤ 1000) (h0 : 0 ≤ i) (h1 : i < (z.length : Int)) (hok : PyData.strOk z = true) : ∃ x, gIx (.str z) (.int i) S = .ok (.str x) S ∧ SOK 1 x := by
  obtain ⟨c, e, hc⟩ := atNat (xs := z.cps.toList) h0 (by simpa [Str.length] using h1)
  refine ⟨⟨#[c]⟩, ?_, ?_, Nat.le_refl _⟩
  · show (if z.length ≤ sizeLine then _ else _) = _
    rw [if_pos (Nat.le_trans hz (by decide)), e]
  · unfold PyData.strOk at hok ⊢
    rw [Array.all_eq_true'] at hok
    have := hok c (by simpa using hc)
    simpa using this
/-- an item of a list that stands at p -/
theorem ix_lit {S : Store} {p : Nat} {ws : List W} {k : Int} (h : S[p]? = some (.lst ws)) (h0 : 0 ≤ k) (h1 : k < (ws.length : Int)) : ∃ w, gIx (.loc p) (.int k) S = .ok w S ∧ w ∈ ws := by
  obtain ⟨w, e, hw⟩ := atNat h0 h1
  exact ⟨w, ixl h e, hw⟩
/-! ### kinds -/
abbrev strW (s : String) : W := .str (Str.ofString s)
mutual
inductive Kd : Nat → Int → W → Prop
  | names {n : Nat} {ns : List Str} : ns ≠ [] → ns.length ≤ 4 → ns.Nodup → (∀ x ∈ ns, SOK 6 x) → Kd (n + 1) 1 (.tup [strW "names", .tup (ns.map .str)])
  | kint {n : Nat} : Kd (n + 1) 1 (.tup [strW "integers"])
  | pair {n : Nat} {s s' : Int} {a b : W} : Kd n s a → Kd n s' b → Kd (n + 1) (1 + s + s') (.tup [strW "pair", a, b])
  | either {n : Nat} {s : Int} {ks : List W} : KdA n s ks → ks ≠ [] → ks.length ≤ 3 → Kd (n + 1) (1 + s) (.tup [strW "either", .tup ks])
  | maybe {n : Nat} {s : Int} {a : W} : Kd n s a → Kd (n + 1) (1 + s) (.tup [strW "maybe", a])
inductive KdA : Nat → Int → List W → Prop
  | nil {n : Nat} : KdA n 0 []
  | cons {n : Nat} {s s' : Int} {a : W} {r : List W} : Kd n s a → KdA n s' r → KdA n (s + s') (a :: r)
end
theorem KdA.mem : ∀ {n : Nat} {ks : List W} {s : Int}, KdA n s ks → ∀ a ∈ ks, ∃ s', Kd n s' a
  | _, [], _, _, _, h => by cases h
  | _, k :: ks, _, h, a, m => by
    cases h with
    | cons h1 h2 =>
      rcases List.mem_cons.mp m with rfl | m
      · exact ⟨_, h1⟩
      · exact KdA.mem h2 a m
theorem KdA.snoc : ∀ {n : Nat} {ks : List W} {s s' : Int} {a : W}, KdA n s ks → Kd n s' a → KdA n (s + s') (ks ++ [a])
  | _, [], _, s', _, h, h' => by
    cases h
    have := KdA.cons h' KdA.nil
    rw [show (0 : Int) + s' = s' + 0 by omega]
    exact this
  | _, k :: ks, _, s', _, h, h' => by
    cases h with
    | @cons _ s1 s2 _ _ h1 h2 =>
      have := KdA.cons h1 (KdA.snoc h2 h')
      rw [show s1 + s2 + s' = s1 + (s2 + s') by omega]
      exact this
theorem Kd.pos : ∀ {n : Nat} {s : Int} {k : W}, Kd n s k → 1 ≤ s := by
  intro n
  induction n with
  | zero => intro s k h; cases h
  | succ n ih =>
    have ihA : ∀ (ks : List W) (s : Int), KdA n s ks → 0 ≤ s := fun ks => by
      induction ks with
      | nil => intro s h; cases h; exact Int.le_refl _
      | cons a r ihr =>
        intro s h
        cases h with
        | cons h1 h2 =>
          have := ih h1
          have := ihr _ h2
          omega
    intro s k h
    cases h with
    | names => exact Int.le_refl _
    | kint => exact Int.le_refl _
    | pair h1 h2 => have := ih h1; have := ih h2; omega
    | either h1 => have := ihA _ _ h1; omega
    | maybe h1 => have := ih h1; omega
theorem Kd.mono : ∀ {n : Nat} {s : Int} {k : W}, Kd n s k → Kd (n + 1) s k := by
  intro n
  induction n with
  | zero => intro s k h; cases h
  | succ n ih =>
    have ihA : ∀ (ks : List W) (s : Int), KdA n s ks → KdA (n + 1) s ks := fun ks => by
      induction ks with
      | nil => intro s h; cases h; exact .nil
      | cons a r ihr =>
        intro s h
        cases h with
        | cons h1 h2 => exact .cons (ih h1) (ihr _ h2)
    intro s k h
    cases h with
    | names a b c d => exact .names a b c d
    | kint => exact .kint
    | pair h1 h2 => exact .pair (ih h1) (ih h2)
    | either h1 h2 h3 => exact .either (ihA _ _ h1) h2 h3
    | maybe h1 => exact .maybe (ih h1)
theorem Kd.le {n m : Nat} {s : Int} {k : W} (h : Kd n s k) (hm : n ≤ m) : Kd m s k := by
  induction hm with
  | refl => exact h
  | step _ ih => exact ih.mono
end G
set_option maxHeartbeats 4000000
namespace G
open PySem L2 Fs
theorem sum_ints : ∀ {n : Nat} {ks : List W} {s : Int} {ys : List W}, KdA n s ks → ys.length = ks.length → (∀ (i : Nat) (w y : W), ks[i]? = some w → ys[i]? = some y → ∀ s', Kd n s' w → y = .int s') → ∃ ns, intsW ys = some ns ∧ ns.sum = s
  | _, [], _, ys, h, hl, _ => by
    cases h
    cases ys with
    | nil => exact ⟨[], rfl, rfl⟩
    | cons a r => cases hl
  | n, k :: ks, _, ys, h, hl, hr => by
    cases h with
    | @cons _ s1 s2 _ _ h1 h2 =>
      cases ys with
      | nil => cases hl
      | cons y ys =>
        obtain ⟨ns, e1, e2⟩ := sum_ints (ys := ys) h2 (by simpa using hl) fun i w z a b => hr (i + 1) w z (by simpa using a) (by simpa using b)
        have e := hr 0 k y rfl rfl _ h1
        subst e
        refine ⟨s1 :: ns, ?_, ?_⟩
        rotate_left
        · rw [List.sum_cons, e2]
        · show (intsW ys).map _ = _
          rw [e1]
          rfl
theorem kinds_ok : ∀ {n : Nat} {s : Int} {k : W}, Kd n s k → ∀ S, ∃ cs, f__law_kinds n [k] S = .ok (.int s) (S ++ cs) := by
  intro n
  induction n with
  | zero => intro s k h; cases h
  | succ n ih =>
    intro s k h S
    cases h with
    | names a b c d => exact ⟨[], by simp +decide [f__law_kinds, d__law_kinds, ixt0, ixt1]⟩
    | kint => exact ⟨[], by simp +decide [f__law_kinds, d__law_kinds, ixt0, ixt1]⟩
    | pair h1 h2 =>
      obtain ⟨c1, e1⟩ := ih h1 S
      obtain ⟨c2, e2⟩ := ih h2 (S ++ c1)
      exact ⟨c1 ++ c2, by simp +decide [f__law_kinds, d__law_kinds, ixt0, ixt1, ixt2, e1, e2]⟩
    | maybe h1 =>
      obtain ⟨c1, e1⟩ := ih h1 S
      exact ⟨c1, by simp +decide [f__law_kinds, d__law_kinds, ixt0, ixt1, ixt2, e1]⟩
    | @either _ s ks h1 h2 h3 =>
      obtain ⟨ys, cs, e, hl, hr⟩ := lc_map (S1 := S) (ls := [some (W.tup [strW "either", .tup ks]), none]) (vs := [1]) (j := 1) (te := dCall (f__law_kinds n) [dVar 1]) (st := stayOf (.tup ks) ks) (ws := ks) (R := fun w y => ∀ s', Kd n s' w → y = .int s') (fun _ _ => trivial) (by omega) (fun w S2 hw => by
        obtain ⟨s', hk⟩ := h1.mem w hw
        obtain ⟨c1, e1⟩ := ih hk S2
        refine ⟨.int s', c1, ?_, fun s2 hk2 => ?_⟩
        · simp [wipeW, e1]
        · obtain ⟨c2, e2⟩ := ih hk2 S2
          rw [e1] at e2
          injection e2)
      obtain ⟨ns, n1, n2⟩ := sum_ints h1 hl hr
      have hs : gSum [.loc S.length] (S ++ Cell.lst ys :: cs) = .ok (.int s) (S ++ Cell.lst ys :: cs) := by rw [sum_loc get_mid n1, n2]
      refine ⟨Cell.lst ys :: cs, ?_⟩
      simp +decide [f__law_kinds, d__law_kinds, ixt0, ixt1, ixt2, seqW, e, hs]
end G
set_option maxHeartbeats 4000000
namespace G
open PySem L2 Fs
/-! ### names -/
abbrev sgn : Str := Str.ofString "abcdexyzABZ0189 !\"#$&'()*+,-./:;<=>?\x40[\\]^_{|}~"
theorem sgn_len : sgn.length = 46 := by decide +kernel
theorem sgn_ok : PyData.strOk sgn = true := by decide +kernel
theorem len_sgn {S : Store} : gLen [.str sgn] S = .ok (.int 46) S := by
  show (if sgn.length ≤ sizeLine then Res.ok (W.int sgn.length) S else .bad) = _
  rw [sgn_len, if_pos (by decide)]
  rfl
def fixW : List W := [strW "none", strW "pair", strW "case", strW "some", strW "true", strW "0"]
theorem in_strs (x : Str) : ∀ ns : List Str, inFl (.str x) (ns.map .str) = decide (x ∈ ns)
  | [] => rfl
  | n :: r => by
    show (eqFl (.str n) (.str x) || inFl (.str x) (r.map .str)) = _
    rw [in_strs x r]
    show ((n == x) || _) = _
    by_cases h : n = x
    · subst h; simp
    · have h' : ¬ x = n := fun e => h e.symm
      have : (n == x) = false := by simpa using h
      rw [this]
      simp [h']
theorem allFlat_strs : ∀ ns : List Str, allFlat (ns.map .str) = true
  | [] => rfl
  | n :: r => by
    show (flatW (.str n) && allFlat (r.map .str)) = true
    rw [allFlat_strs r]
    rfl
theorem notIn_strs {S : Store} {p : Nat} {x : Str} {ns : List Str} (h : S[p]? = some (.lst (ns.map .str))) : gNotIn (.str x) (.loc p) S = .ok (.bl (!decide (x ∈ ns))) S := by
  show (match seqW S (.loc p) with | some ws => (if flatW (.str x) = true ∧ allFlat ws = true then Res.ok (W.bl (true != inFl (.str x) ws)) S else _) | none => _) = _
  rw [show seqW S (.loc p) = lstW S (.loc p) from rfl, lst_loc h]
  dsimp only
  rw [if_pos ⟨rfl, allFlat_strs ns⟩, in_strs, true_bne]
/-- one sign -/
theorem sign_ok {S : Store} {k : Int} (h0 : 0 ≤ k) (h1 : k < 46) : ∃ x, gIx (.str sgn) (.int k) S = .ok (.str x) S ∧ SOK 1 x :=
  ix_s (by rw [sgn_len]; decide) h0 (by rw [sgn_len]; omega) sgn_ok
def NmI (t s q p : Nat) (S0 : Store) (stem : Str) (i : Nat) (ls : Lo) (S : Store) : Prop := ∃ x5 x6 ns, ls = [some (.loc t), some (.str sgn), some (.loc q), some (.str stem), some (.loc p), x5, x6] ∧ Tp S t s ∧ Fr t S0 S ∧ S[q]? = some (.lst fixW) ∧
  S[p]? = some (.lst (ns.map .str)) ∧ ns.length ≤ i ∧ (0 < i → ns ≠ []) ∧ ns.Nodup ∧ ∀ x ∈ ns, SOK 6 x
def NmP (t s : Nat) (S : Store) (r : Res W) : Prop := ∃ ns S', r = .ok (.tup (ns.map .str)) S' ∧ Tp S' t s ∧ Fr t S S' ∧ ns ≠ [] ∧ ns.length ≤ 4 ∧ ns.Nodup ∧ ∀ x ∈ ns, SOK 6 x
theorem fix_str {w : W} (h : w ∈ fixW) : ∃ x, w = .str x ∧ SOK 4 x := by
  unfold fixW at h
  simp only [List.mem_cons, List.mem_nil_iff, or_false] at h
  rcases h with rfl | rfl | rfl | rfl | rfl | rfl <;> exact ⟨_, rfl, by decide +kernel, by decide +kernel⟩
/-- a turn of the loop -/
theorem name_turn {t s q p : Nat} {S0 S : Store} {stem : Str} {i : Nat} {ls : Lo} {w : W} (hstem : SOK 4 stem) (hp : S0.length ≤ p) (hpt : p ≠ t) (hps : p ≠ s) (hpq : q ≠ p) (hqt : q ≠ t) (hi : i < 1000) (h : NmI t s q p S0 stem i ls S) :
    ∃ ls0 ls1 S1, dgName 5 w ls = some ls0 ∧ (dSeq (dSet 6 (dOp gAdd (dVar 3) (dOp gIx (dVar 1) (dCall f__law_draw [(dVar 0), (dCall gLen [(dVar 1)])]))))
    (dSeq (dIf (dTB (dOp gEq (dCall f__law_draw [(dVar 0), (dC (.int 3))]) (dC (.int 0)))) (dSet 6 (dOp gAdd (dVar 6) (dOp gIx (dVar 1) (dCall f__law_draw [(dVar 0), (dCall gLen [(dVar 1)])])))) dNx)
    (dSeq (dIf (dTB (dOp gEq (dCall f__law_draw [(dVar 0), (dC (.int 8))]) (dC (.int 0)))) (dSet 6 (dOp gIx (dVar 2) (dCall f__law_draw [(dVar 0), (dC (.int 6))]))) dNx)
    (dIf (dTB (dOp gNotIn (dVar 6) (dVar 4))) (dExpr (dAppend (dVar 4) (dVar 6))) dNx)))) ls0 S = .nx ls1 S1 ∧ NmI t s q p S0 stem (i + 1) ls1 S1 := by
  obtain ⟨x5, x6, ns, rfl, hT, hF, hq, hN, hlen, hne, hnd, hall⟩ := h
  obtain ⟨k1, S1, e1, T1, F1, l1, u1⟩ := draw_n 46 hT
  obtain ⟨y1, d1, o1⟩ := sign_ok (S := S1) l1 u1
  obtain ⟨k2, S2, e2, T2, F2, l2, u2⟩ := draw_n 3 T1
  have ad1 : ∀ S, gAdd (.str stem) (.str y1) S = .ok (.str (stem ++ y1)) S := fun S => add_ss (by have := hstem.2; have := o1.2; omega)
  have o2 := hstem.add o1
  -- the second sign
  have st2 : ∃ (nm : Str) (S3 : Store), (dIf (dTB (dOp gEq (dCall f__law_draw [(dVar 0), (dC (.int 3))]) (dC (.int 0)))) (dSet 6 (dOp gAdd (dVar 6) (dOp gIx (dVar 1) (dCall f__law_draw [(dVar 0), (dCall gLen [(dVar 1)])])))) dNx)
      [some (.loc t), some (.str sgn), some (.loc q), some (.str stem), some (.loc p), some w, some (.str (stem ++ y1))] S1 = .nx [some (.loc t), some (.str sgn), some (.loc q), some (.str stem), some (.loc p), some w, some (.str nm)] S3 ∧ SOK 6 nm ∧ Tp S3 t s ∧ Fr t S1 S3 := by
    by_cases hk : k2 = 0
    · obtain ⟨k3, S3, e3, T3, F3, l3, u3⟩ := draw_n 46 T2
      obtain ⟨y3, d3, o3⟩ := sign_ok (S := S3) l3 u3
      refine ⟨stem ++ y1 ++ y3, S3, ?_, (o2.add o3).mono (by decide), T3, F2.trans F3⟩
      have ad3 : gAdd (.str (stem ++ y1)) (.str y3) S3 = .ok (.str (stem ++ y1 ++ y3)) S3 := add_ss (by have := o2.2; have := o3.2; omega)
      simp [e2, hk, len_sgn, e3, d3, ad3]
    · exact ⟨stem ++ y1, S2, by simp [e2, hk], o2.mono (by decide), T2, F2⟩
  obtain ⟨nm, S3, x3, o3, T3, F3⟩ := st2
  obtain ⟨k4, S4, e4, T4, F4, l4, u4⟩ := draw_n 8 T3
  have fq : ∀ {S'}, Fr t S1 S' → S'[q]? = some (.lst fixW) := fun f => f.get hqt (F1.get hqt hq)
  have st3 : ∃ (nm' : Str) (S5 : Store), (dIf (dTB (dOp gEq (dCall f__law_draw [(dVar 0), (dC (.int 8))]) (dC (.int 0)))) (dSet 6 (dOp gIx (dVar 2) (dCall f__law_draw [(dVar 0), (dC (.int 6))]))) dNx)
      [some (.loc t), some (.str sgn), some (.loc q), some (.str stem), some (.loc p), some w, some (.str nm)] S3 = .nx [some (.loc t), some (.str sgn), some (.loc q), some (.str stem), some (.loc p), some w, some (.str nm')] S5 ∧ SOK 6 nm' ∧ Tp S5 t s ∧ Fr t S1 S5 := by
    by_cases hk : k4 = 0
    · obtain ⟨k5, S5, e5, T5, F5, l5, u5⟩ := draw_n 6 T4
      obtain ⟨y5, d5, o5⟩ := ix_lit (k := k5) (fq ((F3.trans F4).trans F5)) l5 (by exact u5)
      obtain ⟨y, rfl, o6⟩ := fix_str o5
      exact ⟨y, S5, by simp [e4, hk, e5, d5], o6.mono (by decide), T5, (F3.trans F4).trans F5⟩
    · exact ⟨nm, S4, by simp [e4, hk], o3, T4, F3.trans F4⟩
  obtain ⟨nm', S5, x5', o5, T5, F5⟩ := st3
  have G5 := F1.trans F5
  have hN5 : S5[p]? = some (.lst (ns.map .str)) := G5.get hpt hN
  have hq5 := fq F5
  have x1 : (dSet 6 (dOp gAdd (dVar 3) (dOp gIx (dVar 1) (dCall f__law_draw [(dVar 0), (dCall gLen [(dVar 1)])])))) [some (.loc t), some (.str sgn), some (.loc q), some (.str stem), some (.loc p), some w, x6] S = .nx [some (.loc t), some (.str sgn), some (.loc q), some (.str stem), some (.loc p), some w, some (.str (stem ++ y1))] S1 := by
    simp [len_sgn, e1, d1, ad1]
  by_cases hm : nm' ∈ ns
  · refine ⟨_, [some (.loc t), some (.str sgn), some (.loc q), some (.str stem), some (.loc p), some w, some (.str nm')], S5, rfl, ?_, ⟨_, _, ns, rfl, T5, hF.trans G5, hq5, hN5, by omega, ⟨fun _ z => (by subst z; cases hm), hnd, hall⟩⟩⟩
    rw [set5_ev, sq_ev, x1, sqK_nx, sq_ev, x3, sqK_nx, sq_ev, x5', sqK_nx]
    simp [notIn_strs hN5, hm]
  · refine ⟨_, [some (.loc t), some (.str sgn), some (.loc q), some (.str stem), some (.loc p), some w, some (.str nm')], S5.set p (.lst ((ns ++ [nm']).map .str)), rfl, ?_, ⟨_, _, ns ++ [nm'], rfl, T5.other hpt hps, (hF.trans G5).put hp, ?_, get_set hN5, ?_, ⟨fun _ z => (by simp at z), ?_, ?_⟩⟩⟩
    · rw [set5_ev, sq_ev, x1, sqK_nx, sq_ev, x3, sqK_nx, sq_ev, x5', sqK_nx]
      simp [notIn_strs hN5, hm, apK_ok (lst_loc hN5), append_loc hN5 (show (ns.map W.str).length < 100000 by rw [List.length_map]; omega)]
    · rw [List.getElem?_set_ne (Ne.symm hpq)]
      exact hq5
    · rw [List.length_append, List.length_singleton]
      omega
    · rw [List.nodup_append]
      refine ⟨hnd, by simp, fun a ha b hb => ?_⟩
      have : b = nm' := by simpa using hb
      subst this
      exact fun e => hm (by rw [← e]; exact ha)
    · intro x hx
      rcases List.mem_append.mp hx with hx | hx
      · exact hall x hx
      · have : x = nm' := by simpa using hx
        subst this
        exact o5
def stemW : List W := [strW "", strW "", strW "", strW "case", strW "a ,"]
theorem stem_str {w : W} (h : w ∈ stemW) : ∃ x, w = .str x ∧ SOK 4 x := by
  unfold stemW at h
  simp only [List.mem_cons, List.mem_nil_iff, or_false] at h
  rcases h with rfl | rfl | rfl | rfl | rfl <;> exact ⟨_, rfl, by decide +kernel, by decide +kernel⟩
theorem names_ok {S : Store} {t s : Nat} (h : Tp S t s) : NmP t s S (f__law_names [.loc t] S) := by
  obtain ⟨ht, hs⟩ := h.lt
  have hA : Tp (S ++ [.lst fixW] ++ [.lst stemW]) t s := h.app.app
  obtain ⟨k1, S1, e1, T1, F1, l1, u1⟩ := draw_n 5 hA
  have FA : Fr t S S1 := (fr_app.trans fr_app).trans F1
  have q1 : S1[S.length]? = some (.lst fixW) := F1.get (by omega) (by
    rw [List.getElem?_append_left (by simp)]
    exact get_mid (cs := []))
  have q2 : S1[S.length + 1]? = some (.lst stemW) := F1.get (by omega) (by
    have := get_mid (S := S ++ [Cell.lst fixW]) (c := .lst stemW) (cs := [])
    simpa using this)
  obtain ⟨w1, d1, m1⟩ := ix_lit (k := k1) q2 l1 (by exact u1)
  obtain ⟨stem, rfl, hst⟩ := stem_str m1
  -- names = [], the range
  have hB : Tp (S1 ++ [.lst []] ++ [.lst [.int 1, .int 2, .int 2, .int 3, .int 3, .int 4]]) t s := T1.app.app
  obtain ⟨k2, S2, e2, T2, F2, l2, u2⟩ := draw_n 6 hB
  have q3 : S2[S1.length + 1]? = some (.lst [.int 1, .int 2, .int 2, .int 3, .int 3, .int 4]) := F2.get (by have := F1.1; have := T1.lt; omega) (by
    have := get_mid (S := S1 ++ [Cell.lst []]) (c := .lst [.int 1, .int 2, .int 2, .int 3, .int 3, .int 4]) (cs := [])
    simpa using this)
  obtain ⟨w2, d2, m2⟩ := ix_lit (k := k2) q3 l2 (by exact u2)
  have hn : ∃ n : Int, w2 = .int n ∧ 1 ≤ n ∧ n ≤ 4 := by
    simp only [List.mem_cons, List.mem_nil_iff, or_false] at m2
    rcases m2 with rfl | rfl | rfl | rfl | rfl | rfl <;> exact ⟨_, rfl, by decide, by decide⟩
  obtain ⟨n, rfl, n1, n4⟩ := hn
  have qN : S2[S1.length]? = some (.lst []) := F2.get (by have := T1.lt; omega) (by
    rw [List.getElem?_append_left (by simp)]
    exact get_mid (cs := []))
  have qF : S2[S.length]? = some (.lst fixW) := F2.get (by omega) ((fr_app.trans fr_app).get (t := t) (by omega) q1)
  have sl : S.length < S1.length := lt_of q1
  have FB : Fr t S S2 := FA.trans ((fr_app.trans fr_app).trans F2)
  have loop := loop_inv (st := fun _ => True) (gg := dgName 5) (NmI t s S.length S1.length S stem) (fun _ _ _ _ => trivial) (rngW 0 n.toNat) 0
    (fun i w ls S' ew hI => by
      have hi : i < 4 := by
        have := (List.getElem?_eq_some_iff.mp ew).1
        rw [rngW_len] at this
        omega
      rw [Nat.zero_add] at hI ⊢
      obtain ⟨ls0, ls1, S1', a1, a2, a3⟩ := name_turn (w := w) hst (by omega) (by have := T1.lt; omega) (by have := T1.lt; omega) (by omega) (by omega) (by omega) hI
      exact ⟨ls0, ls1, S1', a1, .inl a2, a3⟩)
    [some (.loc t), some (.str sgn), some (.loc S.length), some (.str stem), some (.loc S1.length), none, none] S2
    ⟨none, none, [], rfl, T2, FB, qF, qN, Nat.le_refl _, fun z => (by cases z), List.nodup_nil, fun x hx => (by cases hx)⟩
  obtain ⟨ls3, S3, e3, x5, x6, ns, rfl, T3, F3, _, hN, hlen, hne, hnd, hall⟩ := loop
  rw [Nat.zero_add, rngW_len] at hlen hne
  refine ⟨ns, S3, ?_, T3, F3, hne (by omega), by omega, hnd, hall⟩
  have e1' : f__law_draw [.loc t, .int 5] (S ++ [Cell.lst [strW "none", strW "pair", strW "case", strW "some", strW "true", strW "0"], Cell.lst [strW "", strW "", strW "", strW "case", strW "a ,"]]) = .ok (.int k1) S1 := by
    rw [show S ++ [Cell.lst [strW "none", strW "pair", strW "case", strW "some", strW "true", strW "0"], Cell.lst [strW "", strW "", strW "", strW "case", strW "a ,"]] = S ++ [.lst fixW] ++ [.lst stemW] by rw [List.append_assoc]; rfl]
    exact e1
  have e2' : f__law_draw [.loc t, .int 6] (S1 ++ [Cell.lst [], .lst [.int 1, .int 2, .int 2, .int 3, .int 3, .int 4]]) = .ok (.int k2) S2 := by
    rw [show S1 ++ [Cell.lst [], .lst [.int 1, .int 2, .int 2, .int 3, .int 3, .int 4]] = S1 ++ [.lst []] ++ [.lst [.int 1, .int 2, .int 2, .int 3, .int 3, .int 4]] by rw [List.append_assoc]; rfl]
    exact e2
  have r1 : r1K (.ok (.int n) S2) = .ok ⟨rngW 0 n.toNat, fun _ => True⟩ S2 := r1K_ok ⟨by omega, by omega⟩
  have b6 : ∀ a b c d e f : W, [a, b, c, d, e, f].length ≤ 100 := fun _ _ _ _ _ _ => by simp
  have b5 : ∀ a b c d e : W, [a, b, c, d, e].length ≤ 100 := fun _ _ _ _ _ => by simp
  have b0 : ([] : List W).length ≤ 100 := by decide
  have L1 : (S ++ [Cell.lst [strW "none", strW "pair", strW "case", strW "some", strW "true", strW "0"]]).length = S.length + 1 := by rw [List.length_append]; rfl
  have L2 : (S1 ++ [Cell.lst []]).length = S1.length + 1 := by rw [List.length_append]; rfl
  have A1 : ∀ (S : Store) (a b : Cell), S ++ [a] ++ [b] = S ++ [a, b] := fun S a b => by rw [List.append_assoc]; rfl
  simp only [f__law_names, mk1_ev, d__law_names, sq_ev, set_ev, c_ev, setK_ok, sqK_nx, lst_ev, args_ev, argK_ok, args_nil, argK2_ok, lstK_ok (b6 _ _ _ _ _ _), lstK_ok (b5 _ _ _ _ _), lstK_ok b0, List.replicate, set1_ev, set2_ev, set3_ev, set4_ev, op_ev, opK_ok, call_ev, var0_ev, var1_ev, var2_ev, var4_ev, callK_ok, A1, e1', L1, opK2_ok, d1, for_ev, r1_ev, e2', L2, d2, r1, forK_ok, e3, rt_ev, tuple_loc hN, rtK_ok, mkK_rt]
end G
set_option maxHeartbeats 4000000
namespace G
open PySem L2 Fs
/-! ### integers -/
def InP (t s : Nat) (S : Store) (r : Res W) : Prop := ∃ i S', r = .ok (.int i) S' ∧ Tp S' t s ∧ Fr t S S'
theorem pow9 {S : Store} : gPow (.int 10) (.int 9) S = .ok (.int 1000000000) S := by
  show (if (0 : Int) ≤ 9 ∧ (9 : Int) ≤ 1000000 ∧ (10 : Int).natAbs < 2 ^ 64 then Res.ok (W.int (10 ^ (9 : Int).toNat)) S else .bad) = _
  rw [if_pos (by decide)]
  rfl
theorem pow30 {S : Store} : gPow (.int 10) (.int 30) S = .ok (.int 1000000000000000000000000000000) S := by
  show (if (0 : Int) ≤ 30 ∧ (30 : Int) ≤ 1000000 ∧ (10 : Int).natAbs < 2 ^ 64 then Res.ok (W.int (10 ^ (30 : Int).toNat)) S else .bad) = _
  rw [if_pos (by decide)]
  rfl
theorem pow21 {S : Store} : gPow (.int 10) (.int 21) S = .ok (.int 1000000000000000000000) S := by
  show (if (0 : Int) ≤ 21 ∧ (21 : Int) ≤ 1000000 ∧ (10 : Int).natAbs < 2 ^ 64 then Res.ok (W.int (10 ^ (21 : Int).toNat)) S else .bad) = _
  rw [if_pos (by decide)]
  rfl
theorem integer_ok {S : Store} {t s : Nat} {m : Int} (h : Tp S t s) (h0 : 0 ≤ m) (h1 : m ≤ 1000) : InP t s S (f__law_integer [.loc t, .int m] S) := by
  obtain ⟨k1, S1, e1, T1, F1, l1, u1⟩ := draw_n 5 h
  let L : List W := [.int 2, .int (m + 1), .int (m + 14), .int 1000000000, .int 999999999999999999999999999901]
  have T1' : Tp (S1 ++ [.lst L]) t s := T1.app
  obtain ⟨w, d1, m1⟩ := ix_lit (S := S1 ++ [.lst L]) (p := S1.length) (ws := L) (k := k1) (get_mid (cs := [])) l1 (by exact u1)
  have hw : ∃ j : Int, w = .int j ∧ 1 ≤ j ∧ j ≤ 10000000000000000000000000000000000000000 := by
    simp only [L, List.mem_cons, List.mem_nil_iff, or_false] at m1
    rcases m1 with rfl | rfl | rfl | rfl | rfl <;> exact ⟨_, rfl, by omega, by omega⟩
  obtain ⟨j, rfl, j1, j2⟩ := hw
  obtain ⟨k2, S2, e2, T2, F2, l2, u2⟩ := draw_n j T1'
  have b5 : L.length ≤ 100 := by simp [L]
  have F02 : Fr t S S2 := (F1.trans fr_app).trans F2
  -- the number
  have st2 : ∃ (i : Int) (S3 : Store), (dIf (dTB (dOp gEq (dVar 2) (dC (.int 3)))) (dSet 3 (dOp gAdd (dOp gMul (dVar 3) (dOp gPow (dC (.int 10)) (dC (.int 21)))) (dCall f__law_draw [(dVar 0), (dOp gPow (dC (.int 10)) (dC (.int 9)))]))) dNx)
      [some (.loc t), some (.int m), some (.int k1), some (.int k2)] S2 = .nx [some (.loc t), some (.int m), some (.int k1), some (.int i)] S3 ∧ Tp S3 t s ∧ Fr t S2 S3 := by
    by_cases hk : k1 = 3
    · obtain ⟨k3, S3, e3, T3, F3, l3, u3⟩ := draw_n 1000000000 T2
      have hj : j = 1000000000 := by
        subst hk
        rw [ixl (get_mid (cs := [])) at3_ev] at d1
        injection d1 with d1
        injection d1 with d1
        exact d1.symm
      refine ⟨k2 * 1000000000000000000000 + k3, S3, ?_, T3, F3⟩
      simp [hk, pow21, pow9, e3, mul_ii' (show -(2 ^ 64) < k2 ∧ k2 < 2 ^ 64 by constructor <;> omega)]
    · exact ⟨k2, S2, by simp [hk], T2, Fr.refl _ _⟩
  obtain ⟨i, S3, x2, T3, F3⟩ := st2
  let M : List W := [.int i, .int (-i)]
  have T3' : Tp (S3 ++ [.lst M]) t s := T3.app
  obtain ⟨k4, S4, e4, T4, F4, l4, u4⟩ := draw_n 2 T3'
  have q4 : S4[S3.length]? = some (.lst M) := F4.get (by have := T3.lt; omega) (get_mid (cs := []))
  obtain ⟨w4, d4, m4⟩ := ix_lit (k := k4) q4 l4 (by exact u4)
  have hw4 : ∃ j : Int, w4 = .int j := by
    simp only [M, List.mem_cons, List.mem_nil_iff, or_false] at m4
    rcases m4 with rfl | rfl <;> exact ⟨_, rfl⟩
  obtain ⟨j4, rfl⟩ := hw4
  have b2 : ∀ a b : W, [a, b].length ≤ 100 := fun _ _ => by simp
  refine ⟨j4, S4, ?_, T4, F02.trans ((F3.trans fr_app).trans F4)⟩
  have c99 : (1000000000000000000000000000000 - 99 : Int) = 999999999999999999999999999901 := by decide
  simp only [L] at b5 d1 e2
  simp only [M] at e4 d4
  simp only [f__law_integer, mk2_ev, d__law_integer, sq_ev, set_ev, call_ev, args_ev, argK_ok, args_nil, argK2_ok, callK_ok, List.replicate, var0_ev, var1_ev, c_ev, e1, setK_ok, set2_ev, sqK_nx, op_ev, opK_ok, opK2_ok, lst_ev, add_ii, pow9, pow30, sub_ii, c99, lstK_ok b5, var2_ev, d1, e2, set3_ev, x2, rt_ev, var3_ev, un_ev, unK_ok, neg_i, lstK_ok (b2 _ _), e4, d4, rtK_ok, mkK_rt]
end G
set_option maxHeartbeats 4000000
namespace G
open PySem L2 Fs
/-! ### data: no lists, texts that are texts, at most n deep -/
inductive OkW : Nat → W → Prop
  | non {n : Nat} : OkW n .non
  | bl {n : Nat} (b : Bool) : OkW n (.bl b)
  | int {n : Nat} (i : Int) : OkW n (.int i)
  | str {n : Nat} {x : Str} : PyData.strOk x = true → OkW n (.str x)
  | tup {n : Nat} {ws : List W} : (∀ w ∈ ws, OkW n w) → OkW (n + 1) (.tup ws)
theorem OkW.mono : ∀ {n m : Nat} {w : W}, OkW n w → n ≤ m → OkW m w := by
  intro n
  induction n with
  | zero =>
    intro m w h _
    cases h with
    | non => exact .non
    | bl b => exact .bl b
    | int i => exact .int i
    | str h => exact .str h
  | succ n ih =>
    intro m w h hm
    cases h with
    | non => exact .non
    | bl b => exact .bl b
    | int i => exact .int i
    | str h => exact .str h
    | tup h =>
      obtain ⟨k, rfl⟩ : ∃ k, m = k + 1 := ⟨m - 1, by omega⟩
      exact .tup fun w hw => ih (h w hw) (by omega)
theorem lay_all (S : Store) {n : Nat} (ih : ∀ w, OkW n w → (toD S w).canLay0 = true ∧ (toD S w).depth ≤ n) : ∀ ws : List W, (∀ w ∈ ws, OkW n w) → PyData.canLayAll0 (toDA S ws) = true ∧ PyData.depthAll (toDA S ws) ≤ n
  | [], _ => by
    unfold toDA PyData.canLayAll0 PyData.depthAll
    exact ⟨rfl, Nat.zero_le _⟩
  | w :: ws, h => by
    obtain ⟨h1, h2⟩ := ih w (h w List.mem_cons_self)
    obtain ⟨h3, h4⟩ := lay_all S ih ws fun w hw => h w (List.mem_cons_of_mem _ hw)
    unfold toDA PyData.canLayAll0 PyData.depthAll
    rw [h1, h3]
    exact ⟨rfl, Nat.max_le.mpr ⟨h2, h4⟩⟩
theorem OkW.lay (S : Store) : ∀ {n : Nat} {w : W}, OkW n w → (toD S w).canLay0 = true ∧ (toD S w).depth ≤ n := by
  intro n
  induction n with
  | zero =>
    intro w h
    cases h with
    | non => unfold toD PyData.canLay0 PyData.depth; exact ⟨rfl, Nat.le_refl _⟩
    | bl b => unfold toD PyData.canLay0 PyData.depth; exact ⟨rfl, Nat.le_refl _⟩
    | int i => unfold toD PyData.canLay0 PyData.depth; exact ⟨rfl, Nat.le_refl _⟩
    | str h => unfold toD PyData.canLay0 PyData.depth; exact ⟨h, Nat.le_refl _⟩
  | succ n ih =>
    intro w h
    cases h with
    | non => unfold toD PyData.canLay0 PyData.depth; exact ⟨rfl, Nat.zero_le _⟩
    | bl b => unfold toD PyData.canLay0 PyData.depth; exact ⟨rfl, Nat.zero_le _⟩
    | int i => unfold toD PyData.canLay0 PyData.depth; exact ⟨rfl, Nat.zero_le _⟩
    | str h => unfold toD PyData.canLay0 PyData.depth; exact ⟨h, Nat.zero_le _⟩
    | tup h =>
      obtain ⟨h1, h2⟩ := lay_all S (fun w hw => ih hw) _ h
      unfold toD PyData.canLay0 PyData.depth
      exact ⟨h1, Nat.succ_le_succ h2⟩
theorem OkW.shaped {S : Store} {n : Nat} {w : W} (h : OkW n w) (hn : n ≤ 64) : SeqAt.shaped (toD S w) = true := by
  obtain ⟨h1, h2⟩ := h.lay S
  unfold SeqAt.shaped
  rw [h1, decide_eq_true (Nat.le_trans h2 hn)]
  rfl
/-- == of data, whatever it is -/
theorem eqB_gen {neg : Bool} {S : Store} {x y : W} (h1 : SeqAt.shaped (toD S x) = true) (h2 : SeqAt.shaped (toD S y) = true) : gEqB neg x y S = .ok (.bl (neg != PyData.eqv (toD S x) (toD S y))) S := by
  unfold gEqB
  split
  · rename_i i j
    rw [show toD S (.int i) = .int i by unfold toD; rfl, show toD S (.int j) = .int j by unfold toD; rfl]
    unfold PyData.eqv
    rw [Bool.beq_eq_decide_eq]
  · rename_i i j
    rw [show toD S (.str i) = .str i by unfold toD; rfl, show toD S (.str j) = .str j by unfold toD; rfl]
    unfold PyData.eqv
    rw [Bool.beq_eq_decide_eq]
  · rename_i i j
    rw [show toD S (.bl i) = .bool i by unfold toD; rfl, show toD S (.bl j) = .bool j by unfold toD; rfl]
    unfold PyData.eqv
    rw [Bool.beq_eq_decide_eq]
  · rw [if_pos ⟨h1, h2⟩]
theorem eq_ok {S : Store} {n m : Nat} {x y : W} (hx : OkW n x) (hy : OkW m y) (hn : n ≤ 64) (hm : m ≤ 64) : gEq x y S = .ok (.bl (PyData.eqv (toD S x) (toD S y))) S := by
  show gEqB false x y S = _
  rw [eqB_gen (hx.shaped hn) (hy.shaped hm), false_bne]
theorem ne_ok {S : Store} {n m : Nat} {x y : W} (hx : OkW n x) (hy : OkW m y) (hn : n ≤ 64) (hm : m ≤ 64) : gNe x y S = .ok (.bl (!PyData.eqv (toD S x) (toD S y))) S := by
  show gEqB true x y S = _
  rw [eqB_gen (hx.shaped hn) (hy.shaped hm), true_bne]
/-- with short tuples -/
inductive Sh : Nat → Nat → W → Prop
  | non {l n : Nat} : Sh l n .non
  | bl {l n : Nat} (b : Bool) : Sh l n (.bl b)
  | int {l n : Nat} (i : Int) : Sh l n (.int i)
  | str {l n : Nat} {x : Str} : PyData.strOk x = true → Sh l n (.str x)
  | tup {l n : Nat} {ws : List W} : ws.length ≤ l → (∀ w ∈ ws, Sh l n w) → Sh l (n + 1) (.tup ws)
theorem Sh.ok : ∀ {n l : Nat} {w : W}, Sh l n w → OkW n w := by
  intro n
  induction n with
  | zero =>
    intro l w h
    cases h with
    | non => exact .non
    | bl b => exact .bl b
    | int i => exact .int i
    | str h => exact .str h
  | succ n ih =>
    intro l w h
    cases h with
    | non => exact .non
    | bl b => exact .bl b
    | int i => exact .int i
    | str h => exact .str h
    | tup h1 h => exact .tup fun w hw => ih (h w hw)
theorem Sh.mono : ∀ {n m l k : Nat} {w : W}, Sh l n w → n ≤ m → l ≤ k → Sh k m w := by
  intro n
  induction n with
  | zero =>
    intro m l k w h _ _
    cases h with
    | non => exact .non
    | bl b => exact .bl b
    | int i => exact .int i
    | str h => exact .str h
  | succ n ih =>
    intro m l k w h hm hk
    cases h with
    | non => exact .non
    | bl b => exact .bl b
    | int i => exact .int i
    | str h => exact .str h
    | tup h1 h =>
      obtain ⟨j, rfl⟩ : ∃ j, m = j + 1 := ⟨m - 1, by omega⟩
      exact .tup (by omega) fun w hw => ih (h w hw) (by omega) hk
/-! ### letters -/
inductive Lt : W → W → Prop
  | name {ns : List Str} {x : Str} : x ∈ ns → Lt (.tup [strW "names", .tup (ns.map .str)]) (.str x)
  | kint (i : Int) : Lt (.tup [strW "integers"]) (.int i)
  | pair {a b x y : W} : Lt a x → Lt b y → Lt (.tup [strW "pair", a, b]) (.tup [strW "pair", x, y])
  | case {ks : List W} {i : Int} {a x : W} : 0 ≤ i → ks[i.toNat]? = some a → Lt a x → Lt (.tup [strW "either", .tup ks]) (.tup [strW "case", .int i, x])
  | none {a : W} : Lt (.tup [strW "maybe", a]) (.tup [strW "none"])
  | some {a x : W} : Lt a x → Lt (.tup [strW "maybe", a]) (.tup [strW "some", x])
theorem strW_ok {l n : Nat} (s : String) (h : PyData.strOk (Str.ofString s) = true := by decide +kernel) : Sh l n (strW s) := .str h
theorem Lt.ok : ∀ {n : Nat} {s : Int} {k w : W}, Kd n s k → Lt k w → Sh 3 n w := by
  intro n
  induction n with
  | zero => intro s k w h; cases h
  | succ n ih =>
    intro s k w h hl
    cases h with
    | names a b c d =>
      generalize hk : W.tup [strW "names", _] = k at hl
      cases hl with
      | name hx =>
        injection hk with hk
        injection hk with _ hk
        injection hk with hk
        injection hk with hk
        have : ∀ {l l' : List Str}, l.map W.str = l'.map W.str → l = l' := fun {l l'} e => List.map_inj_right (fun _ _ e => W.str.inj e) |>.mp e
        have e := this hk
        subst e
        exact .str (d _ hx).1
      | kint => cases hk
      | pair => exact absurd hk (by simp)
      | case => exact absurd hk (by simp +decide)
      | none => exact absurd hk (by simp +decide)
      | some => exact absurd hk (by simp +decide)
    | kint => cases hl with
      | kint i => exact .int i
    | pair h1 h2 =>
      generalize hk : W.tup [strW "pair", _, _] = k at hl
      cases hl with
      | pair a b =>
        cases hk
        refine .tup (by simp) fun w hw => ?_
        simp only [List.mem_cons, List.mem_nil_iff, or_false] at hw
        rcases hw with rfl | rfl | rfl
        · exact strW_ok "pair"
        · exact ih h1 a
        · exact ih h2 b
      | name => exact absurd hk (by simp)
      | kint => cases hk
      | case => exact absurd hk (by simp +decide)
      | none => exact absurd hk (by simp +decide)
      | some => exact absurd hk (by simp +decide)
    | either h1 h2 h3 =>
      generalize hk : W.tup [strW "either", _] = k at hl
      cases hl with
      | case h0 hi hx =>
        cases hk
        obtain ⟨s', hs⟩ := h1.mem _ (List.mem_of_getElem? hi)
        refine .tup (by simp) fun w hw => ?_
        simp only [List.mem_cons, List.mem_nil_iff, or_false] at hw
        rcases hw with rfl | rfl | rfl
        · exact strW_ok "case"
        · exact .int _
        · exact ih hs hx
      | name => exact absurd hk (by simp +decide)
      | kint => cases hk
      | pair => exact absurd hk (by simp)
      | none => exact absurd hk (by simp +decide)
      | some => exact absurd hk (by simp +decide)
    | maybe h1 =>
      generalize hk : W.tup [strW "maybe", _] = k at hl
      cases hl with
      | none =>
        refine .tup (by simp) fun w hw => ?_
        simp only [List.mem_cons, List.mem_nil_iff, or_false] at hw
        subst hw
        exact strW_ok "none"
      | some hx =>
        cases hk
        refine .tup (by simp) fun w hw => ?_
        simp only [List.mem_cons, List.mem_nil_iff, or_false] at hw
        rcases hw with rfl | rfl
        · exact strW_ok "some"
        · exact ih h1 hx
      | name => exact absurd hk (by simp +decide)
      | kint => cases hk
      | pair => exact absurd hk (by simp)
      | case => exact absurd hk (by simp +decide)
/-! ### drawn letters -/
def LtP (t s : Nat) (S : Store) (k : W) (r : Res W) : Prop := ∃ w S', r = .ok w S' ∧ Tp S' t s ∧ Fr t S S' ∧ Lt k w
theorem letter_ok {t s : Nat} {q : W} {m : Int} (m0 : 0 ≤ m) (m1 : m ≤ 1000) : ∀ {n : Nat} {z : Int} {k : W}, Kd n z k → ∀ {S : Store}, Tp S t s → LtP t s S k (f__law_letter n [.loc t, k, .tup [.int m, q]] S) := by
  intro n
  induction n with
  | zero => intro z k h; cases h
  | succ n ih =>
    intro z k h S hT
    have b1 : ∀ a : W, [a].length ≤ 100 := fun _ => by simp
    have b2 : ∀ a b : W, [a, b].length ≤ 100 := fun _ _ => by simp
    have b3 : ∀ a b c : W, [a, b, c].length ≤ 100 := fun _ _ _ => by simp
    cases h with
    | @names _ ns a b c d =>
      have hl : 1 ≤ (ns.length : Int) := by
        cases ns with
        | nil => exact absurd rfl a
        | cons x r => rw [List.length_cons]; omega
      obtain ⟨k1, S1, e1, T1, F1, l1, u1⟩ := draw_n (ns.length : Int) hT
      obtain ⟨w, d1, mm⟩ := atNat (xs := ns.map W.str) l1 (by simpa using u1)
      obtain ⟨x, hx, rfl⟩ := List.mem_map.mp mm
      exact ⟨.str x, S1, by simp +decide [f__law_letter, d__law_letter, ixt0, ixt1, e1, ix_t d1], T1, F1, .name hx⟩
    | kint =>
      obtain ⟨i, S1, e1, T1, F1⟩ := integer_ok hT m0 m1
      exact ⟨.int i, S1, by simp +decide [f__law_letter, d__law_letter, ixt0, ixt1, e1], T1, F1, .kint i⟩
    | pair h1 h2 =>
      obtain ⟨x, S1, e1, T1, F1, r1⟩ := ih h1 hT
      obtain ⟨y, S2, e2, T2, F2, r2⟩ := ih h2 T1
      exact ⟨_, S2, by simp +decide [f__law_letter, d__law_letter, ixt0, ixt1, ixt2, e1, e2, tupK_ok (b3 _ _ _)], T2, F1.trans F2, .pair r1 r2⟩
    | @either _ _ ks h1 h2 h3 =>
      have hl : 1 ≤ (ks.length : Int) := by
        cases ks with
        | nil => exact absurd rfl h2
        | cons x r => rw [List.length_cons]; omega
      obtain ⟨k1, S1, e1, T1, F1, l1, u1⟩ := draw_n (ks.length : Int) hT
      obtain ⟨a, d1, mm⟩ := atNat (xs := ks) l1 u1
      obtain ⟨z', hz⟩ := h1.mem a mm
      obtain ⟨x, S2, e2, T2, F2, r2⟩ := ih hz T1
      have hg : ks[k1.toNat]? = some a := by
        unfold L2.atI ixN at d1
        rw [if_pos l1, if_pos u1] at d1
        exact d1
      exact ⟨_, S2, by simp +decide [f__law_letter, d__law_letter, ixt0, ixt1, ixt2, e1, ix_t d1, e2, tupK_ok (b3 _ _ _)], T2, F1.trans F2, .case l1 hg r2⟩
    | maybe h1 =>
      obtain ⟨k1, S1, e1, T1, F1, l1, u1⟩ := draw_n 3 hT
      by_cases hk : k1 = 0
      · exact ⟨_, S1, by simp +decide [f__law_letter, d__law_letter, ixt0, ixt1, e1, hk, tupK_ok (b1 _)], T1, F1, .none⟩
      · obtain ⟨x, S2, e2, T2, F2, r2⟩ := ih h1 T1
        exact ⟨_, S2, by simp +decide [f__law_letter, d__law_letter, ixt0, ixt1, e1, hk, e2, tupK_ok (b2 _ _)], T2, F1.trans F2, .some r2⟩
end G
set_option maxHeartbeats 4000000
namespace G
open PySem L2 Fs
/-! ### drawn kinds -/
def KdP (t s : Nat) (S : Store) (d : Nat) (m : Int) (r : Res W) : Prop := ∃ k z S', r = .ok k S' ∧ Tp S' t s ∧ Fr t S S' ∧ Kd d z k ∧ z ≤ m
theorem leaf_ok {n : Nat} {t s : Nat} {S : Store} {d : Nat} {m c : Int} {S1 : Store} (hm : 1 ≤ m) (e1 : f__law_draw [.loc t, .int 8] S = .ok (.int c) S1) (T1 : Tp S1 t s) (F1 : Fr t S S1) {D : Int} (hc : D = 1 ∨ m = 1 ∨ c < 2) :
    KdP t s S (d + 1) m (f__law_kind (n + 1) [.loc t, .int D, .int m] S) := by
  have b1 : ∀ a : W, [a].length ≤ 100 := fun _ => by simp
  have b2 : ∀ a b : W, [a, b].length ≤ 100 := fun _ _ => by simp
  obtain ⟨k2, S2, e2, T2, F2, l2, u2⟩ := draw_n 3 T1
  have ht : ∀ ls3 : Lo, (dOrT (dTB (dOp gEq (dVar 1) (dC (.int 1)))) (dOrT (dTB (dOp gEq (dVar 2) (dC (.int 1)))) (dTB (dOp gLt (dVar 3) (dC (.int 2)))))) (some (.loc t) :: some (.int D) :: some (.int m) :: some (.int c) :: ls3) S1 = .ok true S1 := fun ls3 => by
    by_cases h1 : D = 1
    · simp [h1]
    · by_cases h2 : m = 1
      · simp [h1, h2]
      · have h3 : c < 2 := by
          rcases hc with h | h | h
          · exact absurd h h1
          · exact absurd h h2
          · exact h
        simp [h1, h2, h3]
  by_cases hk : k2 = 0
  · obtain ⟨ns, S3, e3, T3, F3, n1, n2, n3, n4⟩ := names_ok T2
    refine ⟨_, 1, S3, ?_, T3, (F1.trans F2).trans F3, .names n1 n2 n3 n4, hm⟩
    simp only [f__law_kind, mk3_ev, d__law_kind, sq_ev, set_ev, call_ev, args_ev, argK_ok, args_nil, argK2_ok, callK_ok, List.replicate, var0_ev, c_ev, e1, setK_ok, set3_ev, sqK_nx, if_ev, ht, ifK_t, tb_ev, op_ev, opK_ok, opK2_ok, e2, eq_ii, hk, tbK_ok, decide_true, rt_ev, tup_ev, e3, tupK_ok (b2 _ _), rtK_ok, sqK_rt, mkK_rt]
  · refine ⟨_, 1, S2, ?_, T2, F1.trans F2, .kint, hm⟩
    simp only [f__law_kind, mk3_ev, d__law_kind, sq_ev, set_ev, call_ev, args_ev, argK_ok, args_nil, argK2_ok, callK_ok, List.replicate, var0_ev, c_ev, e1, setK_ok, set3_ev, sqK_nx, if_ev, ht, ifK_t, tb_ev, op_ev, opK_ok, opK2_ok, e2, eq_ii, hk, tbK_ok, decide_false, ifK_f, nx_ev, rt_ev, tup_ev, tupK_ok (b1 _), rtK_ok, sqK_rt, mkK_rt]
def KlI (t s : Nat) (p : Nat) (S0 : Store) (d : Nat) (D m c parts : Int) (i : Nat) (ls : Lo) (S : Store) : Prop := ∃ x4 x8 x9 left ks z, ls = [some (.loc t), some (.int D), some (.int m), some (.int c), x4, some (.int left), some (.int parts), some (.loc p), x8, x9] ∧
  Tp S t s ∧ Fr t S0 S ∧ S[p]? = some (.lst ks) ∧ ks.length = i ∧ KdA d z ks ∧ z + left = m - 1 ∧ parts - i ≤ left
theorem kl_turn {n t s p : Nat} {S0 S : Store} {d : Nat} {D m c parts : Int} {i : Nat} {ls : Lo} (ih : ∀ {m : Int} {S : Store}, 1 ≤ m → m ≤ 1000 → Tp S t s → KdP t s S d m (f__law_kind n [.loc t, .int (d : Int), .int m] S)) (hd : D - 1 = (d : Int)) (h4 : d ≤ 4) (hm : m ≤ 1000)
    (hp : S0.length ≤ p) (hpt : p ≠ t) (hps : p ≠ s) (hi : (i : Int) < parts) (hi2 : i < 1000) (h : KlI t s p S0 d D m c parts i ls S) :
    ∃ ls0 ls1 S1, dgName 8 (.int (0 + (i : Int))) ls = some ls0 ∧ (dSeq (dSet 9 (dCall (f__law_kind n) [(dVar 0), (dOp gSub (dVar 1) (dC (.int 1))), (dOp gSub (dVar 5) (dOp gSub (dOp gSub (dVar 6) (dC (.int 1))) (dVar 8)))]))
    (dSeq (dExpr (dAppend (dVar 7) (dVar 9)))
    (dSet 5 (dOp gSub (dVar 5) (dCall (f__law_kinds 4) [(dVar 9)]))))) ls0 S = .nx ls1 S1 ∧ KlI t s p S0 d D m c parts (i + 1) ls1 S1 := by
  obtain ⟨x4, x8, x9, left, ks, z, rfl, hT, hF, hp1, hlen, hA, hz, hl⟩ := h
  have zp : 0 ≤ z := by
    cases ks with
    | nil => cases hA; exact Int.le_refl _
    | cons a r =>
      have : ∀ (ks : List W) (z : Int), KdA d z ks → 0 ≤ z := fun ks => by
        induction ks with
        | nil => intro z h; cases h; exact Int.le_refl _
        | cons a r ihr =>
          intro z h
          cases h with
          | cons h1 h2 =>
            have := h1.pos
            have := ihr _ h2
            omega
      exact this _ _ hA
  obtain ⟨k, z', S1, e1, T1, F1, hk, hz'⟩ := ih (m := left - (parts - 1 - (0 + (i : Int)))) (S := S) (by omega) (by omega) hT
  have hp2 := F1.get hpt hp1
  have T2 : Tp (S1.set p (.lst (ks ++ [k]))) t s := T1.other hpt hps
  obtain ⟨cs, e3⟩ := kinds_ok (hk.le h4) (S1.set p (.lst (ks ++ [k])))
  refine ⟨_, [some (.loc t), some (.int D), some (.int m), some (.int c), x4, some (.int (left - z')), some (.int parts), some (.loc p), some (.int (0 + (i : Int))), some k], S1.set p (.lst (ks ++ [k])) ++ cs, rfl, ?_,
    ⟨_, _, _, left - z', ks ++ [k], z + z', rfl, T2.app, ((hF.trans F1).put hp).trans fr_app, ?_, ?_, hA.snoc hk, by omega, by omega⟩⟩
  · simp only [set8_ev, sq_ev, set_ev, call_ev, args_ev, argK_ok, args_nil, argK2_ok, callK_ok, var0_ev, var1_ev, var5_ev, var6_ev, var7_ev, var8_ev, c_ev, op_ev, opK_ok, opK2_ok, sub_ii, hd, e1, setK_ok, set9_ev, sqK_nx, ex_ev, ap_ev, apK_ok (lst_loc hp2), var9_ev, apK2_ok, append_loc hp2 (show ks.length < 100000 by omega), exK_ok, e3, set5_ev]
  · rw [List.getElem?_append_left (by rw [List.length_set]; exact lt_of hp2)]
    exact get_set hp2
  · rw [List.length_append, hlen]
    rfl
theorem kind_ok {t s : Nat} : ∀ {n d : Nat} {m : Int} {S : Store}, 1 ≤ d → d ≤ n → d ≤ 4 → 1 ≤ m → m ≤ 1000 → Tp S t s → KdP t s S d m (f__law_kind n [.loc t, .int (d : Int), .int m] S) := by
  intro n
  induction n with
  | zero => intro d m S h1 h2; omega
  | succ n ih =>
    intro d m S h1 h2 h4 hm hm2 hT
    have b2 : ∀ a b : W, [a, b].length ≤ 100 := fun _ _ => by simp
    have b3 : ∀ a b c : W, [a, b, c].length ≤ 100 := fun _ _ _ => by simp
    have b0 : ([] : List W).length ≤ 100 := by simp
    obtain ⟨c, S1, e1, T1, F1, l1, u1⟩ := draw_n 8 hT
    obtain ⟨d', rfl⟩ : ∃ d', d = d' + 1 := ⟨d - 1, by omega⟩
    by_cases hc : ((d' + 1 : Nat) : Int) = 1 ∨ m = 1 ∨ c < 2
    · exact leaf_ok hm e1 T1 F1 hc
    · have c1 : ¬ ((d' + 1 : Nat) : Int) = 1 := fun h => hc (.inl h)
      have c2 : ¬ m = 1 := fun h => hc (.inr (.inl h))
      have c3 : ¬ c < 2 := fun h => hc (.inr (.inr h))
      have hd1 : 1 ≤ d' := by omega
      have ed : ((d' + 1 : Nat) : Int) - 1 = (d' : Int) := by omega
      by_cases hq : m = 2 ∨ c = 2
      · obtain ⟨k, z, S2, e2, T2, F2, hk, hz⟩ := ih (d := d') (m := m - 1) hd1 (by omega) (by omega) (by omega) (by omega) T1
        refine ⟨_, 1 + z, S2, ?_, T2, F1.trans F2, .maybe hk, by omega⟩
        have ht : ∀ ls3 : Lo, (dOrT (dTB (dOp gEq (dVar 2) (dC (.int 2)))) (dTB (dOp gEq (dVar 3) (dC (.int 2))))) (some (.loc t) :: some (.int ((d' + 1 : Nat) : Int)) :: some (.int m) :: some (.int c) :: ls3) S1 = .ok true S1 := fun ls3 => by
          by_cases h1 : m = 2
          · simp [h1]
          · have h2 : c = 2 := by
              rcases hq with h | h
              · exact absurd h h1
              · exact h
            simp [h1, h2]
        have hf : ∀ ls3 : Lo, (dOrT (dTB (dOp gEq (dVar 1) (dC (.int 1)))) (dOrT (dTB (dOp gEq (dVar 2) (dC (.int 1)))) (dTB (dOp gLt (dVar 3) (dC (.int 2)))))) (some (.loc t) :: some (.int ((d' + 1 : Nat) : Int)) :: some (.int m) :: some (.int c) :: ls3) S1 = .ok false S1 := fun ls3 => by
          simp only [or_ev, tb_ev, op_ev, var1_ev, var2_ev, var3_ev, opK_ok, opK2_ok, c_ev, eq_ii, tbK_ok, c1, c2, c3, lt_ii, decide_false, oK_f]
        simp only [f__law_kind, mk3_ev, d__law_kind, sq_ev, set_ev, call_ev, args_ev, argK_ok, args_nil, argK2_ok, callK_ok, List.replicate, var0_ev, var1_ev, var2_ev, c_ev, e1, setK_ok, set3_ev, sqK_nx, if_ev, hf, ht, ifK_f, ifK_t, nx_ev, op_ev, opK_ok, opK2_ok, sub_ii, ed, e2, rt_ev, tup_ev, tupK_ok (b2 _ _), rtK_ok, sqK_rt, mkK_rt]
      · have q1 : ¬ m = 2 := fun h => hq (.inl h)
        have q2 : ¬ c = 2 := fun h => hq (.inr h)
        have hf : ∀ ls3 : Lo, (dOrT (dTB (dOp gEq (dVar 1) (dC (.int 1)))) (dOrT (dTB (dOp gEq (dVar 2) (dC (.int 1)))) (dTB (dOp gLt (dVar 3) (dC (.int 2)))))) (some (.loc t) :: some (.int ((d' + 1 : Nat) : Int)) :: some (.int m) :: some (.int c) :: ls3) S1 = .ok false S1 := fun ls3 => by
          simp only [or_ev, tb_ev, op_ev, var1_ev, var2_ev, var3_ev, opK_ok, opK2_ok, c_ev, eq_ii, tbK_ok, c1, c2, c3, lt_ii, decide_false, oK_f]
        have hf2 : ∀ ls3 : Lo, (dOrT (dTB (dOp gEq (dVar 2) (dC (.int 2)))) (dTB (dOp gEq (dVar 3) (dC (.int 2))))) (some (.loc t) :: some (.int ((d' + 1 : Nat) : Int)) :: some (.int m) :: some (.int c) :: ls3) S1 = .ok false S1 := fun ls3 => by
          simp only [or_ev, tb_ev, op_ev, var1_ev, var2_ev, var3_ev, opK_ok, opK2_ok, c_ev, eq_ii, tbK_ok, q1, q2, decide_false, oK_f]
        by_cases h6 : c < 6
        · obtain ⟨k, z, S2, e2, T2, F2, hk, hz⟩ := ih (d := d') (m := m - 2) hd1 (by omega) (by omega) (by omega) (by omega) T1
          obtain ⟨cs, e3⟩ := kinds_ok (hk.le (show d' ≤ 4 by omega)) S2
          have zp := hk.pos
          obtain ⟨k', z', S3, e4, T3, F3, hk', hz'⟩ := ih (d := d') (m := m - 1 - z) hd1 (by omega) (by omega) (by omega) (by omega) (T2.app (cs := cs))
          refine ⟨_, 1 + z + z', S3, ?_, T3, (F1.trans F2).trans (fr_app.trans F3), .pair hk hk', by omega⟩
          simp only [f__law_kind, mk3_ev, d__law_kind, sq_ev, set_ev, call_ev, args_ev, argK_ok, args_nil, argK2_ok, callK_ok, List.replicate, var0_ev, var1_ev, var2_ev, var3_ev, var4_ev, c_ev, e1, setK_ok, set3_ev, set4_ev, sqK_nx, if_ev, hf, hf2, ifK_f, ifK_t, nx_ev, op_ev, opK_ok, opK2_ok, tb_ev, lt_ii, h6, decide_true, tbK_ok, sub_ii, ed, e2, e3, e4, rt_ev, tup_ev, tupK_ok (b3 _ _ _), rtK_ok, sqK_rt, mkK_rt]
        · obtain ⟨mm, hmm⟩ : ∃ mm : Int, mm = if m - 1 < 3 then m - 1 else 3 := ⟨_, rfl⟩
          have m1 : 1 ≤ mm ∧ mm ≤ 3 ∧ mm ≤ m - 1 := by
            rw [hmm]
            split <;> omega
          obtain ⟨k2, S2, e2, T2, F2, l2, u2⟩ := draw_n mm T1
          have hS2 : S.length ≤ S2.length := (F1.trans F2).1
          have loop := loop_inv (st := fun _ => True) (gg := dgName 8) (KlI t s S2.length S d' ((d' + 1 : Nat) : Int) m c (1 + k2)) (fun _ _ _ _ => trivial) (rngW 0 (1 + k2).toNat) 0
            (fun i w ls S' ew hI => by
              obtain ⟨hi, rfl⟩ := rngW_get ew
              rw [Nat.zero_add] at hI ⊢
              obtain ⟨ls0, ls1, S1', a1, a2, a3⟩ := kl_turn (n := n) (fun h1 h2 h3 => ih hd1 (by omega) (by omega) h1 h2 h3) ed (by omega) hm2 hS2 (by have := T2.lt; omega) (by have := T2.lt; omega) (by omega) (by omega) hI
              exact ⟨ls0, ls1, S1', a1, .inl a2, a3⟩)
            [some (.loc t), some (.int ((d' + 1 : Nat) : Int)), some (.int m), some (.int c), none, some (.int (m - 1)), some (.int (1 + k2)), some (.loc S2.length), none, none] (S2 ++ [.lst []])
            ⟨none, none, none, m - 1, [], 0, rfl, T2.app, (F1.trans F2).trans fr_app, get_mid (cs := []), rfl, .nil, by omega, by omega⟩
          obtain ⟨ls3, S3, e3, x4, x8, x9, left, ks, z, rfl, T3, F3, hp3, hlen, hA, hz, hlf⟩ := loop
          rw [Nat.zero_add, rngW_len] at hlen hlf
          refine ⟨_, 1 + z, S3, ?_, T3, F3, .either hA (fun h => by rw [h, List.length_nil] at hlen; omega) (by omega), by omega⟩
          have r1 : r1K (.ok (.int (1 + k2)) (S2 ++ [.lst []])) = .ok ⟨rngW 0 (1 + k2).toNat, fun _ => True⟩ (S2 ++ [.lst []]) := r1K_ok ⟨by omega, by omega⟩
          simp only [f__law_kind, mk3_ev, d__law_kind, sq_ev, set_ev, call_ev, args_ev, argK_ok, args_nil, argK2_ok, callK_ok, List.replicate, var0_ev, var1_ev, var2_ev, var3_ev, var4_ev, c_ev, e1, setK_ok, set3_ev, set4_ev, sqK_nx, if_ev, hf, hf2, ifK_f, ifK_t, nx_ev, op_ev, opK_ok, opK2_ok, tb_ev, lt_ii, h6, decide_false, tbK_ok, sub_ii, set5_ev, var5_ev, min_ii, ← hmm, e2, add_ii, set6_ev, lst_ev, lstK_ok b0, set7_ev, for_ev, r1_ev, var6_ev, r1, forK_ok, e3, rt_ev, tup_ev, var7_ev, tuple_loc hp3, tupK_ok (b2 _ _), rtK_ok, mkK_rt]
end G
set_option maxHeartbeats 4000000
namespace G
open PySem L2 Fs
/-! ### the tape's making -/
theorem tape_ok (ns : List Int) : ∃ S, f__law_tape [.rol (ns.map W.int)] [] = .ok (.loc 1) S ∧ Tp S 1 0 ∧ S.length = 2 := by
  have loop := loop_inv (st := fun _ => True) (gg := dgName 2) (m := dSet 1 (dOp gMod (dCall gInt [(dOp gAdd (dOp gMul (dVar 1) (dC (.int 31))) (dCall gAbs [(dCall gInt [(dVar 2)])]))]) (dC (.int 2147483647))))
    (fun i ls S => ∃ (j : Int) (x2 : Option W), ls = [some (.rol (ns.map W.int)), some (.int j), x2] ∧ S = []) (fun _ _ _ _ => trivial) (ns.map W.int) 0
    (fun i w ls S ew h => by
      obtain ⟨j, x2, rfl, rfl⟩ := h
      obtain ⟨k, rfl⟩ := mem_int (List.mem_of_getElem? ew)
      refine ⟨_, [some (.rol (ns.map W.int)), some (.int ((j * 31 + (if k < 0 then -k else k)) % 2147483647)), some (.int k)], [], rfl, .inl ?_, ⟨_, _, rfl, rfl⟩⟩
      simp only [set2_ev, set_ev, op_ev, call_ev, args_ev, args_nil, var1_ev, opK_ok, c_ev, opK2_ok, mul_ii (show -(2 ^ 64) < (31 : Int) ∧ (31 : Int) < 2 ^ 64 by decide), var2_ev, argK_ok, argK2_ok, callK_ok, int_i, abs_i, add_ii, mod_ii (show (0 : Int) < 2147483647 by decide), setK_ok, set1_ev])
    [some (.rol (ns.map W.int)), some (.int 7), none] [] ⟨7, none, rfl, rfl⟩
  obtain ⟨ls, S, e, j, x2, rfl, rfl⟩ := loop
  have b4 : ∀ a b c d : W, [a, b, c, d].length ≤ 100 := fun _ _ _ _ => by simp
  refine ⟨[.lst (ns.map W.int), .lst [.loc 0, .int 0, .int 0, .int j]], ?_, ⟨ns, 0, 0, j, rfl, rfl, Int.le_refl _, by decide⟩, rfl⟩
  have st : (fun x => True) = stayOf (.rol (ns.map W.int)) (ns.map W.int) := rfl
  rw [st] at e
  have gl : gList [.rol (ns.map W.int)] [] = .ok (.loc 0) [.lst (ns.map W.int)] := rfl
  have sq : seqW [] (.rol (ns.map W.int)) = some (ns.map W.int) := rfl
  simp only [f__law_tape, mk1_ev, d__law_tape, sq_ev, set_ev, c_ev, setK_ok, List.replicate, set1_ev, sqK_nx, for_ev, si_ev, var0_ev, siK_ok, sq, siK2_ok, forK_ok, e, rt_ev, lst_ev, args_ev, args_nil, call_ev, argK_ok, argK2_ok, callK_ok, gl, var1_ev, lstK_ok (b4 _ _ _ _), rtK_ok, mkK_rt]
  rfl
/-! ### a spoilt letter -/
def isStr : W → Bool
  | .str _ => true
  | _ => false
theorem cat_tt {a b : List W} {S : Store} (h : a.length + b.length ≤ 1000) : gAdd (.tup a) (.tup b) S = .ok (.tup (a ++ b)) S := if_pos (Nat.le_trans h (by decide))
theorem slice_t {ws : List W} {lo hi : Option Int} {S : Store} : gSlice (.tup ws) lo hi S = .ok (.tup (cutW ws lo hi)) S := rfl
/-! ### is_letter, twice -/
def isS (w : W) (h : Str) : Bool := match w with
  | .str x => decide (x = h)
  | _ => false
theorem OkW.mem {n : Nat} {ws : List W} (h : OkW (n + 1) (.tup ws)) : ∀ w ∈ ws, OkW n w := by
  cases h with
  | tup h => exact h
def isNone (ws : List W) : Bool := match ws with
  | [w] => isS w (Str.ofString "none")
  | _ => false
theorem sd (a b : String) (h : Str.ofString a ≠ Str.ofString b := by decide +kernel) : decide (Str.ofString a = Str.ofString b) = false := decide_eq_false h
theorem in_names {S : Store} {m : Nat} {w : W} {ns : List Str} (hw : OkW m w) (hm : m ≤ 60) (hn : ∀ x ∈ ns, SOK 6 x) : ∃ b, gIn w (.tup (ns.map .str)) S = .ok (.bl b) S ∧ (isStr w = false → b = false) := by
  by_cases hf : flatW w = true
  · refine ⟨inFl w (ns.map .str), ?_, fun h => ?_⟩
    · show (if flatW w = true ∧ allFlat (ns.map .str) = true then Res.ok (W.bl (false != inFl w (ns.map .str))) S else _) = _
      rw [if_pos ⟨hf, allFlat_strs ns⟩, false_bne]
    · unfold inFl
      rw [List.any_eq_false]
      intro y hy
      obtain ⟨x, _, rfl⟩ := List.mem_map.mp hy
      cases hw with
      | str _ => cases h
      | tup _ => cases hf
      | non => simp [eqFl]
      | bl b => simp [eqFl]
      | int i => simp [eqFl]
  · cases hw with
    | str _ => exact absurd rfl hf
    | non => exact absurd rfl hf
    | bl b => exact absurd rfl hf
    | int i => exact absurd rfl hf
    | @tup n ws h =>
      have hs1 : SeqAt.shaped (toD S (.tup ws)) = true := (OkW.tup h).shaped (by omega)
      have hs2 : SeqAt.shaped (.tuple (toDA S (ns.map .str))) = true := by
        have : OkW 1 (.tup (ns.map .str)) := .tup fun w hw => by
          obtain ⟨x, hx, rfl⟩ := List.mem_map.mp hw
          exact .str (hn x hx).1
        have := this.shaped (S := S) (by decide)
        rw [show toD S (.tup (ns.map .str)) = .tuple (toDA S (ns.map .str)) by unfold toD; rfl] at this
        exact this
      refine ⟨inD S (.tup ws) (ns.map .str), ?_, fun _ => ?_⟩
      · show (if flatW (.tup ws) = true ∧ allFlat (ns.map .str) = true then Res.ok (W.bl (false != inFl (.tup ws) (ns.map .str))) S else if SeqAt.shaped (toD S (.tup ws)) = true ∧ SeqAt.shaped (.tuple (toDA S (ns.map .str))) = true ∧ notLoc (.tup (ns.map .str)) = true then Res.ok (W.bl (false != inD S (.tup ws) (ns.map .str))) S else _) = _
        rw [if_neg (fun z => by cases z.1), if_pos ⟨hs1, hs2, rfl⟩, false_bne]
      · unfold inD
        rw [List.any_eq_false]
        intro y hy
        obtain ⟨x, _, rfl⟩ := List.mem_map.mp hy
        rw [show toD S (.str x) = .str x by unfold toD; rfl, show toD S (.tup ws) = .tuple (toDA S ws) by unfold toD; rfl]
        unfold PyData.eqv
        simp
end G
set_option maxHeartbeats 4000000
namespace G
open PySem L2 Fs
/-! ### letters are letters -/
theorem atI_of {α : Type} {xs : List α} {i : Int} {a : α} (h0 : 0 ≤ i) (h : xs[i.toNat]? = some a) : L2.atI xs i = some a := by
  have hl := (List.getElem?_eq_some_iff.mp h).1
  unfold L2.atI ixN
  rw [if_pos h0, if_pos (by omega)]
  exact h
theorem map_str_inj : ∀ {ns ms : List Str}, ns.map W.str = ms.map W.str → ns = ms
  | [], [], _ => rfl
  | [], _ :: _, h => nomatch h
  | _ :: _, [], h => nomatch h
  | a :: r, b :: q, h => by
    rw [List.map_cons, List.map_cons] at h
    injection h with h1 h2
    injection h1 with h1
    rw [h1, map_str_inj h2]
theorem heads {a b : String} {r q : List W} (h : W.tup (strW a :: r) = .tup (strW b :: q)) (hn : Str.ofString a ≠ Str.ofString b := by decide +kernel) : False := by
  injection h with h
  injection h with h _
  injection h with h
  exact hn h
theorem Lt.inv_names {ns : List Str} {w : W} (h : Lt (.tup [strW "names", .tup (ns.map .str)]) w) : ∃ x, w = .str x ∧ x ∈ ns := by
  generalize e : W.tup [strW "names", .tup (ns.map .str)] = k at h
  cases h with
  | @name ms x hx =>
    injection e with e
    injection e with _ e
    injection e with e _
    injection e with e
    rw [map_str_inj e]
    exact ⟨x, rfl, hx⟩
  | kint _ => exact (heads e).elim
  | pair _ _ => exact (heads e).elim
  | case _ _ _ => exact (heads e).elim
  | none => exact (heads e).elim
  | some _ => exact (heads e).elim
theorem Lt.inv_kint {w : W} (h : Lt (.tup [strW "integers"]) w) : ∃ i, w = .int i := by
  generalize e : W.tup [strW "integers"] = k at h
  cases h with
  | name _ => exact (heads e).elim
  | kint i => exact ⟨i, rfl⟩
  | pair _ _ => exact (heads e).elim
  | case _ _ _ => exact (heads e).elim
  | none => exact (heads e).elim
  | some _ => exact (heads e).elim
theorem Lt.inv_pair {a b w : W} (h : Lt (.tup [strW "pair", a, b]) w) : ∃ x y, w = .tup [strW "pair", x, y] ∧ Lt a x ∧ Lt b y := by
  generalize e : W.tup [strW "pair", a, b] = k at h
  cases h with
  | name _ => exact (heads e).elim
  | kint i => exact (heads e).elim
  | pair h1 h2 =>
    injection e with e
    injection e with _ e
    injection e with e1 e
    injection e with e2 _
    subst e1 e2
    exact ⟨_, _, rfl, h1, h2⟩
  | case _ _ _ => exact (heads e).elim
  | none => exact (heads e).elim
  | some _ => exact (heads e).elim
theorem Lt.inv_either {ks : List W} {w : W} (h : Lt (.tup [strW "either", .tup ks]) w) : ∃ i a x, w = .tup [strW "case", .int i, x] ∧ 0 ≤ i ∧ ks[i.toNat]? = Option.some a ∧ Lt a x := by
  generalize e : W.tup [strW "either", .tup ks] = k at h
  cases h with
  | name _ => exact (heads e).elim
  | kint i => exact (heads e).elim
  | pair _ _ => exact (heads e).elim
  | case h1 h2 h3 =>
    injection e with e
    injection e with _ e
    injection e with e1 _
    injection e1 with e1
    subst e1
    exact ⟨_, _, _, rfl, h1, h2, h3⟩
  | none => exact (heads e).elim
  | some _ => exact (heads e).elim
theorem Lt.inv_maybe {a w : W} (h : Lt (.tup [strW "maybe", a]) w) : w = .tup [strW "none"] ∨ ∃ x, w = .tup [strW "some", x] ∧ Lt a x := by
  generalize e : W.tup [strW "maybe", a] = k at h
  cases h with
  | name _ => exact (heads e).elim
  | kint i => exact (heads e).elim
  | pair _ _ => exact (heads e).elim
  | case _ _ _ => exact (heads e).elim
  | none => exact .inl rfl
  | some h1 =>
    injection e with e
    injection e with _ e
    injection e with e1 _
    subst e1
    exact .inr ⟨_, rfl, h1⟩
theorem b0 : ([] : List W).length ≤ 100 := by simp
theorem b1 (a : W) : [a].length ≤ 100 := by simp
theorem b2 (a b : W) : [a, b].length ≤ 100 := by simp
theorem b3 (a b c : W) : [a, b, c].length ≤ 100 := by simp
end G
set_option maxHeartbeats 4000000
namespace G
open PySem L2 Fs
/-! ### cells, steps, one by one -/
def Kp (S S' : Store) : Prop := S.length ≤ S'.length ∧ ∀ (n : Nat) (c : Cell), S[n]? = some c → S'[n]? = some c
theorem Kp.refl (S : Store) : Kp S S := ⟨Nat.le_refl _, fun _ _ h => h⟩
theorem Kp.trans {S S1 S2 : Store} (a : Kp S S1) (b : Kp S1 S2) : Kp S S2 := ⟨Nat.le_trans a.1 b.1, fun n c e => b.2 n c (a.2 n c e)⟩
theorem kp_app {S : Store} {cs : List Cell} : Kp S (S ++ cs) := ⟨by rw [List.length_append]; omega, fun n d e => by
  rw [List.getElem?_append_left (lt_of e)]
  exact e⟩
theorem Kp.put {S0 S : Store} {n : Nat} {c : Cell} (h : Kp S0 S) (hn : S0.length ≤ n) : Kp S0 (S.set n c) := ⟨by rw [List.length_set]; exact h.1, fun k d e => by
  have := lt_of e
  rw [List.getElem?_set_ne (by omega)]
  exact h.2 k d e⟩
theorem Kp.tp {S S' : Store} {t s : Nat} (h : Kp S S') (hT : Tp S t s) : Tp S' t s := by
  obtain ⟨ns, a, b, c, h1, h2, h3⟩ := hT
  exact ⟨ns, a, b, c, h.2 _ _ h1, h.2 _ _ h2, h3⟩
theorem Kp.fr {S S' : Store} {t : Nat} (h : Kp S S') : Fr t S S' := ⟨h.1, fun n c _ e => h.2 n c e⟩
/-! ### counting the runs -/
theorem tru_loc {S : Store} {p : Nat} {ws : List W} (h : S[p]? = some (.lst ws)) : gTruth (.loc p) S = .ok (!ws.isEmpty) S := by
  show (match S[p]? with | some (.lst ws) => Res.ok (!ws.isEmpty) S | _ => .bad) = _
  rw [h]
theorem slice_loc {S : Store} {p : Nat} {ws : List W} {lo hi : Option Int} (h : S[p]? = some (.lst ws)) : gSlice (.loc p) lo hi S = .ok (.loc S.length) (S ++ [Cell.lst (cutW ws lo hi)]) := by
  show (match lstW S (.loc p) with | some ws => Res.ok (W.loc S.length) (S ++ [Cell.lst (cutW ws lo hi)]) | none => .bad) = _
  rw [lst_loc h]
end G
set_option maxHeartbeats 4000000
namespace G
open PySem L2 Fs
theorem o__is_number {x0 : W} {S : Store} {Q : W → Store → Prop} (h : Vs d__is_number [some x0] S (fun _ s => Q .non s) (rtQ Q)) : Vf f__is_number [x0] S Q := vf_mk rfl h
theorem o__is_form {x0 x1 x2 : W} {S : Store} {Q : W → Store → Prop} (h : Vs d__is_form [some x0, some x1, some x2] S (fun _ s => Q .non s) (rtQ Q)) : Vf f__is_form [x0, x1, x2] S Q := vf_mk rfl h
theorem o__is_case {x0 x1 : W} {S : Store} {Q : W → Store → Prop} (h : Vs d__is_case [some x0, some x1] S (fun _ s => Q .non s) (rtQ Q)) : Vf f__is_case [x0, x1] S Q := vf_mk rfl h
theorem o_steps_from {x0 : W} {S : Store} {Q : W → Store → Prop} (h : Vs d_steps_from [some x0] S (fun _ s => Q .non s) (rtQ Q)) : Vf f_steps_from [x0] S Q := vf_mk rfl h
theorem o_kind_at {x0 x1 : W} {S : Store} {Q : W → Store → Prop} (h : Vs d_kind_at [some x0, some x1, none, none] S (fun _ s => Q .non s) (rtQ Q)) : Vf f_kind_at [x0, x1] S Q := vf_mk rfl h
theorem o__parts_of {x0 : W} {S : Store} {Q : W → Store → Prop} (h : Vs d__parts_of [some x0] S (fun _ s => Q .non s) (rtQ Q)) : Vf f__parts_of [x0] S Q := vf_mk rfl h
theorem o_part_at {x0 x1 : W} {S : Store} {Q : W → Store → Prop} (h : Vs d_part_at [some x0, some x1, none, none] S (fun _ s => Q .non s) (rtQ Q)) : Vf f_part_at [x0, x1] S Q := vf_mk rfl h
theorem o__law_whole {x0 : W} {S : Store} {Q : W → Store → Prop} (h : Vs d__law_whole [some x0] S (fun _ s => Q .non s) (rtQ Q)) : Vf f__law_whole [x0] S Q := vf_mk rfl h
theorem o__law_any_kind {x0 : W} {S : Store} {Q : W → Store → Prop} (h : Vs d__law_any_kind [some x0, none] S (fun _ s => Q .non s) (rtQ Q)) : Vf f__law_any_kind [x0] S Q := vf_mk rfl h
theorem o__law_pick {x0 x1 : W} {S : Store} {Q : W → Store → Prop} (h : Vs d__law_pick [some x0, some x1] S (fun _ s => Q .non s) (rtQ Q)) : Vf f__law_pick [x0, x1] S Q := vf_mk rfl h
theorem o__law_small {x0 x1 x2 : W} {S : Store} {Q : W → Store → Prop} (h : Vs d__law_small [some x0, some x1, some x2, none, none] S (fun _ s => Q .non s) (rtQ Q)) : Vf f__law_small [x0, x1, x2] S Q := vf_mk rfl h
theorem o__law_kind_at {x0 x1 : W} {S : Store} {Q : W → Store → Prop} (h : Vs d__law_kind_at [some x0, some x1, none] S (fun _ s => Q .non s) (rtQ Q)) : Vf f__law_kind_at [x0, x1] S Q := vf_mk rfl h
theorem o__law_at {x0 x1 : W} {S : Store} {Q : W → Store → Prop} (h : Vs d__law_at [some x0, some x1, none, none] S (fun _ s => Q .non s) (rtQ Q)) : Vf f__law_at [x0, x1] S Q := vf_mk rfl h
theorem o__law_other_kind {x0 x1 : W} {S : Store} {Q : W → Store → Prop} (h : Vs d__law_other_kind [some x0, some x1, none, none, none] S (fun _ s => Q .non s) (rtQ Q)) : Vf f__law_other_kind [x0, x1] S Q := vf_mk rfl h
theorem o__law_wild_leaf {x0 x1 : W} {S : Store} {Q : W → Store → Prop} (h : Vs d__law_wild_leaf [some x0, some x1, none, none, none] S (fun _ s => Q .non s) (rtQ Q)) : Vf f__law_wild_leaf [x0, x1] S Q := vf_mk rfl h
theorem o_law {x0 : W} {S : Store} {Q : W → Store → Prop} (h : Vs d_law [some x0, none, none, none, none, none, none, none, none, none, none, none, none, none, none] S (fun _ s => Q .non s) (rtQ Q)) : Vf f_law [x0] S Q := vf_mk rfl h
theorem o_is_letter {n : Nat} {x0 x1 : W} {S : Store} {Q : W → Store → Prop} (h : Vs (d_is_letter (f_is_letter n)) [some x0, some x1, none] S (fun _ s => Q .non s) (rtQ Q)) : Vf (f_is_letter (n + 1)) [x0, x1] S Q := vf_mk rfl h
theorem o__fits {n : Nat} {x0 x1 x2 : W} {S : Store} {Q : W → Store → Prop} (h : Vs (d__fits (f__fits n)) [some x0, some x1, some x2, none] S (fun _ s => Q .non s) (rtQ Q)) : Vf (f__fits (n + 1)) [x0, x1, x2] S Q := vf_mk rfl h
theorem o_gives {n : Nat} {x0 x1 : W} {S : Store} {Q : W → Store → Prop} (h : Vs (d_gives (f_gives n)) [some x0, some x1, none, none, none] S (fun _ s => Q .non s) (rtQ Q)) : Vf (f_gives (n + 1)) [x0, x1] S Q := vf_mk rfl h
theorem o__law_is_letter {n : Nat} {x0 x1 : W} {S : Store} {Q : W → Store → Prop} (h : Vs (d__law_is_letter (f__law_is_letter n)) [some x0, some x1] S (fun _ s => Q .non s) (rtQ Q)) : Vf (f__law_is_letter (n + 1)) [x0, x1] S Q := vf_mk rfl h
theorem o__law_same {n : Nat} {x0 x1 : W} {S : Store} {Q : W → Store → Prop} (h : Vs (d__law_same (f__law_same n)) [some x0, some x1, none] S (fun _ s => Q .non s) (rtQ Q)) : Vf (f__law_same (n + 1)) [x0, x1] S Q := vf_mk rfl h
theorem o__law_over {n : Nat} {x0 x1 : W} {S : Store} {Q : W → Store → Prop} (h : Vs (d__law_over (f__law_over n)) [some x0, some x1, none, none, none, none, none, none] S (fun _ s => Q .non s) (rtQ Q)) : Vf (f__law_over (n + 1)) [x0, x1] S Q := vf_mk rfl h
theorem o__law_paths {n : Nat} {x0 : W} {S : Store} {Q : W → Store → Prop} (h : Vs (d__law_paths (f__law_paths n)) [some x0, none, none, none] S (fun _ s => Q .non s) (rtQ Q)) : Vf (f__law_paths (n + 1)) [x0] S Q := vf_mk rfl h
theorem o__law_term {n : Nat} {x0 x1 x2 x3 : W} {S : Store} {Q : W → Store → Prop} (h : Vs (d__law_term (f__law_term n)) [some x0, some x1, some x2, some x3, none, none, none, none, none, none] S (fun _ s => Q .non s) (rtQ Q)) : Vf (f__law_term (n + 1)) [x0, x1, x2, x3] S Q := vf_mk rfl h
theorem o__law_gives {n : Nat} {x0 x1 : W} {S : Store} {Q : W → Store → Prop} (h : Vs (d__law_gives (f__law_gives n)) [some x0, some x1, none, none, none, none, none] S (fun _ s => Q .non s) (rtQ Q)) : Vf (f__law_gives (n + 1)) [x0, x1] S Q := vf_mk rfl h
theorem o__law_term_suits {n : Nat} {x0 x1 x2 : W} {S : Store} {Q : W → Store → Prop} (h : Vs (d__law_term_suits (f__law_term_suits n)) [some x0, some x1, some x2, none, none] S (fun _ s => Q .non s) (rtQ Q)) : Vf (f__law_term_suits (n + 1)) [x0, x1, x2] S Q := vf_mk rfl h
theorem o__law_turned {n : Nat} {x0 : W} {S : Store} {Q : W → Store → Prop} (h : Vs (d__law_turned (f__law_turned n)) [some x0, none] S (fun _ s => Q .non s) (rtQ Q)) : Vf (f__law_turned (n + 1)) [x0] S Q := vf_mk rfl h
theorem o__law_spoilt {n : Nat} {x0 x1 x2 : W} {S : Store} {Q : W → Store → Prop} (h : Vs (d__law_spoilt (f__law_spoilt n)) [some x0, some x1, some x2, none, none, none, none] S (fun _ s => Q .non s) (rtQ Q)) : Vf (f__law_spoilt (n + 1)) [x0, x1, x2] S Q := vf_mk rfl h
end G
set_option maxHeartbeats 4000000
/-! kinds, letters, paths and terms as data of their own -/
namespace G
open PySem L2 Fs
inductive Sp where
  | fi | se | so | at (i : Nat)
  deriving DecidableEq
inductive Q where
  | names (ns : List Str) | zz | pr (a b : Q) | e1 (a : Q) | e2 (a b : Q) | e3 (a b c : Q) | mb (a : Q)
  deriving DecidableEq
inductive L where
  | nm (x : Str) | nu (i : Int) | pr (a b : L) | cs (i : Nat) (a : L) | no | so (a : L)
  deriving DecidableEq
inductive T where
  | al (l : L) | rd (p : List Sp) | pl (p : List Sp) (n : Int) | mi (p : List Sp) (n : Int) | pr (a b : T) | cs (i : Nat) (a : T) | so (a : T)
  deriving DecidableEq
/-- a path's next step -/
def Q.sub : Q → Sp → Option Q
  | .pr a _, .fi => some a
  | .pr _ b, .se => some b
  | .mb a, .so => some a
  | .e1 a, .at 0 => some a
  | .e2 a _, .at 0 => some a
  | .e2 _ b, .at 1 => some b
  | .e3 a _ _, .at 0 => some a
  | .e3 _ b _, .at 1 => some b
  | .e3 _ _ c, .at 2 => some c
  | _, _ => none
def Q.at (q : Q) : List Sp → Option Q
  | [] => some q
  | s :: p => (q.sub s).bind fun r => r.at p
def L.sub : L → Sp → Option L
  | .pr a _, .fi => some a
  | .pr _ b, .se => some b
  | .so a, .so => some a
  | .cs i a, .at j => if i = j then some a else none
  | _, _ => none
def L.at (l : L) : List Sp → Option L
  | [] => some l
  | s :: p => (l.sub s).bind fun r => r.at p
/-- whether it is a letter of the kind -/
def Q.has : Q → L → Bool
  | .names ns, .nm x => decide (x ∈ ns)
  | .zz, .nu _ => true
  | .pr a b, .pr x y => a.has x && b.has y
  | .e1 a, .cs 0 x => a.has x
  | .e2 a _, .cs 0 x => a.has x
  | .e2 _ b, .cs 1 x => b.has x
  | .e3 a _ _, .cs 0 x => a.has x
  | .e3 _ b _, .cs 1 x => b.has x
  | .e3 _ _ c, .cs 2 x => c.has x
  | .mb _, .no => true
  | .mb a, .so x => a.has x
  | _, _ => false
/-- whether the term fits from the one kind to the other one -/
def T.suits (k : Q) : T → Q → Bool
  | .al l, o => o.has l
  | .rd p, o => decide (k.at p = some o)
  | .pl p _, o => decide (k.at p = some .zz) && decide (o = .zz)
  | .mi p _, o => decide (k.at p = some .zz) && decide (o = .zz)
  | .pr s t, .pr a b => s.suits k a && t.suits k b
  | .cs 0 t, .e1 a => t.suits k a
  | .cs 0 t, .e2 a _ => t.suits k a
  | .cs 1 t, .e2 _ b => t.suits k b
  | .cs 0 t, .e3 a _ _ => t.suits k a
  | .cs 1 t, .e3 _ b _ => t.suits k b
  | .cs 2 t, .e3 _ _ c => t.suits k c
  | .so t, .mb a => t.suits k a
  | _, _ => false
/-- the number of an integer -/
def L.num : L → Int
  | .nu n => n
  | _ => 0
def T.gives : T → L → Option L
  | .al l, _ => some l
  | .rd p, l => l.at p
  | .pl p n, l => (l.at p).map fun x => .nu (x.num + n)
  | .mi p n, l => (l.at p).map fun x => .nu (n - x.num)
  | .pr s t, l => (s.gives l).bind fun x => (t.gives l).map fun y => .pr x y
  | .cs i t, l => (t.gives l).map fun x => .cs i x
  | .so t, l => (t.gives l).map fun x => .so x
/-- the term that gives what stands at the path -/
def T.follow : T → List Sp → Option T
  | t, [] => some t
  | .rd q, s :: p => some (.rd (q ++ s :: p))
  | .al l, s :: p => (l.at (s :: p)).map .al
  | .pr a _, .fi :: p => a.follow p
  | .pr _ b, .se :: p => b.follow p
  | .cs i a, .at j :: p => if i = j then a.follow p else none
  | .so a, .so :: p => a.follow p
  | _, _ :: _ => none
/-- sign 1 or -1, and n added -/
def T.line (one : Bool) (n : Int) : T → T
  | .al l => .al (.nu ((if one then l.num else - l.num) + n))
  | .rd p => if one then .pl p n else .mi p n
  | .pl p k => if one then .pl p (k + n) else .mi p (- k + n)
  | .mi p k => if one then .mi p (k + n) else .pl p (- k + n)
  | t => t
def T.put (s : T) : T → Option T
  | .al l => some (.al l)
  | .rd p => s.follow p
  | .pl p n => (s.follow p).map (T.line true n)
  | .mi p n => (s.follow p).map (T.line false n)
  | .pr a b => (T.put s a).bind fun x => (T.put s b).map fun y => .pr x y
  | .cs i a => (T.put s a).map (.cs i)
  | .so a => (T.put s a).map .so
def T.reads : T → List (List Sp)
  | .al _ => []
  | .rd p => [p]
  | .pl p _ => [p]
  | .mi p _ => [p]
  | .pr a b => a.reads ++ b.reads
  | .cs _ a => a.reads
  | .so a => a.reads
/-! ### what holds of them -/
theorem Q.at_app : ∀ (p : List Sp) {q : Q} {r : List Sp}, q.at (p ++ r) = (q.at p).bind fun x => x.at r
  | [], q, r => rfl
  | s :: p, q, r => by
    show (q.sub s).bind (fun x => x.at (p ++ r)) = ((q.sub s).bind fun x => x.at p).bind fun x => x.at r
    cases q.sub s with
    | none => rfl
    | some x => exact Q.at_app p
theorem L.at_app : ∀ (p : List Sp) {q : L} {r : List Sp}, q.at (p ++ r) = (q.at p).bind fun x => x.at r
  | [], q, r => rfl
  | s :: p, q, r => by
    show (q.sub s).bind (fun x => x.at (p ++ r)) = ((q.sub s).bind fun x => x.at p).bind fun x => x.at r
    cases q.sub s with
    | none => rfl
    | some x => exact L.at_app p
/-- a part of a letter is a letter of the part's kind -/
theorem sub_has {q q' : Q} {l l' : L} {s : Sp} (h : q.has l = true) (e : q.sub s = some q') (e' : l.sub s = some l') : q'.has l' = true := by
  unfold Q.sub at e
  split at e <;> cases e <;> cases l <;> simp only [Q.has, L.sub, Bool.and_eq_true, Option.some.injEq, Bool.false_eq_true, reduceCtorEq] at h e' <;>
    first
    | (subst e'; first | exact h.1 | exact h.2 | exact h)
    | (split at e'
       · rename_i hi
         cases e'
         subst hi
         exact h
       · cases e')
theorem at_has : ∀ (p : List Sp) {q q' : Q} {l l' : L}, q.has l = true → q.at p = some q' → l.at p = some l' → q'.has l' = true
  | [], _, _, _, _, h, e, e' => by cases e; cases e'; exact h
  | s :: p, q, q', l, l', h, e, e' => by
    obtain ⟨r, e1, e2⟩ := Option.bind_eq_some_iff.mp e
    obtain ⟨r', e1', e2'⟩ := Option.bind_eq_some_iff.mp e'
    exact at_has p (sub_has h e1 e1') e2 e2'
end G
set_option maxHeartbeats 4000000
namespace G
open PySem L2 Fs
/-! ### the data as values -/
def Sp.w : Sp → W
  | .fi => strW "first"
  | .se => strW "second"
  | .so => strW "some"
  | .at i => .int (i : Int)
abbrev pW (p : List Sp) : W := .tup (p.map Sp.w)
def Q.w : Q → W
  | .names ns => .tup [strW "names", .tup (ns.map .str)]
  | .zz => .tup [strW "integers"]
  | .pr a b => .tup [strW "pair", a.w, b.w]
  | .e1 a => .tup [strW "either", .tup [a.w]]
  | .e2 a b => .tup [strW "either", .tup [a.w, b.w]]
  | .e3 a b c => .tup [strW "either", .tup [a.w, b.w, c.w]]
  | .mb a => .tup [strW "maybe", a.w]
def L.w : L → W
  | .nm x => .str x
  | .nu i => .int i
  | .pr a b => .tup [strW "pair", a.w, b.w]
  | .cs i a => .tup [strW "case", .int (i : Int), a.w]
  | .no => .tup [strW "none"]
  | .so a => .tup [strW "some", a.w]
def T.w : T → W
  | .al l => .tup [strW "always", l.w]
  | .rd p => .tup [strW "read", pW p]
  | .pl p n => .tup [strW "plus", pW p, .int n]
  | .mi p n => .tup [strW "minus", pW p, .int n]
  | .pr a b => .tup [strW "pair", a.w, b.w]
  | .cs i a => .tup [strW "case", .int (i : Int), a.w]
  | .so a => .tup [strW "some", a.w]
def Q.wf : Q → Prop
  | .names ns => ns ≠ [] ∧ ns.length ≤ 4 ∧ ns.Nodup ∧ ∀ x ∈ ns, SOK 6 x
  | .zz => True
  | .pr a b => a.wf ∧ b.wf
  | .e1 a => a.wf
  | .e2 a b => a.wf ∧ b.wf
  | .e3 a b c => a.wf ∧ b.wf ∧ c.wf
  | .mb a => a.wf
def Q.dp : Q → Nat
  | .names _ => 1
  | .zz => 1
  | .pr a b => max a.dp b.dp + 1
  | .e1 a => a.dp + 1
  | .e2 a b => max a.dp b.dp + 1
  | .e3 a b c => max a.dp (max b.dp c.dp) + 1
  | .mb a => a.dp + 1
/-- how many kinds are in it -/
def Q.cnt : Q → Nat
  | .names _ => 1
  | .zz => 1
  | .pr a b => a.cnt + b.cnt + 1
  | .e1 a => a.cnt + 1
  | .e2 a b => a.cnt + b.cnt + 1
  | .e3 a b c => a.cnt + b.cnt + c.cnt + 1
  | .mb a => a.cnt + 1
theorem Kd.q : ∀ {n : Nat} {z : Int} {k : W}, Kd n z k → ∃ q : Q, k = q.w ∧ q.wf ∧ q.dp ≤ n ∧ (q.cnt : Int) = z := by
  intro n
  induction n with
  | zero => intro z k h; cases h
  | succ n ih =>
    intro z k h
    cases h with
    | @names _ ns a b c d => exact ⟨.names ns, rfl, ⟨a, b, c, d⟩, by show 1 ≤ n + 1; omega, rfl⟩
    | kint => exact ⟨.zz, rfl, trivial, by show 1 ≤ n + 1; omega, rfl⟩
    | pair h1 h2 =>
      obtain ⟨a, rfl, w1, d1, c1⟩ := ih h1
      obtain ⟨b, rfl, w2, d2, c2⟩ := ih h2
      exact ⟨.pr a b, rfl, ⟨w1, w2⟩, by show max a.dp b.dp + 1 ≤ n + 1; omega, by show ((a.cnt + b.cnt + 1 : Nat) : Int) = _; omega⟩
    | either h1 h2 h3 =>
      rename_i s ks
      cases h1 with
      | nil => exact absurd rfl h2
      | cons g1 r1 =>
        obtain ⟨a, rfl, w1, d1, c1⟩ := ih g1
        cases r1 with
        | nil => exact ⟨.e1 a, rfl, w1, by show a.dp + 1 ≤ n + 1; omega, by show ((a.cnt + 1 : Nat) : Int) = _; omega⟩
        | cons g2 r2 =>
          obtain ⟨b, rfl, w2, d2, c2⟩ := ih g2
          cases r2 with
          | nil => exact ⟨.e2 a b, rfl, ⟨w1, w2⟩, by show max a.dp b.dp + 1 ≤ n + 1; omega, by show ((a.cnt + b.cnt + 1 : Nat) : Int) = _; omega⟩
          | cons g3 r3 =>
            obtain ⟨c, rfl, w3, d3, c3⟩ := ih g3
            cases r3 with
            | nil => exact ⟨.e3 a b c, rfl, ⟨w1, w2, w3⟩, by show max a.dp (max b.dp c.dp) + 1 ≤ n + 1; omega, by show ((a.cnt + b.cnt + c.cnt + 1 : Nat) : Int) = _; omega⟩
            | cons g4 r4 => simp only [List.length_cons] at h3; omega
    | maybe h1 =>
      obtain ⟨a, rfl, w1, d1, c1⟩ := ih h1
      exact ⟨.mb a, rfl, w1, by show a.dp + 1 ≤ n + 1; omega, by show ((a.cnt + 1 : Nat) : Int) = _; omega⟩
theorem Q.kd : ∀ {q : Q} {n : Nat}, q.wf → q.dp ≤ n → Kd n (q.cnt : Int) q.w := by
  intro q
  induction q with
  | names ns =>
    intro n h d
    obtain ⟨m, rfl⟩ : ∃ m, n = m + 1 := ⟨n - 1, by have : 1 ≤ n := d; omega⟩
    exact .names h.1 h.2.1 h.2.2.1 h.2.2.2
  | zz =>
    intro n h d
    obtain ⟨m, rfl⟩ : ∃ m, n = m + 1 := ⟨n - 1, by have : 1 ≤ n := d; omega⟩
    exact .kint
  | pr a b iha ihb =>
    intro n h d
    have d : max a.dp b.dp + 1 ≤ n := d
    obtain ⟨m, rfl⟩ : ∃ m, n = m + 1 := ⟨n - 1, by omega⟩
    have := Kd.pair (iha h.1 (n := m) (by omega)) (ihb h.2 (n := m) (by omega))
    rw [show ((Q.pr a b).cnt : Int) = 1 + (a.cnt : Int) + (b.cnt : Int) by show ((a.cnt + b.cnt + 1 : Nat) : Int) = _; omega]
    exact this
  | e1 a iha =>
    intro n h d
    have d : a.dp + 1 ≤ n := d
    obtain ⟨m, rfl⟩ : ∃ m, n = m + 1 := ⟨n - 1, by omega⟩
    have := Kd.either (.cons (iha h (n := m) (by omega)) .nil) (by simp) (by simp)
    rw [show ((Q.e1 a).cnt : Int) = 1 + ((a.cnt : Int) + 0) by show ((a.cnt + 1 : Nat) : Int) = _; omega]
    exact this
  | e2 a b iha ihb =>
    intro n h d
    have d : max a.dp b.dp + 1 ≤ n := d
    obtain ⟨m, rfl⟩ : ∃ m, n = m + 1 := ⟨n - 1, by omega⟩
    have := Kd.either (.cons (iha h.1 (n := m) (by omega)) (.cons (ihb h.2 (n := m) (by omega)) .nil)) (by simp) (by simp)
    rw [show ((Q.e2 a b).cnt : Int) = 1 + ((a.cnt : Int) + ((b.cnt : Int) + 0)) by show ((a.cnt + b.cnt + 1 : Nat) : Int) = _; omega]
    exact this
  | e3 a b c iha ihb ihc =>
    intro n h d
    have d : max a.dp (max b.dp c.dp) + 1 ≤ n := d
    obtain ⟨m, rfl⟩ : ∃ m, n = m + 1 := ⟨n - 1, by omega⟩
    have := Kd.either (.cons (iha h.1 (n := m) (by omega)) (.cons (ihb h.2.1 (n := m) (by omega)) (.cons (ihc h.2.2 (n := m) (by omega)) .nil))) (by simp) (by simp)
    rw [show ((Q.e3 a b c).cnt : Int) = 1 + ((a.cnt : Int) + ((b.cnt : Int) + ((c.cnt : Int) + 0))) by show ((a.cnt + b.cnt + c.cnt + 1 : Nat) : Int) = _; omega]
    exact this
  | mb a iha =>
    intro n h d
    have d : a.dp + 1 ≤ n := d
    obtain ⟨m, rfl⟩ : ∃ m, n = m + 1 := ⟨n - 1, by omega⟩
    have := Kd.maybe (iha h (n := m) (by omega))
    rw [show ((Q.mb a).cnt : Int) = 1 + (a.cnt : Int) by show ((a.cnt + 1 : Nat) : Int) = _; omega]
    exact this
/-- a letter of the kind, as a value -/
theorem Lt.l : ∀ {q : Q} {w : W}, Lt q.w w → ∃ l : L, w = l.w ∧ q.has l = true := by
  intro q
  induction q with
  | names ns =>
    intro w h
    obtain ⟨x, rfl, hx⟩ := Lt.inv_names h
    exact ⟨.nm x, rfl, decide_eq_true hx⟩
  | zz =>
    intro w h
    obtain ⟨i, rfl⟩ := Lt.inv_kint h
    exact ⟨.nu i, rfl, rfl⟩
  | pr a b iha ihb =>
    intro w h
    obtain ⟨x, y, rfl, h1, h2⟩ := Lt.inv_pair h
    obtain ⟨x, rfl, g1⟩ := iha h1
    obtain ⟨y, rfl, g2⟩ := ihb h2
    exact ⟨.pr x y, rfl, by show (_ && _) = true; rw [g1, g2]; rfl⟩
  | e1 a iha =>
    intro w h
    obtain ⟨i, k, x, rfl, h0, h1, h2⟩ := Lt.inv_either h
    obtain ⟨j, rfl⟩ : ∃ j : Nat, i = (j : Int) := ⟨i.toNat, by omega⟩
    rw [Int.toNat_natCast] at h1
    match j, h1 with
    | 0, h1 => cases h1; obtain ⟨x, rfl, g⟩ := iha h2; exact ⟨.cs 0 x, rfl, g⟩
  | e2 a b iha ihb =>
    intro w h
    obtain ⟨i, k, x, rfl, h0, h1, h2⟩ := Lt.inv_either h
    obtain ⟨j, rfl⟩ : ∃ j : Nat, i = (j : Int) := ⟨i.toNat, by omega⟩
    rw [Int.toNat_natCast] at h1
    match j, h1 with
    | 0, h1 => cases h1; obtain ⟨x, rfl, g⟩ := iha h2; exact ⟨.cs 0 x, rfl, g⟩
    | 1, h1 => cases h1; obtain ⟨x, rfl, g⟩ := ihb h2; exact ⟨.cs 1 x, rfl, g⟩
  | e3 a b c iha ihb ihc =>
    intro w h
    obtain ⟨i, k, x, rfl, h0, h1, h2⟩ := Lt.inv_either h
    obtain ⟨j, rfl⟩ : ∃ j : Nat, i = (j : Int) := ⟨i.toNat, by omega⟩
    rw [Int.toNat_natCast] at h1
    match j, h1 with
    | 0, h1 => cases h1; obtain ⟨x, rfl, g⟩ := iha h2; exact ⟨.cs 0 x, rfl, g⟩
    | 1, h1 => cases h1; obtain ⟨x, rfl, g⟩ := ihb h2; exact ⟨.cs 1 x, rfl, g⟩
    | 2, h1 => cases h1; obtain ⟨x, rfl, g⟩ := ihc h2; exact ⟨.cs 2 x, rfl, g⟩
  | mb a iha =>
    intro w h
    rcases Lt.inv_maybe h with rfl | ⟨x, rfl, h2⟩
    · exact ⟨.no, rfl, rfl⟩
    · obtain ⟨x, rfl, g⟩ := iha h2
      exact ⟨.so x, rfl, g⟩
/-! ### plain values: == is equality -/
inductive Pl : W → Prop
  | non : Pl .non
  | int (i : Int) : Pl (.int i)
  | str (x : Str) : Pl (.str x)
  | tup {ws : List W} : (∀ w ∈ ws, Pl w) → Pl (.tup ws)
theorem eqv_all {S : Store} : ∀ {xs : List W}, (∀ x ∈ xs, ∀ y, Pl y → (PyData.eqv (toD S x) (toD S y) = true ↔ x = y)) → ∀ {ys : List W}, (∀ y ∈ ys, Pl y) → (PyData.eqvAll (toDA S xs) (toDA S ys) = true ↔ xs = ys)
  | [], _, [], _ => by simp [toDA, PyData.eqvAll]
  | [], _, y :: ys, _ => by simp [toDA, PyData.eqvAll]
  | x :: xs, _, [], _ => by simp [toDA, PyData.eqvAll]
  | x :: xs, h, y :: ys, g => by
    have h1 := h x List.mem_cons_self y (g y List.mem_cons_self)
    have h2 := eqv_all (S := S) (xs := xs) (fun z hz => h z (List.mem_cons_of_mem _ hz)) (ys := ys) (fun z hz => g z (List.mem_cons_of_mem _ hz))
    simp only [toDA, PyData.eqvAll, Bool.and_eq_true, h1, h2, List.cons.injEq]
theorem Pl.eqv {S : Store} {x : W} (h : Pl x) : ∀ {y : W}, Pl y → (PyData.eqv (toD S x) (toD S y) = true ↔ x = y) := by
  induction h with
  | non => intro y g; cases g <;> simp [toD, PyData.eqv]
  | int i => intro y g; cases g <;> simp [toD, PyData.eqv]
  | str z => intro y g; cases g <;> simp [toD, PyData.eqv]
  | tup hs ih =>
    intro y g
    cases g with
    | tup gs =>
      have := eqv_all (S := S) (fun x hx y gy => ih x hx gy) gs
      simp only [toD, PyData.eqv, this, W.tup.injEq]
    | _ => simp [toD, PyData.eqv]
theorem eq_pl {n m : Nat} {x y : W} (hx : OkW n x) (hy : OkW m y) (px : Pl x) (py : Pl y) (hn : n ≤ 64) (hm : m ≤ 64) (S : Store) : ∃ b, gEq x y S = .ok (.bl b) S ∧ gNe x y S = .ok (.bl (!b)) S ∧ (b = true ↔ x = y) :=
  ⟨_, eq_ok hx hy hn hm, ne_ok hx hy hn hm, px.eqv py⟩
theorem L.pl : ∀ {l : L}, Pl l.w
  | .nm x => .str x
  | .nu i => .int i
  | .pr a b => .tup fun w hw => by
    simp only [List.mem_cons, List.mem_nil_iff, or_false] at hw
    rcases hw with rfl | rfl | rfl
    · exact .str _
    · exact a.pl
    · exact b.pl
  | .cs i a => .tup fun w hw => by
    simp only [List.mem_cons, List.mem_nil_iff, or_false] at hw
    rcases hw with rfl | rfl | rfl
    · exact .str _
    · exact .int _
    · exact a.pl
  | .no => .tup fun w hw => by
    rw [List.mem_singleton.mp hw]
    exact .str _
  | .so a => .tup fun w hw => by
    simp only [List.mem_cons, List.mem_nil_iff, or_false] at hw
    rcases hw with rfl | rfl
    · exact .str _
    · exact a.pl
theorem pl_names (ns : List Str) : Pl (.tup (ns.map .str)) := .tup fun w hw => by
  obtain ⟨x, _, rfl⟩ := List.mem_map.mp hw
  exact .str x
theorem pl_t2 {a b : W} (ha : Pl a) (hb : Pl b) : Pl (.tup [a, b]) := .tup fun w hw => by
  simp only [List.mem_cons, List.mem_nil_iff, or_false] at hw
  rcases hw with rfl | rfl
  · exact ha
  · exact hb
theorem pl_t1 {a : W} (ha : Pl a) : Pl (.tup [a]) := .tup fun w hw => by
  rw [List.mem_singleton.mp hw]
  exact ha
theorem pl_t3 {a b c : W} (ha : Pl a) (hb : Pl b) (hc : Pl c) : Pl (.tup [a, b, c]) := .tup fun w hw => by
  simp only [List.mem_cons, List.mem_nil_iff, or_false] at hw
  rcases hw with rfl | rfl | rfl
  · exact ha
  · exact hb
  · exact hc
theorem Q.pl : ∀ {q : Q}, Pl q.w
  | .names ns => pl_t2 (.str _) (pl_names ns)
  | .zz => pl_t1 (.str _)
  | .pr a b => pl_t3 (.str _) a.pl b.pl
  | .e1 a => pl_t2 (.str _) (pl_t1 a.pl)
  | .e2 a b => pl_t2 (.str _) (pl_t2 a.pl b.pl)
  | .e3 a b c => pl_t2 (.str _) (pl_t3 a.pl b.pl c.pl)
  | .mb a => pl_t2 (.str _) a.pl
theorem ok_t1 {n : Nat} {a : W} (ha : OkW n a) : OkW (n + 1) (.tup [a]) := .tup fun w hw => by
  rw [List.mem_singleton.mp hw]
  exact ha
theorem ok_t2 {n : Nat} {a b : W} (ha : OkW n a) (hb : OkW n b) : OkW (n + 1) (.tup [a, b]) := .tup fun w hw => by
  simp only [List.mem_cons, List.mem_nil_iff, or_false] at hw
  rcases hw with rfl | rfl
  · exact ha
  · exact hb
theorem ok_t3 {n : Nat} {a b c : W} (ha : OkW n a) (hb : OkW n b) (hc : OkW n c) : OkW (n + 1) (.tup [a, b, c]) := .tup fun w hw => by
  simp only [List.mem_cons, List.mem_nil_iff, or_false] at hw
  rcases hw with rfl | rfl | rfl
  · exact ha
  · exact hb
  · exact hc
theorem ok_s {n : Nat} (s : String) (h : PyData.strOk (Str.ofString s) = true := by decide +kernel) : OkW n (strW s) := .str h
theorem Q.okw : ∀ {q : Q}, q.wf → OkW (2 * q.dp) q.w
  | .names ns, h => (ok_t2 (n := 1) (ok_s "names") (.tup fun w hw => by
      obtain ⟨x, hx, rfl⟩ := List.mem_map.mp hw
      exact .str (h.2.2.2 x hx).1)).mono (Nat.le_refl _)
  | .zz, h => (ok_t1 (n := 1) (ok_s "integers")).mono (Nat.le_refl _)
  | .pr a b, h => (ok_t3 (n := 2 * max a.dp b.dp) (ok_s "pair") ((Q.okw h.1).mono (by omega)) ((Q.okw h.2).mono (by omega))).mono (by show _ ≤ 2 * (max a.dp b.dp + 1); omega)
  | .e1 a, h => (ok_t2 (n := 2 * a.dp + 1) (ok_s "either") (ok_t1 (Q.okw h))).mono (by show _ ≤ 2 * (a.dp + 1); omega)
  | .e2 a b, h => (ok_t2 (n := 2 * max a.dp b.dp + 1) (ok_s "either") (ok_t2 ((Q.okw h.1).mono (by omega)) ((Q.okw h.2).mono (by omega)))).mono (by show _ ≤ 2 * (max a.dp b.dp + 1); omega)
  | .e3 a b c, h => (ok_t2 (n := 2 * max a.dp (max b.dp c.dp) + 1) (ok_s "either") (ok_t3 ((Q.okw h.1).mono (by omega)) ((Q.okw h.2.1).mono (by omega)) ((Q.okw h.2.2).mono (by omega)))).mono (by show _ ≤ 2 * (max a.dp (max b.dp c.dp) + 1); omega)
  | .mb a, h => (ok_t2 (n := 2 * a.dp) (ok_s "maybe") (Q.okw h)).mono (by show _ ≤ 2 * (a.dp + 1); omega)
/-- the names in the letter are such that can be compared -/
def L.wf : L → Prop
  | .nm x => PyData.strOk x = true
  | .nu _ => True
  | .pr a b => a.wf ∧ b.wf
  | .cs _ a => a.wf
  | .no => True
  | .so a => a.wf
def L.dp : L → Nat
  | .nm _ => 1
  | .nu _ => 1
  | .pr a b => max a.dp b.dp + 1
  | .cs _ a => a.dp + 1
  | .no => 1
  | .so a => a.dp + 1
theorem L.okw : ∀ {l : L}, l.wf → OkW l.dp l.w
  | .nm x, h => .str h
  | .nu i, h => .int i
  | .pr a b, h => ok_t3 (ok_s "pair") ((L.okw h.1).mono (by omega)) ((L.okw h.2).mono (by omega))
  | .cs i a, h => ok_t3 (ok_s "case") (.int _) (L.okw h)
  | .no, h => ok_t1 (ok_s "none")
  | .so a, h => ok_t2 (ok_s "some") (L.okw h)
theorem has_wf : ∀ {q : Q} {l : L}, q.wf → q.has l = true → l.wf ∧ l.dp ≤ q.dp := by
  intro q
  induction q with
  | names ns => intro l h g; cases l <;> simp only [Q.has, Bool.false_eq_true] at g; exact ⟨(h.2.2.2 _ (of_decide_eq_true g)).1, Nat.le_refl _⟩
  | zz => intro l h g; cases l <;> simp only [Q.has, Bool.false_eq_true] at g; exact ⟨trivial, Nat.le_refl _⟩
  | pr a b iha ihb =>
    intro l h g
    cases l <;> simp only [Q.has, Bool.false_eq_true, Bool.and_eq_true] at g
    obtain ⟨u1, u2⟩ := iha h.1 g.1
    obtain ⟨v1, v2⟩ := ihb h.2 g.2
    exact ⟨⟨u1, v1⟩, by show max _ _ + 1 ≤ max _ _ + 1; omega⟩
  | e1 a iha =>
    intro l h g
    unfold Q.has at g
    split at g <;> first | contradiction | skip
    rename_i he
    cases he
    obtain ⟨u1, u2⟩ := iha h g
    exact ⟨u1, by show _ + 1 ≤ _ + 1; omega⟩
  | e2 a b iha ihb =>
    intro l h g
    unfold Q.has at g
    split at g <;> first | contradiction | skip
    · rename_i he
      cases he
      obtain ⟨u1, u2⟩ := iha h.1 g
      exact ⟨u1, by show _ + 1 ≤ max _ _ + 1; omega⟩
    · rename_i he
      cases he
      obtain ⟨u1, u2⟩ := ihb h.2 g
      exact ⟨u1, by show _ + 1 ≤ max _ _ + 1; omega⟩
  | e3 a b c iha ihb ihc =>
    intro l h g
    unfold Q.has at g
    split at g <;> first | contradiction | skip
    · rename_i he
      cases he
      obtain ⟨u1, u2⟩ := iha h.1 g
      exact ⟨u1, by show _ + 1 ≤ max _ _ + 1; omega⟩
    · rename_i he
      cases he
      obtain ⟨u1, u2⟩ := ihb h.2.1 g
      exact ⟨u1, by show _ + 1 ≤ max _ _ + 1; omega⟩
    · rename_i he
      cases he
      obtain ⟨u1, u2⟩ := ihc h.2.2 g
      exact ⟨u1, by show _ + 1 ≤ max _ _ + 1; omega⟩
  | mb a iha =>
    intro l h g
    cases l <;> simp only [Q.has, Bool.false_eq_true] at g
    · exact ⟨trivial, by show 1 ≤ _ + 1; omega⟩
    · obtain ⟨u1, u2⟩ := iha h g
      exact ⟨u1, by show _ + 1 ≤ _ + 1; omega⟩
end G
set_option maxHeartbeats 4000000
namespace G
open PySem L2 Fs
local macro_rules | `(tactic| fail) => `(tactic| ((with_reducible refine cb_id ?_); refine cb_ndf ?_ ?_; · decide +kernel))
local macro_rules | `(tactic| fail) => `(tactic| ((with_reducible refine cb_id ?_); refine cb_ndt ?_ ?_; · decide +kernel))
local macro_rules | `(tactic| fail) => `(tactic| ((with_reducible refine cb_id ?_); refine cb_df ?_ ?_; · decide +kernel))
local macro_rules | `(tactic| fail) => `(tactic| ((with_reducible refine cb_id ?_); refine cb_dt ?_ ?_; · decide +kernel))
local macro_rules | `(tactic| fail) => `(tactic| ((with_reducible refine vf_intdF ?_ ?_); · decide +kernel))
local macro_rules | `(tactic| fail) => `(tactic| ((with_reducible refine vf_intdT ?_ ?_); · decide +kernel))
local macro_rules | `(tactic| fail) => `(tactic| with_reducible refine vps_nil ?_)
local macro_rules | `(tactic| fail) => `(tactic| with_reducible refine vps_cons ?_)
local macro_rules | `(tactic| fail) => `(tactic| with_reducible refine vf_isiBS ?_)
local macro_rules | `(tactic| fail) => `(tactic| with_reducible refine vf_isiBT ?_)
local macro_rules | `(tactic| fail) => `(tactic| with_reducible refine vf_isiBI ?_)
local macro_rules | `(tactic| fail) => `(tactic| with_reducible refine vf_isiIS ?_)
local macro_rules | `(tactic| fail) => `(tactic| with_reducible refine vf_isiII ?_)
local macro_rules | `(tactic| fail) => `(tactic| with_reducible refine vf_isiIT ?_)
local macro_rules | `(tactic| fail) => `(tactic| with_reducible refine vf_isiSS ?_)
local macro_rules | `(tactic| fail) => `(tactic| with_reducible refine vf_isiSI ?_)
local macro_rules | `(tactic| fail) => `(tactic| with_reducible refine vf_isiST ?_)
local macro_rules | `(tactic| fail) => `(tactic| with_reducible refine vf_isiTN ?_)
local macro_rules | `(tactic| fail) => `(tactic| with_reducible refine vf_isiTS ?_)
local macro_rules | `(tactic| fail) => `(tactic| with_reducible refine vf_isiTI ?_)
local macro_rules | `(tactic| fail) => `(tactic| with_reducible refine vf_isiTT ?_)
local macro_rules | `(tactic| fail) => `(tactic| with_reducible refine vf_intF ?_)
local macro_rules | `(tactic| fail) => `(tactic| with_reducible refine vf_intT ?_)
local macro_rules | `(tactic| fail) => `(tactic| with_reducible refine vf_int ?_)
local macro_rules | `(tactic| fail) => `(tactic| with_reducible refine vo_notNs ?_)
local macro_rules | `(tactic| fail) => `(tactic| with_reducible refine vo_notNi ?_)
local macro_rules | `(tactic| fail) => `(tactic| with_reducible refine vo_notNt ?_)
local macro_rules | `(tactic| fail) => `(tactic| with_reducible refine vo_notN0 ?_)
local macro_rules | `(tactic| fail) => `(tactic| with_reducible refine vo_isNs ?_)
local macro_rules | `(tactic| fail) => `(tactic| with_reducible refine vo_isNi ?_)
local macro_rules | `(tactic| fail) => `(tactic| with_reducible refine vo_isNt ?_)
local macro_rules | `(tactic| fail) => `(tactic| with_reducible refine vo_isN0 ?_)
local macro_rules | `(tactic| fail) => `(tactic| with_reducible refine vu_neg ?_)
local macro_rules | `(tactic| fail) => `(tactic| with_reducible refine vo_ninl3 ?_)
local macro_rules | `(tactic| fail) => `(tactic| with_reducible refine vo_nint3 ?_)
local macro_rules | `(tactic| fail) => `(tactic| with_reducible refine vo_inl3 ?_)
local macro_rules | `(tactic| fail) => `(tactic| with_reducible refine vo_int3 ?_)
local macro_rules | `(tactic| fail) => `(tactic| with_reducible refine vo_ninl2 ?_)
local macro_rules | `(tactic| fail) => `(tactic| with_reducible refine vo_nint2 ?_)
local macro_rules | `(tactic| fail) => `(tactic| with_reducible refine vo_inl2 ?_)
local macro_rules | `(tactic| fail) => `(tactic| with_reducible refine vo_int2 ?_)
local macro_rules | `(tactic| fail) => `(tactic| with_reducible refine vs_ct ?_)
local macro_rules | `(tactic| fail) => `(tactic| with_reducible refine vs_bk ?_)
local macro_rules | `(tactic| fail) => `(tactic| with_reducible refine vs_retN ?_)
local macro_rules | `(tactic| fail) => `(tactic| (with_reducible refine vs_unp ?_))
local macro_rules | `(tactic| fail) => `(tactic| with_reducible refine vi_r2 ?_)
local macro_rules | `(tactic| fail) => `(tactic| with_reducible refine vi_r1 ?_)
local macro_rules | `(tactic| fail) => `(tactic| with_reducible refine vi_seq ?_)
local macro_rules | `(tactic| fail) => `(tactic| with_reducible refine ve_lc ?_)
local macro_rules | `(tactic| fail) => `(tactic| with_reducible refine vs_for ?_)
local macro_rules | `(tactic| fail) => `(tactic| with_reducible refine vs_expr ?_)
local macro_rules | `(tactic| fail) => `(tactic| with_reducible refine ve_un ?_)
local macro_rules | `(tactic| fail) => `(tactic| with_reducible refine ve_chain ?_)
local macro_rules | `(tactic| fail) => `(tactic| with_reducible refine ve_not ?_)
local macro_rules | `(tactic| fail) => `(tactic| with_reducible refine ve_or ?_)
local macro_rules | `(tactic| fail) => `(tactic| with_reducible refine ve_and ?_)
local macro_rules | `(tactic| fail) => `(tactic| with_reducible refine ve_ifE ?_)
local macro_rules | `(tactic| fail) => `(tactic| with_reducible refine vd_part ?_)
local macro_rules | `(tactic| fail) => `(tactic| with_reducible refine vd_none ?_)
local macro_rules | `(tactic| fail) => `(tactic| with_reducible refine ve_sl ?_)
local macro_rules | `(tactic| fail) => `(tactic| with_reducible refine vf_len ?_)
local macro_rules | `(tactic| fail) => `(tactic| with_reducible refine vf_len5 ?_)
local macro_rules | `(tactic| fail) => `(tactic| with_reducible refine vf_len4 ?_)
local macro_rules | `(tactic| fail) => `(tactic| with_reducible refine vf_len3 ?_)
local macro_rules | `(tactic| fail) => `(tactic| with_reducible refine vf_len2 ?_)
local macro_rules | `(tactic| fail) => `(tactic| with_reducible refine vf_len1 ?_)
local macro_rules | `(tactic| fail) => `(tactic| with_reducible refine vf_len0 ?_)
local macro_rules | `(tactic| fail) => `(tactic| with_reducible refine vo_ix5 ?_)
local macro_rules | `(tactic| fail) => `(tactic| with_reducible refine vo_ix4 ?_)
local macro_rules | `(tactic| fail) => `(tactic| with_reducible refine vo_ix3 ?_)
local macro_rules | `(tactic| fail) => `(tactic| with_reducible refine vo_ix2 ?_)
local macro_rules | `(tactic| fail) => `(tactic| with_reducible refine vo_ix1 ?_)
local macro_rules | `(tactic| fail) => `(tactic| with_reducible refine vo_ix0 ?_)
local macro_rules | `(tactic| fail) => `(tactic| with_reducible refine vo_neb ?_)
local macro_rules | `(tactic| fail) => `(tactic| with_reducible refine vo_eqb ?_)
local macro_rules | `(tactic| fail) => `(tactic| with_reducible refine vo_nes ?_)
local macro_rules | `(tactic| fail) => `(tactic| with_reducible refine vo_eqs ?_)
local macro_rules | `(tactic| fail) => `(tactic| with_reducible refine vo_ge ?_)
local macro_rules | `(tactic| fail) => `(tactic| with_reducible refine vo_gt ?_)
local macro_rules | `(tactic| fail) => `(tactic| with_reducible refine vo_le ?_)
local macro_rules | `(tactic| fail) => `(tactic| with_reducible refine vo_lt ?_)
local macro_rules | `(tactic| fail) => `(tactic| with_reducible refine vo_ne ?_)
local macro_rules | `(tactic| fail) => `(tactic| with_reducible refine vo_eq ?_)
local macro_rules | `(tactic| fail) => `(tactic| with_reducible refine vo_sub ?_)
local macro_rules | `(tactic| fail) => `(tactic| with_reducible refine vo_add ?_)
local macro_rules | `(tactic| fail) => `(tactic| with_reducible refine vg_n ?_)
local macro_rules | `(tactic| fail) => `(tactic| with_reducible refine vg_i ?_)
local macro_rules | `(tactic| fail) => `(tactic| with_reducible refine vg_t ?_)
local macro_rules | `(tactic| fail) => `(tactic| with_reducible refine vg_b ?_)
local macro_rules | `(tactic| fail) => `(tactic| with_reducible refine vint ?_)
local macro_rules | `(tactic| fail) => `(tactic| with_reducible refine vbl ?_)
local macro_rules | `(tactic| fail) => `(tactic| ((with_reducible refine ve_lst ?_ ?_); · first | decide | simp))
local macro_rules | `(tactic| fail) => `(tactic| ((with_reducible refine ve_tup ?_ ?_); · first | decide | simp))
local macro_rules | `(tactic| fail) => `(tactic| with_reducible refine vs_nx ?_)
local macro_rules | `(tactic| fail) => `(tactic| with_reducible refine vs_ret ?_)
local macro_rules | `(tactic| fail) => `(tactic| with_reducible refine cb_nf ?_)
local macro_rules | `(tactic| fail) => `(tactic| with_reducible refine cb_nt ?_)
local macro_rules | `(tactic| fail) => `(tactic| with_reducible refine cb_f ?_)
local macro_rules | `(tactic| fail) => `(tactic| with_reducible refine cb_t ?_)
local macro_rules | `(tactic| fail) => `(tactic| with_reducible refine vt_yes ?_)
local macro_rules | `(tactic| fail) => `(tactic| with_reducible refine vt_or ?_)
local macro_rules | `(tactic| fail) => `(tactic| with_reducible refine vt_and ?_)
local macro_rules | `(tactic| fail) => `(tactic| with_reducible refine vt_not ?_)
local macro_rules | `(tactic| fail) => `(tactic| with_reducible refine vt_t ?_)
local macro_rules | `(tactic| fail) => `(tactic| with_reducible refine vt_tb ?_)
local macro_rules | `(tactic| fail) => `(tactic| with_reducible refine vs_if ?_)
local macro_rules | `(tactic| fail) => `(tactic| with_reducible refine va_nil ?_)
local macro_rules | `(tactic| fail) => `(tactic| with_reducible refine va_cons ?_)
local macro_rules | `(tactic| fail) => `(tactic| with_reducible refine ve_call ?_)
local macro_rules | `(tactic| fail) => `(tactic| with_reducible refine ve_op ?_)
local macro_rules | `(tactic| fail) => `(tactic| with_reducible refine ve_c ?_)
local macro_rules | `(tactic| fail) => `(tactic| with_reducible refine ve_v25 ?_)
local macro_rules | `(tactic| fail) => `(tactic| with_reducible refine ve_v24 ?_)
local macro_rules | `(tactic| fail) => `(tactic| with_reducible refine ve_v23 ?_)
local macro_rules | `(tactic| fail) => `(tactic| with_reducible refine ve_v22 ?_)
local macro_rules | `(tactic| fail) => `(tactic| with_reducible refine ve_v21 ?_)
local macro_rules | `(tactic| fail) => `(tactic| with_reducible refine ve_v20 ?_)
local macro_rules | `(tactic| fail) => `(tactic| with_reducible refine ve_v19 ?_)
local macro_rules | `(tactic| fail) => `(tactic| with_reducible refine ve_v18 ?_)
local macro_rules | `(tactic| fail) => `(tactic| with_reducible refine ve_v17 ?_)
local macro_rules | `(tactic| fail) => `(tactic| with_reducible refine ve_v16 ?_)
local macro_rules | `(tactic| fail) => `(tactic| with_reducible refine ve_v15 ?_)
local macro_rules | `(tactic| fail) => `(tactic| with_reducible refine ve_v14 ?_)
local macro_rules | `(tactic| fail) => `(tactic| with_reducible refine ve_v13 ?_)
local macro_rules | `(tactic| fail) => `(tactic| with_reducible refine ve_v12 ?_)
local macro_rules | `(tactic| fail) => `(tactic| with_reducible refine ve_v11 ?_)
local macro_rules | `(tactic| fail) => `(tactic| with_reducible refine ve_v10 ?_)
local macro_rules | `(tactic| fail) => `(tactic| with_reducible refine ve_v9 ?_)
local macro_rules | `(tactic| fail) => `(tactic| with_reducible refine ve_v8 ?_)
local macro_rules | `(tactic| fail) => `(tactic| with_reducible refine ve_v7 ?_)
local macro_rules | `(tactic| fail) => `(tactic| with_reducible refine ve_v6 ?_)
local macro_rules | `(tactic| fail) => `(tactic| with_reducible refine ve_v5 ?_)
local macro_rules | `(tactic| fail) => `(tactic| with_reducible refine ve_v4 ?_)
local macro_rules | `(tactic| fail) => `(tactic| with_reducible refine ve_v3 ?_)
local macro_rules | `(tactic| fail) => `(tactic| with_reducible refine ve_v2 ?_)
local macro_rules | `(tactic| fail) => `(tactic| with_reducible refine ve_v1 ?_)
local macro_rules | `(tactic| fail) => `(tactic| with_reducible refine ve_v0 ?_)
local macro_rules | `(tactic| fail) => `(tactic| with_reducible refine vs_s25 ?_)
local macro_rules | `(tactic| fail) => `(tactic| with_reducible refine vs_s24 ?_)
local macro_rules | `(tactic| fail) => `(tactic| with_reducible refine vs_s23 ?_)
local macro_rules | `(tactic| fail) => `(tactic| with_reducible refine vs_s22 ?_)
local macro_rules | `(tactic| fail) => `(tactic| with_reducible refine vs_s21 ?_)
local macro_rules | `(tactic| fail) => `(tactic| with_reducible refine vs_s20 ?_)
local macro_rules | `(tactic| fail) => `(tactic| with_reducible refine vs_s19 ?_)
local macro_rules | `(tactic| fail) => `(tactic| with_reducible refine vs_s18 ?_)
local macro_rules | `(tactic| fail) => `(tactic| with_reducible refine vs_s17 ?_)
local macro_rules | `(tactic| fail) => `(tactic| with_reducible refine vs_s16 ?_)
local macro_rules | `(tactic| fail) => `(tactic| with_reducible refine vs_s15 ?_)
local macro_rules | `(tactic| fail) => `(tactic| with_reducible refine vs_s14 ?_)
local macro_rules | `(tactic| fail) => `(tactic| with_reducible refine vs_s13 ?_)
local macro_rules | `(tactic| fail) => `(tactic| with_reducible refine vs_s12 ?_)
local macro_rules | `(tactic| fail) => `(tactic| with_reducible refine vs_s11 ?_)
local macro_rules | `(tactic| fail) => `(tactic| with_reducible refine vs_s10 ?_)
local macro_rules | `(tactic| fail) => `(tactic| with_reducible refine vs_s9 ?_)
local macro_rules | `(tactic| fail) => `(tactic| with_reducible refine vs_s8 ?_)
local macro_rules | `(tactic| fail) => `(tactic| with_reducible refine vs_s7 ?_)
local macro_rules | `(tactic| fail) => `(tactic| with_reducible refine vs_s6 ?_)
local macro_rules | `(tactic| fail) => `(tactic| with_reducible refine vs_s5 ?_)
local macro_rules | `(tactic| fail) => `(tactic| with_reducible refine vs_s4 ?_)
local macro_rules | `(tactic| fail) => `(tactic| with_reducible refine vs_s3 ?_)
local macro_rules | `(tactic| fail) => `(tactic| with_reducible refine vs_s2 ?_)
local macro_rules | `(tactic| fail) => `(tactic| with_reducible refine vs_s1 ?_)
local macro_rules | `(tactic| fail) => `(tactic| with_reducible refine vs_s0 ?_)
local macro_rules | `(tactic| fail) => `(tactic| with_reducible refine vs_seqB ?_)
local macro_rules | `(tactic| fail) => `(tactic| with_reducible refine vs_seqC ?_)
local macro_rules | `(tactic| fail) => `(tactic| with_reducible refine vs_seqF ?_)
local macro_rules | `(tactic| fail) => `(tactic| with_reducible refine vs_seqX ?_)
local macro_rules | `(tactic| fail) => `(tactic| with_reducible refine vs_seqE ?_)
local macro_rules | `(tactic| fail) => `(tactic| with_reducible refine vs_seqU ?_)
local macro_rules | `(tactic| fail) => `(tactic| with_reducible refine vs_seqN ?_)
local macro_rules | `(tactic| fail) => `(tactic| with_reducible refine vs_seqR ?_)
local macro_rules | `(tactic| fail) => `(tactic| with_reducible refine vs_seqS ?_)
/-! ### a letter's part -/
def oW : Option L → W
  | none => .non
  | some l => l.w
theorem at_take {l l' : L} {p : List Sp} {i : Nat} {s : Sp} (h : l.at (p.take i) = some l') (e : p[i]? = some s) : l.at (p.take (i + 1)) = l'.sub s := by
  obtain ⟨hi, e⟩ := List.getElem?_eq_some_iff.mp e
  rw [List.take_succ_eq_append_getElem hi, L.at_app, h, e]
  show (l'.sub s).bind (fun r => r.at []) = _
  cases l'.sub s <;> rfl
theorem at_none {l l' : L} {p : List Sp} {i : Nat} {s : Sp} (h : l.at (p.take i) = some l') (e : p[i]? = some s) (n : l'.sub s = none) : l.at p = none := by
  have h2 := at_take h e
  rw [n] at h2
  rw [← List.take_append_drop (i + 1) p, L.at_app, h2]
  rfl
theorem at_wf : ∀ (p : List Sp) {l l' : L}, l.wf → l.at p = some l' → l'.wf ∧ l'.dp ≤ l.dp
  | [], l, l', h, e => by cases e; exact ⟨h, Nat.le_refl _⟩
  | s :: p, l, l', h, e => by
    obtain ⟨r, e1, e2⟩ := Option.bind_eq_some_iff.mp e
    have : r.wf ∧ r.dp ≤ l.dp := by
      cases l <;> cases s <;> simp only [L.sub, reduceCtorEq, Option.some.injEq] at e1
      · subst e1; exact ⟨h.1, by show _ ≤ max _ _ + 1; omega⟩
      · subst e1; exact ⟨h.2, by show _ ≤ max _ _ + 1; omega⟩
      · split at e1 <;> cases e1
        exact ⟨h, by show _ ≤ _ + 1; omega⟩
      · subst e1; exact ⟨h, by show _ ≤ _ + 1; omega⟩
    obtain ⟨a, b⟩ := at_wf p this.1 e2
    exact ⟨a, Nat.le_trans b this.2⟩
def Sp.k : Sp → L2.Key
  | .fi => .inr (Str.ofString "first")
  | .se => .inr (Str.ofString "second")
  | .so => .inr (Str.ofString "some")
  | .at i => .inl (i : Int)
theorem key_sp {s : Sp} : keyW s.w = some s.k := by cases s <;> rfl
/-- the parts of a letter by their steps -/
def L.kvs : L → List (L2.Key × W)
  | .pr a b => [(Sp.fi.k, a.w), (Sp.se.k, b.w)]
  | .cs i a => [((Sp.at i).k, a.w)]
  | .so a => [(Sp.so.k, a.w)]
  | _ => []
theorem kvs_sub {l : L} {s : Sp} : valW l.kvs s.k = (l.sub s).map L.w := by
  have n1 : ¬ (Sp.fi.k = Sp.se.k) := by decide +kernel
  have n2 : ¬ (Sp.fi.k = Sp.so.k) := by decide +kernel
  have n3 : ¬ (Sp.se.k = Sp.fi.k) := by decide +kernel
  have n4 : ¬ (Sp.se.k = Sp.so.k) := by decide +kernel
  have n5 : ¬ (Sp.so.k = Sp.fi.k) := by decide +kernel
  have n6 : ¬ (Sp.so.k = Sp.se.k) := by decide +kernel
  have m1 : ∀ i, ¬ (Sp.fi.k = (Sp.at i).k) := fun i => by simp [Sp.k]
  have m2 : ∀ i, ¬ (Sp.se.k = (Sp.at i).k) := fun i => by simp [Sp.k]
  have m3 : ∀ i, ¬ (Sp.so.k = (Sp.at i).k) := fun i => by simp [Sp.k]
  have m4 : ∀ i, ¬ ((Sp.at i).k = Sp.fi.k) := fun i => by simp [Sp.k]
  have m5 : ∀ i, ¬ ((Sp.at i).k = Sp.se.k) := fun i => by simp [Sp.k]
  have m6 : ∀ i, ¬ ((Sp.at i).k = Sp.so.k) := fun i => by simp [Sp.k]
  have m7 : ∀ i j, ((Sp.at i).k = (Sp.at j).k) ↔ i = j := fun i j => by
    show (Sum.inl (i : Int) = Sum.inl (j : Int)) ↔ _
    rw [Sum.inl.injEq]
    omega
  cases l <;> cases s <;> simp [L.kvs, L.sub, valW, n1, n2, n3, n4, n5, n6, m1, m2, m3, m4, m5, m6, m7]
  all_goals (rename_i i a j; by_cases h : i = j <;> simp [h])
theorem parts_v {l : L} (h : l.wf) (hd : l.dp ≤ 60) {S : Store} {R : W → Store → Prop} (q : R (.loc S.length) (S ++ [.dct l.kvs])) : Vf f__parts_of [l.w] S R := by
  have eqn : ∃ b, gEq l.w (.tup [strW "none"]) S = .ok (.bl b) S ∧ (b = true ↔ l = .no) := by
    obtain ⟨b, e, _, hb⟩ := eq_pl (L.okw h) (ok_t1 (n := 0) (ok_s "none")) L.pl (pl_t1 (.str _)) (by omega) (by omega) S
    refine ⟨b, e, hb.trans ⟨fun e => ?_, fun e => by rw [e]; rfl⟩⟩
    cases l with
    | no => rfl
    | _ => simp [L.w] at e
  obtain ⟨b, eb, hb⟩ := eqn
  refine o__parts_of ?_; unfold d__parts_of
  cases l with
  | nm x => simp only [L.w]; (repeat fail); refine ve_disp ?_; (repeat fail); exact ⟨[], rfl, by decide, q⟩
  | nu x => simp only [L.w]; (repeat fail); refine ve_disp ?_; (repeat fail); exact ⟨[], rfl, by decide, q⟩
  | no =>
    simp only [L.w] at eb ⊢
    (repeat fail)
    refine vo_of eb ?_
    rw [hb.mpr rfl]
    (repeat fail)
    refine ve_disp ?_
    (repeat fail)
    exact ⟨[], rfl, by decide, q⟩
  | pr x y =>
    simp only [L.w] at eb ⊢
    have hb' : b = false := by cases b with
      | false => rfl
      | true => exact absurd (hb.mp rfl) (by simp)
    subst hb'
    (repeat fail)
    refine vo_of eb ?_
    (repeat fail)
    refine ve_disp ?_
    (repeat fail)
    refine ⟨_, rfl, by simp, ?_⟩
    exact q
  | cs i x =>
    simp only [L.w] at eb ⊢
    have hb' : b = false := by cases b with
      | false => rfl
      | true => exact absurd (hb.mp rfl) (by simp)
    subst hb'
    (repeat fail)
    refine vo_of eb ?_
    (repeat fail)
    refine ve_disp ?_
    (repeat fail)
    refine ⟨_, rfl, by simp, ?_⟩
    exact q
  | so x =>
    simp only [L.w] at eb ⊢
    have hb' : b = false := by cases b with
      | false => rfl
      | true => exact absurd (hb.mp rfl) (by simp)
    subst hb'
    (repeat fail)
    refine vo_of eb ?_
    (repeat fail)
    refine ve_disp ?_
    (repeat fail)
    refine ⟨_, rfl, by simp, ?_⟩
    exact q
theorem part_at_v {l : L} (h : l.wf) (hd : l.dp ≤ 60) {p : List Sp} {S : Store} {R : W → Store → Prop} (q : ∀ S', Kp S S' → R (oW (l.at p)) S') : Vf f_part_at [l.w, pW p] S R := by
  refine o_part_at ?_; unfold d_part_at
  (repeat fail)
  refine ⟨p.map Sp.w, rfl, ?_⟩
  refine vl_inv (fun i ls s => ∃ (l' : L) (a b : Option W), l.at (p.take i) = some l' ∧ ls = [some l'.w, some (pW p), a, b] ∧ Kp S s) (fun _ _ _ _ => trivial) ⟨l, none, none, rfl, rfl, Kp.refl S⟩ ?_ ?_
  · rintro i w ls s ew ⟨l', a, b, hl, rfl, hk⟩
    obtain ⟨z, ez, rfl⟩ : ∃ z, p[i]? = some z ∧ z.w = w := by
      rw [List.getElem?_map] at ew
      exact Option.map_eq_some_iff.mp ew
    obtain ⟨w1, w2⟩ := at_wf _ h hl
    refine ⟨_, dg_n2, ?_⟩
    (repeat fail)
    refine parts_v w1 (by omega) ?_
    (repeat fail)
    refine vo_dnin (get_mid (cs := [])) key_sp ?_
    rw [kvs_sub]
    cases es : l'.sub z with
    | none =>
      dsimp only [Option.map_none, Option.isSome_none]
      (repeat fail)
      have := q (s ++ [.dct l'.kvs]) (hk.trans kp_app)
      rw [at_none hl ez es] at this
      exact this
    | some x =>
      dsimp only [Option.map_some, Option.isSome_some]
      (repeat fail)
      refine vo_dix (get_mid (cs := [])) key_sp (by rw [kvs_sub, es]; rfl) ?_
      exact ⟨x, _, _, by rw [at_take hl ez, es], rfl, hk.trans kp_app⟩
  · rintro ls s ⟨l', a, b, hl, rfl, hk⟩
    (repeat fail)
    rw [List.length_map, List.take_length] at hl
    have := q s hk
    rw [hl] at this
    exact this
set_option maxHeartbeats 4000000
/-! ### the law's own part of a letter -/
def z3kvs : List (L2.Key × W) := [(Sp.fi.k, strW "pair"), (Sp.se.k, strW "pair"), (Sp.so.k, strW "some")]
def Sp.hd : Sp → String
  | .fi => "pair"
  | .se => "pair"
  | .so => "some"
  | .at _ => "case"
theorem z3_get {s : Sp} : (valW z3kvs s.k).getD (strW "case") = strW s.hd := by
  have n1 : ¬ (Sp.fi.k = Sp.se.k) := by decide +kernel
  have n2 : ¬ (Sp.fi.k = Sp.so.k) := by decide +kernel
  have n4 : ¬ (Sp.se.k = Sp.so.k) := by decide +kernel
  have m1 : ∀ i, ¬ (Sp.fi.k = (Sp.at i).k) := fun i => by simp [Sp.k]
  have m2 : ∀ i, ¬ (Sp.se.k = (Sp.at i).k) := fun i => by simp [Sp.k]
  have m3 : ∀ i, ¬ (Sp.so.k = (Sp.at i).k) := fun i => by simp [Sp.k]
  cases s <;> simp [z3kvs, valW, n1, n2, n4, m1, m2, m3, Sp.hd]
def Sp.isFS : Sp → Bool
  | .fi => true
  | .so => true
  | _ => false
theorem vo_fs {s : Sp} {S : Store} {p : Nat} {R : W → Store → Prop} (hp : S[p]? = some (.lst [strW "first", strW "some"])) (q : R (.bl (!s.isFS)) S) : Vo gNotIn s.w (.loc p) S R := by
  refine ⟨_, S, ?_, q⟩
  unfold gNotIn gInB
  rw [show seqW S (.loc p) = some [strW "first", strW "some"] from lst_loc hp]
  dsimp only
  have a1 : ¬ (Str.ofString "first" = Str.ofString "second") := by decide +kernel
  have a2 : ¬ (Str.ofString "some" = Str.ofString "second") := by decide +kernel
  have a3 : ¬ (Str.ofString "some" = Str.ofString "first") := by decide +kernel
  have a4 : ¬ (Str.ofString "first" = Str.ofString "some") := by decide +kernel
  cases s <;> rw [if_pos ⟨rfl, rfl⟩] <;> simp [inFl, eqFl, strW, Sp.w, Sp.isFS, a1, a2, a3, a4]
theorem law_at_v {l : L} {p : List Sp} {S : Store} {R : W → Store → Prop} (q : ∀ S', Kp S S' → R (oW (l.at p)) S') : Vf f__law_at [l.w, pW p] S R := by
  refine o__law_at ?_; unfold d__law_at
  (repeat fail)
  refine ⟨p.map Sp.w, rfl, ?_⟩
  refine vl_inv (fun i ls s => ∃ (l' : L) (a b : Option W), l.at (p.take i) = some l' ∧ ls = [some l'.w, some (pW p), a, b] ∧ Kp S s) (fun _ _ _ _ => trivial) ⟨l, none, none, rfl, rfl, Kp.refl S⟩ ?_ ?_
  · rintro i w ls s ew ⟨l', a, b, hl, rfl, hk⟩
    obtain ⟨z, ez, rfl⟩ : ∃ z, p[i]? = some z ∧ z.w = w := by
      rw [List.getElem?_map] at ew
      exact Option.map_eq_some_iff.mp ew
    refine ⟨_, dg_n2, ?_⟩
    -- what is done with the dict
    have dict : ∀ {lw : W} {Rt : W → Store → Prop}, Rt (strW z.hd) (s ++ [Cell.dct z3kvs]) → Ve (dGet2 (dDisp [((dC (.str (PySem.Str.ofString "first"))), (dC (.str (PySem.Str.ofString "pair")))), ((dC (.str (PySem.Str.ofString "second"))), (dC (.str (PySem.Str.ofString "pair")))), ((dC (.str (PySem.Str.ofString "some"))), (dC (.str (PySem.Str.ofString "some"))))]) (dVar 2) (dC (.str (PySem.Str.ofString "case")))) [some lw, some (pW p), some z.w, b] s Rt := by
      intro lw Rt h
      refine ve_get2 ?_
      refine ve_disp ?_
      (repeat fail)
      refine ⟨z3kvs, rfl, by simp [z3kvs], ?_⟩
      refine ⟨s.length, z3kvs, rfl, get_mid (cs := []), ?_⟩
      (repeat fail)
      refine ⟨z3kvs, z.k, get_mid (cs := []), key_sp, ?_⟩
      rw [show (W.str (Str.ofString "case")) = strW "case" from rfl, z3_get]
      exact h
    have non : l'.sub z = none → ∀ s', Kp S s' → R .non s' := fun hs s' hk' => by
      have := q s' hk'
      rw [at_none hl ez hs] at this
      exact this
    have more : ∀ x, l'.sub z = some x → ∀ (a b : Option W) s', Kp S s' → ∃ (l' : L) (a' b' : Option W), l.at (p.take (i + 1)) = some l' ∧ [some x.w, some (pW p), a, b] = [some l'.w, some (pW p), a', b'] ∧ Kp S s' := fun x hs a b s' hk' => ⟨x, a, b, by rw [at_take hl ez, hs], rfl, hk'⟩
    have k1 : Kp S (s ++ [Cell.dct z3kvs]) := hk.trans kp_app
    have k2 : ∀ {c : Cell}, Kp S (s ++ [Cell.dct z3kvs] ++ [c]) := hk.trans (kp_app.trans kp_app)
    cases l' with
    | nm x => simp only [L.w]; (repeat fail); exact non rfl _ hk
    | nu x => simp only [L.w]; (repeat fail); exact non rfl _ hk
    | no =>
      simp only [L.w]
      (repeat fail)
      refine dict ?_
      (repeat fail)
      cases z with
      | fi => (repeat fail); exact non rfl _ k1
      | se => (repeat fail); exact non rfl _ k1
      | so => (repeat fail); exact non rfl _ k1
      | «at» j => simp only [Sp.w, Sp.hd]; (repeat fail); exact non rfl _ k1
    | pr x y =>
      simp only [L.w]
      (repeat fail)
      refine dict ?_
      (repeat fail)
      cases z with
      | so => (repeat fail); exact non rfl _ k1
      | «at» j => simp only [Sp.w, Sp.hd]; (repeat fail); exact non rfl _ k1
      | fi =>
        (repeat fail)
        refine vo_fs (s := .fi) (get_mid (cs := [])) ?_
        (repeat fail)
        refine vf_intF ?_
        (repeat fail)
        refine vo_ix (w := x.w) ?_ ?_
        · rfl
        exact more x rfl _ _ _ k2
      | se =>
        (repeat fail)
        refine vo_fs (s := .se) (get_mid (cs := [])) ?_
        (repeat fail)
        refine vf_intT ?_
        (repeat fail)
        refine vo_ix (w := y.w) ?_ ?_
        · rfl
        exact more y rfl _ _ _ k2
    | cs j x =>
      simp only [L.w]
      (repeat fail)
      refine dict ?_
      (repeat fail)
      cases z with
      | fi => (repeat fail); exact non rfl _ k1
      | se => (repeat fail); exact non rfl _ k1
      | so => (repeat fail); exact non rfl _ k1
      | «at» j' =>
        simp only [Sp.w, Sp.hd]
        (repeat fail)
        by_cases hj : j = j'
        · subst hj
          refine cb_ndt rfl ?_
          (repeat fail)
          refine vo_fs (s := .at j) (get_mid (cs := [])) ?_
          (repeat fail)
          refine vf_intT ?_
          (repeat fail)
          refine vo_ix (w := x.w) ?_ ?_
          · rfl
          exact more x (by simp [L.sub]) _ _ _ k2
        · refine cb_ndf (fun e => hj (by omega)) ?_
          (repeat fail)
          exact non (by simp [L.sub, hj]) _ k1
    | so x =>
      simp only [L.w]
      (repeat fail)
      refine dict ?_
      (repeat fail)
      cases z with
      | fi => (repeat fail); exact non rfl _ k1
      | se => (repeat fail); exact non rfl _ k1
      | «at» j => simp only [Sp.w, Sp.hd]; (repeat fail); exact non rfl _ k1
      | so =>
        (repeat fail)
        refine vo_fs (s := .so) (get_mid (cs := [])) ?_
        (repeat fail)
        refine vf_intF ?_
        (repeat fail)
        refine vo_ix (w := x.w) ?_ ?_
        · rfl
        exact more x rfl _ _ _ k2
  · rintro ls s ⟨l', a, b, hl, rfl, hk⟩
    (repeat fail)
    rw [List.length_map, List.take_length] at hl
    have := q s hk
    rw [hl] at this
    exact this
set_option maxHeartbeats 4000000
/-! ### a kind's part -/
def oQ : Option Q → W
  | none => .non
  | some q => q.w
theorem qat_take {l l' : Q} {p : List Sp} {i : Nat} {s : Sp} (h : l.at (p.take i) = some l') (e : p[i]? = some s) : l.at (p.take (i + 1)) = l'.sub s := by
  obtain ⟨hi, e⟩ := List.getElem?_eq_some_iff.mp e
  rw [List.take_succ_eq_append_getElem hi, Q.at_app, h, e]
  show (l'.sub s).bind (fun r => r.at []) = _
  cases l'.sub s <;> rfl
theorem qat_none {l l' : Q} {p : List Sp} {i : Nat} {s : Sp} (h : l.at (p.take i) = some l') (e : p[i]? = some s) (n : l'.sub s = none) : l.at p = none := by
  have h2 := qat_take h e
  rw [n] at h2
  rw [← List.take_append_drop (i + 1) p, Q.at_app, h2]
  rfl
theorem whole_i {i : Int} {S : Store} {R : W → Store → Prop} (q : R (.bl true) S) : Vf f__law_whole [.int i] S R := by
  refine o__law_whole ?_; unfold d__law_whole
  (repeat fail)
  exact q
theorem whole_s {x : Str} {S : Store} {R : W → Store → Prop} (q : R (.bl false) S) : Vf f__law_whole [.str x] S R := by
  refine o__law_whole ?_; unfold d__law_whole
  (repeat fail)
  exact q
theorem law_kind_at_v {l : Q} {p : List Sp} {S : Store} {R : W → Store → Prop} (q : ∀ S', Kp S S' → R (oQ (l.at p)) S') : Vf f__law_kind_at [l.w, pW p] S R := by
  refine o__law_kind_at ?_; unfold d__law_kind_at
  (repeat fail)
  refine ⟨p.map Sp.w, rfl, ?_⟩
  refine vl_inv (fun i ls s => ∃ (l' : Q) (a : Option W), l.at (p.take i) = some l' ∧ ls = [some l'.w, some (pW p), a] ∧ Kp S s) (fun _ _ _ _ => trivial) ⟨l, none, rfl, rfl, Kp.refl S⟩ ?_ ?_
  · rintro i w ls s ew ⟨l', a, hl, rfl, hk⟩
    obtain ⟨z, ez, rfl⟩ : ∃ z, p[i]? = some z ∧ z.w = w := by
      rw [List.getElem?_map] at ew
      exact Option.map_eq_some_iff.mp ew
    refine ⟨_, dg_n2, ?_⟩
    have non : l'.sub z = none → ∀ s', Kp S s' → R .non s' := fun hs s' hk' => by
      have := q s' hk'
      rw [qat_none hl ez hs] at this
      exact this
    have more : ∀ x, l'.sub z = some x → ∀ (a : Option W) s', Kp S s' → ∃ (l' : Q) (a' : Option W), l.at (p.take (i + 1)) = some l' ∧ [some x.w, some (pW p), a] = [some l'.w, some (pW p), a'] ∧ Kp S s' := fun x hs a s' hk' => ⟨x, a, by rw [qat_take hl ez, hs], rfl, hk'⟩
    have k1 : ∀ {c : Cell}, Kp S (s ++ [c]) := hk.trans kp_app
    cases l' with
    | names ns =>
      simp only [Q.w]
      (repeat fail)
      exact non (by cases z <;> rfl) _ hk
    | zz =>
      simp only [Q.w]
      (repeat fail)
      exact non (by cases z <;> rfl) _ hk
    | pr x y =>
      simp only [Q.w]
      (repeat fail)
      cases z with
      | «at» j => simp only [Sp.w]; (repeat fail); exact non rfl _ hk
      | fi =>
        simp only [Sp.w]
        (repeat fail)
        refine vo_ix (w := x.w) ?_ ?_
        · rfl
        exact more x rfl _ _ k1
      | se =>
        simp only [Sp.w]
        (repeat fail)
        refine vo_ix (w := y.w) ?_ ?_
        · rfl
        exact more y rfl _ _ k1
      | so =>
        simp only [Sp.w]
        (repeat fail)
        exact non rfl _ k1
    | mb x =>
      simp only [Q.w]
      (repeat fail)
      cases z with
      | «at» j => simp only [Sp.w]; (repeat fail); exact non rfl _ hk
      | fi => simp only [Sp.w]; (repeat fail); exact non rfl _ hk
      | se => simp only [Sp.w]; (repeat fail); exact non rfl _ hk
      | so => simp only [Sp.w]; (repeat fail); exact more x rfl _ _ hk
    | e1 x =>
      simp only [Q.w]
      (repeat fail)
      cases z with
      | fi => simp only [Sp.w]; (repeat fail); refine whole_s ?_; (repeat fail); exact non rfl _ hk
      | se => simp only [Sp.w]; (repeat fail); refine whole_s ?_; (repeat fail); exact non rfl _ hk
      | so => simp only [Sp.w]; (repeat fail); refine whole_s ?_; (repeat fail); exact non rfl _ hk
      | «at» j =>
        simp only [Sp.w]
        (repeat fail)
        refine whole_i ?_
        (repeat fail)
        refine cb_dt (by omega) ?_
        (repeat fail)
        match j with
        | 0 =>
          refine cb_dt (by simp) ?_
          (repeat fail)
          refine vo_ix (w := x.w) ?_ ?_
          · rfl
          exact more x rfl _ _ hk
        | j + 1 =>
          refine cb_df (by omega) ?_
          (repeat fail)
          exact non rfl _ hk
    | e2 x y =>
      simp only [Q.w]
      (repeat fail)
      cases z with
      | fi => simp only [Sp.w]; (repeat fail); refine whole_s ?_; (repeat fail); exact non rfl _ hk
      | se => simp only [Sp.w]; (repeat fail); refine whole_s ?_; (repeat fail); exact non rfl _ hk
      | so => simp only [Sp.w]; (repeat fail); refine whole_s ?_; (repeat fail); exact non rfl _ hk
      | «at» j =>
        simp only [Sp.w]
        (repeat fail)
        refine whole_i ?_
        (repeat fail)
        refine cb_dt (by omega) ?_
        (repeat fail)
        match j with
        | 0 =>
          refine cb_dt (by simp) ?_
          (repeat fail)
          refine vo_ix (w := x.w) ?_ ?_
          · rfl
          exact more x rfl _ _ hk
        | 1 =>
          refine cb_dt (by simp) ?_
          (repeat fail)
          refine vo_ix (w := y.w) ?_ ?_
          · rfl
          exact more y rfl _ _ hk
        | j + 2 =>
          refine cb_df (by omega) ?_
          (repeat fail)
          exact non rfl _ hk
    | e3 x y u =>
      simp only [Q.w]
      (repeat fail)
      cases z with
      | fi => simp only [Sp.w]; (repeat fail); refine whole_s ?_; (repeat fail); exact non rfl _ hk
      | se => simp only [Sp.w]; (repeat fail); refine whole_s ?_; (repeat fail); exact non rfl _ hk
      | so => simp only [Sp.w]; (repeat fail); refine whole_s ?_; (repeat fail); exact non rfl _ hk
      | «at» j =>
        simp only [Sp.w]
        (repeat fail)
        refine whole_i ?_
        (repeat fail)
        refine cb_dt (by omega) ?_
        (repeat fail)
        match j with
        | 0 =>
          refine cb_dt (by simp) ?_
          (repeat fail)
          refine vo_ix (w := x.w) ?_ ?_
          · rfl
          exact more x rfl _ _ hk
        | 1 =>
          refine cb_dt (by simp) ?_
          (repeat fail)
          refine vo_ix (w := y.w) ?_ ?_
          · rfl
          exact more y rfl _ _ hk
        | 2 =>
          refine cb_dt (by simp) ?_
          (repeat fail)
          refine vo_ix (w := u.w) ?_ ?_
          · rfl
          exact more u rfl _ _ hk
        | j + 3 =>
          refine cb_df (by omega) ?_
          (repeat fail)
          exact non rfl _ hk
  · rintro ls s ⟨l', a, hl, rfl, hk⟩
    (repeat fail)
    rw [List.length_map, List.take_length] at hl
    have := q s hk
    rw [hl] at this
    exact this
set_option maxHeartbeats 4000000
/-! ### a term along a path -/
theorem cut_n {ws : List W} {k : Nat} : cutW ws (some (k : Int)) none = ws.drop k := by
  unfold cutW HT.sIx
  simp only []
  rw [if_neg (by omega)]
  simp only [Int.toNat_natCast]
  by_cases h : k ≤ ws.length
  · rw [Nat.min_eq_left h, List.take_of_length_le (by rw [List.length_drop]; exact Nat.le_refl _)]
  · rw [Nat.min_eq_right (by omega), List.drop_of_length_le (Nat.le_refl _), List.drop_of_length_le (by omega), List.take_nil]
theorem sl_n {ws : List W} {k : Nat} {S : Store} {R : W → Store → Prop} (q : R (.tup (ws.drop k)) S) : Vz (.tup ws) (some (k : Int)) none S R := ⟨_, S, by rw [slice_t, cut_n], q⟩
theorem cat_v {a b : List W} {S : Store} {R : W → Store → Prop} (h : a.length + b.length ≤ 1000) (q : R (.tup (a ++ b)) S) : Vo gAdd (.tup a) (.tup b) S R := ⟨_, S, cat_tt h, q⟩
theorem Q.sub_wf {q r : Q} {s : Sp} (h : q.wf) (e : q.sub s = some r) : r.wf ∧ r.dp ≤ q.dp ∧ r.cnt ≤ q.cnt := by
  unfold Q.sub at e
  split at e <;> cases e <;> first
    | exact ⟨h.1, by show _ ≤ max _ _ + 1; omega, by show _ ≤ _ + _ + 1; omega⟩
    | exact ⟨h.2, by show _ ≤ max _ _ + 1; omega, by show _ ≤ _ + _ + 1; omega⟩
    | exact ⟨h.1, by show _ ≤ max _ (max _ _) + 1; omega, by show _ ≤ _ + _ + _ + 1; omega⟩
    | exact ⟨h.2.1, by show _ ≤ max _ (max _ _) + 1; omega, by show _ ≤ _ + _ + _ + 1; omega⟩
    | exact ⟨h.2.2, by show _ ≤ max _ (max _ _) + 1; omega, by show _ ≤ _ + _ + _ + 1; omega⟩
    | exact ⟨h, by show _ ≤ _ + 1; omega, by show _ ≤ _ + 1; omega⟩
theorem Q.at_wf : ∀ (p : List Sp) {q r : Q}, q.wf → q.at p = some r → r.wf ∧ r.dp ≤ q.dp ∧ r.cnt ≤ q.cnt
  | [], q, r, h, e => by cases e; exact ⟨h, Nat.le_refl _, Nat.le_refl _⟩
  | s :: p, q, r, h, e => by
    obtain ⟨x, e1, e2⟩ := Option.bind_eq_some_iff.mp e
    obtain ⟨a, b, c⟩ := Q.sub_wf h e1
    obtain ⟨a', b', c'⟩ := Q.at_wf p a e2
    exact ⟨a', by omega, by omega⟩
/-- how long the paths of a term are -/
def T.pl' : T → Nat
  | .al _ => 0
  | .rd p => p.length
  | .pl p _ => p.length
  | .mi p _ => p.length
  | .pr a b => max a.pl' b.pl'
  | .cs _ a => a.pl'
  | .so a => a.pl'
/-- where a walk along the path stands -/
structure Wk (q0 : Q) (t : T) (p : List Sp) (i : Nat) (t' : T) (q' : Q) : Prop where
  eq : t.follow p = t'.follow (p.drop i)
  su : t'.suits q0 q' = true
  pa : (q'.at (p.drop i)).isSome = true
  wf : q'.wf
  dp : q'.dp ≤ 50
  pl : t'.pl' ≤ t.pl'
theorem Wk.case {q0 : Q} {t : T} {p : List Sp} {i : Nat} {t' : T} {q' : Q} {s : Sp} (h : Wk q0 t p i t' q') (e : p[i]? = some s) : p.drop i = s :: p.drop (i + 1) ∧ ∃ r, q'.sub s = some r ∧ (r.at (p.drop (i + 1))).isSome = true ∧ r.wf ∧ r.dp ≤ 50 := by
  obtain ⟨hi, e⟩ := List.getElem?_eq_some_iff.mp e
  have hd : p.drop i = s :: p.drop (i + 1) := by rw [List.drop_eq_getElem_cons hi, e]
  refine ⟨hd, ?_⟩
  have hp := h.pa
  rw [hd] at hp
  obtain ⟨x, hx⟩ := Option.isSome_iff_exists.mp hp
  obtain ⟨r, e1, e2⟩ := Option.bind_eq_some_iff.mp hx
  obtain ⟨a, b, _⟩ := Q.sub_wf h.wf e1
  have := h.dp
  exact ⟨r, e1, by rw [e2]; rfl, a, by omega⟩
/-- what the next turn does, by the term's form -/
theorem Wk.step {q0 : Q} {t : T} {p : List Sp} {i : Nat} {t' : T} {q' : Q} {s : Sp} (h : Wk q0 t p i t' q') (e : p[i]? = some s) :
    (∃ q, t' = .rd q ∧ t.follow p = some (.rd (q ++ p.drop i))) ∨ (∃ l, t' = .al l ∧ l.wf ∧ l.dp ≤ 50 ∧ t.follow p = (l.at (p.drop i)).map .al) ∨
    (∃ a b r, t' = .pr a b ∧ ((s = .fi ∧ Wk q0 t p (i + 1) a r) ∨ (s = .se ∧ Wk q0 t p (i + 1) b r))) ∨
    (∃ j a k, t' = .cs j a ∧ s = .at k ∧ ((j = k ∧ ∃ r, Wk q0 t p (i + 1) a r) ∨ (j ≠ k ∧ t.follow p = none))) ∨ (∃ a r, t' = .so a ∧ s = .so ∧ Wk q0 t p (i + 1) a r) := by
  obtain ⟨hd, r, e1, e2, e3, e4⟩ := h.case e
  have eq := h.eq
  rw [hd] at eq
  have su := h.su
  have pl := h.pl
  cases t' with
  | rd q => exact .inl ⟨q, rfl, by rw [eq, hd]; rfl⟩
  | al l =>
    obtain ⟨w1, w2⟩ := has_wf h.wf su
    have := h.dp
    exact .inr (.inl ⟨l, rfl, w1, by omega, by rw [eq, hd]; rfl⟩)
  | pl q n =>
    have su' : (decide (q0.at q = some .zz) && decide (q' = .zz)) = true := su
    rw [Bool.and_eq_true] at su'
    have := of_decide_eq_true su'.2
    subst this
    cases s <;> cases e1
  | mi q n =>
    have su' : (decide (q0.at q = some .zz) && decide (q' = .zz)) = true := su
    rw [Bool.and_eq_true] at su'
    have := of_decide_eq_true su'.2
    subst this
    cases s <;> cases e1
  | pr a b =>
    refine .inr (.inr (.inl ⟨a, b, r, rfl, ?_⟩))
    cases q' <;> simp only [T.suits, Bool.false_eq_true, Bool.and_eq_true] at su
    cases s <;> cases e1
    · exact .inl ⟨rfl, eq, su.1, e2, e3, e4, by have : max a.pl' b.pl' ≤ _ := pl; omega⟩
    · exact .inr ⟨rfl, eq, su.2, e2, e3, e4, by have : max a.pl' b.pl' ≤ _ := pl; omega⟩
  | cs j a =>
    have hs : ∃ k, s = .at k := by
      unfold T.suits at su
      split at su <;> first | contradiction | skip
      all_goals cases s <;> first | exact ⟨_, rfl⟩ | (cases e1)
    obtain ⟨k, rfl⟩ := hs
    refine .inr (.inr (.inr (.inl ⟨j, a, k, rfl, rfl, ?_⟩)))
    have eq' : t.follow p = if j = k then a.follow (p.drop (i + 1)) else none := eq
    by_cases hj : j = k
    · subst hj
      rw [if_pos rfl] at eq'
      refine .inl ⟨rfl, r, eq', ?_, e2, e3, e4, pl⟩
      unfold T.suits at su
      split at su <;> first | contradiction | skip
      all_goals
        rename_i he
        cases he
        cases e1
        exact su
    · rw [if_neg hj] at eq'
      exact .inr ⟨hj, eq'⟩
  | so a =>
    refine .inr (.inr (.inr (.inr ?_)))
    cases q' <;> simp only [T.suits, Bool.false_eq_true] at su
    cases s <;> cases e1
    exact ⟨a, r, rfl, rfl, eq, su, e2, e3, e4, pl⟩
set_option maxHeartbeats 4000000
def T.dp : T → Nat
  | .pr a b => max a.dp b.dp + 1
  | .cs _ a => a.dp + 1
  | .so a => a.dp + 1
  | _ => 1
theorem at_len : ∀ (p : List Sp) {q r : Q}, q.at p = some r → p.length + r.dp ≤ q.dp
  | [], q, r, e => by cases e; simp
  | s :: p, q, r, e => by
    obtain ⟨x, e1, e2⟩ := Option.bind_eq_some_iff.mp e
    have := at_len p e2
    have h : x.dp + 1 ≤ q.dp := by
      unfold Q.sub at e1
      split at e1 <;> cases e1 <;> first
        | (show _ ≤ max _ _ + 1; omega)
        | (show _ ≤ max _ (max _ _) + 1; omega)
        | (show _ ≤ _ + 1; omega)
    rw [List.length_cons]
    omega
theorem suits_dp {q0 : Q} : ∀ {t : T} {q : Q}, t.suits q0 q = true → t.dp ≤ q.dp
  | .al l, q, h => by show 1 ≤ _; cases q <;> simp [Q.dp]
  | .rd p, q, h => by show 1 ≤ _; cases q <;> simp [Q.dp]
  | .pl p n, q, h => by show 1 ≤ _; cases q <;> simp [Q.dp]
  | .mi p n, q, h => by show 1 ≤ _; cases q <;> simp [Q.dp]
  | .pr a b, q, h => by
    cases q <;> simp only [T.suits, Bool.false_eq_true, Bool.and_eq_true] at h
    have h1 := suits_dp h.1
    have h2 := suits_dp h.2
    show max _ _ + 1 ≤ max _ _ + 1
    omega
  | .cs i a, q, h => by
    unfold T.suits at h
    split at h <;> first | contradiction | skip
    all_goals
      rename_i he
      cases he
      have z := suits_dp (t := a) h
      first
        | (show _ + 1 ≤ max _ (max _ _) + 1; omega)
        | (show _ + 1 ≤ max _ _ + 1; omega)
        | (show _ + 1 ≤ _ + 1; omega)
  | .so a, q, h => by
    cases q <;> simp only [T.suits, Bool.false_eq_true] at h
    have z := suits_dp (t := a) h
    show _ + 1 ≤ _ + 1
    omega
/-! ### a sign and a number -/
/-! ### x in a list of plain values -/
theorem eqFl_pl {x y : W} (hx : Pl x) (hy : Pl y) (fx : flatW x = true) (fy : flatW y = true) : eqFl y x = true ↔ y = x := by
  cases hx <;> cases hy <;> first | (simp [flatW] at fx; done) | (simp [flatW] at fy; done) | simp [eqFl]
theorem in_pl {x : W} {ws : List W} {n : Nat} {S : Store} {p : Nat} (hp : S[p]? = some (.lst ws)) (hx : Pl x) (ox : OkW n x) (hn : n ≤ 60) (hw : ∀ w ∈ ws, Pl w ∧ OkW n w) : ∃ b, gIn x (.loc p) S = .ok (.bl b) S ∧ gNotIn x (.loc p) S = .ok (.bl (!b)) S ∧ (b = true ↔ x ∈ ws) := by
  by_cases hf : flatW x = true ∧ allFlat ws = true
  · refine ⟨inFl x ws, ?_, ?_, ?_⟩
    · unfold gIn gInB
      rw [show seqW S (.loc p) = some ws from lst_loc hp]
      dsimp only
      rw [if_pos hf, false_bne]
    · unfold gNotIn gInB
      rw [show seqW S (.loc p) = some ws from lst_loc hp]
      dsimp only
      rw [if_pos hf, true_bne]
    · unfold inFl
      rw [List.any_eq_true]
      have ha : ∀ w ∈ ws, flatW w = true := List.all_eq_true.mp hf.2
      constructor
      · rintro ⟨w, hw1, hw2⟩
        rw [(eqFl_pl hx (hw w hw1).1 hf.1 (ha w hw1)).mp hw2] at hw1
        exact hw1
      · intro h
        exact ⟨x, h, (eqFl_pl hx hx hf.1 hf.1).mpr rfl⟩
  · have s1 : SeqAt.shaped (toD S x) = true := ox.shaped (by omega)
    have s2 : SeqAt.shaped (.tuple (toDA S ws)) = true := by
      have := (OkW.tup (n := n) (ws := ws) fun w h => (hw w h).2).shaped (S := S) (by omega)
      rw [show toD S (.tup ws) = .tuple (toDA S ws) by rw [toD]] at this
      exact this
    refine ⟨inD S x ws, ?_, ?_, ?_⟩
    · unfold gIn gInB
      rw [show seqW S (.loc p) = some ws from lst_loc hp]
      dsimp only
      rw [if_neg hf, if_pos ⟨s1, s2, rfl⟩, false_bne]
    · unfold gNotIn gInB
      rw [show seqW S (.loc p) = some ws from lst_loc hp]
      dsimp only
      rw [if_neg hf, if_pos ⟨s1, s2, rfl⟩, true_bne]
    · unfold inD
      rw [List.any_eq_true]
      constructor
      · rintro ⟨w, hw1, hw2⟩
        rw [((hw w hw1).1.eqv hx).mp hw2] at hw1
        exact hw1
      · intro h
        exact ⟨x, h, (hx.eqv hx).mpr rfl⟩
theorem isN_w {l : L} {S : Store} {R : W → Store → Prop} (h : R (.bl false) S) : Vo gIsN l.w .non S R := by cases l <;> exact ⟨_, _, rfl, h⟩
theorem notN_q {l : Q} {S : Store} {R : W → Store → Prop} (h : R (.bl true) S) : Vo gNotN l.w .non S R := by cases l <;> exact ⟨_, _, rfl, h⟩
/-- terms whose letters can be compared -/
def T.wf : T → Prop
  | .al l => l.wf ∧ l.dp ≤ 50
  | .pr a b => a.wf ∧ b.wf
  | .cs _ a => a.wf
  | .so a => a.wf
  | _ => True
theorem suits_wf {q0 : Q} : ∀ {t : T} {q : Q}, t.suits q0 q = true → q.wf → q.dp ≤ 50 → t.wf
  | .al l, q, h, hw, hd => by
    obtain ⟨a, b⟩ := has_wf hw h
    exact ⟨a, by omega⟩
  | .rd p, q, h, _, _ => trivial
  | .pl p n, q, h, _, _ => trivial
  | .mi p n, q, h, _, _ => trivial
  | .pr a b, q, h, hw, hd => by
    cases q <;> simp only [T.suits, Bool.false_eq_true, Bool.and_eq_true] at h
    have hd : max _ _ + 1 ≤ 50 := hd
    exact ⟨suits_wf h.1 hw.1 (by omega), suits_wf h.2 hw.2 (by omega)⟩
  | .cs i a, q, h, hw, hd => by
    unfold T.suits at h
    split at h <;> first | contradiction | skip
    · rename_i he
      cases he
      have hd : _ + 1 ≤ 50 := hd
      have z := suits_wf (t := a) h hw (by omega)
      exact z
    · rename_i he
      cases he
      have hd : max _ _ + 1 ≤ 50 := hd
      have z := suits_wf (t := a) h hw.1 (by omega)
      exact z
    · rename_i he
      cases he
      have hd : max _ _ + 1 ≤ 50 := hd
      have z := suits_wf (t := a) h hw.2 (by omega)
      exact z
    · rename_i he
      cases he
      have hd : max _ (max _ _) + 1 ≤ 50 := hd
      have z := suits_wf (t := a) h hw.1 (by omega)
      exact z
    · rename_i he
      cases he
      have hd : max _ (max _ _) + 1 ≤ 50 := hd
      have z := suits_wf (t := a) h hw.2.1 (by omega)
      exact z
    · rename_i he
      cases he
      have hd : max _ (max _ _) + 1 ≤ 50 := hd
      have z := suits_wf (t := a) h hw.2.2 (by omega)
      exact z
  | .so a, q, h, hw, hd => by
    cases q <;> simp only [T.suits, Bool.false_eq_true] at h
    have hd : _ + 1 ≤ 50 := hd
    have z := suits_wf (t := a) h hw (by omega)
    exact z
theorem ok_path (p : List Sp) : OkW 1 (pW p) := .tup fun w hw => by
  obtain ⟨s, _, rfl⟩ := List.mem_map.mp hw
  cases s <;> first | exact ok_s "first" | exact ok_s "second" | exact ok_s "some" | exact .int _
theorem T.okw : ∀ {t : T}, t.wf → OkW (t.dp + 51) t.w
  | .al l, h => ok_t2 (ok_s "always") ((L.okw h.1).mono (by have := h.2; show _ ≤ 1 + 50; omega))
  | .rd p, h => ok_t2 (ok_s "read") ((ok_path p).mono (by show _ ≤ 1 + 50; omega))
  | .pl p n, h => ok_t3 (ok_s "plus") ((ok_path p).mono (by show _ ≤ 1 + 50; omega)) (.int _)
  | .mi p n, h => ok_t3 (ok_s "minus") ((ok_path p).mono (by show _ ≤ 1 + 50; omega)) (.int _)
  | .pr a b, h => by
    have := ok_t3 (n := max a.dp b.dp + 51) (ok_s "pair") ((T.okw h.1).mono (by omega)) ((T.okw h.2).mono (by omega))
    exact this.mono (by show _ ≤ max a.dp b.dp + 1 + 51; omega)
  | .cs i a, h => by
    have := ok_t3 (n := a.dp + 51) (ok_s "case") (.int (i : Int)) (T.okw (t := a) h)
    exact this.mono (by show _ ≤ a.dp + 1 + 51; omega)
  | .so a, h => by
    have := ok_t2 (n := a.dp + 51) (ok_s "some") (T.okw (t := a) h)
    exact this.mono (by show _ ≤ a.dp + 1 + 51; omega)
set_option maxHeartbeats 4000000
/-! ### a term behind a term -/
/-- a comprehension over two values -/
theorem vc_two {x y r1 r2 : W} {g : DG} {vs : List Nat} {te : DE} {ls : Lo} {S : Store} {R : W → Store → Prop} {st : Store → Prop}
    (hst : ∀ s acc, Kp S s → s[S.length]? = some (.lst acc) → st s) (l1 l2 : Lo) (g1 : g x (wipeW ls vs) = some l1) (g2 : g y (wipeW ls vs) = some l2)
    (h1 : ∀ s, Ve te l1 s fun w s' => w = r1 ∧ Kp s s') (h2 : ∀ s, Ve te l2 s fun w s' => w = r2 ∧ Kp s s')
    (q : ∀ s, Kp S s → s[S.length]? = some (.lst [r1, r2]) → R (.loc S.length) s) : Vc ⟨[x, y], st⟩ g vs dYes te ls S R := by
  refine vc_inv (fun i acc s => Kp S s ∧ acc = [r1, r2].take i ∧ s[S.length]? = some (.lst acc)) (fun i acc s h => hst s acc h.1 h.2.2) ⟨kp_app, rfl, get_mid (cs := [])⟩ ?_ ?_
  · rintro i w acc s ew ⟨k, rfl, hg⟩
    match i, ew with
    | 0, ew =>
      cases ew
      refine ⟨l1, g1, vt_yes (cb_t ?_)⟩
      obtain ⟨w, s', e, rfl, k'⟩ := h1 s
      exact ⟨w, s', e, k'.2 _ _ hg, by simp, (k.trans k').put (Nat.le_refl _), rfl, get_set (k'.2 _ _ hg)⟩
    | 1, ew =>
      cases ew
      refine ⟨l2, g2, vt_yes (cb_t ?_)⟩
      obtain ⟨w, s', e, rfl, k'⟩ := h2 s
      exact ⟨w, s', e, k'.2 _ _ hg, by simp, (k.trans k').put (Nat.le_refl _), rfl, get_set (k'.2 _ _ hg)⟩
  · rintro acc s ⟨k, rfl, hg⟩
    exact q s k hg
theorem vc_one {x r1 : W} {g : DG} {vs : List Nat} {te : DE} {ls : Lo} {S : Store} {R : W → Store → Prop} {st : Store → Prop}
    (hst : ∀ s acc, Kp S s → s[S.length]? = some (.lst acc) → st s) (l1 : Lo) (g1 : g x (wipeW ls vs) = some l1)
    (h1 : ∀ s, Ve te l1 s fun w s' => w = r1 ∧ Kp s s')
    (q : ∀ s, Kp S s → s[S.length]? = some (.lst [r1]) → R (.loc S.length) s) : Vc ⟨[x], st⟩ g vs dYes te ls S R := by
  refine vc_inv (fun i acc s => Kp S s ∧ acc = [r1].take i ∧ s[S.length]? = some (.lst acc)) (fun i acc s h => hst s acc h.1 h.2.2) ⟨kp_app, rfl, get_mid (cs := [])⟩ ?_ ?_
  · rintro i w acc s ew ⟨k, rfl, hg⟩
    match i, ew with
    | 0, ew =>
      cases ew
      refine ⟨l1, g1, vt_yes (cb_t ?_)⟩
      obtain ⟨w, s', e, rfl, k'⟩ := h1 s
      exact ⟨w, s', e, k'.2 _ _ hg, by simp, (k.trans k').put (Nat.le_refl _), rfl, get_set (k'.2 _ _ hg)⟩
  · rintro acc s ⟨k, rfl, hg⟩
    exact q s k hg
set_option maxHeartbeats 4000000
/-! ### the law's own words for terms -/
theorem addl_v {S : Store} {n m : Nat} {a b : List W} {R : W → Store → Prop} (h1 : S[n]? = some (.lst a)) (h2 : S[m]? = some (.lst b)) (h : a.length + b.length ≤ 100000) (q : R (.loc S.length) (S ++ [.lst (a ++ b)])) : Vo gAdd (.loc n) (.loc m) S R := by
  refine ⟨_, _, ?_, q⟩
  show gAddL (.loc n) (.loc m) S = _
  unfold gAddL
  dsimp only
  rw [h1, h2]
  exact if_pos (Nat.le_trans h (by decide))
/-! a letter is one -/
theorem instr_v {x : Str} {ns : List Str} {S : Store} {R : W → Store → Prop} (q : R (.bl (decide (x ∈ ns))) S) : Vo gIn (.str x) (.tup (ns.map .str)) S R := ⟨_, S, (in_txt (neg := false) rfl).trans (by rw [false_bne]), q⟩
set_option maxHeartbeats 4000000
/-! what a term gives, by the law -/
theorem oW_pl {o : Option L} (h : ∀ l, o = some l → l.wf ∧ l.dp ≤ 55) : Pl (oW o) ∧ OkW 60 (oW o) := by
  cases o with
  | none => exact ⟨.non, .non⟩
  | some l => exact ⟨L.pl, (L.okw (h l rfl).1).mono (by have := (h l rfl).2; omega)⟩
theorem gives_wf {q0 : Q} {l : L} (hl : l.wf) (hld : l.dp ≤ 50) : ∀ {t : T} {m : L}, t.wf → t.gives l = some m → m.wf ∧ m.dp ≤ t.dp + 50
  | .al x, m, h, e => by cases e; exact ⟨h.1, by have := h.2; show _ ≤ 1 + 50; omega⟩
  | .rd p, m, h, e => by
    obtain ⟨a, b⟩ := at_wf p hl e
    exact ⟨a, by show _ ≤ 1 + 50; omega⟩
  | .pl p n, m, h, e => by
    obtain ⟨x, e1, rfl⟩ := Option.map_eq_some_iff.mp e
    exact ⟨trivial, by show 1 ≤ 1 + 50; omega⟩
  | .mi p n, m, h, e => by
    obtain ⟨x, e1, rfl⟩ := Option.map_eq_some_iff.mp e
    exact ⟨trivial, by show 1 ≤ 1 + 50; omega⟩
  | .pr a b, m, h, e => by
    obtain ⟨x, e1, e⟩ := Option.bind_eq_some_iff.mp e
    obtain ⟨y, e2, rfl⟩ := Option.map_eq_some_iff.mp e
    obtain ⟨a1, a2⟩ := gives_wf (q0 := q0) hl hld h.1 e1
    obtain ⟨b1, b2⟩ := gives_wf (q0 := q0) hl hld h.2 e2
    exact ⟨⟨a1, b1⟩, by show max _ _ + 1 ≤ max _ _ + 1 + 50; omega⟩
  | .cs i a, m, h, e => by
    obtain ⟨x, e1, rfl⟩ := Option.map_eq_some_iff.mp e
    obtain ⟨a1, a2⟩ := gives_wf (q0 := q0) hl hld (t := a) h e1
    exact ⟨a1, by show _ + 1 ≤ _ + 1 + 50; omega⟩
  | .so a, m, h, e => by
    obtain ⟨x, e1, rfl⟩ := Option.map_eq_some_iff.mp e
    obtain ⟨a1, a2⟩ := gives_wf (q0 := q0) hl hld (t := a) h e1
    exact ⟨a1, by show _ + 1 ≤ _ + 1 + 50; omega⟩
theorem oW_non {o : Option L} : oW o = .non ↔ o = none := by
  cases o with
  | none => simp [oW]
  | some l => cases l <;> simp [oW, L.w]
theorem non1 {o : Option L} {b : Bool} (h : b = true ↔ W.non ∈ [oW o]) : b = o.isNone := by
  cases b with
  | true =>
    have := h.mp rfl
    simp only [List.mem_cons, List.mem_nil_iff, or_false] at this
    rw [oW_non.mp this.symm]
    rfl
  | false =>
    cases o with
    | none => exact absurd (h.mpr (by simp [oW])) (by simp)
    | some x => rfl
theorem non2 {o o2 : Option L} {b : Bool} (h : b = true ↔ W.non ∈ [oW o, oW o2]) : b = (o.isNone || o2.isNone) := by
  cases b with
  | true =>
    have := h.mp rfl
    simp only [List.mem_cons, List.mem_nil_iff, or_false] at this
    rcases this with e | e
    · rw [oW_non.mp e.symm]
      rfl
    · rw [oW_non.mp e.symm]
      simp
  | false =>
    cases o with
    | none => exact absurd (h.mpr (by simp [oW])) (by simp)
    | some x =>
      cases o2 with
      | none => exact absurd (h.mpr (by simp [oW])) (by simp)
      | some y => rfl
/-- a number at the path is one -/
theorem at_num {q0 : Q} {l x : L} {p : List Sp} (hl : q0.has l = true) (hp : q0.at p = some .zz) (e : l.at p = some x) : ∃ n, x = .nu n := by
  have h := at_has p hl hp e
  cases x <;> first | exact ⟨_, rfl⟩ | cases h
theorem lgives_v {q0 : Q} {l : L} (hl : q0.has l = true) (hw : q0.wf) (hd : q0.dp ≤ 50) : ∀ {n : Nat} {t : T} {q : Q}, t.dp ≤ n → n ≤ 5 → t.suits q0 q = true → t.wf → ∀ {S : Store} {R : W → Store → Prop}, (∀ S', Kp S S' → R (oW (t.gives l)) S') → Vf (f__law_gives n) [t.w, l.w] S R := by
  obtain ⟨lw, ld⟩ := has_wf hw hl
  intro n
  induction n with
  | zero => intro t q h; cases t <;> simp [T.dp] at h
  | succ n ih =>
    intro t q hn h5 ht hwf S R r
    refine o__law_gives ?_; unfold d__law_gives
    cases t with
    | al x =>
      simp only [T.w]
      (repeat (first | fail | with_reducible refine vs_seq (vs_if ?_)))
      exact r S (Kp.refl S)
    | rd p =>
      simp only [T.w]
      (repeat (first | fail | with_reducible refine vs_seq (vs_if ?_)))
      refine law_at_v fun S' k => ?_
      have hr : R (oW (l.at p)) S' := r S' (kp_app.trans k)
      (repeat fail)
      cases ea : l.at p with
      | none =>
        rw [ea] at hr
        simp only [oW]
        (repeat fail)
        exact hr
      | some x =>
        rw [ea] at hr
        simp only [oW]
        refine isN_w ?_
        (repeat fail)
        exact hr
    | pl p m =>
      have ht' : (decide (q0.at p = some .zz) && decide (q = .zz)) = true := ht
      rw [Bool.and_eq_true] at ht'
      simp only [T.w]
      (repeat (first | fail | with_reducible refine vs_seq (vs_if ?_)))
      refine law_at_v fun S' k => ?_
      have hr : R (oW ((l.at p).map fun x => L.nu (x.num + m))) S' := r S' (kp_app.trans k)
      (repeat fail)
      cases ea : l.at p with
      | none =>
        rw [ea] at hr
        simp only [oW]
        (repeat fail)
        exact hr
      | some x =>
        obtain ⟨u, rfl⟩ := at_num hl (of_decide_eq_true ht'.1) ea
        rw [ea] at hr
        simp only [oW, L.w]
        (repeat fail)
        exact hr
    | mi p m =>
      have ht' : (decide (q0.at p = some .zz) && decide (q = .zz)) = true := ht
      rw [Bool.and_eq_true] at ht'
      simp only [T.w]
      (repeat (first | fail | with_reducible refine vs_seq (vs_if ?_)))
      refine law_at_v fun S' k => ?_
      have hr : R (oW ((l.at p).map fun x => L.nu (m - x.num))) S' := r S' (kp_app.trans k)
      (repeat fail)
      cases ea : l.at p with
      | none =>
        rw [ea] at hr
        simp only [oW]
        (repeat fail)
        exact hr
      | some x =>
        obtain ⟨u, rfl⟩ := at_num hl (of_decide_eq_true ht'.1) ea
        rw [ea] at hr
        simp only [oW, L.w]
        (repeat fail)
        exact hr
    | pr a b =>
      cases q <;> simp only [T.suits, Bool.false_eq_true, Bool.and_eq_true] at ht
      have hn' : max a.dp b.dp + 1 ≤ n + 1 := hn
      simp only [T.w]
      (repeat (first | fail | with_reducible refine vs_seq (vs_if ?_)))
      refine sl_n (k := 1) ?_
      refine ⟨[a.w, b.w], rfl, ?_⟩
      refine vc_two (r1 := oW (a.gives l)) (r2 := oW (b.gives l)) (fun _ _ _ _ => trivial) _ _ rfl rfl (fun s' => ?_) (fun s' => ?_) fun s' k hg => ?_
      · show Ve _ [some (T.w (.pr a b)), some l.w, some (strW "pair"), some (.int (1 + 0)), none, some a.w, none] s' _
        (repeat fail)
        exact ih (by omega) (by omega) ht.1 hwf.1 fun S' k => ⟨rfl, k⟩
      · show Ve _ [some (T.w (.pr a b)), some l.w, some (strW "pair"), some (.int (1 + 0)), none, some b.w, none] s' _
        (repeat fail)
        exact ih (by omega) (by omega) ht.2 hwf.2 fun S' k => ⟨rfl, k⟩
      (repeat fail)
      have wfA : ∀ t, a.gives l = some t → t.wf ∧ t.dp ≤ 55 := fun t e => by
        obtain ⟨u1, u2⟩ := gives_wf (q0 := q0) lw (by omega) hwf.1 e
        exact ⟨u1, by omega⟩
      have wfB : ∀ t, b.gives l = some t → t.wf ∧ t.dp ≤ 55 := fun t e => by
        obtain ⟨u1, u2⟩ := gives_wf (q0 := q0) lw (by omega) hwf.2 e
        exact ⟨u1, by omega⟩
      obtain ⟨bb, eb, _, hb⟩ := in_pl (x := .non) (n := 60) hg .non .non (by decide) (fun w hw => by
        simp only [List.mem_cons, List.mem_nil_iff, or_false] at hw
        rcases hw with rfl | rfl
        · exact oW_pl wfA
        · exact oW_pl wfB)
      rw [non2 hb] at eb
      refine vo_of eb ?_
      have hr : R (oW ((a.gives l).bind fun x => (b.gives l).map fun y => .pr x y)) s' := r s' (kp_app.trans k)
      cases ea : a.gives l with
      | none =>
        rw [ea] at hr
        simp only [Option.isNone_none, Option.isNone_some, Bool.true_or, Bool.or_true, Bool.or_false]
        (repeat fail)
        exact hr
      | some x =>
        cases eb2 : b.gives l with
        | none =>
          rw [ea, eb2] at hr
          simp only [Option.isNone_none, Option.isNone_some, Bool.true_or, Bool.or_true, Bool.or_false]
          (repeat fail)
          exact hr
        | some y =>
          rw [ea, eb2] at hr hg
          simp only [Option.isNone_none, Option.isNone_some, Bool.true_or, Bool.or_true, Bool.or_false]
          (repeat fail)
          refine ⟨.tup [strW "pair"], _, rfl, ?_⟩
          (repeat fail)
          refine vf_tuple hg ?_
          refine cat_v (by simp) ?_
          exact hr
    | cs i a =>
      have hn' : a.dp + 1 ≤ n + 1 := hn
      have go : ∃ q', a.suits q0 q' = true := by
        unfold T.suits at ht
        split at ht <;> first | contradiction | skip
        all_goals (rename_i he; cases he; exact ⟨_, ht⟩)
      obtain ⟨q', h1⟩ := go
      simp only [T.w]
      (repeat (first | fail | with_reducible refine vs_seq (vs_if ?_)))
      refine sl_n (k := 2) ?_
      refine ⟨[a.w], rfl, ?_⟩
      refine vc_one (r1 := oW (a.gives l)) (fun _ _ _ _ => trivial) _ rfl (fun s' => ?_) fun s' k hg => ?_
      · show Ve _ [some (T.w (.cs i a)), some l.w, some (strW "case"), some (.int (1 + 1)), none, some a.w, none] s' _
        (repeat fail)
        exact ih (by omega) (by omega) h1 hwf fun S' k => ⟨rfl, k⟩
      (repeat fail)
      have wfA : ∀ t, a.gives l = some t → t.wf ∧ t.dp ≤ 55 := fun t e => by
        obtain ⟨u1, u2⟩ := gives_wf (q0 := q0) lw (by omega) (t := a) hwf e
        exact ⟨u1, by omega⟩
      obtain ⟨bb, eb, _, hb⟩ := in_pl (x := .non) (n := 60) hg .non .non (by decide) (fun w hw => by
        rw [List.mem_singleton.mp hw]
        exact oW_pl wfA)
      rw [non1 hb] at eb
      refine vo_of eb ?_
      have hr : R (oW ((a.gives l).map (.cs i))) s' := r s' (kp_app.trans k)
      cases ea : a.gives l with
      | none =>
        rw [ea] at hr
        simp only [Option.isNone_none, Option.isNone_some, Bool.true_or, Bool.or_true, Bool.or_false]
        (repeat fail)
        exact hr
      | some x =>
        rw [ea] at hr hg
        simp only [Option.isNone_none, Option.isNone_some, Bool.true_or, Bool.or_true, Bool.or_false]
        (repeat fail)
        refine ⟨.tup [strW "case", .int (i : Int)], _, rfl, ?_⟩
        (repeat fail)
        refine vf_tuple hg ?_
        refine cat_v (by simp) ?_
        exact hr
    | so a =>
      have hn' : a.dp + 1 ≤ n + 1 := hn
      cases q <;> simp only [T.suits, Bool.false_eq_true] at ht
      simp only [T.w]
      (repeat (first | fail | with_reducible refine vs_seq (vs_if ?_)))
      refine sl_n (k := 1) ?_
      refine ⟨[a.w], rfl, ?_⟩
      refine vc_one (r1 := oW (a.gives l)) (fun _ _ _ _ => trivial) _ rfl (fun s' => ?_) fun s' k hg => ?_
      · show Ve _ [some (T.w (.so a)), some l.w, some (strW "some"), some (.int (1 + 0)), none, some a.w, none] s' _
        (repeat fail)
        exact ih (by omega) (by omega) ht hwf fun S' k => ⟨rfl, k⟩
      (repeat fail)
      have wfA : ∀ t, a.gives l = some t → t.wf ∧ t.dp ≤ 55 := fun t e => by
        obtain ⟨u1, u2⟩ := gives_wf (q0 := q0) lw (by omega) (t := a) hwf e
        exact ⟨u1, by omega⟩
      obtain ⟨bb, eb, _, hb⟩ := in_pl (x := .non) (n := 60) hg .non .non (by decide) (fun w hw => by
        rw [List.mem_singleton.mp hw]
        exact oW_pl wfA)
      rw [non1 hb] at eb
      refine vo_of eb ?_
      have hr : R (oW ((a.gives l).map .so)) s' := r s' (kp_app.trans k)
      cases ea : a.gives l with
      | none =>
        rw [ea] at hr
        simp only [Option.isNone_none, Option.isNone_some, Bool.true_or, Bool.or_true, Bool.or_false]
        (repeat fail)
        exact hr
      | some x =>
        rw [ea] at hr hg
        simp only [Option.isNone_none, Option.isNone_some, Bool.true_or, Bool.or_true, Bool.or_false]
        (repeat fail)
        refine ⟨.tup [strW "some"], _, rfl, ?_⟩
        (repeat fail)
        refine vf_tuple hg ?_
        refine cat_v (by simp) ?_
        exact hr
set_option maxHeartbeats 4000000
/-! a value is the same as itself -/
theorem same_s {n : Nat} {x : Str} {S : Store} {R : W → Store → Prop} (r : R (.bl true) S) : Vf (f__law_same (n + 1)) [.str x, .str x] S R := by
  refine o__law_same ?_; unfold d__law_same
  (repeat (first | fail | with_reducible refine vs_seq (vs_if ?_)))
  rw [decide_eq_true rfl]
  exact r
theorem same_i {n : Nat} {x : Int} {S : Store} {R : W → Store → Prop} (r : R (.bl true) S) : Vf (f__law_same (n + 1)) [.int x, .int x] S R := by
  refine o__law_same ?_; unfold d__law_same
  (repeat (first | fail | with_reducible refine vs_seq (vs_if ?_)))
  refine whole_i ?_
  (repeat fail)
  rw [decide_eq_true rfl]
  exact r
theorem same_t {n : Nat} {ws : List W} (hl : ws.length ≤ 1000) (h : ∀ w ∈ ws, ∀ (S : Store) (R : W → Store → Prop), (∀ S', Kp S S' → R (.bl true) S') → Vf (f__law_same n) [w, w] S R) {S : Store} {R : W → Store → Prop} (r : ∀ S', Kp S S' → R (.bl true) S') : Vf (f__law_same (n + 1)) [.tup ws, .tup ws] S R := by
  refine o__law_same ?_; unfold d__law_same
  (repeat (first | fail | with_reducible refine vs_seq (vs_if ?_)))
  refine cb_ndt rfl ?_
  (repeat (first | fail | with_reducible refine vs_seq (vs_if ?_)))
  refine ⟨ws.length, rfl, by omega, ?_⟩
  refine vl_inv (fun i ls s => ∃ a, ls = [some (.tup ws), some (.tup ws), a] ∧ Kp S s) (fun _ _ _ _ => trivial) ⟨none, rfl, Kp.refl S⟩ ?_ ?_
  · rintro i w ls s ew ⟨a, rfl, k⟩
    have hi : i < ws.length := by
      have := (List.getElem?_eq_some_iff.mp ew).1
      simpa using this
    have ew' : w = .int (i : Int) := by
      have e2 : ((List.range ws.length).map fun (i : Nat) => W.int (0 + (i : Int)))[i]? = some (.int (0 + (i : Int))) := by
        rw [List.getElem?_map, List.getElem?_range hi]
        rfl
      rw [e2, Int.zero_add] at ew
      exact (Option.some.inj ew).symm
    subst ew'
    obtain ⟨x, ex⟩ : ∃ x, ws[i]? = some x := ⟨_, List.getElem?_eq_getElem hi⟩
    have ea : L2.atI ws (i : Int) = some x := atI_of (by omega) (by rw [Int.toNat_natCast]; exact ex)
    refine ⟨_, dg_n2, ?_⟩
    (repeat fail)
    refine vo_ix ea ?_
    (repeat fail)
    refine vo_ix ea ?_
    (repeat fail)
    refine h x (List.mem_of_getElem? ex) _ _ fun S' k' => ?_
    (repeat fail)
    exact ⟨_, rfl, k.trans k'⟩
  · rintro ls s ⟨a, rfl, k⟩
    (repeat fail)
    exact r s k
theorem Q.dp1 {q : Q} : 1 ≤ q.dp := by cases q <;> simp [Q.dp]
theorem same_l : ∀ {n : Nat} {k : Q} {l : L}, k.dp ≤ n → k.has l = true → ∀ {S : Store} {R : W → Store → Prop}, (∀ S', Kp S S' → R (.bl true) S') → Vf (f__law_same n) [l.w, l.w] S R := by
  intro n
  induction n with
  | zero => intro k l h; cases k <;> simp [Q.dp] at h
  | succ n ih =>
    intro k l hn hl S R r
    have cs : ∀ {i : Nat} {x : L} {a : Q}, a.dp ≤ n → a.has x = true → Vf (f__law_same (n + 1)) [L.w (.cs i x), L.w (.cs i x)] S R := fun {i x a} hd hx => by
      obtain ⟨m, rfl⟩ : ∃ m, n = m + 1 := ⟨n - 1, by have := Q.dp1 (q := a); omega⟩
      refine same_t (by simp) (fun w hw S R r => ?_) r
      simp only [List.mem_cons, List.mem_nil_iff, or_false] at hw
      rcases hw with rfl | rfl | rfl
      · exact same_s (r S (Kp.refl S))
      · exact same_i (r S (Kp.refl S))
      · exact ih hd hx r
    cases k with
    | names ns =>
      cases l <;> simp only [Q.has, Bool.false_eq_true] at hl
      exact same_s (r S (Kp.refl S))
    | zz =>
      cases l <;> simp only [Q.has, Bool.false_eq_true] at hl
      exact same_i (r S (Kp.refl S))
    | pr a b =>
      have hn' : max a.dp b.dp + 1 ≤ n + 1 := hn
      cases l <;> simp only [Q.has, Bool.false_eq_true, Bool.and_eq_true] at hl
      obtain ⟨m, rfl⟩ : ∃ m, n = m + 1 := ⟨n - 1, by have := Q.dp1 (q := a); omega⟩
      refine same_t (by simp) (fun w hw S R r => ?_) r
      simp only [List.mem_cons, List.mem_nil_iff, or_false] at hw
      rcases hw with rfl | rfl | rfl
      · exact same_s (r S (Kp.refl S))
      · exact ih (by omega) hl.1 r
      · exact ih (by omega) hl.2 r
    | mb a =>
      have hn' : a.dp + 1 ≤ n + 1 := hn
      obtain ⟨m, rfl⟩ : ∃ m, n = m + 1 := ⟨n - 1, by have := Q.dp1 (q := a); omega⟩
      cases l <;> simp only [Q.has, Bool.false_eq_true] at hl
      · refine same_t (by simp) (fun w hw S R r => ?_) r
        rw [List.mem_singleton.mp hw]
        exact same_s (r S (Kp.refl S))
      · refine same_t (by simp) (fun w hw S R r => ?_) r
        simp only [List.mem_cons, List.mem_nil_iff, or_false] at hw
        rcases hw with rfl | rfl
        · exact same_s (r S (Kp.refl S))
        · exact ih (by omega) hl r
    | e1 a =>
      have hn' : a.dp + 1 ≤ n + 1 := hn
      unfold Q.has at hl
      split at hl <;> first | contradiction | skip
      rename_i he
      cases he
      exact cs (by omega) hl
    | e2 a b =>
      have hn' : max a.dp b.dp + 1 ≤ n + 1 := hn
      unfold Q.has at hl
      split at hl <;> first | contradiction | skip
      all_goals
        rename_i he
        cases he
        exact cs (by omega) hl
    | e3 a b c =>
      have hn' : max a.dp (max b.dp c.dp) + 1 ≤ n + 1 := hn
      unfold Q.has at hl
      split at hl <;> first | contradiction | skip
      all_goals
        rename_i he
        cases he
        exact cs (by omega) hl
set_option maxHeartbeats 4000000
theorem gives_has {q0 : Q} {l : L} (hl : q0.has l = true) : ∀ {t : T} {q : Q} {m : L}, t.suits q0 q = true → t.gives l = some m → q.has m = true
  | .al x, q, m, h, e => by cases e; exact h
  | .rd p, q, m, h, e => at_has p hl (of_decide_eq_true h) e
  | .pl x n, q, m, h, e => by
    have h' : (decide (q0.at x = some .zz) && decide (q = .zz)) = true := h
    rw [Bool.and_eq_true] at h'
    rw [of_decide_eq_true h'.2]
    obtain ⟨y, _, rfl⟩ := Option.map_eq_some_iff.mp e
    rfl
  | .mi x n, q, m, h, e => by
    have h' : (decide (q0.at x = some .zz) && decide (q = .zz)) = true := h
    rw [Bool.and_eq_true] at h'
    rw [of_decide_eq_true h'.2]
    obtain ⟨y, _, rfl⟩ := Option.map_eq_some_iff.mp e
    rfl
  | .pr a b, q, m, h, e => by
    cases q <;> simp only [T.suits, Bool.false_eq_true, Bool.and_eq_true] at h
    obtain ⟨x, e1, e⟩ := Option.bind_eq_some_iff.mp e
    obtain ⟨y, e2, rfl⟩ := Option.map_eq_some_iff.mp e
    show (_ && _) = true
    rw [gives_has hl h.1 e1, gives_has hl h.2 e2]
    rfl
  | .cs i a, q, m, h, e => by
    obtain ⟨x, e1, rfl⟩ := Option.map_eq_some_iff.mp e
    unfold T.suits at h
    split at h <;> first | contradiction | skip
    all_goals
      rename_i he
      cases he
      have z := gives_has hl (t := a) h e1
      exact z
  | .so a, q, m, h, e => by
    obtain ⟨x, e1, rfl⟩ := Option.map_eq_some_iff.mp e
    cases q <;> simp only [T.suits, Bool.false_eq_true] at h
    have z := gives_has hl (t := a) h e1
    exact z
set_option maxHeartbeats 4000000
/-! ### what is drawn -/
/-- a comprehension whose test and value write nothing -/
theorem vc_pure {ws : List W} {st : Store → Prop} {g : DG} {vs : List Nat} {tt : DT} {te : DE} {ls : Lo} {S : Store} {R : W → Store → Prop} (lsf : W → Lo) (p : W → Bool) (f : W → W) (hst : ∀ s, Kp S s → st s) (hl : ws.length < 100000)
    (hg : ∀ w ∈ ws, g w (wipeW ls vs) = some (lsf w)) (ht : ∀ w ∈ ws, ∀ s (Z : Bool → Store → Prop), Kp S s → Z (p w) s → Vt tt (lsf w) s Z) (he : ∀ w ∈ ws, p w = true → ∀ s (Z : W → Store → Prop), Kp S s → Z (f w) s → Ve te (lsf w) s Z)
    (q : R (.loc S.length) (S ++ [.lst ((ws.filter p).map f)])) : Vc ⟨ws, st⟩ g vs tt te ls S R := by
  refine vc_inv (fun i acc s => acc = ((ws.take i).filter p).map f ∧ s = S ++ [.lst acc] ∧ i ≤ ws.length) (fun i acc s h => hst s (by rw [h.2.1]; exact kp_app)) ⟨by simp, rfl, Nat.zero_le _⟩ ?_ ?_
  · rintro i w acc s ew ⟨rfl, rfl, hi⟩
    have ew : ws[i]? = some w := ew
    obtain ⟨hi', ew2⟩ := List.getElem?_eq_some_iff.mp ew
    have hm := List.mem_of_getElem? ew
    refine ⟨lsf w, hg w hm, ht w hm _ _ kp_app ?_⟩
    have tk : ws.take (i + 1) = ws.take i ++ [w] := by rw [List.take_succ_eq_append_getElem hi', ew2]
    refine ⟨fun hp => he w hm hp _ _ kp_app ?_, fun hp => ?_⟩
    · refine ⟨get_mid (cs := []), ?_, ?_, ?_, by omega⟩
      · rw [List.length_map]
        have := List.length_filter_le p (ws.take i)
        rw [List.length_take] at this
        omega
      · rw [tk, List.filter_append, List.map_append]
        simp [hp]
      · rw [set_mid]
    · refine ⟨?_, rfl, by omega⟩
      rw [tk, List.filter_append, List.map_append]
      simp [hp]
  · rintro acc s ⟨rfl, rfl, _⟩
    rw [List.take_length]
    exact q
theorem filter_all {ws : List W} : ws.filter (fun _ => true) = ws := List.filter_eq_self.mpr fun _ _ => rfl
theorem vc_map {ws : List W} {st : Store → Prop} {g : DG} {vs : List Nat} {te : DE} {ls : Lo} {S : Store} {R : W → Store → Prop} (lsf : W → Lo) (f : W → W) (hst : ∀ s, Kp S s → st s) (hl : ws.length < 100000)
    (hg : ∀ w ∈ ws, g w (wipeW ls vs) = some (lsf w)) (he : ∀ w ∈ ws, ∀ s (Z : W → Store → Prop), Kp S s → Z (f w) s → Ve te (lsf w) s Z)
    (q : R (.loc S.length) (S ++ [.lst (ws.map f)])) : Vc ⟨ws, st⟩ g vs dYes te ls S R :=
  vc_pure lsf (fun _ => true) f hst hl hg (fun w hw s Z k h => vt_yes h) (fun w hw _ s Z k h => he w hw s Z k h) (by rw [filter_all]; exact q)
theorem pick_v {t s p : Nat} {ws : List W} {S : Store} (hT : Tp S t s) (hp : S[p]? = some (.lst ws)) (hpt : p ≠ t) (hne : ws ≠ []) (hl : ws.length ≤ 1000000) {R : W → Store → Prop} (r : ∀ w ∈ ws, ∀ S', Tp S' t s → Fr t S S' → R w S') : Vf f__law_pick [.loc t, .loc p] S R := by
  have h1 : 1 ≤ (ws.length : Int) := by
    have := List.length_pos_iff.mpr hne
    omega
  refine o__law_pick ?_; unfold d__law_pick
  (repeat fail)
  refine vf_of (len_loc hp) ?_
  (repeat fail)
  obtain ⟨k, S1, e1, T1, F1, l1, u1⟩ := draw_n (ws.length : Int) hT
  refine vf_of e1 ?_
  have hg := F1.get hpt hp
  have hk : k.toNat < ws.length := by omega
  have ha : L2.atI ws k = some ws[k.toNat] := atI_of l1 (List.getElem?_eq_getElem hk)
  refine vo_ixl hg ha ?_
  exact r _ (List.getElem_mem hk) _ T1 F1
/-- letters of the kind, with a bound -/
def Lts (q : Q) (ws : List W) : Prop := ws ≠ [] ∧ ∀ w ∈ ws, ∃ l : L, w = l.w ∧ q.has l = true
def p4 (c : Nat) : Nat := 4 ^ c
theorem pow4 (a b : Nat) : p4 a * p4 b = p4 (a + b) := (Nat.pow_add 4 a b).symm
theorem pow4_le {a b : Nat} (h : a ≤ b) : p4 a ≤ p4 b := Nat.pow_le_pow_right (by decide) h
theorem pow4_1 (a : Nat) : 1 ≤ p4 a := Nat.one_le_pow _ _ (by decide)
theorem p4_s (a : Nat) : p4 (a + 1) = p4 a * 4 := Nat.pow_succ ..
theorem p4_6 : p4 6 ≤ 4096 := by decide
theorem p4_one : p4 1 = 4 := rfl
def OverN (pn : Nat) (ns : List Int) (n : Nat) : Prop := ∀ (q : Q), q.wf → q.dp ≤ n → q.cnt ≤ 6 → ∀ (S : Store) (R : W → Store → Prop), S[pn]? = some (.lst (ns.map .int)) →
    (∀ p ws S', Kp S S' → S.length ≤ p → S'[p]? = some (.lst ws) → Lts q ws → ws.length ≤ p4 q.cnt → R (.loc p) S') → Vf (f__law_over n) [q.w, .loc pn] S R
theorem over_either {pn n : Nat} {ns : List Int} (ih : OverN pn ns n) {q : Q} {ks : List Q} (hc : q.cnt ≤ 6) (hne : ks ≠ []) (e : q.w = .tup [strW "either", .tup (ks.map Q.w)]) (h3 : ks.length ≤ 3) (hk : ∀ k ∈ ks, k.wf ∧ k.dp ≤ n ∧ k.cnt + 1 ≤ q.cnt) (hh : ∀ (i : Nat) k x, ks[i]? = some k → k.has x = true → q.has (.cs i x) = true) (hsum : (ks.map fun k => p4 k.cnt).sum ≤ p4 q.cnt)
    {S : Store} {R : W → Store → Prop} (hp : S[pn]? = some (.lst (ns.map .int))) (r : ∀ p ws S', Kp S S' → S.length ≤ p → S'[p]? = some (.lst ws) → Lts q ws → ws.length ≤ p4 q.cnt → R (.loc p) S') :
    Vf (f__law_over (n + 1)) [q.w, .loc pn] S R := by
  have big : p4 q.cnt ≤ 4096 := Nat.le_trans (pow4_le hc) p4_6
  rw [e]
  refine o__law_over ?_
  unfold d__law_over
  (repeat (first | fail | with_reducible refine vs_seq (vs_if ?_)))
  refine ⟨ks.length, by rw [List.length_map], by omega, ?_⟩
  refine vl_inv (fun i ls u => ∃ (acc : List W) (a b : Option W), ls = [some (.tup [strW "either", .tup (ks.map Q.w)]), some (.loc pn), some (.loc S.length), none, none, none, a, b] ∧ Kp S u ∧ u[S.length]? = some (.lst acc) ∧ (∀ w ∈ acc, ∃ l : L, w = l.w ∧ q.has l = true) ∧ (0 < i → acc ≠ []) ∧ acc.length ≤ ((ks.take i).map fun k => p4 k.cnt).sum) (fun _ _ _ _ => trivial) ⟨[], _, _, rfl, kp_app, get_mid (cs := []), (fun _ h => nomatch h), (fun h => absurd h (by omega)), by simp⟩ ?_ ?_
  · rintro i w ls u ew ⟨acc, a, b, rfl, ku, hu, hacc, hnn, hlen⟩
    have hi : i < ks.length := by
      have := (List.getElem?_eq_some_iff.mp ew).1
      simpa using this
    have ew' : w = .int (i : Int) := by
      have e2 : ((List.range ks.length).map fun (i : Nat) => W.int (0 + (i : Int)))[i]? = some (.int (0 + (i : Int))) := by
        rw [List.getElem?_map, List.getElem?_range hi]
        rfl
      rw [e2, Int.zero_add] at ew
      exact (Option.some.inj ew).symm
    subst ew'
    obtain ⟨k, ek⟩ : ∃ k, ks[i]? = some k := ⟨_, List.getElem?_eq_getElem hi⟩
    obtain ⟨k1, k2, k3⟩ := hk k (List.mem_of_getElem? ek)
    have ea : L2.atI (ks.map Q.w) (i : Int) = some k.w := atI_of (by omega) (by rw [Int.toNat_natCast, List.getElem?_map, ek]; rfl)
    refine ⟨_, dg_n6, ?_⟩
    refine vs_ext ?_
    (repeat fail)
    refine ⟨_, _, rfl, hu, ?_⟩
    (repeat fail)
    refine vo_ix ea ?_
    (repeat fail)
    refine ih k k1 k2 (by omega) _ _ (ku.2 _ _ hp) fun p ws u1 ku1 hge hg hL hlen1 => ?_
    refine ⟨ws, lst_loc hg, ?_⟩
    have hb := pow4_le (show k.cnt ≤ q.cnt by omega)
    refine vc_map (fun w => [some (.tup [strW "either", .tup (ks.map Q.w)]), some (.loc pn), some (.loc S.length), none, none, none, some (.int (i : Int)), some w]) (fun w => .tup [strW "case", .int (i : Int), w]) (fun s h => h.2 _ _ hg) (by omega) (fun w _ => rfl) (fun w _ s Z _ h => by (repeat fail); exact h) ?_
    have hu1 := ku1.2 _ _ hu
    have tk : ks.take (i + 1) = ks.take i ++ [k] := by
      obtain ⟨hi', ek'⟩ := List.getElem?_eq_some_iff.mp ek
      rw [List.take_succ_eq_append_getElem hi', ek']
    have sm : ((ks.take (i + 1)).map fun k => p4 k.cnt).sum = ((ks.take i).map fun k => p4 k.cnt).sum + p4 k.cnt := by
      rw [tk, List.map_append, List.sum_append]
      simp
    have sle : ((ks.take (i + 1)).map fun k => p4 k.cnt).sum ≤ 4096 := by
      have : ((ks.take (i + 1)).map fun k => p4 k.cnt).sum ≤ (ks.map fun k => p4 k.cnt).sum := by
        conv => rhs; rw [← List.take_append_drop (i + 1) ks]
        rw [List.map_append, List.sum_append]
        omega
      omega
    refine ⟨u1.length, acc, ws.map _, rfl, kp_app.2 _ _ hu1, get_mid (cs := []), by rw [List.length_map]; omega, acc ++ ws.map (fun w => .tup [strW "case", .int (i : Int), w]), _, _, rfl, ((ku.trans ku1).trans kp_app).put (Nat.le_refl _), get_set (kp_app.2 _ _ hu1), ?_, ?_, ?_⟩
    · intro w hw
      rcases List.mem_append.mp hw with h | h
      · exact hacc w h
      · obtain ⟨v, hv, rfl⟩ := List.mem_map.mp h
        obtain ⟨l, rfl, hl⟩ := hL.2 v hv
        exact ⟨.cs i l, rfl, hh i k l ek hl⟩
    · intro _ h
      have := (List.append_eq_nil_iff.mp h).2
      exact hL.1 (List.map_eq_nil_iff.mp this)
    · rw [List.length_append, List.length_map, sm]
      omega
  · rintro ls u ⟨acc, a, b, rfl, ku, hu, hacc, hnn, hlen⟩
    (repeat fail)
    have hpos := List.length_pos_iff.mpr hne
    refine r _ acc u ku (Nat.le_refl _) hu ⟨hnn (by simpa using hpos), hacc⟩ ?_
    have : ks.take (Src.items ⟨(List.range ks.length).map fun (i : Nat) => W.int (0 + (i : Int)), fun _ => True⟩).length = ks := by
      rw [show (Src.items ⟨(List.range ks.length).map fun (i : Nat) => W.int (0 + (i : Int)), fun _ => True⟩).length = ks.length by simp]
      exact List.take_length
    rw [this] at hlen
    omega
theorem over_v {pn : Nat} {ns : List Int} (hn0 : ns ≠ []) (hn4 : ns.length ≤ 4) : ∀ {n : Nat}, OverN pn ns n := by
  intro n
  induction n with
  | zero => intro q _ h; cases q <;> simp [Q.dp] at h
  | succ n ih =>
    intro q hw hd hc S R hp r
    have big : p4 q.cnt ≤ 4096 := Nat.le_trans (pow4_le hc) p4_6
    cases q with
    | names xs =>
      refine o__law_over ?_
      unfold d__law_over
      simp only [Q.w]
      (repeat (first | fail | with_reducible refine vs_seq (vs_if ?_)))
      refine ⟨_, _, rfl, ?_⟩
      refine r _ (xs.map .str) _ kp_app (Nat.le_refl _) (get_mid (cs := [])) ⟨fun h => hw.1 (List.map_eq_nil_iff.mp h), fun w hw' => ?_⟩ ?_
      · obtain ⟨x, hx, rfl⟩ := List.mem_map.mp hw'
        exact ⟨.nm x, rfl, decide_eq_true hx⟩
      · rw [List.length_map]
        have := hw.2.1
        show _ ≤ p4 1
        rw [p4_one]
        omega
    | zz =>
      refine o__law_over ?_
      unfold d__law_over
      simp only [Q.w]
      (repeat (first | fail | with_reducible refine vs_seq (vs_if ?_)))
      refine vf_of (S' := S ++ [Cell.lst (ns.map .int)]) (w := .loc S.length) ?_ ?_
      · show (match seqW S (.loc pn) with | some us => Res.ok (W.loc S.length) (S ++ [Cell.lst us]) | none => .bad) = _
        rw [show seqW S (.loc pn) = some (ns.map .int) from lst_loc hp]
      refine r _ (ns.map .int) _ kp_app (Nat.le_refl _) (get_mid (cs := [])) ⟨fun h => hn0 (List.map_eq_nil_iff.mp h), fun w hw' => ?_⟩ ?_
      · obtain ⟨x, hx, rfl⟩ := List.mem_map.mp hw'
        exact ⟨.nu x, rfl, rfl⟩
      · rw [List.length_map]
        show _ ≤ p4 1
        rw [p4_one]
        omega
    | mb a =>
      have hd' : a.dp + 1 ≤ n + 1 := hd
      have hc' : a.cnt + 1 ≤ 6 := hc
      have big' : p4 (a.cnt + 1) ≤ 4096 := big
      rw [p4_s] at big'
      refine o__law_over ?_
      unfold d__law_over
      simp only [Q.w]
      (repeat (first | fail | with_reducible refine vs_seq (vs_if ?_)))
      refine ih a hw (by omega) (by omega) (S ++ [Cell.lst []] ++ [Cell.lst [.tup [strW "none"]]]) _ ((kp_app.trans kp_app).2 _ _ hp) fun p ws u ku hge hg hL hlen => ?_
      refine ⟨ws, lst_loc hg, ?_⟩
      refine vc_map (fun w => [some (.tup [strW "maybe", a.w]), some (.loc pn), some (.loc S.length), none, none, none, none, some w]) (fun w => .tup [strW "some", w]) (fun s h => h.2 _ _ hg) (by omega) (fun w _ => rfl) (fun w _ s Z _ h => by (repeat fail); exact h) ?_
      have g0 : (u ++ [Cell.lst (ws.map fun w => .tup [strW "some", w])])[(S ++ [Cell.lst []]).length]? = some (.lst [.tup [strW "none"]]) := kp_app.2 _ _ (ku.2 _ _ (get_mid (cs := [])))
      refine addl_v g0 (get_mid (cs := [])) (by rw [List.length_map]; simp only [List.length_cons, List.length_nil]; omega) ?_
      refine r _ _ _ (((kp_app.trans kp_app).trans ku).trans (kp_app.trans kp_app)) ?_ (get_mid (cs := [])) ⟨by simp, fun w hw' => ?_⟩ ?_
      · have := (((kp_app (S := S) (cs := [Cell.lst []])).trans (kp_app (cs := [Cell.lst [.tup [strW "none"]]]))).trans ku).1
        rw [List.length_append]
        omega
      · rcases List.mem_append.mp hw' with h | h
        · rw [List.mem_singleton.mp h]
          exact ⟨.no, rfl, rfl⟩
        · obtain ⟨v, hv, rfl⟩ := List.mem_map.mp h
          obtain ⟨l, rfl, hl⟩ := hL.2 v hv
          exact ⟨.so l, rfl, hl⟩
      · rw [List.length_append, List.length_map, List.length_singleton]
        show 1 + _ ≤ p4 (a.cnt + 1)
        rw [p4_s]
        have := pow4_1 a.cnt
        omega
    | e1 a =>
      have hd' : a.dp + 1 ≤ n + 1 := hd
      refine over_either ih hc (ks := [a]) (by simp) (by simp only [Q.w, List.map]) (by simp) (fun k hk => ?_) (fun i k x e h => ?_) ?_ hp r
      · rw [List.mem_singleton.mp hk]
        exact ⟨hw, by omega, Nat.le_refl _⟩
      · match i, e with
        | 0, e => cases e; exact h
      · show p4 a.cnt + 0 ≤ p4 (a.cnt + 1)
        have := pow4_le (show a.cnt ≤ a.cnt + 1 by omega)
        omega
    | e2 a b =>
      have hd' : max a.dp b.dp + 1 ≤ n + 1 := hd
      refine over_either ih hc (ks := [a, b]) (by simp) (by simp only [Q.w, List.map]) (by simp) (fun k hk => ?_) (fun i k x e h => ?_) ?_ hp r
      · simp only [List.mem_cons, List.mem_nil_iff, or_false] at hk
        rcases hk with rfl | rfl
        · exact ⟨hw.1, by omega, by show _ ≤ _ + _ + 1; omega⟩
        · exact ⟨hw.2, by omega, by show _ ≤ _ + _ + 1; omega⟩
      · match i, e with
        | 0, e => cases e; exact h
        | 1, e => cases e; exact h
      · show p4 a.cnt + (p4 b.cnt + 0) ≤ p4 (a.cnt + b.cnt + 1)
        have h1 := pow4_le (show a.cnt ≤ a.cnt + b.cnt by omega)
        have h2 := pow4_le (show b.cnt ≤ a.cnt + b.cnt by omega)
        rw [p4_s]
        omega
    | e3 a b c =>
      have hd' : max a.dp (max b.dp c.dp) + 1 ≤ n + 1 := hd
      refine over_either ih hc (ks := [a, b, c]) (by simp) (by simp only [Q.w, List.map]) (by simp) (fun k hk => ?_) (fun i k x e h => ?_) ?_ hp r
      · simp only [List.mem_cons, List.mem_nil_iff, or_false] at hk
        rcases hk with rfl | rfl | rfl
        · exact ⟨hw.1, by omega, by show _ ≤ _ + _ + _ + 1; omega⟩
        · exact ⟨hw.2.1, by omega, by show _ ≤ _ + _ + _ + 1; omega⟩
        · exact ⟨hw.2.2, by omega, by show _ ≤ _ + _ + _ + 1; omega⟩
      · match i, e with
        | 0, e => cases e; exact h
        | 1, e => cases e; exact h
        | 2, e => cases e; exact h
      · show p4 a.cnt + (p4 b.cnt + (p4 c.cnt + 0)) ≤ p4 (a.cnt + b.cnt + c.cnt + 1)
        have h1 := pow4_le (show a.cnt ≤ a.cnt + b.cnt + c.cnt by omega)
        have h2 := pow4_le (show b.cnt ≤ a.cnt + b.cnt + c.cnt by omega)
        have h3 := pow4_le (show c.cnt ≤ a.cnt + b.cnt + c.cnt by omega)
        rw [p4_s]
        omega
    | pr a b =>
      have hd' : max a.dp b.dp + 1 ≤ n + 1 := hd
      have hc' : a.cnt + b.cnt + 1 ≤ 6 := hc
      refine o__law_over ?_
      unfold d__law_over
      simp only [Q.w]
      (repeat (first | fail | with_reducible refine vs_seq (vs_if ?_)))
      refine ih b hw.2 (by omega) (by omega) (S ++ [Cell.lst []]) _ (kp_app.2 _ _ hp) fun p2 ws2 u2 ku2 hge2 hg2 hL2 hlen2 => ?_
      (repeat fail)
      refine ih a hw.1 (by omega) (by omega) _ _ (ku2.2 _ _ (kp_app.2 _ _ hp)) fun p1 ws1 u1 ku1 hge1 hg1 hL1 hlen1 => ?_
      refine ⟨ws1, lst_loc hg1, ?_⟩
      have hab : p4 a.cnt * p4 b.cnt ≤ p4 (a.cnt + b.cnt + 1) := by
        rw [pow4]
        exact pow4_le (by omega)
      have big' : p4 (a.cnt + b.cnt + 1) ≤ 4096 := big
      have hb1 := Nat.mul_le_mul hlen1 hlen2
      have hlb : ws2.length ≤ 4096 := by
        have := pow4_le (show b.cnt ≤ a.cnt + b.cnt + 1 by omega)
        omega
      have hu2 : Kp S u2 := kp_app.trans ku2
      have hu1 : Kp S u1 := hu2.trans ku1
      have gf : u1[S.length]? = some (.lst []) := ku1.2 _ _ (ku2.2 _ _ (get_mid (cs := [])))
      have gl2 : S.length < p2 := by
        rw [List.length_append, List.length_singleton] at hge2
        omega
      have gl1 : S.length < p1 := by
        have := ku2.1
        rw [List.length_append, List.length_singleton] at this
        omega
      -- what stays while the list grows
      refine vl_inv (fun i ls u => ∃ (acc : List W) (x y : Option W), ls = [some (.tup [strW "pair", a.w, b.w]), some (.loc pn), some (.loc S.length), some (.loc p2), x, y, none, none] ∧ Kp S u ∧ u[S.length]? = some (.lst acc) ∧ u[p1]? = some (.lst ws1) ∧ u[p2]? = some (.lst ws2) ∧ (∀ w ∈ acc, ∃ l : L, w = l.w ∧ (Q.pr a b).has l = true) ∧ (0 < i → acc ≠ []) ∧ acc.length ≤ i * ws2.length ∧ i ≤ ws1.length) (fun i ls u h => by
        obtain ⟨_, _, _, _, _, _, h, _⟩ := h
        exact h) ⟨[], none, none, rfl, hu1, gf, hg1, ku1.2 _ _ hg2, (fun _ h => nomatch h), (fun h => absurd h (by omega)), by simp, Nat.zero_le _⟩ ?_ ?_
      · rintro i w ls u ew ⟨acc, x, y, rfl, ku, hu, h1, h2, hacc, hnn, hlen, hi⟩
        have ew : ws1[i]? = some w := ew
        have hi' := (List.getElem?_eq_some_iff.mp ew).1
        obtain ⟨l, rfl, hl⟩ := hL1.2 w (List.mem_of_getElem? ew)
        refine ⟨_, dg_n4, ?_⟩
        refine vs_ext ?_
        (repeat fail)
        refine ⟨_, _, rfl, hu, ?_⟩
        (repeat fail)
        refine ⟨ws2, lst_loc h2, ?_⟩
        refine vc_map (fun w => [some (.tup [strW "pair", a.w, b.w]), some (.loc pn), some (.loc S.length), some (.loc p2), some l.w, some w, none, none]) (fun w => .tup [strW "pair", l.w, w]) (fun s h => h.2 _ _ h2) (by omega) (fun w _ => rfl) (fun w _ s Z _ h => by (repeat fail); exact h) ?_
        have hm : (i + 1) * ws2.length = i * ws2.length + ws2.length := Nat.succ_mul _ _
        have hm2 : (i + 1) * ws2.length ≤ ws1.length * ws2.length := Nat.mul_le_mul_right _ hi'
        refine ⟨u.length, acc, ws2.map _, rfl, kp_app.2 _ _ hu, get_mid (cs := []), by rw [List.length_map]; omega, acc ++ ws2.map (fun w => .tup [strW "pair", l.w, w]), _, _, rfl, (ku.trans kp_app).put (Nat.le_refl _), get_set (kp_app.2 _ _ hu), ?_, ?_, ?_, ?_, ?_, hi'⟩
        · rw [List.getElem?_set_ne (by omega)]
          exact kp_app.2 _ _ h1
        · rw [List.getElem?_set_ne (by omega)]
          exact kp_app.2 _ _ h2
        · intro w hw
          rcases List.mem_append.mp hw with h | h
          · exact hacc w h
          · obtain ⟨v, hv, rfl⟩ := List.mem_map.mp h
            obtain ⟨l2, rfl, hl2⟩ := hL2.2 v hv
            exact ⟨.pr l l2, rfl, by show (_ && _) = true; rw [hl, hl2]; rfl⟩
        · intro _ h
          have := (List.append_eq_nil_iff.mp h).2
          exact hL2.1 (List.map_eq_nil_iff.mp this)
        · rw [List.length_append, List.length_map]
          omega
      · rintro ls u ⟨acc, x, y, rfl, ku, hu, h1, h2, hacc, hnn, hlen, hi⟩
        (repeat fail)
        have hpos := List.length_pos_iff.mpr hL1.1
        refine r _ acc u ku (Nat.le_refl _) hu ⟨hnn hpos, hacc⟩ ?_
        have : acc.length ≤ ws1.length * ws2.length := hlen
        show _ ≤ p4 (a.cnt + b.cnt + 1)
        omega
set_option maxHeartbeats 4000000
/-! ### the paths of a kind -/
abbrev rowW (r : List Sp × Q) : W := .tup [pW r.1, r.2.w]
structure Rows (q : Q) (rows : List (List Sp × Q)) : Prop where
  ne : rows ≠ []
  at_ : ∀ r ∈ rows, q.at r.1 = some r.2
  len : rows.length ≤ q.cnt
def PathsN (n : Nat) : Prop := ∀ (q : Q), q.wf → q.dp ≤ n → q.cnt ≤ 6 → ∀ (S : Store) (R : W → Store → Prop), (∀ p rows S', Kp S S' → S.length ≤ p → S'[p]? = some (.lst (rows.map rowW)) → Rows q rows → R (.loc p) S') → Vf (f__law_paths n) [q.w] S R
theorem pext {n : Nat} (ih : PathsN n) {stepE : DE} {a0 a2 a3 : Option W} {S : Store} {pf : Nat} {rows : List (List Sp × Q)} {a : Q} {sp : Sp} {Z : W → Store → Prop} (hpf : S[pf]? = some (.lst (rows.map rowW))) (hl : rows.length ≤ 100) (hw : a.wf) (hd : a.dp ≤ n) (hc : a.cnt ≤ 6) (hdep : a.dp ≤ 50)
    (hs : ∀ (w : W) (s : Store) (Z : W → Store → Prop), Z sp.w s → Ve stepE [a0, some (.loc pf), some w, a3] s Z)
    (q : ∀ p rows' S', Kp S S' → S.length ≤ p → S'[p]? = some (.lst ((rows ++ rows'.map fun r => (sp :: r.1, r.2)).map rowW)) → Rows a rows' → Z (.loc p) S') :
    Vf (f__law_paths n) [a.w] S fun w s => ∃ ws, seqW s w = some ws ∧ Vc ⟨ws, stayOf w ws⟩ (dgName 2) [2] dYes (dTup [(dOp gAdd (dTup [stepE]) (dOp gIx (dVar 2) (dC (.int 0)))), (dOp gIx (dVar 2) (dC (.int 1)))]) [a0, some (.loc pf), a2, a3] s fun y s' => Vo gAdd (.loc pf) y s' Z := by
  refine ih a hw hd hc S _ fun p1 rows' S1 k1 hge g1 hR => ?_
  have hlen := hR.len
  refine ⟨_, lst_loc g1, ?_⟩
  refine vc_map (fun w => [a0, some (.loc pf), some w, a3]) (fun w => match w with | .tup [.tup ps, k] => .tup [.tup (sp.w :: ps), k] | w => w) (fun s h => h.2 _ _ g1) (by rw [List.length_map]; omega) (fun w _ => rfl) (fun w hw s Zz _ h => ?_) ?_
  · obtain ⟨r, hr, rfl⟩ := List.mem_map.mp hw
    have hal := at_len r.1 (hR.at_ r hr)
    (repeat fail)
    refine hs _ _ _ ?_
    (repeat fail)
    refine cat_v ?_ ?_
    · rw [List.length_map, List.length_singleton]
      omega
    (repeat fail)
    exact h
  · have e : (rows'.map rowW).map (fun w => match w with | .tup [.tup ps, k] => W.tup [.tup (sp.w :: ps), k] | w => w) = (rows'.map fun r => (sp :: r.1, r.2)).map rowW := by
      rw [List.map_map, List.map_map]
      rfl
    refine addl_v (kp_app.2 _ _ (k1.2 _ _ hpf)) (get_mid (cs := [])) (by simp only [List.length_map]; omega) ?_
    rw [e, ← List.map_append]
    refine q _ rows' _ (k1.trans (kp_app.trans kp_app)) ?_ (get_mid (cs := [])) hR
    have := k1.1
    rw [List.length_append]
    omega
theorem rows_ext {q a : Q} {sp : Sp} {rows' : List (List Sp × Q)} (hs : q.sub sp = some a) (h : Rows a rows') : ∀ r ∈ rows'.map (fun r => (sp :: r.1, r.2)), q.at r.1 = some r.2 := by
  intro r hr
  obtain ⟨x, hx, rfl⟩ := List.mem_map.mp hr
  show (q.sub sp).bind _ = _
  rw [hs]
  exact h.at_ x hx
theorem paths_either {n : Nat} (ih : PathsN n) {q : Q} {ks : List Q} (hw : q.wf) (hc : q.cnt ≤ 6) (e : q.w = .tup [strW "either", .tup (ks.map Q.w)]) (h3 : ks.length ≤ 3) (hk : ∀ k ∈ ks, k.wf ∧ k.dp ≤ n ∧ k.cnt + 1 ≤ q.cnt) (hdep : q.dp ≤ 50) (hkd : ∀ k ∈ ks, k.dp ≤ 50) (hsub : ∀ (i : Nat) k, ks[i]? = some k → q.sub (.at i) = some k) (hsum : 1 + (ks.map Q.cnt).sum = q.cnt)
    {S : Store} {R : W → Store → Prop} (r : ∀ p rows S', Kp S S' → S.length ≤ p → S'[p]? = some (.lst (rows.map rowW)) → Rows q rows → R (.loc p) S') : Vf (f__law_paths (n + 1)) [q.w] S R := by
  refine o__law_paths ?_
  rw [e]
  unfold d__law_paths
  (repeat (first | fail | with_reducible refine vs_seq (vs_if ?_)))
  have psum : ∀ i, ((ks.take i).map Q.cnt).sum ≤ (ks.map Q.cnt).sum := fun i => by
    conv => rhs; rw [← List.take_append_drop i ks]
    rw [List.map_append, List.sum_append]
    omega
  have row0 : (S ++ [Cell.lst [.tup [.tup [], .tup [strW "either", .tup (ks.map Q.w)]]]])[S.length]? = some (.lst ([(([] : List Sp), q)].map rowW)) := by
    rw [get_mid (cs := [])]
    show _ = some (Cell.lst [rowW ([], q)])
    unfold rowW
    rw [e]
    rfl
  refine ⟨ks.length, by rw [List.length_map], by omega, ?_⟩
  refine vl_inv (fun i ls u => ∃ (p : Nat) (rows : List (List Sp × Q)) (a b : Option W), ls = [some (.tup [strW "either", .tup (ks.map Q.w)]), some (.loc p), a, b] ∧ Kp S u ∧ S.length ≤ p ∧ u[p]? = some (.lst (rows.map rowW)) ∧ rows ≠ [] ∧ (∀ r ∈ rows, q.at r.1 = some r.2) ∧ rows.length ≤ 1 + ((ks.take i).map Q.cnt).sum) (fun _ _ _ _ => trivial) ⟨S.length, [([], q)], none, none, rfl, kp_app, Nat.le_refl _, row0, by simp, (fun r hr => by rw [List.mem_singleton.mp hr]; rfl), by simp⟩ ?_ ?_
  · rintro i w ls u ew ⟨p, rows, a, b, rfl, ku, hge, hu, hne, hat, hlen⟩
    have hi : i < ks.length := by
      have := (List.getElem?_eq_some_iff.mp ew).1
      simpa using this
    have ew' : w = .int (i : Int) := by
      have e2 : ((List.range ks.length).map fun (i : Nat) => W.int (0 + (i : Int)))[i]? = some (.int (0 + (i : Int))) := by
        rw [List.getElem?_map, List.getElem?_range hi]
        rfl
      rw [e2, Int.zero_add] at ew
      exact (Option.some.inj ew).symm
    subst ew'
    obtain ⟨k, ek⟩ : ∃ k, ks[i]? = some k := ⟨_, List.getElem?_eq_getElem hi⟩
    obtain ⟨k1, k2, k3⟩ := hk k (List.mem_of_getElem? ek)
    have ea : L2.atI (ks.map Q.w) (i : Int) = some k.w := atI_of (by omega) (by rw [Int.toNat_natCast, List.getElem?_map, ek]; rfl)
    have tk : ks.take (i + 1) = ks.take i ++ [k] := by
      obtain ⟨hi', ek'⟩ := List.getElem?_eq_some_iff.mp ek
      rw [List.take_succ_eq_append_getElem hi', ek']
    have ps := psum i
    refine ⟨_, dg_n3, ?_⟩
    (repeat fail)
    refine vo_ix ea ?_
    (repeat fail)
    refine pext ih (sp := .at i) hu (by omega) k1 k2 (by omega) (hkd k (List.mem_of_getElem? ek)) (fun w s Z h => ?_) fun p' rows' S' k' hge' g' hR => ?_
    · (repeat fail)
      exact h
    · refine ⟨p', _, _, _, rfl, ku.trans k', ?_, g', ?_, ?_, ?_⟩
      · have := ku.1
        omega
      · intro h
        exact hne (List.append_eq_nil_iff.mp h).1
      · intro r hr
        rcases List.mem_append.mp hr with h | h
        · exact hat r h
        · exact rows_ext (hsub i k ek) hR r h
      · rw [tk, List.map_append, List.sum_append, List.length_append, List.length_map]
        have := hR.len
        simp only [List.map_cons, List.map_nil, List.sum_cons, List.sum_nil]
        omega
  · rintro ls u ⟨p, rows, a, b, rfl, ku, hge, hu, hne, hat, hlen⟩
    (repeat (first | fail | with_reducible refine vs_seq (vs_if ?_)))
    refine r p rows u ku hge hu ⟨hne, hat, ?_⟩
    have := psum (Src.items ⟨(List.range ks.length).map fun (i : Nat) => W.int (0 + (i : Int)), fun _ => True⟩).length
    omega
theorem paths_v : ∀ {n : Nat}, n ≤ 50 → PathsN n := by
  intro n
  induction n with
  | zero => intro _ q _ h; cases q <;> simp [Q.dp] at h
  | succ n ih0 =>
    intro h50 q hw hd hc S R r
    have ih := ih0 (by omega)
    have row0 : ∀ {q : Q} {S : Store}, (S ++ [Cell.lst [.tup [.tup [], q.w]]])[S.length]? = some (.lst ([(([] : List Sp), q)].map rowW)) := fun {q S} => get_mid (cs := [])
    cases q with
    | names xs =>
      refine o__law_paths ?_
      unfold d__law_paths
      simp only [Q.w]
      (repeat (first | fail | with_reducible refine vs_seq (vs_if ?_)))
      exact r _ [([], .names xs)] _ kp_app (Nat.le_refl _) (row0 (q := .names xs)) ⟨by simp, fun r hr => by rw [List.mem_singleton.mp hr]; rfl, by show 1 ≤ 1; omega⟩
    | zz =>
      refine o__law_paths ?_
      unfold d__law_paths
      simp only [Q.w]
      (repeat (first | fail | with_reducible refine vs_seq (vs_if ?_)))
      exact r _ [([], .zz)] _ kp_app (Nat.le_refl _) (row0 (q := .zz)) ⟨by simp, fun r hr => by rw [List.mem_singleton.mp hr]; rfl, by show 1 ≤ 1; omega⟩
    | mb a =>
      have hd' : a.dp + 1 ≤ n + 1 := hd
      have hc' : a.cnt + 1 ≤ 6 := hc
      refine o__law_paths ?_
      unfold d__law_paths
      simp only [Q.w]
      (repeat (first | fail | with_reducible refine vs_seq (vs_if ?_)))
      refine pext ih (sp := .so) (rows := [([], .mb a)]) (a := a) (pf := S.length) (row0 (q := .mb a)) (by simp) hw (by omega) (by omega) (by omega) (fun w s Z h => by (repeat fail); exact h) fun p' rows' S' k' hge' g' hR => ?_
      (repeat fail)
      refine r p' _ S' (kp_app.trans k') (by rw [List.length_append] at hge'; omega) g' ⟨by simp, fun r hr => ?_, ?_⟩
      · rcases List.mem_append.mp hr with h | h
        · rw [List.mem_singleton.mp h]; rfl
        · exact rows_ext (q := .mb a) rfl hR r h
      · rw [List.length_append, List.length_map, List.length_singleton]
        have := hR.len
        show 1 + _ ≤ a.cnt + 1
        omega
    | pr a b =>
      have hd' : max a.dp b.dp + 1 ≤ n + 1 := hd
      have hc' : a.cnt + b.cnt + 1 ≤ 6 := hc
      refine o__law_paths ?_
      unfold d__law_paths
      simp only [Q.w]
      (repeat (first | fail | with_reducible refine vs_seq (vs_if ?_)))
      refine pext ih (sp := .fi) (rows := [([], .pr a b)]) (a := a) (pf := S.length) (row0 (q := .pr a b)) (by simp) hw.1 (by omega) (by omega) (by omega) (fun w s Z h => by (repeat fail); exact h) fun p1 rows1 S1 k1 hge1 g1 hR1 => ?_
      (repeat fail)
      have l1 := hR1.len
      refine pext ih (sp := .se) (a := b) (pf := p1) g1 (by simp only [List.length_append, List.length_map, List.length_singleton]; omega) hw.2 (by omega) (by omega) (by omega) (fun w s Z h => by (repeat fail); exact h) fun p2 rows2 S2 k2 hge2 g2 hR2 => ?_
      (repeat (first | fail | with_reducible refine vs_seq (vs_if ?_)))
      have l2 := hR2.len
      refine r p2 _ S2 ((kp_app.trans k1).trans k2) ?_ g2 ⟨by simp, fun r hr => ?_, ?_⟩
      · have := ((kp_app (S := S) (cs := [Cell.lst [rowW ([], .pr a b)]])).trans k1).1
        omega
      · rcases List.mem_append.mp hr with h | h
        · rcases List.mem_append.mp h with h | h
          · rw [List.mem_singleton.mp h]; rfl
          · exact rows_ext (q := .pr a b) rfl hR1 r h
        · exact rows_ext (q := .pr a b) rfl hR2 r h
      · simp only [List.length_append, List.length_map, List.length_singleton]
        show _ ≤ a.cnt + b.cnt + 1
        omega
    | e1 a =>
      have hd' : a.dp + 1 ≤ n + 1 := hd
      refine paths_either ih (ks := [a]) hw hc (by simp only [Q.w, List.map]) (by simp) (fun k hk => ?_) (by omega) (fun k hk => ?_) (fun i k e => ?_) ?_ r
      · rw [List.mem_singleton.mp hk]
        exact ⟨hw, by omega, Nat.le_refl _⟩
      · rw [List.mem_singleton.mp hk]
        omega
      · match i, e with
        | 0, e => cases e; rfl
      · show 1 + (a.cnt + 0) = a.cnt + 1
        omega
    | e2 a b =>
      have hd' : max a.dp b.dp + 1 ≤ n + 1 := hd
      refine paths_either ih (ks := [a, b]) hw hc (by simp only [Q.w, List.map]) (by simp) (fun k hk => ?_) (by omega) (fun k hk => ?_) (fun i k e => ?_) ?_ r
      · simp only [List.mem_cons, List.mem_nil_iff, or_false] at hk
        rcases hk with rfl | rfl
        · exact ⟨hw.1, by omega, by show _ ≤ _ + _ + 1; omega⟩
        · exact ⟨hw.2, by omega, by show _ ≤ _ + _ + 1; omega⟩
      · simp only [List.mem_cons, List.mem_nil_iff, or_false] at hk
        rcases hk with rfl | rfl <;> omega
      · match i, e with
        | 0, e => cases e; rfl
        | 1, e => cases e; rfl
      · show 1 + (a.cnt + (b.cnt + 0)) = a.cnt + b.cnt + 1
        omega
    | e3 a b c =>
      have hd' : max a.dp (max b.dp c.dp) + 1 ≤ n + 1 := hd
      refine paths_either ih (ks := [a, b, c]) hw hc (by simp only [Q.w, List.map]) (by simp) (fun k hk => ?_) (by omega) (fun k hk => ?_) (fun i k e => ?_) ?_ r
      · simp only [List.mem_cons, List.mem_nil_iff, or_false] at hk
        rcases hk with rfl | rfl | rfl
        · exact ⟨hw.1, by omega, by show _ ≤ _ + _ + _ + 1; omega⟩
        · exact ⟨hw.2.1, by omega, by show _ ≤ _ + _ + _ + 1; omega⟩
        · exact ⟨hw.2.2, by omega, by show _ ≤ _ + _ + _ + 1; omega⟩
      · simp only [List.mem_cons, List.mem_nil_iff, or_false] at hk
        rcases hk with rfl | rfl | rfl <;> omega
      · match i, e with
        | 0, e => cases e; rfl
        | 1, e => cases e; rfl
        | 2, e => cases e; rfl
      · show 1 + (a.cnt + (b.cnt + (c.cnt + 0))) = a.cnt + b.cnt + c.cnt + 1
        omega
set_option maxHeartbeats 4000000
def Good (q : Q) : Prop := q.wf ∧ q.dp ≤ 3 ∧ q.cnt ≤ 6
theorem small_v {t s : Nat} {q : Q} (hq : Good q) {S : Store} (hT : Tp S t s) {R : W → Store → Prop} (r : ∀ (l : L) S', q.has l = true → Tp S' t s → Fr t S S' → R l.w S') : Vf f__law_small [.loc t, q.w, .int 20] S R := by
  have lt0 := hT.lt
  refine o__law_small ?_; unfold d__law_small
  (repeat fail)
  refine ⟨2, rfl, by decide, ?_⟩
  refine vc_inv (fun i acc u => Tp u t s ∧ Fr t S u ∧ u[S.length]? = some (.lst acc) ∧ acc.length = i ∧ ∃ ns : List Int, acc = ns.map .int) (fun _ _ _ _ => trivial) ⟨hT.app, fr_app, get_mid (cs := []), rfl, [], rfl⟩ ?_ ?_
  · rintro i w acc u ew ⟨T, F, hu, hl, ns, rfl⟩
    have hi : i < 2 := by
      have := (List.getElem?_eq_some_iff.mp ew).1
      simpa using this
    refine ⟨[some (.loc t), some q.w, some (.int 20), none, some w], rfl, vt_yes (cb_t ?_)⟩
    (repeat fail)
    refine vo_mull (by decide) ?_
    (repeat fail)
    obtain ⟨d, S1, e1, T1, F1, l1, u1⟩ := draw_n (2 * 20 + 1) T
    refine vf_of e1 ?_
    (repeat fail)
    have hu1 := F1.get (show S.length ≠ t by omega) hu
    refine ⟨hu1, by omega, T1.other (by omega) (by omega), (F.trans F1).put (Nat.le_refl _), get_set hu1, by rw [List.length_append, List.length_singleton, hl], ns ++ [d - 20], by rw [List.map_append]; rfl⟩
  · rintro acc u ⟨T, F, hu, hl, ns, rfl⟩
    (repeat fail)
    have hl2 : ns.length = 2 := by simpa using hl
    refine over_v (n := 4) (by intro h; rw [h] at hl2; cases hl2) (by omega) q hq.1 (by have := hq.2.1; omega) hq.2.2 _ _ hu fun p ws S1 k1 hge g1 hL hlen => ?_
    have ltu := T.lt
    have big := Nat.le_trans (pow4_le hq.2.2) p4_6
    (repeat fail)
    refine pick_v (k1.tp T) g1 (by omega) hL.1 (by omega) fun w hw S2 T2 F2 => ?_
    obtain ⟨l, rfl, hl3⟩ := hL.2 w hw
    exact r l S2 hl3 T2 ((F.trans k1.fr).trans F2)
/-! a kind that is near -/
theorem kindq_v {t s : Nat} {S : Store} (hT : Tp S t s) {m : Int} (h1 : 1 ≤ m) (h6 : m ≤ 6) {R : W → Store → Prop} (r : ∀ (q : Q) S', Good q → Tp S' t s → Fr t S S' → R q.w S') : Vf (f__law_kind 4) [.loc t, .int 3, .int m] S R := by
  obtain ⟨k, z, S2, e2, T2, F2, hk, hz⟩ := kind_ok (n := 4) (d := 3) (m := m) (by decide) (by decide) (by decide) h1 (by omega) hT
  obtain ⟨q, rfl, w, d, c⟩ := Kd.q hk
  exact ⟨_, _, e2, r q S2 ⟨w, d, by omega⟩ T2 F2⟩
theorem any_kind_v {t s : Nat} {S : Store} (hT : Tp S t s) {R : W → Store → Prop} (r : ∀ (q : Q) S', Good q → Tp S' t s → Fr t S S' → R q.w S') : Vf f__law_any_kind [.loc t] S R := by
  refine o__law_any_kind ?_; unfold d__law_any_kind
  (repeat fail)
  obtain ⟨c, S1, e1, T1, F1, l1, u1⟩ := draw_n 5 hT
  refine vf_of e1 ?_
  (repeat fail)
  refine ⟨fun h => ?_, fun h => ?_⟩
  · (repeat fail)
    exact r .zz _ ⟨trivial, by decide, by decide⟩ T1 F1
  · have h' := of_decide_eq_false h
    (repeat fail)
    have T2 : Tp (S1 ++ [Cell.lst [.int 6, .int 3, .int 6]]) t s := T1.app
    obtain ⟨w, d1, m1⟩ := ix_lit (S := S1 ++ [Cell.lst [.int 6, .int 3, .int 6]]) (p := S1.length) (k := c - 2) (get_mid (cs := [])) (by omega) (by show c - 2 < 3; omega)
    refine vo_of d1 ?_
    have hw : ∃ m : Int, w = .int m ∧ 1 ≤ m ∧ m ≤ 6 := by
      simp only [List.mem_cons, List.mem_nil_iff, or_false] at m1
      rcases m1 with rfl | rfl | rfl <;> exact ⟨_, rfl, by decide, by decide⟩
    obtain ⟨m, rfl, hm1, hm2⟩ := hw
    (repeat fail)
    exact kindq_v T2 hm1 hm2 fun q S' g T F => r q S' g T (F1.trans (fr_app.trans F))
set_option maxHeartbeats 4000000
theorem strW_ne {a b : String} (h : Str.ofString a ≠ Str.ofString b) : strW a ≠ strW b := fun e => h (by injection e)
theorem Q.w_inj : ∀ {q r : Q}, q.w = r.w → q = r := by
  have n1 : strW "names" ≠ strW "integers" := strW_ne (by decide +kernel)
  have n2 : strW "names" ≠ strW "pair" := strW_ne (by decide +kernel)
  have n3 : strW "names" ≠ strW "either" := strW_ne (by decide +kernel)
  have n4 : strW "names" ≠ strW "maybe" := strW_ne (by decide +kernel)
  have n7 : strW "either" ≠ strW "maybe" := strW_ne (by decide +kernel)
  have n8 : strW "maybe" ≠ strW "names" := n4.symm
  have n9 : strW "either" ≠ strW "names" := n3.symm
  have n10 : strW "maybe" ≠ strW "either" := n7.symm
  intro q
  induction q with
  | names xs =>
    intro r h
    cases r <;> simp [Q.w, n1, n2, n3, n4] at h
    rename_i ys
    have : xs = ys := map_str_inj (by simpa using h)
    rw [this]
  | zz => intro r h; cases r <;> simp [Q.w] at h; rfl
  | pr a b iha ihb =>
    intro r h
    cases r <;> simp [Q.w] at h
    rw [iha h.1, ihb h.2]
  | e1 a iha =>
    intro r h
    cases r <;> simp [Q.w, n7, n9] at h
    rw [iha h]
  | e2 a b iha ihb =>
    intro r h
    cases r <;> simp [Q.w, n7, n9] at h
    rw [iha h.1, ihb h.2]
  | e3 a b c iha ihb ihc =>
    intro r h
    cases r <;> simp [Q.w, n7, n9] at h
    rw [iha h.1, ihb h.2.1, ihc h.2.2]
  | mb a iha =>
    intro r h
    cases r <;> simp [Q.w, n8, n10] at h
    rw [iha h]
theorem vo_mod {i j : Int} {S : Store} {R : W → Store → Prop} (h : 0 < j) (q : R (.int (i % j)) S) : Vo gMod (.int i) (.int j) S R := ⟨_, S, mod_ii h, q⟩
open Classical in
theorem term_v {t s pp : Nat} {k : Q} (hk : Good k) {rows : List (List Sp × Q)} (hR : Rows k rows) (hpt : pp ≠ t) : ∀ {n : Nat} {o : Q}, o.dp ≤ n → Good o → ∀ {S : Store} {R : W → Store → Prop}, Tp S t s → S[pp]? = some (.lst (rows.map rowW)) →
    (∀ (x : T) S', x.suits k o = true → Tp S' t s → Fr t S S' → R x.w S') → Vf (f__law_term n) [.loc t, .loc pp, o.w, .int 20] S R := by
  intro n
  induction n with
  | zero => intro o h; cases o <;> simp [Q.dp] at h
  | succ n ih =>
    intro o hn ho S R hT hp r
    obtain ⟨ow, od, oc⟩ := ho
    have lt0 := hT.lt
    have hlen := hR.len
    have kc := hk.2.2
    refine o__law_term ?_; unfold d__law_term
    (repeat fail)
    refine ⟨rows.map rowW, lst_loc hp, ?_⟩
    have okrow : ∀ w ∈ rows.map rowW, ∃ x ∈ rows, w = rowW x ∧ x.2.wf ∧ x.2.dp ≤ 3 := fun w hw => by
      obtain ⟨x, hx, rfl⟩ := List.mem_map.mp hw
      obtain ⟨a1, a2, _⟩ := Q.at_wf x.1 hk.1 (hR.at_ x hx)
      exact ⟨x, hx, rfl, a1, by have := hk.2.1; omega⟩
    refine vc_pure (fun w => [some (.loc t), some (.loc pp), some o.w, some (.int 20), none, some w, none, none, none, none]) (fun w => decide (∃ a, w = .tup [a, o.w])) (fun w => match w with | .tup [a, _] => a | w => w) (fun s h => h.2 _ _ hp) (by rw [List.length_map]; omega) (fun w _ => rfl) (fun w hw s Z _ h => ?_) (fun w hw _ s Z _ h => ?_) ?_
    · obtain ⟨x, hx, rfl, xw, xd⟩ := okrow w hw
      (repeat fail)
      obtain ⟨b, eb, _, hb⟩ := eq_pl (Q.okw xw) (Q.okw ow) Q.pl Q.pl (by omega) (by omega) s
      refine vo_of eb ?_
      (repeat fail)
      have : b = decide (∃ a, rowW x = .tup [a, o.w]) := by
        cases b with
        | true => exact (decide_eq_true ⟨_, by rw [← hb.mp rfl]⟩).symm
        | false =>
          refine (decide_eq_false ?_).symm
          rintro ⟨a, e⟩
          have e2 : x.2.w = o.w := by
            injection e with e
            injection e with _ e
            injection e
          exact absurd (hb.mpr e2) (by simp)
      rw [this]
      exact h
    · obtain ⟨x, hx, rfl, xw, xd⟩ := okrow w hw
      (repeat fail)
      exact h
    -- what fits
    have fitp : ∀ w ∈ (((rows.map rowW).filter fun w => decide (∃ a, w = .tup [a, o.w])).map fun w => match w with | .tup [a, _] => a | w => w), ∃ p : List Sp, w = pW p ∧ k.at p = some o := by
      intro w hw
      obtain ⟨v, hv, rfl⟩ := List.mem_map.mp hw
      obtain ⟨hv1, hv2⟩ := List.mem_filter.mp hv
      obtain ⟨x, hx, rfl⟩ := List.mem_map.mp hv1
      obtain ⟨a, e⟩ := of_decide_eq_true hv2
      have e2 : x.2.w = o.w := by
        injection e with e
        injection e with _ e
        injection e
      exact ⟨x.1, rfl, by rw [hR.at_ x hx, Q.w_inj e2]⟩
    generalize hfit : (((rows.map rowW).filter fun w => decide (∃ a, w = .tup [a, o.w])).map fun w => match w with | .tup [a, _] => a | w => w) = fit at fitp
    have fl : fit.length ≤ 100 := by
      rw [← hfit, List.length_map]
      have := List.length_filter_le (fun w => decide (∃ a, w = .tup [a, o.w])) (rows.map rowW)
      rw [List.length_map] at this
      omega
    (repeat fail)
    have T0 : Tp (S ++ [Cell.lst fit]) t s := hT.app
    obtain ⟨c, S1, e1, T1, F1, l1, u1⟩ := draw_n 8 T0
    refine vf_of e1 ?_
    have F01 : Fr t S S1 := fr_app.trans F1
    have gf : S1[S.length]? = some (.lst fit) := F1.get (by omega) (get_mid (cs := []))
    have gp : S1[pp]? = some (.lst (rows.map rowW)) := F01.get hpt hp
    have lt1 := T1.lt
    -- what comes where no path is taken
    have rest : Vs (dSeq (dIf (dAndT (dTB (dOp gEq (dOp gIx (dVar 2) (dC (.int 0))) (dC (.str (PySem.Str.ofString "pair"))))) (dTB (dOp gGt (dVar 6) (dC (.int 0))))) (dSeq (dSet 8 (dCall (f__law_term n) [(dVar 0), (dVar 1), (dOp gIx (dVar 2) (dC (.int 1))), (dVar 3)]))
    (dRet (dTup [(dC (.str (PySem.Str.ofString "pair"))), (dVar 8), (dCall (f__law_term n) [(dVar 0), (dVar 1), (dOp gIx (dVar 2) (dC (.int 2))), (dVar 3)])]))) dNx)
  (dSeq (dIf (dAndT (dTB (dOp gEq (dOp gIx (dVar 2) (dC (.int 0))) (dC (.str (PySem.Str.ofString "either"))))) (dTB (dOp gGt (dVar 6) (dC (.int 0))))) (dSeq (dSet 9 (dCall f__law_draw [(dVar 0), (dCall gLen [(dOp gIx (dVar 2) (dC (.int 1)))])]))
    (dRet (dTup [(dC (.str (PySem.Str.ofString "case"))), (dVar 9), (dCall (f__law_term n) [(dVar 0), (dVar 1), (dOp gIx (dOp gIx (dVar 2) (dC (.int 1))) (dVar 9)), (dVar 3)])]))) dNx)
  (dSeq (dIf (dAndT (dTB (dOp gEq (dOp gIx (dVar 2) (dC (.int 0))) (dC (.str (PySem.Str.ofString "maybe"))))) (dTB (dOp gGt (dVar 6) (dC (.int 0))))) (dRet (dTup [(dC (.str (PySem.Str.ofString "some"))), (dCall (f__law_term n) [(dVar 0), (dVar 1), (dOp gIx (dVar 2) (dC (.int 1))), (dVar 3)])])) dNx)
  (dRet (dTup [(dC (.str (PySem.Str.ofString "always"))), (dCall f__law_small [(dVar 0), (dVar 2), (dVar 3)])]))))) [some (.loc t), some (.loc pp), some o.w, some (.int 20), some (.loc S.length), none, some (.int c), none, none, none] S1 (fun _ s => R .non s) (rtQ R) := by
      have small : Vf f__law_small [.loc t, o.w, .int 20] S1 fun w s => R (.tup [strW "always", w]) s := small_v ⟨ow, od, oc⟩ T1 fun l S' hl T F => r (.al l) S' hl T (F01.trans F)
      have either : ∀ {ks : List Q}, o.w = .tup [strW "either", .tup (ks.map Q.w)] → ks ≠ [] → ks.length ≤ 3 → (∀ k' ∈ ks, k'.dp ≤ n ∧ Good k') → (∀ (i : Nat) k' x, ks[i]? = some k' → T.suits k x k' = true → T.suits k (.cs i x) o = true) →
          ∃ S2 d, f__law_draw [.loc t, .int (ks.length : Int)] S1 = .ok (.int d) S2 ∧ ∃ k' : Q, L2.atI (ks.map Q.w) d = some k'.w ∧ Vf (f__law_term n) [.loc t, .loc pp, k'.w, .int 20] S2 fun w s => R (.tup [strW "case", .int d, w]) s := by
        intro ks e hne h3 hg hs
        have h1 : 1 ≤ (ks.length : Int) := by
          have := List.length_pos_iff.mpr hne
          omega
        obtain ⟨d, S2, e2, T2, F2, l2, u2⟩ := draw_n (ks.length : Int) T1
        obtain ⟨j, rfl⟩ : ∃ j : Nat, d = (j : Int) := ⟨d.toNat, by omega⟩
        obtain ⟨k', ek⟩ : ∃ k', ks[j]? = some k' := ⟨_, List.getElem?_eq_getElem (show j < ks.length by omega)⟩
        obtain ⟨g1, g2⟩ := hg k' (List.mem_of_getElem? ek)
        refine ⟨S2, (j : Int), e2, k', atI_of (by omega) (by rw [Int.toNat_natCast, List.getElem?_map, ek]; rfl), ?_⟩
        exact ih g1 g2 T2 (F2.get hpt gp) fun x S' hx T F => r (.cs j x) S' (hs j k' x ek hx) T (F01.trans (F2.trans F))
      have pos : ∀ {X Y : Prop}, X → Y → Cb (decide (0 < c)) X Y := fun x y => ⟨fun _ => x, fun _ => y⟩
      cases o with
      | names xs =>
        simp only [Q.w] at small ⊢
        (repeat (first | fail | with_reducible refine vs_seq (vs_if ?_)))
        exact small.mono fun w s h => va_nil h
      | zz =>
        simp only [Q.w] at small ⊢
        (repeat (first | fail | with_reducible refine vs_seq (vs_if ?_)))
        exact small.mono fun w s h => va_nil h
      | pr a b =>
        have hn' : max a.dp b.dp + 1 ≤ n + 1 := hn
        have od' : max a.dp b.dp + 1 ≤ 3 := od
        have oc' : a.cnt + b.cnt + 1 ≤ 6 := oc
        simp only [Q.w] at small ⊢
        (repeat (first | fail | with_reducible refine vs_seq (vs_if ?_)))
        refine pos ?_ ?_
        · (repeat fail)
          refine ih (o := a) (by omega) ⟨ow.1, by omega, by omega⟩ T1 gp fun x S2 hx T2 F2 => ?_
          (repeat fail)
          refine ih (o := b) (by omega) ⟨ow.2, by omega, by omega⟩ T2 (F2.get hpt gp) fun y S3 hy T3 F3 => ?_
          (repeat fail)
          exact r (.pr x y) S3 (by show (_ && _) = true; rw [hx, hy]; rfl) T3 (F01.trans (F2.trans F3))
        · (repeat (first | fail | with_reducible refine vs_seq (vs_if ?_)))
          exact small.mono fun w s h => va_nil h
      | mb a =>
        have hn' : a.dp + 1 ≤ n + 1 := hn
        have od' : a.dp + 1 ≤ 3 := od
        have oc' : a.cnt + 1 ≤ 6 := oc
        simp only [Q.w] at small ⊢
        (repeat (first | fail | with_reducible refine vs_seq (vs_if ?_)))
        refine pos ?_ ?_
        · (repeat fail)
          refine ih (o := a) (by omega) ⟨ow, by omega, by omega⟩ T1 gp fun x S2 hx T2 F2 => ?_
          (repeat fail)
          exact r (.so x) S2 hx T2 (F01.trans F2)
        · (repeat (first | fail | with_reducible refine vs_seq (vs_if ?_)))
          exact small.mono fun w s h => va_nil h
      | e1 a =>
        have hn' : a.dp + 1 ≤ n + 1 := hn
        have od' : a.dp + 1 ≤ 3 := od
        have oc' : a.cnt + 1 ≤ 6 := oc
        obtain ⟨S2, d, e2, k', ea, hv⟩ := either (ks := [a]) (by simp only [Q.w, List.map]) (by simp) (by simp) (fun k' hk' => by rw [List.mem_singleton.mp hk']; exact ⟨by omega, ow, by omega, by omega⟩) (fun i k' x e h => by match i, e with | 0, e => cases e; exact h)
        simp only [Q.w] at small ⊢
        (repeat (first | fail | with_reducible refine vs_seq (vs_if ?_)))
        refine pos ?_ ?_
        · (repeat fail)
          refine vf_of e2 ?_
          (repeat fail)
          refine vo_ix ea ?_
          (repeat fail)
          exact hv.mono fun w s h => va_nil h
        · (repeat (first | fail | with_reducible refine vs_seq (vs_if ?_)))
          exact small.mono fun w s h => va_nil h
      | e2 a b =>
        have hn' : max a.dp b.dp + 1 ≤ n + 1 := hn
        have od' : max a.dp b.dp + 1 ≤ 3 := od
        have oc' : a.cnt + b.cnt + 1 ≤ 6 := oc
        obtain ⟨S2, d, e2, k', ea, hv⟩ := either (ks := [a, b]) (by simp only [Q.w, List.map]) (by simp) (by simp) (fun k' hk' => by
          simp only [List.mem_cons, List.mem_nil_iff, or_false] at hk'
          rcases hk' with rfl | rfl
          · exact ⟨by omega, ow.1, by omega, by omega⟩
          · exact ⟨by omega, ow.2, by omega, by omega⟩) (fun i k' x e h => by match i, e with | 0, e => cases e; exact h | 1, e => cases e; exact h)
        simp only [Q.w] at small ⊢
        (repeat (first | fail | with_reducible refine vs_seq (vs_if ?_)))
        refine pos ?_ ?_
        · (repeat fail)
          refine vf_of e2 ?_
          (repeat fail)
          refine vo_ix ea ?_
          (repeat fail)
          exact hv.mono fun w s h => va_nil h
        · (repeat (first | fail | with_reducible refine vs_seq (vs_if ?_)))
          exact small.mono fun w s h => va_nil h
      | e3 a b c' =>
        have hn' : max a.dp (max b.dp c'.dp) + 1 ≤ n + 1 := hn
        have od' : max a.dp (max b.dp c'.dp) + 1 ≤ 3 := od
        have oc' : a.cnt + b.cnt + c'.cnt + 1 ≤ 6 := oc
        obtain ⟨S2, d, e2, k', ea, hv⟩ := either (ks := [a, b, c']) (by simp only [Q.w, List.map]) (by simp) (by simp) (fun k' hk' => by
          simp only [List.mem_cons, List.mem_nil_iff, or_false] at hk'
          rcases hk' with rfl | rfl | rfl
          · exact ⟨by omega, ow.1, by omega, by omega⟩
          · exact ⟨by omega, ow.2.1, by omega, by omega⟩
          · exact ⟨by omega, ow.2.2, by omega, by omega⟩) (fun i k' x e h => by match i, e with | 0, e => cases e; exact h | 1, e => cases e; exact h | 2, e => cases e; exact h)
        simp only [Q.w] at small ⊢
        (repeat (first | fail | with_reducible refine vs_seq (vs_if ?_)))
        refine pos ?_ ?_
        · (repeat fail)
          refine vf_of e2 ?_
          (repeat fail)
          refine vo_ix ea ?_
          (repeat fail)
          exact hv.mono fun w s h => va_nil h
        · (repeat (first | fail | with_reducible refine vs_seq (vs_if ?_)))
          exact small.mono fun w s h => va_nil h
    refine vs_seq (vs_if ?_)
    (repeat fail)
    refine ⟨_, _, tru_loc gf, ?_⟩
    refine ⟨fun h1 => ?_, fun h1 => cb_f (vs_nx rest)⟩
    (repeat fail)
    refine ⟨fun h2 => ?_, fun h2 => vs_nx rest⟩
    have hne : fit ≠ [] := by
      intro h
      rw [h] at h1
      cases h1
    (repeat fail)
    refine pick_v T1 gf (by omega) hne (by omega) fun w hw S2 T2 F2 => ?_
    obtain ⟨p, rfl, hpa⟩ := fitp w hw
    have read : R (.tup [strW "read", pW p]) S2 := r (.rd p) S2 (decide_eq_true hpa) T2 (F01.trans F2)
    (repeat fail)
    have num : o = .zz ∨ ∃ hd tl, o.w = .tup (strW hd :: tl) ∧ Str.ofString hd ≠ Str.ofString "integers" := by
      cases o with
      | zz => exact .inl rfl
      | names xs => exact .inr ⟨_, _, rfl, by decide +kernel⟩
      | pr a b => exact .inr ⟨_, _, rfl, by decide +kernel⟩
      | e1 a => exact .inr ⟨_, _, rfl, by decide +kernel⟩
      | e2 a b => exact .inr ⟨_, _, rfl, by decide +kernel⟩
      | e3 a b c => exact .inr ⟨_, _, rfl, by decide +kernel⟩
      | mb a => exact .inr ⟨_, _, rfl, by decide +kernel⟩
    rcases num with rfl | ⟨hd, tl, e, hne2⟩
    · simp only [Q.w]
      (repeat fail)
      refine ⟨fun h3 => ?_, fun h3 => ?_⟩
      · (repeat fail)
        refine vo_mod (by decide) ?_
        have ltt := T2.lt
        have hm : c % 2 = 0 ∨ c % 2 = 1 := by omega
        have fin : ∀ (hd : String) (x : Int → T), (∀ m, (x m).w = .tup [strW hd, pW p, .int m]) → (∀ m, (x m).suits k .zz = true) → Va [(dVar 7), (dOp gSub (dCall f__law_draw [(dVar 0), (dOp gAdd (dOp gMul (dC (.int 2)) (dVar 3)) (dC (.int 1)))]) (dVar 3))] [some (.loc t), some (.loc pp), some (.tup [strW "integers"]), some (.int 20), some (.loc S.length), none, some (.int c), some (pW p), none, none] (S2 ++ [Cell.lst [strW "plus", strW "minus"]]) fun ws s => R (.tup (strW hd :: ws)) s := by
          intro hd x hx1 hx2
          (repeat fail)
          refine vo_mull (by decide) ?_
          (repeat fail)
          obtain ⟨d, S3, e3, T3, F3, l3, u3⟩ := draw_n (2 * 20 + 1) (T2.app (cs := [Cell.lst [strW "plus", strW "minus"]]))
          refine vf_of e3 ?_
          (repeat fail)
          have := r (x (d - 20)) S3 (hx2 _) T3 (F01.trans (F2.trans (fr_app.trans F3)))
          rw [hx1] at this
          exact this
        rcases hm with hm | hm
        · rw [hm]
          refine vo_ixl (w := strW "plus") (get_mid (cs := [])) rfl ?_
          exact fin "plus" (fun m => .pl p m) (fun m => rfl) fun m => by
            show (decide _ && decide _) = true
            rw [decide_eq_true hpa, decide_eq_true rfl]
            rfl
        · rw [hm]
          refine vo_ixl (w := strW "minus") (get_mid (cs := [])) rfl ?_
          exact fin "minus" (fun m => .mi p m) (fun m => rfl) fun m => by
            show (decide _ && decide _) = true
            rw [decide_eq_true hpa, decide_eq_true rfl]
            rfl
      · (repeat fail)
        exact read
    · rw [e]
      (repeat fail)
      refine cb_df hne2 ?_
      (repeat fail)
      exact read
set_option maxHeartbeats 4000000
/-! ### the law -/
theorem cut_tk {ws : List W} {k : Int} (h0 : 0 ≤ k) : cutW ws none (some k) = ws.take k.toNat := by
  unfold cutW HT.sIx
  simp only []
  rw [if_neg (by omega)]
  by_cases h : k.toNat ≤ ws.length
  · rw [Nat.min_eq_left h]
    rfl
  · rw [Nat.min_eq_right (by omega), List.take_of_length_le (show ws.length ≤ k.toNat by omega)]
    exact List.take_of_length_le (by simp)
theorem rng_i {n i : Nat} {w : W} (ew : ((List.range n).map fun (i : Nat) => W.int (0 + (i : Int)))[i]? = some w) : w = .int (i : Int) ∧ i < n := by
  have hi : i < n := by
    have := (List.getElem?_eq_some_iff.mp ew).1
    simpa using this
  have e2 : ((List.range n).map fun (i : Nat) => W.int (0 + (i : Int)))[i]? = some (.int (0 + (i : Int))) := by
    rw [List.getElem?_map, List.getElem?_range hi]
    rfl
  rw [e2, Int.zero_add] at ew
  exact ⟨(Option.some.inj ew).symm, hi⟩
set_option maxHeartbeats 4000000
/-! ### whether it is a letter: both ways -/
theorem whole_t {ws : List W} {S : Store} {R : W → Store → Prop} (q : R (.bl false) S) : Vf f__law_whole [.tup ws] S R := by
  refine o__law_whole ?_; unfold d__law_whole
  (repeat fail)
  exact q
def hasAt (ks : List Q) (i : Nat) (x : L) : Bool := match ks[i]? with
  | some k => k.has x
  | none => false
theorem e1_has {a : Q} {i : Nat} {x : L} : (Q.e1 a).has (.cs i x) = hasAt [a] i x := by
  match i with
  | 0 => rfl
  | _ + 1 => rfl
theorem e2_has {a b : Q} {i : Nat} {x : L} : (Q.e2 a b).has (.cs i x) = hasAt [a, b] i x := by
  match i with
  | 0 => rfl
  | 1 => rfl
  | _ + 2 => rfl
theorem e3_has {a b c : Q} {i : Nat} {x : L} : (Q.e3 a b c).has (.cs i x) = hasAt [a, b, c] i x := by
  match i with
  | 0 => rfl
  | 1 => rfl
  | 2 => rfl
  | _ + 3 => rfl
/-- how a kind of cases takes letters -/
structure Eis (q : Q) (ks : List Q) : Prop where
  w : q.w = .tup [strW "either", .tup (ks.map Q.w)]
  len : ks.length ≤ 3
  ne : ks ≠ []
  has : ∀ i x, q.has (.cs i x) = hasAt ks i x
  no : ∀ l, (∀ i x, l ≠ .cs i x) → q.has l = false
  sub : ∀ s, q.sub s = match s with | .at i => ks[i]? | _ => none
theorem eis1 {a : Q} : Eis (.e1 a) [a] := ⟨rfl, by simp, by simp, fun _ _ => e1_has, fun l h => by cases l <;> first | rfl | exact absurd rfl (h _ _), fun s => by
  cases s with
  | «at» i => match i with
    | 0 => rfl
    | _ + 1 => rfl
  | _ => rfl⟩
theorem eis2 {a b : Q} : Eis (.e2 a b) [a, b] := ⟨rfl, by simp, by simp, fun _ _ => e2_has, fun l h => by cases l <;> first | rfl | exact absurd rfl (h _ _), fun s => by
  cases s with
  | «at» i => match i with
    | 0 => rfl
    | 1 => rfl
    | _ + 2 => rfl
  | _ => rfl⟩
theorem eis3 {a b c : Q} : Eis (.e3 a b c) [a, b, c] := ⟨rfl, by simp, by simp, fun _ _ => e3_has, fun l h => by cases l <;> first | rfl | exact absurd rfl (h _ _), fun s => by
  cases s with
  | «at» i => match i with
    | 0 => rfl
    | 1 => rfl
    | 2 => rfl
    | _ + 3 => rfl
  | _ => rfl⟩
theorem isl_full : ∀ {n : Nat} {k : Q}, k.dp ≤ n → ∀ {l : L} {S : Store} {R : W → Store → Prop}, (∀ S', Kp S S' → R (.bl (k.has l)) S') → Vf (f__law_is_letter n) [k.w, l.w] S R := by
  intro n
  induction n with
  | zero => intro k h; cases k <;> simp [Q.dp] at h
  | succ n ih =>
    intro k hn l S R q
    have either : ∀ {ks : List Q}, Eis k ks → (∀ a ∈ ks, a.dp ≤ n) → Vf (f__law_is_letter (n + 1)) [k.w, l.w] S R := by
      intro ks E hk
      rw [E.w]
      refine o__law_is_letter ?_; unfold d__law_is_letter
      cases l with
      | cs i x =>
        have hq := fun S' k' => E.has i x ▸ q S' k'
        simp only [L.w]
        (repeat (first | fail | with_reducible refine vs_seq (vs_if ?_)))
        refine whole_i ?_
        (repeat (first | fail | with_reducible refine vs_seq (vs_if ?_)))
        refine cb_df (by omega) ?_
        (repeat fail)
        have hl := E.len
        by_cases hi : i < ks.length
        · refine cb_df (by rw [List.length_map]; omega) ?_
          (repeat (first | fail | with_reducible refine vs_seq (vs_if ?_)))
          have e := List.getElem?_eq_getElem hi
          refine vo_ix (atI_of (by omega) (by rw [Int.toNat_natCast, List.getElem?_map, e]; rfl)) ?_
          (repeat fail)
          refine ih (hk _ (List.getElem_mem hi)) fun S' k' => ?_
          have := hq S' k'
          unfold hasAt at this
          rw [e] at this
          exact this
        · refine cb_dt (by rw [List.length_map]; omega) ?_
          (repeat (first | fail | with_reducible refine vs_seq (vs_if ?_)))
          have := hq S (Kp.refl S)
          unfold hasAt at this
          rw [List.getElem?_eq_none (by omega)] at this
          exact this
      | _ =>
        have hq := q S (Kp.refl S)
        rw [E.no _ (by intro _ _ h; cases h)] at hq
        simp only [L.w]
        (repeat (first | fail | with_reducible refine vs_seq (vs_if ?_)))
        exact hq
    cases k with
    | names ns =>
      refine o__law_is_letter ?_; unfold d__law_is_letter
      cases l <;> simp only [Q.w, L.w] <;> (repeat (first | fail | with_reducible refine vs_seq (vs_if ?_)))
      · refine instr_v ?_
        exact q S (Kp.refl S)
      all_goals exact q S (Kp.refl S)
    | zz =>
      refine o__law_is_letter ?_; unfold d__law_is_letter
      cases l <;> simp only [Q.w, L.w] <;> (repeat (first | fail | with_reducible refine vs_seq (vs_if ?_)))
      · exact whole_s (q S (Kp.refl S))
      · exact whole_i (q S (Kp.refl S))
      all_goals exact whole_t (q S (Kp.refl S))
    | pr a b =>
      have hn' : max a.dp b.dp + 1 ≤ n + 1 := hn
      refine o__law_is_letter ?_; unfold d__law_is_letter
      cases l with
      | pr x y =>
        simp only [Q.w, L.w]
        (repeat (first | fail | with_reducible refine vs_seq (vs_if ?_)))
        refine ih (by omega) fun S1 k1 => ?_
        cases e1 : a.has x with
        | false =>
          (repeat fail)
          have := q S1 k1
          simp only [Q.has, e1, Bool.false_and] at this
          exact this
        | true =>
          (repeat fail)
          refine ih (by omega) fun S2 k2 => ?_
          have := q S2 (k1.trans k2)
          simp only [Q.has, e1, Bool.true_and] at this
          exact this
      | _ =>
        simp only [Q.w, L.w]
        (repeat (first | fail | with_reducible refine vs_seq (vs_if ?_)))
        exact q S (Kp.refl S)
    | mb a =>
      have hn' : a.dp + 1 ≤ n + 1 := hn
      refine o__law_is_letter ?_; unfold d__law_is_letter
      cases l with
      | so x =>
        simp only [Q.w, L.w]
        (repeat (first | fail | with_reducible refine vs_seq (vs_if ?_)))
        refine ih (by omega) fun S1 k1 => ?_
        exact q S1 k1
      | no =>
        simp only [Q.w, L.w]
        (repeat (first | fail | with_reducible refine vs_seq (vs_if ?_)))
        exact q S (Kp.refl S)
      | _ =>
        simp only [Q.w, L.w]
        (repeat (first | fail | with_reducible refine vs_seq (vs_if ?_)))
        first | exact q S (Kp.refl S) | (rw [sd "pair" "some"]; exact q S (Kp.refl S)) | (rw [sd "case" "some"]; exact q S (Kp.refl S))
    | e1 a =>
      have hn' : a.dp + 1 ≤ n + 1 := hn
      exact either eis1 (by simp only [List.mem_cons, List.mem_nil_iff, or_false, forall_eq]; omega)
    | e2 a b =>
      have hn' : max a.dp b.dp + 1 ≤ n + 1 := hn
      refine either eis2 fun x hx => ?_
      simp only [List.mem_cons, List.mem_nil_iff, or_false] at hx
      rcases hx with rfl | rfl <;> omega
    | e3 a b c =>
      have hn' : max a.dp (max b.dp c.dp) + 1 ≤ n + 1 := hn
      refine either eis3 fun x hx => ?_
      simp only [List.mem_cons, List.mem_nil_iff, or_false] at hx
      rcases hx with rfl | rfl | rfl <;> omega
/-! the program's -/
theorem num_i {i : Int} {S : Store} {R : W → Store → Prop} (q : R (.bl true) S) : Vf f__is_number [.int i] S R := by
  refine o__is_number ?_; unfold d__is_number
  (repeat fail)
  exact q
theorem num_s {x : Str} {S : Store} {R : W → Store → Prop} (q : R (.bl false) S) : Vf f__is_number [.str x] S R := by
  refine o__is_number ?_; unfold d__is_number
  (repeat fail)
  exact q
theorem num_t {ws : List W} {S : Store} {R : W → Store → Prop} (q : R (.bl false) S) : Vf f__is_number [.tup ws] S R := by
  refine o__is_number ?_; unfold d__is_number
  (repeat fail)
  exact q
theorem form_v {ws : List W} {hd h : Str} {r : List W} {m : Nat} {k : Int} {b : Bool} {S : Store} {R : W → Store → Prop} (e : ws = .str hd :: r) (hm : ws.length = m) (hb : (decide ((m : Int) = k) && decide (hd = h)) = b) (q : R (.bl b) S) : Vf f__is_form [.tup ws, .str h, .int k] S R := by
  subst e
  refine o__is_form ?_; unfold d__is_form
  (repeat fail)
  rw [hm]
  cases e1 : decide ((m : Int) = k) with
  | false =>
    rw [e1, Bool.false_and] at hb
    subst hb
    (repeat fail)
    exact q
  | true =>
    rw [e1, Bool.true_and] at hb
    subst hb
    (repeat fail)
    exact q
theorem icase_v {ks : List W} {i : Nat} {S : Store} {R : W → Store → Prop} (q : R (.bl (decide (i < ks.length))) S) : Vf f__is_case [.tup ks, .int (i : Int)] S R := by
  refine o__is_case ?_; unfold d__is_case
  (repeat fail)
  refine num_i ?_
  (repeat fail)
  refine cb_dt (by omega) ?_
  (repeat fail)
  have : decide ((i : Int) < (ks.length : Int)) = decide (i < ks.length) := by
    by_cases h : i < ks.length
    · rw [decide_eq_true h, decide_eq_true (by omega)]
    · rw [decide_eq_false h, decide_eq_false (by omega)]
  rw [this]
  exact q
theorem eqno_v {l : L} (h : l.wf) (hd : l.dp ≤ 60) {S : Store} {R : W → Store → Prop} (q : R (.bl (decide (l = .no))) S) : Vo gEq l.w (.tup [strW "none"]) S R := by
  obtain ⟨b, e, _, hb⟩ := eq_pl (L.okw h) (ok_t1 (n := 0) (ok_s "none")) L.pl (pl_t1 (.str _)) (by omega) (by omega) S
  have : b = decide (l = .no) := by
    have h2 : b = true ↔ l = .no := hb.trans ⟨fun e => by
      cases l with
      | no => rfl
      | _ => simp [L.w] at e, fun e => by rw [e]; rfl⟩
    by_cases hl : l = .no
    · rw [decide_eq_true hl, h2.mpr hl]
    · rw [decide_eq_false hl]
      cases b with
      | false => rfl
      | true => exact absurd (h2.mp rfl) hl
  rw [this] at e
  exact ⟨_, _, e, q⟩
theorem innm_v {l : L} (h : l.wf) (hd : l.dp ≤ 50) {ns : List Str} (hn : ∀ x ∈ ns, SOK 6 x) {S : Store} {R : W → Store → Prop} (q : R (.bl ((Q.names ns).has l)) S) : Vo gIn l.w (.tup (ns.map .str)) S R := by
  cases l with
  | nm x => exact instr_v q
  | _ =>
    obtain ⟨b, e, hb⟩ := in_names (S := S) (L.okw h) (by omega) hn
    rw [hb rfl] at e
    exact ⟨_, _, e, q⟩
set_option maxHeartbeats 4000000
theorem pisl_v : ∀ {n : Nat} {k : Q}, k.wf → k.dp ≤ n → ∀ {l : L}, l.wf → l.dp ≤ 50 → ∀ {S : Store} {R : W → Store → Prop}, (∀ S', Kp S S' → R (.bl (k.has l)) S') → Vf (f_is_letter n) [k.w, l.w] S R := by
  intro n
  induction n with
  | zero => intro k _ h; cases k <;> simp [Q.dp] at h
  | succ n ih =>
    intro k kw hn l lw ld S R q
    have either : ∀ {ks : List Q}, Eis k ks → (∀ a ∈ ks, a.wf ∧ a.dp ≤ n) → Vf (f_is_letter (n + 1)) [k.w, l.w] S R := by
      intro ks E hk
      rw [E.w]
      refine o_is_letter ?_; unfold d_is_letter
      cases l with
      | cs i x =>
        have ld' : x.dp + 1 ≤ 50 := ld
        have hq := fun S' k' => E.has i x ▸ q S' k'
        simp only [L.w]
        (repeat (first | fail | with_reducible refine vs_seq (vs_if ?_)))
        refine form_v (m := 3) (b := true) rfl rfl (by decide +kernel) ?_
        (repeat fail)
        refine icase_v ?_
        have hl := E.len
        by_cases hi : i < ks.length
        · rw [decide_eq_true (by rw [List.length_map]; exact hi)]
          (repeat fail)
          have e := List.getElem?_eq_getElem hi
          refine vo_ix (atI_of (by omega) (by rw [Int.toNat_natCast, List.getElem?_map, e]; rfl)) ?_
          (repeat fail)
          obtain ⟨a1, a2⟩ := hk _ (List.getElem_mem hi)
          refine ih (l := x) a1 a2 lw (by omega) fun S' k' => ?_
          have := hq S' k'
          unfold hasAt at this
          rw [e] at this
          exact this
        · rw [decide_eq_false (by rw [List.length_map]; exact hi)]
          (repeat fail)
          have := hq S (Kp.refl S)
          unfold hasAt at this
          rw [List.getElem?_eq_none (by omega)] at this
          exact this
      | _ =>
        have hq := q S (Kp.refl S)
        rw [E.no _ (by intro _ _ h; cases h)] at hq
        simp only [L.w]
        (repeat (first | fail | with_reducible refine vs_seq (vs_if ?_)))
        first | exact hq | (refine form_v (m := 3) (b := false) rfl rfl (by decide +kernel) ?_; (repeat fail); exact hq) | (refine form_v (m := 2) (b := false) rfl rfl (by decide +kernel) ?_; (repeat fail); exact hq) | (refine form_v (m := 1) (b := false) rfl rfl (by decide +kernel) ?_; (repeat fail); exact hq)
    cases k with
    | names ns =>
      refine o_is_letter ?_; unfold d_is_letter
      simp only [Q.w]
      (repeat (first | fail | with_reducible refine vs_seq (vs_if ?_)))
      refine innm_v lw ld kw.2.2.2 ?_
      exact q S (Kp.refl S)
    | zz =>
      refine o_is_letter ?_; unfold d_is_letter
      cases l <;> simp only [Q.w, L.w] <;> (repeat (first | fail | with_reducible refine vs_seq (vs_if ?_)))
      · exact num_s (q S (Kp.refl S))
      · exact num_i (q S (Kp.refl S))
      all_goals exact num_t (q S (Kp.refl S))
    | pr a b =>
      have hn' : max a.dp b.dp + 1 ≤ n + 1 := hn
      refine o_is_letter ?_; unfold d_is_letter
      cases l with
      | pr x y =>
        have ld' : max x.dp y.dp + 1 ≤ 50 := ld
        simp only [Q.w, L.w]
        (repeat (first | fail | with_reducible refine vs_seq (vs_if ?_)))
        refine form_v (m := 3) (b := true) rfl rfl (by decide +kernel) ?_
        (repeat fail)
        refine ih kw.1 (by omega) lw.1 (by omega) fun S1 k1 => ?_
        cases e1 : a.has x with
        | false =>
          (repeat fail)
          have := q S1 k1
          simp only [Q.has, e1, Bool.false_and] at this
          exact this
        | true =>
          (repeat fail)
          refine ih kw.2 (by omega) lw.2 (by omega) fun S2 k2 => ?_
          have := q S2 (k1.trans k2)
          simp only [Q.has, e1, Bool.true_and] at this
          exact this
      | _ =>
        simp only [Q.w, L.w]
        (repeat (first | fail | with_reducible refine vs_seq (vs_if ?_)))
        first | exact q S (Kp.refl S) | (refine form_v (m := 3) (b := false) rfl rfl (by decide +kernel) ?_; (repeat fail); exact q S (Kp.refl S)) | (refine form_v (m := 2) (b := false) rfl rfl (by decide +kernel) ?_; (repeat fail); exact q S (Kp.refl S)) | (refine form_v (m := 1) (b := false) rfl rfl (by decide +kernel) ?_; (repeat fail); exact q S (Kp.refl S))
    | mb a =>
      have hn' : a.dp + 1 ≤ n + 1 := hn
      have nt : ∀ {ws : List W}, l.w = .tup ws → Vo gEq (.tup ws) (.tup [strW "none"]) S (fun w s => w = .bl (decide (l = .no)) ∧ s = S) := fun e => by
        rw [← e]
        exact eqno_v lw (by omega) ⟨rfl, rfl⟩
      refine o_is_letter ?_; unfold d_is_letter
      cases l with
      | nm x => simp only [Q.w, L.w]; (repeat (first | fail | with_reducible refine vs_seq (vs_if ?_))); exact q S (Kp.refl S)
      | nu x => simp only [Q.w, L.w]; (repeat (first | fail | with_reducible refine vs_seq (vs_if ?_))); exact q S (Kp.refl S)
      | so x =>
        have ld' : x.dp + 1 ≤ 50 := ld
        obtain ⟨_, _, e, rfl, rfl⟩ := nt rfl
        simp only [Q.w, L.w]
        (repeat (first | fail | with_reducible refine vs_seq (vs_if ?_)))
        refine vo_of e ?_
        rw [decide_eq_false (by simp)]
        (repeat fail)
        refine form_v (m := 2) (b := true) rfl rfl (by decide +kernel) ?_
        (repeat fail)
        refine ih (k := a) (l := x) kw (by omega) lw (by omega) fun S1 k1 => ?_
        exact q S1 k1
      | no =>
        obtain ⟨_, _, e, rfl, rfl⟩ := nt rfl
        simp only [Q.w, L.w]
        (repeat (first | fail | with_reducible refine vs_seq (vs_if ?_)))
        refine vo_of e ?_
        rw [decide_eq_true rfl]
        (repeat fail)
        exact q _ (Kp.refl _)
      | pr x y =>
        obtain ⟨_, _, e, rfl, rfl⟩ := nt rfl
        simp only [Q.w, L.w]
        (repeat (first | fail | with_reducible refine vs_seq (vs_if ?_)))
        refine vo_of e ?_
        rw [decide_eq_false (by simp)]
        (repeat fail)
        refine form_v (m := 3) (b := false) rfl rfl (by decide +kernel) ?_
        (repeat fail)
        exact q _ (Kp.refl _)
      | cs i x =>
        obtain ⟨_, _, e, rfl, rfl⟩ := nt rfl
        simp only [Q.w, L.w]
        (repeat (first | fail | with_reducible refine vs_seq (vs_if ?_)))
        refine vo_of e ?_
        rw [decide_eq_false (by simp)]
        (repeat fail)
        refine form_v (m := 3) (b := false) rfl rfl (by decide +kernel) ?_
        (repeat fail)
        exact q _ (Kp.refl _)
    | e1 a =>
      have hn' : a.dp + 1 ≤ n + 1 := hn
      exact either eis1 (by simp only [List.mem_cons, List.mem_nil_iff, or_false, forall_eq]; exact ⟨kw, by omega⟩)
    | e2 a b =>
      have hn' : max a.dp b.dp + 1 ≤ n + 1 := hn
      refine either eis2 fun x hx => ?_
      simp only [List.mem_cons, List.mem_nil_iff, or_false] at hx
      rcases hx with rfl | rfl
      · exact ⟨kw.1, by omega⟩
      · exact ⟨kw.2, by omega⟩
    | e3 a b c =>
      have hn' : max a.dp (max b.dp c.dp) + 1 ≤ n + 1 := hn
      refine either eis3 fun x hx => ?_
      simp only [List.mem_cons, List.mem_nil_iff, or_false] at hx
      rcases hx with rfl | rfl | rfl
      · exact ⟨kw.1, by omega⟩
      · exact ⟨kw.2.1, by omega⟩
      · exact ⟨kw.2.2, by omega⟩
set_option maxHeartbeats 4000000
/-! ### the program's way along a kind -/
def Q.kvs : Q → List (L2.Key × W)
  | .pr a b => [(Sp.fi.k, a.w), (Sp.se.k, b.w)]
  | .e1 a => [((Sp.at 0).k, a.w)]
  | .e2 a b => [((Sp.at 0).k, a.w), ((Sp.at 1).k, b.w)]
  | .e3 a b c => [((Sp.at 0).k, a.w), ((Sp.at 1).k, b.w), ((Sp.at 2).k, c.w)]
  | .mb a => [(Sp.so.k, a.w)]
  | _ => []
theorem qkvs_sub {q : Q} {s : Sp} : valW q.kvs s.k = (q.sub s).map Q.w := by
  have n1 : ¬ (Sp.fi.k = Sp.se.k) := by decide +kernel
  have n2 : ¬ (Sp.fi.k = Sp.so.k) := by decide +kernel
  have n3 : ¬ (Sp.se.k = Sp.fi.k) := by decide +kernel
  have n4 : ¬ (Sp.se.k = Sp.so.k) := by decide +kernel
  have n5 : ¬ (Sp.so.k = Sp.fi.k) := by decide +kernel
  have n6 : ¬ (Sp.so.k = Sp.se.k) := by decide +kernel
  have m1 : ∀ i, ¬ (Sp.fi.k = (Sp.at i).k) := fun i => by simp [Sp.k]
  have m2 : ∀ i, ¬ (Sp.se.k = (Sp.at i).k) := fun i => by simp [Sp.k]
  have m3 : ∀ i, ¬ (Sp.so.k = (Sp.at i).k) := fun i => by simp [Sp.k]
  have m4 : ∀ i, ¬ ((Sp.at i).k = Sp.fi.k) := fun i => by simp [Sp.k]
  have m5 : ∀ i, ¬ ((Sp.at i).k = Sp.se.k) := fun i => by simp [Sp.k]
  have m6 : ∀ i, ¬ ((Sp.at i).k = Sp.so.k) := fun i => by simp [Sp.k]
  have m7 : ∀ i j, ((Sp.at i).k = (Sp.at j).k) ↔ i = j := fun i j => by
    show (Sum.inl (i : Int) = Sum.inl (j : Int)) ↔ _
    rw [Sum.inl.injEq]
    omega
  cases s with
  | «at» j =>
    cases q <;> simp [Q.kvs, Q.sub, valW, m1, m2, m3, m4, m5, m6, m7]
    · match j with
      | 0 => simp [m7]
      | _ + 1 => simp [m7]
    · match j with
      | 0 => simp [m7]
      | 1 => simp [m7]
      | _ + 2 => simp [m7]
    · match j with
      | 0 => simp [m7]
      | 1 => simp [m7]
      | 2 => simp [m7]
      | _ + 3 => simp [m7]
  | _ => cases q <;> simp [Q.kvs, Q.sub, valW, n1, n2, n3, n4, n5, n6, m1, m2, m3, m4, m5, m6, m7]
theorem vf_dict {p : Nat} {us : List W} {kvs : List (L2.Key × W)} {S : Store} {R : W → Store → Prop} (h : S[p]? = some (.lst us)) (hp : pairsW us = some kvs) (q : R (.loc S.length) (S ++ [.dct (mergeW [] kvs)])) : Vf gDict [.loc p] S R := by
  refine ⟨_, _, ?_, q⟩
  show (match lstW S (.loc p) with | some us => (match pairsW us with | some kvs => Res.ok (W.loc S.length) (S ++ [Cell.dct (mergeW [] kvs)]) | none => .bad) | none => .bad) = _
  rw [lst_loc h]
  dsimp only
  rw [hp]
theorem vu_le {ws : List W} {S : Store} {R : W → Store → Prop} (q : R (.loc S.length) (S ++ [.lst (numW 0 ws)])) : Vu gLE (.tup ws) S R := ⟨_, _, rfl, q⟩
theorem steps_v {q : Q} {S : Store} {R : W → Store → Prop} (r : ∀ p us S' kvs, Kp S S' → S'[p]? = some (.lst us) → pairsW us = some kvs → mergeW [] kvs = q.kvs → R (.loc p) S') : Vf f_steps_from [q.w] S R := by
  refine o_steps_from ?_; unfold d_steps_from
  cases q <;> simp only [Q.w] <;> (repeat (first | fail | with_reducible refine vs_seq (vs_if ?_)))
  · exact r _ _ _ _ kp_app (get_mid (cs := [])) rfl rfl
  · exact r _ _ _ _ kp_app (get_mid (cs := [])) rfl rfl
  · exact r _ _ _ _ kp_app (get_mid (cs := [])) rfl rfl
  · refine vu_le ?_
    exact r _ _ _ _ kp_app (get_mid (cs := [])) rfl rfl
  · refine vu_le ?_
    exact r _ _ _ _ kp_app (get_mid (cs := [])) rfl rfl
  · refine vu_le ?_
    exact r _ _ _ _ kp_app (get_mid (cs := [])) rfl rfl
  · exact r _ _ _ _ kp_app (get_mid (cs := [])) rfl rfl
theorem kind_at_v {l : Q} {p : List Sp} {S : Store} {R : W → Store → Prop} (q : ∀ S', Kp S S' → R (oQ (l.at p)) S') : Vf f_kind_at [l.w, pW p] S R := by
  refine o_kind_at ?_; unfold d_kind_at
  (repeat fail)
  refine ⟨p.map Sp.w, rfl, ?_⟩
  refine vl_inv (fun i ls s => ∃ (l' : Q) (a b : Option W), l.at (p.take i) = some l' ∧ ls = [some l'.w, some (pW p), a, b] ∧ Kp S s) (fun _ _ _ _ => trivial) ⟨l, none, none, rfl, rfl, Kp.refl S⟩ ?_ ?_
  · rintro i w ls s ew ⟨l', a, b, hl, rfl, hk⟩
    obtain ⟨z, ez, rfl⟩ : ∃ z, p[i]? = some z ∧ z.w = w := by
      rw [List.getElem?_map] at ew
      exact Option.map_eq_some_iff.mp ew
    refine ⟨_, dg_n2, ?_⟩
    (repeat fail)
    refine steps_v fun pp us S1 kvs k1 g1 e1 e2 => ?_
    (repeat fail)
    refine vf_dict g1 e1 ?_
    rw [e2]
    (repeat fail)
    refine vo_dnin (get_mid (cs := [])) key_sp ?_
    rw [qkvs_sub]
    cases es : l'.sub z with
    | none =>
      dsimp only [Option.map_none, Option.isSome_none]
      (repeat fail)
      have := q (S1 ++ [.dct l'.kvs]) ((hk.trans k1).trans kp_app)
      rw [qat_none hl ez es] at this
      exact this
    | some x =>
      dsimp only [Option.map_some, Option.isSome_some]
      (repeat fail)
      refine vo_dix (get_mid (cs := [])) key_sp (by rw [qkvs_sub, es]; rfl) ?_
      exact ⟨x, _, _, by rw [qat_take hl ez, es], rfl, (hk.trans k1).trans kp_app⟩
  · rintro ls s ⟨l', a, b, hl, rfl, hk⟩
    (repeat fail)
    rw [List.length_map, List.take_length] at hl
    have := q s hk
    rw [hl] at this
    exact this
/-! ### == of kinds -/
theorem eqoq_v {o : Option Q} {q : Q} (ho : ∀ x, o = some x → x.wf ∧ x.dp ≤ 30) (hw : q.wf) (hd : q.dp ≤ 30) {S : Store} {R : W → Store → Prop} (r : R (.bl (decide (o = some q))) S) : Vo gEq (oQ o) q.w S R := by
  cases o with
  | none =>
    obtain ⟨b, e, _, hb⟩ := eq_pl (x := .non) (n := 1) .non (Q.okw hw) .non Q.pl (by omega) (by omega) S
    have : b = false := by
      cases b with
      | false => rfl
      | true =>
        have := hb.mp rfl
        cases q <;> simp [Q.w] at this
    rw [this] at e
    refine ⟨_, _, e, ?_⟩
    simpa using r
  | some x =>
    obtain ⟨x1, x2⟩ := ho x rfl
    obtain ⟨b, e, _, hb⟩ := eq_pl (Q.okw x1) (Q.okw hw) Q.pl Q.pl (by omega) (by omega) S
    have h2 : b = true ↔ x = q := hb.trans ⟨Q.w_inj, fun e => by rw [e]⟩
    have : b = decide (some x = some q) := by
      by_cases hx : x = q
      · rw [h2.mpr hx, hx]
        simp
      · rw [decide_eq_false (by simpa using hx)]
        cases b with
        | false => rfl
        | true => exact absurd (h2.mp rfl) hx
    rw [this] at e
    exact ⟨_, _, e, r⟩
theorem eqqq_v {x q : Q} (xw : x.wf) (xd : x.dp ≤ 30) (hw : q.wf) (hd : q.dp ≤ 30) {S : Store} {R : W → Store → Prop} (r : R (.bl (decide (x = q))) S) : Vo gEq x.w q.w S R := by
  refine eqoq_v (o := some x) (fun y e => by cases e; exact ⟨xw, xd⟩) hw hd ?_
  simpa using r
theorem neqq_v {x q : Q} (xw : x.wf) (xd : x.dp ≤ 30) (hw : q.wf) (hd : q.dp ≤ 30) {S : Store} {R : W → Store → Prop} (r : R (.bl (!decide (x = q))) S) : Vo gNe x.w q.w S R := by
  obtain ⟨b, _, e, hb⟩ := eq_pl (Q.okw xw) (Q.okw hw) Q.pl Q.pl (by omega) (by omega) S
  have h2 : b = true ↔ x = q := hb.trans ⟨Q.w_inj, fun e => by rw [e]⟩
  have : b = decide (x = q) := by
    by_cases hx : x = q
    · rw [h2.mpr hx, decide_eq_true hx]
    · rw [decide_eq_false hx]
      cases b with
      | false => rfl
      | true => exact absurd (h2.mp rfl) hx
  rw [this] at e
  exact ⟨_, _, e, r⟩
/-! ### what a term gives, by the program -/
theorem sl_m {ws : List W} {S : Store} {R : W → Store → Prop} (us : List W) (h : cutW ws none (some (-1)) = us) (q : R (.tup us) S) : Vz (.tup ws) none (some (-1)) S R := ⟨_, S, by rw [slice_t, h], q⟩
theorem pgives_v {q0 : Q} {l : L} (hl : q0.has l = true) (hw : q0.wf) (hd : q0.dp ≤ 50) : ∀ {n : Nat} {t : T} {q : Q}, t.dp ≤ n → n ≤ 5 → t.suits q0 q = true → t.wf → ∀ {S : Store} {R : W → Store → Prop}, (∀ S', Kp S S' → R (oW (t.gives l)) S') → Vf (f_gives n) [t.w, l.w] S R := by
  intro n
  obtain ⟨lw, ld⟩ := has_wf hw hl
  induction n with
  | zero => intro t q h; cases t <;> simp [T.dp] at h
  | succ n ih =>
    intro t q hn h5 ht hwf S R r
    refine o_gives ?_; unfold d_gives
    cases t with
    | al x =>
      simp only [T.w]
      (repeat (first | fail | with_reducible refine vs_seq (vs_if ?_)))
      exact r S (Kp.refl S)
    | rd p =>
      simp only [T.w]
      (repeat (first | fail | with_reducible refine vs_seq (vs_if ?_)))
      refine part_at_v lw (by omega) fun S' k => ?_
      have hr : R (oW (l.at p)) S' := r S' k
      cases ea : l.at p with
      | none =>
        rw [ea] at hr
        simp only [oW]
        (repeat fail)
        exact hr
      | some x =>
        rw [ea] at hr
        simp only [oW]
        (repeat fail)
        refine isN_w ?_
        (repeat fail)
        exact hr
    | pl p m =>
      have ht' : (decide (q0.at p = some .zz) && decide (q = .zz)) = true := ht
      rw [Bool.and_eq_true] at ht'
      simp only [T.w]
      (repeat (first | fail | with_reducible refine vs_seq (vs_if ?_)))
      refine part_at_v lw (by omega) fun S' k => ?_
      have hr : R (oW ((l.at p).map fun x => .nu (x.num + m))) S' := r S' k
      cases ea : l.at p with
      | none =>
        rw [ea] at hr
        simp only [oW]
        (repeat fail)
        exact hr
      | some x =>
        obtain ⟨u, rfl⟩ := at_num hl (of_decide_eq_true ht'.1) ea
        rw [ea] at hr
        simp only [oW, L.w]
        (repeat fail)
        exact hr
    | mi p m =>
      have ht' : (decide (q0.at p = some .zz) && decide (q = .zz)) = true := ht
      rw [Bool.and_eq_true] at ht'
      simp only [T.w]
      (repeat (first | fail | with_reducible refine vs_seq (vs_if ?_)))
      refine part_at_v lw (by omega) fun S' k => ?_
      have hr : R (oW ((l.at p).map fun x => .nu (m - x.num))) S' := r S' k
      cases ea : l.at p with
      | none =>
        rw [ea] at hr
        simp only [oW]
        (repeat fail)
        exact hr
      | some x =>
        obtain ⟨u, rfl⟩ := at_num hl (of_decide_eq_true ht'.1) ea
        rw [ea] at hr
        simp only [oW, L.w]
        (repeat fail)
        exact hr
    | pr a b =>
      cases q <;> simp only [T.suits, Bool.false_eq_true, Bool.and_eq_true] at ht
      have hn' : max a.dp b.dp + 1 ≤ n + 1 := hn
      simp only [T.w]
      (repeat (first | fail | with_reducible refine vs_seq (vs_if ?_)))
      refine sl_n (k := 1) ?_
      refine ⟨[a.w, b.w], rfl, ?_⟩
      refine vc_two (r1 := oW (a.gives l)) (r2 := oW (b.gives l)) (fun _ _ _ _ => trivial) _ _ rfl rfl (fun s' => ?_) (fun s' => ?_) fun s' k hg => ?_
      · show Ve _ [some (T.w (.pr a b)), some l.w, some (strW "pair"), none, some a.w] s' _
        (repeat fail)
        exact ih (by omega) (by omega) ht.1 hwf.1 fun S' k => ⟨rfl, k⟩
      · show Ve _ [some (T.w (.pr a b)), some l.w, some (strW "pair"), none, some b.w] s' _
        (repeat fail)
        exact ih (by omega) (by omega) ht.2 hwf.2 fun S' k => ⟨rfl, k⟩
      (repeat fail)
      have wfA : ∀ t, a.gives l = some t → t.wf ∧ t.dp ≤ 55 := fun t e => by
        obtain ⟨u1, u2⟩ := gives_wf (q0 := q0) lw (by omega) hwf.1 e
        exact ⟨u1, by omega⟩
      have wfB : ∀ t, b.gives l = some t → t.wf ∧ t.dp ≤ 55 := fun t e => by
        obtain ⟨u1, u2⟩ := gives_wf (q0 := q0) lw (by omega) hwf.2 e
        exact ⟨u1, by omega⟩
      obtain ⟨bb, eb, _, hb⟩ := in_pl (x := .non) (n := 60) hg .non .non (by decide) (fun w hw => by
        simp only [List.mem_cons, List.mem_nil_iff, or_false] at hw
        rcases hw with rfl | rfl
        · exact oW_pl wfA
        · exact oW_pl wfB)
      rw [non2 hb] at eb
      refine vo_of eb ?_
      have hr : R (oW ((a.gives l).bind fun x => (b.gives l).map fun y => .pr x y)) s' := r s' k
      cases ea : a.gives l with
      | none =>
        rw [ea] at hr
        simp only [Option.isNone_none, Option.isNone_some, Bool.true_or, Bool.or_true, Bool.or_false]
        (repeat fail)
        exact hr
      | some x =>
        cases eb2 : b.gives l with
        | none =>
          rw [ea, eb2] at hr
          simp only [Option.isNone_none, Option.isNone_some, Bool.true_or, Bool.or_true, Bool.or_false]
          (repeat fail)
          exact hr
        | some y =>
          rw [ea, eb2] at hr hg
          simp only [Option.isNone_none, Option.isNone_some, Bool.true_or, Bool.or_true, Bool.or_false]
          (repeat fail)
          refine vo_ixl hg (w := x.w) rfl ?_
          (repeat fail)
          refine vo_ixl hg (w := y.w) rfl ?_
          (repeat fail)
          exact hr
    | cs i a =>
      have hn' : a.dp + 1 ≤ n + 1 := hn
      have go : ∃ q', a.suits q0 q' = true := by
        unfold T.suits at ht
        split at ht <;> first | contradiction | skip
        all_goals (rename_i he; cases he; exact ⟨_, ht⟩)
      obtain ⟨q', h1⟩ := go
      simp only [T.w]
      (repeat (first | fail | with_reducible refine vs_seq (vs_if ?_)))
      refine vo_ix (w := a.w) ?_ ?_
      · rfl
      (repeat fail)
      refine ih (by omega) (by omega) h1 hwf fun S' k => ?_
      have hr : R (oW ((a.gives l).map (.cs i))) S' := r S' k
      cases ea : a.gives l with
      | none =>
        rw [ea] at hr
        simp only [oW]
        (repeat fail)
        exact hr
      | some x =>
        rw [ea] at hr
        simp only [oW]
        (repeat fail)
        refine isN_w ?_
        (repeat fail)
        refine sl_m [strW "case", .int (i : Int)] rfl ?_
        (repeat fail)
        refine cat_v (by simp) ?_
        exact hr
    | so a =>
      have hn' : a.dp + 1 ≤ n + 1 := hn
      cases q <;> simp only [T.suits, Bool.false_eq_true] at ht
      simp only [T.w]
      (repeat (first | fail | with_reducible refine vs_seq (vs_if ?_)))
      refine vo_ix (w := a.w) ?_ ?_
      · rfl
      (repeat fail)
      refine ih (by omega) (by omega) ht hwf fun S' k => ?_
      have hr : R (oW ((a.gives l).map .so)) S' := r S' k
      cases ea : a.gives l with
      | none =>
        rw [ea] at hr
        simp only [oW]
        (repeat fail)
        exact hr
      | some x =>
        rw [ea] at hr
        simp only [oW]
        (repeat fail)
        refine isN_w ?_
        (repeat fail)
        refine sl_m [strW "some"] rfl ?_
        (repeat fail)
        refine cat_v (by simp) ?_
        exact hr
set_option maxHeartbeats 4000000
/-! ### whether a term fits: both ways -/
theorem suits_cs {k : Q} {q : Q} {ks : List Q} (E : Eis q ks) {i : Nat} {t : T} : (T.cs i t).suits k q = (match ks[i]? with | some a => t.suits k a | none => false) := by
  have key : ∀ (q : Q) (ks : List Q), (q = .e1 (ks.headD .zz) ∧ ks.length = 1) ∨ (∃ a b, q = .e2 a b ∧ ks = [a, b]) ∨ (∃ a b c, q = .e3 a b c ∧ ks = [a, b, c]) → (T.cs i t).suits k q = (match ks[i]? with | some a => t.suits k a | none => false) := by
    rintro q ks (⟨rfl, h⟩ | ⟨a, b, rfl, rfl⟩ | ⟨a, b, c, rfl, rfl⟩)
    · match ks, h with
      | [a], _ =>
        match i with
        | 0 => rfl
        | _ + 1 => simp [T.suits]
    · match i with
      | 0 => rfl
      | 1 => rfl
      | _ + 2 => simp [T.suits]
    · match i with
      | 0 => rfl
      | 1 => rfl
      | 2 => rfl
      | _ + 3 => simp [T.suits]
  apply key
  have hs := E.sub
  have h0 := hs (.at 0)
  have h1 := hs (.at 1)
  have h2 := hs (.at 2)
  have h3 := hs (.at 3)
  have hl := E.len
  have hne := E.ne
  match ks, hl, hne with
  | [a], _, _ =>
    cases q <;> simp [Q.sub] at h0 h1 h2
    exact .inl ⟨by rw [h0]; rfl, rfl⟩
  | [a, b], _, _ =>
    cases q <;> simp [Q.sub] at h0 h1 h2
    exact .inr (.inl ⟨_, _, rfl, by rw [h0, h1]⟩)
  | [a, b, c], _, _ =>
    cases q <;> simp [Q.sub] at h0 h1 h2
    exact .inr (.inr ⟨_, _, _, rfl, by rw [h0, h1, h2]⟩)
theorem suits_no {k : Q} {q : Q} {i : Nat} {t : T} (h : ∀ ks, ¬ Eis q ks) : (T.cs i t).suits k q = false := by
  cases q with
  | e1 a => exact absurd eis1 (h _)
  | e2 a b => exact absurd eis2 (h _)
  | e3 a b c => exact absurd eis3 (h _)
  | _ => simp [T.suits]
theorem eis_or (q : Q) : (∃ ks, Eis q ks) ∨ ((∀ ks, ¬ Eis q ks) ∧ ∃ hd r, q.w = .tup (strW hd :: r) ∧ Str.ofString hd ≠ Str.ofString "either") := by
  have no : ∀ {hd : String} {r : List W} {q : Q}, q.w = .tup (strW hd :: r) → Str.ofString hd ≠ Str.ofString "either" → ∀ ks, ¬ Eis q ks := fun e n ks E => by
    have := e.symm.trans E.w
    injection this with this
    injection this with this
    injection this with this
    exact n this
  cases q with
  | e1 a => exact .inl ⟨_, eis1⟩
  | e2 a b => exact .inl ⟨_, eis2⟩
  | e3 a b c => exact .inl ⟨_, eis3⟩
  | names ns => exact .inr ⟨no rfl (by decide +kernel), "names", _, rfl, by decide +kernel⟩
  | zz => exact .inr ⟨no rfl (by decide +kernel), "integers", _, rfl, by decide +kernel⟩
  | pr a b => exact .inr ⟨no rfl (by decide +kernel), "pair", _, rfl, by decide +kernel⟩
  | mb a => exact .inr ⟨no rfl (by decide +kernel), "maybe", _, rfl, by decide +kernel⟩
theorem Eis.mem {q : Q} {ks : List Q} (E : Eis q ks) (hw : q.wf) : ∀ a ∈ ks, a.wf ∧ a.dp + 1 ≤ q.dp := fun a ha => by
  obtain ⟨i, hi⟩ := List.getElem?_of_mem ha
  have hs : q.sub (.at i) = some a := (E.sub (.at i)).trans hi
  unfold Q.sub at hs
  split at hs <;> cases hs
  all_goals first | contradiction | skip
  · exact ⟨hw, Nat.le_refl _⟩
  · exact ⟨hw.1, by show _ + 1 ≤ max _ _ + 1; omega⟩
  · exact ⟨hw.2, by show _ + 1 ≤ max _ _ + 1; omega⟩
  · exact ⟨hw.1, by show _ + 1 ≤ max _ (max _ _) + 1; omega⟩
  · exact ⟨hw.2.1, by show _ + 1 ≤ max _ (max _ _) + 1; omega⟩
  · exact ⟨hw.2.2, by show _ + 1 ≤ max _ (max _ _) + 1; omega⟩
theorem at_ok {q0 : Q} (hw0 : q0.wf) (hd0 : q0.dp ≤ 30) {p : List Sp} : ∀ x, q0.at p = some x → x.wf ∧ x.dp ≤ 30 := fun x e => by
  obtain ⟨a, b, _⟩ := Q.at_wf p hw0 e
  exact ⟨a, by omega⟩
theorem suitsF_v {q0 : Q} (hw0 : q0.wf) (hd0 : q0.dp ≤ 30) : ∀ {n : Nat} {t : T} {q : Q}, t.dp ≤ n → q.wf → q.dp ≤ 4 → ∀ {S : Store} {R : W → Store → Prop}, (∀ S', Kp S S' → R (.bl (t.suits q0 q)) S') → Vf (f__law_term_suits n) [q0.w, q.w, t.w] S R := by
  intro n
  induction n with
  | zero => intro t q h; cases t <;> simp [T.dp] at h
  | succ n ih =>
    intro t q hn hw hd S R r
    have num : ∀ {p : List Sp} {m : Int} {s : String}, (∀ S', Kp S S' → R (.bl (decide (q0.at p = some .zz) && decide (q = .zz))) S') → Str.ofString s = Str.ofString "plus" ∨ Str.ofString s = Str.ofString "minus" → Vf (f__law_term_suits (n + 1)) [q0.w, q.w, .tup [strW s, pW p, .int m]] S R := by
      intro p m s r hs
      refine o__law_term_suits ?_; unfold d__law_term_suits
      have hq : ∃ hd2 r2, q.w = .tup (strW hd2 :: r2) ∧ decide (Str.ofString hd2 = Str.ofString "integers") = decide (q = .zz) := by
        cases q with
        | zz => exact ⟨"integers", _, rfl, by rw [decide_eq_true rfl, decide_eq_true rfl]⟩
        | names _ => exact ⟨"names", _, rfl, by rw [sd "names" "integers"]; rfl⟩
        | pr _ _ => exact ⟨"pair", _, rfl, by rw [sd "pair" "integers"]; rfl⟩
        | mb _ => exact ⟨"maybe", _, rfl, by rw [sd "maybe" "integers"]; rfl⟩
        | e1 _ => exact ⟨"either", _, rfl, by rw [sd "either" "integers"]; rfl⟩
        | e2 _ _ => exact ⟨"either", _, rfl, by rw [sd "either" "integers"]; rfl⟩
        | e3 _ _ _ => exact ⟨"either", _, rfl, by rw [sd "either" "integers"]; rfl⟩
      obtain ⟨hd2, r2, hq1, hq2⟩ := hq
      rw [hq1]
      rcases hs with hs | hs
      all_goals
        simp only [strW, hs]
        (repeat (first | fail | with_reducible refine vs_seq (vs_if ?_)))
        refine law_kind_at_v fun S' k => ?_
        have hr := r _ (k.trans (kp_app (cs := [Cell.lst [.str (Str.ofString "plus"), .str (Str.ofString "minus")]])))
        have hr0 := r S' k
        cases ea : q0.at p with
        | none =>
          simp only [oQ]
          rw [ea] at hr
          (repeat (first | fail | with_reducible refine vs_seq (vs_if ?_)))
          refine whole_i ?_
          (repeat fail)
          exact hr
        | some x =>
          rw [ea] at hr
          simp only [oQ]
          (repeat (first | fail | with_reducible refine vs_seq (vs_if ?_)))
          refine whole_i ?_
          (repeat fail)
          refine notN_q ?_
          (repeat fail)
          cases x <;> simp only [Q.w] <;> (repeat fail)
          · show R _ _
            rw [sd "names" "integers"]
            simpa using hr
          · show R _ _
            rw [hq2]
            simpa using hr
          · show R _ _
            rw [sd "pair" "integers"]
            simpa using hr
          · show R _ _
            rw [sd "either" "integers"]
            simpa using hr
          · show R _ _
            rw [sd "either" "integers"]
            simpa using hr
          · show R _ _
            rw [sd "either" "integers"]
            simpa using hr
          · show R _ _
            rw [sd "maybe" "integers"]
            simpa using hr
    cases t with
    | al l =>
      refine o__law_term_suits ?_; unfold d__law_term_suits
      simp only [T.w]
      (repeat (first | fail | with_reducible refine vs_seq (vs_if ?_)))
      refine isl_full (n := 4) hd fun S' k => ?_
      exact r S' k
    | rd p =>
      refine o__law_term_suits ?_; unfold d__law_term_suits
      simp only [T.w]
      (repeat (first | fail | with_reducible refine vs_seq (vs_if ?_)))
      refine law_kind_at_v fun S' k => ?_
      have hr : R (.bl (decide (q0.at p = some q))) S' := r S' k
      cases ea : q0.at p with
      | none =>
        rw [ea] at hr
        simp only [oQ]
        (repeat fail)
        show R _ _
        simpa using hr
      | some x =>
        rw [ea] at hr
        obtain ⟨x1, x2⟩ := at_ok hw0 hd0 x ea
        simp only [oQ]
        (repeat fail)
        refine notN_q ?_
        (repeat fail)
        refine eqqq_v x1 x2 hw (by omega) ?_
        show R _ _
        simpa using hr
    | pl p m => exact num r (.inl rfl)
    | mi p m => exact num r (.inr rfl)
    | pr a b =>
      have hn' : max a.dp b.dp + 1 ≤ n + 1 := hn
      refine o__law_term_suits ?_; unfold d__law_term_suits
      cases q with
      | pr x y =>
        simp only [T.w, Q.w]
        (repeat (first | fail | with_reducible refine vs_seq (vs_if ?_)))
        have hd' : max x.dp y.dp + 1 ≤ 4 := hd
        refine ih (by omega) hw.1 (by omega) fun S1 k1 => ?_
        cases e1 : a.suits q0 x with
        | false =>
          (repeat fail)
          have := r S1 k1
          simp only [T.suits, e1, Bool.false_and] at this
          exact this
        | true =>
          (repeat fail)
          refine ih (by omega) hw.2 (by omega) fun S2 k2 => ?_
          have := r S2 (k1.trans k2)
          simp only [T.suits, e1, Bool.true_and] at this
          exact this
      | _ =>
        simp only [T.w, Q.w]
        (repeat (first | fail | with_reducible refine vs_seq (vs_if ?_)))
        exact r S (Kp.refl S)
    | so a =>
      have hn' : a.dp + 1 ≤ n + 1 := hn
      refine o__law_term_suits ?_; unfold d__law_term_suits
      cases q with
      | mb x =>
        simp only [T.w, Q.w]
        (repeat (first | fail | with_reducible refine vs_seq (vs_if ?_)))
        have hd' : x.dp + 1 ≤ 4 := hd
        refine ih (t := a) (q := x) (by omega) hw (by omega) fun S1 k1 => ?_
        exact r S1 k1
      | _ =>
        simp only [T.w, Q.w]
        (repeat (first | fail | with_reducible refine vs_seq (vs_if ?_)))
        first | exact r S (Kp.refl S) | (simp only [sd "names" "integers", sd "names" "pair", sd "names" "either", sd "names" "maybe", sd "integers" "names", sd "integers" "pair", sd "integers" "either", sd "integers" "maybe", sd "pair" "names", sd "pair" "integers", sd "pair" "either", sd "pair" "maybe", sd "either" "names", sd "either" "integers", sd "either" "pair", sd "either" "maybe", sd "maybe" "names", sd "maybe" "integers", sd "maybe" "pair", sd "maybe" "either"]; exact r S (Kp.refl S))
    | cs i a =>
      have hn' : a.dp + 1 ≤ n + 1 := hn
      refine o__law_term_suits ?_; unfold d__law_term_suits
      rcases eis_or q with ⟨ks, E⟩ | ⟨hno, hd2, r2, hq, hne⟩
      · have hm := E.mem hw
        have hr := fun S' k' => suits_cs (k := q0) E (i := i) (t := a) ▸ r S' k'
        rw [E.w]
        simp only [T.w]
        (repeat (first | fail | with_reducible refine vs_seq (vs_if ?_)))
        refine whole_i ?_
        (repeat fail)
        refine cb_dt (by omega) ?_
        (repeat fail)
        by_cases hi : i < ks.length
        · refine cb_dt (by rw [List.length_map]; omega) ?_
          (repeat fail)
          have e := List.getElem?_eq_getElem hi
          refine vo_ix (atI_of (by omega) (by rw [Int.toNat_natCast, List.getElem?_map, e]; rfl)) ?_
          (repeat fail)
          obtain ⟨a1, a2⟩ := hm _ (List.getElem_mem hi)
          refine ih (t := a) (by omega) a1 (by omega) fun S1 k1 => ?_
          have := hr S1 k1
          rw [e] at this
          exact this
        · have hf : decide ((i : Int) < ((ks.map Q.w).length : Int)) = false := decide_eq_false (by rw [List.length_map]; omega)
          rw [hf]
          (repeat fail)
          have := hr S (Kp.refl S)
          rw [List.getElem?_eq_none (by omega)] at this
          exact this
      · have hr := r S (Kp.refl S)
        rw [suits_no hno] at hr
        rw [hq]
        simp only [T.w]
        (repeat (first | fail | with_reducible refine vs_seq (vs_if ?_)))
        refine cb_ndf hne ?_
        (repeat (first | fail | with_reducible refine vs_seq (vs_if ?_)))
        exact hr
theorem fits_v {q0 : Q} (hw0 : q0.wf) (hd0 : q0.dp ≤ 30) : ∀ {n : Nat} {t : T} {q : Q}, t.dp ≤ n → t.wf → q.wf → q.dp ≤ 4 → ∀ {S : Store} {R : W → Store → Prop}, (∀ S', Kp S S' → R (.bl (t.suits q0 q)) S') → Vf (f__fits n) [q0.w, q.w, t.w] S R := by
  intro n
  induction n with
  | zero => intro t q h; cases t <;> simp [T.dp] at h
  | succ n ih =>
    intro t q hn tw hw hd S R r
    have num : ∀ {p : List Sp} {m : Int} {s : String}, (∀ S', Kp S S' → R (.bl (decide (q0.at p = some .zz) && decide (q = .zz))) S') → Str.ofString s = Str.ofString "plus" ∨ Str.ofString s = Str.ofString "minus" → Vf (f__fits (n + 1)) [q0.w, q.w, .tup [strW s, pW p, .int m]] S R := by
      intro p m s r hs
      refine o__fits ?_; unfold d__fits
      rcases hs with hs | hs
      all_goals
        simp only [strW, hs]
        (repeat (first | fail | with_reducible refine vs_seq (vs_if ?_)))
        refine kind_at_v fun S' k => ?_
        have hr := r _ k
        (repeat fail)
        refine eqoq_v (q := .zz) (at_ok hw0 hd0) trivial (by decide) ?_
        cases ea : decide (q0.at p = some Q.zz) with
        | false =>
          rw [ea, Bool.false_and] at hr
          (repeat fail)
          exact hr
        | true =>
          rw [ea, Bool.true_and] at hr
          (repeat fail)
          exact eqqq_v (q := .zz) hw (by omega) trivial (by decide) hr
    cases t with
    | al l =>
      refine o__fits ?_; unfold d__fits
      simp only [T.w]
      (repeat (first | fail | with_reducible refine vs_seq (vs_if ?_)))
      refine pisl_v (n := 4) hw hd tw.1 tw.2 fun S' k => ?_
      exact r S' k
    | rd p =>
      refine o__fits ?_; unfold d__fits
      simp only [T.w]
      (repeat (first | fail | with_reducible refine vs_seq (vs_if ?_)))
      refine kind_at_v fun S' k => ?_
      (repeat fail)
      exact eqoq_v (at_ok hw0 hd0) hw (by omega) (r S' k)
    | pl p m => exact num r (.inl rfl)
    | mi p m => exact num r (.inr rfl)
    | pr a b =>
      have hn' : max a.dp b.dp + 1 ≤ n + 1 := hn
      refine o__fits ?_; unfold d__fits
      cases q with
      | pr x y =>
        simp only [T.w, Q.w]
        (repeat (first | fail | with_reducible refine vs_seq (vs_if ?_)))
        have hd' : max x.dp y.dp + 1 ≤ 4 := hd
        refine ih (by omega) tw.1 hw.1 (by omega) fun S1 k1 => ?_
        cases e1 : a.suits q0 x with
        | false =>
          (repeat fail)
          have := r S1 k1
          simp only [T.suits, e1, Bool.false_and] at this
          exact this
        | true =>
          (repeat fail)
          refine ih (by omega) tw.2 hw.2 (by omega) fun S2 k2 => ?_
          have := r S2 (k1.trans k2)
          simp only [T.suits, e1, Bool.true_and] at this
          exact this
      | _ =>
        simp only [T.w, Q.w]
        (repeat (first | fail | with_reducible refine vs_seq (vs_if ?_)))
        first | exact r S (Kp.refl S) | (simp only [sd "names" "integers", sd "names" "pair", sd "names" "either", sd "names" "maybe", sd "integers" "names", sd "integers" "pair", sd "integers" "either", sd "integers" "maybe", sd "pair" "names", sd "pair" "integers", sd "pair" "either", sd "pair" "maybe", sd "either" "names", sd "either" "integers", sd "either" "pair", sd "either" "maybe", sd "maybe" "names", sd "maybe" "integers", sd "maybe" "pair", sd "maybe" "either"]; exact r S (Kp.refl S))
    | so a =>
      have hn' : a.dp + 1 ≤ n + 1 := hn
      refine o__fits ?_; unfold d__fits
      cases q with
      | mb x =>
        simp only [T.w, Q.w]
        (repeat (first | fail | with_reducible refine vs_seq (vs_if ?_)))
        have hd' : x.dp + 1 ≤ 4 := hd
        refine ih (t := a) (q := x) (by omega) tw hw (by omega) fun S1 k1 => ?_
        exact r S1 k1
      | _ =>
        simp only [T.w, Q.w]
        (repeat (first | fail | with_reducible refine vs_seq (vs_if ?_)))
        first | exact r S (Kp.refl S) | (simp only [sd "names" "integers", sd "names" "pair", sd "names" "either", sd "names" "maybe", sd "integers" "names", sd "integers" "pair", sd "integers" "either", sd "integers" "maybe", sd "pair" "names", sd "pair" "integers", sd "pair" "either", sd "pair" "maybe", sd "either" "names", sd "either" "integers", sd "either" "pair", sd "either" "maybe", sd "maybe" "names", sd "maybe" "integers", sd "maybe" "pair", sd "maybe" "either"]; exact r S (Kp.refl S))
    | cs i a =>
      have hn' : a.dp + 1 ≤ n + 1 := hn
      refine o__fits ?_; unfold d__fits
      rcases eis_or q with ⟨ks, E⟩ | ⟨hno, hd2, r2, hq, hne⟩
      · have hm := E.mem hw
        have hr := fun S' k' => suits_cs (k := q0) E (i := i) (t := a) ▸ r S' k'
        rw [E.w]
        simp only [T.w]
        (repeat (first | fail | with_reducible refine vs_seq (vs_if ?_)))
        by_cases hi : i < ks.length
        · refine cb_dt (by rw [List.length_map]; omega) ?_
          (repeat fail)
          have e := List.getElem?_eq_getElem hi
          refine vo_ix (atI_of (by omega) (by rw [Int.toNat_natCast, List.getElem?_map, e]; rfl)) ?_
          (repeat fail)
          obtain ⟨a1, a2⟩ := hm _ (List.getElem_mem hi)
          refine ih (t := a) (by omega) tw a1 (by omega) fun S1 k1 => ?_
          have := hr S1 k1
          rw [e] at this
          exact this
        · have hf : decide ((i : Int) < ((ks.map Q.w).length : Int)) = false := decide_eq_false (by rw [List.length_map]; omega)
          rw [hf]
          (repeat fail)
          have := hr S (Kp.refl S)
          rw [List.getElem?_eq_none (by omega)] at this
          exact this
      · have hr := r S (Kp.refl S)
        rw [suits_no hno] at hr
        rw [hq]
        simp only [T.w]
        (repeat (first | fail | with_reducible refine vs_seq (vs_if ?_)))
        refine cb_df hne ?_
        (repeat (first | fail | with_reducible refine vs_seq (vs_if ?_)))
        rw [decide_eq_false hne]
        exact hr
set_option maxHeartbeats 4000000
/-! ### kinds and terms spoilt -/
theorem vc_seq {ws : List W} {st : Store → Prop} {g : DG} {vs : List Nat} {te : DE} {ls : Lo} {S : Store} {R : W → Store → Prop} (lsf : W → Lo) (F : W → W) (hst : ∀ s, Kp S s → st s) (hl : ws.length < 100000)
    (hg : ∀ w ∈ ws, g w (wipeW ls vs) = some (lsf w)) (he : ∀ w ∈ ws, ∀ s (Z : W → Store → Prop), Kp S s → (∀ s', Kp s s' → Z (F w) s') → Ve te (lsf w) s Z)
    (q : ∀ s', Kp S s' → s'[S.length]? = some (.lst (ws.map F)) → R (.loc S.length) s') : Vc ⟨ws, st⟩ g vs dYes te ls S R := by
  refine vc_inv (fun i acc s => acc = (ws.take i).map F ∧ Kp S s ∧ s[S.length]? = some (.lst acc)) (fun i acc s h => hst s h.2.1) ⟨by simp, kp_app, get_mid (cs := [])⟩ ?_ ?_
  · rintro i w acc s ew ⟨rfl, k, hg'⟩
    have ew : ws[i]? = some w := ew
    obtain ⟨hi', ew2⟩ := List.getElem?_eq_some_iff.mp ew
    have hm := List.mem_of_getElem? ew
    refine ⟨lsf w, hg w hm, vt_yes (cb_t ?_)⟩
    refine he w hm s _ k fun s' k' => ?_
    refine ⟨k'.2 _ _ hg', ?_, ?_, (k.trans k').put (Nat.le_refl _), get_set (k'.2 _ _ hg')⟩
    · rw [List.length_map, List.length_take]
      omega
    · rw [List.take_succ_eq_append_getElem hi', ew2, List.map_append]
      rfl
  · rintro acc s ⟨rfl, k, hg'⟩
    have hg' : s[S.length]? = some (.lst ((ws.take ws.length).map F)) := hg'
    rw [List.take_length] at hg'
    exact q s k hg'
theorem cb_share {b : Bool} {X Y : Prop} (y : Y) (x : Y → b = true → X) : Cb b X Y := ⟨fun h => x y h, fun _ => y⟩
def Q.turned : Q → Q
  | .names ns => .names ns.reverse
  | .zz => .zz
  | .pr a b => .pr a.turned b.turned
  | .e1 a => .e1 a.turned
  | .e2 a b => .e2 a.turned b.turned
  | .e3 a b c => .e3 a.turned b.turned c.turned
  | .mb a => .mb a.turned
theorem turned_wf : ∀ {q : Q}, q.wf → q.turned.wf ∧ q.turned.dp = q.dp
  | .names ns, h => ⟨⟨fun e => h.1 (List.reverse_eq_nil_iff.mp e), by rw [List.length_reverse]; exact h.2.1, (by unfold List.Nodup; rw [List.pairwise_reverse]; exact h.2.2.1.imp Ne.symm), fun x hx => h.2.2.2 x (List.mem_reverse.mp hx)⟩, rfl⟩
  | .zz, h => ⟨trivial, rfl⟩
  | .pr a b, h => ⟨⟨(turned_wf h.1).1, (turned_wf h.2).1⟩, by show max _ _ + 1 = max _ _ + 1; rw [(turned_wf h.1).2, (turned_wf h.2).2]⟩
  | .e1 a, h => ⟨(turned_wf (q := a) h).1, by show _ + 1 = _ + 1; rw [(turned_wf (q := a) h).2]⟩
  | .e2 a b, h => ⟨⟨(turned_wf h.1).1, (turned_wf h.2).1⟩, by show max _ _ + 1 = max _ _ + 1; rw [(turned_wf h.1).2, (turned_wf h.2).2]⟩
  | .e3 a b c, h => ⟨⟨(turned_wf h.1).1, (turned_wf h.2.1).1, (turned_wf h.2.2).1⟩, by show max _ (max _ _) + 1 = max _ (max _ _) + 1; rw [(turned_wf h.1).2, (turned_wf h.2.1).2, (turned_wf h.2.2).2]⟩
  | .mb a, h => ⟨(turned_wf (q := a) h).1, by show _ + 1 = _ + 1; rw [(turned_wf (q := a) h).2]⟩
theorem vu_rev {ws : List W} {S : Store} {R : W → Store → Prop} (q : R (.tup ws.reverse) S) : Vu gTupRev (.tup ws) S R := ⟨_, _, rfl, q⟩
theorem turned_v : ∀ {n : Nat} {q : Q}, q.dp ≤ n → ∀ {S : Store} {R : W → Store → Prop}, (∀ S', Kp S S' → R q.turned.w S') → Vf (f__law_turned n) [q.w] S R := by
  intro n
  induction n with
  | zero => intro q h; cases q <;> simp [Q.dp] at h
  | succ n ih =>
    intro q hn S R r
    have either : ∀ {ks : List Q}, q.w = .tup [strW "either", .tup (ks.map Q.w)] → q.turned.w = .tup [strW "either", .tup ((ks.map Q.turned).map Q.w)] → ks.length ≤ 3 → (∀ k ∈ ks, k.dp ≤ n) → Vf (f__law_turned (n + 1)) [q.w] S R := by
      intro ks e1 e2 hl hk
      rw [e1]
      refine o__law_turned ?_; unfold d__law_turned
      (repeat (first | fail | with_reducible refine vs_seq (vs_if ?_)))
      refine ⟨ks.map Q.w, rfl, ?_⟩
      have ex : ∀ w ∈ ks.map Q.w, ∃ k ∈ ks, w = k.w := fun w hw => by
        obtain ⟨k, hk, rfl⟩ := List.mem_map.mp hw
        exact ⟨k, hk, rfl⟩
      have fn : ∀ (k k' : Q), k.w = k'.w → k.turned.w = k'.turned.w := fun k k' e => by rw [Q.w_inj e]
      classical
      refine vc_seq (fun w => [some (.tup [strW "either", .tup (ks.map Q.w)]), some w]) (fun w => if h : ∃ k : Q, w = k.w then (Classical.choose h).turned.w else w) (fun _ _ => trivial) (by rw [List.length_map]; omega) (fun w _ => rfl) (fun w hw s Z _ z => ?_) fun s' k hg => ?_
      · obtain ⟨k, hk', rfl⟩ := ex w hw
        (repeat fail)
        refine ih (hk k hk') fun s1 k1 => ?_
        have := z s1 k1
        rw [dif_pos ⟨k, rfl⟩] at this
        rw [fn k _ (Classical.choose_spec (⟨k, rfl⟩ : ∃ k' : Q, k.w = k'.w))]
        exact this
      · (repeat fail)
        refine vf_tuple hg ?_
        have := r s' k
        rw [e2] at this
        have hm : (ks.map Q.w).map (fun w => if h : ∃ k : Q, w = k.w then (Classical.choose h).turned.w else w) = (ks.map Q.turned).map Q.w := by
          rw [List.map_map, List.map_map]
          refine List.map_congr_left fun k _ => ?_
          show (if h : ∃ k' : Q, k.w = k'.w then (Classical.choose h).turned.w else k.w) = k.turned.w
          rw [dif_pos ⟨k, rfl⟩]
          exact (fn k _ (Classical.choose_spec (⟨k, rfl⟩ : ∃ k' : Q, k.w = k'.w))).symm
        rw [hm]
        (repeat fail)
        exact this
    cases q with
    | names ns =>
      refine o__law_turned ?_; unfold d__law_turned
      simp only [Q.w]
      (repeat (first | fail | with_reducible refine vs_seq (vs_if ?_)))
      refine vu_rev ?_
      have := r S (Kp.refl S)
      rw [← List.map_reverse]
      (repeat fail)
      exact this
    | zz =>
      refine o__law_turned ?_; unfold d__law_turned
      simp only [Q.w]
      (repeat (first | fail | with_reducible refine vs_seq (vs_if ?_)))
      exact r S (Kp.refl S)
    | pr a b =>
      have hn' : max a.dp b.dp + 1 ≤ n + 1 := hn
      refine o__law_turned ?_; unfold d__law_turned
      simp only [Q.w]
      (repeat (first | fail | with_reducible refine vs_seq (vs_if ?_)))
      refine ih (by omega) fun S1 k1 => ?_
      (repeat fail)
      refine ih (by omega) fun S2 k2 => ?_
      (repeat fail)
      exact r S2 (k1.trans k2)
    | mb a =>
      have hn' : a.dp + 1 ≤ n + 1 := hn
      refine o__law_turned ?_; unfold d__law_turned
      simp only [Q.w]
      (repeat (first | fail | with_reducible refine vs_seq (vs_if ?_)))
      refine ih (by omega) fun S1 k1 => ?_
      (repeat fail)
      exact r S1 k1
    | e1 a =>
      have hn' : a.dp + 1 ≤ n + 1 := hn
      refine either (ks := [a]) rfl rfl (by simp) fun k hk => ?_
      rw [List.mem_singleton.mp hk]
      omega
    | e2 a b =>
      have hn' : max a.dp b.dp + 1 ≤ n + 1 := hn
      refine either (ks := [a, b]) rfl rfl (by simp) fun k hk => ?_
      simp only [List.mem_cons, List.mem_nil_iff, or_false] at hk
      rcases hk with rfl | rfl <;> omega
    | e3 a b c =>
      have hn' : max a.dp (max b.dp c.dp) + 1 ≤ n + 1 := hn
      refine either (ks := [a, b, c]) rfl rfl (by simp) fun k hk => ?_
      simp only [List.mem_cons, List.mem_nil_iff, or_false] at hk
      rcases hk with rfl | rfl | rfl <;> omega
theorem okx : (Q.names [Str.ofString "x"]).wf := ⟨by simp, by simp, by simp, fun y hy => by
  rw [List.mem_singleton.mp hy]
  exact ⟨by decide +kernel, by decide +kernel⟩⟩
noncomputable def d_orest : DS := (dSeq (dIf (dTB (dOp gEq (dVar 4) (dVar 1))) (dRet (dOp gIx (dLst [(dTup [(dC (.str (PySem.Str.ofString "names"))), (dTup [(dC (.str (PySem.Str.ofString "x")))])]), (dTup [(dC (.str (PySem.Str.ofString "integers")))])]) (dCall gInt [(dOp gEq (dOp gIx (dVar 1) (dC (.int 0))) (dC (.str (PySem.Str.ofString "names"))))]))) dNx)
  (dRet (dVar 4)))
theorem other_rest {t s : Nat} {q : Q} (hq : Good q) {S : Store} (hT : Tp S t s) {x2 x3 : Option W} {R : W → Store → Prop} (r : ∀ (q' : Q) S', q'.wf → q'.dp ≤ 4 → Tp S' t s → Fr t S S' → R q'.w S') :
    Vf (f__law_kind 4) [.loc t, .int 2, .int 4] S fun w s => Vs d_orest [some (.loc t), some q.w, x2, x3, some w] s (fun _ s => R .non s) (rtQ R) := by
  unfold d_orest
  obtain ⟨k, z, S2, e2, T2, F2, hk, hz⟩ := kind_ok (n := 4) (d := 2) (m := 4) (by decide) (by decide) (by decide) (by decide) (by omega) hT
  obtain ⟨q', rfl, w, d, c⟩ := Kd.q hk
  refine vf_of e2 ?_
  (repeat fail)
  refine eqqq_v w (by omega) hq.1 (by have := hq.2.1; omega) ?_
  (repeat fail)
  refine ⟨fun _ => ?_, fun _ => ?_⟩
  · have g : ∀ (q' : Q), q'.wf → q'.dp ≤ 4 → R q'.w (S2 ++ [Cell.lst [.tup [strW "names", .tup [strW "x"]], .tup [strW "integers"]]]) := fun q' a b => r q' _ a b T2.app (F2.trans fr_app)
    (repeat fail)
    cases q <;> simp only [Q.w] <;> (repeat fail) <;> refine vo_ixl (get_mid (cs := [])) rfl ?_
    · exact g .zz trivial (by decide)
    all_goals exact g (.names [Str.ofString "x"]) okx (by decide)
  · (repeat fail)
    exact r q' _ w (by omega) T2 F2
theorem other_kind_v {t s : Nat} {q : Q} (hq : Good q) {S : Store} (hT : Tp S t s) {R : W → Store → Prop} (r : ∀ (q' : Q) S', q'.wf → q'.dp ≤ 4 → Tp S' t s → Fr t S S' → R q'.w S') : Vf f__law_other_kind [.loc t, q.w] S R := by
  refine o__law_other_kind ?_; unfold d__law_other_kind
  (repeat fail)
  obtain ⟨c, S1, e1, T1, F1, l1, u1⟩ := draw_n 4 hT
  refine vf_of e1 ?_
  (repeat fail)
  have hd := hq.2.1
  refine turned_v (n := 4) (by omega) fun S2 k2 => ?_
  have T2 := k2.tp T1
  have F2 := F1.trans (k2.fr (t := t))
  obtain ⟨tw, td⟩ := turned_wf hq.1
  (repeat fail)
  refine cb_share ?_ fun cont _ => ?_
  · (repeat fail)
    have rest : ∀ S3, Tp S3 t s → Fr t S S3 → Vf (f__law_kind 4) [.loc t, .int 2, .int 4] S3 fun w s => Vs d_orest [some (.loc t), some q.w, some (.int c), some q.turned.w, some w] s (fun _ s => R .non s) (rtQ R) := fun S3 T3 F3 => other_rest hq T3 fun q' S' a b c d => r q' S' a b c (F3.trans d)
    refine ⟨fun _ => ?_, fun _ => ?_⟩
    · have T3 : Tp (S2 ++ [Cell.lst [strW "names", strW "integers"]]) t s := T2.app
      have F3 : Fr t S (S2 ++ [Cell.lst [strW "names", strW "integers"]]) := F2.trans fr_app
      cases q with
      | names ns => simp only [Q.w]; (repeat fail); exact r (.mb (.names ns)) _ hq.1 (by have := hq.2.1; show _ + 1 ≤ 4; omega) T3 F3
      | zz => simp only [Q.w]; (repeat fail); exact r (.mb .zz) _ hq.1 (by decide) T3 F3
      | _ => simp only [Q.w]; (repeat fail); exact rest _ T3 F3
    · (repeat fail)
      exact rest _ T2 F2
  · (repeat fail)
    refine neqq_v tw (by omega) hq.1 (by omega) ?_
    (repeat fail)
    refine ⟨fun _ => ?_, fun _ => ?_⟩
    · (repeat fail)
      exact r q.turned _ tw (by omega) T2 F2
    · exact cont.2 rfl
/-! a leaf at will -/
theorem wild_v {t s pk : Nat} {k1 k2 : Q} (g1 : Good k1) (g2 : Good k2) {S : Store} (hT : Tp S t s) (hp : S[pk]? = some (.lst [k1.w, k2.w])) (hne : pk ≠ t) {R : W → Store → Prop} (r : ∀ (x : T) S', x.wf → x.dp = 1 → Tp S' t s → Fr t S S' → R x.w S') :
    Vf f__law_wild_leaf [.loc t, .loc pk] S R := by
  refine o__law_wild_leaf ?_; unfold d__law_wild_leaf
  (repeat fail)
  obtain ⟨c, S1, e1, T1, F1, l1, u1⟩ := draw_n 4 hT
  refine vf_of e1 ?_
  (repeat fail)
  have p1 := F1.get hne hp
  refine ⟨fun _ => ?_, fun hc => ?_⟩
  · (repeat fail)
    refine pick_v T1 p1 hne (by simp) (by simp) fun w hw S2 T2 F2 => ?_
    obtain ⟨k, rfl, gk⟩ : ∃ k : Q, w = k.w ∧ Good k := by
      simp only [List.mem_cons, List.mem_nil_iff, or_false] at hw
      rcases hw with rfl | rfl
      · exact ⟨_, rfl, g1⟩
      · exact ⟨_, rfl, g2⟩
    (repeat fail)
    refine small_v gk T2 fun l S3 hl T3 F3 => ?_
    obtain ⟨a1, a2⟩ := has_wf gk.1 hl
    (repeat fail)
    exact r (.al l) _ ⟨a1, by have := gk.2.1; omega⟩ rfl T3 ((F1.trans F2).trans F3)
  · have hc := of_decide_eq_false hc
    (repeat fail)
    obtain ⟨d, S2, e2, T2, F2, l2, u2⟩ := draw_n 4 T1
    refine vf_of e2 ?_
    obtain ⟨m, rfl⟩ : ∃ m : Nat, d = (m : Int) := ⟨d.toNat, by omega⟩
    have lt2 := T2.lt
    refine ⟨m, rfl, by omega, ?_⟩
    refine vc_inv (fun i acc u => Tp u t s ∧ Fr t S2 u ∧ u[S2.length]? = some (.lst acc) ∧ acc.length = i ∧ ∃ ps : List Sp, acc = ps.map Sp.w) (fun _ _ _ _ => trivial) ⟨T2.app, fr_app, get_mid (cs := []), rfl, [], rfl⟩ ?_ ?_
    · rintro i w acc u ew ⟨T, F, hu, hl, ps, rfl⟩
      obtain ⟨rfl, hi⟩ := rng_i ew
      refine ⟨[some (.loc t), some (.loc pk), some (.int c), none, some (.int (i : Int))], rfl, vt_yes (cb_t ?_)⟩
      (repeat fail)
      have ltu := T.lt
      refine pick_v (T.app (cs := [Cell.lst [strW "first", strW "second", strW "some", .int 0, .int 1, .int 2]])) (get_mid (cs := [])) (by omega) (by simp) (by simp) fun w hw S3 T3 F3 => ?_
      obtain ⟨sp, rfl⟩ : ∃ sp : Sp, w = sp.w := by
        simp only [List.mem_cons, List.mem_nil_iff, or_false] at hw
        rcases hw with rfl | rfl | rfl | rfl | rfl | rfl
        · exact ⟨.fi, rfl⟩
        · exact ⟨.se, rfl⟩
        · exact ⟨.so, rfl⟩
        · exact ⟨.at 0, rfl⟩
        · exact ⟨.at 1, rfl⟩
        · exact ⟨.at 2, rfl⟩
      have F4 : Fr t u S3 := fr_app.trans F3
      have hu3 := F4.get (show S2.length ≠ t by omega) hu
      refine ⟨hu3, by omega, T3.other (by omega) (by omega), (F.trans F4).put (Nat.le_refl _), get_set hu3, by rw [List.length_append, List.length_singleton, hl], ps ++ [sp], by rw [List.map_append]; rfl⟩
    · rintro acc u ⟨T, F, hu, hl, ps, rfl⟩
      have F5 : Fr t S u := (F1.trans F2).trans F
      (repeat fail)
      refine vf_tuple hu ?_
      (repeat fail)
      refine ⟨fun _ => ?_, fun hc1 => ?_⟩
      · (repeat fail)
        exact r (.rd ps) _ trivial rfl T F5
      · have hc1 := of_decide_eq_false hc1
        (repeat fail)
        have T6 : Tp (u ++ [Cell.lst [strW "plus", strW "minus"]]) t s := T.app
        have F6 : Fr t S (u ++ [Cell.lst [strW "plus", strW "minus"]]) := F5.trans fr_app
        rcases (show c = 2 ∨ c = 3 by omega) with rfl | rfl
        · refine vo_ixl (get_mid (cs := [])) (w := strW "plus") rfl ?_
          (repeat fail)
          obtain ⟨e, S7, e7, T7, F7, l7, u7⟩ := draw_n 41 T6
          refine vf_of e7 ?_
          (repeat fail)
          exact r (.pl ps (e - 20)) _ trivial rfl T7 (F6.trans F7)
        · refine vo_ixl (get_mid (cs := [])) (w := strW "minus") rfl ?_
          (repeat fail)
          obtain ⟨e, S7, e7, T7, F7, l7, u7⟩ := draw_n 41 T6
          refine vf_of e7 ?_
          (repeat fail)
          exact r (.mi ps (e - 20)) _ trivial rfl T7 (F6.trans F7)
set_option maxHeartbeats 4000000
noncomputable def d_srest : DS := (dSeq (dSet 6 (dCall f__law_draw [(dVar 0), (dC (.int 4))]))
  (dSeq (dIf (dAndT (dTB (dOp gIn (dVar 3) (dLst [(dC (.str (PySem.Str.ofString "pair"))), (dC (.str (PySem.Str.ofString "case"))), (dC (.str (PySem.Str.ofString "some")))]))) (dTB (dOp gEq (dVar 6) (dC (.int 0))))) (dRet (dTup [(dC (.str (PySem.Str.ofString "some"))), (dVar 5)])) dNx)
  (dSeq (dIf (dAndT (dTB (dOp gIn (dVar 3) (dLst [(dC (.str (PySem.Str.ofString "pair"))), (dC (.str (PySem.Str.ofString "case"))), (dC (.str (PySem.Str.ofString "some")))]))) (dTB (dOp gEq (dVar 6) (dC (.int 1))))) (dRet (dTup [(dC (.str (PySem.Str.ofString "case"))), (dCall f__law_draw [(dVar 0), (dC (.int 3))]), (dVar 5)])) dNx)
  (dSeq (dIf (dAndT (dTB (dOp gEq (dVar 3) (dC (.str (PySem.Str.ofString "pair"))))) (dTB (dOp gEq (dVar 6) (dC (.int 2))))) (dRet (dTup [(dC (.str (PySem.Str.ofString "pair"))), (dVar 5), (dCall f__law_wild_leaf [(dVar 0), (dVar 2)])])) dNx)
  (dRet (dVar 5))))))
abbrev inner (hd : Str) : Prop := hd ∈ ([Str.ofString "pair", Str.ofString "case", Str.ofString "some"] : List Str)
theorem spoil_rest {t s pk : Nat} {k1 k2 : Q} (g1 : Good k1) (g2 : Good k2) {x : T} {hd : Str} (hx : inner hd → 2 ≤ x.dp) (h1 : 1 ≤ x.dp) {S : Store} (hT : Tp S t s) (hp : S[pk]? = some (.lst [k1.w, k2.w])) (hne : pk ≠ t) {x4 : Option W} {R : W → Store → Prop}
    (r : ∀ (y : T) S', y.wf → y.dp ≤ x.dp → Tp S' t s → Fr t S S' → R y.w S') :
    Vf f__law_wild_leaf [.loc t, .loc pk] S fun w s => Vs d_srest [some (.loc t), some x.w, some (.loc pk), some (.str hd), x4, some w, none] s (fun _ s => R .non s) (rtQ R) := by
  refine wild_v g1 g2 hT hp hne fun x1 S1 w1 d1 T1 F1 => ?_
  unfold d_srest
  (repeat (first | fail | with_reducible refine vs_seq (vs_if ?_)))
  obtain ⟨c, S2, e2, T2, F2, l2, u2⟩ := draw_n 4 T1
  refine vf_of e2 ?_
  have F2 := F1.trans F2
  (repeat (first | fail | with_reducible refine vs_seq (vs_if ?_)))
  refine cb_share ?_ fun cont h => ?_
  · (repeat (first | fail | with_reducible refine vs_seq (vs_if ?_)))
    refine cb_share ?_ fun cont h => ?_
    · (repeat (first | fail | with_reducible refine vs_seq (vs_if ?_)))
      refine cb_share ?_ fun cont h => ?_
      · (repeat (first | fail | with_reducible refine vs_seq (vs_if ?_)))
        exact r x1 _ w1 (by omega) T2.app.app ((F2.trans fr_app).trans fr_app)
      · have hin : inner hd := by
          have := of_decide_eq_true h
          subst this
          exact List.mem_cons_self
        (repeat (first | fail | with_reducible refine vs_seq (vs_if ?_)))
        refine ⟨fun _ => ?_, fun _ => cont.2 rfl⟩
        (repeat (first | fail | with_reducible refine vs_seq (vs_if ?_)))
        have F3 : Fr t S _ := (F2.trans (fr_app (cs := [Cell.lst [.str (Str.ofString "pair"), .str (Str.ofString "case"), .str (Str.ofString "some")]]))).trans (fr_app (cs := [Cell.lst [.str (Str.ofString "pair"), .str (Str.ofString "case"), .str (Str.ofString "some")]]))
        refine wild_v g1 g2 T2.app.app (F3.get hne hp) hne fun x3 S3 w3 d3 T3 F4 => ?_
        (repeat (first | fail | with_reducible refine vs_seq (vs_if ?_)))
        have := hx hin
        exact r (.pr x1 x3) _ ⟨w1, w3⟩ (by show max _ _ + 1 ≤ _; omega) T3 (F3.trans F4)
    · have hin : inner hd := of_decide_eq_true h
      have := hx hin
      (repeat (first | fail | with_reducible refine vs_seq (vs_if ?_)))
      refine ⟨fun _ => ?_, fun _ => cont.2 rfl⟩
      (repeat (first | fail | with_reducible refine vs_seq (vs_if ?_)))
      obtain ⟨e, S7, e7, T7, F7, l7, u7⟩ := draw_n 3 (T2.app (cs := [Cell.lst [.str (Str.ofString "pair"), .str (Str.ofString "case"), .str (Str.ofString "some")]])).app
      refine vf_of e7 ?_
      obtain ⟨m, rfl⟩ : ∃ m : Nat, e = (m : Int) := ⟨e.toNat, by omega⟩
      (repeat (first | fail | with_reducible refine vs_seq (vs_if ?_)))
      exact r (.cs m x1) _ w1 (by show _ + 1 ≤ _; omega) T7 (((F2.trans fr_app).trans fr_app).trans F7)
  · have hin : inner hd := of_decide_eq_true h
    have := hx hin
    (repeat (first | fail | with_reducible refine vs_seq (vs_if ?_)))
    refine ⟨fun _ => ?_, fun _ => cont.2 rfl⟩
    (repeat (first | fail | with_reducible refine vs_seq (vs_if ?_)))
    exact r (.so x1) _ w1 (by show _ + 1 ≤ _; omega) T2.app (F2.trans fr_app)
theorem spoilt_v {t s pk : Nat} {k1 k2 : Q} (g1 : Good k1) (g2 : Good k2) (hne : pk ≠ t) : ∀ {n : Nat} {x : T}, x.dp ≤ n → x.wf → ∀ {S : Store}, Tp S t s → S[pk]? = some (.lst [k1.w, k2.w]) → ∀ {R : W → Store → Prop},
    (∀ (y : T) S', y.wf → y.dp ≤ x.dp → Tp S' t s → Fr t S S' → R y.w S') → Vf (f__law_spoilt n) [.loc t, x.w, .loc pk] S R := by
  intro n
  induction n with
  | zero => intro x h; cases x <;> simp [T.dp] at h
  | succ n ih =>
    intro x hn xw S hT hp R r
    refine o__law_spoilt ?_; unfold d__law_spoilt
    obtain ⟨c, S1, e1, T1, F1, l1, u1⟩ := draw_n 3 hT
    have p1 := F1.get hne hp
    have rest : ∀ {hd : Str} {x4 : Option W} {S2 : Store}, (inner hd → 2 ≤ x.dp) → Tp S2 t s → Fr t S S2 → Vf f__law_wild_leaf [.loc t, .loc pk] S2 fun w s => Vs d_srest [some (.loc t), some x.w, some (.loc pk), some (.str hd), x4, some w, none] s (fun _ s => R .non s) (rtQ R) := fun hx T2 F2 =>
      spoil_rest g1 g2 hx (by cases x <;> simp [T.dp]) T2 (F2.get hne hp) hne fun y S' a b T3 F3 => r y S' a b T3 (F2.trans F3)
    have leaf : ∀ {s : String}, Str.ofString s = Str.ofString "always" ∨ Str.ofString s = Str.ofString "read" ∨ Str.ofString s = Str.ofString "plus" ∨ Str.ofString s = Str.ofString "minus" → inner (Str.ofString s) → 2 ≤ x.dp := fun {s} h hi => by
      exfalso
      rcases h with h | h | h | h <;> rw [h] at hi <;> exact absurd hi (by unfold inner; decide +kernel)
    cases x with
    | al l =>
      simp only [T.w]
      (repeat (first | fail | with_reducible refine vs_seq (vs_if ?_)))
      refine vf_of e1 ?_
      (repeat (first | fail | with_reducible refine vs_seq (vs_if ?_)))
      exact rest (leaf (.inl rfl)) T1 F1
    | rd p =>
      simp only [T.w]
      (repeat (first | fail | with_reducible refine vs_seq (vs_if ?_)))
      refine vf_of e1 ?_
      (repeat (first | fail | with_reducible refine vs_seq (vs_if ?_)))
      exact rest (leaf (.inr (.inl rfl))) T1 F1
    | pl p m =>
      simp only [T.w]
      (repeat (first | fail | with_reducible refine vs_seq (vs_if ?_)))
      refine vf_of e1 ?_
      (repeat (first | fail | with_reducible refine vs_seq (vs_if ?_)))
      exact rest (leaf (.inr (.inr (.inl rfl)))) T1 F1
    | mi p m =>
      simp only [T.w]
      (repeat (first | fail | with_reducible refine vs_seq (vs_if ?_)))
      refine vf_of e1 ?_
      (repeat (first | fail | with_reducible refine vs_seq (vs_if ?_)))
      exact rest (leaf (.inr (.inr (.inr rfl)))) T1 F1
    | so a =>
      have hn' : a.dp + 1 ≤ n + 1 := hn
      have a1 : 1 ≤ a.dp := by cases a <;> simp [T.dp]
      have h2 : 2 ≤ (T.so a).dp := by show 2 ≤ _ + 1; omega
      simp only [T.w]
      (repeat (first | fail | with_reducible refine vs_seq (vs_if ?_)))
      refine vf_of e1 ?_
      (repeat (first | fail | with_reducible refine vs_seq (vs_if ?_)))
      refine ⟨fun _ => ?_, fun _ => ?_⟩
      · (repeat (first | fail | with_reducible refine vs_seq (vs_if ?_)))
        refine ih (x := a) (by omega) xw T1 p1 fun y S2 yw yd T2 F2 => ?_
        (repeat (first | fail | with_reducible refine vs_seq (vs_if ?_)))
        exact r (.so y) _ yw (by show _ + 1 ≤ _ + 1; omega) T2 (F1.trans F2)
      · (repeat (first | fail | with_reducible refine vs_seq (vs_if ?_)))
        exact rest (fun _ => h2) T1 F1
    | cs i a =>
      have hn' : a.dp + 1 ≤ n + 1 := hn
      have a1 : 1 ≤ a.dp := by cases a <;> simp [T.dp]
      have h2 : 2 ≤ (T.cs i a).dp := by show 2 ≤ _ + 1; omega
      simp only [T.w]
      (repeat (first | fail | with_reducible refine vs_seq (vs_if ?_)))
      refine vf_of e1 ?_
      (repeat (first | fail | with_reducible refine vs_seq (vs_if ?_)))
      refine ⟨fun _ => ?_, fun _ => ?_⟩
      · (repeat (first | fail | with_reducible refine vs_seq (vs_if ?_)))
        obtain ⟨e, S7, e7, T7, F7, l7, u7⟩ := draw_n 3 T1
        refine vf_of e7 ?_
        (repeat (first | fail | with_reducible refine vs_seq (vs_if ?_)))
        refine ⟨fun _ => ?_, fun _ => ?_⟩
        · (repeat (first | fail | with_reducible refine vs_seq (vs_if ?_)))
          obtain ⟨e', S8, e8, T8, F8, l8, u8⟩ := draw_n 3 T7
          refine vf_of e8 ?_
          obtain ⟨m, rfl⟩ : ∃ m : Nat, e' = (m : Int) := ⟨e'.toNat, by omega⟩
          (repeat (first | fail | with_reducible refine vs_seq (vs_if ?_)))
          exact r (.cs m a) _ xw (Nat.le_refl _) T8 ((F1.trans F7).trans F8)
        · (repeat (first | fail | with_reducible refine vs_seq (vs_if ?_)))
          refine ih (x := a) (by omega) xw T7 (F7.get hne p1) fun y S2 yw yd T2 F2 => ?_
          (repeat (first | fail | with_reducible refine vs_seq (vs_if ?_)))
          exact r (.cs i y) _ yw (by show _ + 1 ≤ _ + 1; omega) T2 ((F1.trans F7).trans F2)
      · (repeat (first | fail | with_reducible refine vs_seq (vs_if ?_)))
        exact rest (fun _ => h2) T1 F1
    | pr a b =>
      have hn' : max a.dp b.dp + 1 ≤ n + 1 := hn
      have a1 : 1 ≤ a.dp := by cases a <;> simp [T.dp]
      have h2 : 2 ≤ (T.pr a b).dp := by show 2 ≤ max _ _ + 1; omega
      simp only [T.w]
      (repeat (first | fail | with_reducible refine vs_seq (vs_if ?_)))
      refine vf_of e1 ?_
      (repeat (first | fail | with_reducible refine vs_seq (vs_if ?_)))
      refine ⟨fun _ => ?_, fun _ => ?_⟩
      · (repeat (first | fail | with_reducible refine vs_seq (vs_if ?_)))
        obtain ⟨e, S7, e7, T7, F7, l7, u7⟩ := draw_n 2 T1
        refine vf_of e7 ?_
        (repeat (first | fail | with_reducible refine vs_seq (vs_if ?_)))
        refine ⟨fun _ => ?_, fun _ => ?_⟩
        · (repeat (first | fail | with_reducible refine vs_seq (vs_if ?_)))
          refine ih (x := a) (by omega) xw.1 T7 (F7.get hne p1) fun y S2 yw yd T2 F2 => ?_
          (repeat (first | fail | with_reducible refine vs_seq (vs_if ?_)))
          exact r (.pr y b) _ ⟨yw, xw.2⟩ (by show max _ _ + 1 ≤ max _ _ + 1; omega) T2 ((F1.trans F7).trans F2)
        · (repeat (first | fail | with_reducible refine vs_seq (vs_if ?_)))
          refine ih (x := b) (by omega) xw.2 T7 (F7.get hne p1) fun y S2 yw yd T2 F2 => ?_
          (repeat (first | fail | with_reducible refine vs_seq (vs_if ?_)))
          exact r (.pr a y) _ ⟨xw.1, yw⟩ (by show max _ _ + 1 ≤ max _ _ + 1; omega) T2 ((F1.trans F7).trans F2)
      · (repeat (first | fail | with_reducible refine vs_seq (vs_if ?_)))
        exact rest (fun _ => h2) T1 F1
/-! ### what is said of a term -/
theorem chkT {k o : Q} {x : T} {S : Store} (kw : k.wf) (kd : k.dp ≤ 30) (ow : o.wf) (od : o.dp ≤ 4) (xw : x.wf) (xd : x.dp ≤ 4) (h : x.suits k o = true) : ∃ S', f__law_checked [k.w, o.w, x.w] S = .ok (.tup [strW "told", .non]) S' ∧ Kp S S' := by
  obtain ⟨w, S1, e, rfl, k1⟩ := fits_v kw kd (n := 4) xd xw ow od (S := S) (R := fun w s => w = .bl (x.suits k o) ∧ Kp S s) fun S' k => ⟨rfl, k⟩
  rw [h] at e
  have e' := noX_ok e
  have ec : f_check_term [k.w, o.w, x.w] S = .ok .non S1 := by simp only [mk1_ev, mk2_ev, mk3_ev, mk4_ev, sq_ev, set_ev, call_ev, args_ev, argK_ok, args_nil, argK2_ok, callK_ok, List.replicate, c_ev, setK_ok, set0_ev, set1_ev, set2_ev, set3_ev, set4_ev, set5_ev, set6_ev, set7_ev, set8_ev, set9_ev, sqK_nx, sqK_rt, if_ev, tb_ev, t_ev, tK_ok, tru_bl, nt_ev, ntK_ok, and_ev, or_ev, op_ev, opK_ok, opK2_ok, tbK_ok, ifK_t, ifK_f, nx_ev, rt_ev, rtK_ok, mkK_rt, mkK_nx, var0_ev, var1_ev, var2_ev, var3_ev, var4_ev, var5_ev, var6_ev, var7_ev, var8_ev, var9_ev, ixt0, ixt1, ixt2, eq_ss, ne_ss, eq_ii, ne_ii, lt_ii, le_ii, gt_ii, ge_ii, len_tup, av_ev, avK_ok, avK2_t, avK2_f, ov_ev, ovK_ok, ovK2_t, ovK2_f, aK_t, aK_f, oK_t, oK_f, tup_ev, ie_ev, ieK_t, ieK_f, un_ev, unK_ok, ex_ev, exK_ok, Bool.not_true, Bool.not_false, decide_true, decide_false, Nat.reduceSub, f_check_term, d_check_term, e']
  refine ⟨S1, ?_, k1⟩
  have et : dTry errNs 3 (dRet (dTup [(dC (.str (PySem.Str.ofString "told"))), (dCall f_check_term [(dVar 0), (dVar 1), (dVar 2)])])) (fun a cn => (dRet (dTup [(dC (.str (PySem.Str.ofString "refused"))), (dCall (f__law_error a cn) [(dVar 3)])]))) [some k.w, some o.w, some x.w, none] S = .rt (.tup [strW "told", .non]) S1 := by
    refine try_rt ?_
    rw [rt_ev, tup_ev, args_ev, c_ev, argK_ok, args_ev, call_ev, args_ev, var0_ev, argK_ok, args_ev, var1_ev, argK_ok, args_ev, var2_ev, argK_ok, args_nil, argK2_ok, argK2_ok, argK2_ok, callK_ok, ec, argK_ok, args_nil, argK2_ok, argK2_ok, tupK_ok (by simp), rtK_ok]
  simp only [mk1_ev, mk2_ev, mk3_ev, mk4_ev, sq_ev, set_ev, call_ev, args_ev, argK_ok, args_nil, argK2_ok, callK_ok, List.replicate, c_ev, setK_ok, set0_ev, set1_ev, set2_ev, set3_ev, set4_ev, set5_ev, set6_ev, set7_ev, set8_ev, set9_ev, sqK_nx, sqK_rt, if_ev, tb_ev, t_ev, tK_ok, tru_bl, nt_ev, ntK_ok, and_ev, or_ev, op_ev, opK_ok, opK2_ok, tbK_ok, ifK_t, ifK_f, nx_ev, rt_ev, rtK_ok, mkK_rt, mkK_nx, var0_ev, var1_ev, var2_ev, var3_ev, var4_ev, var5_ev, var6_ev, var7_ev, var8_ev, var9_ev, ixt0, ixt1, ixt2, eq_ss, ne_ss, eq_ii, ne_ii, lt_ii, le_ii, gt_ii, ge_ii, len_tup, av_ev, avK_ok, avK2_t, avK2_f, ov_ev, ovK_ok, ovK2_t, ovK2_f, aK_t, aK_f, oK_t, oK_f, tup_ev, ie_ev, ieK_t, ieK_f, un_ev, unK_ok, ex_ev, exK_ok, Bool.not_true, Bool.not_false, decide_true, decide_false, Nat.reduceSub, f__law_checked, d__law_checked, et]
theorem bade : ("BadTerm" : Str) ∈ errNs := by decide
theorem raise_ex {x : Str} {ls : Lo} {S : Store} : dRaise x ls S = .ex ⟨x, []⟩ ls S := rfl
theorem chkF {k o : Q} {x : T} {S : Store} (kw : k.wf) (kd : k.dp ≤ 30) (ow : o.wf) (od : o.dp ≤ 4) (xw : x.wf) (xd : x.dp ≤ 4) (h : x.suits k o = false) : ∃ S', f__law_checked [k.w, o.w, x.w] S = .ok (.tup [strW "refused", .int 2]) S' ∧ Kp S S' := by
  obtain ⟨w, S1, e, rfl, k1⟩ := fits_v kw kd (n := 4) xd xw ow od (S := S) (R := fun w s => w = .bl (x.suits k o) ∧ Kp S s) fun S' k => ⟨rfl, k⟩
  rw [h] at e
  have e' := noX_ok e
  have ec : f_check_term [k.w, o.w, x.w] S = .exc ⟨"BadTerm", []⟩ S1 := by
    simp only [mk1_ev, mk2_ev, mk3_ev, mk4_ev, sq_ev, set_ev, call_ev, args_ev, argK_ok, args_nil, argK2_ok, callK_ok, List.replicate, c_ev, setK_ok, set0_ev, set1_ev, set2_ev, set3_ev, set4_ev, set5_ev, set6_ev, set7_ev, set8_ev, set9_ev, sqK_nx, sqK_rt, if_ev, tb_ev, t_ev, tK_ok, tru_bl, nt_ev, ntK_ok, and_ev, or_ev, op_ev, opK_ok, opK2_ok, tbK_ok, ifK_t, ifK_f, nx_ev, rt_ev, rtK_ok, mkK_rt, mkK_nx, var0_ev, var1_ev, var2_ev, var3_ev, var4_ev, var5_ev, var6_ev, var7_ev, var8_ev, var9_ev, ixt0, ixt1, ixt2, eq_ss, ne_ss, eq_ii, ne_ii, lt_ii, le_ii, gt_ii, ge_ii, len_tup, av_ev, avK_ok, avK2_t, avK2_f, ov_ev, ovK_ok, ovK2_t, ovK2_f, aK_t, aK_f, oK_t, oK_f, tup_ev, ie_ev, ieK_t, ieK_f, un_ev, unK_ok, ex_ev, exK_ok, Bool.not_true, Bool.not_false, decide_true, decide_false, Nat.reduceSub, f_check_term, d_check_term, e', raise_ex]
    rfl
  refine ⟨S1 ++ errD "BadTerm", ?_, k1.trans kp_app⟩
  have et : dTry errNs 3 (dRet (dTup [(dC (.str (PySem.Str.ofString "told"))), (dCall f_check_term [(dVar 0), (dVar 1), (dVar 2)])])) (fun a cn => (dRet (dTup [(dC (.str (PySem.Str.ofString "refused"))), (dCall (f__law_error a cn) [(dVar 3)])]))) [some k.w, some o.w, some x.w, none] S = .rt (.tup [strW "refused", .int 2]) (S1 ++ errD "BadTerm") := by
    rw [try_ex (x := "BadTerm") (S1 := S1) (ls1 := [some k.w, some o.w, some x.w, none]) (by
      rw [rt_ev, tup_ev, args_ev, c_ev, argK_ok, args_ev, call_ev, args_ev, var0_ev, argK_ok, args_ev, var1_ev, argK_ok, args_ev, var2_ev, argK_ok, args_nil, argK2_ok, argK2_ok, argK2_ok, callK_ok, ec]
      rfl) bade, ret_told 0 bade (by simp), show errNo "BadTerm" = 2 by decide +kernel]
    rfl
  simp only [mk1_ev, mk2_ev, mk3_ev, mk4_ev, sq_ev, set_ev, call_ev, args_ev, argK_ok, args_nil, argK2_ok, callK_ok, List.replicate, c_ev, setK_ok, set0_ev, set1_ev, set2_ev, set3_ev, set4_ev, set5_ev, set6_ev, set7_ev, set8_ev, set9_ev, sqK_nx, sqK_rt, if_ev, tb_ev, t_ev, tK_ok, tru_bl, nt_ev, ntK_ok, and_ev, or_ev, op_ev, opK_ok, opK2_ok, tbK_ok, ifK_t, ifK_f, nx_ev, rt_ev, rtK_ok, mkK_rt, mkK_nx, var0_ev, var1_ev, var2_ev, var3_ev, var4_ev, var5_ev, var6_ev, var7_ev, var8_ev, var9_ev, ixt0, ixt1, ixt2, eq_ss, ne_ss, eq_ii, ne_ii, lt_ii, le_ii, gt_ii, ge_ii, len_tup, av_ev, avK_ok, avK2_t, avK2_f, ov_ev, ovK_ok, ovK2_t, ovK2_f, aK_t, aK_f, oK_t, oK_f, tup_ev, ie_ev, ieK_t, ieK_f, un_ev, unK_ok, ex_ev, exK_ok, Bool.not_true, Bool.not_false, decide_true, decide_false, Nat.reduceSub, f__law_checked, d__law_checked, et]
theorem same_n {n : Nat} {S : Store} {R : W → Store → Prop} (r : R (.bl true) S) : Vf (f__law_same (n + 1)) [.non, .non] S R := by
  refine o__law_same ?_; unfold d__law_same
  (repeat (first | fail | with_reducible refine vs_seq (vs_if ?_)))
  exact r
theorem same_told {S : Store} {R : W → Store → Prop} (r : ∀ S', Kp S S' → R (.bl true) S') : Vf (f__law_same 4) [.tup [strW "told", .non], .tup [strW "told", .non]] S R := by
  refine same_t (by simp) (fun w hw S R r => ?_) r
  simp only [List.mem_cons, List.mem_nil_iff, or_false] at hw
  rcases hw with rfl | rfl
  · exact same_s (r S (Kp.refl S))
  · exact same_n (r S (Kp.refl S))
theorem same_ref {S : Store} {R : W → Store → Prop} (r : ∀ S', Kp S S' → R (.bl true) S') : Vf (f__law_same 4) [.tup [strW "refused", .int 2], .tup [strW "refused", .int 2]] S R := by
  refine same_t (by simp) (fun w hw S R r => ?_) r
  simp only [List.mem_cons, List.mem_nil_iff, or_false] at hw
  rcases hw with rfl | rfl
  · exact same_s (r S (Kp.refl S))
  · exact same_i (r S (Kp.refl S))
set_option maxHeartbeats 4000000
/-! ### the law -/
abbrev lU (ns : List Int) (k o : Q) (pp : Nat) (c : Bool) (x6 x7 x8 x9 x10 x11 x12 x13 x14 : Option W) : Lo := [some (.rol (ns.map .int)), some (.loc 1), some k.w, some o.w, some (.loc pp), some (.bl c), x6, x7, x8, x9, x10, x11, x12, x13, x14]
def RowOk (w : W) : Prop := ∃ (a b : Q) (x : T), w = .tup [a.w, b.w, x.w] ∧ (a.wf ∧ a.dp ≤ 4) ∧ (b.wf ∧ b.dp ≤ 4) ∧ x.wf ∧ x.dp ≤ 4
/-- both ways of an `and` go on alike -/
theorem share_t {b : Bool} {t : DT} {ls : Lo} {v : Store} {QB : Bool → Store → Prop} (y : ∀ S', Kp v S' → QB false S') (x : (∀ S', Kp v S' → QB false S') → b = true → Vt t ls v QB) : Cb b (Vt t ls v QB) (QB false v) := ⟨fun h => x y h, fun _ => y v (Kp.refl v)⟩
theorem tp_dp {x : T} {k o : Q} (h : x.suits k o = true) (g : Good o) : x.wf ∧ x.dp ≤ 3 := by
  have := suits_dp h
  have := g.2.1
  exact ⟨suits_wf h g.1 (by omega), by omega⟩
theorem law_v {ns : List Int} (hn : ns.length ≤ 63) : Vf f_law [.rol (ns.map W.int)] [] fun w _ => w = .bl true := by
  obtain ⟨S1, e1, T1, l1⟩ := tape_ok ns
  refine o_law ?_; unfold d_law
  (repeat fail)
  refine vf_of e1 ?_
  (repeat fail)
  refine any_kind_v T1 fun k S2 gk T2 F2 => ?_
  (repeat fail)
  refine any_kind_v T2 fun o S3 go T3 F3 => ?_
  (repeat fail)
  have kd := gk.2.1
  have od := go.2.1
  refine paths_v (n := 4) (by decide) k gk.1 (by omega) gk.2.2 _ _ fun pp rows S4 k4 hge g4 hR => ?_
  (repeat fail)
  obtain ⟨c, S5, e5, T5, F5, l5, u5⟩ := draw_n 2 (k4.tp T3)
  refine vf_of e5 ?_
  have hpp : pp ≠ 1 := by have := T3.lt; omega
  have p5 := F5.get hpp g4
  (repeat fail)
  generalize hcd : decide (c = 0) = cb
  refine ⟨3, rfl, by decide, ?_⟩
  refine vl_inv (fun i ls u => ∃ (x6 x7 x8 x9 x10 x11 x12 x13 x14 : Option W), ls = lU ns k o pp cb x6 x7 x8 x9 x10 x11 x12 x13 x14 ∧ Tp u 1 0 ∧ u[pp]? = some (.lst (rows.map rowW))) (fun _ _ _ _ => trivial)
    ⟨none, none, none, none, none, none, none, none, none, rfl, T5, p5⟩ ?_ ?_
  · rintro i w ls u ew ⟨x6, x7, x8, x9, x10, x11, x12, x13, x14, rfl, Tu, hp⟩
    obtain ⟨rfl, hi⟩ := rng_i ew
    refine ⟨_, dg_n6, ?_⟩
    (repeat fail)
    refine term_v gk hR hpp (n := 4) (by omega) go Tu hp fun x S6 hx T6 F6 => ?_
    obtain ⟨xw, xd⟩ := tp_dp hx go
    have p6 := F6.get hpp hp
    (repeat fail)
    refine ⟨2, rfl, by decide, ?_⟩
    refine vc_inv (fun j acc v => Tp v 1 0 ∧ Fr 1 S6 v ∧ v[S6.length]? = some (.lst acc) ∧ acc.length = j ∧ ∀ w ∈ acc, ∃ l : L, w = l.w ∧ k.has l = true) (fun _ _ _ _ => trivial) ⟨T6.app, fr_app, get_mid (cs := []), rfl, fun _ h => nomatch h⟩ ?_ ?_
    · rintro j w acc v ew ⟨Tv, Fv, hv, hxl, hxs⟩
      obtain ⟨rfl, hj⟩ := rng_i ew
      refine ⟨lU ns k o pp cb (some (.int (i : Int))) (some x.w) x8 (some (.int (j : Int))) x10 x11 x12 x13 x14, rfl, vt_yes (cb_t ?_)⟩
      (repeat fail)
      obtain ⟨lw, S9, e9, T9, F9, hlw⟩ := letter_ok (m := 20) (q := .int 12) (by decide) (by decide) (Q.kd gk.1 (show k.dp ≤ 4 by omega)) Tv
      obtain ⟨l, rfl, hl⟩ := Lt.l hlw
      refine vf_of e9 ?_
      have := T6.lt
      have hv9 := F9.get (by omega) hv
      refine ⟨hv9, by omega, T9.other (by omega) (by omega), (Fv.trans F9).put (Nat.le_refl _), get_set hv9, by rw [List.length_append, List.length_singleton, hxl], fun y hy => ?_⟩
      rcases List.mem_append.mp hy with h | h
      · exact hxs y h
      · exact ⟨l, List.mem_singleton.mp h, hl⟩
    rintro acc v ⟨Tv, Fv, hv, hxl, hxs⟩
    have hxl2 : acc.length = 2 := hxl
    have pv := Fv.get hpp p6
    have lt6 := T6.lt
    (repeat fail)
    refine share_t (fun z kz => ?_) fun cont _ => ?_
    rotate_left
    · (repeat fail)
      obtain ⟨S7, e7, k7⟩ := chkT gk.1 (by omega) go.1 (by omega) xw (by omega) hx (S := v)
      refine vf_of e7 ?_
      (repeat fail)
      refine same_told fun S8 k8 => vg_b ?_
      exact cont S8 (k7.trans k8)
    have Tz := kz.tp Tv
    have hz := kz.2 _ _ hv
    have pz := kz.2 _ _ pv
    (repeat fail)
    refine ⟨_, _, slice_loc hz, ?_⟩
    (repeat fail)
    have hctk : cutW acc none (some 1) = acc.take 1 := cut_tk (by decide)
    refine addl_v (kp_app.2 _ _ hz) (get_mid (cs := [])) (by rw [hctk, List.length_take]; omega) ?_
    rw [hctk]
    have ltz := Tz.lt
    have zS := lt_of hz
    obtain ⟨pl, hpl⟩ : ∃ pl, pl = (z ++ [Cell.lst (acc.take 1)]).length := ⟨_, rfl⟩
    rw [← hpl]
    obtain ⟨z2, hz2⟩ : ∃ z2, z2 = z ++ [Cell.lst (acc.take 1)] ++ [Cell.lst (acc ++ acc.take 1)] := ⟨_, rfl⟩
    have kz2 : Kp z z2 := by rw [hz2]; exact kp_app.trans kp_app
    have gpl : z2[pl]? = some (.lst (acc ++ acc.take 1)) := by rw [hz2, hpl]; exact get_mid (cs := [])
    rw [← hz2]
    clear hz2
    refine ⟨acc ++ acc.take 1, lst_loc gpl, ?_⟩
    refine vl_inv (fun j ls y => ∃ x10 : Option W, ls = lU ns k o pp cb (some (.int (i : Int))) (some x.w) (some (.loc S6.length)) x9 x10 x11 x12 x13 x14 ∧ Kp z2 y) (fun j ls y h => by
      obtain ⟨_, _, h⟩ := h
      exact h.2 _ _ gpl) ⟨x10, rfl, Kp.refl z2⟩ ?_ ?_
    · rintro j w ls y ew ⟨x10, rfl, ky⟩
      have hw : ∃ l : L, w = l.w ∧ k.has l = true := by
        rcases List.mem_append.mp (List.mem_of_getElem? ew) with h | h
        · exact hxs w h
        · exact hxs w (List.mem_of_mem_take h)
      obtain ⟨l, rfl, hl⟩ := hw
      refine ⟨_, dg_n10, ?_⟩
      (repeat (first | fail | with_reducible refine vs_seq (vs_if ?_)))
      refine pgives_v hl gk.1 (by omega) (n := 4) (by omega) (by decide) hx xw fun S7 k7 => ?_
      (repeat fail)
      refine lgives_v hl gk.1 (by omega) (n := 4) (by omega) (by decide) hx xw fun S8 k8 => ?_
      (repeat fail)
      have fin : ∀ S9, Kp S8 S9 → Kp z2 S9 := fun S9 k9 => ((ky.trans k7).trans k8).trans k9
      cases eg : x.gives l with
      | none =>
        simp only [oW]
        refine same_n ?_
        (repeat fail)
        exact ⟨_, rfl, fin _ (Kp.refl _)⟩
      | some m =>
        simp only [oW]
        refine same_l (k := o) (by omega) (gives_has hl hx eg) fun S9 k9 => ?_
        (repeat fail)
        exact ⟨_, rfl, fin _ k9⟩
    rintro ls y ⟨x10, rfl, ky⟩
    have Ty := ky.tp (kz2.tp Tz)
    have py := ky.2 _ _ (kz2.2 _ _ pz)
    have lty := Ty.lt
    (repeat fail)
    refine spoilt_v gk go (show y.length ≠ 1 by omega) (n := 4) (by omega) xw (S := y ++ [Cell.lst [k.w, o.w]]) Ty.app (get_mid (cs := [])) fun x2 S7 w2 d2 T7 F7 => ?_
    have p7 := F7.get hpp (kp_app.2 _ _ py)
    (repeat fail)
    refine other_kind_v gk T7 fun k' S8 kw' kd' T8 F8 => ?_
    have p8 := F8.get hpp p7
    (repeat fail)
    have lt8 := T8.lt
    obtain ⟨r3, hr3⟩ : ∃ r3 : List W, r3 = [.tup [k.w, o.w, x.w], .tup [k.w, o.w, x2.w], .tup [k'.w, o.w, x.w]] := ⟨_, rfl⟩
    rw [← hr3]
    refine other_kind_v go (T8.app (cs := [Cell.lst r3])) fun o' S9 ow' od' T9 F9 => ?_
    have p9 := F9.get hpp (kp_app.2 _ _ p8)
    have g9 : S9[S8.length]? = some (.lst r3) := F9.get (by omega) (get_mid (cs := []))
    (repeat fail)
    refine addl_v (kp_app.2 _ _ g9) (get_mid (cs := [])) (by rw [hr3]; simp) ?_
    obtain ⟨r5, hr5⟩ : ∃ r5 : List W, r5 = r3 ++ [.tup [k.w, o'.w, x.w], .tup [k.w, o.w, x.w]] := ⟨_, rfl⟩
    rw [← hr5]
    have okr : ∀ w ∈ r5, RowOk w := fun w hw => by
      have gk4 : k.wf ∧ k.dp ≤ 4 := ⟨gk.1, by omega⟩
      have go4 : o.wf ∧ o.dp ≤ 4 := ⟨go.1, by omega⟩
      rw [hr5, hr3] at hw
      simp only [List.cons_append, List.nil_append, List.mem_cons, List.mem_nil_iff, or_false] at hw
      rcases hw with rfl | rfl | rfl | rfl | rfl
      · exact ⟨_, _, _, rfl, gk4, go4, xw, by omega⟩
      · exact ⟨_, _, _, rfl, gk4, go4, w2, by omega⟩
      · exact ⟨_, _, _, rfl, ⟨kw', kd'⟩, go4, xw, by omega⟩
      · exact ⟨_, _, _, rfl, gk4, ⟨ow', od'⟩, xw, by omega⟩
      · exact ⟨_, _, _, rfl, gk4, go4, xw, by omega⟩
    obtain ⟨p5', hp5'⟩ : ∃ p5', p5' = (S9 ++ [Cell.lst [.tup [k.w, o'.w, x.w], .tup [k.w, o.w, x.w]]]).length := ⟨_, rfl⟩
    rw [← hp5']
    obtain ⟨q2, hq2⟩ : ∃ q2, q2 = S9 ++ [Cell.lst [.tup [k.w, o'.w, x.w], .tup [k.w, o.w, x.w]]] ++ [Cell.lst r5] := ⟨_, rfl⟩
    have g5 : q2[p5']? = some (.lst r5) := by rw [hq2, hp5']; exact get_mid (cs := [])
    have Tq : Tp q2 1 0 := by rw [hq2]; exact T9.app.app
    have pq : q2[pp]? = some (.lst (rows.map rowW)) := by rw [hq2]; exact kp_app.2 _ _ (kp_app.2 _ _ p9)
    rw [← hq2]
    clear hq2
    (repeat fail)
    refine ⟨r5, lst_loc g5, ?_⟩
    refine vl_inv (fun j ls y => ∃ x13 x14 : Option W, ls = lU ns k o pp cb (some (.int (i : Int))) (some x.w) (some (.loc S6.length)) x9 x10 (some x2.w) (some (.loc p5')) x13 x14 ∧ Kp q2 y) (fun j ls y h => by
      obtain ⟨_, _, _, h⟩ := h
      exact h.2 _ _ g5) ⟨x13, x14, rfl, Kp.refl q2⟩ ?_ ?_
    · rintro j w ls y ew ⟨x13, x14, rfl, ky⟩
      obtain ⟨a, b, t, rfl, ⟨aw, ad⟩, ⟨bw, bd⟩, tw, td⟩ := okr w (List.mem_of_getElem? ew)
      refine ⟨_, dg_n13, ?_⟩
      (repeat (first | fail | with_reducible refine vs_seq (vs_if ?_)))
      refine suitsF_v aw (by omega) (n := 4) td bw bd fun S7 k7 => ?_
      cases es : t.suits a b with
      | true =>
        (repeat (first | fail | with_reducible refine vs_seq (vs_if ?_)))
        obtain ⟨S8, e8, k8⟩ := chkT aw (by omega) bw bd tw td es (S := S7)
        refine vf_of e8 ?_
        (repeat fail)
        refine same_told fun S9 k9 => ?_
        (repeat fail)
        exact ⟨_, _, rfl, ((ky.trans k7).trans k8).trans k9⟩
      | false =>
        (repeat (first | fail | with_reducible refine vs_seq (vs_if ?_)))
        obtain ⟨S8, e8, k8⟩ := chkF aw (by omega) bw bd tw td es (S := S7)
        refine vf_of e8 ?_
        (repeat fail)
        refine same_ref fun S9 k9 => ?_
        (repeat fail)
        exact ⟨_, _, rfl, ((ky.trans k7).trans k8).trans k9⟩
    rintro ls y ⟨x13, x14, rfl, ky⟩
    exact ⟨_, _, _, _, _, _, _, _, _, rfl, ky.tp Tq, ky.2 _ _ pq⟩
  · rintro ls u ⟨x6, x7, x8, x9, x10, x11, x12, x13, x14, rfl, Tu, hp⟩
    (repeat fail)
    rfl
theorem law_true (ns : List Int) (hn : ns.length ≤ 63) : ∃ S, f_law [.rol (ns.map W.int)] [] = .ok (.bl true) S := by
  obtain ⟨w, S, e, rfl⟩ := law_v hn
  exact ⟨S, e⟩
end G
set_option maxHeartbeats 0
namespace G
open PySem L2 Fs
def h__is_number : He.DefD := ⟨("_is_number", none), "_is_number", "_is_number", defArgs s__is_number, defBody s__is_number, defScope s__is_number, [], []⟩
def h__is_form : He.DefD := ⟨("_is_form", none), "_is_form", "_is_form", defArgs s__is_form, defBody s__is_form, defScope s__is_form, [], []⟩
def h__is_case : He.DefD := ⟨("_is_case", none), "_is_case", "_is_case", defArgs s__is_case, defBody s__is_case, defScope s__is_case, [], []⟩
def h_is_letter : He.DefD := ⟨("is_letter", none), "is_letter", "is_letter", defArgs s_is_letter, defBody s_is_letter, defScope s_is_letter, [], []⟩
def h_steps_from : He.DefD := ⟨("steps_from", none), "steps_from", "steps_from", defArgs s_steps_from, defBody s_steps_from, defScope s_steps_from, [], []⟩
def h_kind_at : He.DefD := ⟨("kind_at", none), "kind_at", "kind_at", defArgs s_kind_at, defBody s_kind_at, defScope s_kind_at, [], []⟩
def h__parts_of : He.DefD := ⟨("_parts_of", none), "_parts_of", "_parts_of", defArgs s__parts_of, defBody s__parts_of, defScope s__parts_of, [], []⟩
def h_part_at : He.DefD := ⟨("part_at", none), "part_at", "part_at", defArgs s_part_at, defBody s_part_at, defScope s_part_at, [], []⟩
def h__fits : He.DefD := ⟨("_fits", none), "_fits", "_fits", defArgs s__fits, defBody s__fits, defScope s__fits, [], []⟩
def h_check_term : He.DefD := ⟨("check_term", none), "check_term", "check_term", defArgs s_check_term, defBody s_check_term, defScope s_check_term, [], []⟩
def h_gives : He.DefD := ⟨("gives", none), "gives", "gives", defArgs s_gives, defBody s_gives, defScope s_gives, [], []⟩
def h__law_tape : He.DefD := ⟨("_law_tape", none), "_law_tape", "_law_tape", defArgs s__law_tape, defBody s__law_tape, defScope s__law_tape, [], []⟩
def h__law_draw : He.DefD := ⟨("_law_draw", none), "_law_draw", "_law_draw", defArgs s__law_draw, defBody s__law_draw, defScope s__law_draw, [], []⟩
def h__law_whole : He.DefD := ⟨("_law_whole", none), "_law_whole", "_law_whole", defArgs s__law_whole, defBody s__law_whole, defScope s__law_whole, [], []⟩
def h__law_names : He.DefD := ⟨("_law_names", none), "_law_names", "_law_names", defArgs s__law_names, defBody s__law_names, defScope s__law_names, [], []⟩
def h__law_kinds : He.DefD := ⟨("_law_kinds", none), "_law_kinds", "_law_kinds", defArgs s__law_kinds, defBody s__law_kinds, defScope s__law_kinds, [], []⟩
def h__law_kind : He.DefD := ⟨("_law_kind", none), "_law_kind", "_law_kind", defArgs s__law_kind, defBody s__law_kind, defScope s__law_kind, [], []⟩
def h__law_any_kind : He.DefD := ⟨("_law_any_kind", none), "_law_any_kind", "_law_any_kind", defArgs s__law_any_kind, defBody s__law_any_kind, defScope s__law_any_kind, [], []⟩
def h__law_integer : He.DefD := ⟨("_law_integer", none), "_law_integer", "_law_integer", defArgs s__law_integer, defBody s__law_integer, defScope s__law_integer, [], []⟩
def h__law_letter : He.DefD := ⟨("_law_letter", none), "_law_letter", "_law_letter", defArgs s__law_letter, defBody s__law_letter, defScope s__law_letter, [], []⟩
def h__law_is_letter : He.DefD := ⟨("_law_is_letter", none), "_law_is_letter", "_law_is_letter", defArgs s__law_is_letter, defBody s__law_is_letter, defScope s__law_is_letter, [], []⟩
def h__law_same : He.DefD := ⟨("_law_same", none), "_law_same", "_law_same", defArgs s__law_same, defBody s__law_same, defScope s__law_same, [], []⟩
def h__law_pick : He.DefD := ⟨("_law_pick", none), "_law_pick", "_law_pick", defArgs s__law_pick, defBody s__law_pick, defScope s__law_pick, [], []⟩
def h__law_error : He.DefD := ⟨("_law_error", none), "_law_error", "_law_error", defArgs s__law_error, defBody s__law_error, defScope s__law_error, [], []⟩
def h__law_over : He.DefD := ⟨("_law_over", none), "_law_over", "_law_over", defArgs s__law_over, defBody s__law_over, defScope s__law_over, [], []⟩
def h__law_small : He.DefD := ⟨("_law_small", none), "_law_small", "_law_small", defArgs s__law_small, defBody s__law_small, defScope s__law_small, [], []⟩
def h__law_paths : He.DefD := ⟨("_law_paths", none), "_law_paths", "_law_paths", defArgs s__law_paths, defBody s__law_paths, defScope s__law_paths, [], []⟩
def h__law_kind_at : He.DefD := ⟨("_law_kind_at", none), "_law_kind_at", "_law_kind_at", defArgs s__law_kind_at, defBody s__law_kind_at, defScope s__law_kind_at, [], []⟩
def h__law_at : He.DefD := ⟨("_law_at", none), "_law_at", "_law_at", defArgs s__law_at, defBody s__law_at, defScope s__law_at, [], []⟩
def h__law_term : He.DefD := ⟨("_law_term", none), "_law_term", "_law_term", defArgs s__law_term, defBody s__law_term, defScope s__law_term, [], []⟩
def h__law_gives : He.DefD := ⟨("_law_gives", none), "_law_gives", "_law_gives", defArgs s__law_gives, defBody s__law_gives, defScope s__law_gives, [], []⟩
def h__law_term_suits : He.DefD := ⟨("_law_term_suits", none), "_law_term_suits", "_law_term_suits", defArgs s__law_term_suits, defBody s__law_term_suits, defScope s__law_term_suits, [], []⟩
def h__law_turned : He.DefD := ⟨("_law_turned", none), "_law_turned", "_law_turned", defArgs s__law_turned, defBody s__law_turned, defScope s__law_turned, [], []⟩
def h__law_other_kind : He.DefD := ⟨("_law_other_kind", none), "_law_other_kind", "_law_other_kind", defArgs s__law_other_kind, defBody s__law_other_kind, defScope s__law_other_kind, [], []⟩
def h__law_wild_leaf : He.DefD := ⟨("_law_wild_leaf", none), "_law_wild_leaf", "_law_wild_leaf", defArgs s__law_wild_leaf, defBody s__law_wild_leaf, defScope s__law_wild_leaf, [], []⟩
def h__law_spoilt : He.DefD := ⟨("_law_spoilt", none), "_law_spoilt", "_law_spoilt", defArgs s__law_spoilt, defBody s__law_spoilt, defScope s__law_spoilt, [], []⟩
def h__law_checked : He.DefD := ⟨("_law_checked", none), "_law_checked", "_law_checked", defArgs s__law_checked, defBody s__law_checked, defScope s__law_checked, [], []⟩
def h_law : He.DefD := ⟨("law", none), "law", "law", defArgs s_law, defBody s_law, defScope s_law, [], []⟩
def hfn : List He.DefD := [h__is_number, h__is_form, h__is_case, h_is_letter, h_steps_from, h_kind_at, h__parts_of, h_part_at, h__fits, h_check_term, h_gives, h__law_tape, h__law_draw, h__law_whole, h__law_names, h__law_kinds, h__law_kind, h__law_any_kind, h__law_integer, h__law_letter, h__law_is_letter, h__law_same, h__law_pick, h__law_error, h__law_over, h__law_small, h__law_paths, h__law_kind_at, h__law_at, h__law_term, h__law_gives, h__law_term_suits, h__law_turned, h__law_other_kind, h__law_wild_leaf, h__law_spoilt, h__law_checked, h_law]
def hfal : List He.Fa := [.glo "_is_number", .glo "_is_form", .glo "_is_case", .glo "is_letter", .glo "steps_from", .glo "kind_at", .glo "_parts_of", .glo "part_at", .glo "_fits", .glo "check_term", .glo "gives", .glo "_law_tape", .glo "_law_draw", .glo "_law_whole", .glo "_law_names", .glo "_law_kinds", .glo "_law_kind", .glo "_law_any_kind", .glo "_law_integer", .glo "_law_letter", .glo "_law_is_letter", .glo "_law_same", .glo "_law_pick", .glo "_law_error", .glo "_law_over", .glo "_law_small", .glo "_law_paths", .glo "_law_kind_at", .glo "_law_at", .glo "_law_term", .glo "_law_gives", .glo "_law_term_suits", .glo "_law_turned", .glo "_law_other_kind", .glo "_law_wild_leaf", .glo "_law_spoilt", .glo "_law_checked", .glo "law", .free "ValueError", .free "abs", .free "bool", .free "dict", .free "enumerate", .free "int", .free "isinstance", .free "len", .free "list", .free "max", .free "min", .free "range", .free "reversed", .free "str", .free "sum", .free "tuple", .glo "GuardError", .glo "BadLetter", .glo "BadCondition", .glo "BadTerm", .glo "OtherKinds", .glo "Unread", .glo "NotPlain", .glo "NotSingle", .glo "TooMany", .glo "UnknownName", .glo "TooLarge", .glo "WrongUse", .glo "InUse", .glo "Circle", .glo "NothingToUndo", .exc "BadTerm", .glo "INTEGERS"]
def tf : List He.Defn := []
abbrev R : PySem.W.OpenRow := PySem.W.OpenLaw.row PySem.Challenge.rw_guardwords_k67_terms_fit_and_give
abbrev exB : PySem.W.Frag → Bool := fun K => errB K errNs "GuardError" && (cstB K "INTEGERS" [(PySem.Str.ofString "integers")])
abbrev hk : PySem.W.Hook := He.hookX 5 hfal hfn [] tf exB
def ob (s : PySem.W.SharedT) : He.AlX := He.obsX 5 hfal hfn [] tf exB (HandSHeadRun.getT s)
theorem ob_eq (s : PySem.W.SharedT) : ob s = hk.obs s.abs := He.obsX_eq (HandSHeadRun.getT_eq s)
def loose : List PySem.Str := [("GuardError" : PySem.Str), ("BadLetter" : PySem.Str), ("BadCondition" : PySem.Str), ("BadTerm" : PySem.Str), ("OtherKinds" : PySem.Str), ("Unread" : PySem.Str), ("NotPlain" : PySem.Str), ("NotSingle" : PySem.Str), ("TooMany" : PySem.Str), ("UnknownName" : PySem.Str), ("TooLarge" : PySem.Str), ("WrongUse" : PySem.Str), ("InUse" : PySem.Str), ("Circle" : PySem.Str), ("NothingToUndo" : PySem.Str), ("is_letter" : PySem.Str), ("_is_number" : PySem.Str), ("_is_form" : PySem.Str), ("_is_case" : PySem.Str), ("steps_from" : PySem.Str), ("kind_at" : PySem.Str), ("part_at" : PySem.Str), ("_parts_of" : PySem.Str), ("INTEGERS" : PySem.Str), ("check_term" : PySem.Str), ("_fits" : PySem.Str), ("gives" : PySem.Str), ("_law_tape" : PySem.Str), ("_law_draw" : PySem.Str), ("_law_whole" : PySem.Str), ("_law_names" : PySem.Str), ("_law_kinds" : PySem.Str), ("_law_kind" : PySem.Str), ("_law_any_kind" : PySem.Str), ("_law_integer" : PySem.Str), ("_law_letter" : PySem.Str), ("_law_is_letter" : PySem.Str), ("_law_same" : PySem.Str), ("_law_pick" : PySem.Str), ("_law_error" : PySem.Str), ("_law_over" : PySem.Str), ("_law_small" : PySem.Str), ("_law_paths" : PySem.Str), ("_law_kind_at" : PySem.Str), ("_law_at" : PySem.Str), ("_law_term" : PySem.Str), ("_law_gives" : PySem.Str), ("_law_term_suits" : PySem.Str), ("_law_turned" : PySem.Str), ("_law_other_kind" : PySem.Str), ("_law_wild_leaf" : PySem.Str), ("_law_spoilt" : PySem.Str), ("_law_checked" : PySem.Str)]
theorem run (w : World) : HandSHeadRun.RunEq R (PySem.W.view R.prog [57]) hk ob 9000 loose w := by
  intro os
  kernel_rfl
abbrev tabI (K : PySem.W.Frag) : Tabs := ⟨fun c P => ∃ p ∈ tf, (c, P) = He.cT K p⟩
theorem facts {P : Program} {w : World} {K : PySem.W.Frag} {h : Heap} {mg : Str → Option Value} {f : Addr} (X : K.In h) (Gn : h.Ns mainGlobals mg) (hfa : mg ("law" : Str) = some (.ref f)) (c : He.SaysD hfal hfn K) (cx : exB K = true) :
    ∃ fd : FuncData, (∀ (s : Shared) (v : Value), BindsTo s fd ⟨[v], []⟩ [("script", v)]) ∧ ∀ base : Heap, K.In base → base.Ns mainGlobals mg → (∀ p ∈ tf.map (He.cT K), GxR.TabB base mg p.1 p.2) → FnOk P w K mg base CX0 13 f fd ["script"] (@Fs.spLawT (tabI K) K) := by
  letI : Tabs := tabI K
  obtain ⟨fd__is_number, F__is_number⟩ := c.def_ 0 (d := h__is_number) rfl
  obtain ⟨fd__is_form, F__is_form⟩ := c.def_ 1 (d := h__is_form) rfl
  obtain ⟨fd__is_case, F__is_case⟩ := c.def_ 2 (d := h__is_case) rfl
  obtain ⟨fd_is_letter, F_is_letter⟩ := c.def_ 3 (d := h_is_letter) rfl
  obtain ⟨fd_steps_from, F_steps_from⟩ := c.def_ 4 (d := h_steps_from) rfl
  obtain ⟨fd_kind_at, F_kind_at⟩ := c.def_ 5 (d := h_kind_at) rfl
  obtain ⟨fd__parts_of, F__parts_of⟩ := c.def_ 6 (d := h__parts_of) rfl
  obtain ⟨fd_part_at, F_part_at⟩ := c.def_ 7 (d := h_part_at) rfl
  obtain ⟨fd__fits, F__fits⟩ := c.def_ 8 (d := h__fits) rfl
  obtain ⟨fd_check_term, F_check_term⟩ := c.def_ 9 (d := h_check_term) rfl
  obtain ⟨fd_gives, F_gives⟩ := c.def_ 10 (d := h_gives) rfl
  obtain ⟨fd__law_tape, F__law_tape⟩ := c.def_ 11 (d := h__law_tape) rfl
  obtain ⟨fd__law_draw, F__law_draw⟩ := c.def_ 12 (d := h__law_draw) rfl
  obtain ⟨fd__law_whole, F__law_whole⟩ := c.def_ 13 (d := h__law_whole) rfl
  obtain ⟨fd__law_names, F__law_names⟩ := c.def_ 14 (d := h__law_names) rfl
  obtain ⟨fd__law_kinds, F__law_kinds⟩ := c.def_ 15 (d := h__law_kinds) rfl
  obtain ⟨fd__law_kind, F__law_kind⟩ := c.def_ 16 (d := h__law_kind) rfl
  obtain ⟨fd__law_any_kind, F__law_any_kind⟩ := c.def_ 17 (d := h__law_any_kind) rfl
  obtain ⟨fd__law_integer, F__law_integer⟩ := c.def_ 18 (d := h__law_integer) rfl
  obtain ⟨fd__law_letter, F__law_letter⟩ := c.def_ 19 (d := h__law_letter) rfl
  obtain ⟨fd__law_is_letter, F__law_is_letter⟩ := c.def_ 20 (d := h__law_is_letter) rfl
  obtain ⟨fd__law_same, F__law_same⟩ := c.def_ 21 (d := h__law_same) rfl
  obtain ⟨fd__law_pick, F__law_pick⟩ := c.def_ 22 (d := h__law_pick) rfl
  obtain ⟨fd__law_error, F__law_error⟩ := c.def_ 23 (d := h__law_error) rfl
  obtain ⟨fd__law_over, F__law_over⟩ := c.def_ 24 (d := h__law_over) rfl
  obtain ⟨fd__law_small, F__law_small⟩ := c.def_ 25 (d := h__law_small) rfl
  obtain ⟨fd__law_paths, F__law_paths⟩ := c.def_ 26 (d := h__law_paths) rfl
  obtain ⟨fd__law_kind_at, F__law_kind_at⟩ := c.def_ 27 (d := h__law_kind_at) rfl
  obtain ⟨fd__law_at, F__law_at⟩ := c.def_ 28 (d := h__law_at) rfl
  obtain ⟨fd__law_term, F__law_term⟩ := c.def_ 29 (d := h__law_term) rfl
  obtain ⟨fd__law_gives, F__law_gives⟩ := c.def_ 30 (d := h__law_gives) rfl
  obtain ⟨fd__law_term_suits, F__law_term_suits⟩ := c.def_ 31 (d := h__law_term_suits) rfl
  obtain ⟨fd__law_turned, F__law_turned⟩ := c.def_ 32 (d := h__law_turned) rfl
  obtain ⟨fd__law_other_kind, F__law_other_kind⟩ := c.def_ 33 (d := h__law_other_kind) rfl
  obtain ⟨fd__law_wild_leaf, F__law_wild_leaf⟩ := c.def_ 34 (d := h__law_wild_leaf) rfl
  obtain ⟨fd__law_spoilt, F__law_spoilt⟩ := c.def_ 35 (d := h__law_spoilt) rfl
  obtain ⟨fd__law_checked, F__law_checked⟩ := c.def_ 36 (d := h__law_checked) rfl
  obtain ⟨fd_law, F_law⟩ := c.def_ 37 (d := h_law) rfl
  have g_GuardError := He.glo_ok X Gn (c.fact 54 (f := .glo "GuardError") rfl)
  have g_BadLetter := He.glo_ok X Gn (c.fact 55 (f := .glo "BadLetter") rfl)
  have g_BadCondition := He.glo_ok X Gn (c.fact 56 (f := .glo "BadCondition") rfl)
  have g_BadTerm := He.glo_ok X Gn (c.fact 57 (f := .glo "BadTerm") rfl)
  have g_OtherKinds := He.glo_ok X Gn (c.fact 58 (f := .glo "OtherKinds") rfl)
  have g_Unread := He.glo_ok X Gn (c.fact 59 (f := .glo "Unread") rfl)
  have g_NotPlain := He.glo_ok X Gn (c.fact 60 (f := .glo "NotPlain") rfl)
  have g_NotSingle := He.glo_ok X Gn (c.fact 61 (f := .glo "NotSingle") rfl)
  have g_TooMany := He.glo_ok X Gn (c.fact 62 (f := .glo "TooMany") rfl)
  have g_UnknownName := He.glo_ok X Gn (c.fact 63 (f := .glo "UnknownName") rfl)
  have g_TooLarge := He.glo_ok X Gn (c.fact 64 (f := .glo "TooLarge") rfl)
  have g_WrongUse := He.glo_ok X Gn (c.fact 65 (f := .glo "WrongUse") rfl)
  have g_InUse := He.glo_ok X Gn (c.fact 66 (f := .glo "InUse") rfl)
  have g_Circle := He.glo_ok X Gn (c.fact 67 (f := .glo "Circle") rfl)
  have g_NothingToUndo := He.glo_ok X Gn (c.fact 68 (f := .glo "NothingToUndo") rfl)
  obtain ⟨x0, y0⟩ := Bool.and_eq_true_iff.mp cx
  have T : Facts K mg := {
    d__is_number := ⟨_, _, F__is_number, He.glo_ok X Gn (c.fact 0 (f := .glo "_is_number") rfl)⟩
    d__is_form := ⟨_, _, F__is_form, He.glo_ok X Gn (c.fact 1 (f := .glo "_is_form") rfl)⟩
    d__is_case := ⟨_, _, F__is_case, He.glo_ok X Gn (c.fact 2 (f := .glo "_is_case") rfl)⟩
    d_is_letter := ⟨_, _, F_is_letter, He.glo_ok X Gn (c.fact 3 (f := .glo "is_letter") rfl)⟩
    d_steps_from := ⟨_, _, F_steps_from, He.glo_ok X Gn (c.fact 4 (f := .glo "steps_from") rfl)⟩
    d_kind_at := ⟨_, _, F_kind_at, He.glo_ok X Gn (c.fact 5 (f := .glo "kind_at") rfl)⟩
    d__parts_of := ⟨_, _, F__parts_of, He.glo_ok X Gn (c.fact 6 (f := .glo "_parts_of") rfl)⟩
    d_part_at := ⟨_, _, F_part_at, He.glo_ok X Gn (c.fact 7 (f := .glo "part_at") rfl)⟩
    d__fits := ⟨_, _, F__fits, He.glo_ok X Gn (c.fact 8 (f := .glo "_fits") rfl)⟩
    d_check_term := ⟨_, _, F_check_term, He.glo_ok X Gn (c.fact 9 (f := .glo "check_term") rfl)⟩
    d_gives := ⟨_, _, F_gives, He.glo_ok X Gn (c.fact 10 (f := .glo "gives") rfl)⟩
    d__law_tape := ⟨_, _, F__law_tape, He.glo_ok X Gn (c.fact 11 (f := .glo "_law_tape") rfl)⟩
    d__law_draw := ⟨_, _, F__law_draw, He.glo_ok X Gn (c.fact 12 (f := .glo "_law_draw") rfl)⟩
    d__law_whole := ⟨_, _, F__law_whole, He.glo_ok X Gn (c.fact 13 (f := .glo "_law_whole") rfl)⟩
    d__law_names := ⟨_, _, F__law_names, He.glo_ok X Gn (c.fact 14 (f := .glo "_law_names") rfl)⟩
    d__law_kinds := ⟨_, _, F__law_kinds, He.glo_ok X Gn (c.fact 15 (f := .glo "_law_kinds") rfl)⟩
    d__law_kind := ⟨_, _, F__law_kind, He.glo_ok X Gn (c.fact 16 (f := .glo "_law_kind") rfl)⟩
    d__law_any_kind := ⟨_, _, F__law_any_kind, He.glo_ok X Gn (c.fact 17 (f := .glo "_law_any_kind") rfl)⟩
    d__law_integer := ⟨_, _, F__law_integer, He.glo_ok X Gn (c.fact 18 (f := .glo "_law_integer") rfl)⟩
    d__law_letter := ⟨_, _, F__law_letter, He.glo_ok X Gn (c.fact 19 (f := .glo "_law_letter") rfl)⟩
    d__law_is_letter := ⟨_, _, F__law_is_letter, He.glo_ok X Gn (c.fact 20 (f := .glo "_law_is_letter") rfl)⟩
    d__law_same := ⟨_, _, F__law_same, He.glo_ok X Gn (c.fact 21 (f := .glo "_law_same") rfl)⟩
    d__law_pick := ⟨_, _, F__law_pick, He.glo_ok X Gn (c.fact 22 (f := .glo "_law_pick") rfl)⟩
    d__law_error := ⟨_, _, F__law_error, He.glo_ok X Gn (c.fact 23 (f := .glo "_law_error") rfl)⟩
    d__law_over := ⟨_, _, F__law_over, He.glo_ok X Gn (c.fact 24 (f := .glo "_law_over") rfl)⟩
    d__law_small := ⟨_, _, F__law_small, He.glo_ok X Gn (c.fact 25 (f := .glo "_law_small") rfl)⟩
    d__law_paths := ⟨_, _, F__law_paths, He.glo_ok X Gn (c.fact 26 (f := .glo "_law_paths") rfl)⟩
    d__law_kind_at := ⟨_, _, F__law_kind_at, He.glo_ok X Gn (c.fact 27 (f := .glo "_law_kind_at") rfl)⟩
    d__law_at := ⟨_, _, F__law_at, He.glo_ok X Gn (c.fact 28 (f := .glo "_law_at") rfl)⟩
    d__law_term := ⟨_, _, F__law_term, He.glo_ok X Gn (c.fact 29 (f := .glo "_law_term") rfl)⟩
    d__law_gives := ⟨_, _, F__law_gives, He.glo_ok X Gn (c.fact 30 (f := .glo "_law_gives") rfl)⟩
    d__law_term_suits := ⟨_, _, F__law_term_suits, He.glo_ok X Gn (c.fact 31 (f := .glo "_law_term_suits") rfl)⟩
    d__law_turned := ⟨_, _, F__law_turned, He.glo_ok X Gn (c.fact 32 (f := .glo "_law_turned") rfl)⟩
    d__law_other_kind := ⟨_, _, F__law_other_kind, He.glo_ok X Gn (c.fact 33 (f := .glo "_law_other_kind") rfl)⟩
    d__law_wild_leaf := ⟨_, _, F__law_wild_leaf, He.glo_ok X Gn (c.fact 34 (f := .glo "_law_wild_leaf") rfl)⟩
    d__law_spoilt := ⟨_, _, F__law_spoilt, He.glo_ok X Gn (c.fact 35 (f := .glo "_law_spoilt") rfl)⟩
    d__law_checked := ⟨_, _, F__law_checked, He.glo_ok X Gn (c.fact 36 (f := .glo "_law_checked") rfl)⟩
    d_law := ⟨_, _, F_law, He.glo_ok X Gn (c.fact 37 (f := .glo "law") rfl)⟩
    m_ValueError := He.free_ok X Gn (c.fact 38 (f := .free "ValueError") rfl)
    m_abs := He.free_ok X Gn (c.fact 39 (f := .free "abs") rfl)
    m_bool := He.free_ok X Gn (c.fact 40 (f := .free "bool") rfl)
    m_dict := He.free_ok X Gn (c.fact 41 (f := .free "dict") rfl)
    m_enumerate := He.free_ok X Gn (c.fact 42 (f := .free "enumerate") rfl)
    m_int := He.free_ok X Gn (c.fact 43 (f := .free "int") rfl)
    m_isinstance := He.free_ok X Gn (c.fact 44 (f := .free "isinstance") rfl)
    m_len := He.free_ok X Gn (c.fact 45 (f := .free "len") rfl)
    m_list := He.free_ok X Gn (c.fact 46 (f := .free "list") rfl)
    m_max := He.free_ok X Gn (c.fact 47 (f := .free "max") rfl)
    m_min := He.free_ok X Gn (c.fact 48 (f := .free "min") rfl)
    m_range := He.free_ok X Gn (c.fact 49 (f := .free "range") rfl)
    m_reversed := He.free_ok X Gn (c.fact 50 (f := .free "reversed") rfl)
    m_str := He.free_ok X Gn (c.fact 51 (f := .free "str") rfl)
    m_sum := He.free_ok X Gn (c.fact 52 (f := .free "sum") rfl)
    m_tuple := He.free_ok X Gn (c.fact 53 (f := .free "tuple") rfl)
    r_BadTerm := err1_of g_BadTerm (c.fact 69 (f := .exc "BadTerm") rfl)
    c_INTEGERS := cst_of (He.glo_ok X Gn (c.fact 70 (f := .glo "INTEGERS") rfl)) y0
    errs := errT_of (by simp only [errNs, List.forall_mem_cons, List.forall_mem_nil, and_true]; exact ⟨g_BadLetter, g_BadCondition, g_BadTerm, g_OtherKinds, g_Unread, g_NotPlain, g_NotSingle, g_TooMany, g_UnknownName, g_TooLarge, g_WrongUse, g_InUse, g_Circle, g_NothingToUndo, fun _ h => nomatch h⟩) g_GuardError x0
  }
  have e := hfa.symm.trans (He.glo_ok X Gn (c.fact 37 (f := .glo "law") rfl))
  cases e
  obtain ⟨fd, hb, hF⟩ := law_fin (ok_law (P := P) (w := w) T) (He.glo_ok X Gn (c.fact 37 (f := .glo "law") rfl)) law_true
  exact ⟨fd, hb, fun base k1 k2 k3 => spLaw_T (hF base k1 k2 fun c0 P0 ⟨p, hp, e⟩ => by cases e; exact k3 _ (List.mem_map_of_mem hp))⟩
end G
open PySem PySem.W PySem.Calls PyProof.Rows
theorem PySem.Challenge.cw_guardwords_k67_terms_fit_and_give_holds : PySem.Challenge.rw_guardwords_k67_terms_fit_and_give.Holds := by
  w_on; o_law
  refine HandSHeadRun.head_any (r := OpenLaw.row PySem.Challenge.rw_guardwords_k67_terms_fit_and_give) (q := view (OpenLaw.row PySem.Challenge.rw_guardwords_k67_terms_fit_and_give).prog [57]) (H := G.hk) (ob := G.ob) (M := 9000) (loose := G.loose) (d := HandSHeadRun.topDef (OpenLaw.row PySem.Challenge.rw_guardwords_k67_terms_fit_and_give).prog 57) (kwd := []) G.ob_eq
    (by kernel_rfl) (fun s => by kernel_rfl) G.run (by kernel_rfl) (by kernel_rfl) (by kernel_rfl) (by rfl) (by first | assumption | decide +kernel) (by decide +kernel) ⟨rfl, rfl, rfl, rfl, rfl, by decide +kernel⟩ ?hw ?hc
  case hw => w_witness2
  case hc =>
    refine LamX.walk_ofTsE (l := PySem.Challenge.rw_guardwords_k67_terms_fit_and_give) (n := 63) (k := 13) (x := "script") (CX := fun _ => L2.CX0) rfl (by decide) (by kernel_rfl) ⟨rfl, by decide, by decide⟩ ?F (fun _ _ _ _ _ z => z)
    intro w mg fa h Y Gn hmg0
    obtain ⟨K, KX, c⟩ := Y
    have hmg : mg ("law" : PySem.Str) = some (.ref fa) := by
      have e : (HandSHeadRun.topDef (OpenLaw.row PySem.Challenge.rw_guardwords_k67_terms_fit_and_give).prog 57).name = ("law" : PySem.Str) := by kernel_rfl
      rw [← e]
      exact hmg0
    obtain ⟨fd, hb, hF⟩ := G.facts (P := (PySem.Challenge.rw_guardwords_k67_terms_fit_and_give).prog) (w := w) KX Gn hmg c.t.d c.more
    have at_ : ∀ {Pr : PySem.Addr × PySem.Addr → Prop}, (∀ p ∈ G.tf, Pr (He.cT K p)) → ∀ p ∈ G.tf.map (He.cT K), Pr p := fun k p hp => by
      obtain ⟨q, hq, rfl⟩ := List.mem_map.mp hp
      exact k q hq
    exact ⟨K, KX, fd, G.tf.map (He.cT K), @Fs.spLawT (G.tabI K) K, at_ (Pr := fun p => h.get? p.2 = some { cls := .none, data := .fields #[] }) c.empty, at_ (Pr := fun p => K.lookup p.2 = none) c.out, at_ (Pr := fun p => PySem.W.CodeHd h p.1 p.2) (fun p hp => PySem.W.codeHd_of_K KX (c.hd p hp)), hb,
      fun H a ns hl _ hT hS => ⟨a, ns, rfl, hS, hl, fun T ⟨c0, q, hq, e⟩ => ⟨#[], by cases e; exact hT _ (List.mem_map_of_mem hq), True.intro⟩, fun _ => rfl⟩, fun base k1 k2 k3 => hF base k1 k2 fun p hp => ⟨(k3 p hp).code, (k3 p hp).bm, (k3 p hp).gP⟩⟩

import PyProof.Rows.All
import Wide.All
import OpenK.AllK
import Wide.FinOn
import HandS.ForMost
import HandS.Wide
import HandS.Deep
import HandS.IsInst
import HandS.Flow
import HandS.TupAny
import HandS.Strs
import HandS.Defaults
import HandS.Head0
import HandS.Head1
import HandS.Head2
import HandS.HeadEnd
import HandS.HeadHook1
import HandS.HeadHook2
import HandS.HeadHook4
import PySem.Challenge.RW_guardwords_k00_letters_of_a_kind
set_option Elab.async false
set_option linter.all false
set_option maxRecDepth 100000
set_option maxHeartbeats 4000000
namespace Fs
open PySem L2

/-! ### values, cells, results -/
inductive W where
  | non | bl (b : Bool) | int (i : Int) | str (x : Str) | tup (xs : List W) | rol (xs : List W) | loc (n : Nat) | ty (n : String) | adr (a : Nat)
inductive Cell where
  | lst (xs : List W)
  | dct (kvs : List (L2.Key × W))
abbrev Store := List Cell
def cellLst : Option Cell → Option (List W)
  | some (.lst xs) => some xs
  | _ => none
theorem cellLst_some {o : Option Cell} {xs : List W} (h : cellLst o = some xs) : o = some (.lst xs) := by
  cases o with
  | none => cases h
  | some c => cases c <;> cases h <;> rfl
structure Ex where
  cls : Str
  fs : List (Str × W)
inductive Res (α : Type) where
  | ok (a : α) (S : Store)
  | exc (e : Ex) (S : Store)
  | bad
def Res.bind {α β : Type} : Res α → (α → Store → Res β) → Res β
  | .ok a S, f => f a S
  | .exc e S, _ => .exc e S
  | .bad, _ => .bad
abbrev Lo := List (Option W)
abbrev DE := Lo → Store → Res W
abbrev DT := Lo → Store → Res Bool
abbrev DA := Lo → Store → Res (List W)
abbrev DF := List W → Store → Res W
inductive RS where
  | nx (ls : Lo) (S : Store) | rt (w : W) (S : Store) | bk (ls : Lo) (S : Store) | ct (ls : Lo) (S : Store) | ex (e : Ex) (ls : Lo) (S : Store) | bad
abbrev DS := Lo → Store → RS

/-! ### what stands for what -/
abbrev Mu := Nat → Option Addr
def RoL (K : PySem.W.Frag) (H : Hp) (a : Addr) (xs : List V) : Prop :=
  (∃ o, H a = some (.frz o (.lst xs))) ∨
    ∃ (o : Obj) (its : Array Value) (n : Nat), K.lookup a = some o ∧ o.cls = .type "list" ∧ o.dict = none ∧ o.data = .seq its n ∧ its.size ≤ sizeLine ∧ Vals xs its.toList
theorem RoL.seq {K : PySem.W.Frag} {H : Hp} {a : Addr} {xs : List V} (h : RoL K H a xs) : SqL K H a xs := by
  rcases h with ⟨o, h⟩ | h
  · exact .inl (.inr ⟨o, h⟩)
  · exact .inr h
theorem RoL.of_only {K : PySem.W.Frag} {H : Hp} {a : Addr} {xs : List V} (o : Only H) (h : SqL K H a xs) : RoL K H a xs := by
  rcases h with (h | ⟨u, h⟩) | h
  · rcases o a with q | ⟨u, ys, q⟩
    · rw [q] at h; cases h
    · rw [q] at h; cases h
  · exact .inl ⟨u, h⟩
  · exact .inr h
/-- a tuple whose object is known to have no dict -/
def SqD (K : PySem.W.Frag) (H : Hp) (a : Addr) (xs : List V) : Prop :=
  (∃ o, H a = some (.frz o (.tup xs)) ∧ o.dict = none) ∨
    ∃ (o : Obj) (its : Array Value) (n : Nat), K.lookup a = some o ∧ o.cls = .type "tuple" ∧ o.dict = none ∧ o.data = .seq its n ∧ its.size ≤ sizeLine ∧ Vals xs its.toList
theorem SqD.t {K : PySem.W.Frag} {H : Hp} {a : Addr} {xs : List V} (h : SqD K H a xs) : SqT K H a xs := by
  rcases h with ⟨o, h, _⟩ | ⟨o, its, n, h1, h2, _, h3, h4, h5⟩
  · exact .inl (.inr ⟨o, h⟩)
  · exact .inr ⟨o, its, n, h1, h2, h3, h4, h5⟩
theorem SqD.of {K : PySem.W.Frag} {H : Hp} {a : Addr} {xs : List V} {o : Obj} (h : H a = some (.frz o (.tup xs))) (hd : o.dict = none) : SqD K H a xs := .inl ⟨o, h, hd⟩
mutual
inductive Vr (K : PySem.W.Frag) (μ : Mu) (H : Hp) : V → W → Prop
  | non : Vr K μ H .non .non
  | bl (b : Bool) : Vr K μ H (.bl b) (.bl b)
  | int (i : Int) : Vr K μ H (.int i) (.int i)
  | str (x : Str) : Vr K μ H (.str x) (.str x)
  | tup {a : Addr} {xs : List V} {ws : List W} : SqD K H a xs → VrA K μ H xs ws → Vr K μ H (.ref a) (.tup ws)
  | rol {a : Addr} {xs : List V} {ws : List W} : RoL K H a xs → VrA K μ H xs ws → Vr K μ H (.ref a) (.rol ws)
  | loc {n : Nat} {a : Addr} : μ n = some a → Vr K μ H (.ref a) (.loc n)
  | ty (n : String) : Vr K μ H (.ty n) (.ty n)
  | adr (a : Addr) : Vr K μ H (.ref a) (.adr a)
inductive VrA (K : PySem.W.Frag) (μ : Mu) (H : Hp) : List V → List W → Prop
  | nil : VrA K μ H [] []
  | cons {v : V} {vs : List V} {w : W} {ws : List W} : Vr K μ H v w → VrA K μ H vs ws → VrA K μ H (v :: vs) (w :: ws)
end
def fixO : HO → Bool
  | .tup _ => true
  | .frz _ _ => true
  | .xd _ => true
  | _ => false
structure Gr (μ μ' : Mu) (H H' : Hp) : Prop where
  mu : ∀ n a, μ n = some a → μ' n = some a
  fx : ∀ a u, H a = some u → fixO u = true → H' a = some u
  kp : ∀ a u, H a = some u → (∀ n, μ n ≠ some a) → H' a = some u ∧ ∀ n, μ' n ≠ some a
theorem Gr.refl (μ : Mu) (H : Hp) : Gr μ μ H H := ⟨fun _ _ h => h, fun _ _ h _ => h, fun _ _ h q => ⟨h, q⟩⟩
theorem Gr.trans {μ μ1 μ2 : Mu} {H H1 H2 : Hp} (a : Gr μ μ1 H H1) (b : Gr μ1 μ2 H1 H2) : Gr μ μ2 H H2 :=
  ⟨fun n x h => b.mu n x (a.mu n x h), fun x u h q => b.fx x u (a.fx x u h q) q, fun x u h q => b.kp x u (a.kp x u h q).1 (a.kp x u h q).2⟩
structure Gq (μ μ' : Mu) (H H' : Hp) : Prop where
  mu : ∀ n a, μ n = some a → μ' n = some a
  fx : ∀ a u, H a = some u → fixO u = true → H' a = some u
theorem Gr.q {μ μ' : Mu} {H H' : Hp} (g : Gr μ μ' H H') : Gq μ μ' H H' := ⟨g.mu, g.fx⟩
theorem Gq.sqt {K : PySem.W.Frag} {μ μ' : Mu} {H H' : Hp} {a : Addr} {xs : List V} (g : Gq μ μ' H H') (h : SqT K H a xs) : SqT K H' a xs := by
  rcases h with (h | ⟨o, h⟩) | h
  · exact .inl (.inl (g.fx _ _ h rfl))
  · exact .inl (.inr ⟨o, g.fx _ _ h rfl⟩)
  · exact .inr h
theorem Gq.sqd {K : PySem.W.Frag} {μ μ' : Mu} {H H' : Hp} {a : Addr} {xs : List V} (g : Gq μ μ' H H') (h : SqD K H a xs) : SqD K H' a xs := by
  rcases h with ⟨o, h, hd⟩ | h
  · exact .inl ⟨o, g.fx _ _ h rfl, hd⟩
  · exact .inr h
theorem Gq.rol {K : PySem.W.Frag} {μ μ' : Mu} {H H' : Hp} {a : Addr} {xs : List V} (g : Gq μ μ' H H') (h : RoL K H a xs) : RoL K H' a xs := by
  rcases h with ⟨o, h⟩ | h
  · exact .inl ⟨o, g.fx _ _ h rfl⟩
  · exact .inr h
mutual
theorem Vr.mono0 {K : PySem.W.Frag} {μ μ' : Mu} {H H' : Hp} (g : Gq μ μ' H H') : ∀ {w : W} {v : V}, Vr K μ H v w → Vr K μ' H' v w
  | .non, _, h => by cases h; exact .non
  | .bl b, _, h => by cases h; exact .bl b
  | .int b, _, h => by cases h; exact .int b
  | .str b, _, h => by cases h; exact .str b
  | .tup ws, _, h => by
    cases h with
    | tup h1 h2 => exact .tup (g.sqd h1) (VrA.mono0 g h2)
  | .rol ws, _, h => by
    cases h with
    | rol h1 h2 => exact .rol (g.rol h1) (VrA.mono0 g h2)
  | .loc n, _, h => by
    cases h with
    | loc h1 => exact .loc (g.mu _ _ h1)
  | .ty n, _, h => by cases h; exact .ty n
  | .adr a, _, h => by cases h; exact .adr a
theorem VrA.mono0 {K : PySem.W.Frag} {μ μ' : Mu} {H H' : Hp} (g : Gq μ μ' H H') : ∀ {ws : List W} {vs : List V}, VrA K μ H vs ws → VrA K μ' H' vs ws
  | [], _, h => by cases h; exact .nil
  | w :: ws, _, h => by
    cases h with
    | cons h1 h2 => exact .cons (Vr.mono0 g h1) (VrA.mono0 g h2)
end
theorem Gr.sqt {K : PySem.W.Frag} {μ μ' : Mu} {H H' : Hp} {a : Addr} {xs : List V} (g : Gr μ μ' H H') (h : SqT K H a xs) : SqT K H' a xs := g.q.sqt h
theorem Gr.rol {K : PySem.W.Frag} {μ μ' : Mu} {H H' : Hp} {a : Addr} {xs : List V} (g : Gr μ μ' H H') (h : RoL K H a xs) : RoL K H' a xs := g.q.rol h
theorem Vr.mono {K : PySem.W.Frag} {μ μ' : Mu} {H H' : Hp} (g : Gr μ μ' H H') {w : W} {v : V} (h : Vr K μ H v w) : Vr K μ' H' v w := h.mono0 g.q
theorem VrA.mono {K : PySem.W.Frag} {μ μ' : Mu} {H H' : Hp} (g : Gr μ μ' H H') {ws : List W} {vs : List V} (h : VrA K μ H vs ws) : VrA K μ' H' vs ws := h.mono0 g.q
theorem VrA.length {K : PySem.W.Frag} {μ : Mu} {H : Hp} : ∀ {ws : List W} {vs : List V}, VrA K μ H vs ws → vs.length = ws.length
  | [], _, h => by cases h; rfl
  | w :: ws, _, h => by
    cases h with
    | cons h1 h2 => rw [List.length_cons, List.length_cons, VrA.length h2]
theorem VrA.get {K : PySem.W.Frag} {μ : Mu} {H : Hp} : ∀ {ws : List W} {vs : List V} {i : Nat} {w : W}, VrA K μ H vs ws → ws[i]? = some w → ∃ v, vs[i]? = some v ∧ Vr K μ H v w
  | [], _, _, _, _, e => by simp at e
  | w :: ws, _, 0, _, h, e => by
    cases h with
    | cons h1 h2 =>
      simp at e
      subst e
      exact ⟨_, rfl, h1⟩
  | w :: ws, _, i + 1, _, h, e => by
    cases h with
    | cons h1 h2 =>
      obtain ⟨v, q1, q2⟩ := VrA.get (i := i) h2 (by simpa using e)
      exact ⟨v, by simpa using q1, q2⟩
theorem VrA.append {K : PySem.W.Frag} {μ : Mu} {H : Hp} : ∀ {ws ws' : List W} {vs vs' : List V}, VrA K μ H vs ws → VrA K μ H vs' ws' → VrA K μ H (vs ++ vs') (ws ++ ws')
  | [], _, _, _, h, h' => by cases h; exact h'
  | w :: ws, _, _, _, h, h' => by
    cases h with
    | cons h1 h2 => exact .cons h1 (VrA.append h2 h')
theorem VrA.set {K : PySem.W.Frag} {μ : Mu} {H : Hp} {v : V} {w : W} (r : Vr K μ H v w) : ∀ {ws : List W} {vs : List V} (i : Nat), VrA K μ H vs ws → VrA K μ H (vs.set i v) (ws.set i w)
  | [], _, _, h => by cases h; exact .nil
  | _ :: ws, _, 0, h => by
    cases h with
    | cons h1 h2 => exact .cons r h2
  | _ :: ws, _, i + 1, h => by
    cases h with
    | cons h1 h2 => exact .cons h1 (VrA.set r i h2)
theorem VrA.take {K : PySem.W.Frag} {μ : Mu} {H : Hp} : ∀ {ws : List W} {vs : List V} (n : Nat), VrA K μ H vs ws → VrA K μ H (vs.take n) (ws.take n)
  | _, _, 0, _ => by simpa using VrA.nil
  | [], _, n + 1, h => by cases h; exact .nil
  | _ :: ws, _, n + 1, h => by
    cases h with
    | cons h1 h2 => exact .cons h1 (VrA.take n h2)
theorem VrA.drop {K : PySem.W.Frag} {μ : Mu} {H : Hp} : ∀ {ws : List W} {vs : List V} (n : Nat), VrA K μ H vs ws → VrA K μ H (vs.drop n) (ws.drop n)
  | _, _, 0, h => by simpa using h
  | [], _, n + 1, h => by cases h; exact .nil
  | _ :: ws, _, n + 1, h => by
    cases h with
    | cons h1 h2 => exact VrA.drop n h2
theorem VrA.ints {K : PySem.W.Frag} {μ : Mu} {H : Hp} : ∀ ns : List Int, VrA K μ H (ns.map V.int) (ns.map W.int)
  | [] => .nil
  | n :: r => .cons (.int n) (VrA.ints r)

/-! ### the store in the heap -/
def CellR (K : PySem.W.Frag) (μ : Mu) (H : Hp) (a : Addr) : Cell → Prop
  | .lst ws => ∃ xs, H a = some (.lst xs) ∧ VrA K μ H xs ws
  | .dct ws => ∃ xs : List (L2.Key × V), H a = some (.dK xs) ∧ xs.map (·.1) = ws.map (·.1) ∧ VrA K μ H (xs.map (·.2)) (ws.map (·.2))
structure Sim (K : PySem.W.Frag) (μ : Mu) (S : Store) (H : Hp) : Prop where
  cell : ∀ n c, S[n]? = some c → ∃ a, μ n = some a ∧ CellR K μ H a c
  inj : ∀ n n' a, μ n = some a → μ n' = some a → n = n'
  top : ∀ n, S.length ≤ n → μ n = none
theorem CellR.mono0 {K : PySem.W.Frag} {μ μ' : Mu} {H H' : Hp} {a : Addr} (g : Gq μ μ' H H') (e : H' a = H a) : ∀ {c : Cell}, CellR K μ H a c → CellR K μ' H' a c
  | .lst ws, h => by
    obtain ⟨xs, h1, h2⟩ := h
    exact ⟨xs, by rw [e]; exact h1, h2.mono0 g⟩
  | .dct ws, h => by
    obtain ⟨xs, h1, h2, h3⟩ := h
    exact ⟨xs, by rw [e]; exact h1, h2, h3.mono0 g⟩
theorem CellR.mono {K : PySem.W.Frag} {μ μ' : Mu} {H H' : Hp} {a : Addr} (g : Gr μ μ' H H') (e : H' a = H a) {c : Cell} (h : CellR K μ H a c) : CellR K μ' H' a c := h.mono0 g.q e
theorem CellR.nofix {K : PySem.W.Frag} {μ : Mu} {H : Hp} {a : Addr} : ∀ {c : Cell}, CellR K μ H a c → ∃ u, H a = some u ∧ fixO u = false
  | .lst ws, h => by
    obtain ⟨xs, h1, h2⟩ := h
    exact ⟨_, h1, rfl⟩
  | .dct ws, h => by
    obtain ⟨xs, h1, h2⟩ := h
    exact ⟨_, h1, rfl⟩
/-- a fresh object that is a value (a tuple) -/
theorem gr_new {μ : Mu} {H : Hp} {p : Addr} {u : HO} (hp : H p = none) : Gr μ μ H (upd H p u) := ⟨fun _ _ h => h, fun a o h _ => by
  rw [upd_ne (ne_of_none h hp)]
  exact h, fun a o h q => ⟨by rw [upd_ne (ne_of_none h hp)]; exact h, q⟩⟩
theorem Sim.new {K : PySem.W.Frag} {μ : Mu} {S : Store} {H : Hp} (s : Sim K μ S H) {p : Addr} {u : HO} (hp : H p = none) : Sim K μ S (upd H p u) :=
  ⟨fun n c h => by
    obtain ⟨a, h1, h2⟩ := s.cell n c h
    obtain ⟨o, h3, _⟩ := h2.nofix
    exact ⟨a, h1, h2.mono (gr_new hp) (upd_ne (ne_of_none h3 hp))⟩, s.inj, s.top⟩
def muAdd (μ : Mu) (n : Nat) (p : Addr) : Mu := fun k => if k = n then some p else μ k
theorem muAdd_same {μ : Mu} {n : Nat} {p : Addr} : muAdd μ n p n = some p := by unfold muAdd; rw [if_pos rfl]
theorem muAdd_ne {μ : Mu} {n k : Nat} {p : Addr} (h : k ≠ n) : muAdd μ n p k = μ k := by unfold muAdd; rw [if_neg h]
/-- a fresh list -/
theorem gr_cell {K : PySem.W.Frag} {μ : Mu} {S : Store} {H : Hp} (s : Sim K μ S H) {p : Addr} {u : HO} (hp : H p = none) : Gr μ (muAdd μ S.length p) H (upd H p u) :=
  ⟨fun n a h => by
    by_cases e : n = S.length
    · subst e; rw [s.top _ (Nat.le_refl _)] at h; cases h
    · rw [muAdd_ne e]; exact h, (gr_new (μ := μ) hp).fx, fun a o h q => ⟨by rw [upd_ne (ne_of_none h hp)]; exact h, fun n z => by
      by_cases e : n = S.length
      · subst e
        rw [muAdd_same] at z
        exact ne_of_none h hp (Option.some.inj z).symm
      · rw [muAdd_ne e] at z
        exact q n z⟩⟩
theorem Sim.lt {K : PySem.W.Frag} {μ : Mu} {S : Store} {H : Hp} (s : Sim K μ S H) {n : Nat} {a : Addr} (h : μ n = some a) : n < S.length := by
  by_cases e : n < S.length
  · exact e
  · rw [s.top n (by omega)] at h; cases h
theorem Sim.there {K : PySem.W.Frag} {μ : Mu} {S : Store} {H : Hp} (s : Sim K μ S H) {n : Nat} {a : Addr} (h : μ n = some a) : ∃ u, H a = some u ∧ fixO u = false := by
  have hl := s.lt h
  obtain ⟨a', h1, h2⟩ := s.cell n _ (List.getElem?_eq_getElem hl)
  rw [h1] at h
  cases h
  exact h2.nofix
theorem Sim.alloc {K : PySem.W.Frag} {μ : Mu} {S : Store} {H : Hp} (s : Sim K μ S H) {p : Addr} {u : HO} {c : Cell} (hp : H p = none) (hc : CellR K (muAdd μ S.length p) (upd H p u) p c) :
    Sim K (muAdd μ S.length p) (S ++ [c]) (upd H p u) := by
  refine ⟨fun n d h => ?_, fun n n' a h h' => ?_, fun n h => ?_⟩
  · by_cases e : n < S.length
    · rw [List.getElem?_append_left e] at h
      obtain ⟨a, h1, h2⟩ := s.cell n d h
      obtain ⟨o, h3, _⟩ := h2.nofix
      exact ⟨a, by rw [muAdd_ne (by omega)]; exact h1, h2.mono (gr_cell s hp) (upd_ne (ne_of_none h3 hp))⟩
    · by_cases e2 : n = S.length
      · subst e2
        rw [List.getElem?_append_right (Nat.le_refl _), Nat.sub_self] at h
        cases h
        exact ⟨p, muAdd_same, hc⟩
      · rw [List.getElem?_eq_none (by rw [List.length_append, List.length_singleton]; omega)] at h
        cases h
  · have key : ∀ k b, muAdd μ S.length p k = some b → (k = S.length ∧ b = p) ∨ (k ≠ S.length ∧ μ k = some b) := fun k b q => by
      by_cases e : k = S.length
      · subst e; rw [muAdd_same] at q; cases q; exact .inl ⟨rfl, rfl⟩
      · rw [muAdd_ne e] at q; exact .inr ⟨e, q⟩
    have no : ∀ k b, μ k = some b → b ≠ p := fun k b q => by
      obtain ⟨o, h3, _⟩ := s.there q
      exact ne_of_none h3 hp
    rcases key n a h with ⟨e1, e2⟩ | ⟨e1, e2⟩ <;> rcases key n' a h' with ⟨e3, e4⟩ | ⟨e3, e4⟩
    · rw [e1, e3]
    · exact absurd e2 (no _ _ e4)
    · exact absurd e4 (no _ _ e2)
    · exact s.inj n n' a e2 e4
  · rw [List.length_append, List.length_singleton] at h
    rw [muAdd_ne (by omega)]
    exact s.top n (by omega)
/-- a cell is written -/
theorem gr_write {K : PySem.W.Frag} {μ : Mu} {S : Store} {H : Hp} (s : Sim K μ S H) {n : Nat} {a : Addr} {u : HO} (h : μ n = some a) : Gr μ μ H (upd H a u) := ⟨fun _ _ h => h, fun b o hb hf => by
  obtain ⟨o', h3, h4⟩ := s.there h
  by_cases e : b = a
  · subst e
    rw [h3] at hb
    cases hb
    rw [h4] at hf
    cases hf
  · rw [upd_ne e]
    exact hb, fun b o hb q => ⟨by rw [upd_ne (fun z => q n (by rw [z]; exact h))]; exact hb, q⟩⟩
theorem Sim.write {K : PySem.W.Frag} {μ : Mu} {S : Store} {H : Hp} (s : Sim K μ S H) {n : Nat} {a : Addr} {u : HO} {c : Cell} (h : μ n = some a) (hc : CellR K μ (upd H a u) a c) : Sim K μ (S.set n c) (upd H a u) := by
  refine ⟨fun k d hk => ?_, s.inj, fun k hk => s.top k (by rw [List.length_set] at hk; exact hk)⟩
  by_cases e : k = n
  · subst e
    rw [List.getElem?_set_self (s.lt h)] at hk
    cases hk
    exact ⟨a, h, hc⟩
  · rw [List.getElem?_set_ne (Ne.symm e)] at hk
    obtain ⟨b, h1, h2⟩ := s.cell k d hk
    exact ⟨b, h1, h2.mono (gr_write s h) (upd_ne fun z => e (s.inj k n a (by rw [← z]; exact h1) h))⟩
/-- the heap grows -/
theorem gr_ext {μ : Mu} {H H' : Hp} (k : ∀ b o, H b = some o → H' b = some o) : Gr μ μ H H' := ⟨fun _ _ h => h, fun a u h _ => k a u h, fun a u h q => ⟨k a u h, q⟩⟩
theorem Sim.ext {K : PySem.W.Frag} {μ : Mu} {S : Store} {H H' : Hp} (s : Sim K μ S H) (k : ∀ b o, H b = some o → H' b = some o) : Sim K μ S H' :=
  ⟨fun n c h => by
    obtain ⟨a, h1, h2⟩ := s.cell n c h
    obtain ⟨o, h3, _⟩ := h2.nofix
    exact ⟨a, h1, h2.mono (gr_ext k) (by rw [h3]; exact k _ _ h3)⟩, s.inj, s.top⟩
/-- one that stands in the heap becomes a cell -/
theorem gr_add {K : PySem.W.Frag} {μ : Mu} {S : Store} {H H' : Hp} (s : Sim K μ S H) (k : ∀ b o, H b = some o → H' b = some o) {p : Addr} (hp : H p = none) : Gr μ (muAdd μ S.length p) H H' :=
  ⟨fun n a h => by rw [muAdd_ne (fun e => by rw [e, s.top _ (Nat.le_refl _)] at h; cases h)]; exact h, fun a u h _ => k a u h, fun a u h q => ⟨k a u h, fun n z => by
      by_cases e : n = S.length
      · subst e
        rw [muAdd_same] at z
        exact ne_of_none h hp (Option.some.inj z).symm
      · rw [muAdd_ne e] at z
        exact q n z⟩⟩
theorem Sim.add {K : PySem.W.Frag} {μ : Mu} {S : Store} {H : Hp} (s : Sim K μ S H) {p : Addr} {c : Cell} (hp : ∀ n, μ n ≠ some p) (hc : CellR K (muAdd μ S.length p) H p c) : Sim K (muAdd μ S.length p) (S ++ [c]) H := by
  have g : Gq μ (muAdd μ S.length p) H H := ⟨fun n a h => by rw [muAdd_ne (fun e => by rw [e, s.top _ (Nat.le_refl _)] at h; cases h)]; exact h, fun _ _ h _ => h⟩
  refine ⟨fun n d h => ?_, fun n n' a h h' => ?_, fun n h => ?_⟩
  · by_cases e : n < S.length
    · rw [List.getElem?_append_left e] at h
      obtain ⟨a, h1, h2⟩ := s.cell n d h
      exact ⟨a, g.mu _ _ h1, h2.mono0 g rfl⟩
    · by_cases e2 : n = S.length
      · subst e2
        rw [List.getElem?_append_right (Nat.le_refl _), Nat.sub_self] at h
        cases h
        exact ⟨p, muAdd_same, hc⟩
      · rw [List.getElem?_eq_none (by rw [List.length_append, List.length_singleton]; omega)] at h
        cases h
  · have key : ∀ k b, muAdd μ S.length p k = some b → (k = S.length ∧ b = p) ∨ (k ≠ S.length ∧ μ k = some b) := fun k b q => by
      by_cases e : k = S.length
      · subst e; rw [muAdd_same] at q; cases q; exact .inl ⟨rfl, rfl⟩
      · rw [muAdd_ne e] at q; exact .inr ⟨e, q⟩
    rcases key n a h with ⟨e1, e2⟩ | ⟨e1, e2⟩ <;> rcases key n' a h' with ⟨e3, e4⟩ | ⟨e3, e4⟩
    · rw [e1, e3]
    · exact absurd (by rw [← e2]; exact e4) (hp _)
    · exact absurd (by rw [← e4]; exact e2) (hp _)
    · exact s.inj n n' a e2 e4
  · rw [List.length_append, List.length_singleton] at h
    rw [muAdd_ne (by omega)]
    exact s.top n (by omega)
/-- an untracked thing is written -/
theorem gr_wr {μ : Mu} {H : Hp} {p : Addr} {u : HO} (hp : ∀ n, μ n ≠ some p) : Gq μ μ H H := ⟨fun _ _ h => h, fun _ _ h _ => h⟩
theorem Sim.empty {K : PySem.W.Frag} {H : Hp} : Sim K (fun _ => none) [] H := ⟨fun n c h => by simp at h, fun _ _ _ h => (by cases h), fun _ _ => rfl⟩

/-! ### slots -/
structure LR (K : PySem.W.Frag) (μ : Mu) (H : Hp) (σ : St) (ls : Lo) : Prop where
  len : σ.length = ls.length
  at_ : ∀ (i : Nat) (w : W), ls[i]? = some (some w) → ∃ v, σ[i]? = some (some v) ∧ Vr K μ H v w
theorem LR.mono {K : PySem.W.Frag} {μ μ' : Mu} {H H' : Hp} {σ : St} {ls : Lo} (g : Gr μ μ' H H') (h : LR K μ H σ ls) : LR K μ' H' σ ls := ⟨h.len, fun i w e => by
  obtain ⟨v, h1, h2⟩ := h.at_ i w e
  exact ⟨v, h1, h2.mono g⟩⟩
theorem LR.set {K : PySem.W.Frag} {μ : Mu} {H : Hp} {σ : St} {ls : Lo} {i : Nat} {v : V} {w : W} (h : LR K μ H σ ls) (r : Vr K μ H v w) : LR K μ H (σ.set i (some v)) (ls.set i (some w)) := by
  refine ⟨by rw [List.length_set, List.length_set, h.len], fun j w' e => ?_⟩
  by_cases q : i = j
  · subst q
    by_cases hl : i < ls.length
    · rw [List.getElem?_set_self hl] at e
      cases e
      exact ⟨v, by rw [List.getElem?_set_self (by rw [h.len]; exact hl)], r⟩
    · rw [List.getElem?_eq_none (by rw [List.length_set]; omega)] at e
      cases e
  · rw [List.getElem?_set_ne q] at e
    rw [List.getElem?_set_ne q]
    exact h.at_ j w' e
def startW (N : Nat) (ws : List W) : Lo := ws.map some ++ List.replicate (N - ws.length) none
theorem LR.atStart {K : PySem.W.Frag} {μ : Mu} {H : Hp} {N : List Str} {vs : List V} {ws : List W} (h : VrA K μ H vs ws) : LR K μ H (L2.start N vs) (startW N.length ws) := by
  have hl := h.length
  refine ⟨by unfold L2.start startW; rw [List.length_append, List.length_append, List.length_map, List.length_map, List.length_replicate, List.length_replicate, hl], fun i w e => ?_⟩
  unfold startW at e
  unfold L2.start
  by_cases q : i < ws.length
  · rw [List.getElem?_append_left (by rw [List.length_map]; exact q), List.getElem?_map] at e
    cases e1 : ws[i]? with
    | none => rw [e1] at e; cases e
    | some x =>
      rw [e1] at e
      cases e
      obtain ⟨v, h1, h2⟩ := h.get e1
      exact ⟨v, by rw [List.getElem?_append_left (by rw [List.length_map, hl]; exact q), List.getElem?_map, h1]; rfl, h2⟩
  · rw [List.getElem?_append_right (by rw [List.length_map]; omega)] at e
    have := List.mem_of_getElem? e
    have := List.eq_of_mem_replicate this
    cases this

/-! ### an exception, and what is wanted behind a result -/
def XR (mg : Str → Option Value) (K : PySem.W.Frag) (μ : Mu) (H : Hp) (e : Ex) (c : Value) (d : Option Addr) : Prop :=
  mg e.cls = some c ∧ ((e.fs = [] ∧ d = none) ∨ (e.fs ≠ [] ∧ ∃ a xs, d = some a ∧ H a = some (.xd xs) ∧ xs.map (·.1) = e.fs.map (·.1) ∧ VrA K μ H (xs.map (·.2)) (e.fs.map (·.2))))
def Bd {α β : Type} (K : PySem.W.Frag) (mg : Str → Option Value) (Rl : Mu → Hp → β → α → Prop) (E : XK) (μ : Mu) (H : Hp) (r : Res α) (Q : β → Hp → Prop) : Prop :=
  match r with
  | .ok a S => ∀ b H' μ', Gr μ μ' H H' → Sim K μ' S H' → Rl μ' H' b a → Q b H'
  | .exc e S => ∀ c d H' μ', Gr μ μ' H H' → Sim K μ' S H' → XR mg K μ' H' e c d → E c d H'
  | .bad => False
theorem Bd.mono {α β : Type} {K : PySem.W.Frag} {mg : Str → Option Value} {Rl : Mu → Hp → β → α → Prop} {E : XK} {μ μ1 : Mu} {H H1 : Hp} {Q : β → Hp → Prop} (g : Gr μ μ1 H H1) : ∀ {r : Res α}, Bd K mg Rl E μ H r Q → Bd K mg Rl E μ1 H1 r Q
  | .ok a S, h => fun b H' μ' g' => h b H' μ' (g.trans g')
  | .exc e S, h => fun c d H' μ' g' => h c d H' μ' (g.trans g')
  | .bad, h => h
theorem Bd.bind {α β γ δ : Type} {K : PySem.W.Frag} {mg : Str → Option Value} {Rl : Mu → Hp → β → α → Prop} {Rm : Mu → Hp → δ → γ → Prop} {E : XK} {μ : Mu} {H : Hp} {f : γ → Store → Res α} {Q : β → Hp → Prop} {Q1 : δ → Hp → Prop}
    (k : ∀ a S b H1 μ1, Gr μ μ1 H H1 → Sim K μ1 S H1 → Rm μ1 H1 b a → Bd K mg Rl E μ1 H1 (f a S) Q → Q1 b H1) : ∀ {r : Res γ}, Bd K mg Rl E μ H (r.bind f) Q → Bd K mg Rm E μ H r Q1
  | .ok a S, h => fun b H' μ' g s r => k a S b H' μ' g s r (Bd.mono g h)
  | .exc e S, h => h
  | .bad, h => h
abbrev RlV (K : PySem.W.Frag) : Mu → Hp → V → W → Prop := fun μ H v w => Vr K μ H v w
abbrev RlB : Mu → Hp → Bool → Bool → Prop := fun _ _ a b => a = b
abbrev RlA (K : PySem.W.Frag) : Mu → Hp → List V → List W → Prop := fun μ H v w => VrA K μ H v w
end Fs
set_option maxHeartbeats 4000000
/-! tuples that the program makes: their objects are known to have no dict -/
namespace Tx
open PySem PySem.Spec PyProof.Rows L2 Fs
section
variable {X : Cx} {pins : List (Addr × Obj)} {σ : L2.St} {H : Hp} {s : Shared} {xs : List V}
/-- a new tuple, its object known -/
theorem laidD {us : Array Value} (I : Inv X pins σ H s) (z : xs.length ≤ sizeLine) (r : Vals xs us.toList) :
    Inv X pins σ (upd H s.heap.objs.size (.frz { cls := .type "tuple", data := .seq us } (.tup xs))) { s with heap := s.heap.push { cls := .type "tuple", data := .seq us } } :=
  have new : (s.heap.push { cls := .type "tuple", data := .seq us }).get? s.heap.objs.size = some { cls := .type "tuple", data := .seq us } := Heap.get?_push_size _ rfl
  I.laid (fun _ _ => Heap.get?_push_of_some _) (Nat.le_refl s.heap.objs.size) ⟨new, z, us.toList, r, _, new, rfl, 0, by rw [Array.toArray_toList]⟩
/-- what stands at a fresh place -/
theorem newD {us : Array Value} {Q : VK} (I : Inv X pins σ H s) (z : xs.length ≤ sizeLine) (r : Vals xs us.toList) (q : ∀ p o, H p = none → o.dict = none → Q (.ref p) (upd H p (.frz o (.tup xs)))) :
    EP X pins σ Q (.ref s.heap.objs.size) { s with heap := s.heap.push { cls := .type "tuple", data := .seq us } } :=
  ⟨.ref s.heap.objs.size, _, laidD I z r, rfl, q s.heap.objs.size { cls := .type "tuple", data := .seq us } (I.hok.fresh (Nat.le_refl _)) rfl⟩
theorem noDict {a : Addr} (I : Inv X pins σ H s) (h : SqD X.K H a xs) : s.TypeIs (.ref a) "tuple" ∧ ∃ ob, s.heap.get? a = some ob ∧ ob.dict = none := by
  rcases h with ⟨o, h, hd⟩ | ⟨o, _, _, h1, h2, hd, _⟩
  · obtain ⟨e, _, _, _, o', e', hc, _⟩ := I.hok a _ h
    cases e.symm.trans e'
    exact ⟨⟨o, e, hc⟩, o, e, hd⟩
  · have e := I.kIn a o h1
    exact ⟨⟨o, e, h2⟩, o, e, hd⟩
end
def tTupD (t : TA) : TE := fun σ H Q => t σ H fun xs H1 => xs.length ≤ sizeLine ∧ ∀ p o, H1 p = none → o.dict = none → Q (.ref p) (upd H1 p (.frz o (.tup xs)))
section
variable {X : Cx} {es : List Expr} {t : TA} {pos : Pos}
theorem pe_tupD {x1} (h : PA X es t) : PE X (.Tuple es x1 pos) (tTupD t) := ⟨fun pins s σ H Q I hq => wpAny_Tuple_spliced (thn (h.run pos pins s σ H _ I hq) fun us _ ⟨xs, _, J, r, small, k⟩ =>
  ⟨Nat.le_trans (Nat.le_of_eq r.length.symm) small, newD (us := us.toArray) J small (by simpa using r) k⟩)⟩
/-- the plain form of a method's call: few arguments, none starred, on one line -/
structure Plain (X : Cx) (o e : Expr) (es : List Expr) (name : Str) (apos cpos : Pos) : Prop where
  base : attributeBase o name X.env (eval o X.env) = eval o X.env
  star : starEach (e :: es) X.env = (false, eval e X.env) :: starEach es X.env
  rest : (backTo cpos (starEach es X.env)).any (·.1) = false
  all1 : (backTo cpos (starEach (e :: es) X.env)).all (fun x => !x.1) = true
  all2 : (backToKw cpos (keywordEach [] X.env)).all (fun x => x.1.isSome) = true
  less : (e :: es).length < 30
  line : apos.endLine = cpos.line
/-- o.m(e, ..), o a tuple -/
theorem pe_bmT {o e : Expr} {es : List Expr} {name : Str} {id : String} {apos cpos : Pos} {r : V → List V → Hp → VK → Prop} {to : TE} (slot : Slot "tuple" name id) (hty : typeOf (.builtin id) = pure (.type "method_descriptor")) (hm : MtR X id r) (ho : PE X o to) (ha : PA X (e :: es) t)
    (F : Plain X o e es name apos cpos := by exact ⟨rfl, rfl, rfl, rfl, rfl, by decide, rfl⟩) :
    PE X (.Call (.Attribute o name apos) (e :: es) [] cpos) (fun σ H Q => to σ H fun x H1 => ∃ a xs, x = .ref a ∧ SqD X.K H1 a xs ∧ t σ H1 fun vs H2 => r x vs H2 Q) :=
  ⟨fun pins s σ H Q I h => wpAny_Call_method_late F.base (by rw [F.all1, F.all2]; simpa using F.less) (by rw [F.line]; exact beq_self_eq_true _) rfl (thn (ho.run pins s σ H _ I h) fun v s1 ⟨x, H1, I1, r1, a, xs, ex, hd, q1⟩ => by
    cases ex
    cases (r1 : v = Value.ref a)
    obtain ⟨tp, nd⟩ := noDict I1 hd
    refine ⟨"tuple", id, PySem.F.plainAttrs_tuple, slot, hty, tp, fun b eb => (Value.ref.inj eb) ▸ nd, ?_⟩
    have args := ha.run cpos pins s1 σ H1 _ I1 q1
    rw [F.star] at args ⊢
    have none_starred : (backTo cpos ((false, eval e X.env) :: starEach es X.env)).any (·.1) = false := (Bool.false_or _).trans F.rest
    exact Calls.callWith_builtin none_starred (Calls.evalArgs_plain (thn args fun us s2 ⟨vs, H2, I2, r2, q2⟩ => hm pins s2 σ H2 (.ref a) vs (.ref a) us Q I2 rfl r2 q2)))⟩
end
section
variable {X : Cx}
def rCatD (K : PySem.W.Frag) : R2 := fun x y H Q => ∃ a b xs ys, x = .ref a ∧ y = .ref b ∧ SqT K H a xs ∧ SqT K H b ys ∧ xs.length + ys.length ≤ sizeLine ∧
  (xs = [] → Q (.ref b) H) ∧ (xs ≠ [] → ys = [] → Q (.ref a) H) ∧ (xs ≠ [] → ys ≠ [] → ∀ p o, H p = none → o.dict = none → Q (.ref p) (upd H p (.frz o (.tup (xs ++ ys)))))
theorem op_catD : OpR X (binaryOp .Add) (rCatD X.K) := fun pins s σ H x y v u Q I rx ry ⟨a, b, xs, ys, ex, ey, ha, hb, hz, q0, q1, q2⟩ => by
  rcases Classical.em (xs = []) with hx | hx
  · exact op_catA pins s σ H x y v u Q I rx ry ⟨a, b, xs, ys, ex, ey, ha, hb, hz, q0, q1, (absurd hx ·)⟩
  · subst ex
    subst ey
    cases rx
    cases ry
    obtain ⟨_, r1, p1, _⟩ := I.tuple ha
    obtain ⟨_, r2, p2, _⟩ := I.tuple hb
    exact HT.cat_tup p1 p2 (hx ∘ r1.nil_iff.mp) (fun z => ⟨.ref a, H, I, rfl, q1 hx (r2.nil_iff.mp z)⟩) (fun z => newD I (List.length_append ▸ hz) (by simpa using r1.append r2) (q2 hx (z ∘ r2.nil_iff.mpr))) (r1.length ▸ r2.length ▸ hz)
def rSlD (K : PySem.W.Frag) : V → Option Int → Option Int → Hp → VK → Prop := fun x lo hi H Q => ∃ a xs, x = .ref a ∧ SqT K H a xs ∧
  (HT.sIx xs.length 0 lo = 0 ∧ HT.sIx xs.length xs.length hi = xs.length → Q (.ref a) H) ∧ (¬ (HT.sIx xs.length 0 lo = 0 ∧ HT.sIx xs.length xs.length hi = xs.length) → ∀ p o, H p = none → o.dict = none → Q (.ref p) (upd H p (.frz o (.tup (cutV xs lo hi)))))
theorem sl_tupD : SlR X (rSlD X.K) := fun pins s σ H x v vl vu lo hi sl Q I rx hs pl pu ⟨a, xs, ex, hx, q1, q2⟩ => by
  rcases Classical.em (HT.sIx xs.length 0 lo = 0 ∧ HT.sIx xs.length xs.length hi = xs.length) with hw | hw
  · exact sl_tupA pins s σ H x v vl vu lo hi sl Q I rx hs pl pu ⟨a, xs, ex, hx, q1, (absurd hw ·)⟩
  · subst ex
    cases rx
    obtain ⟨its, r, ht, short⟩ := I.tuple hx
    have same : xs.length = its.toArray.size := r.length.trans (List.size_toArray ..).symm
    have cut := newD (us := (its.toArray.toList.drop (HT.sIx xs.length 0 lo) |>.take (HT.sIx xs.length xs.length hi - HT.sIx xs.length 0 lo)).toArray) I (Nat.le_trans (cutV_length xs lo hi) short)
      (by unfold cutV; simpa using (r.drop (HT.sIx xs.length 0 lo)).take (HT.sIx xs.length xs.length hi - HT.sIx xs.length 0 lo)) (q2 hw)
    refine ⟨"tuple", _, PyProof.Rows.slot_tuple_getitem.lookup, ht.typeIs, HT.getItem_tuple_cut ht hs pl pu (same ▸ hw) ?_ (same ▸ short)⟩
    rw [← same]
    simpa using cut
theorem call_tupleD : CallR X (.type "tuple") (fun xs H Q => ∃ p ys, xs = [.ref p] ∧ ((SqL X.K H p ys ∧ ∀ l o, H l = none → o.dict = none → Q (.ref l) (upd H l (.frz o (.tup ys)))) ∨ (SqT X.K H p ys ∧ Q (.ref p) H))) := fun pins s σ H xs us Q I r ⟨p, ys, ex, h⟩ => by
  subst ex
  obtain ⟨_, rfl, rx⟩ := vals1 r
  cases rx
  cases h with
  | inl h =>
    obtain ⟨its, r', pl, hz⟩ := I.list h.1
    refine call_tuple_list pl.isList (fun h' kp => newD (I.kept (t' := s.toks) kp) hz (by simpa using r') h.2) ?_
    have := r'.length
    simp only [List.size_toArray]
    omega
  | inr h =>
    obtain ⟨_, _, pl, _⟩ := I.tuple h.1
    exact call_tuple_same pl ⟨.ref p, H, I, rfl, h.2⟩
end
end Tx
set_option maxHeartbeats 4000000
namespace Fs
open PySem L2

/-! ### judgements -/
section
end
/-- what is wanted of an exception: its class, its dict, the slots, the heap -/
abbrev WE := Value → Option Addr → St → Hp → Prop
abbrev BdV (X : Cx) (Wx : WE) (σ : St) (μ : Mu) (H : Hp) (r : Res W) (Q : VK) : Prop := Bd X.K X.mg (RlV X.K) (fun c d H' => Wx c d σ H') μ H r Q
abbrev BdB (X : Cx) (Wx : WE) (σ : St) (μ : Mu) (H : Hp) (r : Res Bool) (Q : Bool → Hp → Prop) : Prop := Bd X.K X.mg RlB (fun c d H' => Wx c d σ H') μ H r Q
abbrev BdA (X : Cx) (Wx : WE) (σ : St) (μ : Mu) (H : Hp) (r : Res (List W)) (Q : List V → Hp → Prop) : Prop := Bd X.K X.mg (RlA X.K) (fun c d H' => Wx c d σ H') μ H r Q
def BdS (X : Cx) (Wx : WE) (μ : Mu) (H : Hp) (r : RS) (D : Ends) : Prop :=
  match r with
  | .nx ls S => ∀ σ' H' μ', Gr μ μ' H H' → Sim X.K μ' S H' → LR X.K μ' H' σ' ls → D.nx σ' H'
  | .rt w S => ∀ v H' μ', Gr μ μ' H H' → Sim X.K μ' S H' → Vr X.K μ' H' v w → D.rt v H'
  | .bk ls S => ∀ σ' H' μ', Gr μ μ' H H' → Sim X.K μ' S H' → LR X.K μ' H' σ' ls → D.bk σ' H'
  | .ct ls S => ∀ σ' H' μ', Gr μ μ' H H' → Sim X.K μ' S H' → LR X.K μ' H' σ' ls → D.ct σ' H'
  | .ex e ls S => ∀ σ' c d H' μ', Gr μ μ' H H' → Sim X.K μ' S H' → LR X.K μ' H' σ' ls → XR X.mg X.K μ' H' e c d → Wx c d σ' H'
  | .bad => False
theorem BdS.mono {X : Cx} {Wx : WE} {μ μ1 : Mu} {H H1 : Hp} {D : Ends} (g : Gr μ μ1 H H1) : ∀ {r : RS}, BdS X Wx μ H r D → BdS X Wx μ1 H1 r D
  | .nx ls S, h => fun σ' H' μ' g' => h σ' H' μ' (g.trans g')
  | .rt w S, h => fun v H' μ' g' => h v H' μ' (g.trans g')
  | .bk ls S, h => fun σ' H' μ' g' => h σ' H' μ' (g.trans g')
  | .ct ls S, h => fun σ' H' μ' g' => h σ' H' μ' (g.trans g')
  | .ex e ls S, h => fun σ' c d H' μ' g' => h σ' c d H' μ' (g.trans g')
  | .bad, h => h

structure SE (X : Cx) (Wx : WE) (e : Expr) (m : DE) : Prop where
  ex : ∃ t, PE X e t ∧ ∀ σ H μ ls S Q, LR X.K μ H σ ls → Sim X.K μ S H → BdV X Wx σ μ H (m ls S) Q → t σ H Q
structure ST (X : Cx) (Wx : WE) (e : Expr) (m : DT) : Prop where
  ex : ∃ t, PT X e t ∧ ∀ σ H μ ls S Q, LR X.K μ H σ ls → Sim X.K μ S H → BdB X Wx σ μ H (m ls S) Q → t σ H Q
structure SW (X : Cx) (Wx : WE) (e : Expr) (m : DT) : Prop where
  ex : ∃ t, PW X e t ∧ ∀ σ H μ ls S Q, LR X.K μ H σ ls → Sim X.K μ S H → BdB X Wx σ μ H (m ls S) Q → t σ H Q
structure SA (X : Cx) (Wx : WE) (es : List Expr) (m : DA) : Prop where
  ex : ∃ t, PA X es t ∧ ∀ σ H μ ls S Q, LR X.K μ H σ ls → Sim X.K μ S H → BdA X Wx σ μ H (m ls S) Q → t σ H Q
structure SS (X : Cx) (Wx : WE) (st : Stmt) (m : DS) : Prop where
  ex : ∃ t, PS X st t ∧ ∀ σ H μ ls S D, LR X.K μ H σ ls → Sim X.K μ S H → BdS X Wx μ H (m ls S) D → t D σ H
structure SSs (X : Cx) (Wx : WE) (st : List Stmt) (m : DS) : Prop where
  ex : ∃ t, PSs X st t ∧ ∀ σ H μ ls S D, LR X.K μ H σ ls → Sim X.K μ S H → BdS X Wx μ H (m ls S) D → t D σ H

/-! ### the denotations' combinators -/
def dVar (i : Nat) : DE := fun ls S => match ls[i]? with
  | some (some w) => .ok w S
  | _ => .bad
def dC (w : W) : DE := fun _ S => .ok w S
def dArgs : List DE → DA
  | [] => fun _ S => .ok [] S
  | a :: r => fun ls S => (a ls S).bind fun w S1 => (dArgs r ls S1).bind fun ws S2 => .ok (w :: ws) S2
def dTup (as : List DE) : DE := fun ls S => (dArgs as ls S).bind fun ws S1 => if ws.length ≤ sizeLine then .ok (.tup ws) S1 else .bad
def dLst (as : List DE) : DE := fun ls S => (dArgs as ls S).bind fun ws S1 => if ws.length ≤ sizeLine then .ok (.loc S1.length) (S1 ++ [.lst ws]) else .bad
def dOp (g : W → W → Store → Res W) (a b : DE) : DE := fun ls S => (a ls S).bind fun x S1 => (b ls S1).bind fun y S2 => g x y S2
def dUn (g : W → Store → Res W) (a : DE) : DE := fun ls S => (a ls S).bind fun x S1 => g x S1
/-- a call of a function of values -/
def dCall (f : DF) (as : List DE) : DE := fun ls S => (dArgs as ls S).bind fun ws S1 => f ws S1
def gTruth (w : W) (S : Store) : Res Bool :=
  match w with
  | .non => .ok false S
  | .bl b => .ok b S
  | .int i => .ok (i != 0) S
  | .str x => if x.length ≤ sizeLine then .ok ((x.length : Int) != 0) S else .bad
  | .tup ws => .ok (!ws.isEmpty) S
  | .rol ws => .ok (!ws.isEmpty) S
  | .loc n => match S[n]? with
    | some (.lst ws) => .ok (!ws.isEmpty) S
    | _ => .bad
  | _ => .bad
/-- an expression as a test -/
def dT (a : DE) : DT := fun ls S => (a ls S).bind gTruth
/-- one that gives True or False -/
def dTB (a : DE) : DT := fun ls S => (a ls S).bind fun w S1 => match w with
  | .bl b => .ok b S1
  | _ => .bad
def dNotT (a : DT) : DT := fun ls S => (a ls S).bind fun b S1 => .ok (!b) S1
def dAndT (a b : DT) : DT := fun ls S => (a ls S).bind fun c S1 => if c = true then b ls S1 else .ok false S1
def dOrT (a b : DT) : DT := fun ls S => (a ls S).bind fun c S1 => if c = true then .ok true S1 else b ls S1
/-- and, or, not as values -/
def dAnd (a b : DE) : DE := fun ls S => (a ls S).bind fun x S1 => (gTruth x S1).bind fun c S2 => if c = true then b ls S2 else .ok x S2
def dOr (a b : DE) : DE := fun ls S => (a ls S).bind fun x S1 => (gTruth x S1).bind fun c S2 => if c = true then .ok x S2 else b ls S2
def dNot (a : DE) : DE := fun ls S => (a ls S).bind fun x S1 => (gTruth x S1).bind fun c S2 => .ok (.bl (!c)) S2
def dIfE (c : DT) (a b : DE) : DE := fun ls S => (c ls S).bind fun k S1 => if k = true then a ls S1 else b ls S1
/-- a < b < c -/
def dChain (g g' : W → W → Store → Res W) (a b c : DE) : DE := fun ls S => (a ls S).bind fun x S1 => (b ls S1).bind fun y S2 => (g x y S2).bind fun k S3 => match k with
  | .bl true => (c ls S3).bind fun z S4 => g' y z S4
  | .bl false => .ok (.bl false) S3
  | _ => .bad
def rsOf (ls : Lo) (r : Res W) (k : W → Store → RS) : RS := match r with
  | .ok w S => k w S
  | .exc e S => .ex e ls S
  | .bad => .bad
def rsOfB (ls : Lo) (r : Res Bool) (k : Bool → Store → RS) : RS := match r with
  | .ok w S => k w S
  | .exc e S => .ex e ls S
  | .bad => .bad
def dNx : DS := fun ls S => .nx ls S
def dSeq (a b : DS) : DS := fun ls S => match a ls S with
  | .nx ls1 S1 => b ls1 S1
  | r => r
def dIf (c : DT) (a b : DS) : DS := fun ls S => rsOfB ls (c ls S) fun k S1 => if k = true then a ls S1 else b ls S1
def dSet (i : Nat) (a : DE) : DS := fun ls S => rsOf ls (a ls S) fun w S1 => .nx (ls.set i (some w)) S1
def dExpr (a : DE) : DS := fun ls S => rsOf ls (a ls S) fun _ S1 => .nx ls S1
def dRet (a : DE) : DS := fun ls S => rsOf ls (a ls S) fun w S1 => .rt w S1
def dRetN : DS := fun ls S => .rt .non S
def dBk : DS := fun ls S => .bk ls S
def dCt : DS := fun ls S => .ct ls S
/-- a def by its body -/
def mkF (N : Nat) (np : Nat) (m : DS) : DF := fun ws S => if ws.length = np then (match m (startW N ws) S with
  | .nx _ S' => .ok .non S'
  | .rt w S' => .ok w S'
  | .ex e _ S' => .exc e S'
  | _ => .bad) else .bad

/-! ### rules: names, constants, arguments -/
section
variable {X : Cx} {Wx : WE} {a b c e : Expr} {es : List Expr} {ma mb mc : DE} {pos : Pos}
theorem se_var (i : Nat) {x : Str} (hN : X.N[i]? = some x := by rfl) (hv : Vis X.env.scope x := by first | exact Or.inl rfl | exact Or.inr (Or.inl rfl) | exact Or.inr (Or.inr rfl)) (hd : (x == ("__debug__" : Str)) = false := by decide)
    (hcd : (x == ("__classdict__" : Str)) = false := by decide) : SE X Wx (.Name x pos) (dVar i) :=
  ⟨_, pe_var hN hv hd hcd, fun σ H μ ls S Q hL hS h => by
    unfold dVar at h
    split at h
    · rename_i w e
      obtain ⟨v, h1, h2⟩ := hL.at_ i w e
      exact ⟨v, h1, h v H μ (Gr.refl _ _) hS h2⟩
    · exact False.elim h⟩
theorem se_c {w : W} {v : V} (p : PE X e (tC v)) (r : ∀ μ H, Vr X.K μ H v w) : SE X Wx e (dC w) :=
  ⟨_, p, fun σ H μ ls S Q hL hS h => h v H μ (Gr.refl _ _) hS (r μ H)⟩
theorem se_int {i j} : SE X Wx (.Constant (.int i) j pos) (dC (.int i)) := se_c pe_int fun _ _ => .int i
theorem se_bl {i j} : SE X Wx (.Constant (.bool i) j pos) (dC (.bl i)) := se_c pe_bl fun _ _ => .bl i
theorem se_non {j} : SE X Wx (.Constant .none j pos) (dC .non) := se_c pe_non fun _ _ => .non
theorem se_str {i j} : SE X Wx (.Constant (.str i) j pos) (dC (.str i)) := se_c pe_str fun _ _ => .str i
theorem sa_nil : SA X Wx [] (dArgs []) := ⟨_, pa_nil, fun σ H μ ls S Q hL hS h => h [] H μ (Gr.refl _ _) hS .nil⟩
theorem sa_cons {as : List DE} (ha : SE X Wx e ma) (hr : SA X Wx es (dArgs as)) (hs : starEach (e :: es) X.env = (false, eval e X.env) :: starEach es X.env := by rfl) : SA X Wx (e :: es) (dArgs (ma :: as)) := by
  obtain ⟨t, p, q⟩ := ha.ex
  obtain ⟨t', p', q'⟩ := hr.ex
  refine ⟨_, pa_cons p p' hs, fun σ H μ ls S Q hL hS h => ?_⟩
  refine q σ H μ ls S _ hL hS (Bd.bind (fun w S1 v H1 μ1 g1 s1 r1 h1 => ?_) h)
  refine q' σ H1 μ1 ls S1 _ (hL.mono g1) s1 (Bd.bind (fun ws S2 vs H2 μ2 g2 s2 r2 h2 => ?_) h1)
  exact h2 (v :: vs) H2 μ2 (Gr.refl _ _) s2 (.cons (r1.mono g2) r2)
theorem se_tup {as : List DE} {x1} (ha : SA X Wx es (dArgs as)) : SE X Wx (.Tuple es x1 pos) (dTup as) := by
  obtain ⟨t, p, q⟩ := ha.ex
  refine ⟨_, Tx.pe_tupD p, fun σ H μ ls S Q hL hS h => ?_⟩
  refine q σ H μ ls S _ hL hS (Bd.bind (fun ws S1 vs H1 μ1 g1 s1 r1 h1 => ?_) h)
  by_cases hl : ws.length ≤ sizeLine
  · rw [if_pos hl] at h1
    refine ⟨by rw [r1.length]; exact hl, fun p o hp ho => ?_⟩
    exact h1 (.ref p) _ μ1 (gr_new hp) (s1.new hp) (.tup (.of upd_same ho) (r1.mono (gr_new hp)))
  · rw [if_neg hl] at h1
    exact False.elim h1
theorem se_lst {as : List DE} (ha : SA X Wx es (dArgs as)) : SE X Wx (.List es pos) (dLst as) := by
  obtain ⟨t, p, q⟩ := ha.ex
  refine ⟨_, pe_lst p, fun σ H μ ls S Q hL hS h => ?_⟩
  refine q σ H μ ls S _ hL hS (Bd.bind (fun ws S1 vs H1 μ1 g1 s1 r1 h1 => ?_) h)
  by_cases hl : ws.length ≤ sizeLine
  · rw [if_pos hl] at h1
    refine ⟨by rw [r1.length]; exact hl, fun p hp => ?_⟩
    exact h1 (.ref p) _ _ (gr_cell s1 hp) (s1.alloc hp ⟨_, upd_same, r1.mono (gr_cell s1 hp)⟩) (.loc muAdd_same)
  · rw [if_neg hl] at h1
    exact False.elim h1

/-! ### operators by values -/
/-- what a two-place operation on values is worth -/
structure SO (X : Cx) (f : Value → Value → Sem Value) (g : W → W → Store → Res W) : Prop where
  ex : ∃ r, OpR X f r ∧ ∀ (E : XK) x y H μ S wx wy Q, Sim X.K μ S H → Vr X.K μ H x wx → Vr X.K μ H y wy → Bd X.K X.mg (RlV X.K) E μ H (g wx wy S) Q → r x y H Q
theorem SO.or {f : Value → Value → Sem Value} {g1 g2 g : W → W → Store → Res W} (h1 : SO X f g1) (h2 : SO X f g2) (h : ∀ wx wy S, (g wx wy S = g1 wx wy S) ∨ g wx wy S = g2 wx wy S) : SO X f g := by
  obtain ⟨r1, o1, q1⟩ := h1.ex
  obtain ⟨r2, o2, q2⟩ := h2.ex
  refine ⟨fun x y H Q => r1 x y H Q ∨ r2 x y H Q, fun pins s σ H x y v u Q I rx ry hr => ?_, fun E x y H μ S wx wy Q hS rx ry hb => ?_⟩
  · rcases hr with hr | hr
    · exact o1 pins s σ H x y v u Q I rx ry hr
    · exact o2 pins s σ H x y v u Q I rx ry hr
  · rcases h wx wy S with e | e <;> rw [e] at hb
    · exact .inl (q1 E x y H μ S wx wy Q hS rx ry hb)
    · exact .inr (q2 E x y H μ S wx wy Q hS rx ry hb)
theorem se_opG {f : Value → Value → Sem Value} {g : W → W → Store → Res W} (ho : SO X f g) (ha : SE X Wx a ma) (hb : SE X Wx b mb)
    (mk : ∀ {r : R2} {ta tb : TE}, OpR X f r → PE X a ta → PE X b tb → PE X e (tOp r ta tb)) : SE X Wx e (dOp g ma mb) := by
  obtain ⟨r, o, q⟩ := ho.ex
  obtain ⟨t1, p1, q1⟩ := ha.ex
  obtain ⟨t2, p2, q2⟩ := hb.ex
  refine ⟨_, mk o p1 p2, fun σ H μ ls S Q hL hS h => ?_⟩
  refine q1 σ H μ ls S _ hL hS (Bd.bind (fun w1 S1 v1 H1 μ1 g1 s1 r1 h1 => ?_) h)
  refine q2 σ H1 μ1 ls S1 _ (hL.mono g1) s1 (Bd.bind (fun w2 S2 v2 H2 μ2 g2 s2 r2 h2 => ?_) h1)
  exact q _ v1 v2 H2 μ2 S2 w1 w2 Q s2 (r1.mono g2) r2 h2
theorem se_op {op : Operator} {g : W → W → Store → Res W} (ho : SO X (binaryOp op) g) (ha : SE X Wx a ma) (hb : SE X Wx b mb) : SE X Wx (.BinOp a op b pos) (dOp g ma mb) :=
  se_opG ho ha hb fun o p q => pe_op o p q
theorem se_cmp {op : CmpOp} {g : W → W → Store → Res W} (ho : SO X (compareOp op) g) (ha : SE X Wx a ma) (hb : SE X Wx b mb) (hm : behindInMarks op b = false := by first | exact nomark _ | rfl) : SE X Wx (.Compare a [op] [b] pos) (dOp g ma mb) :=
  se_opG ho ha hb fun o p q => pe_cmpR o p q hm
/-- a comparison as a test -/
theorem st_cmp {op : CmpOp} {g : W → W → Store → Res W} (ho : SO X (compareOp op) g) (ha : SE X Wx a ma) (hb : SE X Wx b mb) (hm : behindInMarks op b = false := by first | exact nomark _ | rfl) : ST X Wx (.Compare a [op] [b] pos) (dTB (dOp g ma mb)) := by
  obtain ⟨r, o, q⟩ := ho.ex
  obtain ⟨t1, p1, q1⟩ := ha.ex
  obtain ⟨t2, p2, q2⟩ := hb.ex
  refine ⟨_, pt_cmpR o p1 p2 hm, fun σ H μ ls S Q hL hS h => ?_⟩
  have h' : BdB X Wx σ μ H ((ma ls S).bind fun x S1 => (mb ls S1).bind fun y S2 => (g x y S2).bind fun w S3 => match w with
    | .bl b => .ok b S3
    | _ => .bad) Q := by
    unfold dTB dOp at h
    cases e1 : ma ls S with
    | ok x S1 =>
      rw [e1] at h
      simp only [Res.bind] at h ⊢
      cases e2 : mb ls S1 with
      | ok y S2 =>
        rw [e2] at h
        exact h
      | exc e S => rw [e2] at h; exact h
      | bad => rw [e2] at h; exact h
    | exc e S => rw [e1] at h; exact h
    | bad => rw [e1] at h; exact h
  refine q1 σ H μ ls S _ hL hS (Bd.bind (fun w1 S1 v1 H1 μ1 g1 s1 r1 h1 => ?_) h')
  refine q2 σ H1 μ1 ls S1 _ (hL.mono g1) s1 (Bd.bind (fun w2 S2 v2 H2 μ2 g2 s2 r2 h2 => ?_) h1)
  refine q _ v1 v2 H2 μ2 S2 w1 w2 _ s2 (r1.mono g2) r2 (Bd.bind (fun w3 S3 v3 H3 μ3 g3 s3 r3 h3 => ?_) h2)
  cases r3 with
  | bl k => exact ⟨k, rfl, h3 k H3 μ3 (Gr.refl _ _) s3 rfl⟩
  | _ => exact False.elim h3
end
end Fs
set_option maxHeartbeats 4000000
namespace Fs
open PySem L2

/-! ### sequences -/
def lstW (S : Store) : W → Option (List W)
  | .rol ws => some ws
  | .loc n => match S[n]? with
    | some (.lst ws) => some ws
    | _ => none
  | _ => none
def seqW (S : Store) : W → Option (List W)
  | .tup ws => some ws
  | w => lstW S w
section
variable {K : PySem.W.Frag} {μ : Mu} {H : Hp} {S : Store}
theorem Sim.cellL (s : Sim K μ S H) {n : Nat} {ws : List W} {v : V} (h : S[n]? = some (.lst ws)) (r : Vr K μ H v (.loc n)) : ∃ a xs, v = .ref a ∧ μ n = some a ∧ H a = some (.lst xs) ∧ VrA K μ H xs ws := by
  cases r with
  | loc h1 =>
    obtain ⟨a, h2, xs, h3, h4⟩ := s.cell n _ h
    rw [h1] at h2
    cases h2
    exact ⟨_, xs, rfl, h1, h3, h4⟩
theorem lst_of (s : Sim K μ S H) {w : W} {ws : List W} {v : V} (h : lstW S w = some ws) (r : Vr K μ H v w) : ∃ a xs, v = .ref a ∧ SqL K H a xs ∧ VrA K μ H xs ws := by
  cases r with
  | rol h1 h2 =>
    cases h
    exact ⟨_, _, rfl, h1.seq, h2⟩
  | @loc n a h1 =>
    have h' : (match S[n]? with
      | some (.lst ws) => some ws
      | _ => none) = some ws := h
    split at h'
    · rename_i ws' e
      cases h'
      obtain ⟨a', xs, e1, _, e2, e3⟩ := s.cellL e (.loc h1)
      exact ⟨a', xs, e1, .of e2, e3⟩
    · cases h'
  | _ => exact absurd (show (none : Option (List W)) = some ws from h) (by simp)
theorem seq_of (s : Sim K μ S H) {w : W} {ws : List W} {v : V} (h : seqW S w = some ws) (r : Vr K μ H v w) : ∃ a xs, v = .ref a ∧ (SqL K H a xs ∨ SqT K H a xs) ∧ VrA K μ H xs ws := by
  cases r with
  | tup h1 h2 =>
    cases h
    exact ⟨_, _, rfl, .inr h1.t, h2⟩
  | rol h1 h2 =>
    obtain ⟨a, xs, e, q, r⟩ := lst_of s (w := .rol _) h (.rol h1 h2)
    exact ⟨a, xs, e, .inl q, r⟩
  | loc h1 =>
    obtain ⟨a, xs, e, q, r⟩ := lst_of s (w := .loc _) h (.loc h1)
    exact ⟨a, xs, e, .inl q, r⟩
  | _ => exact absurd (show (none : Option (List W)) = some ws from h) (by simp)
theorem VrA.atI {ws : List W} {xs : List V} (h : VrA K μ H xs ws) {i : Int} {w : W} (e : L2.atI ws i = some w) : ∃ v, L2.atI xs i = some v ∧ Vr K μ H v w := by
  unfold L2.atI at e ⊢
  rw [h.length]
  cases q : ixN ws.length i with
  | none => simp [q] at e
  | some j =>
    rw [q] at e
    exact h.get e
end

/-! ### arithmetic -/
def gAdd (x y : W) (S : Store) : Res W := match x, y with
  | .int i, .int j => .ok (.int (i + j)) S
  | .str a, .str b => if a.length + b.length ≤ sizeLine then .ok (.str (a ++ b)) S else .bad
  | .tup a, .tup b => if a.length + b.length ≤ sizeLine then .ok (.tup (a ++ b)) S else .bad
  | .loc n, .loc m => match S[n]?, S[m]? with
    | some (.lst a), some (.lst b) => if a.length + b.length ≤ sizeLine then .ok (.loc S.length) (S ++ [.lst (a ++ b)]) else .bad
    | _, _ => .bad
  | _, _ => .bad
def gSub (x y : W) (S : Store) : Res W := match x, y with
  | .int i, .int j => .ok (.int (i - j)) S
  | _, _ => .bad
def gMul (x y : W) (S : Store) : Res W := match x, y with
  | .int i, .int j => if (-(2 ^ 64) < i ∧ i < 2 ^ 64) ∨ (-(2 ^ 64) < j ∧ j < 2 ^ 64) then .ok (.int (i * j)) S else if i.natAbs.log2 + j.natAbs.log2 < 1000000 then .ok (.int (i * j)) S else .bad
  | _, _ => .bad
def gDiv (x y : W) (S : Store) : Res W := match x, y with
  | .int i, .int j => if 0 < j ∧ j.natAbs.log2 < 9000 then .ok (.int (i / j)) S else .bad
  | _, _ => .bad
def gMod (x y : W) (S : Store) : Res W := match x, y with
  | .int i, .int j => if 0 < j then .ok (.int (i % j)) S else .bad
  | _, _ => .bad
def gPow (x y : W) (S : Store) : Res W := match x, y with
  | .int i, .int j => if 0 ≤ j ∧ j ≤ 1000000 ∧ i.natAbs < 2 ^ 64 then .ok (.int (i ^ j.toNat)) S else .bad
  | _, _ => .bad
section
variable {X : Cx}
theorem SO.ii {f : Value → Value → Sem Value} {C : Int → Int → Prop} {g : Int → Int → W} {g' : Int → Int → V} {G : W → W → Store → Res W} (o : OpR X f (rI C g')) (hg : ∀ i j μ H, Vr X.K μ H (g' i j) (g i j))
    (h : ∀ x y S, (∃ i j, x = .int i ∧ y = .int j ∧ C i j ∧ G x y S = .ok (g i j) S) ∨ G x y S = .bad) : SO X f G := by
  refine ⟨_, o, fun E x y H μ S wx wy Q hS rx ry hb => ?_⟩
  rcases h wx wy S with ⟨i, j, rfl, rfl, c, e⟩ | e <;> rw [e] at hb
  · cases rx
    cases ry
    exact ⟨i, j, rfl, rfl, c, hb _ H μ (Gr.refl _ _) hS (hg i j μ H)⟩
  · exact False.elim hb
theorem rI0_of {f : Value → Value → Sem Value} {g' : Int → Int → V} (o : OpR X f (rI0 g')) : OpR X f (rI (fun _ _ => True) g') := by
  intro pins s σ H x y v u Q I rx ry h
  obtain ⟨i, j, e1, e2, _, q⟩ := h
  exact o pins s σ H x y v u Q I rx ry ⟨i, j, e1, e2, q⟩
def gAddI (x y : W) (S : Store) : Res W := match x, y with
  | .int i, .int j => .ok (.int (i + j)) S
  | _, _ => .bad
def gAddS (x y : W) (S : Store) : Res W := match x, y with
  | .str a, .str b => if a.length + b.length ≤ sizeLine then .ok (.str (a ++ b)) S else .bad
  | _, _ => .bad
def gAddT (x y : W) (S : Store) : Res W := match x, y with
  | .tup a, .tup b => if a.length + b.length ≤ sizeLine then .ok (.tup (a ++ b)) S else .bad
  | _, _ => .bad
def gAddL (x y : W) (S : Store) : Res W := match x, y with
  | .loc n, .loc m => match S[n]?, S[m]? with
    | some (.lst a), some (.lst b) => if a.length + b.length ≤ sizeLine then .ok (.loc S.length) (S ++ [.lst (a ++ b)]) else .bad
    | _, _ => .bad
  | _, _ => .bad
theorem so_addI : SO X (binaryOp .Add) gAddI := SO.ii (g := fun i j => .int (i + j)) (rI0_of op_add) (fun _ _ _ _ => .int _) fun x y S => by
  unfold gAddI
  split
  · exact .inl ⟨_, _, rfl, rfl, trivial, rfl⟩
  · exact .inr rfl
theorem so_addS : SO X (binaryOp .Add) gAddS := ⟨_, op_add_str, fun E x y H μ S wx wy Q hS rx ry hb => by
  unfold gAddS at hb
  split at hb
  · cases rx
    cases ry
    split at hb
    · rename_i h
      exact ⟨_, _, rfl, rfl, h, hb _ H μ (Gr.refl _ _) hS (.str _)⟩
    · exact False.elim hb
  · exact False.elim hb⟩
theorem so_addT : SO X (binaryOp .Add) gAddT := ⟨_, Tx.op_catD, fun E x y H μ S wx wy Q hS rx ry hb => by
  unfold gAddT at hb
  split at hb
  · rename_i a b
    cases rx with
    | @tup p xs _ h1 h2 =>
    cases ry with
    | @tup q ys _ h3 h4 =>
    split at hb
    · rename_i h
      refine ⟨_, _, _, _, rfl, rfl, h1.t, h3.t, by rw [h2.length, h4.length]; exact h, fun e => ?_, fun _ e => ?_, fun _ _ p o hp ho => ?_⟩
      · subst e
        cases h2
        exact hb _ H μ (Gr.refl _ _) hS (.tup h3 (by simpa using h4))
      · subst e
        cases h4
        exact hb _ H μ (Gr.refl _ _) hS (.tup h1 (by simpa using h2))
      · exact hb (.ref p) _ μ (gr_new hp) (hS.new hp) (.tup (.of upd_same ho) ((h2.append h4).mono (gr_new hp)))
    · exact False.elim hb
  · exact False.elim hb⟩
theorem so_addL : SO X (binaryOp .Add) gAddL := ⟨_, op_cat, fun E x y H μ S wx wy Q hS rx ry hb => by
  unfold gAddL at hb
  split at hb
  · rename_i n m
    split at hb
    · rename_i a b e1 e2
      split at hb
      · rename_i h
        obtain ⟨p, xs, rfl, _, h1, h2⟩ := hS.cellL e1 rx
        obtain ⟨q, ys, rfl, _, h3, h4⟩ := hS.cellL e2 ry
        refine ⟨_, _, _, _, rfl, rfl, h1, h3, by rw [h2.length, h4.length]; exact h, fun p hp => ?_⟩
        exact hb (.ref p) _ _ (gr_cell hS hp) (hS.alloc hp ⟨_, upd_same, (h2.append h4).mono (gr_cell hS hp)⟩) (.loc muAdd_same)
      · exact False.elim hb
    · exact False.elim hb
  · exact False.elim hb⟩
theorem so_add : SO X (binaryOp .Add) gAdd :=
  SO.or (SO.or so_addI so_addS (g := fun x y S => match x, y with | .int i, .int j => .ok (.int (i + j)) S | x, y => gAddS x y S) fun x y S => by
      cases x <;> cases y <;> first | exact .inl rfl | exact .inr rfl)
    (SO.or so_addT so_addL (g := fun x y S => match x, y with | .tup a, .tup b => gAddT (.tup a) (.tup b) S | x, y => gAddL x y S) fun x y S => by
      cases x <;> cases y <;> first | exact .inl rfl | exact .inr rfl) fun x y S => by
    cases x <;> cases y <;> first | exact .inl rfl | exact .inr rfl
theorem so_sub : SO X (binaryOp .Sub) gSub := SO.ii (g := fun i j => .int (i - j)) (rI0_of op_sub) (fun _ _ _ _ => .int _) fun x y S => by
  unfold gSub
  split
  · exact .inl ⟨_, _, rfl, rfl, trivial, rfl⟩
  · exact .inr rfl
theorem so_mul : SO X (binaryOp .Mult) gMul := by
  refine SO.or (g1 := fun x y S => match x, y with
    | .int i, .int j => if (-(2 ^ 64) < i ∧ i < 2 ^ 64) ∨ (-(2 ^ 64) < j ∧ j < 2 ^ 64) then .ok (.int (i * j)) S else .bad
    | _, _ => .bad) (g2 := fun x y S => match x, y with
    | .int i, .int j => if i.natAbs.log2 + j.natAbs.log2 < 1000000 then .ok (.int (i * j)) S else .bad
    | _, _ => .bad)
    (SO.ii (g := fun i j => .int (i * j)) op_mul (fun _ _ _ _ => .int _) fun x y S => ?_) (SO.ii (g := fun i j => .int (i * j)) op_mulW (fun _ _ _ _ => .int _) fun x y S => ?_) fun x y S => ?_
  · try dsimp only
    split
    · split
      · rename_i h
        exact .inl ⟨_, _, rfl, rfl, h, rfl⟩
      · exact .inr rfl
    · exact .inr rfl
  · try dsimp only
    split
    · split
      · rename_i h
        exact .inl ⟨_, _, rfl, rfl, h, rfl⟩
      · exact .inr rfl
    · exact .inr rfl
  · unfold gMul
    try dsimp only
    split
    · split
      · exact .inl rfl
      · exact .inr rfl
    · exact .inl rfl
theorem so_div : SO X (binaryOp .FloorDiv) gDiv := SO.ii (g := fun i j => .int (i / j)) op_fdivW (fun _ _ _ _ => .int _) fun x y S => by
  unfold gDiv
  split
  · split
    · rename_i h
      exact .inl ⟨_, _, rfl, rfl, h, rfl⟩
    · exact .inr rfl
  · exact .inr rfl
theorem so_mod : SO X (binaryOp .Mod) gMod := SO.ii (g := fun i j => .int (i % j)) op_mod (fun _ _ _ _ => .int _) fun x y S => by
  unfold gMod
  split
  · split
    · rename_i h
      exact .inl ⟨_, _, rfl, rfl, h, rfl⟩
    · exact .inr rfl
  · exact .inr rfl
theorem so_pow : SO X (binaryOp .Pow) gPow := SO.ii (g := fun i j => .int (i ^ j.toNat)) op_pow (fun _ _ _ _ => .int _) fun x y S => by
  unfold gPow
  split
  · split
    · rename_i h
      exact .inl ⟨_, _, rfl, rfl, h, rfl⟩
    · exact .inr rfl
  · exact .inr rfl
/-! ### comparisons of ints -/
def gCmp (p : Int → Int → Bool) (x y : W) (S : Store) : Res W := match x, y with
  | .int i, .int j => .ok (.bl (p i j)) S
  | _, _ => .bad
theorem so_cmp {f : Value → Value → Sem Value} {p : Int → Int → Bool} (o : OpR X f (rI0 fun i j => .bl (p i j))) : SO X f (gCmp p) := SO.ii (g := fun i j => .bl (p i j)) (rI0_of o) (fun _ _ _ _ => .bl _) fun x y S => by
  unfold gCmp
  split
  · exact .inl ⟨_, _, rfl, rfl, trivial, rfl⟩
  · exact .inr rfl
abbrev gLt := gCmp fun i j => decide (i < j)
abbrev gLe := gCmp fun i j => decide (i ≤ j)
abbrev gGt := gCmp fun i j => decide (j < i)
abbrev gGe := gCmp fun i j => decide (j ≤ i)
theorem so_lt : SO X (compareOp .Lt) gLt := so_cmp op_lt
theorem so_le : SO X (compareOp .LtE) gLe := so_cmp op_le
theorem so_gt : SO X (compareOp .Gt) gGt := so_cmp op_gt
theorem so_ge : SO X (compareOp .GtE) gGe := so_cmp op_ge
/-! ### is None -/
def gIsN (x y : W) (S : Store) : Res W := match y with
  | .non => .ok (.bl (match x with | .non => true | _ => false)) S
  | _ => .bad
def gNotN (x y : W) (S : Store) : Res W := match y with
  | .non => .ok (.bl (match x with | .non => false | _ => true)) S
  | _ => .bad
theorem so_isN : SO X (compareOp .Is) gIsN := ⟨_, op_isN, fun E x y H μ S wx wy Q hS rx ry hb => by
  unfold gIsN at hb
  split at hb
  · cases ry
    refine ⟨rfl, ?_⟩
    refine hb _ H μ (Gr.refl _ _) hS ?_
    cases rx <;> first | exact .bl true | exact .bl false
  · exact False.elim hb⟩
theorem so_notN : SO X (compareOp .IsNot) gNotN := ⟨_, op_notN, fun E x y H μ S wx wy Q hS rx ry hb => by
  unfold gNotN at hb
  split at hb
  · cases ry
    refine ⟨rfl, ?_⟩
    refine hb _ H μ (Gr.refl _ _) hS ?_
    cases rx <;> first | exact .bl true | exact .bl false
  · exact False.elim hb⟩
end

/-! ### data: equality, in -/
mutual
/-- without lists -/
def toD0 : W → PyData
  | .non => .none
  | .bl b => .bool b
  | .int i => .int i
  | .str x => .str x
  | .tup ws => .tuple (toDA0 ws)
  | _ => .dict []
def toDA0 : List W → List PyData
  | [] => []
  | w :: ws => toD0 w :: toDA0 ws
end
mutual
/-- lists (of data without lists) anywhere -/
def toD (S : Store) : W → PyData
  | .non => .none
  | .bl b => .bool b
  | .int i => .int i
  | .str x => .str x
  | .tup ws => .tuple (toDA S ws)
  | .rol ws => .list (toDA S ws)
  | .loc n => match S[n]? with
    | some (.lst ws) => .list (toDA0 ws)
    | _ => .dict []
  | _ => .dict []
def toDA (S : Store) : List W → List PyData
  | [] => []
  | w :: ws => toD S w :: toDA S ws
end
section
variable {K : PySem.W.Frag} {μ : Mu} {H : Hp} {S : Store}
mutual
theorem dp0_of : ∀ {w : W} {v : V}, Vr K μ H v w → (toD0 w).canLay0 = true → Dp K H v (toD0 w)
  | .non, _, h, _ => by cases h; unfold toD0; exact .non
  | .bl b, _, h, _ => by cases h; unfold toD0; exact .bl b
  | .int b, _, h, _ => by cases h; unfold toD0; exact .int b
  | .str b, _, h, _ => by cases h; unfold toD0; exact .str b
  | .tup ws, _, h, c => by
    cases h with
    | tup h1 h2 =>
      unfold toD0 at c ⊢
      unfold PyData.canLay0 at c
      exact .tup h1.t (dpA0_of h2 c)
  | .rol ws, _, h, c => by unfold toD0 at c; cases c
  | .loc n, _, h, c => by unfold toD0 at c; cases c
  | .ty n, _, h, c => by unfold toD0 at c; cases c
  | .adr n, _, h, c => by unfold toD0 at c; cases c
theorem dpA0_of : ∀ {ws : List W} {vs : List V}, VrA K μ H vs ws → PyData.canLayAll0 (toDA0 ws) = true → DpAll K H vs (toDA0 ws)
  | [], _, h, _ => by cases h; unfold toDA0; exact .nil
  | w :: ws, _, h, c => by
    cases h with
    | cons h1 h2 =>
      unfold toDA0 at c ⊢
      unfold PyData.canLayAll0 at c
      rw [Bool.and_eq_true] at c
      exact .cons (dp0_of h1 c.1) (dpA0_of h2 c.2)
end
mutual
theorem dp_of (s : Sim K μ S H) : ∀ {w : W} {v : V}, Vr K μ H v w → (toD S w).canLay0 = true → Dp K H v (toD S w)
  | .non, _, h, _ => by cases h; unfold toD; exact .non
  | .bl b, _, h, _ => by cases h; unfold toD; exact .bl b
  | .int b, _, h, _ => by cases h; unfold toD; exact .int b
  | .str b, _, h, _ => by cases h; unfold toD; exact .str b
  | .tup ws, _, h, c => by
    cases h with
    | tup h1 h2 =>
      unfold toD at c ⊢
      unfold PyData.canLay0 at c
      exact .tup h1.t (dpA_of s h2 c)
  | .rol ws, _, h, c => by
    cases h with
    | rol h1 h2 =>
      unfold toD at c ⊢
      unfold PyData.canLay0 at c
      exact .lst h1.seq (dpA_of s h2 c)
  | .loc n, _, h, c => by
    unfold toD at c ⊢
    split at c
    · rename_i ws e
      obtain ⟨a, xs, rfl, _, h1, h2⟩ := s.cellL e h
      unfold PyData.canLay0 at c
      exact .lst (.of h1) (dpA0_of h2 c)
    · cases c
  | .ty n, _, h, c => by unfold toD at c; cases c
  | .adr n, _, h, c => by unfold toD at c; cases c
theorem dpA_of (s : Sim K μ S H) : ∀ {ws : List W} {vs : List V}, VrA K μ H vs ws → PyData.canLayAll0 (toDA S ws) = true → DpAll K H vs (toDA S ws)
  | [], _, h, _ => by cases h; unfold toDA; exact .nil
  | w :: ws, _, h, c => by
    cases h with
    | cons h1 h2 =>
      unfold toDA at c ⊢
      unfold PyData.canLayAll0 at c
      rw [Bool.and_eq_true] at c
      exact .cons (dp_of s h1 c.1) (dpA_of s h2 c.2)
end
end
theorem shaped_lay {d : PyData} (h : SeqAt.shaped d = true) : d.canLay0 = true := by
  unfold SeqAt.shaped at h
  rw [Bool.and_eq_true] at h
  exact h.1
def flatW : W → Bool
  | .non => true
  | .bl _ => true
  | .int _ => true
  | .str _ => true
  | _ => false
/-- == of flat values -/
def eqFl : W → W → Bool
  | .non, .non => true
  | .bl a, .bl b => a == b
  | .bl a, .int j => (if a then 1 else 0) == j
  | .int i, .bl b => i == (if b then 1 else 0)
  | .int i, .int j => i == j
  | .str x, .str y => x == y
  | _, _ => false
def gEqB (neg : Bool) (x y : W) (S : Store) : Res W := match x, y with
  | .int i, .int j => .ok (.bl (neg != decide (i = j))) S
  | .str i, .str j => .ok (.bl (neg != decide (i = j))) S
  | .bl i, .bl j => .ok (.bl (neg != decide (i = j))) S
  | x, y => if SeqAt.shaped (toD S x) = true ∧ SeqAt.shaped (toD S y) = true then .ok (.bl (neg != PyData.eqv (toD S x) (toD S y))) S else .bad
abbrev gEq := gEqB false
abbrev gNe := gEqB true
section
variable {X : Cx}
theorem so_eqv {neg : Bool} {op : CmpOp} (h1 : OpR X (compareOp op) (fun x y H Q => scal x y = true ∧ Q (.bl (neg != decide (x = y))) H))
    (h2 : OpR X (compareOp op) fun x y H Q => ∃ d e, Dp X.K H x d ∧ Dp X.K H y e ∧ SeqAt.shaped d = true ∧ SeqAt.shaped e = true ∧ Q (.bl (neg != PyData.eqv d e)) H) : SO X (compareOp op) (gEqB neg) := by
  refine SO.or (g1 := fun x y S => match x, y with
    | .int i, .int j => .ok (.bl (neg != decide (i = j))) S
    | .str i, .str j => .ok (.bl (neg != decide (i = j))) S
    | .bl i, .bl j => .ok (.bl (neg != decide (i = j))) S
    | _, _ => .bad) (g2 := fun x y S => if SeqAt.shaped (toD S x) = true ∧ SeqAt.shaped (toD S y) = true then .ok (.bl (neg != PyData.eqv (toD S x) (toD S y))) S else .bad) ⟨_, h1, ?_⟩ ⟨_, h2, ?_⟩ fun x y S => by
    cases x <;> cases y <;> first | exact .inr rfl | exact .inl rfl
  · intro E x y H μ S wx wy Q hS rx ry hb
    try dsimp only at hb
    split at hb
    · cases rx
      cases ry
      refine ⟨rfl, ?_⟩
      rw [decide_eq_decide.mpr (show (V.int _ = V.int _) ↔ _ from ⟨fun e => V.int.inj e, fun e => by rw [e]⟩)]
      exact hb _ H μ (Gr.refl _ _) hS (.bl _)
    · cases rx
      cases ry
      refine ⟨rfl, ?_⟩
      rw [decide_eq_decide.mpr (show (V.str _ = V.str _) ↔ _ from ⟨fun e => V.str.inj e, fun e => by rw [e]⟩)]
      exact hb _ H μ (Gr.refl _ _) hS (.bl _)
    · cases rx
      cases ry
      refine ⟨rfl, ?_⟩
      rw [decide_eq_decide.mpr (show (V.bl _ = V.bl _) ↔ _ from ⟨fun e => V.bl.inj e, fun e => by rw [e]⟩)]
      exact hb _ H μ (Gr.refl _ _) hS (.bl _)
    · exact False.elim hb
  · intro E x y H μ S wx wy Q hS rx ry hb
    try dsimp only at hb
    split at hb
    · rename_i c
      exact ⟨_, _, dp_of hS rx (shaped_lay c.1), dp_of hS ry (shaped_lay c.2), c.1, c.2, hb _ H μ (Gr.refl _ _) hS (.bl _)⟩
    · exact False.elim hb
theorem false_bne (b : Bool) : (false != b) = b := by cases b <;> rfl
theorem true_bne (b : Bool) : (true != b) = !b := by cases b <;> rfl
theorem so_eq (hu : X.A.units + 64 < cLine) : SO X (compareOp .Eq) gEq :=
  so_eqv (fun pins s σ H x y v u Q I rx ry h => op_eq pins s σ H x y v u Q I rx ry (by simp only [false_bne] at h; exact h)) (fun pins s σ H x y v u Q I rx ry h => op_eqD hu pins s σ H x y v u Q I rx ry (by simp only [false_bne] at h; exact h))
theorem so_ne (hu : X.A.units + 64 < cLine) : SO X (compareOp .NotEq) gNe :=
  so_eqv (fun pins s σ H x y v u Q I rx ry h => op_ne pins s σ H x y v u Q I rx ry (by simp only [true_bne] at h; exact h)) (fun pins s σ H x y v u Q I rx ry h => op_neD hu pins s σ H x y v u Q I rx ry (by simp only [true_bne] at h; exact h))
end
end Fs
set_option maxHeartbeats 4000000
namespace Fs
open PySem L2

/-! ### in, not in -/
def allFlat (ws : List W) : Bool := ws.all flatW
def inFl (x : W) (ws : List W) : Bool := ws.any fun y => eqFl y x
def inD (S : Store) (x : W) (ws : List W) : Bool := ws.any fun y => PyData.eqv (toD S y) (toD S x)
def notLoc : W → Bool
  | .loc _ => false
  | _ => true
def gInB (neg : Bool) (x y : W) (S : Store) : Res W := match seqW S y with
  | some ws => if flatW x = true ∧ allFlat ws = true then .ok (.bl (neg != inFl x ws)) S
    else if SeqAt.shaped (toD S x) = true ∧ SeqAt.shaped (.tuple (toDA S ws)) = true ∧ notLoc y = true then .ok (.bl (neg != inD S x ws)) S else .bad
  | none => .bad
abbrev gIn := gInB false
abbrev gNotIn := gInB true
section
variable {K : PySem.W.Frag} {μ : Mu} {H : Hp} {S : Store}
theorem flat_v {w : W} {v : V} (r : Vr K μ H v w) (f : flatW w = true) : flatV v = true := by
  cases r <;> first | rfl | cases f
theorem flat_vs : ∀ {ws : List W} {vs : List V}, VrA K μ H vs ws → allFlat ws = true → vs.all flatV = true
  | [], _, h, _ => by cases h; rfl
  | w :: ws, _, h, f => by
    cases h with
    | cons h1 h2 =>
      unfold allFlat at f
      simp only [List.all_cons, Bool.and_eq_true] at f ⊢
      exact ⟨flat_v h1 f.1, flat_vs h2 f.2⟩
theorem eq_fl {w w' : W} {v v' : V} (r : Vr K μ H v w) (r' : Vr K μ H v' w') (f : flatW w = true) (f' : flatW w' = true) : eqV v v' = eqFl w w' := by
  cases r <;> first | (cases r' <;> first | rfl | (cases f'; done)) | (cases f; done)
theorem in_fl {x : V} {wx : W} (r : Vr K μ H x wx) (f : flatW wx = true) : ∀ {ws : List W} {vs : List V}, VrA K μ H vs ws → allFlat ws = true → inV x vs = inFl wx ws
  | [], _, h, _ => by cases h; rfl
  | w :: ws, _, h, q => by
    cases h with
    | cons h1 h2 =>
      unfold allFlat at q
      rw [List.all_cons, Bool.and_eq_true] at q
      have ih := in_fl r f h2 q.2
      unfold inV inFl at ih ⊢
      rw [List.any_cons, List.any_cons, ih, eq_fl h1 r q.1 f]
theorem any_toDA (S : Store) (d : PyData) : ∀ ws : List W, ((toDA S ws).any fun z => PyData.eqv z d) = ws.any fun y => PyData.eqv (toD S y) d
  | [] => by unfold toDA; rfl
  | w :: ws => by
    unfold toDA
    rw [List.any_cons, List.any_cons, any_toDA S d ws]
end
section
variable {X : Cx}
def rInT (K : PySem.W.Frag) (neg : Bool) : R2 := fun x y H Q => ∃ d ds, Dp K H x d ∧ Dp K H y (.tuple ds) ∧ SeqAt.shaped d = true ∧ SeqAt.shaped (.tuple ds) = true ∧ Q (.bl (neg != ds.any fun z => PyData.eqv z d)) H
theorem shT {ds : List PyData} (h : SeqAt.shaped (.tuple ds) = true) : SeqAt.shaped (.list ds) = true := by
  unfold SeqAt.shaped at h ⊢
  unfold PyData.canLay0 PyData.depth at h ⊢
  exact h
theorem op_inT (hu : X.A.units + 65 < cLine) : OpR X (compareOp .In) (rInT X.K false) := by
  rintro pins s σ H x y v u Q I rx ry ⟨d, ds, hd, he, sd, se, q⟩
  obtain ⟨⟨as, r1⟩, bs, r2⟩ := And.intro (Dp.reads I d x v hd rx) (Dp.reads I (.tuple ds) y u he ry)
  refine SeqAt.in_tuple_reads r2 r1 (SeqAt.canLay_of_shaped (shT se)) (SeqAt.canLay_of_shaped sd) (PyProof.Rows.room_in_shaped sd hu) ⟨.bl _, H, I, rfl, ?_⟩
  rw [false_bne] at q
  exact q
theorem op_notInT (hu : X.A.units + 65 < cLine) : OpR X (compareOp .NotIn) (rInT X.K true) := by
  rintro pins s σ H x y v u Q I rx ry ⟨d, ds, hd, he, sd, se, q⟩
  obtain ⟨⟨as, r1⟩, bs, r2⟩ := And.intro (Dp.reads I d x v hd rx) (Dp.reads I (.tuple ds) y u he ry)
  refine SeqAt.notIn_tuple_reads r2 r1 (SeqAt.canLay_of_shaped (shT se)) (SeqAt.canLay_of_shaped sd) (PyProof.Rows.room_in_shaped sd hu) ⟨.bl _, H, I, rfl, ?_⟩
  rw [true_bne] at q
  exact q
theorem so_inB {neg : Bool} {op : CmpOp} (h1 : OpR X (compareOp op) (rIn X.K neg)) (h2 : OpR X (compareOp op) (rInT X.K neg)) (h3 : OpR X (compareOp op) (fun x y H Q => ∃ d ds, Dp X.K H x d ∧ Dp X.K H y (.list ds) ∧ SeqAt.shaped d = true ∧ SeqAt.shaped (.list ds) = true ∧ Q (.bl (neg != ds.any fun z => PyData.eqv z d)) H)) : SO X (compareOp op) (gInB neg) := by
  refine ⟨fun x y H Q => rIn X.K neg x y H Q ∨ rInT X.K neg x y H Q ∨ ∃ d ds, Dp X.K H x d ∧ Dp X.K H y (.list ds) ∧ SeqAt.shaped d = true ∧ SeqAt.shaped (.list ds) = true ∧ Q (.bl (neg != ds.any fun z => PyData.eqv z d)) H, fun pins s σ H x y v u Q I rx ry h => ?_, fun E x y H μ S wx wy Q hS rx ry hb => ?_⟩
  · rcases h with h | h | h
    · exact h1 pins s σ H x y v u Q I rx ry h
    · exact h2 pins s σ H x y v u Q I rx ry h
    · exact h3 pins s σ H x y v u Q I rx ry h
  · unfold gInB at hb
    split at hb
    · rename_i ws e
      split at hb
      · rename_i f
        obtain ⟨a, xs, rfl, hq, r⟩ := seq_of hS e ry
        refine .inl ⟨a, xs, rfl, hq, flat_v rx f.1, flat_vs r f.2, ?_⟩
        rw [in_fl rx f.1 r f.2]
        have := hb (.bl (neg != inFl wx ws)) H μ (Gr.refl _ _) hS (.bl _)
        cases neg with
        | true => rw [true_bne] at this; exact this
        | false => rw [false_bne] at this; exact this
      · split at hb
        · rename_i f
          have q := hb (.bl (neg != inD S wx ws)) H μ (Gr.refl _ _) hS (.bl _)
          have eD : inD S wx ws = (toDA S ws).any fun z => PyData.eqv z (toD S wx) := (any_toDA S _ ws).symm
          rw [eD] at q
          have c1 := shaped_lay f.2.1
          unfold PyData.canLay0 at c1
          cases ry with
          | tup a1 a2 =>
            cases e
            exact .inr (.inl ⟨_, _, dp_of hS rx (shaped_lay f.1), .tup a1.t (dpA_of hS a2 c1), f.1, f.2.1, q⟩)
          | rol a1 a2 =>
            cases e
            exact .inr (.inr ⟨_, _, dp_of hS rx (shaped_lay f.1), .lst a1.seq (dpA_of hS a2 c1), f.1, shT f.2.1, q⟩)
          | loc _ => exact absurd f.2.2 (by simp [notLoc])
          | _ => exact absurd (show (none : Option (List W)) = some ws from e) (by simp)
        · exact False.elim hb
    · exact False.elim hb
theorem so_in (hu : X.A.units + 65 < cLine) : SO X (compareOp .In) gIn := so_inB op_in_seq (op_inT hu) fun pins s σ H x y v u Q I rx ry h => op_inD hu pins s σ H x y v u Q I rx ry (by simp only [false_bne] at h; exact h)
theorem so_notIn (hu : X.A.units + 65 < cLine) : SO X (compareOp .NotIn) gNotIn := so_inB op_notIn_seq (op_notInT hu) fun pins s σ H x y v u Q I rx ry h => op_notInD hu pins s σ H x y v u Q I rx ry (by simp only [true_bne] at h; exact h)
end

/-! ### subscripts -/
def gIx (x y : W) (S : Store) : Res W := match x, y with
  | .str z, .int i => if z.length ≤ sizeLine then (match L2.atI z.cps.toList i with
    | some c => .ok (.str ⟨#[c]⟩) S
    | none => .bad) else .bad
  | .tup ws, .int i => match L2.atI ws i with
    | some w => .ok w S
    | none => .bad
  | x, .int i => match lstW S x with
    | some ws => (match L2.atI ws i with
      | some w => .ok w S
      | none => .bad)
    | none => .bad
  | _, _ => .bad
section
variable {X : Cx} {Wx : WE} {a b c e : Expr} {es : List Expr} {ma mb mc : DE} {pos : Pos}
theorem ix_any : IxR X (fun x y H Q => rIxL X.K x y H Q ∨ rIxT X.K x y H Q ∨ rIxS x y H Q) := by
  rintro value slice pins s σ H x y v u Q I rx ry (h | h | h) hs
  · exact ix_list value slice pins s σ H x y v u Q I rx ry h hs
  · exact ix_tup value slice pins s σ H x y v u Q I rx ry h hs
  · exact ix_str value slice pins s σ H x y v u Q I rx ry h hs
theorem se_ix (ha : SE X Wx a ma) (hb : SE X Wx b mb) (hs : PlainIx b := by exact fun _ _ => rfl) : SE X Wx (.Subscript a b pos) (dOp gIx ma mb) := by
  obtain ⟨t1, p1, q1⟩ := ha.ex
  obtain ⟨t2, p2, q2⟩ := hb.ex
  refine ⟨_, pe_ix ix_any p1 p2 hs, fun σ H μ ls S Q hL hS h => ?_⟩
  refine q1 σ H μ ls S _ hL hS (Bd.bind (fun w1 S1 v1 H1 μ1 g1 s1 r1 h1 => ?_) h)
  refine q2 σ H1 μ1 ls S1 _ (hL.mono g1) s1 (Bd.bind (fun w2 S2 v2 H2 μ2 g2 s2 r2 h2 => ?_) h1)
  have r1 := r1.mono g2
  unfold gIx at h2
  split at h2
  · cases r1
    cases r2
    split at h2
    · rename_i hz
      split at h2
      · rename_i c ec
        exact .inr (.inr ⟨_, _, c, rfl, rfl, hz, ec, h2 _ H2 μ2 (Gr.refl _ _) s2 (.str _)⟩)
      · exact False.elim h2
    · exact False.elim h2
  · cases r2
    cases r1 with
    | tup a1 a2 =>
      split at h2
      · rename_i w ew
        obtain ⟨v, e1, e2⟩ := a2.atI ew
        exact .inr (.inl ⟨_, _, _, v, rfl, rfl, a1.t, e1, h2 _ H2 μ2 (Gr.refl _ _) s2 e2⟩)
      · exact False.elim h2
  · cases r2
    split at h2
    · rename_i ws ews
      split at h2
      · rename_i w ew
        obtain ⟨p, xs, rfl, a1, a2⟩ := lst_of s2 ews r1
        obtain ⟨v, e1, e2⟩ := a2.atI ew
        exact .inl ⟨_, _, _, v, rfl, rfl, a1, e1, h2 _ H2 μ2 (Gr.refl _ _) s2 e2⟩
      · exact False.elim h2
    · exact False.elim h2
  · exact False.elim h2

/-! ### truth, and, or, not, if -/
theorem tru_of {K : PySem.W.Frag} {mg : Str → Option Value} {E : XK} {μ : Mu} {H : Hp} {S : Store} {w : W} {v : V} {Q : Bool → Hp → Prop} (s : Sim K μ S H) (r : Vr K μ H v w) (h : Bd K mg RlB E μ H (gTruth w S) Q) : ∃ k, TruV K v H k ∧ Q k H ∧ gTruth w S = .ok k S := by
  have emp : ∀ {xs : List V} {ws : List W}, VrA K μ H xs ws → (!ws.isEmpty) = !xs.isEmpty := fun z => by cases z <;> rfl
  cases r with
  | non => exact ⟨false, rfl, h false H μ (Gr.refl _ _) s rfl, rfl⟩
  | bl b => exact ⟨b, rfl, h b H μ (Gr.refl _ _) s rfl, rfl⟩
  | int i => exact ⟨i != 0, rfl, h _ H μ (Gr.refl _ _) s rfl, rfl⟩
  | str x =>
    unfold gTruth at h ⊢
    dsimp only at h ⊢
    split at h
    · rename_i c
      exact ⟨_, ⟨c, rfl⟩, h _ H μ (Gr.refl _ _) s rfl, by rw [if_pos c]⟩
    · exact False.elim h
  | tup a1 a2 => exact ⟨_, .inr (.inl ⟨_, a1.t, emp a2⟩), h _ H μ (Gr.refl _ _) s rfl, rfl⟩
  | rol a1 a2 => exact ⟨_, .inl ⟨_, a1.seq, emp a2⟩, h _ H μ (Gr.refl _ _) s rfl, rfl⟩
  | @loc n a e =>
    have h' : Bd K mg RlB E μ H (match S[n]? with
      | some (.lst ws) => .ok (!ws.isEmpty) S
      | _ => .bad) Q := h
    have e' : gTruth (.loc n) S = (match S[n]? with
      | some (.lst ws) => .ok (!ws.isEmpty) S
      | _ => .bad) := rfl
    rw [e']
    split at h'
    · rename_i ws ew
      obtain ⟨a, xs, e1, _, e2, e3⟩ := s.cellL ew (.loc e)
      cases e1
      exact ⟨_, .inl ⟨xs, .of e2, emp e3⟩, h' _ H μ (Gr.refl _ _) s rfl, rfl⟩
    · exact False.elim h'
  | ty n => exact False.elim h
  | adr n => exact False.elim h
theorem st_tru (ha : SE X Wx a ma) (he : ∀ whole, isTrue a X.env whole = (do let v ← whole; standAt a.pos; holding [v] (truthy v)) := by intro _; rfl) : ST X Wx a (dT ma) := by
  obtain ⟨t1, p1, q1⟩ := ha.ex
  refine ⟨_, pt_truth p1 he, fun σ H μ ls S Q hL hS h => ?_⟩
  refine q1 σ H μ ls S _ hL hS (Bd.bind (fun w1 S1 v1 H1 μ1 g1 s1 r1 h1 => ?_) h)
  obtain ⟨k, e1, e2, _⟩ := tru_of s1 r1 h1
  exact ⟨k, e1, e2⟩
theorem st_not {m : DT} (ha : ST X Wx a m) : ST X Wx (.UnaryOp .Not a pos) (dNotT m) := by
  obtain ⟨t1, p1, q1⟩ := ha.ex
  refine ⟨_, pt_not p1, fun σ H μ ls S Q hL hS h => ?_⟩
  refine q1 σ H μ ls S _ hL hS (Bd.bind (fun w1 S1 v1 H1 μ1 g1 s1 r1 h1 => ?_) h)
  exact h1 _ H1 μ1 (Gr.refl _ _) s1 (by rw [r1])
theorem ite_bd {α β : Type} {K : PySem.W.Frag} {mg : Str → Option Value} {Rl : Mu → Hp → β → α → Prop} {E : XK} {μ : Mu} {H : Hp} {Q : β → Hp → Prop} {c : Bool} {x y : Res α} {P P' : Prop} (h : Bd K mg Rl E μ H (if c = true then x else y) Q)
    (h1 : Bd K mg Rl E μ H x Q → P) (h2 : Bd K mg Rl E μ H y Q → P') : if c = true then P else P' := by
  cases c with
  | true => exact iteT (h1 h)
  | false => exact iteF (h2 h)
theorem st_w {m : DT} (h : SW X Wx e m) : ST X Wx e m := by
  obtain ⟨t, p, q⟩ := h.ex
  exact ⟨t, p.pt, q⟩
theorem sw_and1 {m : DT} (ha : ST X Wx a m) : SW X Wx (.BoolOp .And [a] pos) m := by
  obtain ⟨t, p, q⟩ := ha.ex
  exact ⟨t, pw_and1 p, q⟩
theorem sw_or1 {m : DT} (ha : ST X Wx a m) : SW X Wx (.BoolOp .Or [a] pos) m := by
  obtain ⟨t, p, q⟩ := ha.ex
  exact ⟨t, pw_or1 p, q⟩
theorem sw_and {m1 m2 : DT} {rest : List Expr} (ha : ST X Wx a m1) (hb : SW X Wx (.BoolOp .And (b :: rest) pos) m2) : SW X Wx (.BoolOp .And (a :: b :: rest) pos) (dAndT m1 m2) := by
  obtain ⟨t1, p1, q1⟩ := ha.ex
  obtain ⟨t2, p2, q2⟩ := hb.ex
  refine ⟨_, pw_and p1 p2, fun σ H μ ls S Q hL hS h => ?_⟩
  refine q1 σ H μ ls S _ hL hS (Bd.bind (fun w1 S1 v1 H1 μ1 g1 s1 r1 h1 => ?_) h)
  cases r1
  exact ite_bd h1 (fun z => q2 σ H1 μ1 ls S1 Q (hL.mono g1) s1 z) fun z => z false H1 μ1 (Gr.refl _ _) s1 rfl
theorem sw_or {m1 m2 : DT} {rest : List Expr} (ha : ST X Wx a m1) (hb : SW X Wx (.BoolOp .Or (b :: rest) pos) m2) : SW X Wx (.BoolOp .Or (a :: b :: rest) pos) (dOrT m1 m2) := by
  obtain ⟨t1, p1, q1⟩ := ha.ex
  obtain ⟨t2, p2, q2⟩ := hb.ex
  refine ⟨_, pw_or p1 p2, fun σ H μ ls S Q hL hS h => ?_⟩
  refine q1 σ H μ ls S _ hL hS (Bd.bind (fun w1 S1 v1 H1 μ1 g1 s1 r1 h1 => ?_) h)
  cases r1
  exact ite_bd h1 (fun z => z true H1 μ1 (Gr.refl _ _) s1 rfl) fun z => q2 σ H1 μ1 ls S1 Q (hL.mono g1) s1 z
theorem se_one {op} (ha : SE X Wx a ma) : SE X Wx (.BoolOp op [a] pos) ma := by
  obtain ⟨t, p, q⟩ := ha.ex
  exact ⟨t, pe_one p, q⟩
theorem bd_tru {K : PySem.W.Frag} {mg : Str → Option Value} {E : XK} {μ : Mu} {H : Hp} {S : Store} {w : W} {v : V} {Q : VK} {f : Bool → Store → Res W} (s : Sim K μ S H) (r : Vr K μ H v w) (h : Bd K mg (RlV K) E μ H ((gTruth w S).bind f) Q) :
    ∃ k, TruV K v H k ∧ Bd K mg (RlV K) E μ H (f k S) Q := by
  cases e : gTruth w S with
  | bad => rw [e] at h; exact False.elim h
  | exc x S' =>
    exfalso
    unfold gTruth at e
    split at e <;> (try split at e) <;> cases e
  | ok k S' =>
    rw [e] at h
    obtain ⟨k', e1, _, e2⟩ := tru_of (mg := mg) (E := E) (Q := fun _ _ => True) s r (by rw [e]; exact fun _ _ _ _ _ _ => trivial)
    rw [e2] at e
    cases e
    exact ⟨_, e1, h⟩
theorem se_and {rest : List Expr} (ha : SE X Wx a ma) (hb : SE X Wx (.BoolOp .And (b :: rest) pos) mb) : SE X Wx (.BoolOp .And (a :: b :: rest) pos) (dAnd ma mb) := by
  obtain ⟨t1, p1, q1⟩ := ha.ex
  obtain ⟨t2, p2, q2⟩ := hb.ex
  refine ⟨_, pe_andT p1 p2, fun σ H μ ls S Q hL hS h => ?_⟩
  refine q1 σ H μ ls S _ hL hS (Bd.bind (fun w1 S1 v1 H1 μ1 g1 s1 r1 h1 => ?_) h)
  obtain ⟨k, e1, h2⟩ := bd_tru s1 r1 h1
  exact ⟨k, e1, ite_bd h2 (fun z => q2 σ H1 μ1 ls S1 Q (hL.mono g1) s1 z) fun z => z v1 H1 μ1 (Gr.refl _ _) s1 r1⟩
theorem se_or {rest : List Expr} (ha : SE X Wx a ma) (hb : SE X Wx (.BoolOp .Or (b :: rest) pos) mb) : SE X Wx (.BoolOp .Or (a :: b :: rest) pos) (dOr ma mb) := by
  obtain ⟨t1, p1, q1⟩ := ha.ex
  obtain ⟨t2, p2, q2⟩ := hb.ex
  refine ⟨_, pe_orT p1 p2, fun σ H μ ls S Q hL hS h => ?_⟩
  refine q1 σ H μ ls S _ hL hS (Bd.bind (fun w1 S1 v1 H1 μ1 g1 s1 r1 h1 => ?_) h)
  obtain ⟨k, e1, h2⟩ := bd_tru s1 r1 h1
  exact ⟨k, e1, ite_bd h2 (fun z => z v1 H1 μ1 (Gr.refl _ _) s1 r1) fun z => q2 σ H1 μ1 ls S1 Q (hL.mono g1) s1 z⟩
theorem se_not (ha : SE X Wx a ma) : SE X Wx (.UnaryOp .Not a pos) (dNot ma) := by
  obtain ⟨t1, p1, q1⟩ := ha.ex
  refine ⟨_, pe_notT p1, fun σ H μ ls S Q hL hS h => ?_⟩
  refine q1 σ H μ ls S _ hL hS (Bd.bind (fun w1 S1 v1 H1 μ1 g1 s1 r1 h1 => ?_) h)
  obtain ⟨k, e1, h2⟩ := bd_tru s1 r1 h1
  exact ⟨k, e1, h2 _ H1 μ1 (Gr.refl _ _) s1 (.bl _)⟩
theorem se_ifE {m : DT} (hc : ST X Wx c m) (ha : SE X Wx a ma) (hb : SE X Wx b mb) : SE X Wx (.IfExp c a b pos) (dIfE m ma mb) := by
  obtain ⟨t0, p0, q0⟩ := hc.ex
  obtain ⟨t1, p1, q1⟩ := ha.ex
  obtain ⟨t2, p2, q2⟩ := hb.ex
  refine ⟨_, pe_ifExp p0 p1 p2, fun σ H μ ls S Q hL hS h => ?_⟩
  refine q0 σ H μ ls S _ hL hS (Bd.bind (fun w1 S1 v1 H1 μ1 g1 s1 r1 h1 => ?_) h)
  cases r1
  exact ite_bd h1 (fun z => q1 σ H1 μ1 ls S1 Q (hL.mono g1) s1 z) fun z => q2 σ H1 μ1 ls S1 Q (hL.mono g1) s1 z
theorem se_chain {op op' : CmpOp} {g g' : W → W → Store → Res W} (ho : SO X (compareOp op) g) (ho' : SO X (compareOp op') g') (ha : SE X Wx a ma) (hb : SE X Wx b mb) (hc : SE X Wx c mc)
    (hm : lastMarks [op, op'] [b, c] = false := by with_unfolding_all rfl) : SE X Wx (.Compare a [op, op'] [b, c] pos) (dChain g g' ma mb mc) := by
  obtain ⟨r, o, q⟩ := ho.ex
  obtain ⟨r', o', q'⟩ := ho'.ex
  obtain ⟨t1, p1, q1⟩ := ha.ex
  obtain ⟨t2, p2, q2⟩ := hb.ex
  obtain ⟨t3, p3, q3⟩ := hc.ex
  refine ⟨_, pe_chain o o' p1 p2 p3 hm, fun σ H μ ls S Q hL hS h => ?_⟩
  refine q1 σ H μ ls S _ hL hS (Bd.bind (fun w1 S1 v1 H1 μ1 g1 s1 r1 h1 => ?_) h)
  refine q2 σ H1 μ1 ls S1 _ (hL.mono g1) s1 (Bd.bind (fun w2 S2 v2 H2 μ2 g2 s2 r2 h2 => ?_) h1)
  refine q _ v1 v2 H2 μ2 S2 w1 w2 _ s2 (r1.mono g2) r2 (Bd.bind (fun w3 S3 v3 H3 μ3 g3 s3 r3 h3 => ?_) h2)
  cases r3 with
  | bl k =>
    refine ⟨k, rfl, ?_⟩
    cases k with
    | true =>
      refine iteT (q3 σ H3 μ3 ls S3 _ (((hL.mono g1).mono g2).mono g3) s3 (Bd.bind (fun w4 S4 v4 H4 μ4 g4 s4 r4 h4 => ?_) h3))
      exact q' _ v2 v4 H4 μ4 S4 w2 w4 Q s4 ((r2.mono g3).mono g4) r4 h4
    | false => exact iteF (h3 (.bl false) H3 μ3 (Gr.refl _ _) s3 (.bl _))
  | _ => exact False.elim h3

/-! ### built-in calls -/
structure SC (X : Cx) (f : Value) (g : List W → Store → Res W) : Prop where
  ex : ∃ r, CallR X f r ∧ ∀ (E : XK) xs H μ S ws Q, Sim X.K μ S H → VrA X.K μ H xs ws → Bd X.K X.mg (RlV X.K) E μ H (g ws S) Q → r xs H Q
theorem se_callB {id : String} {g : List W → Store → Res W} {x : Str} {p : Pos} {as : List DE} (hc : SC X (.builtin id) g) (hm : X.mg x = none) (hv : bootBuiltins x = some (.builtin id)) (ha : SA X Wx (e :: es) (dArgs as)) (hg : Gl X x := by rfl) (hn : x ≠ "__name__" := by decide) (hdb : (x == ("__debug__" : Str)) = false := by decide)
    (he : starEach (e :: es) X.env = (false, eval e X.env) :: starEach es X.env := by rfl) (hpl : (backTo pos (starEach es X.env)).any (·.1) = false := by rfl) : SE X Wx (.Call (.Name x p) (e :: es) [] pos) (dCall g as) := by
  obtain ⟨r, c, q⟩ := hc.ex
  obtain ⟨t1, p1, q1⟩ := ha.ex
  refine ⟨_, pe_callB c hg hm hv p1 hn hdb he hpl, fun σ H μ ls S Q hL hS h => ?_⟩
  refine q1 σ H μ ls S _ hL hS (Bd.bind (fun w1 S1 v1 H1 μ1 g1 s1 r1 h1 => ?_) h)
  exact q _ v1 H1 μ1 S1 w1 Q s1 r1 h1
theorem se_callTy {id : String} {g : List W → Store → Res W} {x : Str} {p : Pos} {as : List DE} (hc : SC X (.type id) g) (hm : X.mg x = none) (hv : bootBuiltins x = some (.type id)) (ha : SA X Wx (e :: es) (dArgs as)) (hg : Gl X x := by rfl) (hn : x ≠ "__name__" := by decide) (hdb : (x == ("__debug__" : Str)) = false := by decide)
    (he : starEach (e :: es) X.env = (false, eval e X.env) :: starEach es X.env := by rfl) (hpl : (backTo pos (starEach es X.env)).any (·.1) = false := by rfl) : SE X Wx (.Call (.Name x p) (e :: es) [] pos) (dCall g as) := by
  obtain ⟨r, c, q⟩ := hc.ex
  obtain ⟨t1, p1, q1⟩ := ha.ex
  refine ⟨_, pe_callTy c hg hm hv p1 hn hdb he hpl, fun σ H μ ls S Q hL hS h => ?_⟩
  refine q1 σ H μ ls S _ hL hS (Bd.bind (fun w1 S1 v1 H1 μ1 g1 s1 r1 h1 => ?_) h)
  exact q _ v1 H1 μ1 S1 w1 Q s1 r1 h1
/-- a built-in's name as a value (a class for isinstance) -/
theorem se_ty {n : String} {x : Str} (hm : X.mg x = none) (hv : bootBuiltins x = some (.type n)) (hg : Gl X x := by rfl) (hn : x ≠ "__name__" := by decide) (hd : (x == ("__debug__" : Str)) = false := by decide) : SE X Wx (.Name x pos) (dC (.ty n)) :=
  se_c (v := .ty n) (pe_bltn hg hm hv rfl hn hd) fun _ _ => .ty n
/-- a def or class of the module as a value -/
theorem se_adr {A : Addr} {x : Str} (hm : X.mg x = some (.ref A)) (hg : Gl X x := by rfl) (hd : (x == ("__debug__" : Str)) = false := by decide) : SE X Wx (.Name x pos) (dC (.adr A)) :=
  se_c (v := .ref A) (pe_glob hg hm rfl hd) fun _ _ => .adr A
def gLen (ws : List W) (S : Store) : Res W := match ws with
  | [.str x] => if x.length ≤ sizeLine then .ok (.int x.length) S else .bad
  | [w] => match seqW S w with
    | some us => .ok (.int us.length) S
    | none => .bad
  | _ => .bad
theorem sc_len : SC X (.builtin "len") gLen := ⟨_, call_len, fun E xs H μ S ws Q hS rx hb => by
  unfold gLen at hb
  split at hb
  · cases rx with
    | cons r1 r2 =>
      cases r2
      cases r1
      split at hb
      · rename_i c
        exact ⟨_, _, rfl, ⟨c, rfl⟩, hb _ H μ (Gr.refl _ _) hS (.int _)⟩
      · exact False.elim hb
  · cases rx with
    | cons r1 r2 =>
      cases r2
      split at hb
      · rename_i us eu
        obtain ⟨a, ys, rfl, hq, r⟩ := seq_of hS eu r1
        refine ⟨_, us.length, rfl, ?_, hb _ H μ (Gr.refl _ _) hS (.int _)⟩
        rcases hq with hq | hq
        · exact .inl ⟨ys, hq, r.length.symm⟩
        · exact .inr ⟨ys, hq, r.length.symm⟩
      · exact False.elim hb
  · exact False.elim hb⟩
def gAbs (ws : List W) (S : Store) : Res W := match ws with
  | [.int i] => .ok (.int (if i < 0 then -i else i)) S
  | _ => .bad
theorem sc_abs : SC X (.builtin "abs") gAbs := ⟨_, call_abs, fun E xs H μ S ws Q hS rx hb => by
  unfold gAbs at hb
  split at hb
  · cases rx with
    | cons r1 r2 =>
      cases r2
      cases r1
      exact ⟨_, rfl, hb _ H μ (Gr.refl _ _) hS (.int _)⟩
  · exact False.elim hb⟩
def gMax (ws : List W) (S : Store) : Res W := match ws with
  | [.int i, .int j] => .ok (.int (if j > i then j else i)) S
  | _ => .bad
def gMin (ws : List W) (S : Store) : Res W := match ws with
  | [.int i, .int j] => .ok (.int (if j < i then j else i)) S
  | _ => .bad
theorem sc_max (hc : X.calm = true) : SC X (.builtin "max") gMax := ⟨_, call_max2 hc, fun E xs H μ S ws Q hS rx hb => by
  unfold gMax at hb
  split at hb
  · cases rx with
    | cons r1 r2 =>
      cases r2 with
      | cons r2 r3 =>
        cases r3
        cases r1
        cases r2
        exact ⟨_, _, rfl, hb _ H μ (Gr.refl _ _) hS (.int _)⟩
  · exact False.elim hb⟩
theorem sc_min (hc : X.calm = true) : SC X (.builtin "min") gMin := ⟨_, call_min2 hc, fun E xs H μ S ws Q hS rx hb => by
  unfold gMin at hb
  split at hb
  · cases rx with
    | cons r1 r2 =>
      cases r2 with
      | cons r2 r3 =>
        cases r3
        cases r1
        cases r2
        exact ⟨_, _, rfl, hb _ H μ (Gr.refl _ _) hS (.int _)⟩
  · exact False.elim hb⟩
def gInt (ws : List W) (S : Store) : Res W := match ws with
  | [.int i] => .ok (.int i) S
  | [.bl b] => .ok (.int (if b then 1 else 0)) S
  | _ => .bad
theorem sc_int : SC X (.type "int") gInt := ⟨_, call_int1, fun E xs H μ S ws Q hS rx hb => by
  unfold gInt at hb
  split at hb
  · cases rx with
    | cons r1 r2 =>
      cases r2
      cases r1
      exact .inl ⟨_, rfl, hb _ H μ (Gr.refl _ _) hS (.int _)⟩
  · cases rx with
    | cons r1 r2 =>
      cases r2
      cases r1
      exact .inr ⟨_, rfl, hb _ H μ (Gr.refl _ _) hS (.int _)⟩
  · exact False.elim hb⟩
def gList (ws : List W) (S : Store) : Res W := match ws with
  | [w] => match seqW S w with
    | some us => .ok (.loc S.length) (S ++ [.lst us])
    | none => .bad
  | _ => .bad
theorem sc_list : SC X (.type "list") gList := ⟨_, call_list_of, fun E xs H μ S ws Q hS rx hb => by
  unfold gList at hb
  split at hb
  · cases rx with
    | cons r1 r2 =>
      cases r2
      split at hb
      · rename_i us eu
        obtain ⟨a, ys, rfl, hq, r⟩ := seq_of hS eu r1
        refine ⟨_, ys, rfl, hq, fun l hl => ?_⟩
        exact hb (.ref l) _ _ (gr_cell hS hl) (hS.alloc hl ⟨_, upd_same, r.mono (gr_cell hS hl)⟩) (.loc muAdd_same)
      · exact False.elim hb
  · exact False.elim hb⟩
def gTuple (ws : List W) (S : Store) : Res W := match ws with
  | [w] => match seqW S w with
    | some us => .ok (.tup us) S
    | none => .bad
  | _ => .bad
theorem sc_tuple : SC X (.type "tuple") gTuple := ⟨_, Tx.call_tupleD, fun E xs H μ S ws Q hS rx hb => by
  unfold gTuple at hb
  split at hb
  · cases rx with
    | cons r1 r2 =>
      cases r2
      split at hb
      · rename_i us eu
        have key : ∀ {w : W} {v : V}, lstW S w = some us → Vr X.K μ H v w → ∃ p ys, [v] = [V.ref p] ∧ ((SqL X.K H p ys ∧ ∀ l o, H l = none → o.dict = none → Q (.ref l) (upd H l (.frz o (.tup ys)))) ∨ (SqT X.K H p ys ∧ Q (.ref p) H)) := fun el r1 => by
          obtain ⟨a, ys, rfl, hq, r⟩ := lst_of hS el r1
          exact ⟨a, ys, rfl, .inl ⟨hq, fun l o hl ho => hb (.ref l) _ μ (gr_new hl) (hS.new hl) (.tup (.of upd_same ho) (r.mono (gr_new hl)))⟩⟩
        cases r1 with
        | tup h1 h2 => cases eu; exact ⟨_, _, rfl, .inr ⟨h1.t, hb _ H μ (Gr.refl _ _) hS (.tup h1 h2)⟩⟩
        | rol h1 h2 => exact key (w := .rol _) eu (.rol h1 h2)
        | loc h1 => exact key (w := .loc _) eu (.loc h1)
        | non => cases eu
        | bl => cases eu
        | int => cases eu
        | str => cases eu
        | ty => cases eu
        | adr => cases eu
      · exact False.elim hb
  · exact False.elim hb⟩
def intsW : List W → Option (List Int)
  | [] => some []
  | .int i :: r => (intsW r).map (i :: ·)
  | _ => none
theorem ints_of {K : PySem.W.Frag} {μ : Mu} {H : Hp} : ∀ {ws : List W} {vs : List V} {ns : List Int}, VrA K μ H vs ws → intsW ws = some ns → vs = ns.map V.int
  | [], _, ns, h, e => by cases h; cases e; rfl
  | w :: ws, _, ns, h, e => by
    cases h with
    | cons h1 h2 =>
      cases h1 <;> first | (unfold intsW at e; cases e; done) | skip
      rename_i i
      unfold intsW at e
      cases q : intsW ws with
      | none => simp [q] at e
      | some ms =>
        rw [q] at e
        cases e
        rw [ints_of h2 q]
        rfl
def gSum (ws : List W) (S : Store) : Res W := match ws with
  | [w] => match lstW S w with
    | some us => (match intsW us with
      | some ns => .ok (.int ns.sum) S
      | none => .bad)
    | none => .bad
  | _ => .bad
theorem sc_sum (hc : X.calm = true) : SC X (.builtin "sum") gSum := ⟨_, cr_sum hc, fun E xs H μ S ws Q hS rx hb => by
  unfold gSum at hb
  split at hb
  · cases rx with
    | cons r1 r2 =>
      cases r2
      split at hb
      · rename_i us eu
        split at hb
        · rename_i ns en
          obtain ⟨a, ys, rfl, hq, r⟩ := lst_of hS eu r1
          have e := ints_of r en
          subst e
          exact ⟨_, ns, rfl, hq, hb _ H μ (Gr.refl _ _) hS (.int _)⟩
        · exact False.elim hb
      · exact False.elim hb
  · exact False.elim hb⟩
/-! isinstance of a built-in class -/
def tyName : W → Option String
  | .non => some "NoneType"
  | .bl _ => some "bool"
  | .int _ => some "int"
  | .str _ => some "str"
  | .tup _ => some "tuple"
  | .rol _ => some "list"
  | .loc _ => some "list"
  | _ => none
def isiB (t n : String) : Option Bool :=
  if n = "tuple" then some (decide (t = "tuple")) else if n = "str" then some (decide (t = "str")) else if n = "bool" then some (decide (t = "bool")) else if n = "int" then some (decide (t = "int") || decide (t = "bool")) else if n = "list" then some (decide (t = "list")) else none
def gIsi (ws : List W) (S : Store) : Res W := match ws with
  | [w, .ty n] => match tyName w with
    | some t => (match isiB t n with
      | some b => (match w with
        | .loc k => (match S[k]? with
          | some (.lst _) => .ok (.bl b) S
          | _ => .bad)
        | _ => .ok (.bl b) S)
      | none => .bad)
    | none => .bad
  | _ => .bad
theorem isi_kit {t n : String} {b : Bool} (ht : t = "NoneType" ∨ t = "bool" ∨ t = "int" ∨ t = "str" ∨ t = "tuple" ∨ t = "list") (h : isiB t n = some b) : kitB t n = some b := by
  have hn : n = "tuple" ∨ n = "str" ∨ n = "bool" ∨ n = "int" ∨ n = "list" := by
    unfold isiB at h
    split at h
    · exact .inl ‹_›
    · split at h
      · exact .inr (.inl ‹_›)
      · split at h
        · exact .inr (.inr (.inl ‹_›))
        · split at h
          · exact .inr (.inr (.inr (.inl ‹_›)))
          · split at h
            · exact .inr (.inr (.inr (.inr ‹_›)))
            · cases h
  rcases ht with rfl | rfl | rfl | rfl | rfl | rfl <;> rcases hn with rfl | rfl | rfl | rfl | rfl <;> (rw [← h]; decide +kernel)
theorem sc_isi : SC X (.builtin "isinstance") gIsi := ⟨_, call_isi, fun E xs H μ S ws Q hS rx hb => by
  unfold gIsi at hb
  split at hb
  · rename_i w n
    cases rx with
    | cons r1 r2 =>
      cases r2 with
      | cons r2 r3 =>
        cases r3
        cases r2
        split at hb
        · rename_i t et
          split at hb
          · rename_i b eb
            have ht : t = "NoneType" ∨ t = "bool" ∨ t = "int" ∨ t = "str" ∨ t = "tuple" ∨ t = "list" := by
              cases r1 <;> cases et <;> simp
            have hk := kit_ty (K := X.K) (isi_kit ht eb)
            have fin : ∀ {v : V}, TyX X.K H v (.type t) → Q (.bl b) H → rIsi X.K [v, .ty n] H Q := fun ty q => ⟨_, .ty n, .type t, .type n, b, rfl, .ty n, ty, hk, q⟩
            cases r1 with
            | non => cases et; exact fin (.base .non) (hb _ H μ (Gr.refl _ _) hS (.bl _))
            | bl x => cases et; exact fin (.base (.bl x)) (hb _ H μ (Gr.refl _ _) hS (.bl _))
            | int x => cases et; exact fin (.base (.int x)) (hb _ H μ (Gr.refl _ _) hS (.bl _))
            | str x => cases et; exact fin (.base (.str x)) (hb _ H μ (Gr.refl _ _) hS (.bl _))
            | tup a1 a2 =>
              cases et
              refine fin ?_ (hb _ H μ (Gr.refl _ _) hS (.bl _))
              rcases a1 with ⟨o, q, _⟩ | ⟨o, its, m, k1, k2, _⟩
              · exact .fTuple q
              · exact .kTuple k1 k2
            | rol a1 a2 =>
              cases et
              refine fin ?_ (hb _ H μ (Gr.refl _ _) hS (.bl _))
              rcases a1 with ⟨o, q⟩ | ⟨o, its, m, k1, k2, _⟩
              · exact .base (.frz q)
              · exact .kList k1 k2
            | @loc k a h1 =>
              cases et
              dsimp only at hb
              split at hb
              · rename_i us eu
                obtain ⟨a, ys, e1, _, e2, e3⟩ := hS.cellL eu (.loc h1)
                cases e1
                exact fin (.base (.lst e2)) (hb _ H μ (Gr.refl _ _) hS (.bl _))
              · exact False.elim hb
            | ty x => cases et
            | adr x => cases et
          · exact False.elim hb
        · exact False.elim hb
  · exact False.elim hb⟩
end
end Fs
set_option maxHeartbeats 4000000
namespace Fs
open PySem L2

/-! ### statements -/
section
variable {X : Cx} {Wx : WE} {a b c e : Expr} {es : List Expr} {ma mb mc : DE} {pos : Pos} {st : Stmt} {sts : List Stmt}
theorem rs_bd {σ : St} {H : Hp} {μ : Mu} {ls : Lo} {D : Ends} {k : W → Store → RS} {Q : VK} (hL : LR X.K μ H σ ls)
    (f : ∀ w S v H1 μ1, Gr μ μ1 H H1 → Sim X.K μ1 S H1 → Vr X.K μ1 H1 v w → BdS X Wx μ1 H1 (k w S) D → Q v H1) : ∀ {r : Res W}, BdS X Wx μ H (rsOf ls r k) D → BdV X Wx σ μ H r Q
  | .ok w S, h => fun v H1 μ1 g s r => f w S v H1 μ1 g s r (BdS.mono g h)
  | .exc x S, h => fun c d H1 μ1 g s r => h σ c d H1 μ1 g s (hL.mono g) r
  | .bad, h => h
theorem rsB_bd {σ : St} {H : Hp} {μ : Mu} {ls : Lo} {D : Ends} {k : Bool → Store → RS} {Q : Bool → Hp → Prop} (hL : LR X.K μ H σ ls)
    (f : ∀ w S H1 μ1, Gr μ μ1 H H1 → Sim X.K μ1 S H1 → BdS X Wx μ1 H1 (k w S) D → Q w H1) : ∀ {r : Res Bool}, BdS X Wx μ H (rsOfB ls r k) D → BdB X Wx σ μ H r Q
  | .ok w S, h => fun v H1 μ1 g s r => by
    cases r
    exact f w S H1 μ1 g s (BdS.mono g h)
  | .exc x S, h => fun c d H1 μ1 g s r => h σ c d H1 μ1 g s (hL.mono g) r
  | .bad, h => h
theorem ss_nil : SSs X Wx [] dNx := ⟨_, pss_nil, fun σ H μ ls S D hL hS h => h σ H μ (Gr.refl _ _) hS hL⟩
theorem ss_one {m : DS} (h1 : SS X Wx st m) : SSs X Wx [st] m := by
  obtain ⟨t, p, q⟩ := h1.ex
  exact ⟨t, pss_one p, q⟩
theorem ss_cons {m n : DS} (h1 : SS X Wx st m) (h2 : SSs X Wx sts n) : SSs X Wx (st :: sts) (dSeq m n) := by
  obtain ⟨t1, p1, q1⟩ := h1.ex
  obtain ⟨t2, p2, q2⟩ := h2.ex
  refine ⟨_, pss_cons p1 p2, fun σ H μ ls S D hL hS h => ?_⟩
  refine q1 σ H μ ls S _ hL hS ?_
  unfold dSeq at h
  cases e : m ls S with
  | nx ls1 S1 =>
    rw [e] at h
    exact fun σ' H' μ' g s l => q2 σ' H' μ' ls1 S1 D l s (BdS.mono g h)
  | rt w S1 => rw [e] at h; exact h
  | bk ls1 S1 => rw [e] at h; exact h
  | ct ls1 S1 => rw [e] at h; exact h
  | ex x ls1 S1 => rw [e] at h; exact h
  | bad => rw [e] at h; exact h
theorem ss_set {i : Nat} {x : Str} {p : Pos} (hN : X.N.Nodup) (ha : SE X Wx a ma) (hi : X.N[i]? = some x := by rfl) (hx : Loc X.env.scope x := by first | exact Or.inl rfl | exact Or.inr rfl) (hs : swapsWith a (some (.Name x p)) pos.line X.env = pure false := by rfl) (hf : X.fn x = true ∨ X.env.scope.names.lookup x = some .local := by first | exact .inl rfl | exact .inr rfl | assumption) :
    SS X Wx (.Assign [.Name x p] a pos) (dSet i ma) := by
  obtain ⟨t1, p1, q1⟩ := ha.ex
  refine ⟨_, ps_set hN hi hx p1 hs hf, fun σ H μ ls S D hL hS h => ?_⟩
  refine q1 σ H μ ls S _ hL hS (rs_bd hL (fun w S1 v H1 μ1 g s r h1 => ?_) h)
  exact h1 _ H1 μ1 (Gr.refl _ _) s ((hL.mono g).set r)
theorem ss_expr (ha : SE X Wx a ma) (hs : swapsWith a none pos.line X.env = pure false := by rfl) : SS X Wx (.Expr a pos) (dExpr ma) := by
  obtain ⟨t1, p1, q1⟩ := ha.ex
  refine ⟨_, ps_expr p1 hs, fun σ H μ ls S D hL hS h => ?_⟩
  refine q1 σ H μ ls S _ hL hS (rs_bd hL (fun w S1 v H1 μ1 g s r h1 => ?_) h)
  exact h1 σ H1 μ1 (Gr.refl _ _) s (hL.mono g)
theorem ss_ret (ha : SE X Wx a ma) : SS X Wx (.Return (some a) pos) (dRet ma) := by
  obtain ⟨t1, p1, q1⟩ := ha.ex
  refine ⟨_, ps_ret p1, fun σ H μ ls S D hL hS h => ?_⟩
  refine q1 σ H μ ls S _ hL hS (rs_bd hL (fun w S1 v H1 μ1 g s r h1 => ?_) h)
  exact h1 v H1 μ1 (Gr.refl _ _) s r
theorem ss_retN : SS X Wx (.Return none pos) dRetN := ⟨_, ps_retN, fun σ H μ ls S D hL hS h => h .non H μ (Gr.refl _ _) hS .non⟩
theorem ss_pass : SS X Wx (.Pass pos) dNx := ⟨_, ps_pass, fun σ H μ ls S D hL hS h => h σ H μ (Gr.refl _ _) hS hL⟩
theorem ss_bk : SS X Wx (.Break pos) dBk := ⟨_, ps_break, fun σ H μ ls S D hL hS h => h σ H μ (Gr.refl _ _) hS hL⟩
theorem ss_ct : SS X Wx (.Continue pos) dCt := ⟨_, ps_continue, fun σ H μ ls S D hL hS h => h σ H μ (Gr.refl _ _) hS hL⟩
theorem ss_if {m : DT} {m1 m2 : DS} {s1 s2 : List Stmt} (hc : ST X Wx c m) (h1 : SSs X Wx s1 m1) (h2 : SSs X Wx s2 m2) : SS X Wx (.If c s1 s2 pos) (dIf m m1 m2) := by
  obtain ⟨t0, p0, q0⟩ := hc.ex
  obtain ⟨t1, p1, q1⟩ := h1.ex
  obtain ⟨t2, p2, q2⟩ := h2.ex
  refine ⟨_, ps_if p0 p1 p2, fun σ H μ ls S D hL hS h => ?_⟩
  refine q0 σ H μ ls S _ hL hS (rsB_bd hL (fun w S1 H1 μ1 g s h1 => ?_) h)
  cases w with
  | true => exact iteT (q1 σ H1 μ1 ls S1 D (hL.mono g) s h1)
  | false => exact iteF (q2 σ H1 μ1 ls S1 D (hL.mono g) s h1)
/-! xs[i] = e -/
def dSetIx (a b c : DE) : DS := fun ls S => rsOf ls (c ls S) fun w S1 => rsOf ls (a ls S1) fun x S2 => rsOf ls (b ls S2) fun y S3 => match x, y with
  | .loc n, .int i => match S3[n]? with
    | some (.lst ws) => (match ixN ws.length i with
      | some j => .nx ls (S3.set n (.lst (ws.set j w)))
      | none => .bad)
    | _ => .bad
  | _, _ => .bad
theorem ss_setIx {p : Pos} (ha : SE X Wx a ma) (hb : SE X Wx b mb) (hc : SE X Wx c mc)
    (hg : ∀ {to ti : TE}, PE X a to → PE X b ti → PG X (.Subscript a b p) (L2.gSub to ti rSetL) := by exact fun h1 h2 => pg_sub h1 h2 set_list)
    (hs : swapsWithSole [.Subscript a b p] c pos.line X.env = pure false := by rfl) (hw : swappedStores [.Subscript a b p] c X.env = pure none := by rfl)
    (h1 : (assignEach [.Subscript a b p] X.env).map (·.2) = [assign (.Subscript a b p) X.env] := by rfl) : SS X Wx (.Assign [.Subscript a b p] c pos) (dSetIx ma mb mc) := by
  obtain ⟨t1, p1, q1⟩ := ha.ex
  obtain ⟨t2, p2, q2⟩ := hb.ex
  obtain ⟨t3, p3, q3⟩ := hc.ex
  refine ⟨_, ps_asg p3 (hg p1 p2) hs hw h1, fun σ H μ ls S D hL hS h => ?_⟩
  refine q3 σ H μ ls S _ hL hS (rs_bd hL (fun w S1 v H1 μ1 g1 s1 r1 h1 => ?_) h)
  have hL1 := hL.mono g1
  refine q1 σ H1 μ1 ls S1 _ hL1 s1 (rs_bd hL1 (fun x S2 v2 H2 μ2 g2 s2 r2 h2 => ?_) h1)
  have hL2 := hL1.mono g2
  refine q2 σ H2 μ2 ls S2 _ hL2 s2 (rs_bd hL2 (fun y S3 v3 H3 μ3 g3 s3 r3 h3 => ?_) h2)
  split at h3
  · rename_i n i
    split at h3
    · rename_i ws ew
      split at h3
      · rename_i j ej
        obtain ⟨p, xs, rfl, hm, e2, e3⟩ := s3.cellL ew (r2.mono g3)
        cases r3
        refine ⟨p, xs, i, j, rfl, rfl, e2, by rw [e3.length]; exact ej, ?_⟩
        have g := gr_write (u := HO.lst (xs.set j v)) s3 hm
        exact h3 σ _ μ3 g (s3.write hm ⟨_, upd_same, ((e3.mono g).set (((r1.mono g2).mono g3).mono g) j)⟩) ((hL2.mono g3).mono g)
      · exact False.elim h3
    · exact False.elim h3
  · exact False.elim h3
/-! xs.append(e) -/
def gAppend (x w : W) (S : Store) : Res W := match x with
  | .loc n => match S[n]? with
    | some (.lst ws) => if ws.length < sizeLine then .ok .non (S.set n (.lst (ws ++ [w]))) else .bad
    | _ => .bad
  | _ => .bad
def dAppend (a b : DE) : DE := fun ls S => (a ls S).bind fun x S1 => match lstW S1 x with
  | none => .bad
  | some _ => (b ls S1).bind fun w S2 => gAppend x w S2
theorem se_append {apos cpos : Pos} (ha : SE X Wx a ma) (hb : SA X Wx [b] (dArgs [mb]))
    (mk : ∀ {to : TE} {t : TA}, PE X a to → PA X [b] t → PE X (.Call (.Attribute a "append" apos) [b] [] cpos) (tBM X.K "list" rAppend to t) := by exact fun h1 h2 => pe_bm PySem.F.plainAttrs_list PySem.F.slot_list_append PySem.F.type_list_append mt_append h1 h2) :
    SE X Wx (.Call (.Attribute a "append" apos) [b] [] cpos) (dAppend ma mb) := by
  obtain ⟨t1, p1, q1⟩ := ha.ex
  obtain ⟨t2, p2, q2⟩ := hb.ex
  refine ⟨_, mk p1 p2, fun σ H μ ls S Q hL hS h => ?_⟩
  refine q1 σ H μ ls S _ hL hS (Bd.bind (fun x S1 v1 H1 μ1 g1 s1 r1 h1 => ?_) h)
  split at h1
  · exact False.elim h1
  · rename_i us eu
    obtain ⟨p0, xs0, e0, hq, _⟩ := lst_of s1 eu r1
    refine ⟨by rw [e0]; exact .inl ⟨rfl, xs0, hq⟩, ?_⟩
    have key : ∀ {r : Res W}, BdV X Wx σ μ1 H1 (r.bind fun w S2 => gAppend x w S2) Q → BdA X Wx σ μ1 H1 (r.bind fun w S1 => (Res.ok [] S1).bind fun ws S2 => Res.ok (w :: ws) S2) (fun vs H2 => rAppend v1 vs H2 Q) := fun {r} hr => by
      cases r with
      | bad => exact hr
      | exc e S => exact hr
      | ok w S2 =>
        intro vs H2 μ2 g2 s2 r2
        have hr' : BdV X Wx σ μ2 H2 (gAppend x w S2) Q := Bd.mono g2 hr
        cases r2 with
        | @cons v _ _ _ rv rn =>
          cases rn
          unfold gAppend at hr'
          split at hr'
          · rename_i n
            split at hr'
            · rename_i ws ew
              split at hr'
              · rename_i hl
                obtain ⟨p, xs, e1, hm, e2, e3⟩ := s2.cellL ew (r1.mono g2)
                refine ⟨p, xs, _, e1, rfl, e2, by rw [e3.length]; exact hl, ?_⟩
                have g := gr_write (u := HO.lst (xs ++ [v])) s2 hm
                exact hr' .non _ μ2 g (s2.write hm ⟨_, upd_same, (e3.mono g).append (.cons (rv.mono g) .nil)⟩) .non
              · exact False.elim hr'
            · exact False.elim hr'
          · exact False.elim hr'
    exact q2 σ H1 μ1 ls S1 _ (hL.mono g1) s1 (key h1)

/-! ### what a loop walks -/
structure Src where
  items : List W
  stay : Store → Prop
abbrev DI := Lo → Store → Res Src
def Jok (K : PySem.W.Frag) (μ1 : Mu) (H1 : Hp) (J : It) (src : Src) : Prop := ∀ i H μ S, Gr μ1 μ H1 H → Sim K μ S H → src.stay S →
  (src.items.length ≤ i → J.stop i H) ∧ ∀ w, src.items[i]? = some w → J.go i H ∧ ∀ x H', J.yld i H x H' → ∃ μ', Gr μ μ' H H' ∧ Sim K μ' S H' ∧ Vr K μ' H' x w
abbrev RlI (K : PySem.W.Frag) : Mu → Hp → It → Src → Prop := fun μ H J s => Jok K μ H J s
structure SI (X : Cx) (Wx : WE) (tg iter : Expr) (m : DI) : Prop where
  ex : ∃ wi, PI X tg iter wi ∧ ∀ σ H μ ls S (R : It → Hp → Prop), LR X.K μ H σ ls → Sim X.K μ S H → Bd X.K X.mg (RlI X.K) (fun c d H' => Wx c d σ H') μ H (m ls S) R → wi σ H R
def stayOf (w : W) (ws : List W) : Store → Prop := match w with
  | .loc n => fun S => S[n]? = some (.lst ws)
  | _ => fun _ => True
def dSeqI (a : DE) : DI := fun ls S => (a ls S).bind fun w S1 => match seqW S1 w with
  | some ws => .ok ⟨ws, stayOf w ws⟩ S1
  | none => .bad
theorem si_seq {tg : Expr} (ha : SE X Wx a ma) : SI X Wx tg a (dSeqI ma) := by
  obtain ⟨t1, p1, q1⟩ := ha.ex
  refine ⟨fun σ H R => iList X.K t1 σ H R ∨ iTup X.K t1 σ H R, ⟨fun pins s σ H R I h => ?_⟩, fun σ H μ ls S R hL hS h => ?_⟩
  · rcases h with h | h
    · exact (pi_list p1).run pins s σ H R I h
    · exact (pi_tup p1).run pins s σ H R I h
  · have hm : ∀ (P : W → Prop), (∀ w S1, ma ls S = .ok w S1 → P w) → P .non ∨ True := fun _ _ => .inr trivial
    unfold dSeqI at h
    cases e : ma ls S with
    | bad => rw [e] at h; exact False.elim h
    | exc x S1 =>
      rw [e] at h
      exact .inl (q1 σ H μ ls S _ hL hS (by rw [e]; exact h))
    | ok w S1 =>
      rw [e] at h
      dsimp only [Res.bind] at h
      split at h
      · rename_i ws ew
        by_cases ht : ∃ us, w = .tup us
        · obtain ⟨us, rfl⟩ := ht
          cases ew
          refine .inr (q1 σ H μ ls S _ hL hS ?_)
          rw [e]
          intro v H1 μ1 g1 s1 r1
          cases r1 with
          | @tup p xs _ a1 a2 =>
          refine ⟨p, rfl, ⟨xs, a1.t⟩, ?_⟩
          refine h _ H1 μ1 g1 s1 fun i H2 μ2 S2 g2 s2 _ => ⟨fun hi => ⟨xs, g2.sqt a1.t, by rw [a2.length]; exact hi⟩, fun w2 e2 => ?_⟩
          obtain ⟨v2, e3, r3⟩ := (a2.mono g2).get e2
          refine ⟨⟨xs, v2, g2.sqt a1.t, e3⟩, fun x H3 y => ?_⟩
          obtain ⟨rfl, y⟩ := y
          have := y xs (g2.sqt a1.t)
          rw [e3] at this
          cases this
          exact ⟨μ2, Gr.refl _ _, s2, r3⟩
        · have ew' : lstW S1 w = some ws := by
            cases w <;> first | exact ew | exact absurd ⟨_, rfl⟩ ht
          refine .inl (q1 σ H μ ls S _ hL hS ?_)
          rw [e]
          intro v H1 μ1 g1 s1 r1
          obtain ⟨p, xs, rfl, a1, a2⟩ := lst_of s1 ew' r1
          refine ⟨p, rfl, ⟨xs, a1⟩, ?_⟩
          refine h _ H1 μ1 g1 s1 fun i H2 μ2 S2 g2 s2 st => ?_
          have : ∃ ys, SqL X.K H2 p ys ∧ VrA X.K μ2 H2 ys ws := by
            cases r1 with
            | rol b1 b2 =>
              cases ew'
              exact ⟨_, (g2.rol b1).seq, b2.mono g2⟩
            | @loc n _ b1 =>
              have st' : S2[n]? = some (.lst ws) := st
              obtain ⟨p', ys, e1, _, e2, e3⟩ := s2.cellL st' (.loc (g2.mu _ _ b1))
              cases e1
              exact ⟨ys, .of e2, e3⟩
            | _ => exact absurd ew' (by simp [lstW])
          obtain ⟨ys, b1, b2⟩ := this
          refine ⟨fun hi => ⟨ys, b1, by rw [b2.length]; exact hi⟩, fun w2 e2 => ?_⟩
          obtain ⟨v2, e3, r3⟩ := b2.get e2
          refine ⟨⟨ys, v2, b1, e3⟩, fun x H3 y => ?_⟩
          obtain ⟨rfl, y⟩ := y
          have := y ys b1
          rw [e3] at this
          cases this
          exact ⟨μ2, Gr.refl _ _, s2, r3⟩
      · exact False.elim h
def rngW (lo : Int) (n : Nat) : List W := (List.range n).map fun (i : Nat) => W.int (lo + i)
theorem rngW_get {lo : Int} {n i : Nat} {w : W} (h : (rngW lo n)[i]? = some w) : i < n ∧ w = .int (lo + i) := by
  unfold rngW at h
  rw [List.getElem?_map] at h
  by_cases hi : i < n
  · rw [List.getElem?_range hi] at h
    cases h
    exact ⟨hi, rfl⟩
  · rw [List.getElem?_eq_none (by simpa using hi)] at h
    cases h
theorem rngW_len {lo : Int} {n : Nat} : (rngW lo n).length = n := by unfold rngW; simp
theorem jok_rng {K : PySem.W.Frag} {μ : Mu} {H : Hp} {lo : Int} {n : Nat} {st : Store → Prop} : Jok K μ H (Itr lo n) ⟨rngW lo n, st⟩ := fun i H2 μ2 S2 g2 s2 _ => by
  refine ⟨fun hi => ?_, fun w e => ?_⟩
  · have hi' : (rngW lo n).length ≤ i := hi
    rw [rngW_len] at hi'
    exact hi'
  · obtain ⟨h1, rfl⟩ := rngW_get e
    refine ⟨h1, fun x H3 y => ?_⟩
    obtain ⟨rfl, rfl⟩ := y
    exact ⟨μ2, Gr.refl _ _, s2, .int _⟩
def dRng1 (a : DE) : DI := fun ls S => (a ls S).bind fun w S1 => match w with
  | .int j => if -(2 ^ 62) ≤ j ∧ j < 2 ^ 62 then .ok ⟨rngW 0 j.toNat, fun _ => True⟩ S1 else .bad
  | _ => .bad
def dRng2 (a b : DE) : DI := fun ls S => (a ls S).bind fun w S1 => (b ls S1).bind fun w2 S2 => match w, w2 with
  | .int i, .int j => if -(2 ^ 62) ≤ i ∧ i < 2 ^ 62 ∧ -(2 ^ 62) ≤ j ∧ j < 2 ^ 62 then .ok ⟨rngW i (j - i).toNat, fun _ => True⟩ S2 else .bad
  | _, _ => .bad
theorem si_rng1 {tg : Expr} {p : Pos} (hm : X.mg "range" = none) (ha : SE X Wx a ma) (hg : Gl X "range" := by rfl) (hs : starEach [a] X.env = [(false, eval a X.env)] := by rfl) (hs' : starEach [a] X.env = (false, eval a X.env) :: starEach [] X.env := by rfl) : SI X Wx tg (.Call (.Name "range" p) [a] [] pos) (dRng1 ma) := by
  obtain ⟨t1, p1, q1⟩ := ha.ex
  refine ⟨_, pi_range1 hg hm (pa_cons p1 pa_nil hs') hs, fun σ H μ ls S R hL hS h => ?_⟩
  refine q1 σ H μ ls S _ hL hS (Bd.bind (fun w S1 v H1 μ1 g1 s1 r1 h1 => ?_) h)
  cases r1 with
  | int j =>
    dsimp only at h1
    split at h1
    · rename_i c
      exact ⟨j, rfl, c.1, c.2, h1 _ H1 μ1 (Gr.refl _ _) s1 jok_rng⟩
    · exact False.elim h1
  | _ => exact False.elim h1
theorem si_rng2 {tg : Expr} {p : Pos} (hm : X.mg "range" = none) (ha : SE X Wx a ma) (hb : SE X Wx b mb) (hg : Gl X "range" := by rfl) (hs : starEach [a, b] X.env = [(false, eval a X.env), (false, eval b X.env)] := by rfl) (hs2 : starEach [b] X.env = [(false, eval b X.env)] := by rfl)
    (hs' : starEach [a, b] X.env = (false, eval a X.env) :: starEach [b] X.env := by rfl) (hs2' : starEach [b] X.env = (false, eval b X.env) :: starEach [] X.env := by rfl) : SI X Wx tg (.Call (.Name "range" p) [a, b] [] pos) (dRng2 ma mb) := by
  obtain ⟨t1, p1, q1⟩ := ha.ex
  obtain ⟨t2, p2, q2⟩ := hb.ex
  refine ⟨_, pi_range2 hg hm (pa_cons p1 (pa_cons p2 pa_nil hs2') hs') hs hs2, fun σ H μ ls S R hL hS h => ?_⟩
  refine q1 σ H μ ls S _ hL hS (Bd.bind (fun w S1 v H1 μ1 g1 s1 r1 h1 => ?_) h)
  refine q2 σ H1 μ1 ls S1 _ (hL.mono g1) s1 (Bd.bind (fun w2 S2 v2 H2 μ2 g2 s2 r2 h2 => ?_) h1)
  cases r1 with
  | int i =>
    cases r2 with
    | int j =>
      dsimp only at h2
      split at h2
      · rename_i c
        exact ⟨i, j, rfl, c, h2 _ H2 μ2 (Gr.refl _ _) s2 jok_rng⟩
      · exact False.elim h2
    | _ => exact False.elim h2
  | _ => exact False.elim h2

/-! ### targets -/
abbrev DG := W → Lo → Option Lo
def dgName (i : Nat) : DG := fun w ls => some (ls.set i (some w))
def setAll : List Nat → List W → Lo → Lo
  | i :: is, w :: ws, ls => setAll is ws (ls.set i (some w))
  | _, _, ls => ls
def dgTup (is : List Nat) : DG := fun w ls => match w with
  | .tup ws => if ws.length = is.length then some (setAll is ws ls) else none
  | _ => none
structure SG (X : Cx) (tg : Expr) (sl : List Nat) (g : DG) : Prop where
  ex : ∃ t, PG X tg t ∧ ∀ σ H μ ls v w ls' (Q : St → Hp → Prop), LR X.K μ H σ ls → Vr X.K μ H v w → g w ls = some ls' →
    (∀ σ', LR X.K μ H σ' ls' → (∀ vs, (∀ j ∈ sl, j ∈ vs) → wipe σ' vs = wipe σ vs) → Q σ' H) → t v σ H Q
theorem wipe_set {σ : St} {i : Nat} {x : Option V} : ∀ {vs : List Nat}, i ∈ vs → wipe (σ.set i x) vs = wipe σ vs
  | [], h => by cases h
  | v :: vs, h => by
    show (wipe (σ.set i x) vs).set v none = (wipe σ vs).set v none
    by_cases hi : i ∈ vs
    · rw [wipe_set hi]
    · have e : i = v := by
        rcases List.mem_cons.mp h with h | h
        · exact h
        · exact absurd h hi
      subst e
      have key : ∀ {us : List Nat}, i ∉ us → wipe (σ.set i x) us = (wipe σ us).set i x := fun {us} => by
        induction us with
        | nil => intro _; rfl
        | cons u us ih =>
          intro hu
          show (wipe (σ.set i x) us).set u none = ((wipe σ us).set u none).set i x
          have hne : i ≠ u := fun e => hu (by rw [e]; exact List.mem_cons_self)
          rw [ih fun z => hu (List.mem_cons_of_mem _ z), List.set_comm _ _ hne]
      rw [key hi, List.set_set]
theorem sg_name {i : Nat} {x : Str} (hN : X.N.Nodup) (hi : X.N[i]? = some x := by rfl) (hx : Loc X.env.scope x := by first | exact Or.inl rfl | exact Or.inr rfl) (hf : X.fn x = true ∨ X.env.scope.names.lookup x = some .local := by first | exact .inl rfl | exact .inr rfl | assumption) : SG X (.Name x pos) [i] (dgName i) :=
  ⟨_, pg_name hN hi hx hf, fun σ H μ ls v w ls' Q hL r e q => by
    cases e
    exact q _ (hL.set r) fun vs h => wipe_set (h i (List.mem_singleton_self i))⟩

/-! ### for -/
open Classical in
noncomputable def dLoop (st : Store → Prop) (g : DG) (m : DS) : List W → Lo → Store → RS
  | [], ls, S => if st S then .nx ls S else .bad
  | w :: ws, ls, S => if st S then (match g w ls with
    | some ls0 => (match m ls0 S with
      | .nx ls1 S1 => dLoop st g m ws ls1 S1
      | .ct ls1 S1 => dLoop st g m ws ls1 S1
      | .bk ls1 S1 => .nx ls1 S1
      | r => r)
    | none => .bad) else .bad
def rsOfI (ls : Lo) (r : Res Src) (k : Src → Store → RS) : RS := match r with
  | .ok w S => k w S
  | .exc e S => .ex e ls S
  | .bad => .bad
noncomputable def dFor (it : DI) (g : DG) (m : DS) : DS := fun ls S => rsOfI ls (it ls S) fun src S1 => dLoop src.stay g m src.items ls S1
theorem ss_for {tg iter : Expr} {body : List Stmt} {sl : List Nat} {it : DI} {g : DG} {m : DS} (hp : PassesOwn (model X.prog X.w) X.A X.env X.xe) (hc : X.calm = true) (hi : SI X Wx tg iter it) (hg : SG X tg sl g) (hb : SSs X Wx body m)
    (hs : ∀ x, foldedSetIterable iter X.env x = pure x := by intro _; rfl) : SS X Wx (.For tg iter body [] pos) (dFor it g m) := by
  obtain ⟨wi, p1, q1⟩ := hi.ex
  obtain ⟨t2, p2, q2⟩ := hg.ex
  obtain ⟨t3, p3, q3⟩ := hb.ex
  refine ⟨_, ps_for hp hc p1 p2 p3 hs, fun σ H μ ls S D hL hS h => ?_⟩
  refine q1 σ H μ ls S _ hL hS ?_
  unfold dFor at h
  cases e : it ls S with
  | bad => rw [e] at h; exact h
  | exc x S1 =>
    rw [e] at h
    exact fun c d H1 μ1 g1 s1 r1 => h σ c d H1 μ1 g1 s1 (hL.mono g1) r1
  | ok src S1 =>
    rw [e] at h
    intro J H1 μ1 g1 s1 jk
    have h1 : BdS X Wx μ1 H1 (dLoop src.stay g m src.items ls S1) D := BdS.mono g1 h
    refine ⟨fun i k σ' H' => k = src.items.length - i ∧ i ≤ src.items.length ∧ ∃ μ' ls' S', Gr μ1 μ' H1 H' ∧ Sim X.K μ' S' H' ∧ LR X.K μ' H' σ' ls' ∧ BdS X Wx μ' H' (dLoop src.stay g m (src.items.drop i) ls' S') D,
      ⟨src.items.length, by simp, Nat.zero_le _, μ1, ls, S1, Gr.refl _ _, s1, hL.mono g1, by simpa using h1⟩, ?_⟩
    rintro i k σ' H' ⟨rfl, hle, μ', ls', S', g2, s2, l2, b2⟩
    by_cases hlt : i < src.items.length
    · rw [List.drop_eq_getElem_cons hlt] at b2
      unfold dLoop at b2
      split at b2
      · rename_i hst
        split at b2
        · rename_i ls0 e0
          obtain ⟨_, jj⟩ := jk i H' μ' S' g2 s2 hst
          obtain ⟨jgo, jy⟩ := jj _ (List.getElem?_eq_getElem hlt)
          refine .inr ⟨jgo, fun σ3 H3 => ∃ μ3 ls3 S3, Gr μ1 μ3 H1 H3 ∧ Sim X.K μ3 S3 H3 ∧ LR X.K μ3 H3 σ3 ls3 ∧ BdS X Wx μ3 H3 (dLoop src.stay g m (src.items.drop (i + 1)) ls3 S3) D, fun σ3 H3 n3 => ⟨_, by omega, rfl, hlt, n3⟩, fun x H3 y => ?_⟩
          obtain ⟨μ3, g3, s3, r3⟩ := jy x H3 y
          refine q2 σ' H3 μ3 ls' x _ ls0 _ (l2.mono g3) r3 e0 fun σ4 l4 _ => ?_
          refine q3 σ4 H3 μ3 ls0 S' _ l4 s3 ?_
          have b3 := BdS.mono g3 b2
          have g13 := g2.trans g3
          cases em : m ls0 S' with
          | nx lsa Sa =>
            rw [em] at b3
            exact fun σ5 H5 μ5 g5 s5 l5 => ⟨μ5, lsa, Sa, g13.trans g5, s5, l5, BdS.mono g5 b3⟩
          | ct lsa Sa =>
            rw [em] at b3
            exact fun σ5 H5 μ5 g5 s5 l5 => ⟨μ5, lsa, Sa, g13.trans g5, s5, l5, BdS.mono g5 b3⟩
          | bk lsa Sa => rw [em] at b3; exact b3
          | rt w Sa => rw [em] at b3; exact b3
          | ex w lsa Sa => rw [em] at b3; exact b3
          | bad => rw [em] at b3; exact b3
        · exact False.elim b2
      · exact False.elim b2
    · rw [List.drop_eq_nil_of_le (by omega)] at b2
      unfold dLoop at b2
      split at b2
      · rename_i hst
        obtain ⟨jj, _⟩ := jk i H' μ' S' g2 s2 hst
        exact .inl ⟨jj (by omega), b2 σ' H' μ' (Gr.refl _ _) s2 l2⟩
      · exact False.elim b2
end
end Fs
set_option maxHeartbeats 4000000
namespace Fs
open PySem L2

/-- no exception is wanted -/
abbrev Wn : WE := fun _ _ _ _ => False

/-! ### readings that hang on the denotation alone -/
def cE (K : PySem.W.Frag) (mg : Str → Option Value) (Wx : WE) (m : DE) : TE := fun σ H Q => ∃ μ ls S, LR K μ H σ ls ∧ Sim K μ S H ∧ Bd K mg (RlV K) (fun c d H' => Wx c d σ H') μ H (m ls S) Q
def cT (K : PySem.W.Frag) (mg : Str → Option Value) (Wx : WE) (m : DT) : TT := fun σ H Q => ∃ μ ls S, LR K μ H σ ls ∧ Sim K μ S H ∧ Bd K mg RlB (fun c d H' => Wx c d σ H') μ H (m ls S) Q
def cG (K : PySem.W.Frag) (sl : List Nat) (g : DG) : TG := fun v σ H Q => ∃ μ ls w ls', LR K μ H σ ls ∧ Vr K μ H v w ∧ g w ls = some ls' ∧ ∀ σ', LR K μ H σ' ls' → (∀ vs, (∀ j ∈ sl, j ∈ vs) → wipe σ' vs = wipe σ vs) → Q σ' H
section
variable {X : Cx} {Wx : WE} {a b c e : Expr} {es : List Expr} {ma mb mc : DE} {pos : Pos} {st : Stmt} {sts : List Stmt}
theorem SE.canon (h : SE X Wx e ma) : PE X e (cE X.K X.mg Wx ma) := by
  obtain ⟨t, p, q⟩ := h.ex
  exact ⟨fun pins s σ H Q I ⟨μ, ls, S, h1, h2, h3⟩ => p.run pins s σ H Q I (q σ H μ ls S Q h1 h2 h3)⟩
theorem SG.canon {sl : List Nat} {g : DG} (h : SG X e sl g) : PG X e (cG X.K sl g) := by
  obtain ⟨t, p, q⟩ := h.ex
  exact ⟨fun pins s σ H v u Q I r ⟨μ, ls, w, ls', h1, h2, h3, h4⟩ => p.run pins s σ H v u Q I r (q σ H μ ls v w ls' Q h1 h2 h3 h4)⟩
structure STs (X : Cx) (Wx : WE) (es : List Expr) (m : DT) : Prop where
  ex : ∃ t, PTs X es t ∧ ∀ σ H μ ls S Q, LR X.K μ H σ ls → Sim X.K μ S H → BdB X Wx σ μ H (m ls S) Q → t σ H Q
def dYes : DT := fun _ S => .ok true S
theorem sts_nil : STs X Wx [] dYes := ⟨_, pts_nil, fun σ H μ ls S Q hL hS h => h true H μ (Gr.refl _ _) hS rfl⟩
theorem sts_one {m : DT} (h : ST X Wx e m) : STs X Wx [e] m := by
  obtain ⟨t, p, q⟩ := h.ex
  exact ⟨t, pts_one p, q⟩
theorem STs.canon {m : DT} (h : STs X Wx es m) : PTs X es (cT X.K X.mg Wx m) := by
  obtain ⟨t, p, q⟩ := h.ex
  exact ⟨fun pins s σ H Q I ⟨μ, ls, S, h1, h2, h3⟩ => p.run pins s σ H Q I (q σ H μ ls S Q h1 h2 h3)⟩
end

/-! ### list comprehensions -/
def wipeW (ls : Lo) : List Nat → Lo
  | [] => ls
  | v :: vs => (wipeW ls vs).set v none
theorem LR.wipe {K : PySem.W.Frag} {μ : Mu} {H : Hp} {σ : St} {ls : Lo} (h : LR K μ H σ ls) : ∀ vs : List Nat, LR K μ H (wipe σ vs) (wipeW ls vs)
  | [] => h
  | v :: vs => by
    have ih := h.wipe vs
    refine ⟨by show ((L2.wipe σ vs).set v none).length = ((wipeW ls vs).set v none).length; rw [List.length_set, List.length_set, ih.len], fun i w e => ?_⟩
    have e' : ((wipeW ls vs).set v none)[i]? = some (some w) := e
    show ∃ x, ((L2.wipe σ vs).set v none)[i]? = some (some x) ∧ _
    by_cases hi : v = i
    · subst hi
      by_cases hl : v < (wipeW ls vs).length
      · rw [List.getElem?_set_self hl] at e'; cases e'
      · rw [List.getElem?_eq_none (by rw [List.length_set]; omega)] at e'; cases e'
    · rw [List.getElem?_set_ne hi] at e' ⊢
      exact ih.at_ i w e'
theorem wipe_wipe (σ : St) : ∀ (vs us : List Nat), (∀ j ∈ us, j ∈ vs) → wipe (wipe σ vs) us = wipe σ vs
  | vs, [], _ => rfl
  | vs, u :: us, h => by
    show (wipe (wipe σ vs) us).set u none = wipe σ vs
    rw [wipe_wipe σ vs us fun j hj => h j (List.mem_cons_of_mem _ hj)]
    have key : ∀ {ws : List Nat}, u ∈ ws → (wipe σ ws).set u none = wipe σ ws := fun {ws} => by
      induction ws with
      | nil => intro h; cases h
      | cons w ws ih =>
        intro hu
        show ((wipe σ ws).set w none).set u none = (wipe σ ws).set w none
        by_cases e : w = u
        · subst e; rw [List.set_set]
        · have hu' : u ∈ ws := by
            rcases List.mem_cons.mp hu with q | q
            · exact absurd q.symm e
            · exact q
          rw [List.set_comm _ _ e, ih hu']
    exact key (h u List.mem_cons_self)
open Classical in
noncomputable def dLcLoop (st : Store → Prop) (g : DG) (tt : DT) (te : DE) (D : Nat) (ls : Lo) : List W → Store → Res W
  | [], S => if st S then .ok (.loc D) S else .bad
  | w :: ws, S => if st S then (match g w ls with
    | some ls2 => (tt ls2 S).bind fun b S1 => if b = true then (te ls2 S1).bind fun y S2 => (match cellLst S2[D]? with
        | some acc => if acc.length < sizeLine then dLcLoop st g tt te D ls ws (S2.set D (.lst (acc ++ [y]))) else .bad
        | none => .bad) else dLcLoop st g tt te D ls ws S1
    | none => .bad) else .bad
noncomputable def dLc (it : DI) (g : DG) (vs : List Nat) (tt : DT) (te : DE) : DE := fun ls S => (it ls S).bind fun src S1 => dLcLoop src.stay g tt te S1.length (wipeW ls vs) src.items (S1 ++ [.lst []])
section
variable {X : Cx} {elt tg iter : Expr} {ifs : List Expr} {scope : Scope} {own : List (Str × Nat)} {pos : Pos} {it : DI} {g : DG} {tt : DT} {te : DE} {sl : List Nat}
theorem lc_real {wi : TI} (q1 : ∀ σ H μ ls S (R : It → Hp → Prop), LR X.K μ H σ ls → Sim X.K μ S H → Bd X.K X.mg (RlI X.K) (fun c d H' => Wn c d σ H') μ H (it ls S) R → wi σ H R) (vs : List Nat) (hsl : ∀ j ∈ sl, j ∈ vs)
    {σ : St} {H : Hp} {μ : Mu} {ls : Lo} {S : Store} {Q : VK} (hL : LR X.K μ H σ ls) (hS : Sim X.K μ S H) (h : BdV X Wn σ μ H (dLc it g vs tt te ls S) Q) :
    tLc wi (cG X.K sl g) (cT X.K X.mg Wn tt) (cE X.K X.mg Wn te) vs σ H Q := by
  refine q1 σ H μ ls S _ hL hS (Bd.bind (fun src S1 J H1 μ1 g1 s1 jk h1 => ?_) h)
  intro D hD
  have gD := gr_cell (u := HO.lst []) s1 hD
  have sD := s1.alloc (c := .lst []) hD ⟨[], upd_same, .nil⟩
  refine ⟨fun i k H' => k = src.items.length - i ∧ i ≤ src.items.length ∧ ∃ μ' S', Gr (muAdd μ1 S1.length D) μ' (upd H1 D (.lst [])) H' ∧ Sim X.K μ' S' H' ∧ BdV X Wn σ μ' H' (dLcLoop src.stay g tt te S1.length (wipeW ls vs) (src.items.drop i) S') Q,
    ⟨src.items.length, by simp, Nat.zero_le _, _, _, Gr.refl _ _, sD, by simpa using Bd.mono gD h1⟩, ?_⟩
  rintro i k H' ⟨rfl, hle, μ', S', g2, s2, b2⟩
  have gg := gD.trans g2
  by_cases hlt : i < src.items.length
  · rw [List.drop_eq_getElem_cons hlt] at b2
    unfold dLcLoop at b2
    split at b2
    · rename_i hst
      split at b2
      · rename_i ls2 e2
        obtain ⟨_, jj⟩ := jk i H' μ' S' gg s2 hst
        obtain ⟨jgo, jy⟩ := jj _ (List.getElem?_eq_getElem hlt)
        refine .inr ⟨jgo, fun H3 => ∃ μ3 S3, Gr (muAdd μ1 S1.length D) μ3 (upd H1 D (.lst [])) H3 ∧ Sim X.K μ3 S3 H3 ∧ BdV X Wn σ μ3 H3 (dLcLoop src.stay g tt te S1.length (wipeW ls vs) (src.items.drop (i + 1)) S3) Q, fun H3 n3 => ⟨_, by omega, rfl, hlt, n3⟩, fun x H3 y => ?_⟩
        obtain ⟨μ3, g3, s3, r3⟩ := jy x H3 y
        refine ⟨μ3, wipeW ls vs, _, ls2, ((hL.mono g1).mono (gg.trans g3)).wipe vs, r3, e2, fun σ4 l4 w4 => ⟨?_, ?_⟩⟩
        · rw [w4 vs hsl, wipe_wipe σ vs vs fun _ z => z]
        refine ⟨μ3, ls2, S', l4, s3, Bd.bind (fun bb S4 b' H4 μ4 g4 s4 r4 h4 => ?_) (Bd.mono g3 b2)⟩
        cases r4
        cases bb with
        | false =>
          refine iteF ?_
          exact ⟨μ4, S4, g2.trans (g3.trans g4), s4, h4⟩
        | true =>
          refine iteT ⟨μ4, ls2, S4, l4.mono g4, s4, Bd.bind (fun yw S5 yv H5 μ5 g5 s5 r5 h5 => ?_) h4⟩
          split at h5
          · rename_i acc ea
            split at h5
            · rename_i hz
              have g25 := g2.trans (g3.trans (g4.trans g5))
              have hm : μ5 S1.length = some D := g25.mu _ _ muAdd_same
              obtain ⟨p, xs, e1, hm', e3, e4⟩ := s5.cellL (cellLst_some ea) (.loc hm)
              cases e1
              refine ⟨xs, e3, by rw [e4.length]; exact hz, μ5, _, g25.trans (gr_write s5 hm), s5.write (c := .lst _) hm ⟨_, upd_same, (e4.mono (gr_write s5 hm)).append (.cons (r5.mono (gr_write s5 hm)) .nil)⟩, Bd.mono (gr_write s5 hm) h5⟩
            · exact False.elim h5
          · exact False.elim h5
      · exact False.elim b2
    · exact False.elim b2
  · rw [List.drop_eq_nil_of_le (by omega)] at b2
    unfold dLcLoop at b2
    split at b2
    · rename_i hst
      obtain ⟨jj, _⟩ := jk i H' μ' S' gg s2 hst
      exact .inl ⟨jj (by omega), b2 _ H' μ' (Gr.refl _ _) s2 (.loc (g2.mu _ _ muAdd_same))⟩
    · exact False.elim b2
theorem se_lc (hc : X.calm = true) (hN : X.N.Nodup) (hi : SI X Wn tg iter it) (ok : BlkOk X.N X.env.scope scope own)
    (hg : ∀ (s : Shared) (H : Hp) (C : Addr) (cl : List (Str × Addr)) (fp : List Addr), SG (X.blk s H scope (compEnvC scope cl C X.env) fp) tg sl g) (ht : ∀ (s : Shared) (H : Hp) (C : Addr) (cl : List (Str × Addr)) (fp : List Addr), STs (X.blk s H scope (compEnvC scope cl C X.env) fp) Wn ifs tt)
    (he : ∀ (s : Shared) (H : Hp) (C : Addr) (cl : List (Str × Addr)) (fp : List Addr), SE (X.blk s H scope (compEnvC scope cl C X.env) fp) Wn elt te) (hsl : ∀ j ∈ sl, j ∈ own.map (·.2) := by decide) (hs : ∀ x, foldedSetIterable iter X.env x = pure x := by intro _; rfl) :
    SE X Wn (.ListComp elt [⟨tg, iter, ifs, 0⟩] scope pos) (dLc it g (own.map (·.2)) tt te) := by
  obtain ⟨wi, p1, q1⟩ := hi.ex
  exact ⟨_, pe_lc (g := cG X.K sl g) (tt := cT X.K X.mg Wn tt) (te := cE X.K X.mg Wn te) hc hN p1 ok (fun s H C cl fp => (hg s H C cl fp).canon) (fun s H C cl fp => (ht s H C cl fp).canon) (fun s H C cl fp => (he s H C cl fp).canon) hs, fun σ H μ ls S Q hL hS h => lc_real q1 _ hsl hL hS h⟩
theorem ss_setLc {i : Nat} {y : Str} {py spos : Pos} (hc : X.calm = true) (hN : X.N.Nodup)
    (hi : SI X Wn tg iter it) (ok : BlkOk X.N X.env.scope scope own)
    (hg : ∀ (s : Shared) (H : Hp) (C : Addr) (cl : List (Str × Addr)) (fp : List Addr), SG (X.blk s H scope (compEnvC scope cl C X.env) fp) tg sl g) (ht : ∀ (s : Shared) (H : Hp) (C : Addr) (cl : List (Str × Addr)) (fp : List Addr), STs (X.blk s H scope (compEnvC scope cl C X.env) fp) Wn ifs tt)
    (he : ∀ (s : Shared) (H : Hp) (C : Addr) (cl : List (Str × Addr)) (fp : List Addr), SE (X.blk s H scope (compEnvC scope cl C X.env) fp) Wn elt te) (hy : X.N[i]? = some y := by rfl) (hyl : X.env.scope.names.lookup y = some .local := by rfl)
    (hsw : swapsWith (.ListComp elt [⟨tg, iter, ifs, 0⟩] scope pos) (some (.Name y py)) spos.line X.env = pure true := by exact sw_true rfl rfl rfl (by decide +kernel)) (hsl : ∀ j ∈ sl, j ∈ own.map (·.2) := by decide) (hs : ∀ x, foldedSetIterable iter X.env x = pure x := by intro _; rfl) :
    SS X Wn (.Assign [.Name y py] (.ListComp elt [⟨tg, iter, ifs, 0⟩] scope pos) spos) (dSet i (dLc it g (own.map (·.2)) tt te)) := by
  obtain ⟨wi, p1, q1⟩ := hi.ex
  refine ⟨_, ps_setLc (g := cG X.K sl g) (tt := cT X.K X.mg Wn tt) (te := cE X.K X.mg Wn te) hc hN hy hyl hsw p1 ok (fun s H C cl fp => (hg s H C cl fp).canon) (fun s H C cl fp => (ht s H C cl fp).canon) (fun s H C cl fp => (he s H C cl fp).canon) hs, fun σ H μ ls S D hL hS h => ?_⟩
  refine lc_real q1 _ hsl hL hS (rs_bd hL (fun w S1 v H1 μ1 g s r h1 => ?_) h)
  exact h1 _ H1 μ1 (Gr.refl _ _) s ((hL.mono g).set r)
end

/-! ### unary minus -/
def gNeg (x : W) (S : Store) : Res W := match x with
  | .int i => .ok (.int (-i)) S
  | _ => .bad
section
variable {X : Cx} {Wx : WE} {a b c e : Expr} {es : List Expr} {ma mb mc : DE} {pos : Pos}
theorem se_neg (ha : SE X Wx a ma) : SE X Wx (.UnaryOp .USub a pos) (dUn gNeg ma) := by
  obtain ⟨t1, p1, q1⟩ := ha.ex
  refine ⟨_, pe_un un_neg p1, fun σ H μ ls S Q hL hS h => ?_⟩
  refine q1 σ H μ ls S _ hL hS (Bd.bind (fun w1 S1 v1 H1 μ1 g1 s1 r1 h1 => ?_) h)
  cases r1 with
  | int i => exact ⟨i, rfl, h1 _ H1 μ1 (Gr.refl _ _) s1 (.int _)⟩
  | _ => exact False.elim h1
end

/-! ### slices -/
abbrev DO := Lo → Store → Res (Option Int)
def dNoP : DO := fun _ S => .ok none S
def dPart (a : DE) : DO := fun ls S => (a ls S).bind fun w S1 => match w with
  | .int i => .ok (some i) S1
  | _ => .bad
def cutW (xs : List W) (lo hi : Option Int) : List W := (xs.drop (HT.sIx xs.length 0 lo)).take (HT.sIx xs.length xs.length hi - HT.sIx xs.length 0 lo)
def gSlice (x : W) (lo hi : Option Int) (S : Store) : Res W := match x with
  | .tup ws => .ok (.tup (cutW ws lo hi)) S
  | .str z => if z.length ≤ sizeLine then .ok (.str (cutS z lo hi)) S else .bad
  | x => match lstW S x with
    | some ws => .ok (.loc S.length) (S ++ [.lst (cutW ws lo hi)])
    | none => .bad
def dSl (a : DE) (lo hi : DO) : DE := fun ls S => (a ls S).bind fun x S1 => (lo ls S1).bind fun l S2 => (hi ls S2).bind fun h S3 => gSlice x l h S3
abbrev RlO : Mu → Hp → Option Int → Option Int → Prop := fun _ _ a b => a = b
structure SOp (X : Cx) (Wx : WE) (e : Option Expr) (m : DO) : Prop where
  ex : ∃ t, PO X e t ∧ ∀ σ H μ ls S Q, LR X.K μ H σ ls → Sim X.K μ S H → Bd X.K X.mg RlO (fun c d H' => Wx c d σ H') μ H (m ls S) Q → t σ H Q
section
variable {X : Cx} {Wx : WE} {a e : Expr} {ma : DE} {pos p2 : Pos} {lo hi : Option Expr} {ml mh : DO}
theorem so_none : SOp X Wx none dNoP := ⟨_, po_none, fun σ H μ ls S Q hL hS h => h none H μ (Gr.refl _ _) hS rfl⟩
theorem so_some (ha : SE X Wx a ma) : SOp X Wx (some a) (dPart ma) := by
  obtain ⟨t1, p1, q1⟩ := ha.ex
  refine ⟨_, po_some p1, fun σ H μ ls S Q hL hS h => ?_⟩
  refine q1 σ H μ ls S _ hL hS (Bd.bind (fun w1 S1 v1 H1 μ1 g1 s1 r1 h1 => ?_) h)
  cases r1 with
  | int i => exact ⟨i, rfl, h1 _ H1 μ1 (Gr.refl _ _) s1 rfl⟩
  | _ => exact False.elim h1
theorem cutW_rel {K : PySem.W.Frag} {μ : Mu} {H : Hp} {ws : List W} {xs : List V} (h : VrA K μ H xs ws) (lo hi : Option Int) : VrA K μ H (cutV xs lo hi) (cutW ws lo hi) := by
  unfold cutV cutW
  rw [h.length]
  exact (h.drop _).take _
theorem se_slice (ha : SE X Wx a ma) (hl : SOp X Wx lo ml) (hh : SOp X Wx hi mh) : SE X Wx (.Subscript a (.Slice lo hi none p2) pos) (dSl ma ml mh) := by
  obtain ⟨t1, p1, q1⟩ := ha.ex
  obtain ⟨t2, p2, q2⟩ := hl.ex
  obtain ⟨t3, p3, q3⟩ := hh.ex
  refine ⟨_, pe_slice (SlR.or Tx.sl_tupD (SlR.or sl_str sl_list)) p1 p2 p3, fun σ H μ ls S Q hL hS h => ?_⟩
  refine q1 σ H μ ls S _ hL hS (Bd.bind (fun w1 S1 v1 H1 μ1 g1 s1 r1 h1 => ?_) h)
  refine q2 σ H1 μ1 ls S1 _ (hL.mono g1) s1 (Bd.bind (fun l S2 l' H2 μ2 g2 s2 r2 h2 => ?_) h1)
  cases r2
  refine q3 σ H2 μ2 ls S2 _ ((hL.mono g1).mono g2) s2 (Bd.bind (fun u S3 u' H3 μ3 g3 s3 r3 h3 => ?_) h2)
  cases r3
  have r1 := (r1.mono g2).mono g3
  unfold gSlice at h3
  split at h3
  · cases r1 with
    | @tup p xs _ a1 a2 =>
      refine .inl ⟨p, xs, rfl, a1.t, fun hw => ?_, fun _ q o hq ho => h3 (.ref q) _ μ3 (gr_new hq) (s3.new hq) (.tup (.of upd_same ho) ((cutW_rel a2 l u).mono (gr_new hq)))⟩
      have e : cutV xs l u = xs := by
        unfold cutV
        rw [hw.1, hw.2]
        simp
      have := cutW_rel a2 l u
      rw [e] at this
      exact h3 _ H3 μ3 (Gr.refl _ _) s3 (.tup a1 this)
  · cases r1
    split at h3
    · rename_i hz
      exact .inr (.inl ⟨_, rfl, hz, h3 _ H3 μ3 (Gr.refl _ _) s3 (.str _)⟩)
    · exact False.elim h3
  · split at h3
    · rename_i ws ew
      obtain ⟨p, xs, rfl, a1, a2⟩ := lst_of s3 ew r1
      exact .inr (.inr ⟨p, xs, rfl, a1, fun q hq => h3 (.ref q) _ _ (gr_cell s3 hq) (s3.alloc hq ⟨_, upd_same, (cutW_rel a2 l u).mono (gr_cell s3 hq)⟩) (.loc muAdd_same)⟩)
    · exact False.elim h3
end

/-! ### calls of defs, and defs -/
def spF (K : PySem.W.Frag) (mg : Str → Option Value) (n : Nat) (f : DF) : Sp := fun vs H Q _ => ∃ μ ws S, ws.length = n ∧ Sim K μ S H ∧ VrA K μ H vs ws ∧ Bd K mg (RlV K) E0 μ H (f ws S) Q
structure Fok (P : Program) (w : World) (K : PySem.W.Frag) (mg : Str → Option Value) (x : Str) (k : Nat) (ps : List Str) (fn : DF) : Prop where
  ex : ∃ (f : Addr) (fd : FuncData), (∀ base, FnOk P w K mg base CX0 k f fd ps (spF K mg ps.length fn)) ∧ mg x = some (.ref f) ∧ PySem.W.keepIn K (.ref f) = true ∧ Binds K fd ps [] ∧
    ∀ (s : Shared) (us : List Value), us.length = ps.length → BindsTo s fd ⟨us, []⟩ (ps.zip us)
theorem Fok.mono {P : Program} {w : World} {K : PySem.W.Frag} {mg : Str → Option Value} {x : Str} {k k' : Nat} {ps : List Str} {fn : DF} (h : Fok P w K mg x k ps fn) (hk : k ≤ k') : Fok P w K mg x k' ps fn := by
  obtain ⟨f, fd, h2, h3⟩ := h.ex
  exact ⟨f, fd, fun base => (h2 base).mono hk, h3⟩
section
variable {X : Cx} {e : Expr} {es : List Expr} {pos p : Pos}
theorem se_call {x : Str} {k k' : Nat} {ps : List Str} {fn : DF} {as : List DE} (h : Fok X.prog X.w X.K X.mg x k ps fn) (hr : Room k' X.A) (ha : SA X Wn (e :: es) (dArgs as)) (hk : k ≤ k' := by first | omega | (simp only [Nat.add_eq]; omega)) (hg : Gl X x := by rfl) (hdb : (x == ("__debug__" : Str)) = false := by decide) (he : starEach (e :: es) X.env = (false, eval e X.env) :: starEach es X.env := by rfl) (hpl : (backTo pos (starEach es X.env)).any (·.1) = false := by rfl)
    (hn : as.length = ps.length := by rfl) : SE X Wn (.Call (.Name x p) (e :: es) [] pos) (dCall fn as) := by
  obtain ⟨f, fd, h2, h3, h4, h5, _⟩ := h.ex
  obtain ⟨t1, p1, q1⟩ := ha.ex
  refine ⟨_, pe_call (h2 X.base) (hr.mono hk) hg h3 h4 h5 .nil pass0 p1 hdb he hpl, fun σ H μ ls S Q hL hS h => ?_⟩
  have hlen : ∀ ws S', dArgs as ls S = .ok ws S' → ws.length = ps.length := by
    have key : ∀ (as : List DE) ls S ws S', dArgs as ls S = .ok ws S' → ws.length = as.length := fun as => by
      induction as with
      | nil => intro ls S ws S' e; cases e; rfl
      | cons a r ih =>
        intro ls S ws S' e
        unfold dArgs at e
        cases e1 : a ls S with
        | ok w S1 =>
          rw [e1] at e
          dsimp only [Res.bind] at e
          cases e2 : dArgs r ls S1 with
          | ok us S2 =>
            rw [e2] at e
            cases e
            rw [List.length_cons, List.length_cons, ih _ _ _ _ e2]
          | exc _ _ => rw [e2] at e; cases e
          | bad => rw [e2] at e; cases e
        | exc _ _ => rw [e1] at e; cases e
        | bad => rw [e1] at e; cases e
    intro ws S' e
    rw [key as ls S ws S' e, hn]
  unfold dCall at h
  cases ea : dArgs as ls S with
  | bad => rw [ea] at h; exact False.elim h
  | exc x S1 =>
    rw [ea] at h
    exact q1 σ H μ ls S _ hL hS (by rw [ea]; exact h)
  | ok ws S1 =>
    rw [ea] at h
    refine q1 σ H μ ls S _ hL hS ?_
    rw [ea]
    intro vs H1 μ1 g1 s1 r1
    rw [List.append_nil]
    exact ⟨μ1, ws, S1, hlen ws S1 ea, s1, r1, Bd.mono g1 h⟩
end
theorem huE {k : Nat} {A : Around} (h : Room k A) : A.units + 64 < cLine := by
  have := h.un
  omega
theorem huI {k : Nat} {A : Around} (h : Room k A) : A.units + 65 < cLine := by
  have := h.un
  omega
/-- where a def of the text stands -/
structure DefAt (K : PySem.W.Frag) (mg : Str → Option Value) (x : Str) (st : Stmt) : Prop where
  ex : ∃ f fd, FunD K x x (defArgs st) (defBody st) (defScope st) [] [] f fd ∧ mg x = some (.ref f)
section
variable {P : Program} {w : World} {K : PySem.W.Frag} {mg : Str → Option Value}
theorem Fok.of {x : Str} {st : Stmt} {k : Nat} {N ps : List Str} {m : DS} (F : DefAt K mg x st) (S : FnScope N ps (defScope st))
    (hbind : ∀ (kV doc pm : Value) (an : Option Addr) (cdv ct : Value) (us : List Value), us.length = ps.length → bindArgs (PySem.W.fnOf x x (defArgs st) (defBody st) (defScope st) .none kV doc pm an cdv ct) ⟨us, []⟩ = pure (ps.zip us))
    (hb : ∀ (base : Heap) (f : Addr) (cdv : Value) (A : Around) (outer : List Env) (s : Shared) (H : Hp) (E : XK), Room k (A.deeper (PyProof.Rows.envOfC x (defScope st) s.heap.objs.size f cdv)) →
      SSs (cxOf CX0 P w K mg base N x (defScope st) f cdv A outer s H E).nox Wn (defBody st) m) : Fok P w K mg x (k + 1) ps (mkF N.length ps.length m) := by
  obtain ⟨f, fd, F, hm⟩ := F.ex
  refine ⟨f, fd, fun base => ?_, hm, F.kp, F.bindsN hbind, F.bindsA hbind⟩
  refine F.ok S (fun vs H Q E h => ?_) (fun cdv A outer s H vs Q E hr h => ?_)
  · obtain ⟨μ, ws, S', h1, h2, h3, h4⟩ := h
    rw [h3.length, h1]
  · obtain ⟨μ, ws, S', h1, h2, h3, h4⟩ := h
    obtain ⟨t, p, q⟩ := (hb base f cdv A outer s H E hr).ex
    refine ⟨t, PSs.nox p, q _ H μ (startW N.length ws) S' _ (LR.atStart h3) h2 ?_⟩
    unfold mkF at h4
    rw [if_pos h1] at h4
    cases e : m (startW N.length ws) S' with
    | nx ls S1 => rw [e] at h4; exact fun σ' H' μ' g s l => h4 .non H' μ' g s .non
    | rt v S1 => rw [e] at h4; exact h4
    | bk ls S1 => rw [e] at h4; exact False.elim h4
    | ct ls S1 => rw [e] at h4; exact False.elim h4
    | ex x ls S1 => rw [e] at h4; exact fun σ' c d H' μ' g s l r => h4 c d H' μ' g s r
    | bad => rw [e] at h4; exact False.elim h4
/-- nothing is promised of what is stuck -/
theorem Fok.none {x : Str} {st : Stmt} {k : Nat} {ps : List Str} (F : DefAt K mg x st)
    (hbind : ∀ (kV doc pm : Value) (an : Option Addr) (cdv ct : Value) (us : List Value), us.length = ps.length → bindArgs (PySem.W.fnOf x x (defArgs st) (defBody st) (defScope st) .none kV doc pm an cdv ct) ⟨us, []⟩ = pure (ps.zip us)) :
    Fok P w K mg x k ps (fun _ _ => .bad) := by
  obtain ⟨f, fd, F, hm⟩ := F.ex
  have no : ∀ vs H Q E, ¬ spF K mg ps.length (fun _ _ => .bad) vs H Q E := fun vs H Q E h => by
    obtain ⟨μ, ws, S', h1, h2, h3, h4⟩ := h
    exact h4
  exact ⟨f, fd, fun base => ⟨fun vs H Q E h => absurd h (no vs H Q E), fun A outer s H args us vs Q E _ _ _ _ h => absurd h (no vs H Q E)⟩, hm, F.kp, F.bindsN hbind, F.bindsA hbind⟩
/-- the law: from a read-only list of ints to True -/
def spLaw (K : PySem.W.Frag) : Sp := fun vs H Q _ => ∃ (a : Addr) (ns : List Int), vs = [.ref a] ∧ RoL K H a (ns.map V.int) ∧ ns.length ≤ 63 ∧ ∀ H', Q (.bl true) H'
theorem law_fin {f : Addr} {k : Nat} {fn : DF} (O : Fok P w K mg "law" k ["script"] fn) (hm : mg "law" = some (.ref f))
    (h : ∀ ns : List Int, ns.length ≤ 63 → ∃ S, fn [.rol (ns.map W.int)] [] = .ok (.bl true) S) :
    ∃ fd : FuncData, (∀ (s : Shared) (v : Value), BindsTo s fd ⟨[v], []⟩ [("script", v)]) ∧ ∀ base : Heap, K.In base → base.Ns mainGlobals mg → FnOk P w K mg base CX0 k f fd ["script"] (spLaw K) := by
  obtain ⟨f', fd, h2, h3, h4, h5, h6⟩ := O.ex
  rw [hm] at h3
  cases h3
  refine ⟨fd, fun s v => h6 s [v] rfl, fun base _ _ => (h2 base).imp fun vs H Q E hs => ?_⟩
  obtain ⟨a, ns, rfl, hr, hl, q⟩ := hs
  obtain ⟨S, e⟩ := h ns hl
  refine ⟨fun _ => none, [.rol (ns.map W.int)], [], rfl, Sim.empty, .cons (.rol hr (VrA.ints ns)) .nil, ?_⟩
  rw [e]
  intro v H' μ' g s r
  cases r
  exact q H'
end
end Fs
set_option maxHeartbeats 4000000
namespace Fs
open PySem L2
/-! ### evaluation, step by step -/
section
variable {α β : Type} {g g' : W → W → Store → Res W} {u : W → Store → Res W} {a b c : DE} {as : List DE} {ls : Lo} {S : Store} {w x y : W} {ws : List W} {tt t1 t2 : DT} {m n : DS} {f : DF} {i : Nat}
@[simp] theorem c_ev : dC w ls S = .ok w S := rfl
def argK2 (w : W) : Res (List W) → Res (List W)
  | .ok ws S => .ok (w :: ws) S
  | .exc e S => .exc e S
  | .bad => .bad
def argK (r : List DE) (ls : Lo) : Res W → Res (List W)
  | .ok w S => argK2 w (dArgs r ls S)
  | .exc e S => .exc e S
  | .bad => .bad
@[simp] theorem args_nil : dArgs [] ls S = .ok [] S := rfl
@[simp] theorem args_ev : dArgs (a :: as) ls S = argK as ls (a ls S) := by
  unfold dArgs argK
  cases a ls S <;> first | rfl | skip
  rename_i w S1
  show (dArgs as ls S1).bind _ = argK2 w (dArgs as ls S1)
  cases dArgs as ls S1 <;> rfl
@[simp] theorem argK_ok : argK as ls (.ok w S) = argK2 w (dArgs as ls S) := rfl
@[simp] theorem argK2_ok : argK2 w (.ok ws S) = .ok (w :: ws) S := rfl
def tupK : Res (List W) → Res W
  | .ok ws S => if ws.length ≤ sizeLine then .ok (.tup ws) S else .bad
  | .exc e S => .exc e S
  | .bad => .bad
@[simp] theorem tup_ev : dTup as ls S = tupK (dArgs as ls S) := by
  unfold dTup tupK
  cases dArgs as ls S <;> rfl
theorem tupK_ok (h : ws.length ≤ 100) : tupK (.ok ws S) = .ok (.tup ws) S := if_pos (Nat.le_trans h (by decide))
def lstK : Res (List W) → Res W
  | .ok ws S => if ws.length ≤ sizeLine then .ok (.loc S.length) (S ++ [.lst ws]) else .bad
  | .exc e S => .exc e S
  | .bad => .bad
@[simp] theorem lst_ev : dLst as ls S = lstK (dArgs as ls S) := by
  unfold dLst lstK
  cases dArgs as ls S <;> rfl
theorem lstK_ok (h : ws.length ≤ 100) : lstK (.ok ws S) = .ok (.loc S.length) (S ++ [.lst ws]) := if_pos (Nat.le_trans h (by decide))
@[simp] theorem tupK_ok' : tupK (.ok ws S) = if ws.length ≤ sizeLine then .ok (.tup ws) S else .bad := rfl
@[simp] theorem lstK_ok' : lstK (.ok ws S) = if ws.length ≤ sizeLine then .ok (.loc S.length) (S ++ [.lst ws]) else .bad := rfl
def opK2 (g : W → W → Store → Res W) (x : W) : Res W → Res W
  | .ok y S => g x y S
  | .exc e S => .exc e S
  | .bad => .bad
def opK (g : W → W → Store → Res W) (b : DE) (ls : Lo) : Res W → Res W
  | .ok x S => opK2 g x (b ls S)
  | .exc e S => .exc e S
  | .bad => .bad
@[simp] theorem op_ev : dOp g a b ls S = opK g b ls (a ls S) := by
  unfold dOp opK
  cases a ls S <;> first | rfl | skip
  rename_i w S1
  show (b ls S1).bind _ = opK2 g w (b ls S1)
  cases b ls S1 <;> rfl
@[simp] theorem opK_ok : opK g b ls (.ok x S) = opK2 g x (b ls S) := rfl
@[simp] theorem opK2_ok : opK2 g x (.ok y S) = g x y S := rfl
def unK (u : W → Store → Res W) : Res W → Res W
  | .ok y S => u y S
  | .exc e S => .exc e S
  | .bad => .bad
@[simp] theorem un_ev : dUn u a ls S = unK u (a ls S) := by
  unfold dUn unK
  cases a ls S <;> rfl
@[simp] theorem unK_ok : unK u (.ok x S) = u x S := rfl
def callK (f : DF) : Res (List W) → Res W
  | .ok y S => f y S
  | .exc e S => .exc e S
  | .bad => .bad
@[simp] theorem call_ev : dCall f as ls S = callK f (dArgs as ls S) := by
  unfold dCall callK
  cases dArgs as ls S <;> rfl
@[simp] theorem callK_ok : callK f (.ok ws S) = f ws S := rfl
def tK : Res W → Res Bool
  | .ok y S => gTruth y S
  | .exc e S => .exc e S
  | .bad => .bad
@[simp] theorem t_ev : dT a ls S = tK (a ls S) := by
  unfold dT tK
  cases a ls S <;> rfl
@[simp] theorem tK_ok : tK (.ok x S) = gTruth x S := rfl
@[simp] theorem tru_bl {k : Bool} : gTruth (.bl k) S = .ok k S := rfl
@[simp] theorem tru_non : gTruth .non S = .ok false S := rfl
@[simp] theorem tru_int {k : Int} : gTruth (.int k) S = .ok (k != 0) S := rfl
@[simp] theorem tru_tup : gTruth (.tup ws) S = .ok (!ws.isEmpty) S := rfl
def tbK : Res W → Res Bool
  | .ok (.bl b) S => .ok b S
  | .exc e S => .exc e S
  | _ => .bad
@[simp] theorem tb_ev : dTB a ls S = tbK (a ls S) := by
  unfold dTB tbK
  cases a ls S <;> first | rfl | skip
  rename_i w S1
  cases w <;> rfl
@[simp] theorem tbK_ok {k : Bool} : tbK (.ok (.bl k) S) = .ok k S := rfl
def ntK : Res Bool → Res Bool
  | .ok k S => .ok (!k) S
  | .exc e S => .exc e S
  | .bad => .bad
@[simp] theorem nt_ev : dNotT tt ls S = ntK (tt ls S) := by
  unfold dNotT ntK
  cases tt ls S <;> rfl
@[simp] theorem ntK_ok {k : Bool} : ntK (.ok k S) = .ok (!k) S := rfl
def aK (t2 : DT) (ls : Lo) : Res Bool → Res Bool
  | .ok true S => t2 ls S
  | .ok false S => .ok false S
  | .exc e S => .exc e S
  | .bad => .bad
@[simp] theorem and_ev : dAndT t1 t2 ls S = aK t2 ls (t1 ls S) := by
  unfold dAndT aK
  cases t1 ls S <;> first | rfl | skip
  rename_i k S1
  cases k <;> rfl
@[simp] theorem aK_t : aK t2 ls (.ok true S) = t2 ls S := rfl
@[simp] theorem aK_f : aK t2 ls (.ok false S) = .ok false S := rfl
def oK (t2 : DT) (ls : Lo) : Res Bool → Res Bool
  | .ok true S => .ok true S
  | .ok false S => t2 ls S
  | .exc e S => .exc e S
  | .bad => .bad
@[simp] theorem or_ev : dOrT t1 t2 ls S = oK t2 ls (t1 ls S) := by
  unfold dOrT oK
  cases t1 ls S <;> first | rfl | skip
  rename_i k S1
  cases k <;> rfl
@[simp] theorem oK_t : oK t2 ls (.ok true S) = .ok true S := rfl
@[simp] theorem oK_f : oK t2 ls (.ok false S) = t2 ls S := rfl
def avK2 (b : DE) (ls : Lo) (x : W) : Res Bool → Res W
  | .ok true S => b ls S
  | .ok false S => .ok x S
  | .exc e S => .exc e S
  | .bad => .bad
def avK (b : DE) (ls : Lo) : Res W → Res W
  | .ok x S => avK2 b ls x (gTruth x S)
  | .exc e S => .exc e S
  | .bad => .bad
@[simp] theorem av_ev : dAnd a b ls S = avK b ls (a ls S) := by
  unfold dAnd avK
  cases a ls S <;> first | rfl | skip
  rename_i k S1
  show (gTruth k S1).bind _ = avK2 b ls k (gTruth k S1)
  cases gTruth k S1 <;> first | rfl | skip
  rename_i q S2
  cases q <;> rfl
@[simp] theorem avK_ok : avK b ls (.ok x S) = avK2 b ls x (gTruth x S) := rfl
@[simp] theorem avK2_t : avK2 b ls x (.ok true S) = b ls S := rfl
@[simp] theorem avK2_f : avK2 b ls x (.ok false S) = .ok x S := rfl
def ovK2 (b : DE) (ls : Lo) (x : W) : Res Bool → Res W
  | .ok true S => .ok x S
  | .ok false S => b ls S
  | .exc e S => .exc e S
  | .bad => .bad
def ovK (b : DE) (ls : Lo) : Res W → Res W
  | .ok x S => ovK2 b ls x (gTruth x S)
  | .exc e S => .exc e S
  | .bad => .bad
@[simp] theorem ov_ev : dOr a b ls S = ovK b ls (a ls S) := by
  unfold dOr ovK
  cases a ls S <;> first | rfl | skip
  rename_i k S1
  show (gTruth k S1).bind _ = ovK2 b ls k (gTruth k S1)
  cases gTruth k S1 <;> first | rfl | skip
  rename_i q S2
  cases q <;> rfl
@[simp] theorem ovK_ok : ovK b ls (.ok x S) = ovK2 b ls x (gTruth x S) := rfl
@[simp] theorem ovK2_t : ovK2 b ls x (.ok true S) = .ok x S := rfl
@[simp] theorem ovK2_f : ovK2 b ls x (.ok false S) = b ls S := rfl
def nvK2 : Res Bool → Res W
  | .ok k S => .ok (.bl (!k)) S
  | .exc e S => .exc e S
  | .bad => .bad
def nvK : Res W → Res W
  | .ok x S => nvK2 (gTruth x S)
  | .exc e S => .exc e S
  | .bad => .bad
@[simp] theorem nv_ev : dNot a ls S = nvK (a ls S) := by
  unfold dNot nvK
  cases a ls S <;> first | rfl | skip
  rename_i k S1
  show (gTruth k S1).bind _ = nvK2 (gTruth k S1)
  cases gTruth k S1 <;> rfl
@[simp] theorem nvK_ok : nvK (.ok x S) = nvK2 (gTruth x S) := rfl
@[simp] theorem nvK2_ok {k : Bool} : nvK2 (.ok k S) = .ok (.bl (!k)) S := rfl
def ieK (a b : DE) (ls : Lo) : Res Bool → Res W
  | .ok true S => a ls S
  | .ok false S => b ls S
  | .exc e S => .exc e S
  | .bad => .bad
@[simp] theorem ie_ev : dIfE tt a b ls S = ieK a b ls (tt ls S) := by
  unfold dIfE ieK
  cases tt ls S <;> first | rfl | skip
  rename_i k S1
  cases k <;> rfl
@[simp] theorem ieK_t : ieK a b ls (.ok true S) = a ls S := rfl
@[simp] theorem ieK_f : ieK a b ls (.ok false S) = b ls S := rfl
def chK4 (g' : W → W → Store → Res W) (y : W) : Res W → Res W
  | .ok z S => g' y z S
  | .exc e S => .exc e S
  | .bad => .bad
def chK3 (g' : W → W → Store → Res W) (y : W) (c : DE) (ls : Lo) : Res W → Res W
  | .ok (.bl true) S => chK4 g' y (c ls S)
  | .ok (.bl false) S => .ok (.bl false) S
  | .exc e S => .exc e S
  | _ => .bad
def chK2 (g g' : W → W → Store → Res W) (x : W) (c : DE) (ls : Lo) : Res W → Res W
  | .ok y S => chK3 g' y c ls (g x y S)
  | .exc e S => .exc e S
  | .bad => .bad
def chK (g g' : W → W → Store → Res W) (b c : DE) (ls : Lo) : Res W → Res W
  | .ok x S => chK2 g g' x c ls (b ls S)
  | .exc e S => .exc e S
  | .bad => .bad
@[simp] theorem ch_ev : dChain g g' a b c ls S = chK g g' b c ls (a ls S) := by
  unfold dChain chK
  cases a ls S <;> first | rfl | skip
  rename_i x S1
  show (b ls S1).bind _ = chK2 g g' x c ls (b ls S1)
  cases b ls S1 <;> first | rfl | skip
  rename_i y S2
  show (g x y S2).bind _ = chK3 g' y c ls (g x y S2)
  cases g x y S2 <;> first | rfl | skip
  rename_i k S3
  cases k <;> first | rfl | skip
  rename_i k
  cases k <;> first | rfl | skip
  show (c ls S3).bind _ = chK4 g' y (c ls S3)
  cases c ls S3 <;> rfl
@[simp] theorem chK_ok : chK g g' b c ls (.ok x S) = chK2 g g' x c ls (b ls S) := rfl
@[simp] theorem chK2_ok : chK2 g g' x c ls (.ok y S) = chK3 g' y c ls (g x y S) := rfl
@[simp] theorem chK3_t : chK3 g' y c ls (.ok (.bl true) S) = chK4 g' y (c ls S) := rfl
@[simp] theorem chK3_f : chK3 g' y c ls (.ok (.bl false) S) = .ok (.bl false) S := rfl
@[simp] theorem chK4_ok : chK4 g' y (.ok w S) = g' y w S := rfl
/-! statements -/
@[simp] theorem nx_ev : dNx ls S = .nx ls S := rfl
@[simp] theorem bk_ev : dBk ls S = .bk ls S := rfl
@[simp] theorem ct_ev : dCt ls S = .ct ls S := rfl
@[simp] theorem rtn_ev : dRetN ls S = .rt .non S := rfl
def sqK (n : DS) : RS → RS
  | .nx ls S => n ls S
  | r => r
@[simp] theorem sq_ev : dSeq m n ls S = sqK n (m ls S) := by
  unfold dSeq sqK
  cases m ls S <;> rfl
@[simp] theorem sqK_nx : sqK n (.nx ls S) = n ls S := rfl
@[simp] theorem sqK_rt : sqK n (.rt w S) = .rt w S := rfl
@[simp] theorem sqK_bk : sqK n (.bk ls S) = .bk ls S := rfl
@[simp] theorem sqK_ct : sqK n (.ct ls S) = .ct ls S := rfl
def ifK (m n : DS) (ls : Lo) : Res Bool → RS
  | .ok true S => m ls S
  | .ok false S => n ls S
  | .exc e S => .ex e ls S
  | .bad => .bad
@[simp] theorem if_ev : dIf tt m n ls S = ifK m n ls (tt ls S) := by
  unfold dIf rsOfB ifK
  cases tt ls S <;> first | rfl | skip
  rename_i k S1
  cases k <;> rfl
@[simp] theorem ifK_t : ifK m n ls (.ok true S) = m ls S := rfl
@[simp] theorem ifK_f : ifK m n ls (.ok false S) = n ls S := rfl
def setK (i : Nat) (ls : Lo) : Res W → RS
  | .ok w S => .nx (ls.set i (some w)) S
  | .exc e S => .ex e ls S
  | .bad => .bad
@[simp] theorem set_ev : dSet i a ls S = setK i ls (a ls S) := by
  unfold dSet rsOf setK
  cases a ls S <;> rfl
@[simp] theorem setK_ok : setK i ls (.ok w S) = .nx (ls.set i (some w)) S := rfl
def exK (ls : Lo) : Res W → RS
  | .ok _ S => .nx ls S
  | .exc e S => .ex e ls S
  | .bad => .bad
@[simp] theorem ex_ev : dExpr a ls S = exK ls (a ls S) := by
  unfold dExpr rsOf exK
  cases a ls S <;> rfl
@[simp] theorem exK_ok : exK ls (.ok w S) = .nx ls S := rfl
def rtK (ls : Lo) : Res W → RS
  | .ok w S => .rt w S
  | .exc e S => .ex e ls S
  | .bad => .bad
@[simp] theorem rt_ev : dRet a ls S = rtK ls (a ls S) := by
  unfold dRet rsOf rtK
  cases a ls S <;> rfl
@[simp] theorem rtK_ok : rtK ls (.ok w S) = .rt w S := rfl
def sxL (n : Nat) (i : Int) (w : W) (ls : Lo) (S : Store) : Option Cell → RS
  | some (.lst ws) => (match ixN ws.length i with
    | some j => .nx ls (S.set n (.lst (ws.set j w)))
    | none => .bad)
  | _ => .bad
def sxK4 (w x y : W) (ls : Lo) (S : Store) : RS := match x, y with
  | .loc n, .int i => sxL n i w ls S S[n]?
  | _, _ => .bad
def sxK3 (w x : W) (ls : Lo) : Res W → RS
  | .ok y S => sxK4 w x y ls S
  | .exc e S => .ex e ls S
  | .bad => .bad
def sxK2 (w : W) (b : DE) (ls : Lo) : Res W → RS
  | .ok x S => sxK3 w x ls (b ls S)
  | .exc e S => .ex e ls S
  | .bad => .bad
def sxK (a b : DE) (ls : Lo) : Res W → RS
  | .ok w S => sxK2 w b ls (a ls S)
  | .exc e S => .ex e ls S
  | .bad => .bad
@[simp] theorem sx_ev : dSetIx a b c ls S = sxK a b ls (c ls S) := by
  unfold dSetIx sxK
  cases c ls S <;> rfl
@[simp] theorem sxK_ok : sxK a b ls (.ok w S) = sxK2 w b ls (a ls S) := rfl
@[simp] theorem sxK2_ok : sxK2 w b ls (.ok x S) = sxK3 w x ls (b ls S) := rfl
@[simp] theorem sxK3_ok {i : Int} {n : Nat} : sxK3 w (.loc n) ls (.ok (.int i) S) = sxL n i w ls S S[n]? := rfl
@[simp] theorem sxL_ok {i : Int} {n : Nat} : sxL n i w ls S (some (.lst ws)) = (match ixN ws.length i with
    | some j => .nx ls (S.set n (.lst (ws.set j w)))
    | none => .bad) := rfl
def apK2 (x : W) : Res W → Res W
  | .ok w S => gAppend x w S
  | .exc e S => .exc e S
  | .bad => .bad
def apK (b : DE) (ls : Lo) : Res W → Res W
  | .ok x S => (match lstW S x with
    | none => .bad
    | some _ => apK2 x (b ls S))
  | .exc e S => .exc e S
  | .bad => .bad
@[simp] theorem ap_ev : dAppend a b ls S = apK b ls (a ls S) := by
  unfold dAppend apK
  cases a ls S <;> first | rfl | skip
  rename_i x S1
  show (match lstW S1 x with | none => Res.bad | some _ => (b ls S1).bind _) = _
  dsimp only
  cases lstW S1 x <;> first | rfl | skip
  show (b ls S1).bind _ = apK2 x (b ls S1)
  cases b ls S1 <;> rfl
@[simp] theorem apK2_ok : apK2 x (.ok w S) = gAppend x w S := rfl
theorem apK_ok {us : List W} (h : lstW S x = some us) : apK b ls (.ok x S) = apK2 x (b ls S) := by
  show (match lstW S x with | none => Res.bad | some _ => apK2 x (b ls S)) = _
  rw [h]
/-! slices -/
def slK3 (x : W) (l : Option Int) : Res (Option Int) → Res W
  | .ok h S => gSlice x l h S
  | .exc e S => .exc e S
  | .bad => .bad
def slK2 (x : W) (hi : DO) (ls : Lo) : Res (Option Int) → Res W
  | .ok l S => slK3 x l (hi ls S)
  | .exc e S => .exc e S
  | .bad => .bad
def slK (lo hi : DO) (ls : Lo) : Res W → Res W
  | .ok x S => slK2 x hi ls (lo ls S)
  | .exc e S => .exc e S
  | .bad => .bad
variable {lo hi : DO} {l h : Option Int}
@[simp] theorem sl_ev : dSl a lo hi ls S = slK lo hi ls (a ls S) := by
  unfold dSl slK
  cases a ls S <;> first | rfl | skip
  rename_i x S1
  show (lo ls S1).bind _ = slK2 x hi ls (lo ls S1)
  cases lo ls S1 <;> first | rfl | skip
  rename_i l S2
  show (hi ls S2).bind _ = slK3 x l (hi ls S2)
  cases hi ls S2 <;> rfl
@[simp] theorem slK_ok : slK lo hi ls (.ok x S) = slK2 x hi ls (lo ls S) := rfl
@[simp] theorem slK2_ok : slK2 x hi ls (.ok l S) = slK3 x l (hi ls S) := rfl
@[simp] theorem slK3_ok : slK3 x l (.ok h S) = gSlice x l h S := rfl
@[simp] theorem nop_ev : dNoP ls S = .ok none S := rfl
def partK : Res W → Res (Option Int)
  | .ok (.int i) S => .ok (some i) S
  | .exc e S => .exc e S
  | _ => .bad
@[simp] theorem part_ev : dPart a ls S = partK (a ls S) := by
  unfold dPart partK
  cases a ls S <;> first | rfl | skip
  rename_i x S1
  cases x <;> rfl
@[simp] theorem partK_ok {i : Int} : partK (.ok (.int i) S) = .ok (some i) S := rfl
/-! defs -/
def mkK : RS → Res W
  | .nx _ S' => .ok .non S'
  | .rt w S' => .ok w S'
  | .ex e _ S' => .exc e S'
  | _ => .bad
@[simp] theorem mkK_nx : mkK (.nx ls S) = .ok .non S := rfl
@[simp] theorem mkK_rt : mkK (.rt w S) = .ok w S := rfl
theorem mk_ev {N np : Nat} (h : ws.length = np) : mkF N np m ws S = mkK (m (startW N ws) S) := by
  unfold mkF mkK
  rw [if_pos h]
  all_goals (cases m (startW N ws) S <;> rfl)
@[simp] theorem mk1_ev {N : Nat} {x1 : W} : mkF N 1 m [x1] S = mkK (m (some x1 :: List.replicate (N - 1) none) S) := mk_ev rfl
@[simp] theorem mk2_ev {N : Nat} {x1 x2 : W} : mkF N 2 m [x1, x2] S = mkK (m (some x1 :: some x2 :: List.replicate (N - 2) none) S) := mk_ev rfl
@[simp] theorem mk3_ev {N : Nat} {x1 x2 x3 : W} : mkF N 3 m [x1, x2, x3] S = mkK (m (some x1 :: some x2 :: some x3 :: List.replicate (N - 3) none) S) := mk_ev rfl
@[simp] theorem mk4_ev {N : Nat} {x1 x2 x3 x4 : W} : mkF N 4 m [x1, x2, x3, x4] S = mkK (m (some x1 :: some x2 :: some x3 :: some x4 :: List.replicate (N - 4) none) S) := mk_ev rfl
@[simp] theorem mk5_ev {N : Nat} {x1 x2 x3 x4 x5 : W} : mkF N 5 m [x1, x2, x3, x4, x5] S = mkK (m (some x1 :: some x2 :: some x3 :: some x4 :: some x5 :: List.replicate (N - 5) none) S) := mk_ev rfl
/-! operations -/
@[simp] theorem add_ii {i j : Int} : gAdd (.int i) (.int j) S = .ok (.int (i + j)) S := rfl
@[simp] theorem sub_ii {i j : Int} : gSub (.int i) (.int j) S = .ok (.int (i - j)) S := rfl
@[simp] theorem lt_ii {i j : Int} : gLt (.int i) (.int j) S = .ok (.bl (decide (i < j))) S := rfl
@[simp] theorem le_ii {i j : Int} : gLe (.int i) (.int j) S = .ok (.bl (decide (i ≤ j))) S := rfl
@[simp] theorem gt_ii {i j : Int} : gGt (.int i) (.int j) S = .ok (.bl (decide (j < i))) S := rfl
@[simp] theorem ge_ii {i j : Int} : gGe (.int i) (.int j) S = .ok (.bl (decide (j ≤ i))) S := rfl
@[simp] theorem eq_ii {i j : Int} : gEq (.int i) (.int j) S = .ok (.bl (decide (i = j))) S := by
  show Res.ok (W.bl (false != decide (i = j))) S = _
  rw [false_bne]
@[simp] theorem eq_ss {i j : Str} : gEq (.str i) (.str j) S = .ok (.bl (decide (i = j))) S := by
  show Res.ok (W.bl (false != decide (i = j))) S = _
  rw [false_bne]
@[simp] theorem eq_bb {i j : Bool} : gEq (.bl i) (.bl j) S = .ok (.bl (decide (i = j))) S := by
  show Res.ok (W.bl (false != decide (i = j))) S = _
  rw [false_bne]
@[simp] theorem ne_ii {i j : Int} : gNe (.int i) (.int j) S = .ok (.bl (!decide (i = j))) S := by
  show Res.ok (W.bl (true != decide (i = j))) S = _
  rw [true_bne]
@[simp] theorem ne_ss {i j : Str} : gNe (.str i) (.str j) S = .ok (.bl (!decide (i = j))) S := by
  show Res.ok (W.bl (true != decide (i = j))) S = _
  rw [true_bne]
@[simp] theorem ne_bb {i j : Bool} : gNe (.bl i) (.bl j) S = .ok (.bl (!decide (i = j))) S := by
  show Res.ok (W.bl (true != decide (i = j))) S = _
  rw [true_bne]
theorem mul_ii {i j : Int} (h : -(2 ^ 64) < j ∧ j < 2 ^ 64) : gMul (.int i) (.int j) S = .ok (.int (i * j)) S := if_pos (.inr h)
theorem mul_ii' {i j : Int} (h : -(2 ^ 64) < i ∧ i < 2 ^ 64) : gMul (.int i) (.int j) S = .ok (.int (i * j)) S := if_pos (.inl h)
theorem mod_ii {i j : Int} (h : 0 < j) : gMod (.int i) (.int j) S = .ok (.int (i % j)) S := if_pos h
theorem div_ii {i j : Int} (h : 0 < j ∧ j.natAbs.log2 < 9000) : gDiv (.int i) (.int j) S = .ok (.int (i / j)) S := if_pos h
@[simp] theorem neg_i {i : Int} : gNeg (.int i) S = .ok (.int (-i)) S := rfl
@[simp] theorem abs_i {i : Int} : gAbs [.int i] S = .ok (.int (if i < 0 then -i else i)) S := rfl
@[simp] theorem max_ii {i j : Int} : gMax [.int i, .int j] S = .ok (.int (if j > i then j else i)) S := rfl
@[simp] theorem min_ii {i j : Int} : gMin [.int i, .int j] S = .ok (.int (if j < i then j else i)) S := rfl
@[simp] theorem int_i {i : Int} : gInt [.int i] S = .ok (.int i) S := rfl
@[simp] theorem int_b {k : Bool} : gInt [.bl k] S = .ok (.int (if k then 1 else 0)) S := rfl
@[simp] theorem isN_non : gIsN .non .non S = .ok (.bl true) S := rfl
@[simp] theorem notN_non : gNotN .non .non S = .ok (.bl false) S := rfl
/-! subscripts of written sequences -/
@[simp] theorem var0_ev  {w : W} {r : Lo} {S : Store} : dVar 0 (some w :: r) S = .ok w S := rfl
@[simp] theorem set0_ev {α : Type}  {x y : α} {r : List α} : List.set (x :: r) 0 y = y :: r := rfl
@[simp] theorem var1_ev {x0 : Option W} {w : W} {r : Lo} {S : Store} : dVar 1 (x0 :: some w :: r) S = .ok w S := rfl
@[simp] theorem set1_ev {α : Type} {x0 : α} {x y : α} {r : List α} : List.set (x0 :: x :: r) 1 y = x0 :: y :: r := rfl
@[simp] theorem var2_ev {x0 : Option W} {x1 : Option W} {w : W} {r : Lo} {S : Store} : dVar 2 (x0 :: x1 :: some w :: r) S = .ok w S := rfl
@[simp] theorem set2_ev {α : Type} {x0 : α} {x1 : α} {x y : α} {r : List α} : List.set (x0 :: x1 :: x :: r) 2 y = x0 :: x1 :: y :: r := rfl
@[simp] theorem var3_ev {x0 : Option W} {x1 : Option W} {x2 : Option W} {w : W} {r : Lo} {S : Store} : dVar 3 (x0 :: x1 :: x2 :: some w :: r) S = .ok w S := rfl
@[simp] theorem set3_ev {α : Type} {x0 : α} {x1 : α} {x2 : α} {x y : α} {r : List α} : List.set (x0 :: x1 :: x2 :: x :: r) 3 y = x0 :: x1 :: x2 :: y :: r := rfl
@[simp] theorem var4_ev {x0 : Option W} {x1 : Option W} {x2 : Option W} {x3 : Option W} {w : W} {r : Lo} {S : Store} : dVar 4 (x0 :: x1 :: x2 :: x3 :: some w :: r) S = .ok w S := rfl
@[simp] theorem set4_ev {α : Type} {x0 : α} {x1 : α} {x2 : α} {x3 : α} {x y : α} {r : List α} : List.set (x0 :: x1 :: x2 :: x3 :: x :: r) 4 y = x0 :: x1 :: x2 :: x3 :: y :: r := rfl
@[simp] theorem var5_ev {x0 : Option W} {x1 : Option W} {x2 : Option W} {x3 : Option W} {x4 : Option W} {w : W} {r : Lo} {S : Store} : dVar 5 (x0 :: x1 :: x2 :: x3 :: x4 :: some w :: r) S = .ok w S := rfl
@[simp] theorem set5_ev {α : Type} {x0 : α} {x1 : α} {x2 : α} {x3 : α} {x4 : α} {x y : α} {r : List α} : List.set (x0 :: x1 :: x2 :: x3 :: x4 :: x :: r) 5 y = x0 :: x1 :: x2 :: x3 :: x4 :: y :: r := rfl
@[simp] theorem var6_ev {x0 : Option W} {x1 : Option W} {x2 : Option W} {x3 : Option W} {x4 : Option W} {x5 : Option W} {w : W} {r : Lo} {S : Store} : dVar 6 (x0 :: x1 :: x2 :: x3 :: x4 :: x5 :: some w :: r) S = .ok w S := rfl
@[simp] theorem set6_ev {α : Type} {x0 : α} {x1 : α} {x2 : α} {x3 : α} {x4 : α} {x5 : α} {x y : α} {r : List α} : List.set (x0 :: x1 :: x2 :: x3 :: x4 :: x5 :: x :: r) 6 y = x0 :: x1 :: x2 :: x3 :: x4 :: x5 :: y :: r := rfl
@[simp] theorem var7_ev {x0 : Option W} {x1 : Option W} {x2 : Option W} {x3 : Option W} {x4 : Option W} {x5 : Option W} {x6 : Option W} {w : W} {r : Lo} {S : Store} : dVar 7 (x0 :: x1 :: x2 :: x3 :: x4 :: x5 :: x6 :: some w :: r) S = .ok w S := rfl
@[simp] theorem set7_ev {α : Type} {x0 : α} {x1 : α} {x2 : α} {x3 : α} {x4 : α} {x5 : α} {x6 : α} {x y : α} {r : List α} : List.set (x0 :: x1 :: x2 :: x3 :: x4 :: x5 :: x6 :: x :: r) 7 y = x0 :: x1 :: x2 :: x3 :: x4 :: x5 :: x6 :: y :: r := rfl
@[simp] theorem var8_ev {x0 : Option W} {x1 : Option W} {x2 : Option W} {x3 : Option W} {x4 : Option W} {x5 : Option W} {x6 : Option W} {x7 : Option W} {w : W} {r : Lo} {S : Store} : dVar 8 (x0 :: x1 :: x2 :: x3 :: x4 :: x5 :: x6 :: x7 :: some w :: r) S = .ok w S := rfl
@[simp] theorem set8_ev {α : Type} {x0 : α} {x1 : α} {x2 : α} {x3 : α} {x4 : α} {x5 : α} {x6 : α} {x7 : α} {x y : α} {r : List α} : List.set (x0 :: x1 :: x2 :: x3 :: x4 :: x5 :: x6 :: x7 :: x :: r) 8 y = x0 :: x1 :: x2 :: x3 :: x4 :: x5 :: x6 :: x7 :: y :: r := rfl
@[simp] theorem var9_ev {x0 : Option W} {x1 : Option W} {x2 : Option W} {x3 : Option W} {x4 : Option W} {x5 : Option W} {x6 : Option W} {x7 : Option W} {x8 : Option W} {w : W} {r : Lo} {S : Store} : dVar 9 (x0 :: x1 :: x2 :: x3 :: x4 :: x5 :: x6 :: x7 :: x8 :: some w :: r) S = .ok w S := rfl
@[simp] theorem set9_ev {α : Type} {x0 : α} {x1 : α} {x2 : α} {x3 : α} {x4 : α} {x5 : α} {x6 : α} {x7 : α} {x8 : α} {x y : α} {r : List α} : List.set (x0 :: x1 :: x2 :: x3 :: x4 :: x5 :: x6 :: x7 :: x8 :: x :: r) 9 y = x0 :: x1 :: x2 :: x3 :: x4 :: x5 :: x6 :: x7 :: x8 :: y :: r := rfl
@[simp] theorem var10_ev {x0 : Option W} {x1 : Option W} {x2 : Option W} {x3 : Option W} {x4 : Option W} {x5 : Option W} {x6 : Option W} {x7 : Option W} {x8 : Option W} {x9 : Option W} {w : W} {r : Lo} {S : Store} : dVar 10 (x0 :: x1 :: x2 :: x3 :: x4 :: x5 :: x6 :: x7 :: x8 :: x9 :: some w :: r) S = .ok w S := rfl
@[simp] theorem set10_ev {α : Type} {x0 : α} {x1 : α} {x2 : α} {x3 : α} {x4 : α} {x5 : α} {x6 : α} {x7 : α} {x8 : α} {x9 : α} {x y : α} {r : List α} : List.set (x0 :: x1 :: x2 :: x3 :: x4 :: x5 :: x6 :: x7 :: x8 :: x9 :: x :: r) 10 y = x0 :: x1 :: x2 :: x3 :: x4 :: x5 :: x6 :: x7 :: x8 :: x9 :: y :: r := rfl
@[simp] theorem var11_ev {x0 : Option W} {x1 : Option W} {x2 : Option W} {x3 : Option W} {x4 : Option W} {x5 : Option W} {x6 : Option W} {x7 : Option W} {x8 : Option W} {x9 : Option W} {x10 : Option W} {w : W} {r : Lo} {S : Store} : dVar 11 (x0 :: x1 :: x2 :: x3 :: x4 :: x5 :: x6 :: x7 :: x8 :: x9 :: x10 :: some w :: r) S = .ok w S := rfl
@[simp] theorem set11_ev {α : Type} {x0 : α} {x1 : α} {x2 : α} {x3 : α} {x4 : α} {x5 : α} {x6 : α} {x7 : α} {x8 : α} {x9 : α} {x10 : α} {x y : α} {r : List α} : List.set (x0 :: x1 :: x2 :: x3 :: x4 :: x5 :: x6 :: x7 :: x8 :: x9 :: x10 :: x :: r) 11 y = x0 :: x1 :: x2 :: x3 :: x4 :: x5 :: x6 :: x7 :: x8 :: x9 :: x10 :: y :: r := rfl
@[simp] theorem var12_ev {x0 : Option W} {x1 : Option W} {x2 : Option W} {x3 : Option W} {x4 : Option W} {x5 : Option W} {x6 : Option W} {x7 : Option W} {x8 : Option W} {x9 : Option W} {x10 : Option W} {x11 : Option W} {w : W} {r : Lo} {S : Store} : dVar 12 (x0 :: x1 :: x2 :: x3 :: x4 :: x5 :: x6 :: x7 :: x8 :: x9 :: x10 :: x11 :: some w :: r) S = .ok w S := rfl
@[simp] theorem set12_ev {α : Type} {x0 : α} {x1 : α} {x2 : α} {x3 : α} {x4 : α} {x5 : α} {x6 : α} {x7 : α} {x8 : α} {x9 : α} {x10 : α} {x11 : α} {x y : α} {r : List α} : List.set (x0 :: x1 :: x2 :: x3 :: x4 :: x5 :: x6 :: x7 :: x8 :: x9 :: x10 :: x11 :: x :: r) 12 y = x0 :: x1 :: x2 :: x3 :: x4 :: x5 :: x6 :: x7 :: x8 :: x9 :: x10 :: x11 :: y :: r := rfl
theorem ixn0 {n : Nat} : ixN (n + 1) (0 : Int) = some 0 := by
  unfold ixN
  iterate 2 rw [if_pos (by omega)]
  rfl
theorem at0_ev {α : Type}  {x : α} {r : List α} : L2.atI (x :: r) (0 : Int) = some x := by
  unfold L2.atI
  rw [show (x :: r).length = r.length + 1 from rfl, ixn0]
  rfl
theorem ixn1 {n : Nat} : ixN (n + 2) (1 : Int) = some 1 := by
  unfold ixN
  iterate 2 rw [if_pos (by omega)]
  rfl
theorem at1_ev {α : Type} {x0 : α} {x : α} {r : List α} : L2.atI (x0 :: x :: r) (1 : Int) = some x := by
  unfold L2.atI
  rw [show (x0 :: x :: r).length = r.length + 2 from rfl, ixn1]
  rfl
theorem ixn2 {n : Nat} : ixN (n + 3) (2 : Int) = some 2 := by
  unfold ixN
  iterate 2 rw [if_pos (by omega)]
  rfl
theorem at2_ev {α : Type} {x0 : α} {x1 : α} {x : α} {r : List α} : L2.atI (x0 :: x1 :: x :: r) (2 : Int) = some x := by
  unfold L2.atI
  rw [show (x0 :: x1 :: x :: r).length = r.length + 3 from rfl, ixn2]
  rfl
theorem ixn3 {n : Nat} : ixN (n + 4) (3 : Int) = some 3 := by
  unfold ixN
  iterate 2 rw [if_pos (by omega)]
  rfl
theorem at3_ev {α : Type} {x0 : α} {x1 : α} {x2 : α} {x : α} {r : List α} : L2.atI (x0 :: x1 :: x2 :: x :: r) (3 : Int) = some x := by
  unfold L2.atI
  rw [show (x0 :: x1 :: x2 :: x :: r).length = r.length + 4 from rfl, ixn3]
  rfl
theorem ixn4 {n : Nat} : ixN (n + 5) (4 : Int) = some 4 := by
  unfold ixN
  iterate 2 rw [if_pos (by omega)]
  rfl
theorem at4_ev {α : Type} {x0 : α} {x1 : α} {x2 : α} {x3 : α} {x : α} {r : List α} : L2.atI (x0 :: x1 :: x2 :: x3 :: x :: r) (4 : Int) = some x := by
  unfold L2.atI
  rw [show (x0 :: x1 :: x2 :: x3 :: x :: r).length = r.length + 5 from rfl, ixn4]
  rfl
theorem ixn5 {n : Nat} : ixN (n + 6) (5 : Int) = some 5 := by
  unfold ixN
  iterate 2 rw [if_pos (by omega)]
  rfl
theorem at5_ev {α : Type} {x0 : α} {x1 : α} {x2 : α} {x3 : α} {x4 : α} {x : α} {r : List α} : L2.atI (x0 :: x1 :: x2 :: x3 :: x4 :: x :: r) (5 : Int) = some x := by
  unfold L2.atI
  rw [show (x0 :: x1 :: x2 :: x3 :: x4 :: x :: r).length = r.length + 6 from rfl, ixn5]
  rfl
theorem ixn6 {n : Nat} : ixN (n + 7) (6 : Int) = some 6 := by
  unfold ixN
  iterate 2 rw [if_pos (by omega)]
  rfl
theorem at6_ev {α : Type} {x0 : α} {x1 : α} {x2 : α} {x3 : α} {x4 : α} {x5 : α} {x : α} {r : List α} : L2.atI (x0 :: x1 :: x2 :: x3 :: x4 :: x5 :: x :: r) (6 : Int) = some x := by
  unfold L2.atI
  rw [show (x0 :: x1 :: x2 :: x3 :: x4 :: x5 :: x :: r).length = r.length + 7 from rfl, ixn6]
  rfl
theorem ixn7 {n : Nat} : ixN (n + 8) (7 : Int) = some 7 := by
  unfold ixN
  iterate 2 rw [if_pos (by omega)]
  rfl
theorem at7_ev {α : Type} {x0 : α} {x1 : α} {x2 : α} {x3 : α} {x4 : α} {x5 : α} {x6 : α} {x : α} {r : List α} : L2.atI (x0 :: x1 :: x2 :: x3 :: x4 :: x5 :: x6 :: x :: r) (7 : Int) = some x := by
  unfold L2.atI
  rw [show (x0 :: x1 :: x2 :: x3 :: x4 :: x5 :: x6 :: x :: r).length = r.length + 8 from rfl, ixn7]
  rfl
theorem ix_t {i : Int} (h : L2.atI ws i = some w) : gIx (.tup ws) (.int i) S = .ok w S := by
  show (match L2.atI ws i with | some w => Res.ok w S | none => Res.bad) = _
  rw [h]
theorem ix_l {i : Int} {us : List W} (h : lstW S x = some us) (h2 : L2.atI us i = some w) : gIx x (.int i) S = .ok w S := by
  cases x <;> first | (exact absurd (show (none : Option (List W)) = some us from h) (by simp); done) | skip
  · show (match lstW S (.rol _) with | some ws => (match L2.atI ws i with | some w => Res.ok w S | none => Res.bad) | none => Res.bad) = _
    rw [h]
    dsimp only
    rw [h2]
  · show (match lstW S (.loc _) with | some ws => (match L2.atI ws i with | some w => Res.ok w S | none => Res.bad) | none => Res.bad) = _
    rw [h]
    dsimp only
    rw [h2]
theorem ixt0 {x0 : W} : gIx (.tup (x0 :: ws)) (.int 0) S = .ok x0 S := ix_t at0_ev
theorem ixt1 {x0 x1 : W} : gIx (.tup (x0 :: x1 :: ws)) (.int 1) S = .ok x1 S := ix_t at1_ev
theorem ixt2 {x0 x1 x2 : W} : gIx (.tup (x0 :: x1 :: x2 :: ws)) (.int 2) S = .ok x2 S := ix_t at2_ev
theorem ixt3 {x0 x1 x2 x3 : W} : gIx (.tup (x0 :: x1 :: x2 :: x3 :: ws)) (.int 3) S = .ok x3 S := ix_t at3_ev
theorem ixt4 {x0 x1 x2 x3 x4 : W} : gIx (.tup (x0 :: x1 :: x2 :: x3 :: x4 :: ws)) (.int 4) S = .ok x4 S := ix_t at4_ev
theorem lst_loc {n : Nat} (h : S[n]? = some (.lst ws)) : lstW S (.loc n) = some ws := by
  show (match S[n]? with | some (.lst ws) => some ws | _ => none) = _
  rw [h]
theorem ixl {n : Nat} {i : Int} (h : S[n]? = some (.lst ws)) (h2 : L2.atI ws i = some w) : gIx (.loc n) (.int i) S = .ok w S := ix_l (lst_loc h) h2
@[simp] theorem len_tup : gLen [.tup ws] S = .ok (.int ws.length) S := rfl
@[simp] theorem len_rol : gLen [.rol ws] S = .ok (.int ws.length) S := rfl
theorem len_loc {n : Nat} (h : S[n]? = some (.lst ws)) : gLen [.loc n] S = .ok (.int ws.length) S := by
  show (match seqW S (.loc n) with | some us => Res.ok (W.int us.length) S | none => Res.bad) = _
  rw [show seqW S (.loc n) = lstW S (.loc n) from rfl, lst_loc h]
/-! loops -/
noncomputable def forK (g : DG) (m : DS) (ls : Lo) : Res Src → RS
  | .ok src S => dLoop src.stay g m src.items ls S
  | .exc e S => .ex e ls S
  | .bad => .bad
variable {it : DI} {gg : DG} {src : Src} {st : Store → Prop}
@[simp] theorem for_ev : dFor it gg m ls S = forK gg m ls (it ls S) := by
  unfold dFor rsOfI forK
  cases it ls S <;> rfl
@[simp] theorem forK_ok : forK gg m ls (.ok src S) = dLoop src.stay gg m src.items ls S := rfl
def siK2 (w : W) (S : Store) : Option (List W) → Res Src
  | some ws => .ok ⟨ws, stayOf w ws⟩ S
  | none => .bad
def siK : Res W → Res Src
  | .ok w S => siK2 w S (seqW S w)
  | .exc e S => .exc e S
  | .bad => .bad
@[simp] theorem si_ev : dSeqI a ls S = siK (a ls S) := by
  unfold dSeqI siK
  cases a ls S <;> rfl
@[simp] theorem siK_ok : siK (.ok w S) = siK2 w S (seqW S w) := rfl
@[simp] theorem siK2_ok : siK2 w S (some ws) = .ok ⟨ws, stayOf w ws⟩ S := rfl
def r1K : Res W → Res Src
  | .ok (.int j) S => if -(2 ^ 62) ≤ j ∧ j < 2 ^ 62 then .ok ⟨rngW 0 j.toNat, fun _ => True⟩ S else .bad
  | .exc e S => .exc e S
  | _ => .bad
@[simp] theorem r1_ev : dRng1 a ls S = r1K (a ls S) := by
  unfold dRng1 r1K
  cases a ls S <;> first | rfl | skip
  rename_i w S1
  cases w <;> rfl
theorem r1K_ok {j : Int} (h : -(2 ^ 62) ≤ j ∧ j < 2 ^ 62) : r1K (.ok (.int j) S) = .ok ⟨rngW 0 j.toNat, fun _ => True⟩ S := if_pos h
theorem loop_nil (h : st S) : dLoop st gg m [] ls S = .nx ls S := by
  unfold dLoop
  rw [if_pos h]
noncomputable def lpK (st : Store → Prop) (g : DG) (m : DS) (ws : List W) : RS → RS := fun r => match r with
  | .nx ls1 S1 => dLoop st g m ws ls1 S1
  | .ct ls1 S1 => dLoop st g m ws ls1 S1
  | .bk ls1 S1 => .nx ls1 S1
  | r => r
theorem loop_cons {ls0 : Lo} (h : st S) (h2 : gg w ls = some ls0) : dLoop st gg m (w :: ws) ls S = lpK st gg m ws (m ls0 S) := by
  unfold dLoop lpK
  rw [if_pos h, h2]
  all_goals dsimp only
  all_goals (cases m ls0 S <;> rfl)
end
end Fs
set_option maxHeartbeats 4000000
namespace Fs
open PySem L2
/-! ### loops by invariants -/
theorem loop_inv {st : Store → Prop} {gg : DG} {m : DS} (I : Nat → Lo → Store → Prop) (hst : ∀ i ls S, I i ls S → st S) : ∀ (items : List W) (k : Nat),
    (∀ i w ls S, items[i]? = some w → I (k + i) ls S → ∃ ls0 ls1 S1, gg w ls = some ls0 ∧ (m ls0 S = .nx ls1 S1 ∨ m ls0 S = .ct ls1 S1) ∧ I (k + i + 1) ls1 S1) →
    ∀ ls S, I k ls S → ∃ ls1 S1, dLoop st gg m items ls S = .nx ls1 S1 ∧ I (k + items.length) ls1 S1
  | [], k, _, ls, S, h => ⟨ls, S, loop_nil (hst _ _ _ h), h⟩
  | w :: ws, k, hs, ls, S, h => by
    obtain ⟨ls0, ls1, S1, e1, e2, h1⟩ := hs 0 w ls S rfl h
    have ih := loop_inv I hst ws (k + 1) (fun i w' ls' S' e h' => by
      have e3 : k + 1 + i = k + (i + 1) := by omega
      rw [e3] at h' ⊢
      exact hs (i + 1) w' ls' S' (by simpa using e) h') ls1 S1 h1
    obtain ⟨ls2, S2, e3, h2⟩ := ih
    refine ⟨ls2, S2, ?_, ?_⟩
    · rw [loop_cons (hst _ _ _ h) e1]
      rcases e2 with e2 | e2 <;> rw [e2] <;> exact e3
    · rw [List.length_cons, show k + (ws.length + 1) = k + 1 + ws.length by omega]
      exact h2
/-- every turn goes on, or one returns -/
theorem loop_find {st : Store → Prop} {gg : DG} {m : DS} (I : Nat → Lo → Store → Prop) (R : W → Store → Prop) (hst : ∀ i ls S, I i ls S → st S) : ∀ (items : List W) (k : Nat),
    (∀ i w ls S, items[i]? = some w → I (k + i) ls S → ∃ ls0, gg w ls = some ls0 ∧ ((∃ ls1 S1, (m ls0 S = .nx ls1 S1 ∨ m ls0 S = .ct ls1 S1) ∧ I (k + i + 1) ls1 S1) ∨ ∃ v S1, m ls0 S = .rt v S1 ∧ R v S1)) →
    ∀ ls S, I k ls S → (∃ ls1 S1, dLoop st gg m items ls S = .nx ls1 S1 ∧ I (k + items.length) ls1 S1) ∨ ∃ v S1, dLoop st gg m items ls S = .rt v S1 ∧ R v S1
  | [], k, _, ls, S, h => .inl ⟨ls, S, loop_nil (hst _ _ _ h), h⟩
  | w :: ws, k, hs, ls, S, h => by
    obtain ⟨ls0, e1, h1⟩ := hs 0 w ls S rfl h
    rw [loop_cons (hst _ _ _ h) e1]
    rcases h1 with ⟨ls1, S1, e2, h1⟩ | ⟨v, S1, e2, h1⟩
    · have ih := loop_find I R hst ws (k + 1) (fun i w' ls' S' e h' => by
        have e3 : k + 1 + i = k + (i + 1) := by omega
        rw [e3] at h' ⊢
        exact hs (i + 1) w' ls' S' (by simpa using e) h') ls1 S1 h1
      rw [show k + (w :: ws).length = k + 1 + ws.length by rw [List.length_cons]; omega]
      rcases e2 with e2 | e2 <;> rw [e2] <;> exact ih
    · rw [e2]
      exact .inr ⟨v, S1, rfl, h1⟩
theorem sum_loc {S : Store} {n : Nat} {ws : List W} {ns : List Int} (h : S[n]? = some (.lst ws)) (h2 : intsW ws = some ns) : gSum [.loc n] S = .ok (.int ns.sum) S := by
  show (match lstW S (.loc n) with | some us => (match intsW us with | some ns => Res.ok (W.int ns.sum) S | none => Res.bad) | none => Res.bad) = _
  rw [lst_loc h]
  dsimp only
  rw [h2]
theorem tuple_loc {S : Store} {n : Nat} {ws : List W} (h : S[n]? = some (.lst ws)) : gTuple [.loc n] S = .ok (.tup ws) S := by
  show (match seqW S (.loc n) with | some us => Res.ok (W.tup us) S | none => Res.bad) = _
  rw [show seqW S (.loc n) = lstW S (.loc n) from rfl, lst_loc h]
theorem append_loc {S : Store} {n : Nat} {ws : List W} {w : W} (h : S[n]? = some (.lst ws)) (hl : ws.length < 100000) : gAppend (.loc n) w S = .ok .non (S.set n (.lst (ws ++ [w]))) := by
  show (match S[n]? with | some (.lst ws) => if ws.length < sizeLine then Res.ok W.non (S.set n (.lst (ws ++ [w]))) else .bad | _ => .bad) = _
  rw [h]
  exact if_pos (Nat.lt_of_lt_of_le hl (by decide))
/-! ### comprehensions -/
section
variable {it : DI} {vs : List Nat} {j : Nat} {tt : DT} {te : DE} {ls : Lo} {S S1 : Store} {ws : List W} {st : Store → Prop}
noncomputable def lcK (g : DG) (vs : List Nat) (tt : DT) (te : DE) (ls : Lo) : Res Src → Res W
  | .ok src S1 => dLcLoop src.stay g tt te S1.length (wipeW ls vs) src.items (S1 ++ [.lst []])
  | .exc e S => .exc e S
  | .bad => .bad
@[simp] theorem lc_ev {g : DG} : dLc it g vs tt te ls S = lcK g vs tt te ls (it ls S) := by
  unfold dLc lcK
  cases it ls S <;> rfl
theorem lcLoop_nil {g : DG} {D : Nat} (h : st S) : dLcLoop st g tt te D ls [] S = .ok (.loc D) S := by
  unfold dLcLoop
  rw [if_pos h]
theorem lcLoop_cons {g : DG} {D : Nat} {w : W} {ls2 : Lo} {S2 S3 : Store} {y : W} {acc : List W} (h : st S) (h1 : g w ls = some ls2) (h2 : tt ls2 S = .ok true S2) (h3 : te ls2 S2 = .ok y S3) (h4 : S3[D]? = some (.lst acc)) (h5 : acc.length < sizeLine) :
    dLcLoop st g tt te D ls (w :: ws) S = dLcLoop st g tt te D ls ws (S3.set D (.lst (acc ++ [y]))) := by
  rw [dLcLoop, if_pos h]
  simp only [h1, h2, h3, h4, Res.bind, cellLst, if_pos h5, if_true]
theorem lcLoop_skip {g : DG} {D : Nat} {w : W} {ls2 : Lo} {S2 : Store} (h : st S) (h1 : g w ls = some ls2) (h2 : tt ls2 S = .ok false S2) :
    dLcLoop st g tt te D ls (w :: ws) S = dLcLoop st g tt te D ls ws S2 := by
  rw [dLcLoop, if_pos h]
  simp only [h1, h2, Res.bind]
  rfl
/-- by an invariant over (turn, list so far, store) -/
theorem lcLoop_inv {g : DG} {D : Nat} (I : Nat → List W → Store → Prop) (hst : ∀ i acc S, I i acc S → st S) : ∀ (ws : List W) (k : Nat),
    (∀ i w acc S, ws[i]? = some w → I (k + i) acc S → ∃ ls2 b S2, g w ls = some ls2 ∧ tt ls2 S = .ok b S2 ∧ (b = false → I (k + i + 1) acc S2) ∧
      (b = true → ∃ y S3, te ls2 S2 = .ok y S3 ∧ S3[D]? = some (.lst acc) ∧ acc.length < 100000 ∧ I (k + i + 1) (acc ++ [y]) (S3.set D (.lst (acc ++ [y]))))) →
    ∀ acc S, I k acc S → ∃ acc1 S1, dLcLoop st g tt te D ls ws S = .ok (.loc D) S1 ∧ I (k + ws.length) acc1 S1
  | [], k, _, acc, S, h => ⟨acc, S, lcLoop_nil (hst _ _ _ h), h⟩
  | w :: ws, k, hs, acc, S, h => by
    obtain ⟨ls2, b, S2, e1, e2, hf, ht⟩ := hs 0 w acc S rfl h
    have ih := fun acc' S' h' => lcLoop_inv I hst ws (k + 1) (fun i w' ac S' e h' => by
      have e3 : k + 1 + i = k + (i + 1) := by omega
      rw [e3] at h' ⊢
      exact hs (i + 1) w' ac S' (by simpa using e) h') acc' S' h'
    rw [show k + (w :: ws).length = k + 1 + ws.length by rw [List.length_cons]; omega]
    cases b with
    | false =>
      rw [lcLoop_skip (hst _ _ _ h) e1 e2]
      exact ih acc S2 (hf rfl)
    | true =>
      obtain ⟨y, S3, e3, e4, e5, h3⟩ := ht rfl
      rw [lcLoop_cons (hst _ _ _ h) e1 e2 e3 e4 (Nat.lt_of_lt_of_le e5 (by decide))]
      exact ih _ _ h3
theorem get_mid {S cs : Store} {c : Cell} : (S ++ c :: cs)[S.length]? = some c := by
  rw [List.getElem?_append_right (Nat.le_refl _), Nat.sub_self]
  rfl
theorem set_mid {S cs : Store} {c d : Cell} : (S ++ c :: cs).set S.length d = S ++ d :: cs := by
  rw [List.set_append_right _ _ (Nat.le_refl _), Nat.sub_self]
  rfl
/-- what makes new cells alone -/
theorem lc_map {R : W → W → Prop} (hst : ∀ acc cs, st (S1 ++ .lst acc :: cs)) (hl : ws.length < 100000)
    (he : ∀ w S, w ∈ ws → ∃ y cs, te ((wipeW ls vs).set j (some w)) S = .ok y (S ++ cs) ∧ R w y) :
    ∃ ys cs, lcK (dgName j) vs dYes te ls (.ok ⟨ws, st⟩ S1) = .ok (.loc S1.length) (S1 ++ .lst ys :: cs) ∧ ys.length = ws.length ∧ ∀ (i : Nat) (w y : W), ws[i]? = some w → ys[i]? = some y → R w y := by
  have key := lcLoop_inv (st := st) (g := dgName j) (tt := dYes) (te := te) (ls := wipeW ls vs) (D := S1.length) (fun i acc S => (∃ cs, S = S1 ++ .lst acc :: cs) ∧ acc.length = i ∧ i ≤ ws.length ∧ ∀ (i : Nat) (w y : W), ws[i]? = some w → acc[i]? = some y → R w y)
    (fun i acc S h => by
      obtain ⟨⟨cs, rfl⟩, _⟩ := h
      exact hst _ _) ws 0 (fun i w acc S ew h => by
        obtain ⟨⟨cs, rfl⟩, h1, h2, h3⟩ := h
        obtain ⟨y, cs', e, r⟩ := he w (S1 ++ .lst acc :: cs) (List.mem_of_getElem? ew)
        refine ⟨_, true, _, rfl, rfl, fun z => (by cases z), fun _ => ⟨y, _, e, ?_, by omega, ?_, ?_, ?_, ?_⟩⟩
        · rw [List.append_assoc]
          exact get_mid
        · refine ⟨cs ++ cs', ?_⟩
          rw [List.append_assoc]
          exact set_mid
        · rw [List.length_append, h1]
          rfl
        · have := (List.getElem?_eq_some_iff.mp ew).1
          omega
        · intro i' w' y' e1 e2
          by_cases q : i' < acc.length
          · rw [List.getElem?_append_left q] at e2
            exact h3 i' w' y' e1 e2
          · by_cases q2 : i' = acc.length
            · subst q2
              rw [List.getElem?_append_right (Nat.le_refl _), Nat.sub_self] at e2
              cases e2
              rw [show acc.length = i by omega, ew] at e1
              cases e1
              exact r
            · rw [List.getElem?_eq_none (by rw [List.length_append, List.length_singleton]; omega)] at e2
              cases e2) [] (S1 ++ [.lst []]) ⟨⟨[], rfl⟩, rfl, Nat.zero_le _, fun i w y _ e => (by simp at e)⟩
  obtain ⟨ys, S2, e, ⟨cs, rfl⟩, h1, h2, h3⟩ := key
  exact ⟨ys, cs, e, by omega, h3⟩
end
end Fs
set_option maxHeartbeats 4000000
namespace Fs
open PySem L2

/-! ### dicts: keys ints and texts -/
def keyW : W → Option L2.Key
  | .int i => some (.inl i)
  | .str x => some (.inr x)
  | _ => none
def dctW (S : Store) : W → Option (List (L2.Key × W))
  | .loc n => match S[n]? with
    | some (.dct kvs) => some kvs
    | _ => none
  | _ => none
def valW (kvs : List (L2.Key × W)) (k : L2.Key) : Option W := (kvs.find? fun kv => decide (kv.1 = k)).map (·.2)
def putW (kvs : List (L2.Key × W)) (k : L2.Key) (v : W) : List (L2.Key × W) :=
  if kvs.any fun kv => decide (kv.1 = k) then kvs.map fun kv => if kv.1 = k then (kv.1, v) else kv else kvs ++ [(k, v)]
def mergeW (kvs more : List (L2.Key × W)) : List (L2.Key × W) := more.foldl (fun acc kv => putW acc kv.1 kv.2) kvs
theorem putK_def (kvs : List (L2.Key × V)) (k : L2.Key) (v : V) : putK kvs k v = if kvs.any fun kv => decide (kv.1 = k) then kvs.map fun kv => if kv.1 = k then (kv.1, v) else kv else kvs ++ [(k, v)] := rfl
/-- what a dict of ours stands for -/
inductive KVr (K : PySem.W.Frag) (μ : Mu) (H : Hp) : List (L2.Key × V) → List (L2.Key × W) → Prop
  | nil : KVr K μ H [] []
  | cons {k : L2.Key} {v : V} {w : W} {vs : List (L2.Key × V)} {ws : List (L2.Key × W)} : Vr K μ H v w → KVr K μ H vs ws → KVr K μ H ((k, v) :: vs) ((k, w) :: ws)
section
variable {K : PySem.W.Frag} {μ : Mu} {H : Hp} {S : Store}
theorem KVr.of : ∀ {ws : List (L2.Key × W)} {vs : List (L2.Key × V)}, vs.map (·.1) = ws.map (·.1) → VrA K μ H (vs.map (·.2)) (ws.map (·.2)) → KVr K μ H vs ws
  | [], vs, e, h => by
    cases vs with
    | nil => exact .nil
    | cons a b => cases e
  | (k, w) :: ws, vs, e, h => by
    cases vs with
    | nil => cases e
    | cons a b =>
      obtain ⟨k', v⟩ := a
      rw [List.map_cons, List.map_cons] at e h
      injection e with e1 e2
      cases h with
      | cons h1 h2 =>
        have e1 : k' = k := e1
        subst e1
        exact .cons h1 (KVr.of e2 h2)
theorem KVr.keys {ws : List (L2.Key × W)} {vs : List (L2.Key × V)} (h : KVr K μ H vs ws) : vs.map (·.1) = ws.map (·.1) := by
  induction h with
  | nil => rfl
  | cons _ _ ih => rw [List.map_cons, List.map_cons, ih]
theorem KVr.vals {ws : List (L2.Key × W)} {vs : List (L2.Key × V)} (h : KVr K μ H vs ws) : VrA K μ H (vs.map (·.2)) (ws.map (·.2)) := by
  induction h with
  | nil => exact .nil
  | cons h1 _ ih => exact .cons h1 ih
theorem KVr.length {ws : List (L2.Key × W)} {vs : List (L2.Key × V)} (h : KVr K μ H vs ws) : vs.length = ws.length := by
  induction h with
  | nil => rfl
  | cons h1 _ ih => rw [List.length_cons, List.length_cons, ih]
theorem KVr.mono {μ' : Mu} {H' : Hp} (g : Gr μ μ' H H') {ws : List (L2.Key × W)} {vs : List (L2.Key × V)} (h : KVr K μ H vs ws) : KVr K μ' H' vs ws := by
  induction h with
  | nil => exact .nil
  | cons h1 _ ih => exact .cons (h1.mono g) ih
theorem KVr.mono0 {μ' : Mu} {H' : Hp} (g : Gq μ μ' H H') {ws : List (L2.Key × W)} {vs : List (L2.Key × V)} (h : KVr K μ H vs ws) : KVr K μ' H' vs ws := by
  induction h with
  | nil => exact .nil
  | cons h1 _ ih => exact .cons (h1.mono0 g) ih
/-- a dict's value at a key: nothing or two that stand for one another -/
def OptR (K : PySem.W.Frag) (μ : Mu) (H : Hp) : Option V → Option W → Prop
  | none, none => True
  | some v, some w => Vr K μ H v w
  | _, _ => False
theorem OptR.some {o : Option V} {x : W} (h : OptR K μ H o (some x)) : ∃ v, o = Option.some v ∧ Vr K μ H v x := by
  cases o with
  | none => exact False.elim h
  | some v => exact ⟨v, rfl, h⟩
theorem OptR.isSome {o : Option V} {x : Option W} (h : OptR K μ H o x) : o.isSome = x.isSome := by
  cases o <;> cases x <;> first | rfl | exact False.elim h
theorem KVr.val {ws : List (L2.Key × W)} {vs : List (L2.Key × V)} (h : KVr K μ H vs ws) (k : L2.Key) : OptR K μ H (valV vs k) (valW ws k) := by
  induction h with
  | nil => exact True.intro
  | @cons k' v w vs ws h1 _ ih =>
    by_cases e : k' = k
    · rw [valV_pos (p := (k', v)) e]
      have : valW ((k', w) :: ws) k = some w := by simp [valW, List.find?_cons, e]
      rw [this]
      exact h1
    · rw [valV_neg (p := (k', v)) e]
      have : valW ((k', w) :: ws) k = valW ws k := by simp [valW, List.find?_cons, e]
      rw [this]
      exact ih
theorem KVr.any {ws : List (L2.Key × W)} {vs : List (L2.Key × V)} (h : KVr K μ H vs ws) (k : L2.Key) : (vs.any fun kv => decide (kv.1 = k)) = ws.any fun kv => decide (kv.1 = k) := by
  induction h with
  | nil => rfl
  | cons h1 _ ih => rw [List.any_cons, List.any_cons, ih]
theorem KVr.append {ws ws' : List (L2.Key × W)} {vs vs' : List (L2.Key × V)} (h : KVr K μ H vs ws) (h' : KVr K μ H vs' ws') : KVr K μ H (vs ++ vs') (ws ++ ws') := by
  induction h with
  | nil => exact h'
  | cons h1 _ ih => exact .cons h1 ih
theorem KVr.put {ws : List (L2.Key × W)} {vs : List (L2.Key × V)} (h : KVr K μ H vs ws) (k : L2.Key) {v : V} {w : W} (r : Vr K μ H v w) : KVr K μ H (putK vs k v) (putW ws k w) := by
  rw [putK_def]
  unfold putW
  rw [h.any k]
  cases ws.any fun kv => decide (kv.1 = k) with
  | false => exact h.append (.cons r .nil)
  | true =>
    rw [if_pos rfl, if_pos rfl]
    induction h with
    | nil => exact .nil
    | @cons k' v' w' vs ws h1 _ ih =>
      simp only [List.map_cons]
      by_cases e : k' = k
      · subst e
        rw [if_pos rfl, if_pos rfl]
        exact .cons r ih
      · rw [if_neg e, if_neg e]
        exact .cons h1 ih
theorem KVr.merge {more : List (L2.Key × W)} {rs : List (L2.Key × V)} (h : KVr K μ H rs more) : ∀ {ws : List (L2.Key × W)} {vs : List (L2.Key × V)}, KVr K μ H vs ws → KVr K μ H (mergeK vs rs) (mergeW ws more) := by
  induction h with
  | nil => intro ws vs q; exact q
  | @cons k v w rs more h1 _ ih =>
    intro ws vs q
    exact ih (q.put k h1)
theorem key_v {w : W} {v : V} {k : L2.Key} (r : Vr K μ H v w) (h : keyW w = some k) : v = kV k := by
  cases r <;> first | (cases h; rfl) | cases h
theorem Sim.cellD (s : Sim K μ S H) {w : W} {ws : List (L2.Key × W)} {v : V} (h : dctW S w = some ws) (r : Vr K μ H v w) : ∃ n a xs, w = .loc n ∧ v = .ref a ∧ μ n = some a ∧ H a = some (.dK xs) ∧ KVr K μ H xs ws := by
  cases r with
  | @loc n a h1 =>
    have h' : (match S[n]? with
      | some (.dct kvs) => some kvs
      | _ => none) = some ws := h
    split at h'
    · rename_i ws' e
      cases h'
      obtain ⟨a', h2, xs, h3, h4, h5⟩ := s.cell n _ e
      rw [h1] at h2
      cases h2
      exact ⟨n, a, xs, rfl, rfl, h1, h3, .of h4 h5⟩
    · cases h'
  | _ => exact absurd (show (none : Option (List (L2.Key × W))) = some ws from h) (by simp)
end

/-! ### in, not in, [] of dicts -/
def gDIn (neg : Bool) (x y : W) (S : Store) : Res W := match dctW S y, keyW x with
  | some kvs, some k => .ok (.bl (neg != (valW kvs k).isSome)) S
  | _, _ => .bad
def gDIx (x y : W) (S : Store) : Res W := match dctW S x, keyW y with
  | some kvs, some k => (match valW kvs k with
    | some w => .ok w S
    | none => .bad)
  | _, _ => .bad
section
variable {X : Cx} {Wx : WE} {a b c e : Expr} {es : List Expr} {ma mb mc : DE} {pos : Pos}
theorem op_dIn (hu : X.A.units + 1 < cLine) : OpR X (compareOp .In) (fun x y H Q => ∃ a o, y = .ref a ∧ DGet H a x o ∧ Q (.bl o.isSome) H) := by
  rintro pins s σ H x y v u Q I rx ry ⟨a, o, ey, g, q⟩
  subst ey
  cases (show u = .ref a from ry)
  exact d_in hu I g rx fun s3 I3 => ⟨.bl o.isSome, H, I3, rfl, q⟩
theorem op_dNotIn (hu : X.A.units + 1 < cLine) : OpR X (compareOp .NotIn) (fun x y H Q => ∃ a o, y = .ref a ∧ DGet H a x o ∧ Q (.bl (!o.isSome)) H) := by
  rintro pins s σ H x y v u Q I rx ry ⟨a, o, ey, g, q⟩
  subst ey
  cases (show u = .ref a from ry)
  exact d_notIn hu I g rx fun s3 I3 => ⟨.bl (!o.isSome), H, I3, rfl, q⟩
theorem so_dInB {neg : Bool} {op : CmpOp} (h : OpR X (compareOp op) (fun x y H Q => ∃ a o, y = .ref a ∧ DGet H a x o ∧ Q (.bl (neg != o.isSome)) H)) : SO X (compareOp op) (gDIn neg) := ⟨_, h, fun E x y H μ S wx wy Q hS rx ry hb => by
  unfold gDIn at hb
  split at hb
  · rename_i kvs k e1 e2
    obtain ⟨n, a, xs, rfl, rfl, h1, h2, h3⟩ := hS.cellD e1 ry
    have ek := key_v rx e2
    subst ek
    refine ⟨a, _, rfl, DGet.k h2, ?_⟩
    rw [(h3.val k).isSome]
    exact hb _ H μ (Gr.refl _ _) hS (.bl _)
  · exact False.elim hb⟩
theorem so_dIn (hu : X.A.units + 1 < cLine) : SO X (compareOp .In) (gDIn false) := so_dInB fun pins s σ H x y v u Q I rx ry h => op_dIn hu pins s σ H x y v u Q I rx ry (by simpa only [false_bne] using h)
theorem so_dNotIn (hu : X.A.units + 1 < cLine) : SO X (compareOp .NotIn) (gDIn true) := so_dInB fun pins s σ H x y v u Q I rx ry h => op_dNotIn hu pins s σ H x y v u Q I rx ry (by simpa only [true_bne] using h)
theorem se_dIx (hu : X.A.units + 1 < cLine) (ha : SE X Wx a ma) (hb : SE X Wx b mb) (hs : NoSl b := by exact fun _ _ => rfl) : SE X Wx (.Subscript a b pos) (dOp gDIx ma mb) := by
  obtain ⟨t1, p1, q1⟩ := ha.ex
  obtain ⟨t2, p2, q2⟩ := hb.ex
  refine ⟨_, pe_dget hu p1 p2 hs, fun σ H μ ls S Q hL hS h => ?_⟩
  refine q1 σ H μ ls S _ hL hS (Bd.bind (fun w1 S1 v1 H1 μ1 g1 s1 r1 h1 => ?_) h)
  refine q2 σ H1 μ1 ls S1 _ (hL.mono g1) s1 (Bd.bind (fun w2 S2 v2 H2 μ2 g2 s2 r2 h2 => ?_) h1)
  have r1 := r1.mono g2
  unfold gDIx at h2
  split at h2
  · rename_i kvs k e1 e2
    obtain ⟨n, a, xs, rfl, rfl, h3, h4, h5⟩ := s2.cellD e1 r1
    have ek := key_v r2 e2
    subst ek
    split at h2
    · rename_i w ew
      have := h5.val k
      rw [ew] at this
      obtain ⟨v, ev, rv⟩ := this.some
      refine ⟨a, v, rfl, ?_, h2 v H2 μ2 (Gr.refl _ _) s2 rv⟩
      rw [← ev]
      exact DGet.k h4
    · exact False.elim h2
  · exact False.elim h2

/-! ### displays -/
def dPairs : List (DE × DE) → Lo → Store → Res (List (W × W))
  | [] => fun _ S => .ok [] S
  | (a, b) :: r => fun ls S => (a ls S).bind fun x S1 => (b ls S1).bind fun y S2 => (dPairs r ls S2).bind fun ps S3 => .ok ((x, y) :: ps) S3
inductive PrA (K : PySem.W.Frag) (μ : Mu) (H : Hp) : List (V × V) → List (W × W) → Prop
  | nil : PrA K μ H [] []
  | cons {k v : V} {x w : W} {vs : List (V × V)} {ws : List (W × W)} : Vr K μ H k x → Vr K μ H v w → PrA K μ H vs ws → PrA K μ H ((k, v) :: vs) ((x, w) :: ws)
abbrev RlP (K : PySem.W.Frag) : Mu → Hp → List (V × V) → List (W × W) → Prop := fun μ H v w => PrA K μ H v w
theorem PrA.mono {K : PySem.W.Frag} {μ μ' : Mu} {H H' : Hp} (g : Gr μ μ' H H') {ws : List (W × W)} {vs : List (V × V)} (h : PrA K μ H vs ws) : PrA K μ' H' vs ws := by
  induction h with
  | nil => exact .nil
  | cons h1 h2 _ ih => exact .cons (h1.mono g) (h2.mono g) ih
structure SPr (X : Cx) (Wx : WE) (pos : Pos) (keys : List (Option Expr)) (values : List Expr) (m : Lo → Store → Res (List (W × W))) : Prop where
  ex : ∃ trs, PPs X pos keys values trs ∧ ∀ σ H μ ls S Q, LR X.K μ H σ ls → Sim X.K μ S H → Bd X.K X.mg (RlP X.K) (fun c d H' => Wx c d σ H') μ H (m ls S) Q → tPairs trs σ H Q
theorem sp_nil : SPr X Wx pos [] [] (dPairs []) := ⟨_, pps_nil, fun σ H μ ls S Q hL hS h => h [] H μ (Gr.refl _ _) hS .nil⟩
theorem sp_cons {ks : List (Option Expr)} {vs : List Expr} {ms : List (DE × DE)} (ha : SE X Wx a ma) (hb : SE X Wx b mb) (hr : SPr X Wx pos ks vs (dPairs ms)) : SPr X Wx pos (some a :: ks) (b :: vs) (dPairs ((ma, mb) :: ms)) := by
  obtain ⟨t1, p1, q1⟩ := ha.ex
  obtain ⟨t2, p2, q2⟩ := hb.ex
  obtain ⟨t3, p3, q3⟩ := hr.ex
  refine ⟨_, pps_cons p1 p2 p3, fun σ H μ ls S Q hL hS h => ?_⟩
  refine q1 σ H μ ls S _ hL hS (Bd.bind (fun w1 S1 v1 H1 μ1 g1 s1 r1 h1 => ?_) h)
  refine q2 σ H1 μ1 ls S1 _ (hL.mono g1) s1 (Bd.bind (fun w2 S2 v2 H2 μ2 g2 s2 r2 h2 => ?_) h1)
  refine q3 σ H2 μ2 ls S2 _ ((hL.mono g1).mono g2) s2 (Bd.bind (fun w3 S3 v3 H3 μ3 g3 s3 r3 h3 => ?_) h2)
  exact h3 _ H3 μ3 (Gr.refl _ _) s3 (.cons ((r1.mono g2).mono g3) (r2.mono g3) r3)
def keysW : List (W × W) → Option (List (L2.Key × W))
  | [] => some []
  | (x, w) :: r => match keyW x, keysW r with
    | some k, some rs => some ((k, w) :: rs)
    | _, _ => none
theorem keys_of {K : PySem.W.Frag} {μ : Mu} {H : Hp} {ws : List (W × W)} {vs : List (V × V)} (h : PrA K μ H vs ws) : ∀ {kvs : List (L2.Key × W)}, keysW ws = some kvs → ∃ xs : List (L2.Key × V), vs = xs.map (fun kv => (kV kv.1, kv.2)) ∧ KVr K μ H xs kvs := by
  induction h with
  | nil => intro kvs e; cases e; exact ⟨[], rfl, .nil⟩
  | @cons k v x w vs ws h1 h2 _ ih =>
    intro kvs e
    unfold keysW at e
    split at e
    · rename_i k' rs e1 e2
      cases e
      obtain ⟨xs, ex, rx⟩ := ih e2
      have ek := key_v h1 e1
      subst ek
      exact ⟨(k', v) :: xs, by rw [List.map_cons, ← ex], .cons h2 rx⟩
    · cases e
def dDisp (ps : List (DE × DE)) : DE := fun ls S => (dPairs ps ls S).bind fun qs S1 => match keysW qs with
  | some kvs => if kvs.length ≤ 15 then .ok (.loc S1.length) (S1 ++ [.dct (mergeW [] kvs)]) else .bad
  | none => .bad
theorem se_new : SE X Wx (.Dict [] [] pos) (dDisp []) := by
  refine ⟨_, pe_dnewK, fun σ H μ ls S Q hL hS h => ?_⟩
  intro p hp
  exact h (.ref p) _ _ (gr_cell hS hp) (hS.alloc (c := .dct []) hp ⟨[], upd_same, rfl, .nil⟩) (.loc muAdd_same)
theorem se_disp {keys : List (Option Expr)} {values : List Expr} {ps : List (DE × DE)} (hp : SPr X Wx pos keys values (dPairs ps)) (hall : keys.all (·.isSome) = true := by rfl) (hl : keys.length = values.length := by rfl) (h0 : keys ≠ [] := by exact fun z => by cases z)
    (h15 : keys.length ≤ 15 := by decide) : SE X Wx (.Dict keys values pos) (dDisp ps) := by
  obtain ⟨t1, p1, q1⟩ := hp.ex
  refine ⟨_, pe_disp p1 hall hl h0 h15, fun σ H μ ls S Q hL hS h => ?_⟩
  intro p hpn
  have hmu : ∀ n, μ n ≠ some p := fun n z => by
    obtain ⟨u, e, _⟩ := hS.there z
    rw [hpn] at e
    cases e
  refine q1 σ _ μ ls S _ (hL.mono (gr_new hpn)) (hS.new hpn) ?_
  unfold dDisp at h
  cases er : dPairs ps ls S with
  | bad => rw [er] at h; exact False.elim h
  | exc e S' =>
    rw [er] at h
    exact fun c d H' μ' g s x => h c d H' μ' ((gr_new hpn).trans g) s x
  | ok qs S1 =>
    rw [er] at h
    intro vs H2 μ2 g s r
    have hk2 := g.kp p _ upd_same hmu
    refine ⟨hk2.1, ?_⟩
    replace h : Bd X.K X.mg (RlV X.K) (fun c d H' => Wx c d σ H') μ H (match keysW qs with
      | some kvs => if kvs.length ≤ 15 then .ok (.loc S1.length) (S1 ++ [.dct (mergeW [] kvs)]) else .bad
      | none => .bad) Q := h
    split at h
    · rename_i kvs ek
      split at h
      · rename_i hz
        obtain ⟨xs, ex, rx⟩ := keys_of r ek
        refine ⟨xs, ex, by rw [rx.length]; exact hz, ?_⟩
        have gq : Gq μ2 μ2 H2 (upd H2 p (.dK (mergeK [] xs))) := ⟨fun _ _ z => z, fun a u z f => by
          rw [upd_ne (fun e => by subst e; rw [hk2.1] at z; cases z; cases f)]
          exact z⟩
        have s' : Sim X.K μ2 S1 (upd H2 p (.dK (mergeK [] xs))) := ⟨fun n c z => by
          obtain ⟨a, z1, z2⟩ := s.cell n c z
          exact ⟨a, z1, z2.mono0 gq (upd_ne fun e => hk2.2 n (by rw [← e]; exact z1))⟩, s.inj, s.top⟩
        have mm : ∀ n a, μ2 n = some a → muAdd μ2 S1.length p n = some a := fun n a z => by rw [muAdd_ne (fun e => by rw [e, s.top _ (Nat.le_refl _)] at z; cases z)]; exact z
        have gq2 : Gq μ2 (muAdd μ2 S1.length p) H2 (upd H2 p (.dK (mergeK [] xs))) := ⟨mm, gq.fx⟩
        have rm := (rx.merge .nil).mono0 gq2
        have g' := (gr_new (u := .dK []) hpn).trans g
        refine h (.ref p) _ (muAdd μ2 S1.length p) ⟨fun n a z => mm n a (g'.mu n a z), fun a u z f => gq.fx a u (g'.fx a u z f) f, fun a u z f => ?_⟩ (s'.add (c := .dct _) hk2.2 ⟨_, upd_same, rm.keys, rm.vals⟩) (.loc muAdd_same)
        have hne : a ≠ p := fun e => by subst e; rw [hpn] at z; cases z
        obtain ⟨z1, z2⟩ := g'.kp a u z f
        refine ⟨by rw [upd_ne hne]; exact z1, fun n e => ?_⟩
        by_cases e' : n = S1.length
        · subst e'
          rw [muAdd_same] at e
          exact hne (Option.some.inj e).symm
        · rw [muAdd_ne e'] at e
          exact z2 n e
      · exact False.elim h
    · exact False.elim h

/-! ### dict(pairs) -/
def pairsW : List W → Option (List (L2.Key × W))
  | [] => some []
  | .tup [x, w] :: r => match keyW x, pairsW r with
    | some k, some rs => some ((k, w) :: rs)
    | _, _ => none
  | _ => none
theorem pairs_ofW {K : PySem.W.Frag} {μ : Mu} {H : Hp} : ∀ {ws : List W} {vs : List V} {kvs : List (L2.Key × W)}, VrA K μ H vs ws → pairsW ws = some kvs → ∃ (ps : List Addr) (xs : List (L2.Key × V)), vs = ps.map V.ref ∧ Paired (fun p kv => SqT K H p [kV kv.1, kv.2]) ps xs ∧ KVr K μ H xs kvs
  | [], _, kvs, h, e => by
    cases h
    cases e
    exact ⟨[], [], rfl, .nil, .nil⟩
  | w0 :: ws, _, kvs, h, e => by
    cases h with
    | cons h1 h2 =>
      unfold pairsW at e
      split at e
      · rename_i heq
        cases heq
      · rename_i x w r heq
        injection heq with q1 q2
        subst q1
        subst q2
        split at e
        · rename_i k rs e1 e2
          cases e
          obtain ⟨ps, xs, ev, pr, kr⟩ := pairs_ofW h2 e2
          cases h1 with
          | @tup p ys _ t1 t2 =>
          cases t2 with
          | cons t2 t3 =>
            cases t3 with
            | cons t3 t4 =>
              cases t4
              have ek := key_v t2 e1
              subst ek
              exact ⟨p :: ps, (k, _) :: xs, by rw [List.map_cons, ← ev], .cons t1.t pr, .cons t3 kr⟩
        · cases e
      · cases e
def gDict (ws : List W) (S : Store) : Res W := match ws with
  | [w] => match lstW S w with
    | some us => (match pairsW us with
      | some kvs => .ok (.loc S.length) (S ++ [.dct (mergeW [] kvs)])
      | none => .bad)
    | none => .bad
  | _ => .bad
theorem sc_dict (hc : X.calm = true) : SC X (.type "dict") gDict := ⟨_, call_dictP hc, fun E xs H μ S ws Q hS rx hb => by
  unfold gDict at hb
  split at hb
  · cases rx with
    | cons r1 r2 =>
      cases r2
      split at hb
      · rename_i us eu
        split at hb
        · rename_i kvs ek
          obtain ⟨a, ys, rfl, hq, r⟩ := lst_of hS eu r1
          obtain ⟨ps, xs, rfl, pr, kr⟩ := pairs_ofW r ek
          refine ⟨a, ps, xs, rfl, hq, pr, fun p hp => ?_⟩
          have rm := (kr.merge .nil).mono (gr_cell (u := .dK (mergeK [] xs)) hS hp)
          exact hb (.ref p) _ _ (gr_cell hS hp) (hS.alloc (c := .dct _) hp ⟨_, upd_same, rm.keys, rm.vals⟩) (.loc muAdd_same)
        · exact False.elim hb
      · exact False.elim hb
  · exact False.elim hb⟩
end
end Fs
set_option maxHeartbeats 4000000
namespace G
open PySem L2 Fs
def topS (i : Nat) : Stmt := PySem.Challenge.pw_guardwords_k00_letters_of_a_kind.main.body.getD i (.Pass ⟨0, 0, 0, 0⟩)
abbrev s__is_number : Stmt := topS 2
theorem sc__is_number : FnScope ["value"] ["value"] (defScope s__is_number) := ⟨rfl, rfl, rfl, by decide +kernel, rfl, by decide +kernel, by decide +kernel⟩
noncomputable def d__is_number : DS :=
  (dRet (dAnd (dCall gIsi [(dVar 0), (dC (.ty "int"))]) (dNot (dCall gIsi [(dVar 0), (dC (.ty "bool"))]))))
noncomputable def f__is_number : DF := mkF 1 1 d__is_number
abbrev s__is_form : Stmt := topS 3
theorem sc__is_form : FnScope ["value", "head", "size"] ["value", "head", "size"] (defScope s__is_form) := ⟨rfl, rfl, rfl, by decide +kernel, rfl, by decide +kernel, by decide +kernel⟩
noncomputable def d__is_form : DS :=
  (dRet (dAnd (dOp gEq (dCall gLen [(dVar 0)]) (dVar 2)) (dOp gEq (dOp gIx (dVar 0) (dC (.int 0))) (dVar 1))))
noncomputable def f__is_form : DF := mkF 3 3 d__is_form
abbrev s__is_case : Stmt := topS 4
theorem sc__is_case : FnScope ["kinds", "value"] ["kinds", "value"] (defScope s__is_case) := ⟨rfl, rfl, rfl, by decide +kernel, rfl, by decide +kernel, by decide +kernel⟩
noncomputable def d__is_case : DS :=
  (dRet (dAnd (dCall f__is_number [(dVar 1)]) (dChain gLe gLt (dC (.int 0)) (dVar 1) (dCall gLen [(dVar 0)]))))
noncomputable def f__is_case : DF := mkF 2 2 d__is_case
abbrev s_is_letter : Stmt := topS 1
theorem sc_is_letter : FnScope ["kind", "value", "head"] ["kind", "value"] (defScope s_is_letter) := ⟨rfl, rfl, rfl, by decide +kernel, rfl, by decide +kernel, by decide +kernel⟩
noncomputable def d_is_letter (self : DF) : DS :=
  (dSeq (dSet 2 (dOp gIx (dVar 0) (dC (.int 0))))
  (dSeq (dIf (dTB (dOp gEq (dVar 2) (dC (.str (PySem.Str.ofString "names"))))) (dRet (dOp gIn (dVar 1) (dOp gIx (dVar 0) (dC (.int 1))))) dNx)
  (dSeq (dIf (dTB (dOp gEq (dVar 2) (dC (.str (PySem.Str.ofString "integers"))))) (dRet (dCall f__is_number [(dVar 1)])) dNx)
  (dSeq (dIf (dNotT (dT (dCall gIsi [(dVar 1), (dC (.ty "tuple"))]))) (dRet (dC (.bl false))) dNx)
  (dSeq (dIf (dTB (dOp gEq (dVar 2) (dC (.str (PySem.Str.ofString "pair"))))) (dRet (dAnd (dCall f__is_form [(dVar 1), (dC (.str (PySem.Str.ofString "pair"))), (dC (.int 3))]) (dAnd (dCall self [(dOp gIx (dVar 0) (dC (.int 1))), (dOp gIx (dVar 1) (dC (.int 1)))]) (dCall self [(dOp gIx (dVar 0) (dC (.int 2))), (dOp gIx (dVar 1) (dC (.int 2)))])))) dNx)
  (dSeq (dIf (dTB (dOp gEq (dVar 2) (dC (.str (PySem.Str.ofString "either"))))) (dRet (dAnd (dCall f__is_form [(dVar 1), (dC (.str (PySem.Str.ofString "case"))), (dC (.int 3))]) (dAnd (dCall f__is_case [(dOp gIx (dVar 0) (dC (.int 1))), (dOp gIx (dVar 1) (dC (.int 1)))]) (dCall self [(dOp gIx (dOp gIx (dVar 0) (dC (.int 1))) (dOp gIx (dVar 1) (dC (.int 1)))), (dOp gIx (dVar 1) (dC (.int 2)))])))) dNx)
  (dRet (dOr (dOp gEq (dVar 1) (dTup [(dC (.str (PySem.Str.ofString "none")))])) (dAnd (dCall f__is_form [(dVar 1), (dC (.str (PySem.Str.ofString "some"))), (dC (.int 2))]) (dCall self [(dOp gIx (dVar 0) (dC (.int 1))), (dOp gIx (dVar 1) (dC (.int 1)))]))))))))))
noncomputable def f_is_letter : Nat → DF
  | 0 => fun _ _ => .bad
  | n + 1 => mkF 3 2 (d_is_letter (f_is_letter n))
abbrev s__law_tape : Stmt := topS 6
theorem sc__law_tape : FnScope ["script", "mixed", "cell"] ["script"] (defScope s__law_tape) := ⟨rfl, rfl, rfl, by decide +kernel, rfl, by decide +kernel, by decide +kernel⟩
noncomputable def d__law_tape : DS :=
  (dSeq (dSet 1 (dC (.int 7)))
  (dSeq (dFor (dSeqI (dVar 0)) (dgName 2) (dSet 1 (dOp gMod (dCall gInt [(dOp gAdd (dOp gMul (dVar 1) (dC (.int 31))) (dCall gAbs [(dCall gInt [(dVar 2)])]))]) (dC (.int 2147483647)))))
  (dRet (dLst [(dCall gList [(dVar 0)]), (dC (.int 0)), (dC (.int 0)), (dVar 1)]))))
noncomputable def f__law_tape : DF := mkF 3 1 d__law_tape
abbrev s__law_draw : Stmt := topS 7
theorem sc__law_draw : FnScope ["tape", "many", "place", "number"] ["tape", "many"] (defScope s__law_draw) := ⟨rfl, rfl, rfl, by decide +kernel, rfl, by decide +kernel, by decide +kernel⟩
noncomputable def d__law_draw : DS :=
  (dSeq (dIf (dTB (dOp gEq (dOp gIx (dVar 0) (dC (.int 2))) (dC (.int 0)))) (dSeq (dSet 2 (dOp gIx (dVar 0) (dC (.int 1))))
    (dSeq (dSet 3 (dC (.int 0)))
    (dSeq (dIf (dTB (dOp gLt (dVar 2) (dCall gLen [(dOp gIx (dVar 0) (dC (.int 0)))]))) (dSet 3 (dCall gAbs [(dCall gInt [(dOp gIx (dOp gIx (dVar 0) (dC (.int 0))) (dVar 2))])])) (dSeq (dSetIx (dVar 0) (dC (.int 3)) (dOp gMod (dCall gInt [(dOp gAdd (dOp gAdd (dOp gMul (dOp gIx (dVar 0) (dC (.int 3))) (dC (.int 48271))) (dVar 2)) (dC (.int 1)))]) (dC (.int 2147483647))))
      (dSet 3 (dOp gIx (dVar 0) (dC (.int 3))))))
    (dSeq (dSetIx (dVar 0) (dC (.int 1)) (dOp gAdd (dVar 2) (dC (.int 1))))
    (dSeq (dIf (dTB (dOp gLt (dVar 3) (dOp gPow (dC (.int 10)) (dC (.int 18))))) (dSeq (dSet 3 (dOp gMod (dCall gInt [(dOp gAdd (dOp gAdd (dOp gMul (dVar 3) (dC (.int 48271))) (dOp gMul (dVar 2) (dC (.int 69621)))) (dC (.int 5)))]) (dC (.int 2147483647))))
      (dSeq (dSet 3 (dOp gMod (dCall gInt [(dOp gMul (dVar 3) (dC (.int 69621)))]) (dC (.int 2147483629))))
      (dRet (dOp gMod (dCall gInt [(dVar 3)]) (dCall gMax [(dVar 1), (dC (.int 1))]))))) dNx)
    (dSetIx (dVar 0) (dC (.int 2)) (dVar 3))))))) dNx)
  (dSeq (dSet 3 (dOp gIx (dVar 0) (dC (.int 2))))
  (dSeq (dSetIx (dVar 0) (dC (.int 2)) (dOp gDiv (dVar 3) (dCall gMax [(dVar 1), (dC (.int 2))])))
  (dRet (dOp gMod (dCall gInt [(dVar 3)]) (dCall gMax [(dVar 1), (dC (.int 1))]))))))
noncomputable def f__law_draw : DF := mkF 4 2 d__law_draw
abbrev s__law_whole : Stmt := topS 8
theorem sc__law_whole : FnScope ["told"] ["told"] (defScope s__law_whole) := ⟨rfl, rfl, rfl, by decide +kernel, rfl, by decide +kernel, by decide +kernel⟩
noncomputable def d__law_whole : DS :=
  (dRet (dAnd (dCall gIsi [(dVar 0), (dC (.ty "int"))]) (dNot (dCall gIsi [(dVar 0), (dC (.ty "bool"))]))))
noncomputable def f__law_whole : DF := mkF 1 1 d__law_whole
abbrev s__law_names : Stmt := topS 9
theorem sc__law_names : FnScope ["tape", "signs", "fixed", "stem", "names", "k", "name"] ["tape"] (defScope s__law_names) := ⟨rfl, rfl, rfl, by decide +kernel, rfl, by decide +kernel, by decide +kernel⟩
noncomputable def d__law_names : DS :=
  (dSeq (dSet 1 (dC (.str (PySem.Str.ofString "abcdexyzABZ0189 !\"#$&'()*+,-./:;<=>?\x40[\\]^_{|}~"))))
  (dSeq (dSet 2 (dLst [(dC (.str (PySem.Str.ofString "none"))), (dC (.str (PySem.Str.ofString "pair"))), (dC (.str (PySem.Str.ofString "case"))), (dC (.str (PySem.Str.ofString "some"))), (dC (.str (PySem.Str.ofString "true"))), (dC (.str (PySem.Str.ofString "0")))]))
  (dSeq (dSet 3 (dOp gIx (dLst [(dC (.str (PySem.Str.ofString ""))), (dC (.str (PySem.Str.ofString ""))), (dC (.str (PySem.Str.ofString ""))), (dC (.str (PySem.Str.ofString "case"))), (dC (.str (PySem.Str.ofString "a ,")))]) (dCall f__law_draw [(dVar 0), (dC (.int 5))])))
  (dSeq (dSet 4 (dLst []))
  (dSeq (dFor (dRng1 (dOp gIx (dLst [(dC (.int 1)), (dC (.int 2)), (dC (.int 2)), (dC (.int 3)), (dC (.int 3)), (dC (.int 4))]) (dCall f__law_draw [(dVar 0), (dC (.int 6))]))) (dgName 5) (dSeq (dSet 6 (dOp gAdd (dVar 3) (dOp gIx (dVar 1) (dCall f__law_draw [(dVar 0), (dCall gLen [(dVar 1)])]))))
    (dSeq (dIf (dTB (dOp gEq (dCall f__law_draw [(dVar 0), (dC (.int 3))]) (dC (.int 0)))) (dSet 6 (dOp gAdd (dVar 6) (dOp gIx (dVar 1) (dCall f__law_draw [(dVar 0), (dCall gLen [(dVar 1)])])))) dNx)
    (dSeq (dIf (dTB (dOp gEq (dCall f__law_draw [(dVar 0), (dC (.int 8))]) (dC (.int 0)))) (dSet 6 (dOp gIx (dVar 2) (dCall f__law_draw [(dVar 0), (dC (.int 6))]))) dNx)
    (dIf (dTB (dOp gNotIn (dVar 6) (dVar 4))) (dExpr (dAppend (dVar 4) (dVar 6))) dNx)))))
  (dRet (dCall gTuple [(dVar 4)])))))))
noncomputable def f__law_names : DF := mkF 7 1 d__law_names
abbrev s__law_kinds : Stmt := topS 10
theorem sc__law_kinds : FnScope ["kind", "piece"] ["kind"] (defScope s__law_kinds) := ⟨rfl, rfl, rfl, by decide +kernel, rfl, by decide +kernel, by decide +kernel⟩
noncomputable def d__law_kinds (self : DF) : DS :=
  (dSeq (dIf (dTB (dOp gEq (dOp gIx (dVar 0) (dC (.int 0))) (dC (.str (PySem.Str.ofString "pair"))))) (dRet (dOp gAdd (dOp gAdd (dC (.int 1)) (dCall self [(dOp gIx (dVar 0) (dC (.int 1)))])) (dCall self [(dOp gIx (dVar 0) (dC (.int 2)))]))) dNx)
  (dSeq (dIf (dTB (dOp gEq (dOp gIx (dVar 0) (dC (.int 0))) (dC (.str (PySem.Str.ofString "either"))))) (dRet (dOp gAdd (dC (.int 1)) (dCall gSum [(dLc (dSeqI (dOp gIx (dVar 0) (dC (.int 1)))) (dgName 1) [1] dYes (dCall self [(dVar 1)]))]))) dNx)
  (dSeq (dIf (dTB (dOp gEq (dOp gIx (dVar 0) (dC (.int 0))) (dC (.str (PySem.Str.ofString "maybe"))))) (dRet (dOp gAdd (dC (.int 1)) (dCall self [(dOp gIx (dVar 0) (dC (.int 1)))]))) dNx)
  (dRet (dC (.int 1))))))
noncomputable def f__law_kinds : Nat → DF
  | 0 => fun _ _ => .bad
  | n + 1 => mkF 2 1 (d__law_kinds (f__law_kinds n))
abbrev s__law_kind : Stmt := topS 11
theorem sc__law_kind : FnScope ["tape", "depth", "many", "choice", "first", "left", "parts", "kinds", "k", "piece"] ["tape", "depth", "many"] (defScope s__law_kind) := ⟨rfl, rfl, rfl, by decide +kernel, rfl, by decide +kernel, by decide +kernel⟩
noncomputable def d__law_kind (self : DF) : DS :=
  (dSeq (dSet 3 (dCall f__law_draw [(dVar 0), (dC (.int 8))]))
  (dSeq (dIf (dOrT (dTB (dOp gEq (dVar 1) (dC (.int 1)))) (dOrT (dTB (dOp gEq (dVar 2) (dC (.int 1)))) (dTB (dOp gLt (dVar 3) (dC (.int 2)))))) (dSeq (dIf (dTB (dOp gEq (dCall f__law_draw [(dVar 0), (dC (.int 3))]) (dC (.int 0)))) (dRet (dTup [(dC (.str (PySem.Str.ofString "names"))), (dCall f__law_names [(dVar 0)])])) dNx)
    (dRet (dTup [(dC (.str (PySem.Str.ofString "integers")))]))) dNx)
  (dSeq (dIf (dOrT (dTB (dOp gEq (dVar 2) (dC (.int 2)))) (dTB (dOp gEq (dVar 3) (dC (.int 2))))) (dRet (dTup [(dC (.str (PySem.Str.ofString "maybe"))), (dCall self [(dVar 0), (dOp gSub (dVar 1) (dC (.int 1))), (dOp gSub (dVar 2) (dC (.int 1)))])])) dNx)
  (dSeq (dIf (dTB (dOp gLt (dVar 3) (dC (.int 6)))) (dSeq (dSet 4 (dCall self [(dVar 0), (dOp gSub (dVar 1) (dC (.int 1))), (dOp gSub (dVar 2) (dC (.int 2)))]))
    (dRet (dTup [(dC (.str (PySem.Str.ofString "pair"))), (dVar 4), (dCall self [(dVar 0), (dOp gSub (dVar 1) (dC (.int 1))), (dOp gSub (dOp gSub (dVar 2) (dC (.int 1))) (dCall (f__law_kinds 4) [(dVar 4)]))])]))) dNx)
  (dSeq (dSet 5 (dOp gSub (dVar 2) (dC (.int 1))))
  (dSeq (dSet 6 (dOp gAdd (dC (.int 1)) (dCall f__law_draw [(dVar 0), (dCall gMin [(dC (.int 3)), (dVar 5)])])))
  (dSeq (dSet 7 (dLst []))
  (dSeq (dFor (dRng1 (dVar 6)) (dgName 8) (dSeq (dSet 9 (dCall self [(dVar 0), (dOp gSub (dVar 1) (dC (.int 1))), (dOp gSub (dVar 5) (dOp gSub (dOp gSub (dVar 6) (dC (.int 1))) (dVar 8)))]))
    (dSeq (dExpr (dAppend (dVar 7) (dVar 9)))
    (dSet 5 (dOp gSub (dVar 5) (dCall (f__law_kinds 4) [(dVar 9)]))))))
  (dRet (dTup [(dC (.str (PySem.Str.ofString "either"))), (dCall gTuple [(dVar 7)])]))))))))))
noncomputable def f__law_kind : Nat → DF
  | 0 => fun _ _ => .bad
  | n + 1 => mkF 10 3 (d__law_kind (f__law_kind n))
abbrev s__law_integer : Stmt := topS 12
theorem sc__law_integer : FnScope ["tape", "top", "choice", "number"] ["tape", "top"] (defScope s__law_integer) := ⟨rfl, rfl, rfl, by decide +kernel, rfl, by decide +kernel, by decide +kernel⟩
noncomputable def d__law_integer : DS :=
  (dSeq (dSet 2 (dCall f__law_draw [(dVar 0), (dC (.int 5))]))
  (dSeq (dSet 3 (dCall f__law_draw [(dVar 0), (dOp gIx (dLst [(dC (.int 2)), (dOp gAdd (dVar 1) (dC (.int 1))), (dOp gAdd (dVar 1) (dC (.int 14))), (dOp gPow (dC (.int 10)) (dC (.int 9))), (dOp gSub (dOp gPow (dC (.int 10)) (dC (.int 30))) (dC (.int 99)))]) (dVar 2))]))
  (dSeq (dIf (dTB (dOp gEq (dVar 2) (dC (.int 3)))) (dSet 3 (dOp gAdd (dOp gMul (dVar 3) (dOp gPow (dC (.int 10)) (dC (.int 21)))) (dCall f__law_draw [(dVar 0), (dOp gPow (dC (.int 10)) (dC (.int 9)))]))) dNx)
  (dRet (dOp gIx (dLst [(dVar 3), (dUn gNeg (dVar 3))]) (dCall f__law_draw [(dVar 0), (dC (.int 2))]))))))
noncomputable def f__law_integer : DF := mkF 4 2 d__law_integer
abbrev s__law_letter : Stmt := topS 13
theorem sc__law_letter : FnScope ["tape", "kind", "theory", "first", "i"] ["tape", "kind", "theory"] (defScope s__law_letter) := ⟨rfl, rfl, rfl, by decide +kernel, rfl, by decide +kernel, by decide +kernel⟩
noncomputable def d__law_letter (self : DF) : DS :=
  (dSeq (dIf (dTB (dOp gEq (dOp gIx (dVar 1) (dC (.int 0))) (dC (.str (PySem.Str.ofString "names"))))) (dRet (dOp gIx (dOp gIx (dVar 1) (dC (.int 1))) (dCall f__law_draw [(dVar 0), (dCall gLen [(dOp gIx (dVar 1) (dC (.int 1)))])]))) dNx)
  (dSeq (dIf (dTB (dOp gEq (dOp gIx (dVar 1) (dC (.int 0))) (dC (.str (PySem.Str.ofString "integers"))))) (dRet (dCall f__law_integer [(dVar 0), (dOp gIx (dVar 2) (dC (.int 0)))])) dNx)
  (dSeq (dIf (dTB (dOp gEq (dOp gIx (dVar 1) (dC (.int 0))) (dC (.str (PySem.Str.ofString "pair"))))) (dSeq (dSet 3 (dCall self [(dVar 0), (dOp gIx (dVar 1) (dC (.int 1))), (dVar 2)]))
    (dRet (dTup [(dC (.str (PySem.Str.ofString "pair"))), (dVar 3), (dCall self [(dVar 0), (dOp gIx (dVar 1) (dC (.int 2))), (dVar 2)])]))) dNx)
  (dSeq (dIf (dTB (dOp gEq (dOp gIx (dVar 1) (dC (.int 0))) (dC (.str (PySem.Str.ofString "either"))))) (dSeq (dSet 4 (dCall f__law_draw [(dVar 0), (dCall gLen [(dOp gIx (dVar 1) (dC (.int 1)))])]))
    (dRet (dTup [(dC (.str (PySem.Str.ofString "case"))), (dVar 4), (dCall self [(dVar 0), (dOp gIx (dOp gIx (dVar 1) (dC (.int 1))) (dVar 4)), (dVar 2)])]))) dNx)
  (dSeq (dIf (dTB (dOp gEq (dCall f__law_draw [(dVar 0), (dC (.int 3))]) (dC (.int 0)))) (dRet (dTup [(dC (.str (PySem.Str.ofString "none")))])) dNx)
  (dRet (dTup [(dC (.str (PySem.Str.ofString "some"))), (dCall self [(dVar 0), (dOp gIx (dVar 1) (dC (.int 1))), (dVar 2)])])))))))
noncomputable def f__law_letter : Nat → DF
  | 0 => fun _ _ => .bad
  | n + 1 => mkF 5 3 (d__law_letter (f__law_letter n))
abbrev s__law_is_letter : Stmt := topS 14
theorem sc__law_is_letter : FnScope ["kind", "told"] ["kind", "told"] (defScope s__law_is_letter) := ⟨rfl, rfl, rfl, by decide +kernel, rfl, by decide +kernel, by decide +kernel⟩
noncomputable def d__law_is_letter (self : DF) : DS :=
  (dSeq (dIf (dTB (dOp gEq (dOp gIx (dVar 0) (dC (.int 0))) (dC (.str (PySem.Str.ofString "names"))))) (dRet (dAnd (dCall gIsi [(dVar 1), (dC (.ty "str"))]) (dOp gIn (dVar 1) (dOp gIx (dVar 0) (dC (.int 1)))))) dNx)
  (dSeq (dIf (dTB (dOp gEq (dOp gIx (dVar 0) (dC (.int 0))) (dC (.str (PySem.Str.ofString "integers"))))) (dRet (dCall f__law_whole [(dVar 1)])) dNx)
  (dSeq (dIf (dOrT (dNotT (dT (dCall gIsi [(dVar 1), (dC (.ty "tuple"))]))) (dOrT (dTB (dOp gEq (dCall gLen [(dVar 1)]) (dC (.int 0)))) (dNotT (dT (dCall gIsi [(dOp gIx (dVar 1) (dC (.int 0))), (dC (.ty "str"))]))))) (dRet (dC (.bl false))) dNx)
  (dSeq (dIf (dTB (dOp gEq (dOp gIx (dVar 0) (dC (.int 0))) (dC (.str (PySem.Str.ofString "pair"))))) (dSeq (dIf (dOrT (dTB (dOp gNe (dOp gIx (dVar 1) (dC (.int 0))) (dC (.str (PySem.Str.ofString "pair"))))) (dTB (dOp gNe (dCall gLen [(dVar 1)]) (dC (.int 3))))) (dRet (dC (.bl false))) dNx)
    (dRet (dAnd (dCall self [(dOp gIx (dVar 0) (dC (.int 1))), (dOp gIx (dVar 1) (dC (.int 1)))]) (dCall self [(dOp gIx (dVar 0) (dC (.int 2))), (dOp gIx (dVar 1) (dC (.int 2)))])))) dNx)
  (dSeq (dIf (dTB (dOp gEq (dOp gIx (dVar 0) (dC (.int 0))) (dC (.str (PySem.Str.ofString "either"))))) (dSeq (dIf (dOrT (dTB (dOp gNe (dOp gIx (dVar 1) (dC (.int 0))) (dC (.str (PySem.Str.ofString "case"))))) (dOrT (dTB (dOp gNe (dCall gLen [(dVar 1)]) (dC (.int 3)))) (dNotT (dT (dCall f__law_whole [(dOp gIx (dVar 1) (dC (.int 1)))]))))) (dRet (dC (.bl false))) dNx)
    (dSeq (dIf (dOrT (dTB (dOp gLt (dOp gIx (dVar 1) (dC (.int 1))) (dC (.int 0)))) (dTB (dOp gGe (dOp gIx (dVar 1) (dC (.int 1))) (dCall gLen [(dOp gIx (dVar 0) (dC (.int 1)))])))) (dRet (dC (.bl false))) dNx)
    (dRet (dCall self [(dOp gIx (dOp gIx (dVar 0) (dC (.int 1))) (dOp gIx (dVar 1) (dC (.int 1)))), (dOp gIx (dVar 1) (dC (.int 2)))])))) dNx)
  (dSeq (dIf (dTB (dOp gEq (dOp gIx (dVar 1) (dC (.int 0))) (dC (.str (PySem.Str.ofString "none"))))) (dRet (dOp gEq (dCall gLen [(dVar 1)]) (dC (.int 1)))) dNx)
  (dRet (dAnd (dOp gEq (dOp gIx (dVar 1) (dC (.int 0))) (dC (.str (PySem.Str.ofString "some")))) (dAnd (dOp gEq (dCall gLen [(dVar 1)]) (dC (.int 2))) (dCall self [(dOp gIx (dVar 0) (dC (.int 1))), (dOp gIx (dVar 1) (dC (.int 1)))]))))))))))
noncomputable def f__law_is_letter : Nat → DF
  | 0 => fun _ _ => .bad
  | n + 1 => mkF 2 2 (d__law_is_letter (f__law_is_letter n))
abbrev s__law_wild : Stmt := topS 15
theorem sc__law_wild : FnScope ["tape", "depth", "choice", "k"] ["tape", "depth"] (defScope s__law_wild) := ⟨rfl, rfl, rfl, by decide +kernel, rfl, by decide +kernel, by decide +kernel⟩
noncomputable def d__law_wild (self : DF) : DS :=
  (dSeq (dSet 2 (dCall f__law_draw [(dVar 0), (dC (.int 9))]))
  (dSeq (dIf (dTB (dOp gEq (dVar 2) (dC (.int 0)))) (dRet (dOp gIx (dLst [(dC (.bl true)), (dC (.bl false)), (dC .non)]) (dCall f__law_draw [(dVar 0), (dC (.int 3))]))) dNx)
  (dSeq (dIf (dTB (dOp gLt (dVar 2) (dC (.int 3)))) (dRet (dOp gIx (dLst [(dC (.int 0)), (dC (.int 1)), (dC (.int 2)), (dUn gNeg (dC (.int 1))), (dCall f__law_integer [(dVar 0), (dC (.int 20))])]) (dCall f__law_draw [(dVar 0), (dC (.int 5))]))) dNx)
  (dSeq (dIf (dOrT (dTB (dOp gLt (dVar 2) (dC (.int 6)))) (dTB (dOp gEq (dVar 1) (dC (.int 0))))) (dRet (dOp gIx (dLst [(dC (.str (PySem.Str.ofString "pair"))), (dC (.str (PySem.Str.ofString "case"))), (dC (.str (PySem.Str.ofString "some"))), (dC (.str (PySem.Str.ofString "none"))), (dC (.str (PySem.Str.ofString "a"))), (dC (.str (PySem.Str.ofString "")))]) (dCall f__law_draw [(dVar 0), (dC (.int 6))]))) dNx)
  (dRet (dCall gTuple [(dLc (dRng1 (dCall f__law_draw [(dVar 0), (dC (.int 4))])) (dgName 3) [3] dYes (dCall self [(dVar 0), (dOp gSub (dVar 1) (dC (.int 1)))]))]))))))
noncomputable def f__law_wild : Nat → DF
  | 0 => fun _ _ => .bad
  | n + 1 => mkF 4 2 (d__law_wild (f__law_wild n))
abbrev s__law_spoilt : Stmt := topS 16
theorem sc__law_spoilt : FnScope ["tape", "value", "choice", "k"] ["tape", "value"] (defScope s__law_spoilt) := ⟨rfl, rfl, rfl, by decide +kernel, rfl, by decide +kernel, by decide +kernel⟩
noncomputable def d__law_spoilt (self : DF) : DS :=
  (dSeq (dSet 2 (dCall f__law_draw [(dVar 0), (dC (.int 6))]))
  (dSeq (dIf (dAndT (dT (dCall gIsi [(dVar 1), (dC (.ty "tuple"))])) (dAndT (dTB (dOp gGt (dCall gLen [(dVar 1)]) (dC (.int 0)))) (dTB (dOp gLt (dVar 2) (dC (.int 5)))))) (dSeq (dSet 3 (dCall f__law_draw [(dVar 0), (dCall gLen [(dVar 1)])]))
    (dSeq (dIf (dTB (dOp gLt (dVar 2) (dC (.int 3)))) (dRet (dOp gAdd (dOp gAdd (dSl (dVar 1) dNoP (dPart (dVar 3))) (dTup [(dCall self [(dVar 0), (dOp gIx (dVar 1) (dVar 3))])])) (dSl (dVar 1) (dPart (dOp gAdd (dVar 3) (dC (.int 1)))) dNoP))) dNx)
    (dSeq (dIf (dTB (dOp gEq (dVar 2) (dC (.int 3)))) (dRet (dOp gAdd (dSl (dVar 1) dNoP (dPart (dVar 3))) (dSl (dVar 1) (dPart (dOp gAdd (dVar 3) (dC (.int 1)))) dNoP))) dNx)
    (dRet (dOp gAdd (dVar 1) (dTup [(dC (.int 0))])))))) dNx)
  (dSeq (dIf (dAndT (dT (dCall f__law_whole [(dVar 1)])) (dAndT (dTB (dOp gLe (dC (.int 0)) (dVar 1))) (dAndT (dTB (dOp gLe (dVar 1) (dC (.int 2)))) (dTB (dOp gLt (dVar 2) (dC (.int 5))))))) (dRet (dOp gIx (dLst [(dOp gEq (dVar 1) (dC (.int 1))), (dOp gEq (dVar 1) (dC (.int 1))), (dUn gNeg (dC (.int 1))), (dOp gSub (dVar 1) (dC (.int 3))), (dOp gAdd (dVar 1) (dC (.int 1)))]) (dVar 2))) dNx)
  (dRet (dCall (f__law_wild 4) [(dVar 0), (dC (.int 1))])))))
noncomputable def f__law_spoilt : Nat → DF
  | 0 => fun _ _ => .bad
  | n + 1 => mkF 4 2 (d__law_spoilt (f__law_spoilt n))
abbrev s_law : Stmt := topS 17
theorem sc_law : FnScope ["script", "tape", "kind", "other", "letter", "spoilt", "values", "value", "asked", "told"] ["script"] (defScope s_law) := ⟨rfl, rfl, rfl, by decide +kernel, rfl, by decide +kernel, by decide +kernel⟩
noncomputable def d_law : DS :=
  (dSeq (dSet 1 (dCall f__law_tape [(dVar 0)]))
  (dSeq (dSet 2 (dCall (f__law_kind 4) [(dVar 1), (dC (.int 3)), (dC (.int 6))]))
  (dSeq (dSet 3 (dCall (f__law_kind 4) [(dVar 1), (dC (.int 3)), (dC (.int 6))]))
  (dSeq (dSet 4 (dCall (f__law_letter 4) [(dVar 1), (dVar 2), (dTup [(dC (.int 20)), (dC (.int 12))])]))
  (dSeq (dSet 5 (dCall (f__law_spoilt 8) [(dVar 1), (dVar 4)]))
  (dSeq (dSet 6 (dLst [(dVar 4), (dVar 5), (dCall (f__law_spoilt 8) [(dVar 1), (dVar 5)]), (dCall (f__law_letter 4) [(dVar 1), (dVar 3), (dTup [(dC (.int 20)), (dC (.int 12))])]), (dCall (f__law_wild 4) [(dVar 1), (dC (.int 2))])]))
  (dSeq (dSet 6 (dOp gAdd (dVar 6) (dLst [(dOp gIx (dLst [(dC (.bl true)), (dC (.bl false)), (dC .non)]) (dCall f__law_draw [(dVar 1), (dC (.int 3))])), (dVar 4)])))
  (dSeq (dFor (dSeqI (dVar 6)) (dgName 7) (dFor (dSeqI (dLst [(dVar 2), (dVar 3), (dVar 2)])) (dgName 8) (dSeq (dSet 9 (dCall (f_is_letter 4) [(dVar 8), (dVar 7)]))
      (dIf (dOrT (dNotT (dT (dCall gIsi [(dVar 9), (dC (.ty "bool"))]))) (dTB (dOp gNe (dVar 9) (dCall (f__law_is_letter 4) [(dVar 8), (dVar 7)])))) (dRet (dC (.bl false))) dNx))))
  (dRet (dC (.bl true)))))))))))
noncomputable def f_law : DF := mkF 10 1 d_law
structure Facts (K : PySem.W.Frag) (mg : Str → Option Value) : Prop where
  d__is_number : DefAt K mg "_is_number" s__is_number
  d__is_form : DefAt K mg "_is_form" s__is_form
  d__is_case : DefAt K mg "_is_case" s__is_case
  d_is_letter : DefAt K mg "is_letter" s_is_letter
  d__law_tape : DefAt K mg "_law_tape" s__law_tape
  d__law_draw : DefAt K mg "_law_draw" s__law_draw
  d__law_whole : DefAt K mg "_law_whole" s__law_whole
  d__law_names : DefAt K mg "_law_names" s__law_names
  d__law_kinds : DefAt K mg "_law_kinds" s__law_kinds
  d__law_kind : DefAt K mg "_law_kind" s__law_kind
  d__law_integer : DefAt K mg "_law_integer" s__law_integer
  d__law_letter : DefAt K mg "_law_letter" s__law_letter
  d__law_is_letter : DefAt K mg "_law_is_letter" s__law_is_letter
  d__law_wild : DefAt K mg "_law_wild" s__law_wild
  d__law_spoilt : DefAt K mg "_law_spoilt" s__law_spoilt
  d_law : DefAt K mg "law" s_law
  m_abs : mg "abs" = none
  m_bool : mg "bool" = none
  m_int : mg "int" = none
  m_isinstance : mg "isinstance" = none
  m_len : mg "len" = none
  m_list : mg "list" = none
  m_max : mg "max" = none
  m_min : mg "min" = none
  m_range : mg "range" = none
  m_str : mg "str" = none
  m_sum : mg "sum" = none
  m_tuple : mg "tuple" = none
section
variable {P : Program} {w : World} {K : PySem.W.Frag} {mg : Str → Option Value}
theorem ok__is_number (T : Facts K mg) : Fok P w K mg "_is_number" 1 ["value"] f__is_number := by
  refine Fok.of (k := 0) T.d__is_number sc__is_number (fun _ _ _ _ _ _ us hl => match us, hl with | [_], _ => rfl) (fun base f cdv A outer s H E hr => ?_)
  exact (ss_one (ss_ret (se_and (se_callB sc_isi T.m_isinstance (by decide +kernel) (sa_cons (se_var 0) (sa_cons (se_ty T.m_int (by decide +kernel)) sa_nil))) (se_one (se_not (se_callB sc_isi T.m_isinstance (by decide +kernel) (sa_cons (se_var 0) (sa_cons (se_ty T.m_bool (by decide +kernel)) sa_nil))))))))
theorem ok__is_form (T : Facts K mg) : Fok P w K mg "_is_form" 1 ["value", "head", "size"] f__is_form := by
  refine Fok.of (k := 0) T.d__is_form sc__is_form (fun _ _ _ _ _ _ us hl => match us, hl with | [_, _, _], _ => rfl) (fun base f cdv A outer s H E hr => ?_)
  exact (ss_one (ss_ret (se_and (se_cmp (so_eq (huE hr)) (se_callB sc_len T.m_len (by decide +kernel) (sa_cons (se_var 0) sa_nil)) (se_var 2)) (se_one (se_cmp (so_eq (huE hr)) (se_ix (se_var 0) se_int) (se_var 1))))))
theorem ok__is_case (T : Facts K mg) : Fok P w K mg "_is_case" 2 ["kinds", "value"] f__is_case := by
  refine Fok.of (k := 1) T.d__is_case sc__is_case (fun _ _ _ _ _ _ us hl => match us, hl with | [_, _], _ => rfl) (fun base f cdv A outer s H E hr => ?_)
  exact (ss_one (ss_ret (se_and (se_call (ok__is_number T) hr (sa_cons (se_var 1) sa_nil)) (se_one (se_chain so_le so_lt se_int (se_var 1) (se_callB sc_len T.m_len (by decide +kernel) (sa_cons (se_var 0) sa_nil)))))))
theorem ok_is_letter (T : Facts K mg) : ∀ n : Nat, Fok P w K mg "is_letter" (2 + n) ["kind", "value"] (f_is_letter n)
  | 0 => Fok.none (ps := ["kind", "value"]) T.d_is_letter (fun _ _ _ _ _ _ us hl => match us, hl with | [_, _], _ => rfl)
  | n + 1 => by
    have self_ok := ok_is_letter T n
    refine Fok.of T.d_is_letter sc_is_letter (fun _ _ _ _ _ _ us hl => match us, hl with | [_, _], _ => rfl) (fun base f cdv A outer s H E hr => ?_)
    exact (ss_cons (ss_set (i := 2) sc_is_letter.nd (se_ix (se_var 0) se_int))
  (ss_cons (ss_if (st_cmp (so_eq (huE hr)) (se_var 2) se_str) (ss_one (ss_ret (se_cmp (so_in (huI hr)) (se_var 1) (se_ix (se_var 0) se_int)))) ss_nil)
  (ss_cons (ss_if (st_cmp (so_eq (huE hr)) (se_var 2) se_str) (ss_one (ss_ret (se_call (ok__is_number T) hr (sa_cons (se_var 1) sa_nil)))) ss_nil)
  (ss_cons (ss_if (st_not (st_tru (se_callB sc_isi T.m_isinstance (by decide +kernel) (sa_cons (se_var 1) (sa_cons (se_ty T.m_tuple (by decide +kernel)) sa_nil))))) (ss_one (ss_ret se_bl)) ss_nil)
  (ss_cons (ss_if (st_cmp (so_eq (huE hr)) (se_var 2) se_str) (ss_one (ss_ret (se_and (se_call (ok__is_form T) hr (sa_cons (se_var 1) (sa_cons se_str (sa_cons se_int sa_nil)))) (se_and (se_call self_ok hr (sa_cons (se_ix (se_var 0) se_int) (sa_cons (se_ix (se_var 1) se_int) sa_nil))) (se_one (se_call self_ok hr (sa_cons (se_ix (se_var 0) se_int) (sa_cons (se_ix (se_var 1) se_int) sa_nil)))))))) ss_nil)
  (ss_cons (ss_if (st_cmp (so_eq (huE hr)) (se_var 2) se_str) (ss_one (ss_ret (se_and (se_call (ok__is_form T) hr (sa_cons (se_var 1) (sa_cons se_str (sa_cons se_int sa_nil)))) (se_and (se_call (ok__is_case T) hr (sa_cons (se_ix (se_var 0) se_int) (sa_cons (se_ix (se_var 1) se_int) sa_nil))) (se_one (se_call self_ok hr (sa_cons (se_ix (se_ix (se_var 0) se_int) (se_ix (se_var 1) se_int)) (sa_cons (se_ix (se_var 1) se_int) sa_nil)))))))) ss_nil)
  (ss_one (ss_ret (se_or (se_cmp (so_eq (huE hr)) (se_var 1) (se_tup (sa_cons se_str sa_nil))) (se_one (se_and (se_call (ok__is_form T) hr (sa_cons (se_var 1) (sa_cons se_str (sa_cons se_int sa_nil)))) (se_one (se_call self_ok hr (sa_cons (se_ix (se_var 0) se_int) (sa_cons (se_ix (se_var 1) se_int) sa_nil)))))))))))))))
theorem ok__law_tape (T : Facts K mg) : Fok P w K mg "_law_tape" 1 ["script"] f__law_tape := by
  refine Fok.of (k := 0) T.d__law_tape sc__law_tape (fun _ _ _ _ _ _ us hl => match us, hl with | [_], _ => rfl) (fun base f cdv A outer s H E hr => ?_)
  exact (ss_cons (ss_set (i := 1) sc__law_tape.nd se_int)
  (ss_cons (ss_for PassesOwn.never rfl (si_seq (se_var 0)) (sg_name (i := 2) sc__law_tape.nd) (ss_one (ss_set (i := 1) sc__law_tape.nd (se_op so_mod (se_callTy sc_int T.m_int (by decide +kernel) (sa_cons (se_op so_add (se_op so_mul (se_var 1) se_int) (se_callB sc_abs T.m_abs (by decide +kernel) (sa_cons (se_callTy sc_int T.m_int (by decide +kernel) (sa_cons (se_var 2) sa_nil)) sa_nil))) sa_nil)) se_int))))
  (ss_one (ss_ret (se_lst (sa_cons (se_callTy sc_list T.m_list (by decide +kernel) (sa_cons (se_var 0) sa_nil)) (sa_cons se_int (sa_cons se_int (sa_cons (se_var 1) sa_nil)))))))))
theorem ok__law_draw (T : Facts K mg) : Fok P w K mg "_law_draw" 1 ["tape", "many"] f__law_draw := by
  refine Fok.of (k := 0) T.d__law_draw sc__law_draw (fun _ _ _ _ _ _ us hl => match us, hl with | [_, _], _ => rfl) (fun base f cdv A outer s H E hr => ?_)
  exact (ss_cons (ss_if (st_cmp (so_eq (huE hr)) (se_ix (se_var 0) se_int) se_int) (ss_cons (ss_set (i := 2) sc__law_draw.nd (se_ix (se_var 0) se_int))
    (ss_cons (ss_set (i := 3) sc__law_draw.nd se_int)
    (ss_cons (ss_if (st_cmp so_lt (se_var 2) (se_callB sc_len T.m_len (by decide +kernel) (sa_cons (se_ix (se_var 0) se_int) sa_nil))) (ss_one (ss_set (i := 3) sc__law_draw.nd (se_callB sc_abs T.m_abs (by decide +kernel) (sa_cons (se_callTy sc_int T.m_int (by decide +kernel) (sa_cons (se_ix (se_ix (se_var 0) se_int) (se_var 2)) sa_nil)) sa_nil)))) (ss_cons (ss_setIx (se_var 0) se_int (se_op so_mod (se_callTy sc_int T.m_int (by decide +kernel) (sa_cons (se_op so_add (se_op so_add (se_op so_mul (se_ix (se_var 0) se_int) se_int) (se_var 2)) se_int) sa_nil)) se_int))
      (ss_one (ss_set (i := 3) sc__law_draw.nd (se_ix (se_var 0) se_int)))))
    (ss_cons (ss_setIx (se_var 0) se_int (se_op so_add (se_var 2) se_int))
    (ss_cons (ss_if (st_cmp so_lt (se_var 3) (se_op so_pow se_int se_int)) (ss_cons (ss_set (i := 3) sc__law_draw.nd (se_op so_mod (se_callTy sc_int T.m_int (by decide +kernel) (sa_cons (se_op so_add (se_op so_add (se_op so_mul (se_var 3) se_int) (se_op so_mul (se_var 2) se_int)) se_int) sa_nil)) se_int))
      (ss_cons (ss_set (i := 3) sc__law_draw.nd (se_op so_mod (se_callTy sc_int T.m_int (by decide +kernel) (sa_cons (se_op so_mul (se_var 3) se_int) sa_nil)) se_int))
      (ss_one (ss_ret (se_op so_mod (se_callTy sc_int T.m_int (by decide +kernel) (sa_cons (se_var 3) sa_nil)) (se_callB (sc_max rfl) T.m_max (by decide +kernel) (sa_cons (se_var 1) (sa_cons se_int sa_nil)))))))) ss_nil)
    (ss_one (ss_setIx (se_var 0) se_int (se_var 3)))))))) ss_nil)
  (ss_cons (ss_set (i := 3) sc__law_draw.nd (se_ix (se_var 0) se_int))
  (ss_cons (ss_setIx (se_var 0) se_int (se_op so_div (se_var 3) (se_callB (sc_max rfl) T.m_max (by decide +kernel) (sa_cons (se_var 1) (sa_cons se_int sa_nil)))))
  (ss_one (ss_ret (se_op so_mod (se_callTy sc_int T.m_int (by decide +kernel) (sa_cons (se_var 3) sa_nil)) (se_callB (sc_max rfl) T.m_max (by decide +kernel) (sa_cons (se_var 1) (sa_cons se_int sa_nil)))))))))
theorem ok__law_whole (T : Facts K mg) : Fok P w K mg "_law_whole" 1 ["told"] f__law_whole := by
  refine Fok.of (k := 0) T.d__law_whole sc__law_whole (fun _ _ _ _ _ _ us hl => match us, hl with | [_], _ => rfl) (fun base f cdv A outer s H E hr => ?_)
  exact (ss_one (ss_ret (se_and (se_callB sc_isi T.m_isinstance (by decide +kernel) (sa_cons (se_var 0) (sa_cons (se_ty T.m_int (by decide +kernel)) sa_nil))) (se_one (se_not (se_callB sc_isi T.m_isinstance (by decide +kernel) (sa_cons (se_var 0) (sa_cons (se_ty T.m_bool (by decide +kernel)) sa_nil))))))))
theorem ok__law_names (T : Facts K mg) : Fok P w K mg "_law_names" 2 ["tape"] f__law_names := by
  refine Fok.of (k := 1) T.d__law_names sc__law_names (fun _ _ _ _ _ _ us hl => match us, hl with | [_], _ => rfl) (fun base f cdv A outer s H E hr => ?_)
  exact (ss_cons (ss_set (i := 1) sc__law_names.nd se_str)
  (ss_cons (ss_set (i := 2) sc__law_names.nd (se_lst (sa_cons se_str (sa_cons se_str (sa_cons se_str (sa_cons se_str (sa_cons se_str (sa_cons se_str sa_nil))))))))
  (ss_cons (ss_set (i := 3) sc__law_names.nd (se_ix (se_lst (sa_cons se_str (sa_cons se_str (sa_cons se_str (sa_cons se_str (sa_cons se_str sa_nil)))))) (se_call (ok__law_draw T) hr (sa_cons (se_var 0) (sa_cons se_int sa_nil)))))
  (ss_cons (ss_set (i := 4) sc__law_names.nd (se_lst sa_nil))
  (ss_cons (ss_for PassesOwn.never rfl (si_rng1 T.m_range (se_ix (se_lst (sa_cons se_int (sa_cons se_int (sa_cons se_int (sa_cons se_int (sa_cons se_int (sa_cons se_int sa_nil))))))) (se_call (ok__law_draw T) hr (sa_cons (se_var 0) (sa_cons se_int sa_nil))))) (sg_name (i := 5) sc__law_names.nd) (ss_cons (ss_set (i := 6) sc__law_names.nd (se_op so_add (se_var 3) (se_ix (se_var 1) (se_call (ok__law_draw T) hr (sa_cons (se_var 0) (sa_cons (se_callB sc_len T.m_len (by decide +kernel) (sa_cons (se_var 1) sa_nil)) sa_nil))))))
    (ss_cons (ss_if (st_cmp (so_eq (huE hr)) (se_call (ok__law_draw T) hr (sa_cons (se_var 0) (sa_cons se_int sa_nil))) se_int) (ss_one (ss_set (i := 6) sc__law_names.nd (se_op so_add (se_var 6) (se_ix (se_var 1) (se_call (ok__law_draw T) hr (sa_cons (se_var 0) (sa_cons (se_callB sc_len T.m_len (by decide +kernel) (sa_cons (se_var 1) sa_nil)) sa_nil))))))) ss_nil)
    (ss_cons (ss_if (st_cmp (so_eq (huE hr)) (se_call (ok__law_draw T) hr (sa_cons (se_var 0) (sa_cons se_int sa_nil))) se_int) (ss_one (ss_set (i := 6) sc__law_names.nd (se_ix (se_var 2) (se_call (ok__law_draw T) hr (sa_cons (se_var 0) (sa_cons se_int sa_nil)))))) ss_nil)
    (ss_one (ss_if (st_cmp (so_notIn (huI hr)) (se_var 6) (se_var 4)) (ss_one (ss_expr (se_append (se_var 4) (sa_cons (se_var 6) sa_nil)))) ss_nil))))))
  (ss_one (ss_ret (se_callTy sc_tuple T.m_tuple (by decide +kernel) (sa_cons (se_var 4) sa_nil)))))))))
theorem ok__law_kinds (T : Facts K mg) : ∀ n : Nat, Fok P w K mg "_law_kinds" (0 + n) ["kind"] (f__law_kinds n)
  | 0 => Fok.none (ps := ["kind"]) T.d__law_kinds (fun _ _ _ _ _ _ us hl => match us, hl with | [_], _ => rfl)
  | n + 1 => by
    have self_ok := ok__law_kinds T n
    refine Fok.of T.d__law_kinds sc__law_kinds (fun _ _ _ _ _ _ us hl => match us, hl with | [_], _ => rfl) (fun base f cdv A outer s H E hr => ?_)
    exact (ss_cons (ss_if (st_cmp (so_eq (huE hr)) (se_ix (se_var 0) se_int) se_str) (ss_one (ss_ret (se_op so_add (se_op so_add se_int (se_call self_ok hr (sa_cons (se_ix (se_var 0) se_int) sa_nil))) (se_call self_ok hr (sa_cons (se_ix (se_var 0) se_int) sa_nil))))) ss_nil)
  (ss_cons (ss_if (st_cmp (so_eq (huE hr)) (se_ix (se_var 0) se_int) se_str) (ss_one (ss_ret (se_op so_add se_int (se_callB (sc_sum rfl) T.m_sum (by decide +kernel) (sa_cons (se_lc rfl sc__law_kinds.nd (si_seq (se_ix (se_var 0) se_int)) (blkOk_by (own := [("piece", 1)]) (by rfl)) (fun _ _ _ _ _ => sg_name (i := 1) sc__law_kinds.nd) (fun _ _ _ _ _ => sts_nil) (fun _ _ _ _ _ => (se_call self_ok hr (sa_cons (se_var 1) sa_nil)))) sa_nil))))) ss_nil)
  (ss_cons (ss_if (st_cmp (so_eq (huE hr)) (se_ix (se_var 0) se_int) se_str) (ss_one (ss_ret (se_op so_add se_int (se_call self_ok hr (sa_cons (se_ix (se_var 0) se_int) sa_nil))))) ss_nil)
  (ss_one (ss_ret se_int)))))
theorem ok__law_kind (T : Facts K mg) : ∀ n : Nat, Fok P w K mg "_law_kind" (4 + n) ["tape", "depth", "many"] (f__law_kind n)
  | 0 => Fok.none (ps := ["tape", "depth", "many"]) T.d__law_kind (fun _ _ _ _ _ _ us hl => match us, hl with | [_, _, _], _ => rfl)
  | n + 1 => by
    have self_ok := ok__law_kind T n
    refine Fok.of T.d__law_kind sc__law_kind (fun _ _ _ _ _ _ us hl => match us, hl with | [_, _, _], _ => rfl) (fun base f cdv A outer s H E hr => ?_)
    exact (ss_cons (ss_set (i := 3) sc__law_kind.nd (se_call (ok__law_draw T) hr (sa_cons (se_var 0) (sa_cons se_int sa_nil))))
  (ss_cons (ss_if (st_w (sw_or (st_cmp (so_eq (huE hr)) (se_var 1) se_int) (sw_or (st_cmp (so_eq (huE hr)) (se_var 2) se_int) (sw_or1 (st_cmp so_lt (se_var 3) se_int))))) (ss_cons (ss_if (st_cmp (so_eq (huE hr)) (se_call (ok__law_draw T) hr (sa_cons (se_var 0) (sa_cons se_int sa_nil))) se_int) (ss_one (ss_ret (se_tup (sa_cons se_str (sa_cons (se_call (ok__law_names T) hr (sa_cons (se_var 0) sa_nil)) sa_nil))))) ss_nil)
    (ss_one (ss_ret (se_tup (sa_cons se_str sa_nil))))) ss_nil)
  (ss_cons (ss_if (st_w (sw_or (st_cmp (so_eq (huE hr)) (se_var 2) se_int) (sw_or1 (st_cmp (so_eq (huE hr)) (se_var 3) se_int)))) (ss_one (ss_ret (se_tup (sa_cons se_str (sa_cons (se_call self_ok hr (sa_cons (se_var 0) (sa_cons (se_op so_sub (se_var 1) se_int) (sa_cons (se_op so_sub (se_var 2) se_int) sa_nil)))) sa_nil))))) ss_nil)
  (ss_cons (ss_if (st_cmp so_lt (se_var 3) se_int) (ss_cons (ss_set (i := 4) sc__law_kind.nd (se_call self_ok hr (sa_cons (se_var 0) (sa_cons (se_op so_sub (se_var 1) se_int) (sa_cons (se_op so_sub (se_var 2) se_int) sa_nil)))))
    (ss_one (ss_ret (se_tup (sa_cons se_str (sa_cons (se_var 4) (sa_cons (se_call self_ok hr (sa_cons (se_var 0) (sa_cons (se_op so_sub (se_var 1) se_int) (sa_cons (se_op so_sub (se_op so_sub (se_var 2) se_int) (se_call (ok__law_kinds T 4) hr (sa_cons (se_var 4) sa_nil))) sa_nil)))) sa_nil))))))) ss_nil)
  (ss_cons (ss_set (i := 5) sc__law_kind.nd (se_op so_sub (se_var 2) se_int))
  (ss_cons (ss_set (i := 6) sc__law_kind.nd (se_op so_add se_int (se_call (ok__law_draw T) hr (sa_cons (se_var 0) (sa_cons (se_callB (sc_min rfl) T.m_min (by decide +kernel) (sa_cons se_int (sa_cons (se_var 5) sa_nil))) sa_nil)))))
  (ss_cons (ss_set (i := 7) sc__law_kind.nd (se_lst sa_nil))
  (ss_cons (ss_for PassesOwn.never rfl (si_rng1 T.m_range (se_var 6)) (sg_name (i := 8) sc__law_kind.nd) (ss_cons (ss_set (i := 9) sc__law_kind.nd (se_call self_ok hr (sa_cons (se_var 0) (sa_cons (se_op so_sub (se_var 1) se_int) (sa_cons (se_op so_sub (se_var 5) (se_op so_sub (se_op so_sub (se_var 6) se_int) (se_var 8))) sa_nil)))))
    (ss_cons (ss_expr (se_append (se_var 7) (sa_cons (se_var 9) sa_nil)))
    (ss_one (ss_set (i := 5) sc__law_kind.nd (se_op so_sub (se_var 5) (se_call (ok__law_kinds T 4) hr (sa_cons (se_var 9) sa_nil))))))))
  (ss_one (ss_ret (se_tup (sa_cons se_str (sa_cons (se_callTy sc_tuple T.m_tuple (by decide +kernel) (sa_cons (se_var 7) sa_nil)) sa_nil)))))))))))))
theorem ok__law_integer (T : Facts K mg) : Fok P w K mg "_law_integer" 2 ["tape", "top"] f__law_integer := by
  refine Fok.of (k := 1) T.d__law_integer sc__law_integer (fun _ _ _ _ _ _ us hl => match us, hl with | [_, _], _ => rfl) (fun base f cdv A outer s H E hr => ?_)
  exact (ss_cons (ss_set (i := 2) sc__law_integer.nd (se_call (ok__law_draw T) hr (sa_cons (se_var 0) (sa_cons se_int sa_nil))))
  (ss_cons (ss_set (i := 3) sc__law_integer.nd (se_call (ok__law_draw T) hr (sa_cons (se_var 0) (sa_cons (se_ix (se_lst (sa_cons se_int (sa_cons (se_op so_add (se_var 1) se_int) (sa_cons (se_op so_add (se_var 1) se_int) (sa_cons (se_op so_pow se_int se_int) (sa_cons (se_op so_sub (se_op so_pow se_int se_int) se_int) sa_nil)))))) (se_var 2)) sa_nil))))
  (ss_cons (ss_if (st_cmp (so_eq (huE hr)) (se_var 2) se_int) (ss_one (ss_set (i := 3) sc__law_integer.nd (se_op so_add (se_op so_mul (se_var 3) (se_op so_pow se_int se_int)) (se_call (ok__law_draw T) hr (sa_cons (se_var 0) (sa_cons (se_op so_pow se_int se_int) sa_nil)))))) ss_nil)
  (ss_one (ss_ret (se_ix (se_lst (sa_cons (se_var 3) (sa_cons (se_neg (se_var 3)) sa_nil))) (se_call (ok__law_draw T) hr (sa_cons (se_var 0) (sa_cons se_int sa_nil)))))))))
theorem ok__law_letter (T : Facts K mg) : ∀ n : Nat, Fok P w K mg "_law_letter" (2 + n) ["tape", "kind", "theory"] (f__law_letter n)
  | 0 => Fok.none (ps := ["tape", "kind", "theory"]) T.d__law_letter (fun _ _ _ _ _ _ us hl => match us, hl with | [_, _, _], _ => rfl)
  | n + 1 => by
    have self_ok := ok__law_letter T n
    refine Fok.of T.d__law_letter sc__law_letter (fun _ _ _ _ _ _ us hl => match us, hl with | [_, _, _], _ => rfl) (fun base f cdv A outer s H E hr => ?_)
    exact (ss_cons (ss_if (st_cmp (so_eq (huE hr)) (se_ix (se_var 1) se_int) se_str) (ss_one (ss_ret (se_ix (se_ix (se_var 1) se_int) (se_call (ok__law_draw T) hr (sa_cons (se_var 0) (sa_cons (se_callB sc_len T.m_len (by decide +kernel) (sa_cons (se_ix (se_var 1) se_int) sa_nil)) sa_nil)))))) ss_nil)
  (ss_cons (ss_if (st_cmp (so_eq (huE hr)) (se_ix (se_var 1) se_int) se_str) (ss_one (ss_ret (se_call (ok__law_integer T) hr (sa_cons (se_var 0) (sa_cons (se_ix (se_var 2) se_int) sa_nil))))) ss_nil)
  (ss_cons (ss_if (st_cmp (so_eq (huE hr)) (se_ix (se_var 1) se_int) se_str) (ss_cons (ss_set (i := 3) sc__law_letter.nd (se_call self_ok hr (sa_cons (se_var 0) (sa_cons (se_ix (se_var 1) se_int) (sa_cons (se_var 2) sa_nil)))))
    (ss_one (ss_ret (se_tup (sa_cons se_str (sa_cons (se_var 3) (sa_cons (se_call self_ok hr (sa_cons (se_var 0) (sa_cons (se_ix (se_var 1) se_int) (sa_cons (se_var 2) sa_nil)))) sa_nil))))))) ss_nil)
  (ss_cons (ss_if (st_cmp (so_eq (huE hr)) (se_ix (se_var 1) se_int) se_str) (ss_cons (ss_set (i := 4) sc__law_letter.nd (se_call (ok__law_draw T) hr (sa_cons (se_var 0) (sa_cons (se_callB sc_len T.m_len (by decide +kernel) (sa_cons (se_ix (se_var 1) se_int) sa_nil)) sa_nil))))
    (ss_one (ss_ret (se_tup (sa_cons se_str (sa_cons (se_var 4) (sa_cons (se_call self_ok hr (sa_cons (se_var 0) (sa_cons (se_ix (se_ix (se_var 1) se_int) (se_var 4)) (sa_cons (se_var 2) sa_nil)))) sa_nil))))))) ss_nil)
  (ss_cons (ss_if (st_cmp (so_eq (huE hr)) (se_call (ok__law_draw T) hr (sa_cons (se_var 0) (sa_cons se_int sa_nil))) se_int) (ss_one (ss_ret (se_tup (sa_cons se_str sa_nil)))) ss_nil)
  (ss_one (ss_ret (se_tup (sa_cons se_str (sa_cons (se_call self_ok hr (sa_cons (se_var 0) (sa_cons (se_ix (se_var 1) se_int) (sa_cons (se_var 2) sa_nil)))) sa_nil))))))))))
theorem ok__law_is_letter (T : Facts K mg) : ∀ n : Nat, Fok P w K mg "_law_is_letter" (1 + n) ["kind", "told"] (f__law_is_letter n)
  | 0 => Fok.none (ps := ["kind", "told"]) T.d__law_is_letter (fun _ _ _ _ _ _ us hl => match us, hl with | [_, _], _ => rfl)
  | n + 1 => by
    have self_ok := ok__law_is_letter T n
    refine Fok.of T.d__law_is_letter sc__law_is_letter (fun _ _ _ _ _ _ us hl => match us, hl with | [_, _], _ => rfl) (fun base f cdv A outer s H E hr => ?_)
    exact (ss_cons (ss_if (st_cmp (so_eq (huE hr)) (se_ix (se_var 0) se_int) se_str) (ss_one (ss_ret (se_and (se_callB sc_isi T.m_isinstance (by decide +kernel) (sa_cons (se_var 1) (sa_cons (se_ty T.m_str (by decide +kernel)) sa_nil))) (se_one (se_cmp (so_in (huI hr)) (se_var 1) (se_ix (se_var 0) se_int)))))) ss_nil)
  (ss_cons (ss_if (st_cmp (so_eq (huE hr)) (se_ix (se_var 0) se_int) se_str) (ss_one (ss_ret (se_call (ok__law_whole T) hr (sa_cons (se_var 1) sa_nil)))) ss_nil)
  (ss_cons (ss_if (st_w (sw_or (st_not (st_tru (se_callB sc_isi T.m_isinstance (by decide +kernel) (sa_cons (se_var 1) (sa_cons (se_ty T.m_tuple (by decide +kernel)) sa_nil))))) (sw_or (st_cmp (so_eq (huE hr)) (se_callB sc_len T.m_len (by decide +kernel) (sa_cons (se_var 1) sa_nil)) se_int) (sw_or1 (st_not (st_tru (se_callB sc_isi T.m_isinstance (by decide +kernel) (sa_cons (se_ix (se_var 1) se_int) (sa_cons (se_ty T.m_str (by decide +kernel)) sa_nil))))))))) (ss_one (ss_ret se_bl)) ss_nil)
  (ss_cons (ss_if (st_cmp (so_eq (huE hr)) (se_ix (se_var 0) se_int) se_str) (ss_cons (ss_if (st_w (sw_or (st_cmp (so_ne (huE hr)) (se_ix (se_var 1) se_int) se_str) (sw_or1 (st_cmp (so_ne (huE hr)) (se_callB sc_len T.m_len (by decide +kernel) (sa_cons (se_var 1) sa_nil)) se_int)))) (ss_one (ss_ret se_bl)) ss_nil)
    (ss_one (ss_ret (se_and (se_call self_ok hr (sa_cons (se_ix (se_var 0) se_int) (sa_cons (se_ix (se_var 1) se_int) sa_nil))) (se_one (se_call self_ok hr (sa_cons (se_ix (se_var 0) se_int) (sa_cons (se_ix (se_var 1) se_int) sa_nil)))))))) ss_nil)
  (ss_cons (ss_if (st_cmp (so_eq (huE hr)) (se_ix (se_var 0) se_int) se_str) (ss_cons (ss_if (st_w (sw_or (st_cmp (so_ne (huE hr)) (se_ix (se_var 1) se_int) se_str) (sw_or (st_cmp (so_ne (huE hr)) (se_callB sc_len T.m_len (by decide +kernel) (sa_cons (se_var 1) sa_nil)) se_int) (sw_or1 (st_not (st_tru (se_call (ok__law_whole T) hr (sa_cons (se_ix (se_var 1) se_int) sa_nil)))))))) (ss_one (ss_ret se_bl)) ss_nil)
    (ss_cons (ss_if (st_w (sw_or (st_cmp so_lt (se_ix (se_var 1) se_int) se_int) (sw_or1 (st_cmp so_ge (se_ix (se_var 1) se_int) (se_callB sc_len T.m_len (by decide +kernel) (sa_cons (se_ix (se_var 0) se_int) sa_nil)))))) (ss_one (ss_ret se_bl)) ss_nil)
    (ss_one (ss_ret (se_call self_ok hr (sa_cons (se_ix (se_ix (se_var 0) se_int) (se_ix (se_var 1) se_int)) (sa_cons (se_ix (se_var 1) se_int) sa_nil))))))) ss_nil)
  (ss_cons (ss_if (st_cmp (so_eq (huE hr)) (se_ix (se_var 1) se_int) se_str) (ss_one (ss_ret (se_cmp (so_eq (huE hr)) (se_callB sc_len T.m_len (by decide +kernel) (sa_cons (se_var 1) sa_nil)) se_int))) ss_nil)
  (ss_one (ss_ret (se_and (se_cmp (so_eq (huE hr)) (se_ix (se_var 1) se_int) se_str) (se_and (se_cmp (so_eq (huE hr)) (se_callB sc_len T.m_len (by decide +kernel) (sa_cons (se_var 1) sa_nil)) se_int) (se_one (se_call self_ok hr (sa_cons (se_ix (se_var 0) se_int) (sa_cons (se_ix (se_var 1) se_int) sa_nil))))))))))))))
theorem ok__law_wild (T : Facts K mg) : ∀ n : Nat, Fok P w K mg "_law_wild" (2 + n) ["tape", "depth"] (f__law_wild n)
  | 0 => Fok.none (ps := ["tape", "depth"]) T.d__law_wild (fun _ _ _ _ _ _ us hl => match us, hl with | [_, _], _ => rfl)
  | n + 1 => by
    have self_ok := ok__law_wild T n
    refine Fok.of T.d__law_wild sc__law_wild (fun _ _ _ _ _ _ us hl => match us, hl with | [_, _], _ => rfl) (fun base f cdv A outer s H E hr => ?_)
    exact (ss_cons (ss_set (i := 2) sc__law_wild.nd (se_call (ok__law_draw T) hr (sa_cons (se_var 0) (sa_cons se_int sa_nil))))
  (ss_cons (ss_if (st_cmp (so_eq (huE hr)) (se_var 2) se_int) (ss_one (ss_ret (se_ix (se_lst (sa_cons se_bl (sa_cons se_bl (sa_cons se_non sa_nil)))) (se_call (ok__law_draw T) hr (sa_cons (se_var 0) (sa_cons se_int sa_nil)))))) ss_nil)
  (ss_cons (ss_if (st_cmp so_lt (se_var 2) se_int) (ss_one (ss_ret (se_ix (se_lst (sa_cons se_int (sa_cons se_int (sa_cons se_int (sa_cons (se_neg se_int) (sa_cons (se_call (ok__law_integer T) hr (sa_cons (se_var 0) (sa_cons se_int sa_nil))) sa_nil)))))) (se_call (ok__law_draw T) hr (sa_cons (se_var 0) (sa_cons se_int sa_nil)))))) ss_nil)
  (ss_cons (ss_if (st_w (sw_or (st_cmp so_lt (se_var 2) se_int) (sw_or1 (st_cmp (so_eq (huE hr)) (se_var 1) se_int)))) (ss_one (ss_ret (se_ix (se_lst (sa_cons se_str (sa_cons se_str (sa_cons se_str (sa_cons se_str (sa_cons se_str (sa_cons se_str sa_nil))))))) (se_call (ok__law_draw T) hr (sa_cons (se_var 0) (sa_cons se_int sa_nil)))))) ss_nil)
  (ss_one (ss_ret (se_callTy sc_tuple T.m_tuple (by decide +kernel) (sa_cons (se_lc rfl sc__law_wild.nd (si_rng1 T.m_range (se_call (ok__law_draw T) hr (sa_cons (se_var 0) (sa_cons se_int sa_nil)))) (blkOk_by (own := [("k", 3)]) (by rfl)) (fun _ _ _ _ _ => sg_name (i := 3) sc__law_wild.nd) (fun _ _ _ _ _ => sts_nil) (fun _ _ _ _ _ => (se_call self_ok hr (sa_cons (se_var 0) (sa_cons (se_op so_sub (se_var 1) se_int) sa_nil))))) sa_nil))))))))
theorem ok__law_spoilt (T : Facts K mg) : ∀ n : Nat, Fok P w K mg "_law_spoilt" (6 + n) ["tape", "value"] (f__law_spoilt n)
  | 0 => Fok.none (ps := ["tape", "value"]) T.d__law_spoilt (fun _ _ _ _ _ _ us hl => match us, hl with | [_, _], _ => rfl)
  | n + 1 => by
    have self_ok := ok__law_spoilt T n
    refine Fok.of T.d__law_spoilt sc__law_spoilt (fun _ _ _ _ _ _ us hl => match us, hl with | [_, _], _ => rfl) (fun base f cdv A outer s H E hr => ?_)
    exact (ss_cons (ss_set (i := 2) sc__law_spoilt.nd (se_call (ok__law_draw T) hr (sa_cons (se_var 0) (sa_cons se_int sa_nil))))
  (ss_cons (ss_if (st_w (sw_and (st_tru (se_callB sc_isi T.m_isinstance (by decide +kernel) (sa_cons (se_var 1) (sa_cons (se_ty T.m_tuple (by decide +kernel)) sa_nil)))) (sw_and (st_cmp so_gt (se_callB sc_len T.m_len (by decide +kernel) (sa_cons (se_var 1) sa_nil)) se_int) (sw_and1 (st_cmp so_lt (se_var 2) se_int))))) (ss_cons (ss_set (i := 3) sc__law_spoilt.nd (se_call (ok__law_draw T) hr (sa_cons (se_var 0) (sa_cons (se_callB sc_len T.m_len (by decide +kernel) (sa_cons (se_var 1) sa_nil)) sa_nil))))
    (ss_cons (ss_if (st_cmp so_lt (se_var 2) se_int) (ss_one (ss_ret (se_op so_add (se_op so_add (se_slice (se_var 1) so_none (so_some (se_var 3))) (se_tup (sa_cons (se_call self_ok hr (sa_cons (se_var 0) (sa_cons (se_ix (se_var 1) (se_var 3)) sa_nil))) sa_nil))) (se_slice (se_var 1) (so_some (se_op so_add (se_var 3) se_int)) so_none)))) ss_nil)
    (ss_cons (ss_if (st_cmp (so_eq (huE hr)) (se_var 2) se_int) (ss_one (ss_ret (se_op so_add (se_slice (se_var 1) so_none (so_some (se_var 3))) (se_slice (se_var 1) (so_some (se_op so_add (se_var 3) se_int)) so_none)))) ss_nil)
    (ss_one (ss_ret (se_op so_add (se_var 1) (se_tup (sa_cons se_int sa_nil)))))))) ss_nil)
  (ss_cons (ss_if (st_w (sw_and (st_tru (se_call (ok__law_whole T) hr (sa_cons (se_var 1) sa_nil))) (sw_and (st_cmp so_le se_int (se_var 1)) (sw_and (st_cmp so_le (se_var 1) se_int) (sw_and1 (st_cmp so_lt (se_var 2) se_int)))))) (ss_one (ss_ret (se_ix (se_lst (sa_cons (se_cmp (so_eq (huE hr)) (se_var 1) se_int) (sa_cons (se_cmp (so_eq (huE hr)) (se_var 1) se_int) (sa_cons (se_neg se_int) (sa_cons (se_op so_sub (se_var 1) se_int) (sa_cons (se_op so_add (se_var 1) se_int) sa_nil)))))) (se_var 2)))) ss_nil)
  (ss_one (ss_ret (se_call (ok__law_wild T 4) hr (sa_cons (se_var 0) (sa_cons se_int sa_nil))))))))
theorem ok_law (T : Facts K mg) : Fok P w K mg "law" 15 ["script"] f_law := by
  refine Fok.of (k := 14) T.d_law sc_law (fun _ _ _ _ _ _ us hl => match us, hl with | [_], _ => rfl) (fun base f cdv A outer s H E hr => ?_)
  exact (ss_cons (ss_set (i := 1) sc_law.nd (se_call (ok__law_tape T) hr (sa_cons (se_var 0) sa_nil)))
  (ss_cons (ss_set (i := 2) sc_law.nd (se_call (ok__law_kind T 4) hr (sa_cons (se_var 1) (sa_cons se_int (sa_cons se_int sa_nil)))))
  (ss_cons (ss_set (i := 3) sc_law.nd (se_call (ok__law_kind T 4) hr (sa_cons (se_var 1) (sa_cons se_int (sa_cons se_int sa_nil)))))
  (ss_cons (ss_set (i := 4) sc_law.nd (se_call (ok__law_letter T 4) hr (sa_cons (se_var 1) (sa_cons (se_var 2) (sa_cons (se_tup (sa_cons se_int (sa_cons se_int sa_nil))) sa_nil)))))
  (ss_cons (ss_set (i := 5) sc_law.nd (se_call (ok__law_spoilt T 8) hr (sa_cons (se_var 1) (sa_cons (se_var 4) sa_nil))))
  (ss_cons (ss_set (i := 6) sc_law.nd (se_lst (sa_cons (se_var 4) (sa_cons (se_var 5) (sa_cons (se_call (ok__law_spoilt T 8) hr (sa_cons (se_var 1) (sa_cons (se_var 5) sa_nil))) (sa_cons (se_call (ok__law_letter T 4) hr (sa_cons (se_var 1) (sa_cons (se_var 3) (sa_cons (se_tup (sa_cons se_int (sa_cons se_int sa_nil))) sa_nil)))) (sa_cons (se_call (ok__law_wild T 4) hr (sa_cons (se_var 1) (sa_cons se_int sa_nil))) sa_nil)))))))
  (ss_cons (ss_set (i := 6) sc_law.nd (se_op so_add (se_var 6) (se_lst (sa_cons (se_ix (se_lst (sa_cons se_bl (sa_cons se_bl (sa_cons se_non sa_nil)))) (se_call (ok__law_draw T) hr (sa_cons (se_var 1) (sa_cons se_int sa_nil)))) (sa_cons (se_var 4) sa_nil)))))
  (ss_cons (ss_for PassesOwn.never rfl (si_seq (se_var 6)) (sg_name (i := 7) sc_law.nd) (ss_one (ss_for PassesOwn.never rfl (si_seq (se_lst (sa_cons (se_var 2) (sa_cons (se_var 3) (sa_cons (se_var 2) sa_nil))))) (sg_name (i := 8) sc_law.nd) (ss_cons (ss_set (i := 9) sc_law.nd (se_call (ok_is_letter T 4) hr (sa_cons (se_var 8) (sa_cons (se_var 7) sa_nil))))
      (ss_one (ss_if (st_w (sw_or (st_not (st_tru (se_callB sc_isi T.m_isinstance (by decide +kernel) (sa_cons (se_var 9) (sa_cons (se_ty T.m_bool (by decide +kernel)) sa_nil))))) (sw_or1 (st_cmp (so_ne (huE hr)) (se_var 9) (se_call (ok__law_is_letter T 4) hr (sa_cons (se_var 8) (sa_cons (se_var 7) sa_nil))))))) (ss_one (ss_ret se_bl)) ss_nil))))))
  (ss_one (ss_ret se_bl))))))))))
end
end G
set_option maxHeartbeats 4000000
namespace G
open PySem L2 Fs
/-! ### the tape -/
def Tp (S : Store) (t s : Nat) : Prop := ∃ (ns : List Int) (a b c : Int), S[t]? = some (.lst [.loc s, .int a, .int b, .int c]) ∧ S[s]? = some (.lst (ns.map W.int)) ∧ 0 ≤ a ∧ s ≠ t
def Fr (t : Nat) (S S' : Store) : Prop := S.length ≤ S'.length ∧ ∀ (n : Nat) (c : Cell), n ≠ t → S[n]? = some c → S'[n]? = some c
theorem Fr.refl (t : Nat) (S : Store) : Fr t S S := ⟨Nat.le_refl _, fun _ _ _ h => h⟩
theorem Fr.trans {t : Nat} {S S1 S2 : Store} (a : Fr t S S1) (b : Fr t S1 S2) : Fr t S S2 := ⟨Nat.le_trans a.1 b.1, fun n c h e => b.2 n c h (a.2 n c h e)⟩
theorem fr_set {t : Nat} {S : Store} {c : Cell} : Fr t S (S.set t c) := ⟨by rw [List.length_set]; exact Nat.le_refl _, fun n d h e => by rw [List.getElem?_set_ne (Ne.symm h)]; exact e⟩
theorem fr_app {t : Nat} {S : Store} {cs : List Cell} : Fr t S (S ++ cs) := ⟨by rw [List.length_append]; omega, fun n d h e => by
  rw [List.getElem?_append_left]
  · exact e
  · exact (List.getElem?_eq_some_iff.mp e).1⟩
theorem lt_of {S : Store} {n : Nat} {c : Cell} (h : S[n]? = some c) : n < S.length := (List.getElem?_eq_some_iff.mp h).1
theorem get_set {S : Store} {n : Nat} {c d : Cell} (h : S[n]? = some d) : (S.set n c)[n]? = some c := List.getElem?_set_self (lt_of h)
theorem Tp.app {S : Store} {t s : Nat} {cs : List Cell} (h : Tp S t s) : Tp (S ++ cs) t s := by
  obtain ⟨ns, a, b, c, h1, h2, h3⟩ := h
  exact ⟨ns, a, b, c, by rw [List.getElem?_append_left (lt_of h1)]; exact h1, by rw [List.getElem?_append_left (lt_of h2)]; exact h2, h3⟩
theorem Tp.lt {S : Store} {t s : Nat} (h : Tp S t s) : t < S.length ∧ s < S.length := by
  obtain ⟨ns, a, b, c, h1, h2, h3⟩ := h
  exact ⟨lt_of h1, lt_of h2⟩
/-- the tape's cell is written -/
theorem Tp.put {S : Store} {t s : Nat} {ns : List Int} {a b c : Int} {d : Cell} (h1 : S[t]? = some d) (hne : s ≠ t) (h2 : S[s]? = some (.lst (ns.map W.int))) (h0 : 0 ≤ a) : Tp (S.set t (.lst [.loc s, .int a, .int b, .int c])) t s :=
  ⟨ns, a, b, c, get_set h1, by rw [List.getElem?_set_ne (Ne.symm hne)]; exact h2, h0, hne⟩
/-- some other cell is written -/
theorem Tp.other {S : Store} {t s n : Nat} {c : Cell} (h : Tp S t s) (hn : n ≠ t) (hs : n ≠ s) : Tp (S.set n c) t s := by
  obtain ⟨ns, a, b, e, h1, h2, h3⟩ := h
  exact ⟨ns, a, b, e, by rw [List.getElem?_set_ne hn]; exact h1, by rw [List.getElem?_set_ne hs]; exact h2, h3⟩
theorem Fr.put {t : Nat} {S0 S : Store} {n : Nat} {c : Cell} (h : Fr t S0 S) (hn : S0.length ≤ n) : Fr t S0 (S.set n c) := ⟨by rw [List.length_set]; exact h.1, fun k d hk e => by
  have := lt_of e
  rw [List.getElem?_set_ne (by omega)]
  exact h.2 k d hk e⟩
theorem Fr.get {t : Nat} {S0 S : Store} {n : Nat} {c : Cell} (h : Fr t S0 S) (hn : n ≠ t) (e : S0[n]? = some c) : S[n]? = some c := h.2 n c hn e
theorem pow18 {S : Store} : gPow (.int 10) (.int 18) S = .ok (.int 1000000000000000000) S := by
  show (if (0 : Int) ≤ 18 ∧ (18 : Int) ≤ 1000000 ∧ (10 : Int).natAbs < 2 ^ 64 then Res.ok (W.int (10 ^ (18 : Int).toNat)) S else .bad) = _
  rw [if_pos (by decide)]
  rfl
theorem pos_of {m : Int} {j : Int} (hj : 0 < j) : 0 < (if m < j then j else m) := by split <;> omega
theorem log_of {m : Int} {j : Int} (h : m.natAbs.log2 < 9000) (hj : j.natAbs.log2 < 9000) : (if m < j then j else m).natAbs.log2 < 9000 := by split <;> assumption
def many (m : Int) : Int := if m < 1 then 1 else m
theorem atNat {α : Type} {xs : List α} {a : Int} (h0 : 0 ≤ a) (h1 : a < (xs.length : Int)) : ∃ x, L2.atI xs a = some x ∧ x ∈ xs := by
  have hk : a.toNat < xs.length := by omega
  refine ⟨xs[a.toNat], ?_, List.getElem_mem hk⟩
  unfold L2.atI ixN
  rw [if_pos h0, if_pos h1]
  exact List.getElem?_eq_getElem hk
theorem mem_int {ns : List Int} {w : W} (h : w ∈ ns.map W.int) : ∃ i, w = .int i := by
  obtain ⟨i, _, rfl⟩ := List.mem_map.mp h
  exact ⟨i, rfl⟩
theorem ixn_lit {n : Nat} {i : Int} (h0 : 0 ≤ i) (h : i < (n : Int)) : ixN n i = some i.toNat := by
  unfold ixN
  rw [if_pos h0, if_pos h]
/-- what a draw is worth -/
def DrP (t s : Nat) (S : Store) (m : Int) (r : Res W) : Prop := ∃ k S', r = .ok (.int k) S' ∧ Tp S' t s ∧ Fr t S S' ∧ 0 ≤ k ∧ k < many m
theorem draw_ok {S : Store} {t s : Nat} {m : Int} (h : Tp S t s) (hm : m.natAbs.log2 < 9000) : DrP t s S m (f__law_draw [.loc t, .int m] S) := by
  obtain ⟨ns, a, b, c, ht, hs, ha, hne⟩ := h
  have m1 : 0 < (if m < 1 then 1 else m : Int) := pos_of (by decide)
  have m2 : 0 < (if m < 2 then 2 else m : Int) := pos_of (by decide)
  have l2 : (if m < 2 then 2 else m : Int).natAbs.log2 < 9000 := log_of hm (by decide)
  have lo : ∀ i : Int, 0 ≤ i % (if m < 1 then 1 else m) := fun i => Int.emod_nonneg _ (by omega)
  have hi : ∀ i : Int, i % (if m < 1 then 1 else m) < many m := fun i => Int.emod_lt_of_pos _ m1
  have gs : ∀ c, (S.set t c)[t]? = some c := fun c => get_set ht
  by_cases hb : b = 0
  · subst hb
    by_cases hl : a < (ns.length : Int)
    · -- a number of the script
      obtain ⟨x, ex, hx⟩ := atNat (xs := ns.map W.int) ha (by simpa using hl)
      obtain ⟨i, rfl⟩ := mem_int hx
      generalize hj : (if i < 0 then -i else i) = j
      by_cases hs18 : j < 1000000000000000000
      · simp [f__law_draw, d__law_draw, ixl ht at0_ev, ixl ht at1_ev, ixl ht at2_ev, len_loc hs, hl, ixl hs ex, hj, ht, ixn_lit, pow18, hs18, mul_ii, mod_ii m1, mod_ii, gs]
        exact ⟨_, _, rfl, Tp.put ht hne hs (by omega), fr_set, lo _, hi _⟩
      · simp [f__law_draw, d__law_draw, ixl ht at0_ev, ixl ht at1_ev, ixl ht at2_ev, len_loc hs, hl, ixl hs ex, hj, ht, ixn_lit, pow18, hs18, mul_ii, mod_ii m1, mod_ii, gs, ixl (gs _) at2_ev, div_ii ⟨m2, l2⟩]
        exact ⟨_, _, rfl, Tp.put ht hne hs (by omega), fr_set, lo _, hi _⟩
    · -- behind the script's end
      generalize hj : (c * 48271 + a + 1) % 2147483647 = j
      have hj0 : j < 1000000000000000000 := by omega
      simp [f__law_draw, d__law_draw, ixl ht at0_ev, ixl ht at1_ev, ixl ht at2_ev, ixl ht at3_ev, len_loc hs, hl, hj, hj0, ht, ixn_lit, pow18, mul_ii, mod_ii m1, mod_ii, gs, ixl (gs _) at3_ev]
      exact ⟨_, _, rfl, Tp.put ht hne hs (by omega), fr_set, lo _, hi _⟩
  · simp [f__law_draw, d__law_draw, ixl ht at2_ev, hb, ht, ixn_lit, div_ii ⟨m2, l2⟩, mod_ii m1]
    exact ⟨_, _, rfl, Tp.put ht hne hs ha, fr_set, lo _, hi _⟩
theorem log_big {m : Int} (h1 : -10000000000000000000000000000000000000000 ≤ m) (h2 : m ≤ 10000000000000000000000000000000000000000) : m.natAbs.log2 < 9000 := by
  have h : m.natAbs < 2 ^ 200 := by
    have e : (2 : Nat) ^ 200 = 1606938044258990275541962092341162602522202993782792835301376 := by decide
    rw [e]
    omega
  exact Nat.lt_trans (PySem.Flt.log2_lt_of (by decide) h) (by decide)
/-- a draw by a written number -/
theorem draw_n {S : Store} {t s : Nat} (m : Int) (h : Tp S t s) (h1 : 1 ≤ m := by omega) (h2 : m ≤ 10000000000000000000000000000000000000000 := by omega) : ∃ k S', f__law_draw [.loc t, .int m] S = .ok (.int k) S' ∧ Tp S' t s ∧ Fr t S S' ∧ 0 ≤ k ∧ k < m := by
  obtain ⟨k, S', e, a, b, c, d⟩ := draw_ok h (log_big (by omega) h2)
  refine ⟨k, S', e, a, b, c, ?_⟩
  unfold many at d
  rw [if_neg (by omega)] at d
  exact d
/-! ### texts -/
def SOK (n : Nat) (x : Str) : Prop := PyData.strOk x = true ∧ x.length ≤ n
theorem SOK.mono {m n : Nat} {x : Str} (h : SOK m x) (hm : m ≤ n) : SOK n x := ⟨h.1, Nat.le_trans h.2 hm⟩
theorem str_len (x y : Str) : (x ++ y).length = x.length + y.length := by
  show (x.cps ++ y.cps).size = x.cps.size + y.cps.size
  rw [Array.size_append]
theorem SOK.add {m n : Nat} {x y : Str} (hx : SOK m x) (hy : SOK n y) : SOK (m + n) (x ++ y) := by
  refine ⟨?_, by rw [str_len]; have := hx.2; have := hy.2; omega⟩
  have h1 := hx.1
  have h2 := hy.1
  unfold PyData.strOk at h1 h2 ⊢
  show (x.cps ++ y.cps).all _ = true
  rw [Array.all_append, h1, h2]
  rfl
theorem add_ss {x y : Str} {S : Store} (h : x.length + y.length ≤ 1000) : gAdd (.str x) (.str y) S = .ok (.str (x ++ y)) S := if_pos (Nat.le_trans h (by decide))
theorem ix_s {z : Str} {i : Int} {S : Store} (hz : z.length ≤ 1000) (h0 : 0 ≤ i) (h1 : i < (z.length : Int)) (hok : PyData.strOk z = true) : ∃ x, gIx (.str z) (.int i) S = .ok (.str x) S ∧ SOK 1 x := by
  obtain ⟨c, e, hc⟩ := atNat (xs := z.cps.toList) h0 (by simpa [Str.length] using h1)
  refine ⟨⟨#[c]⟩, ?_, ?_, Nat.le_refl _⟩
  · show (if z.length ≤ sizeLine then _ else _) = _
    rw [if_pos (Nat.le_trans hz (by decide)), e]
  · unfold PyData.strOk at hok ⊢
    rw [Array.all_eq_true'] at hok
    have := hok c (by simpa using hc)
    simpa using this
/-- an item of a list that stands at p -/
theorem ix_lit {S : Store} {p : Nat} {ws : List W} {k : Int} (h : S[p]? = some (.lst ws)) (h0 : 0 ≤ k) (h1 : k < (ws.length : Int)) : ∃ w, gIx (.loc p) (.int k) S = .ok w S ∧ w ∈ ws := by
  obtain ⟨w, e, hw⟩ := atNat h0 h1
  exact ⟨w, ixl h e, hw⟩
/-! ### kinds -/
abbrev strW (s : String) : W := .str (Str.ofString s)
mutual
inductive Kd : Nat → Int → W → Prop
  | names {n : Nat} {ns : List Str} : ns ≠ [] → ns.length ≤ 4 → ns.Nodup → (∀ x ∈ ns, SOK 6 x) → Kd (n + 1) 1 (.tup [strW "names", .tup (ns.map .str)])
  | kint {n : Nat} : Kd (n + 1) 1 (.tup [strW "integers"])
  | pair {n : Nat} {s s' : Int} {a b : W} : Kd n s a → Kd n s' b → Kd (n + 1) (1 + s + s') (.tup [strW "pair", a, b])
  | either {n : Nat} {s : Int} {ks : List W} : KdA n s ks → ks ≠ [] → ks.length ≤ 3 → Kd (n + 1) (1 + s) (.tup [strW "either", .tup ks])
  | maybe {n : Nat} {s : Int} {a : W} : Kd n s a → Kd (n + 1) (1 + s) (.tup [strW "maybe", a])
inductive KdA : Nat → Int → List W → Prop
  | nil {n : Nat} : KdA n 0 []
  | cons {n : Nat} {s s' : Int} {a : W} {r : List W} : Kd n s a → KdA n s' r → KdA n (s + s') (a :: r)
end
theorem KdA.mem : ∀ {n : Nat} {ks : List W} {s : Int}, KdA n s ks → ∀ a ∈ ks, ∃ s', Kd n s' a
  | _, [], _, _, _, h => by cases h
  | _, k :: ks, _, h, a, m => by
    cases h with
    | cons h1 h2 =>
      rcases List.mem_cons.mp m with rfl | m
      · exact ⟨_, h1⟩
      · exact KdA.mem h2 a m
theorem KdA.snoc : ∀ {n : Nat} {ks : List W} {s s' : Int} {a : W}, KdA n s ks → Kd n s' a → KdA n (s + s') (ks ++ [a])
  | _, [], _, s', _, h, h' => by
    cases h
    have := KdA.cons h' KdA.nil
    rw [show (0 : Int) + s' = s' + 0 by omega]
    exact this
  | _, k :: ks, _, s', _, h, h' => by
    cases h with
    | @cons _ s1 s2 _ _ h1 h2 =>
      have := KdA.cons h1 (KdA.snoc h2 h')
      rw [show s1 + s2 + s' = s1 + (s2 + s') by omega]
      exact this
theorem Kd.pos : ∀ {n : Nat} {s : Int} {k : W}, Kd n s k → 1 ≤ s := by
  intro n
  induction n with
  | zero => intro s k h; cases h
  | succ n ih =>
    have ihA : ∀ (ks : List W) (s : Int), KdA n s ks → 0 ≤ s := fun ks => by
      induction ks with
      | nil => intro s h; cases h; exact Int.le_refl _
      | cons a r ihr =>
        intro s h
        cases h with
        | cons h1 h2 =>
          have := ih h1
          have := ihr _ h2
          omega
    intro s k h
    cases h with
    | names => exact Int.le_refl _
    | kint => exact Int.le_refl _
    | pair h1 h2 => have := ih h1; have := ih h2; omega
    | either h1 => have := ihA _ _ h1; omega
    | maybe h1 => have := ih h1; omega
theorem Kd.mono : ∀ {n : Nat} {s : Int} {k : W}, Kd n s k → Kd (n + 1) s k := by
  intro n
  induction n with
  | zero => intro s k h; cases h
  | succ n ih =>
    have ihA : ∀ (ks : List W) (s : Int), KdA n s ks → KdA (n + 1) s ks := fun ks => by
      induction ks with
      | nil => intro s h; cases h; exact .nil
      | cons a r ihr =>
        intro s h
        cases h with
        | cons h1 h2 => exact .cons (ih h1) (ihr _ h2)
    intro s k h
    cases h with
    | names a b c d => exact .names a b c d
    | kint => exact .kint
    | pair h1 h2 => exact .pair (ih h1) (ih h2)
    | either h1 h2 h3 => exact .either (ihA _ _ h1) h2 h3
    | maybe h1 => exact .maybe (ih h1)
theorem Kd.le {n m : Nat} {s : Int} {k : W} (h : Kd n s k) (hm : n ≤ m) : Kd m s k := by
  induction hm with
  | refl => exact h
  | step _ ih => exact ih.mono
end G
set_option maxHeartbeats 4000000
namespace G
open PySem L2 Fs
theorem sum_ints : ∀ {n : Nat} {ks : List W} {s : Int} {ys : List W}, KdA n s ks → ys.length = ks.length → (∀ (i : Nat) (w y : W), ks[i]? = some w → ys[i]? = some y → ∀ s', Kd n s' w → y = .int s') → ∃ ns, intsW ys = some ns ∧ ns.sum = s
  | _, [], _, ys, h, hl, _ => by
    cases h
    cases ys with
    | nil => exact ⟨[], rfl, rfl⟩
    | cons a r => cases hl
  | n, k :: ks, _, ys, h, hl, hr => by
    cases h with
    | @cons _ s1 s2 _ _ h1 h2 =>
      cases ys with
      | nil => cases hl
      | cons y ys =>
        obtain ⟨ns, e1, e2⟩ := sum_ints (ys := ys) h2 (by simpa using hl) fun i w z a b => hr (i + 1) w z (by simpa using a) (by simpa using b)
        have e := hr 0 k y rfl rfl _ h1
        subst e
        refine ⟨s1 :: ns, ?_, ?_⟩
        rotate_left
        · rw [List.sum_cons, e2]
        · show (intsW ys).map _ = _
          rw [e1]
          rfl
theorem kinds_ok : ∀ {n : Nat} {s : Int} {k : W}, Kd n s k → ∀ S, ∃ cs, f__law_kinds n [k] S = .ok (.int s) (S ++ cs) := by
  intro n
  induction n with
  | zero => intro s k h; cases h
  | succ n ih =>
    intro s k h S
    cases h with
    | names a b c d => exact ⟨[], by simp +decide [f__law_kinds, d__law_kinds, ixt0, ixt1]⟩
    | kint => exact ⟨[], by simp +decide [f__law_kinds, d__law_kinds, ixt0, ixt1]⟩
    | pair h1 h2 =>
      obtain ⟨c1, e1⟩ := ih h1 S
      obtain ⟨c2, e2⟩ := ih h2 (S ++ c1)
      exact ⟨c1 ++ c2, by simp +decide [f__law_kinds, d__law_kinds, ixt0, ixt1, ixt2, e1, e2]⟩
    | maybe h1 =>
      obtain ⟨c1, e1⟩ := ih h1 S
      exact ⟨c1, by simp +decide [f__law_kinds, d__law_kinds, ixt0, ixt1, ixt2, e1]⟩
    | @either _ s ks h1 h2 h3 =>
      obtain ⟨ys, cs, e, hl, hr⟩ := lc_map (S1 := S) (ls := [some (W.tup [strW "either", .tup ks]), none]) (vs := [1]) (j := 1) (te := dCall (f__law_kinds n) [dVar 1]) (st := stayOf (.tup ks) ks) (ws := ks) (R := fun w y => ∀ s', Kd n s' w → y = .int s') (fun _ _ => trivial) (by omega) (fun w S2 hw => by
        obtain ⟨s', hk⟩ := h1.mem w hw
        obtain ⟨c1, e1⟩ := ih hk S2
        refine ⟨.int s', c1, ?_, fun s2 hk2 => ?_⟩
        · simp [wipeW, e1]
        · obtain ⟨c2, e2⟩ := ih hk2 S2
          rw [e1] at e2
          injection e2)
      obtain ⟨ns, n1, n2⟩ := sum_ints h1 hl hr
      have hs : gSum [.loc S.length] (S ++ Cell.lst ys :: cs) = .ok (.int s) (S ++ Cell.lst ys :: cs) := by rw [sum_loc get_mid n1, n2]
      refine ⟨Cell.lst ys :: cs, ?_⟩
      simp +decide [f__law_kinds, d__law_kinds, ixt0, ixt1, ixt2, seqW, e, hs]
end G
set_option maxHeartbeats 4000000
namespace G
open PySem L2 Fs
/-! ### names -/
abbrev sgn : Str := Str.ofString "abcdexyzABZ0189 !\"#$&'()*+,-./:;<=>?\x40[\\]^_{|}~"
theorem sgn_len : sgn.length = 46 := by decide +kernel
theorem sgn_ok : PyData.strOk sgn = true := by decide +kernel
theorem len_sgn {S : Store} : gLen [.str sgn] S = .ok (.int 46) S := by
  show (if sgn.length ≤ sizeLine then Res.ok (W.int sgn.length) S else .bad) = _
  rw [sgn_len, if_pos (by decide)]
  rfl
def fixW : List W := [strW "none", strW "pair", strW "case", strW "some", strW "true", strW "0"]
theorem in_strs (x : Str) : ∀ ns : List Str, inFl (.str x) (ns.map .str) = decide (x ∈ ns)
  | [] => rfl
  | n :: r => by
    show (eqFl (.str n) (.str x) || inFl (.str x) (r.map .str)) = _
    rw [in_strs x r]
    show ((n == x) || _) = _
    by_cases h : n = x
    · subst h; simp
    · have h' : ¬ x = n := fun e => h e.symm
      have : (n == x) = false := by simpa using h
      rw [this]
      simp [h']
theorem allFlat_strs : ∀ ns : List Str, allFlat (ns.map .str) = true
  | [] => rfl
  | n :: r => by
    show (flatW (.str n) && allFlat (r.map .str)) = true
    rw [allFlat_strs r]
    rfl
theorem notIn_strs {S : Store} {p : Nat} {x : Str} {ns : List Str} (h : S[p]? = some (.lst (ns.map .str))) : gNotIn (.str x) (.loc p) S = .ok (.bl (!decide (x ∈ ns))) S := by
  show (match seqW S (.loc p) with | some ws => (if flatW (.str x) = true ∧ allFlat ws = true then Res.ok (W.bl (true != inFl (.str x) ws)) S else _) | none => _) = _
  rw [show seqW S (.loc p) = lstW S (.loc p) from rfl, lst_loc h]
  dsimp only
  rw [if_pos ⟨rfl, allFlat_strs ns⟩, in_strs, true_bne]
theorem in_strsT {S : Store} {x : Str} {ns : List Str} : gIn (.str x) (.tup (ns.map .str)) S = .ok (.bl (decide (x ∈ ns))) S := by
  show (if flatW (.str x) = true ∧ allFlat (ns.map .str) = true then Res.ok (W.bl (false != inFl (.str x) (ns.map .str))) S else _) = _
  rw [if_pos ⟨rfl, allFlat_strs ns⟩, in_strs, false_bne]
/-- one sign -/
theorem sign_ok {S : Store} {k : Int} (h0 : 0 ≤ k) (h1 : k < 46) : ∃ x, gIx (.str sgn) (.int k) S = .ok (.str x) S ∧ SOK 1 x :=
  ix_s (by rw [sgn_len]; decide) h0 (by rw [sgn_len]; omega) sgn_ok
def NmI (t s q p : Nat) (S0 : Store) (stem : Str) (i : Nat) (ls : Lo) (S : Store) : Prop := ∃ x5 x6 ns, ls = [some (.loc t), some (.str sgn), some (.loc q), some (.str stem), some (.loc p), x5, x6] ∧ Tp S t s ∧ Fr t S0 S ∧ S[q]? = some (.lst fixW) ∧
  S[p]? = some (.lst (ns.map .str)) ∧ ns.length ≤ i ∧ (0 < i → ns ≠ []) ∧ ns.Nodup ∧ ∀ x ∈ ns, SOK 6 x
def NmP (t s : Nat) (S : Store) (r : Res W) : Prop := ∃ ns S', r = .ok (.tup (ns.map .str)) S' ∧ Tp S' t s ∧ Fr t S S' ∧ ns ≠ [] ∧ ns.length ≤ 4 ∧ ns.Nodup ∧ ∀ x ∈ ns, SOK 6 x
theorem fix_str {w : W} (h : w ∈ fixW) : ∃ x, w = .str x ∧ SOK 4 x := by
  unfold fixW at h
  simp only [List.mem_cons, List.mem_nil_iff, or_false] at h
  rcases h with rfl | rfl | rfl | rfl | rfl | rfl <;> exact ⟨_, rfl, by decide +kernel, by decide +kernel⟩
/-- a turn of the loop -/
theorem name_turn {t s q p : Nat} {S0 S : Store} {stem : Str} {i : Nat} {ls : Lo} {w : W} (hstem : SOK 4 stem) (hp : S0.length ≤ p) (hpt : p ≠ t) (hps : p ≠ s) (hpq : q ≠ p) (hqt : q ≠ t) (hi : i < 1000) (h : NmI t s q p S0 stem i ls S) :
    ∃ ls0 ls1 S1, dgName 5 w ls = some ls0 ∧ (dSeq (dSet 6 (dOp gAdd (dVar 3) (dOp gIx (dVar 1) (dCall f__law_draw [(dVar 0), (dCall gLen [(dVar 1)])]))))
    (dSeq (dIf (dTB (dOp gEq (dCall f__law_draw [(dVar 0), (dC (.int 3))]) (dC (.int 0)))) (dSet 6 (dOp gAdd (dVar 6) (dOp gIx (dVar 1) (dCall f__law_draw [(dVar 0), (dCall gLen [(dVar 1)])])))) dNx)
    (dSeq (dIf (dTB (dOp gEq (dCall f__law_draw [(dVar 0), (dC (.int 8))]) (dC (.int 0)))) (dSet 6 (dOp gIx (dVar 2) (dCall f__law_draw [(dVar 0), (dC (.int 6))]))) dNx)
    (dIf (dTB (dOp gNotIn (dVar 6) (dVar 4))) (dExpr (dAppend (dVar 4) (dVar 6))) dNx)))) ls0 S = .nx ls1 S1 ∧ NmI t s q p S0 stem (i + 1) ls1 S1 := by
  obtain ⟨x5, x6, ns, rfl, hT, hF, hq, hN, hlen, hne, hnd, hall⟩ := h
  obtain ⟨k1, S1, e1, T1, F1, l1, u1⟩ := draw_n 46 hT
  obtain ⟨y1, d1, o1⟩ := sign_ok (S := S1) l1 u1
  obtain ⟨k2, S2, e2, T2, F2, l2, u2⟩ := draw_n 3 T1
  have ad1 : ∀ S, gAdd (.str stem) (.str y1) S = .ok (.str (stem ++ y1)) S := fun S => add_ss (by have := hstem.2; have := o1.2; omega)
  have o2 := hstem.add o1
  -- the second sign
  have st2 : ∃ (nm : Str) (S3 : Store), (dIf (dTB (dOp gEq (dCall f__law_draw [(dVar 0), (dC (.int 3))]) (dC (.int 0)))) (dSet 6 (dOp gAdd (dVar 6) (dOp gIx (dVar 1) (dCall f__law_draw [(dVar 0), (dCall gLen [(dVar 1)])])))) dNx)
      [some (.loc t), some (.str sgn), some (.loc q), some (.str stem), some (.loc p), some w, some (.str (stem ++ y1))] S1 = .nx [some (.loc t), some (.str sgn), some (.loc q), some (.str stem), some (.loc p), some w, some (.str nm)] S3 ∧ SOK 6 nm ∧ Tp S3 t s ∧ Fr t S1 S3 := by
    by_cases hk : k2 = 0
    · obtain ⟨k3, S3, e3, T3, F3, l3, u3⟩ := draw_n 46 T2
      obtain ⟨y3, d3, o3⟩ := sign_ok (S := S3) l3 u3
      refine ⟨stem ++ y1 ++ y3, S3, ?_, (o2.add o3).mono (by decide), T3, F2.trans F3⟩
      have ad3 : gAdd (.str (stem ++ y1)) (.str y3) S3 = .ok (.str (stem ++ y1 ++ y3)) S3 := add_ss (by have := o2.2; have := o3.2; omega)
      simp [e2, hk, len_sgn, e3, d3, ad3]
    · exact ⟨stem ++ y1, S2, by simp [e2, hk], o2.mono (by decide), T2, F2⟩
  obtain ⟨nm, S3, x3, o3, T3, F3⟩ := st2
  obtain ⟨k4, S4, e4, T4, F4, l4, u4⟩ := draw_n 8 T3
  have fq : ∀ {S'}, Fr t S1 S' → S'[q]? = some (.lst fixW) := fun f => f.get hqt (F1.get hqt hq)
  have st3 : ∃ (nm' : Str) (S5 : Store), (dIf (dTB (dOp gEq (dCall f__law_draw [(dVar 0), (dC (.int 8))]) (dC (.int 0)))) (dSet 6 (dOp gIx (dVar 2) (dCall f__law_draw [(dVar 0), (dC (.int 6))]))) dNx)
      [some (.loc t), some (.str sgn), some (.loc q), some (.str stem), some (.loc p), some w, some (.str nm)] S3 = .nx [some (.loc t), some (.str sgn), some (.loc q), some (.str stem), some (.loc p), some w, some (.str nm')] S5 ∧ SOK 6 nm' ∧ Tp S5 t s ∧ Fr t S1 S5 := by
    by_cases hk : k4 = 0
    · obtain ⟨k5, S5, e5, T5, F5, l5, u5⟩ := draw_n 6 T4
      obtain ⟨y5, d5, o5⟩ := ix_lit (k := k5) (fq ((F3.trans F4).trans F5)) l5 (by exact u5)
      obtain ⟨y, rfl, o6⟩ := fix_str o5
      exact ⟨y, S5, by simp [e4, hk, e5, d5], o6.mono (by decide), T5, (F3.trans F4).trans F5⟩
    · exact ⟨nm, S4, by simp [e4, hk], o3, T4, F3.trans F4⟩
  obtain ⟨nm', S5, x5', o5, T5, F5⟩ := st3
  have G5 := F1.trans F5
  have hN5 : S5[p]? = some (.lst (ns.map .str)) := G5.get hpt hN
  have hq5 := fq F5
  have x1 : (dSet 6 (dOp gAdd (dVar 3) (dOp gIx (dVar 1) (dCall f__law_draw [(dVar 0), (dCall gLen [(dVar 1)])])))) [some (.loc t), some (.str sgn), some (.loc q), some (.str stem), some (.loc p), some w, x6] S = .nx [some (.loc t), some (.str sgn), some (.loc q), some (.str stem), some (.loc p), some w, some (.str (stem ++ y1))] S1 := by
    simp [len_sgn, e1, d1, ad1]
  by_cases hm : nm' ∈ ns
  · refine ⟨_, [some (.loc t), some (.str sgn), some (.loc q), some (.str stem), some (.loc p), some w, some (.str nm')], S5, rfl, ?_, ⟨_, _, ns, rfl, T5, hF.trans G5, hq5, hN5, by omega, ⟨fun _ z => (by subst z; cases hm), hnd, hall⟩⟩⟩
    rw [set5_ev, sq_ev, x1, sqK_nx, sq_ev, x3, sqK_nx, sq_ev, x5', sqK_nx]
    simp [notIn_strs hN5, hm]
  · refine ⟨_, [some (.loc t), some (.str sgn), some (.loc q), some (.str stem), some (.loc p), some w, some (.str nm')], S5.set p (.lst ((ns ++ [nm']).map .str)), rfl, ?_, ⟨_, _, ns ++ [nm'], rfl, T5.other hpt hps, (hF.trans G5).put hp, ?_, get_set hN5, ?_, ⟨fun _ z => (by simp at z), ?_, ?_⟩⟩⟩
    · rw [set5_ev, sq_ev, x1, sqK_nx, sq_ev, x3, sqK_nx, sq_ev, x5', sqK_nx]
      simp [notIn_strs hN5, hm, apK_ok (lst_loc hN5), append_loc hN5 (show (ns.map W.str).length < 100000 by rw [List.length_map]; omega)]
    · rw [List.getElem?_set_ne (Ne.symm hpq)]
      exact hq5
    · rw [List.length_append, List.length_singleton]
      omega
    · rw [List.nodup_append]
      refine ⟨hnd, by simp, fun a ha b hb => ?_⟩
      have : b = nm' := by simpa using hb
      subst this
      exact fun e => hm (by rw [← e]; exact ha)
    · intro x hx
      rcases List.mem_append.mp hx with hx | hx
      · exact hall x hx
      · have : x = nm' := by simpa using hx
        subst this
        exact o5
def stemW : List W := [strW "", strW "", strW "", strW "case", strW "a ,"]
theorem stem_str {w : W} (h : w ∈ stemW) : ∃ x, w = .str x ∧ SOK 4 x := by
  unfold stemW at h
  simp only [List.mem_cons, List.mem_nil_iff, or_false] at h
  rcases h with rfl | rfl | rfl | rfl | rfl <;> exact ⟨_, rfl, by decide +kernel, by decide +kernel⟩
theorem names_ok {S : Store} {t s : Nat} (h : Tp S t s) : NmP t s S (f__law_names [.loc t] S) := by
  obtain ⟨ht, hs⟩ := h.lt
  have hA : Tp (S ++ [.lst fixW] ++ [.lst stemW]) t s := h.app.app
  obtain ⟨k1, S1, e1, T1, F1, l1, u1⟩ := draw_n 5 hA
  have FA : Fr t S S1 := (fr_app.trans fr_app).trans F1
  have q1 : S1[S.length]? = some (.lst fixW) := F1.get (by omega) (by
    rw [List.getElem?_append_left (by simp)]
    exact get_mid (cs := []))
  have q2 : S1[S.length + 1]? = some (.lst stemW) := F1.get (by omega) (by
    have := get_mid (S := S ++ [Cell.lst fixW]) (c := .lst stemW) (cs := [])
    simpa using this)
  obtain ⟨w1, d1, m1⟩ := ix_lit (k := k1) q2 l1 (by exact u1)
  obtain ⟨stem, rfl, hst⟩ := stem_str m1
  -- names = [], the range
  have hB : Tp (S1 ++ [.lst []] ++ [.lst [.int 1, .int 2, .int 2, .int 3, .int 3, .int 4]]) t s := T1.app.app
  obtain ⟨k2, S2, e2, T2, F2, l2, u2⟩ := draw_n 6 hB
  have q3 : S2[S1.length + 1]? = some (.lst [.int 1, .int 2, .int 2, .int 3, .int 3, .int 4]) := F2.get (by have := F1.1; have := T1.lt; omega) (by
    have := get_mid (S := S1 ++ [Cell.lst []]) (c := .lst [.int 1, .int 2, .int 2, .int 3, .int 3, .int 4]) (cs := [])
    simpa using this)
  obtain ⟨w2, d2, m2⟩ := ix_lit (k := k2) q3 l2 (by exact u2)
  have hn : ∃ n : Int, w2 = .int n ∧ 1 ≤ n ∧ n ≤ 4 := by
    simp only [List.mem_cons, List.mem_nil_iff, or_false] at m2
    rcases m2 with rfl | rfl | rfl | rfl | rfl | rfl <;> exact ⟨_, rfl, by decide, by decide⟩
  obtain ⟨n, rfl, n1, n4⟩ := hn
  have qN : S2[S1.length]? = some (.lst []) := F2.get (by have := T1.lt; omega) (by
    rw [List.getElem?_append_left (by simp)]
    exact get_mid (cs := []))
  have qF : S2[S.length]? = some (.lst fixW) := F2.get (by omega) ((fr_app.trans fr_app).get (t := t) (by omega) q1)
  have sl : S.length < S1.length := lt_of q1
  have FB : Fr t S S2 := FA.trans ((fr_app.trans fr_app).trans F2)
  have loop := loop_inv (st := fun _ => True) (gg := dgName 5) (NmI t s S.length S1.length S stem) (fun _ _ _ _ => trivial) (rngW 0 n.toNat) 0
    (fun i w ls S' ew hI => by
      have hi : i < 4 := by
        have := (List.getElem?_eq_some_iff.mp ew).1
        rw [rngW_len] at this
        omega
      rw [Nat.zero_add] at hI ⊢
      obtain ⟨ls0, ls1, S1', a1, a2, a3⟩ := name_turn (w := w) hst (by omega) (by have := T1.lt; omega) (by have := T1.lt; omega) (by omega) (by omega) (by omega) hI
      exact ⟨ls0, ls1, S1', a1, .inl a2, a3⟩)
    [some (.loc t), some (.str sgn), some (.loc S.length), some (.str stem), some (.loc S1.length), none, none] S2
    ⟨none, none, [], rfl, T2, FB, qF, qN, Nat.le_refl _, fun z => (by cases z), List.nodup_nil, fun x hx => (by cases hx)⟩
  obtain ⟨ls3, S3, e3, x5, x6, ns, rfl, T3, F3, _, hN, hlen, hne, hnd, hall⟩ := loop
  rw [Nat.zero_add, rngW_len] at hlen hne
  refine ⟨ns, S3, ?_, T3, F3, hne (by omega), by omega, hnd, hall⟩
  have e1' : f__law_draw [.loc t, .int 5] (S ++ [Cell.lst [strW "none", strW "pair", strW "case", strW "some", strW "true", strW "0"], Cell.lst [strW "", strW "", strW "", strW "case", strW "a ,"]]) = .ok (.int k1) S1 := by
    rw [show S ++ [Cell.lst [strW "none", strW "pair", strW "case", strW "some", strW "true", strW "0"], Cell.lst [strW "", strW "", strW "", strW "case", strW "a ,"]] = S ++ [.lst fixW] ++ [.lst stemW] by rw [List.append_assoc]; rfl]
    exact e1
  have e2' : f__law_draw [.loc t, .int 6] (S1 ++ [Cell.lst [], .lst [.int 1, .int 2, .int 2, .int 3, .int 3, .int 4]]) = .ok (.int k2) S2 := by
    rw [show S1 ++ [Cell.lst [], .lst [.int 1, .int 2, .int 2, .int 3, .int 3, .int 4]] = S1 ++ [.lst []] ++ [.lst [.int 1, .int 2, .int 2, .int 3, .int 3, .int 4]] by rw [List.append_assoc]; rfl]
    exact e2
  have r1 : r1K (.ok (.int n) S2) = .ok ⟨rngW 0 n.toNat, fun _ => True⟩ S2 := r1K_ok ⟨by omega, by omega⟩
  have b6 : ∀ a b c d e f : W, [a, b, c, d, e, f].length ≤ 100 := fun _ _ _ _ _ _ => by simp
  have b5 : ∀ a b c d e : W, [a, b, c, d, e].length ≤ 100 := fun _ _ _ _ _ => by simp
  have b0 : ([] : List W).length ≤ 100 := by decide
  have L1 : (S ++ [Cell.lst [strW "none", strW "pair", strW "case", strW "some", strW "true", strW "0"]]).length = S.length + 1 := by rw [List.length_append]; rfl
  have L2 : (S1 ++ [Cell.lst []]).length = S1.length + 1 := by rw [List.length_append]; rfl
  have A1 : ∀ (S : Store) (a b : Cell), S ++ [a] ++ [b] = S ++ [a, b] := fun S a b => by rw [List.append_assoc]; rfl
  simp only [f__law_names, mk1_ev, d__law_names, sq_ev, set_ev, c_ev, setK_ok, sqK_nx, lst_ev, args_ev, argK_ok, args_nil, argK2_ok, lstK_ok (b6 _ _ _ _ _ _), lstK_ok (b5 _ _ _ _ _), lstK_ok b0, List.replicate, set1_ev, set2_ev, set3_ev, set4_ev, op_ev, opK_ok, call_ev, var0_ev, var1_ev, var2_ev, var4_ev, callK_ok, A1, e1', L1, opK2_ok, d1, for_ev, r1_ev, e2', L2, d2, r1, forK_ok, e3, rt_ev, tuple_loc hN, rtK_ok, mkK_rt]
end G
set_option maxHeartbeats 4000000
namespace G
open PySem L2 Fs
/-! ### integers -/
def InP (t s : Nat) (S : Store) (r : Res W) : Prop := ∃ i S', r = .ok (.int i) S' ∧ Tp S' t s ∧ Fr t S S'
theorem pow9 {S : Store} : gPow (.int 10) (.int 9) S = .ok (.int 1000000000) S := by
  show (if (0 : Int) ≤ 9 ∧ (9 : Int) ≤ 1000000 ∧ (10 : Int).natAbs < 2 ^ 64 then Res.ok (W.int (10 ^ (9 : Int).toNat)) S else .bad) = _
  rw [if_pos (by decide)]
  rfl
theorem pow30 {S : Store} : gPow (.int 10) (.int 30) S = .ok (.int 1000000000000000000000000000000) S := by
  show (if (0 : Int) ≤ 30 ∧ (30 : Int) ≤ 1000000 ∧ (10 : Int).natAbs < 2 ^ 64 then Res.ok (W.int (10 ^ (30 : Int).toNat)) S else .bad) = _
  rw [if_pos (by decide)]
  rfl
theorem pow21 {S : Store} : gPow (.int 10) (.int 21) S = .ok (.int 1000000000000000000000) S := by
  show (if (0 : Int) ≤ 21 ∧ (21 : Int) ≤ 1000000 ∧ (10 : Int).natAbs < 2 ^ 64 then Res.ok (W.int (10 ^ (21 : Int).toNat)) S else .bad) = _
  rw [if_pos (by decide)]
  rfl
theorem integer_ok {S : Store} {t s : Nat} {m : Int} (h : Tp S t s) (h0 : 0 ≤ m) (h1 : m ≤ 1000) : InP t s S (f__law_integer [.loc t, .int m] S) := by
  obtain ⟨k1, S1, e1, T1, F1, l1, u1⟩ := draw_n 5 h
  let L : List W := [.int 2, .int (m + 1), .int (m + 14), .int 1000000000, .int 999999999999999999999999999901]
  have T1' : Tp (S1 ++ [.lst L]) t s := T1.app
  obtain ⟨w, d1, m1⟩ := ix_lit (S := S1 ++ [.lst L]) (p := S1.length) (ws := L) (k := k1) (get_mid (cs := [])) l1 (by exact u1)
  have hw : ∃ j : Int, w = .int j ∧ 1 ≤ j ∧ j ≤ 10000000000000000000000000000000000000000 := by
    simp only [L, List.mem_cons, List.mem_nil_iff, or_false] at m1
    rcases m1 with rfl | rfl | rfl | rfl | rfl <;> exact ⟨_, rfl, by omega, by omega⟩
  obtain ⟨j, rfl, j1, j2⟩ := hw
  obtain ⟨k2, S2, e2, T2, F2, l2, u2⟩ := draw_n j T1'
  have b5 : L.length ≤ 100 := by simp [L]
  have F02 : Fr t S S2 := (F1.trans fr_app).trans F2
  -- the number
  have st2 : ∃ (i : Int) (S3 : Store), (dIf (dTB (dOp gEq (dVar 2) (dC (.int 3)))) (dSet 3 (dOp gAdd (dOp gMul (dVar 3) (dOp gPow (dC (.int 10)) (dC (.int 21)))) (dCall f__law_draw [(dVar 0), (dOp gPow (dC (.int 10)) (dC (.int 9)))]))) dNx)
      [some (.loc t), some (.int m), some (.int k1), some (.int k2)] S2 = .nx [some (.loc t), some (.int m), some (.int k1), some (.int i)] S3 ∧ Tp S3 t s ∧ Fr t S2 S3 := by
    by_cases hk : k1 = 3
    · obtain ⟨k3, S3, e3, T3, F3, l3, u3⟩ := draw_n 1000000000 T2
      have hj : j = 1000000000 := by
        subst hk
        rw [ixl (get_mid (cs := [])) at3_ev] at d1
        injection d1 with d1
        injection d1 with d1
        exact d1.symm
      refine ⟨k2 * 1000000000000000000000 + k3, S3, ?_, T3, F3⟩
      simp [hk, pow21, pow9, e3, mul_ii' (show -(2 ^ 64) < k2 ∧ k2 < 2 ^ 64 by constructor <;> omega)]
    · exact ⟨k2, S2, by simp [hk], T2, Fr.refl _ _⟩
  obtain ⟨i, S3, x2, T3, F3⟩ := st2
  let M : List W := [.int i, .int (-i)]
  have T3' : Tp (S3 ++ [.lst M]) t s := T3.app
  obtain ⟨k4, S4, e4, T4, F4, l4, u4⟩ := draw_n 2 T3'
  have q4 : S4[S3.length]? = some (.lst M) := F4.get (by have := T3.lt; omega) (get_mid (cs := []))
  obtain ⟨w4, d4, m4⟩ := ix_lit (k := k4) q4 l4 (by exact u4)
  have hw4 : ∃ j : Int, w4 = .int j := by
    simp only [M, List.mem_cons, List.mem_nil_iff, or_false] at m4
    rcases m4 with rfl | rfl <;> exact ⟨_, rfl⟩
  obtain ⟨j4, rfl⟩ := hw4
  have b2 : ∀ a b : W, [a, b].length ≤ 100 := fun _ _ => by simp
  refine ⟨j4, S4, ?_, T4, F02.trans ((F3.trans fr_app).trans F4)⟩
  have c99 : (1000000000000000000000000000000 - 99 : Int) = 999999999999999999999999999901 := by decide
  simp only [L] at b5 d1 e2
  simp only [M] at e4 d4
  simp only [f__law_integer, mk2_ev, d__law_integer, sq_ev, set_ev, call_ev, args_ev, argK_ok, args_nil, argK2_ok, callK_ok, List.replicate, var0_ev, var1_ev, c_ev, e1, setK_ok, set2_ev, sqK_nx, op_ev, opK_ok, opK2_ok, lst_ev, add_ii, pow9, pow30, sub_ii, c99, lstK_ok b5, var2_ev, d1, e2, set3_ev, x2, rt_ev, var3_ev, un_ev, unK_ok, neg_i, lstK_ok (b2 _ _), e4, d4, rtK_ok, mkK_rt]
end G
set_option maxHeartbeats 4000000
namespace G
open PySem L2 Fs
/-! ### data: no lists, texts that are texts, at most n deep -/
inductive OkW : Nat → W → Prop
  | non {n : Nat} : OkW n .non
  | bl {n : Nat} (b : Bool) : OkW n (.bl b)
  | int {n : Nat} (i : Int) : OkW n (.int i)
  | str {n : Nat} {x : Str} : PyData.strOk x = true → OkW n (.str x)
  | tup {n : Nat} {ws : List W} : (∀ w ∈ ws, OkW n w) → OkW (n + 1) (.tup ws)
theorem OkW.mono : ∀ {n m : Nat} {w : W}, OkW n w → n ≤ m → OkW m w := by
  intro n
  induction n with
  | zero =>
    intro m w h _
    cases h with
    | non => exact .non
    | bl b => exact .bl b
    | int i => exact .int i
    | str h => exact .str h
  | succ n ih =>
    intro m w h hm
    cases h with
    | non => exact .non
    | bl b => exact .bl b
    | int i => exact .int i
    | str h => exact .str h
    | tup h =>
      obtain ⟨k, rfl⟩ : ∃ k, m = k + 1 := ⟨m - 1, by omega⟩
      exact .tup fun w hw => ih (h w hw) (by omega)
theorem lay_all (S : Store) {n : Nat} (ih : ∀ w, OkW n w → (toD S w).canLay0 = true ∧ (toD S w).depth ≤ n) : ∀ ws : List W, (∀ w ∈ ws, OkW n w) → PyData.canLayAll0 (toDA S ws) = true ∧ PyData.depthAll (toDA S ws) ≤ n
  | [], _ => by
    unfold toDA PyData.canLayAll0 PyData.depthAll
    exact ⟨rfl, Nat.zero_le _⟩
  | w :: ws, h => by
    obtain ⟨h1, h2⟩ := ih w (h w List.mem_cons_self)
    obtain ⟨h3, h4⟩ := lay_all S ih ws fun w hw => h w (List.mem_cons_of_mem _ hw)
    unfold toDA PyData.canLayAll0 PyData.depthAll
    rw [h1, h3]
    exact ⟨rfl, Nat.max_le.mpr ⟨h2, h4⟩⟩
theorem OkW.lay (S : Store) : ∀ {n : Nat} {w : W}, OkW n w → (toD S w).canLay0 = true ∧ (toD S w).depth ≤ n := by
  intro n
  induction n with
  | zero =>
    intro w h
    cases h with
    | non => unfold toD PyData.canLay0 PyData.depth; exact ⟨rfl, Nat.le_refl _⟩
    | bl b => unfold toD PyData.canLay0 PyData.depth; exact ⟨rfl, Nat.le_refl _⟩
    | int i => unfold toD PyData.canLay0 PyData.depth; exact ⟨rfl, Nat.le_refl _⟩
    | str h => unfold toD PyData.canLay0 PyData.depth; exact ⟨h, Nat.le_refl _⟩
  | succ n ih =>
    intro w h
    cases h with
    | non => unfold toD PyData.canLay0 PyData.depth; exact ⟨rfl, Nat.zero_le _⟩
    | bl b => unfold toD PyData.canLay0 PyData.depth; exact ⟨rfl, Nat.zero_le _⟩
    | int i => unfold toD PyData.canLay0 PyData.depth; exact ⟨rfl, Nat.zero_le _⟩
    | str h => unfold toD PyData.canLay0 PyData.depth; exact ⟨h, Nat.zero_le _⟩
    | tup h =>
      obtain ⟨h1, h2⟩ := lay_all S (fun w hw => ih hw) _ h
      unfold toD PyData.canLay0 PyData.depth
      exact ⟨h1, Nat.succ_le_succ h2⟩
theorem OkW.shaped {S : Store} {n : Nat} {w : W} (h : OkW n w) (hn : n ≤ 64) : SeqAt.shaped (toD S w) = true := by
  obtain ⟨h1, h2⟩ := h.lay S
  unfold SeqAt.shaped
  rw [h1, decide_eq_true (Nat.le_trans h2 hn)]
  rfl
/-- == of data, whatever it is -/
theorem eqB_gen {neg : Bool} {S : Store} {x y : W} (h1 : SeqAt.shaped (toD S x) = true) (h2 : SeqAt.shaped (toD S y) = true) : gEqB neg x y S = .ok (.bl (neg != PyData.eqv (toD S x) (toD S y))) S := by
  unfold gEqB
  split
  · rename_i i j
    rw [show toD S (.int i) = .int i by unfold toD; rfl, show toD S (.int j) = .int j by unfold toD; rfl]
    unfold PyData.eqv
    rw [Bool.beq_eq_decide_eq]
  · rename_i i j
    rw [show toD S (.str i) = .str i by unfold toD; rfl, show toD S (.str j) = .str j by unfold toD; rfl]
    unfold PyData.eqv
    rw [Bool.beq_eq_decide_eq]
  · rename_i i j
    rw [show toD S (.bl i) = .bool i by unfold toD; rfl, show toD S (.bl j) = .bool j by unfold toD; rfl]
    unfold PyData.eqv
    rw [Bool.beq_eq_decide_eq]
  · rw [if_pos ⟨h1, h2⟩]
theorem eq_ok {S : Store} {n m : Nat} {x y : W} (hx : OkW n x) (hy : OkW m y) (hn : n ≤ 64) (hm : m ≤ 64) : gEq x y S = .ok (.bl (PyData.eqv (toD S x) (toD S y))) S := by
  show gEqB false x y S = _
  rw [eqB_gen (hx.shaped hn) (hy.shaped hm), false_bne]
theorem ne_ok {S : Store} {n m : Nat} {x y : W} (hx : OkW n x) (hy : OkW m y) (hn : n ≤ 64) (hm : m ≤ 64) : gNe x y S = .ok (.bl (!PyData.eqv (toD S x) (toD S y))) S := by
  show gEqB true x y S = _
  rw [eqB_gen (hx.shaped hn) (hy.shaped hm), true_bne]
/-- with short tuples -/
inductive Sh : Nat → Nat → W → Prop
  | non {l n : Nat} : Sh l n .non
  | bl {l n : Nat} (b : Bool) : Sh l n (.bl b)
  | int {l n : Nat} (i : Int) : Sh l n (.int i)
  | str {l n : Nat} {x : Str} : PyData.strOk x = true → Sh l n (.str x)
  | tup {l n : Nat} {ws : List W} : ws.length ≤ l → (∀ w ∈ ws, Sh l n w) → Sh l (n + 1) (.tup ws)
theorem Sh.ok : ∀ {n l : Nat} {w : W}, Sh l n w → OkW n w := by
  intro n
  induction n with
  | zero =>
    intro l w h
    cases h with
    | non => exact .non
    | bl b => exact .bl b
    | int i => exact .int i
    | str h => exact .str h
  | succ n ih =>
    intro l w h
    cases h with
    | non => exact .non
    | bl b => exact .bl b
    | int i => exact .int i
    | str h => exact .str h
    | tup h1 h => exact .tup fun w hw => ih (h w hw)
theorem Sh.mono : ∀ {n m l k : Nat} {w : W}, Sh l n w → n ≤ m → l ≤ k → Sh k m w := by
  intro n
  induction n with
  | zero =>
    intro m l k w h _ _
    cases h with
    | non => exact .non
    | bl b => exact .bl b
    | int i => exact .int i
    | str h => exact .str h
  | succ n ih =>
    intro m l k w h hm hk
    cases h with
    | non => exact .non
    | bl b => exact .bl b
    | int i => exact .int i
    | str h => exact .str h
    | tup h1 h =>
      obtain ⟨j, rfl⟩ : ∃ j, m = j + 1 := ⟨m - 1, by omega⟩
      exact .tup (by omega) fun w hw => ih (h w hw) (by omega) hk
/-! ### letters -/
inductive Lt : W → W → Prop
  | name {ns : List Str} {x : Str} : x ∈ ns → Lt (.tup [strW "names", .tup (ns.map .str)]) (.str x)
  | kint (i : Int) : Lt (.tup [strW "integers"]) (.int i)
  | pair {a b x y : W} : Lt a x → Lt b y → Lt (.tup [strW "pair", a, b]) (.tup [strW "pair", x, y])
  | case {ks : List W} {i : Int} {a x : W} : 0 ≤ i → ks[i.toNat]? = some a → Lt a x → Lt (.tup [strW "either", .tup ks]) (.tup [strW "case", .int i, x])
  | none {a : W} : Lt (.tup [strW "maybe", a]) (.tup [strW "none"])
  | some {a x : W} : Lt a x → Lt (.tup [strW "maybe", a]) (.tup [strW "some", x])
theorem strW_ok {l n : Nat} (s : String) (h : PyData.strOk (Str.ofString s) = true := by decide +kernel) : Sh l n (strW s) := .str h
theorem Lt.ok : ∀ {n : Nat} {s : Int} {k w : W}, Kd n s k → Lt k w → Sh 3 n w := by
  intro n
  induction n with
  | zero => intro s k w h; cases h
  | succ n ih =>
    intro s k w h hl
    cases h with
    | names a b c d =>
      generalize hk : W.tup [strW "names", _] = k at hl
      cases hl with
      | name hx =>
        injection hk with hk
        injection hk with _ hk
        injection hk with hk
        injection hk with hk
        have : ∀ {l l' : List Str}, l.map W.str = l'.map W.str → l = l' := fun {l l'} e => List.map_inj_right (fun _ _ e => W.str.inj e) |>.mp e
        have e := this hk
        subst e
        exact .str (d _ hx).1
      | kint => cases hk
      | pair => exact absurd hk (by simp)
      | case => exact absurd hk (by simp +decide)
      | none => exact absurd hk (by simp +decide)
      | some => exact absurd hk (by simp +decide)
    | kint => cases hl with
      | kint i => exact .int i
    | pair h1 h2 =>
      generalize hk : W.tup [strW "pair", _, _] = k at hl
      cases hl with
      | pair a b =>
        cases hk
        refine .tup (by simp) fun w hw => ?_
        simp only [List.mem_cons, List.mem_nil_iff, or_false] at hw
        rcases hw with rfl | rfl | rfl
        · exact strW_ok "pair"
        · exact ih h1 a
        · exact ih h2 b
      | name => exact absurd hk (by simp)
      | kint => cases hk
      | case => exact absurd hk (by simp +decide)
      | none => exact absurd hk (by simp +decide)
      | some => exact absurd hk (by simp +decide)
    | either h1 h2 h3 =>
      generalize hk : W.tup [strW "either", _] = k at hl
      cases hl with
      | case h0 hi hx =>
        cases hk
        obtain ⟨s', hs⟩ := h1.mem _ (List.mem_of_getElem? hi)
        refine .tup (by simp) fun w hw => ?_
        simp only [List.mem_cons, List.mem_nil_iff, or_false] at hw
        rcases hw with rfl | rfl | rfl
        · exact strW_ok "case"
        · exact .int _
        · exact ih hs hx
      | name => exact absurd hk (by simp +decide)
      | kint => cases hk
      | pair => exact absurd hk (by simp)
      | none => exact absurd hk (by simp +decide)
      | some => exact absurd hk (by simp +decide)
    | maybe h1 =>
      generalize hk : W.tup [strW "maybe", _] = k at hl
      cases hl with
      | none =>
        refine .tup (by simp) fun w hw => ?_
        simp only [List.mem_cons, List.mem_nil_iff, or_false] at hw
        subst hw
        exact strW_ok "none"
      | some hx =>
        cases hk
        refine .tup (by simp) fun w hw => ?_
        simp only [List.mem_cons, List.mem_nil_iff, or_false] at hw
        rcases hw with rfl | rfl
        · exact strW_ok "some"
        · exact ih h1 hx
      | name => exact absurd hk (by simp +decide)
      | kint => cases hk
      | pair => exact absurd hk (by simp)
      | case => exact absurd hk (by simp +decide)
/-! ### drawn letters -/
def LtP (t s : Nat) (S : Store) (k : W) (r : Res W) : Prop := ∃ w S', r = .ok w S' ∧ Tp S' t s ∧ Fr t S S' ∧ Lt k w
theorem letter_ok {t s : Nat} {q : W} {m : Int} (m0 : 0 ≤ m) (m1 : m ≤ 1000) : ∀ {n : Nat} {z : Int} {k : W}, Kd n z k → ∀ {S : Store}, Tp S t s → LtP t s S k (f__law_letter n [.loc t, k, .tup [.int m, q]] S) := by
  intro n
  induction n with
  | zero => intro z k h; cases h
  | succ n ih =>
    intro z k h S hT
    have b1 : ∀ a : W, [a].length ≤ 100 := fun _ => by simp
    have b2 : ∀ a b : W, [a, b].length ≤ 100 := fun _ _ => by simp
    have b3 : ∀ a b c : W, [a, b, c].length ≤ 100 := fun _ _ _ => by simp
    cases h with
    | @names _ ns a b c d =>
      have hl : 1 ≤ (ns.length : Int) := by
        cases ns with
        | nil => exact absurd rfl a
        | cons x r => rw [List.length_cons]; omega
      obtain ⟨k1, S1, e1, T1, F1, l1, u1⟩ := draw_n (ns.length : Int) hT
      obtain ⟨w, d1, mm⟩ := atNat (xs := ns.map W.str) l1 (by simpa using u1)
      obtain ⟨x, hx, rfl⟩ := List.mem_map.mp mm
      exact ⟨.str x, S1, by simp +decide [f__law_letter, d__law_letter, ixt0, ixt1, e1, ix_t d1], T1, F1, .name hx⟩
    | kint =>
      obtain ⟨i, S1, e1, T1, F1⟩ := integer_ok hT m0 m1
      exact ⟨.int i, S1, by simp +decide [f__law_letter, d__law_letter, ixt0, ixt1, e1], T1, F1, .kint i⟩
    | pair h1 h2 =>
      obtain ⟨x, S1, e1, T1, F1, r1⟩ := ih h1 hT
      obtain ⟨y, S2, e2, T2, F2, r2⟩ := ih h2 T1
      exact ⟨_, S2, by simp +decide [f__law_letter, d__law_letter, ixt0, ixt1, ixt2, e1, e2, tupK_ok (b3 _ _ _)], T2, F1.trans F2, .pair r1 r2⟩
    | @either _ _ ks h1 h2 h3 =>
      have hl : 1 ≤ (ks.length : Int) := by
        cases ks with
        | nil => exact absurd rfl h2
        | cons x r => rw [List.length_cons]; omega
      obtain ⟨k1, S1, e1, T1, F1, l1, u1⟩ := draw_n (ks.length : Int) hT
      obtain ⟨a, d1, mm⟩ := atNat (xs := ks) l1 u1
      obtain ⟨z', hz⟩ := h1.mem a mm
      obtain ⟨x, S2, e2, T2, F2, r2⟩ := ih hz T1
      have hg : ks[k1.toNat]? = some a := by
        unfold L2.atI ixN at d1
        rw [if_pos l1, if_pos u1] at d1
        exact d1
      exact ⟨_, S2, by simp +decide [f__law_letter, d__law_letter, ixt0, ixt1, ixt2, e1, ix_t d1, e2, tupK_ok (b3 _ _ _)], T2, F1.trans F2, .case l1 hg r2⟩
    | maybe h1 =>
      obtain ⟨k1, S1, e1, T1, F1, l1, u1⟩ := draw_n 3 hT
      by_cases hk : k1 = 0
      · exact ⟨_, S1, by simp +decide [f__law_letter, d__law_letter, ixt0, ixt1, e1, hk, tupK_ok (b1 _)], T1, F1, .none⟩
      · obtain ⟨x, S2, e2, T2, F2, r2⟩ := ih h1 T1
        exact ⟨_, S2, by simp +decide [f__law_letter, d__law_letter, ixt0, ixt1, e1, hk, e2, tupK_ok (b2 _ _)], T2, F1.trans F2, .some r2⟩
end G
set_option maxHeartbeats 4000000
namespace G
open PySem L2 Fs
/-! ### drawn kinds -/
def KdP (t s : Nat) (S : Store) (d : Nat) (m : Int) (r : Res W) : Prop := ∃ k z S', r = .ok k S' ∧ Tp S' t s ∧ Fr t S S' ∧ Kd d z k ∧ z ≤ m
theorem leaf_ok {n : Nat} {t s : Nat} {S : Store} {d : Nat} {m c : Int} {S1 : Store} (hm : 1 ≤ m) (e1 : f__law_draw [.loc t, .int 8] S = .ok (.int c) S1) (T1 : Tp S1 t s) (F1 : Fr t S S1) {D : Int} (hc : D = 1 ∨ m = 1 ∨ c < 2) :
    KdP t s S (d + 1) m (f__law_kind (n + 1) [.loc t, .int D, .int m] S) := by
  have b1 : ∀ a : W, [a].length ≤ 100 := fun _ => by simp
  have b2 : ∀ a b : W, [a, b].length ≤ 100 := fun _ _ => by simp
  obtain ⟨k2, S2, e2, T2, F2, l2, u2⟩ := draw_n 3 T1
  have ht : ∀ ls3 : Lo, (dOrT (dTB (dOp gEq (dVar 1) (dC (.int 1)))) (dOrT (dTB (dOp gEq (dVar 2) (dC (.int 1)))) (dTB (dOp gLt (dVar 3) (dC (.int 2)))))) (some (.loc t) :: some (.int D) :: some (.int m) :: some (.int c) :: ls3) S1 = .ok true S1 := fun ls3 => by
    by_cases h1 : D = 1
    · simp [h1]
    · by_cases h2 : m = 1
      · simp [h1, h2]
      · have h3 : c < 2 := by
          rcases hc with h | h | h
          · exact absurd h h1
          · exact absurd h h2
          · exact h
        simp [h1, h2, h3]
  by_cases hk : k2 = 0
  · obtain ⟨ns, S3, e3, T3, F3, n1, n2, n3, n4⟩ := names_ok T2
    refine ⟨_, 1, S3, ?_, T3, (F1.trans F2).trans F3, .names n1 n2 n3 n4, hm⟩
    simp only [f__law_kind, mk3_ev, d__law_kind, sq_ev, set_ev, call_ev, args_ev, argK_ok, args_nil, argK2_ok, callK_ok, List.replicate, var0_ev, c_ev, e1, setK_ok, set3_ev, sqK_nx, if_ev, ht, ifK_t, tb_ev, op_ev, opK_ok, opK2_ok, e2, eq_ii, hk, tbK_ok, decide_true, rt_ev, tup_ev, e3, tupK_ok (b2 _ _), rtK_ok, sqK_rt, mkK_rt]
  · refine ⟨_, 1, S2, ?_, T2, F1.trans F2, .kint, hm⟩
    simp only [f__law_kind, mk3_ev, d__law_kind, sq_ev, set_ev, call_ev, args_ev, argK_ok, args_nil, argK2_ok, callK_ok, List.replicate, var0_ev, c_ev, e1, setK_ok, set3_ev, sqK_nx, if_ev, ht, ifK_t, tb_ev, op_ev, opK_ok, opK2_ok, e2, eq_ii, hk, tbK_ok, decide_false, ifK_f, nx_ev, rt_ev, tup_ev, tupK_ok (b1 _), rtK_ok, sqK_rt, mkK_rt]
def KlI (t s : Nat) (p : Nat) (S0 : Store) (d : Nat) (D m c parts : Int) (i : Nat) (ls : Lo) (S : Store) : Prop := ∃ x4 x8 x9 left ks z, ls = [some (.loc t), some (.int D), some (.int m), some (.int c), x4, some (.int left), some (.int parts), some (.loc p), x8, x9] ∧
  Tp S t s ∧ Fr t S0 S ∧ S[p]? = some (.lst ks) ∧ ks.length = i ∧ KdA d z ks ∧ z + left = m - 1 ∧ parts - i ≤ left
theorem kl_turn {n t s p : Nat} {S0 S : Store} {d : Nat} {D m c parts : Int} {i : Nat} {ls : Lo} (ih : ∀ {m : Int} {S : Store}, 1 ≤ m → m ≤ 1000 → Tp S t s → KdP t s S d m (f__law_kind n [.loc t, .int (d : Int), .int m] S)) (hd : D - 1 = (d : Int)) (h4 : d ≤ 4) (hm : m ≤ 1000)
    (hp : S0.length ≤ p) (hpt : p ≠ t) (hps : p ≠ s) (hi : (i : Int) < parts) (hi2 : i < 1000) (h : KlI t s p S0 d D m c parts i ls S) :
    ∃ ls0 ls1 S1, dgName 8 (.int (0 + (i : Int))) ls = some ls0 ∧ (dSeq (dSet 9 (dCall (f__law_kind n) [(dVar 0), (dOp gSub (dVar 1) (dC (.int 1))), (dOp gSub (dVar 5) (dOp gSub (dOp gSub (dVar 6) (dC (.int 1))) (dVar 8)))]))
    (dSeq (dExpr (dAppend (dVar 7) (dVar 9)))
    (dSet 5 (dOp gSub (dVar 5) (dCall (f__law_kinds 4) [(dVar 9)]))))) ls0 S = .nx ls1 S1 ∧ KlI t s p S0 d D m c parts (i + 1) ls1 S1 := by
  obtain ⟨x4, x8, x9, left, ks, z, rfl, hT, hF, hp1, hlen, hA, hz, hl⟩ := h
  have zp : 0 ≤ z := by
    cases ks with
    | nil => cases hA; exact Int.le_refl _
    | cons a r =>
      have : ∀ (ks : List W) (z : Int), KdA d z ks → 0 ≤ z := fun ks => by
        induction ks with
        | nil => intro z h; cases h; exact Int.le_refl _
        | cons a r ihr =>
          intro z h
          cases h with
          | cons h1 h2 =>
            have := h1.pos
            have := ihr _ h2
            omega
      exact this _ _ hA
  obtain ⟨k, z', S1, e1, T1, F1, hk, hz'⟩ := ih (m := left - (parts - 1 - (0 + (i : Int)))) (S := S) (by omega) (by omega) hT
  have hp2 := F1.get hpt hp1
  have T2 : Tp (S1.set p (.lst (ks ++ [k]))) t s := T1.other hpt hps
  obtain ⟨cs, e3⟩ := kinds_ok (hk.le h4) (S1.set p (.lst (ks ++ [k])))
  refine ⟨_, [some (.loc t), some (.int D), some (.int m), some (.int c), x4, some (.int (left - z')), some (.int parts), some (.loc p), some (.int (0 + (i : Int))), some k], S1.set p (.lst (ks ++ [k])) ++ cs, rfl, ?_,
    ⟨_, _, _, left - z', ks ++ [k], z + z', rfl, T2.app, ((hF.trans F1).put hp).trans fr_app, ?_, ?_, hA.snoc hk, by omega, by omega⟩⟩
  · simp only [set8_ev, sq_ev, set_ev, call_ev, args_ev, argK_ok, args_nil, argK2_ok, callK_ok, var0_ev, var1_ev, var5_ev, var6_ev, var7_ev, var8_ev, c_ev, op_ev, opK_ok, opK2_ok, sub_ii, hd, e1, setK_ok, set9_ev, sqK_nx, ex_ev, ap_ev, apK_ok (lst_loc hp2), var9_ev, apK2_ok, append_loc hp2 (show ks.length < 100000 by omega), exK_ok, e3, set5_ev]
  · rw [List.getElem?_append_left (by rw [List.length_set]; exact lt_of hp2)]
    exact get_set hp2
  · rw [List.length_append, hlen]
    rfl
theorem kind_ok {t s : Nat} : ∀ {n d : Nat} {m : Int} {S : Store}, 1 ≤ d → d ≤ n → d ≤ 4 → 1 ≤ m → m ≤ 1000 → Tp S t s → KdP t s S d m (f__law_kind n [.loc t, .int (d : Int), .int m] S) := by
  intro n
  induction n with
  | zero => intro d m S h1 h2; omega
  | succ n ih =>
    intro d m S h1 h2 h4 hm hm2 hT
    have b2 : ∀ a b : W, [a, b].length ≤ 100 := fun _ _ => by simp
    have b3 : ∀ a b c : W, [a, b, c].length ≤ 100 := fun _ _ _ => by simp
    have b0 : ([] : List W).length ≤ 100 := by simp
    obtain ⟨c, S1, e1, T1, F1, l1, u1⟩ := draw_n 8 hT
    obtain ⟨d', rfl⟩ : ∃ d', d = d' + 1 := ⟨d - 1, by omega⟩
    by_cases hc : ((d' + 1 : Nat) : Int) = 1 ∨ m = 1 ∨ c < 2
    · exact leaf_ok hm e1 T1 F1 hc
    · have c1 : ¬ ((d' + 1 : Nat) : Int) = 1 := fun h => hc (.inl h)
      have c2 : ¬ m = 1 := fun h => hc (.inr (.inl h))
      have c3 : ¬ c < 2 := fun h => hc (.inr (.inr h))
      have hd1 : 1 ≤ d' := by omega
      have ed : ((d' + 1 : Nat) : Int) - 1 = (d' : Int) := by omega
      by_cases hq : m = 2 ∨ c = 2
      · obtain ⟨k, z, S2, e2, T2, F2, hk, hz⟩ := ih (d := d') (m := m - 1) hd1 (by omega) (by omega) (by omega) (by omega) T1
        refine ⟨_, 1 + z, S2, ?_, T2, F1.trans F2, .maybe hk, by omega⟩
        have ht : ∀ ls3 : Lo, (dOrT (dTB (dOp gEq (dVar 2) (dC (.int 2)))) (dTB (dOp gEq (dVar 3) (dC (.int 2))))) (some (.loc t) :: some (.int ((d' + 1 : Nat) : Int)) :: some (.int m) :: some (.int c) :: ls3) S1 = .ok true S1 := fun ls3 => by
          by_cases h1 : m = 2
          · simp [h1]
          · have h2 : c = 2 := by
              rcases hq with h | h
              · exact absurd h h1
              · exact h
            simp [h1, h2]
        have hf : ∀ ls3 : Lo, (dOrT (dTB (dOp gEq (dVar 1) (dC (.int 1)))) (dOrT (dTB (dOp gEq (dVar 2) (dC (.int 1)))) (dTB (dOp gLt (dVar 3) (dC (.int 2)))))) (some (.loc t) :: some (.int ((d' + 1 : Nat) : Int)) :: some (.int m) :: some (.int c) :: ls3) S1 = .ok false S1 := fun ls3 => by
          simp only [or_ev, tb_ev, op_ev, var1_ev, var2_ev, var3_ev, opK_ok, opK2_ok, c_ev, eq_ii, tbK_ok, c1, c2, c3, lt_ii, decide_false, oK_f]
        simp only [f__law_kind, mk3_ev, d__law_kind, sq_ev, set_ev, call_ev, args_ev, argK_ok, args_nil, argK2_ok, callK_ok, List.replicate, var0_ev, var1_ev, var2_ev, c_ev, e1, setK_ok, set3_ev, sqK_nx, if_ev, hf, ht, ifK_f, ifK_t, nx_ev, op_ev, opK_ok, opK2_ok, sub_ii, ed, e2, rt_ev, tup_ev, tupK_ok (b2 _ _), rtK_ok, sqK_rt, mkK_rt]
      · have q1 : ¬ m = 2 := fun h => hq (.inl h)
        have q2 : ¬ c = 2 := fun h => hq (.inr h)
        have hf : ∀ ls3 : Lo, (dOrT (dTB (dOp gEq (dVar 1) (dC (.int 1)))) (dOrT (dTB (dOp gEq (dVar 2) (dC (.int 1)))) (dTB (dOp gLt (dVar 3) (dC (.int 2)))))) (some (.loc t) :: some (.int ((d' + 1 : Nat) : Int)) :: some (.int m) :: some (.int c) :: ls3) S1 = .ok false S1 := fun ls3 => by
          simp only [or_ev, tb_ev, op_ev, var1_ev, var2_ev, var3_ev, opK_ok, opK2_ok, c_ev, eq_ii, tbK_ok, c1, c2, c3, lt_ii, decide_false, oK_f]
        have hf2 : ∀ ls3 : Lo, (dOrT (dTB (dOp gEq (dVar 2) (dC (.int 2)))) (dTB (dOp gEq (dVar 3) (dC (.int 2))))) (some (.loc t) :: some (.int ((d' + 1 : Nat) : Int)) :: some (.int m) :: some (.int c) :: ls3) S1 = .ok false S1 := fun ls3 => by
          simp only [or_ev, tb_ev, op_ev, var1_ev, var2_ev, var3_ev, opK_ok, opK2_ok, c_ev, eq_ii, tbK_ok, q1, q2, decide_false, oK_f]
        by_cases h6 : c < 6
        · obtain ⟨k, z, S2, e2, T2, F2, hk, hz⟩ := ih (d := d') (m := m - 2) hd1 (by omega) (by omega) (by omega) (by omega) T1
          obtain ⟨cs, e3⟩ := kinds_ok (hk.le (show d' ≤ 4 by omega)) S2
          have zp := hk.pos
          obtain ⟨k', z', S3, e4, T3, F3, hk', hz'⟩ := ih (d := d') (m := m - 1 - z) hd1 (by omega) (by omega) (by omega) (by omega) (T2.app (cs := cs))
          refine ⟨_, 1 + z + z', S3, ?_, T3, (F1.trans F2).trans (fr_app.trans F3), .pair hk hk', by omega⟩
          simp only [f__law_kind, mk3_ev, d__law_kind, sq_ev, set_ev, call_ev, args_ev, argK_ok, args_nil, argK2_ok, callK_ok, List.replicate, var0_ev, var1_ev, var2_ev, var3_ev, var4_ev, c_ev, e1, setK_ok, set3_ev, set4_ev, sqK_nx, if_ev, hf, hf2, ifK_f, ifK_t, nx_ev, op_ev, opK_ok, opK2_ok, tb_ev, lt_ii, h6, decide_true, tbK_ok, sub_ii, ed, e2, e3, e4, rt_ev, tup_ev, tupK_ok (b3 _ _ _), rtK_ok, sqK_rt, mkK_rt]
        · obtain ⟨mm, hmm⟩ : ∃ mm : Int, mm = if m - 1 < 3 then m - 1 else 3 := ⟨_, rfl⟩
          have m1 : 1 ≤ mm ∧ mm ≤ 3 ∧ mm ≤ m - 1 := by
            rw [hmm]
            split <;> omega
          obtain ⟨k2, S2, e2, T2, F2, l2, u2⟩ := draw_n mm T1
          have hS2 : S.length ≤ S2.length := (F1.trans F2).1
          have loop := loop_inv (st := fun _ => True) (gg := dgName 8) (KlI t s S2.length S d' ((d' + 1 : Nat) : Int) m c (1 + k2)) (fun _ _ _ _ => trivial) (rngW 0 (1 + k2).toNat) 0
            (fun i w ls S' ew hI => by
              obtain ⟨hi, rfl⟩ := rngW_get ew
              rw [Nat.zero_add] at hI ⊢
              obtain ⟨ls0, ls1, S1', a1, a2, a3⟩ := kl_turn (n := n) (fun h1 h2 h3 => ih hd1 (by omega) (by omega) h1 h2 h3) ed (by omega) hm2 hS2 (by have := T2.lt; omega) (by have := T2.lt; omega) (by omega) (by omega) hI
              exact ⟨ls0, ls1, S1', a1, .inl a2, a3⟩)
            [some (.loc t), some (.int ((d' + 1 : Nat) : Int)), some (.int m), some (.int c), none, some (.int (m - 1)), some (.int (1 + k2)), some (.loc S2.length), none, none] (S2 ++ [.lst []])
            ⟨none, none, none, m - 1, [], 0, rfl, T2.app, (F1.trans F2).trans fr_app, get_mid (cs := []), rfl, .nil, by omega, by omega⟩
          obtain ⟨ls3, S3, e3, x4, x8, x9, left, ks, z, rfl, T3, F3, hp3, hlen, hA, hz, hlf⟩ := loop
          rw [Nat.zero_add, rngW_len] at hlen hlf
          refine ⟨_, 1 + z, S3, ?_, T3, F3, .either hA (fun h => by rw [h, List.length_nil] at hlen; omega) (by omega), by omega⟩
          have r1 : r1K (.ok (.int (1 + k2)) (S2 ++ [.lst []])) = .ok ⟨rngW 0 (1 + k2).toNat, fun _ => True⟩ (S2 ++ [.lst []]) := r1K_ok ⟨by omega, by omega⟩
          simp only [f__law_kind, mk3_ev, d__law_kind, sq_ev, set_ev, call_ev, args_ev, argK_ok, args_nil, argK2_ok, callK_ok, List.replicate, var0_ev, var1_ev, var2_ev, var3_ev, var4_ev, c_ev, e1, setK_ok, set3_ev, set4_ev, sqK_nx, if_ev, hf, hf2, ifK_f, ifK_t, nx_ev, op_ev, opK_ok, opK2_ok, tb_ev, lt_ii, h6, decide_false, tbK_ok, sub_ii, set5_ev, var5_ev, min_ii, ← hmm, e2, add_ii, set6_ev, lst_ev, lstK_ok b0, set7_ev, for_ev, r1_ev, var6_ev, r1, forK_ok, e3, rt_ev, tup_ev, var7_ev, tuple_loc hp3, tupK_ok (b2 _ _), rtK_ok, mkK_rt]
end G
set_option maxHeartbeats 4000000
namespace G
open PySem L2 Fs
/-! ### the tape's making -/
theorem tape_ok (ns : List Int) : ∃ S, f__law_tape [.rol (ns.map W.int)] [] = .ok (.loc 1) S ∧ Tp S 1 0 ∧ S.length = 2 := by
  have loop := loop_inv (st := fun _ => True) (gg := dgName 2) (m := dSet 1 (dOp gMod (dCall gInt [(dOp gAdd (dOp gMul (dVar 1) (dC (.int 31))) (dCall gAbs [(dCall gInt [(dVar 2)])]))]) (dC (.int 2147483647))))
    (fun i ls S => ∃ (j : Int) (x2 : Option W), ls = [some (.rol (ns.map W.int)), some (.int j), x2] ∧ S = []) (fun _ _ _ _ => trivial) (ns.map W.int) 0
    (fun i w ls S ew h => by
      obtain ⟨j, x2, rfl, rfl⟩ := h
      obtain ⟨k, rfl⟩ := mem_int (List.mem_of_getElem? ew)
      refine ⟨_, [some (.rol (ns.map W.int)), some (.int ((j * 31 + (if k < 0 then -k else k)) % 2147483647)), some (.int k)], [], rfl, .inl ?_, ⟨_, _, rfl, rfl⟩⟩
      simp only [set2_ev, set_ev, op_ev, call_ev, args_ev, args_nil, var1_ev, opK_ok, c_ev, opK2_ok, mul_ii (show -(2 ^ 64) < (31 : Int) ∧ (31 : Int) < 2 ^ 64 by decide), var2_ev, argK_ok, argK2_ok, callK_ok, int_i, abs_i, add_ii, mod_ii (show (0 : Int) < 2147483647 by decide), setK_ok, set1_ev])
    [some (.rol (ns.map W.int)), some (.int 7), none] [] ⟨7, none, rfl, rfl⟩
  obtain ⟨ls, S, e, j, x2, rfl, rfl⟩ := loop
  have b4 : ∀ a b c d : W, [a, b, c, d].length ≤ 100 := fun _ _ _ _ => by simp
  refine ⟨[.lst (ns.map W.int), .lst [.loc 0, .int 0, .int 0, .int j]], ?_, ⟨ns, 0, 0, j, rfl, rfl, Int.le_refl _, by decide⟩, rfl⟩
  have st : (fun x => True) = stayOf (.rol (ns.map W.int)) (ns.map W.int) := rfl
  rw [st] at e
  have gl : gList [.rol (ns.map W.int)] [] = .ok (.loc 0) [.lst (ns.map W.int)] := rfl
  have sq : seqW [] (.rol (ns.map W.int)) = some (ns.map W.int) := rfl
  simp only [f__law_tape, mk1_ev, d__law_tape, sq_ev, set_ev, c_ev, setK_ok, List.replicate, set1_ev, sqK_nx, for_ev, si_ev, var0_ev, siK_ok, sq, siK2_ok, forK_ok, e, rt_ev, lst_ev, args_ev, args_nil, call_ev, argK_ok, argK2_ok, callK_ok, gl, var1_ev, lstK_ok (b4 _ _ _ _), rtK_ok, mkK_rt]
  rfl
/-! ### whatever may be drawn -/
def WdP (t s : Nat) (S : Store) (d : Nat) (r : Res W) : Prop := ∃ w S', r = .ok w S' ∧ Tp S' t s ∧ Fr t S S' ∧ Sh 3 d w
theorem mem_ok {n : Nat} {ws : List W} (h : ∀ w ∈ ws, Sh 3 n w) {S : Store} {p : Nat} {k : Int} (hp : S[p]? = some (.lst ws)) (h0 : 0 ≤ k) (h1 : k < (ws.length : Int)) : ∃ w, gIx (.loc p) (.int k) S = .ok w S ∧ Sh 3 n w := by
  obtain ⟨w, e, m⟩ := ix_lit hp h0 h1
  exact ⟨w, e, h w m⟩
theorem wild_ok {t s : Nat} : ∀ {n d : Nat} {S : Store}, d < n → Tp S t s → WdP t s S d (f__law_wild n [.loc t, .int (d : Int)] S) := by
  intro n
  induction n with
  | zero => intro d S h; omega
  | succ n ih =>
    intro d S hd hT
    have b3 : ∀ a b c : W, [a, b, c].length ≤ 100 := fun _ _ _ => by simp
    have b5 : ∀ a b c d e : W, [a, b, c, d, e].length ≤ 100 := fun _ _ _ _ _ => by simp
    have b6 : ∀ a b c d e f : W, [a, b, c, d, e, f].length ≤ 100 := fun _ _ _ _ _ _ => by simp
    obtain ⟨c, S1, e1, T1, F1, l1, u1⟩ := draw_n 9 hT
    by_cases h0 : c = 0
    · obtain ⟨k2, S2, e2, T2, F2, l2, u2⟩ := draw_n 3 (T1.app (cs := [.lst [.bl true, .bl false, .non]]))
      obtain ⟨w, d2, o2⟩ := mem_ok (n := d) (ws := [.bl true, .bl false, .non]) (S := S2) (p := S1.length) (k := k2) (by
        intro w hw
        simp only [List.mem_cons, List.mem_nil_iff, or_false] at hw
        rcases hw with rfl | rfl | rfl
        · exact .bl _
        · exact .bl _
        · exact .non) (F2.get (by have := T1.lt; omega) (get_mid (cs := []))) l2 (by exact u2)
      refine ⟨w, S2, ?_, T2, F1.trans (fr_app.trans F2), o2⟩
      simp only [f__law_wild, mk2_ev, d__law_wild, sq_ev, set_ev, call_ev, args_ev, argK_ok, args_nil, argK2_ok, callK_ok, List.replicate, var0_ev, var1_ev, var2_ev, c_ev, e1, setK_ok, set2_ev, sqK_nx, if_ev, tb_ev, op_ev, opK_ok, opK2_ok, eq_ii, h0, decide_true, tbK_ok, ifK_t, rt_ev, lst_ev, lstK_ok (b3 _ _ _), e2, d2, rtK_ok, sqK_rt, mkK_rt]
    · by_cases h3 : c < 3
      · obtain ⟨i, S2, e2, T2, F2⟩ := integer_ok (m := 20) T1 (by decide) (by decide)
        obtain ⟨k3, S3, e3, T3, F3, l3, u3⟩ := draw_n 5 (T2.app (cs := [.lst [.int 0, .int 1, .int 2, .int (-1), .int i]]))
        obtain ⟨w, d3, o3⟩ := mem_ok (n := d) (ws := [.int 0, .int 1, .int 2, .int (-1), .int i]) (S := S3) (p := S2.length) (k := k3) (by
          intro w hw
          simp only [List.mem_cons, List.mem_nil_iff, or_false] at hw
          rcases hw with rfl | rfl | rfl | rfl | rfl <;> exact .int _) (F3.get (by have := T2.lt; omega) (get_mid (cs := []))) l3 (by exact u3)
        refine ⟨w, S3, ?_, T3, F1.trans (F2.trans (fr_app.trans F3)), o3⟩
        simp only [f__law_wild, mk2_ev, d__law_wild, sq_ev, set_ev, call_ev, args_ev, argK_ok, args_nil, argK2_ok, callK_ok, List.replicate, var0_ev, var1_ev, var2_ev, c_ev, e1, setK_ok, set2_ev, sqK_nx, if_ev, tb_ev, op_ev, opK_ok, opK2_ok, eq_ii, h0, decide_false, tbK_ok, ifK_f, nx_ev, lt_ii, h3, decide_true, ifK_t, rt_ev, lst_ev, un_ev, unK_ok, neg_i, e2, lstK_ok (b5 _ _ _ _ _), e3, d3, rtK_ok, sqK_rt, mkK_rt]
      · by_cases h6 : c < 6 ∨ d = 0
        · have ht : ∀ ls3 : Lo, (dOrT (dTB (dOp gLt (dVar 2) (dC (.int 6)))) (dTB (dOp gEq (dVar 1) (dC (.int 0))))) (some (.loc t) :: some (.int (d : Int)) :: some (.int c) :: ls3) S1 = .ok true S1 := fun ls3 => by
            by_cases q : c < 6
            · simp only [or_ev, tb_ev, op_ev, var2_ev, opK_ok, opK2_ok, c_ev, lt_ii, q, decide_true, tbK_ok, oK_t]
            · have q2 : d = 0 := by
                rcases h6 with h | h
                · exact absurd h q
                · exact h
              have q3 : (d : Int) = 0 := by omega
              simp only [or_ev, tb_ev, op_ev, var1_ev, var2_ev, opK_ok, opK2_ok, c_ev, lt_ii, q, decide_false, tbK_ok, oK_f, eq_ii, q3, decide_true]
          obtain ⟨k2, S2, e2, T2, F2, l2, u2⟩ := draw_n 6 (T1.app (cs := [.lst [strW "pair", strW "case", strW "some", strW "none", strW "a", strW ""]]))
          obtain ⟨w, d2, o2⟩ := mem_ok (n := d) (ws := [strW "pair", strW "case", strW "some", strW "none", strW "a", strW ""]) (S := S2) (p := S1.length) (k := k2) (by
            intro w hw
            simp only [List.mem_cons, List.mem_nil_iff, or_false] at hw
            rcases hw with rfl | rfl | rfl | rfl | rfl | rfl <;> exact strW_ok _) (F2.get (by have := T1.lt; omega) (get_mid (cs := []))) l2 (by exact u2)
          refine ⟨w, S2, ?_, T2, F1.trans (fr_app.trans F2), o2⟩
          simp only [f__law_wild, mk2_ev, d__law_wild, sq_ev, set_ev, call_ev, args_ev, argK_ok, args_nil, argK2_ok, callK_ok, List.replicate, var0_ev, var1_ev, var2_ev, c_ev, e1, setK_ok, set2_ev, sqK_nx, if_ev, tb_ev, op_ev, opK_ok, opK2_ok, eq_ii, h0, decide_false, tbK_ok, ifK_f, nx_ev, lt_ii, h3, ht, ifK_t, rt_ev, lst_ev, lstK_ok (b6 _ _ _ _ _ _), e2, d2, rtK_ok, sqK_rt, mkK_rt]
        · have h7 : ¬ c < 6 := fun h => h6 (.inl h)
          have h8 : ¬ d = 0 := fun h => h6 (.inr h)
          have h9 : ¬ (d : Int) = 0 := by omega
          obtain ⟨d', rfl⟩ : ∃ d', d = d' + 1 := ⟨d - 1, by omega⟩
          have ed : ((d' + 1 : Nat) : Int) - 1 = (d' : Int) := by omega
          obtain ⟨k2, S2, e2, T2, F2, l2, u2⟩ := draw_n 4 T1
          have b4 : k2.toNat < 100000 := by omega
          have key := lcLoop_inv (st := fun _ => True) (g := dgName 3) (tt := dYes) (te := dCall (f__law_wild n) [(dVar 0), (dOp gSub (dVar 1) (dC (.int 1)))]) (ls := wipeW [some (.loc t), some (.int ((d' + 1 : Nat) : Int)), some (.int c), none] [3]) (D := S2.length)
            (fun i acc S' => Tp S' t s ∧ Fr t S S' ∧ S'[S2.length]? = some (.lst acc) ∧ acc.length = i ∧ ∀ w ∈ acc, Sh 3 d' w) (fun _ _ _ _ => trivial) (rngW 0 k2.toNat) 0
            (fun i w acc S' ew h => by
              obtain ⟨a1, a2, a3, a4, a5⟩ := h
              have hi := (rngW_get ew).1
              obtain ⟨y, S3, e3, T3, F3, o3⟩ := ih (d := d') (by omega) a1
              have p3 := F3.get (by have := T2.lt; omega) a3
              refine ⟨_, true, S', rfl, rfl, fun z => (by cases z), fun _ => ⟨y, S3, ?_, p3, by omega, T3.other (by have := T2.lt; omega) (by have := T2.lt; omega), (a2.trans F3).put (by have := (F1.trans F2).1; omega), get_set p3, by rw [List.length_append, a4]; rfl, ?_⟩⟩
              · simp only [wipeW, set3_ev, call_ev, args_ev, args_nil, var0_ev, argK_ok, op_ev, var1_ev, opK_ok, c_ev, opK2_ok, sub_ii, ed, argK2_ok, callK_ok, e3]
              · intro w hw
                rcases List.mem_append.mp hw with hw | hw
                · exact a5 w hw
                · have : w = y := by simpa using hw
                  subst this
                  exact o3) [] (S2 ++ [.lst []]) ⟨T2.app, (F1.trans F2).trans fr_app, get_mid (cs := []), rfl, fun w hw => (by cases hw)⟩
          obtain ⟨ws, S3, e3, T3, F3, p3, hlen, hall⟩ := key
          have r1 : r1K (.ok (.int k2) S2) = .ok ⟨rngW 0 k2.toNat, fun _ => True⟩ S2 := r1K_ok ⟨by omega, by omega⟩
          refine ⟨_, S3, ?_, T3, F3, .tup (by rw [hlen, Nat.zero_add, rngW_len]; omega) hall⟩
          simp only [f__law_wild, mk2_ev, d__law_wild, sq_ev, set_ev, call_ev, args_ev, argK_ok, args_nil, argK2_ok, callK_ok, List.replicate, var0_ev, var1_ev, var2_ev, c_ev, e1, setK_ok, set2_ev, sqK_nx, if_ev, tb_ev, op_ev, opK_ok, opK2_ok, eq_ii, h0, decide_false, tbK_ok, ifK_f, nx_ev, lt_ii, h3, or_ev, oK_f, h7, h9, rt_ev, lc_ev, r1_ev, e2, r1, lcK, e3, tuple_loc p3, rtK_ok, mkK_rt]
end G
set_option maxHeartbeats 4000000
namespace G
open PySem L2 Fs
/-! ### a spoilt letter -/
def isTup : W → Bool
  | .tup _ => true
  | _ => false
def isStr : W → Bool
  | .str _ => true
  | _ => false
def isBool : W → Bool
  | .bl _ => true
  | _ => false
theorem isi_tup {n : Nat} {w : W} {S : Store} (h : OkW n w) : gIsi [w, .ty "tuple"] S = .ok (.bl (isTup w)) S := by
  cases h <;> rfl
theorem isi_str {n : Nat} {w : W} {S : Store} (h : OkW n w) : gIsi [w, .ty "str"] S = .ok (.bl (isStr w)) S := by
  cases h <;> rfl
theorem isi_int {n : Nat} {w : W} {S : Store} (h : OkW n w) : gIsi [w, .ty "int"] S = .ok (.bl (match w with | .int _ => true | .bl _ => true | _ => false)) S := by
  cases h <;> rfl
theorem isi_bool {n : Nat} {w : W} {S : Store} (h : OkW n w) : gIsi [w, .ty "bool"] S = .ok (.bl (isBool w)) S := by
  cases h <;> rfl
def isNum : W → Bool
  | .int _ => true
  | _ => false
theorem whole_ok {n : Nat} {w : W} {S : Store} (h : OkW n w) : f__law_whole [w] S = .ok (.bl (isNum w)) S := by
  cases h <;> rfl
theorem isnum_ok {n : Nat} {w : W} {S : Store} (h : OkW n w) : f__is_number [w] S = .ok (.bl (isNum w)) S := by
  cases h <;> rfl
theorem cut_lo {ws : List W} {k : Int} (h : 0 ≤ k) : ∀ w ∈ cutW ws none (some k), w ∈ ws := fun w hw => by
  unfold cutW at hw
  exact List.mem_of_mem_drop (List.mem_of_mem_take hw)
theorem cut_mem {ws : List W} {lo hi : Option Int} : ∀ w ∈ cutW ws lo hi, w ∈ ws := fun w hw => by
  unfold cutW at hw
  exact List.mem_of_mem_drop (List.mem_of_mem_take hw)
theorem cut_len {ws : List W} {lo hi : Option Int} : (cutW ws lo hi).length ≤ ws.length := by
  unfold cutW
  rw [List.length_take, List.length_drop]
  omega
theorem cat_tt {a b : List W} {S : Store} (h : a.length + b.length ≤ 1000) : gAdd (.tup a) (.tup b) S = .ok (.tup (a ++ b)) S := if_pos (Nat.le_trans h (by decide))
theorem slice_t {ws : List W} {lo hi : Option Int} {S : Store} : gSlice (.tup ws) lo hi S = .ok (.tup (cutW ws lo hi)) S := rfl
def SpP (t s : Nat) (S : Store) (l m : Nat) (r : Res W) : Prop := ∃ w S', r = .ok w S' ∧ Tp S' t s ∧ Fr t S S' ∧ Sh (2 * l + 1) (m + 1) w
theorem atN {ws : List W} {k : Int} {w : W} (h : L2.atI ws k = some w) : w ∈ ws := by
  unfold L2.atI at h
  cases e : ixN ws.length k with
  | none => rw [e] at h; cases h
  | some j =>
    rw [e] at h
    exact List.mem_of_getElem? h
theorem spoilt_rest {t s n m l : Nat} {v : W} {S S1 : Store} {c : Int} (hmn : m < n + 1) (hl : 3 ≤ l) (hv : Sh l m v) (e1 : f__law_draw [.loc t, .int 6] S = .ok (.int c) S1) (T1 : Tp S1 t s) (F1 : Fr t S S1) (l1 : 0 ≤ c) (u1 : c < 6)
    (hno : ¬ c < 5 ∨ ¬ ∃ ws, v = .tup ws ∧ ws ≠ []) : SpP t s S l m (f__law_spoilt (n + 1) [.loc t, v] S) := by
  have b5 : ∀ a b c d e : W, [a, b, c, d, e].length ≤ 100 := fun _ _ _ _ _ => by simp
  have hf : (dAndT (dT (dCall gIsi [(dVar 1), (dC (.ty "tuple"))])) (dAndT (dTB (dOp gGt (dCall gLen [(dVar 1)]) (dC (.int 0)))) (dTB (dOp gLt (dVar 2) (dC (.int 5)))))) [some (.loc t), some v, some (.int c), none] S1 = .ok false S1 := by
    by_cases h1 : ∃ ws, v = .tup ws
    · obtain ⟨ws, rfl⟩ := h1
      have i1 : gIsi [.tup ws, .ty "tuple"] S1 = .ok (.bl true) S1 := rfl
      by_cases h2 : (0 : Int) < (ws.length : Int)
      · have h3 : ¬ c < 5 := by
          rcases hno with h | h
          · exact h
          · exact absurd ⟨ws, rfl, fun e => by subst e; simp at h2⟩ h
        simp only [and_ev, t_ev, call_ev, args_ev, args_nil, var1_ev, argK_ok, c_ev, argK2_ok, callK_ok, i1, tK_ok, tru_bl, aK_t, tb_ev, op_ev, len_tup, opK_ok, opK2_ok, gt_ii, h2, decide_true, tbK_ok, var2_ev, lt_ii, h3, decide_false]
      · simp only [and_ev, t_ev, call_ev, args_ev, args_nil, var1_ev, argK_ok, c_ev, argK2_ok, callK_ok, i1, tK_ok, tru_bl, aK_t, tb_ev, op_ev, len_tup, opK_ok, opK2_ok, gt_ii, h2, decide_false, tbK_ok, aK_f]
    · have i1 : gIsi [v, .ty "tuple"] S1 = .ok (.bl false) S1 := by
        rw [isi_tup hv.ok]
        cases v <;> first | rfl | exact absurd ⟨_, rfl⟩ h1
      simp only [and_ev, t_ev, call_ev, args_ev, args_nil, var1_ev, argK_ok, c_ev, argK2_ok, callK_ok, i1, tK_ok, tru_bl, aK_f]
  by_cases hw : (∃ i : Int, v = .int i ∧ 0 ≤ i ∧ i ≤ 2) ∧ c < 5
  · obtain ⟨⟨i, rfl, i0, i2⟩, hc⟩ := hw
    have T2 : Tp (S1 ++ [.lst [.bl (decide (i = 1)), .bl (decide (i = 1)), .int (-1), .int (i - 3), .int (i + 1)]]) t s := T1.app
    obtain ⟨w, d2, o2⟩ := mem_ok (n := 0) (ws := [.bl (decide (i = 1)), .bl (decide (i = 1)), .int (-1), .int (i - 3), .int (i + 1)]) (S := S1 ++ [.lst [.bl (decide (i = 1)), .bl (decide (i = 1)), .int (-1), .int (i - 3), .int (i + 1)]]) (p := S1.length) (k := c) (by
      intro w hw
      simp only [List.mem_cons, List.mem_nil_iff, or_false] at hw
      rcases hw with rfl | rfl | rfl | rfl | rfl
      · exact .bl _
      · exact .bl _
      · exact .int _
      · exact .int _
      · exact .int _) (get_mid (cs := [])) l1 (by exact hc)
    refine ⟨w, _, ?_, T2, F1.trans fr_app, o2.mono (by omega) (by omega)⟩
    have hwh : f__law_whole [.int i] S1 = .ok (.bl true) S1 := rfl
    simp only [f__law_spoilt, mk2_ev, d__law_spoilt, sq_ev, set_ev, call_ev, args_ev, argK_ok, args_nil, argK2_ok, callK_ok, List.replicate, var0_ev, c_ev, e1, setK_ok, set2_ev, sqK_nx, if_ev, hf, ifK_f, nx_ev, and_ev, t_ev, var1_ev, hwh, tK_ok, tru_bl, aK_t, tb_ev, op_ev, opK_ok, opK2_ok, le_ii, i0, i2, decide_true, tbK_ok, var2_ev, lt_ii, hc, ifK_t, rt_ev, lst_ev, eq_ii, un_ev, unK_ok, neg_i, sub_ii, add_ii, lstK_ok (b5 _ _ _ _ _), d2, rtK_ok, sqK_rt, mkK_rt]
  · have hf2 : (dAndT (dT (dCall f__law_whole [(dVar 1)])) (dAndT (dTB (dOp gLe (dC (.int 0)) (dVar 1))) (dAndT (dTB (dOp gLe (dVar 1) (dC (.int 2)))) (dTB (dOp gLt (dVar 2) (dC (.int 5))))))) [some (.loc t), some v, some (.int c), none] S1 = .ok false S1 := by
      by_cases h1 : ∃ i, v = .int i
      · obtain ⟨i, rfl⟩ := h1
        have hwh : f__law_whole [.int i] S1 = .ok (.bl true) S1 := rfl
        by_cases h0 : 0 ≤ i
        · by_cases h2 : i ≤ 2
          · have hc : ¬ c < 5 := fun h => hw ⟨⟨i, rfl, h0, h2⟩, h⟩
            simp only [and_ev, t_ev, call_ev, args_ev, args_nil, var1_ev, argK_ok, c_ev, argK2_ok, callK_ok, hwh, tK_ok, tru_bl, aK_t, tb_ev, op_ev, opK_ok, opK2_ok, le_ii, h0, h2, decide_true, tbK_ok, var2_ev, lt_ii, hc, decide_false]
          · simp only [and_ev, t_ev, call_ev, args_ev, args_nil, var1_ev, argK_ok, c_ev, argK2_ok, callK_ok, hwh, tK_ok, tru_bl, aK_t, tb_ev, op_ev, opK_ok, opK2_ok, le_ii, h0, h2, decide_true, tbK_ok, decide_false, aK_f]
        · simp only [and_ev, t_ev, call_ev, args_ev, args_nil, var1_ev, argK_ok, c_ev, argK2_ok, callK_ok, hwh, tK_ok, tru_bl, aK_t, tb_ev, op_ev, opK_ok, opK2_ok, le_ii, h0, tbK_ok, decide_false, aK_f]
      · have hwh : f__law_whole [v] S1 = .ok (.bl false) S1 := by
          rw [whole_ok hv.ok]
          cases v <;> first | rfl | exact absurd ⟨_, rfl⟩ h1
        simp only [and_ev, t_ev, call_ev, args_ev, args_nil, var1_ev, argK_ok, c_ev, argK2_ok, callK_ok, hwh, tK_ok, tru_bl, aK_f]
    obtain ⟨w, S2, e2, T2, F2, o2⟩ := wild_ok (n := 4) (d := 1) (by decide) T1
    refine ⟨w, S2, ?_, T2, F1.trans F2, o2.mono (by omega) (by omega)⟩
    have e2' : f__law_wild 4 [.loc t, .int 1] S1 = .ok w S2 := e2
    simp only [f__law_spoilt, mk2_ev, d__law_spoilt, sq_ev, set_ev, call_ev, args_ev, argK_ok, args_nil, argK2_ok, callK_ok, List.replicate, var0_ev, c_ev, e1, setK_ok, set2_ev, sqK_nx, if_ev, hf, hf2, ifK_f, nx_ev, rt_ev, e2', rtK_ok, sqK_rt, mkK_rt]
theorem spoilt_ok {t s : Nat} : ∀ {n m l : Nat} {v : W} {S : Store}, m < n → 3 ≤ l → l ≤ 400 → Sh l m v → Tp S t s → SpP t s S l m (f__law_spoilt n [.loc t, v] S) := by
  intro n
  induction n with
  | zero => intro m l v S h; omega
  | succ n ih =>
    intro m l v S hmn hl hl2 hv hT
    have b1 : ∀ a : W, [a].length ≤ 100 := fun _ => by simp
    have b5 : ∀ a b c d e : W, [a, b, c, d, e].length ≤ 100 := fun _ _ _ _ _ => by simp
    obtain ⟨c, S1, e1, T1, F1, l1, u1⟩ := draw_n 6 hT
    by_cases hc : c < 5
    · by_cases htup : ∃ ws, v = .tup ws ∧ ws ≠ []
      · obtain ⟨ws, rfl, hne⟩ := htup
        cases hv with
        | @tup m' _ hlen hall =>
        have hl1 : 1 ≤ (ws.length : Int) := by
          cases ws with
          | nil => exact absurd rfl hne
          | cons x r => rw [List.length_cons]; omega
        have hpos : (0 : Int) < (ws.length : Int) := by omega
        obtain ⟨k, S2, e2, T2, F2, l2, u2⟩ := draw_n (ws.length : Int) T1
        have i1 : gIsi [.tup ws, .ty "tuple"] S1 = .ok (.bl true) S1 := rfl
        have cl1 : (cutW ws none (some k)).length ≤ ws.length := cut_len
        have cl2 : (cutW ws (some (k + 1)) none).length ≤ ws.length := cut_len
        by_cases c3 : c < 3
        · obtain ⟨x, ex, mx⟩ := atNat (xs := ws) l2 u2
          obtain ⟨y, S3, e3, T3, F3, h3⟩ := ih (m := m') (l := l) (v := x) (by omega) hl hl2 (hall x mx) T2
          refine ⟨_, S3, ?_, T3, (F1.trans F2).trans F3, .tup (ws := cutW ws none (some k) ++ [y] ++ cutW ws (some (k + 1)) none) ?_ fun w hw => ?_⟩
          · have a1 : gAdd (.tup (cutW ws none (some k))) (.tup [y]) S3 = .ok (.tup (cutW ws none (some k) ++ [y])) S3 := cat_tt (by rw [List.length_singleton]; omega)
            have a2 : gAdd (.tup (cutW ws none (some k) ++ [y])) (.tup (cutW ws (some (k + 1)) none)) S3 = .ok (.tup (cutW ws none (some k) ++ [y] ++ cutW ws (some (k + 1)) none)) S3 := cat_tt (by rw [List.length_append, List.length_singleton]; omega)
            simp only [f__law_spoilt, mk2_ev, d__law_spoilt, sq_ev, set_ev, call_ev, args_ev, argK_ok, args_nil, argK2_ok, callK_ok, List.replicate, var0_ev, var1_ev, var2_ev, c_ev, e1, setK_ok, set2_ev, sqK_nx, if_ev, and_ev, t_ev, i1, tK_ok, tru_bl, aK_t, tb_ev, op_ev, opK_ok, opK2_ok, len_tup, gt_ii, hpos, decide_true, tbK_ok, lt_ii, hc, ifK_t, e2, set3_ev, c3, rt_ev, sl_ev, slK_ok, nop_ev, slK2_ok, part_ev, var3_ev, partK_ok, slK3_ok, slice_t, tup_ev, ix_t ex, e3, tupK_ok (b1 _), a1, add_ii, a2, rtK_ok, sqK_rt, mkK_rt]
          · rw [List.length_append, List.length_append, List.length_singleton]
            omega
          · rcases List.mem_append.mp hw with hw | hw
            · rcases List.mem_append.mp hw with hw | hw
              · exact (hall w (cut_mem w hw)).mono (by omega) (by omega)
              · have : w = y := by simpa using hw
                subst this
                exact h3
            · exact (hall w (cut_mem w hw)).mono (by omega) (by omega)
        · by_cases c4 : c = 3
          · refine ⟨_, S2, ?_, T2, F1.trans F2, .tup (ws := cutW ws none (some k) ++ cutW ws (some (k + 1)) none) ?_ fun w hw => ?_⟩
            · have a1 : gAdd (.tup (cutW ws none (some k))) (.tup (cutW ws (some (k + 1)) none)) S2 = .ok (.tup (cutW ws none (some k) ++ cutW ws (some (k + 1)) none)) S2 := cat_tt (by omega)
              simp only [f__law_spoilt, mk2_ev, d__law_spoilt, sq_ev, set_ev, call_ev, args_ev, argK_ok, args_nil, argK2_ok, callK_ok, List.replicate, var0_ev, var1_ev, var2_ev, c_ev, e1, setK_ok, set2_ev, sqK_nx, if_ev, and_ev, t_ev, i1, tK_ok, tru_bl, aK_t, tb_ev, op_ev, opK_ok, opK2_ok, len_tup, gt_ii, hpos, decide_true, tbK_ok, lt_ii, hc, ifK_t, e2, set3_ev, c3, decide_false, ifK_f, nx_ev, eq_ii, decide_eq_true c4, rt_ev, sl_ev, slK_ok, nop_ev, slK2_ok, part_ev, var3_ev, partK_ok, slK3_ok, slice_t, add_ii, a1, rtK_ok, sqK_rt, mkK_rt]
            · rw [List.length_append]
              omega
            · rcases List.mem_append.mp hw with hw | hw
              · exact (hall w (cut_mem w hw)).mono (by omega) (by omega)
              · exact (hall w (cut_mem w hw)).mono (by omega) (by omega)
          · refine ⟨_, S2, ?_, T2, F1.trans F2, .tup (ws := ws ++ [.int 0]) ?_ fun w hw => ?_⟩
            · have a1 : gAdd (.tup ws) (.tup [.int 0]) S2 = .ok (.tup (ws ++ [.int 0])) S2 := cat_tt (by rw [List.length_singleton]; omega)
              simp only [f__law_spoilt, mk2_ev, d__law_spoilt, sq_ev, set_ev, call_ev, args_ev, argK_ok, args_nil, argK2_ok, callK_ok, List.replicate, var0_ev, var1_ev, var2_ev, c_ev, e1, setK_ok, set2_ev, sqK_nx, if_ev, and_ev, t_ev, i1, tK_ok, tru_bl, aK_t, tb_ev, op_ev, opK_ok, opK2_ok, len_tup, gt_ii, hpos, decide_true, tbK_ok, lt_ii, hc, ifK_t, e2, set3_ev, c3, decide_false, ifK_f, nx_ev, eq_ii, c4, rt_ev, tup_ev, tupK_ok (b1 _), a1, rtK_ok, sqK_rt, mkK_rt]
            · rw [List.length_append, List.length_singleton]
              omega
            · rcases List.mem_append.mp hw with hw | hw
              · exact (hall w hw).mono (by omega) (by omega)
              · have : w = .int 0 := by simpa using hw
                subst this
                exact .int 0
      · exact spoilt_rest (by omega) hl hv e1 T1 F1 l1 u1 (.inr htup)
    · exact spoilt_rest (by omega) hl hv e1 T1 F1 l1 u1 (.inl hc)
end G
set_option maxHeartbeats 4000000
namespace G
open PySem L2 Fs
/-! ### is_letter, twice -/
def isS (w : W) (h : Str) : Bool := match w with
  | .str x => decide (x = h)
  | _ => false
def headS (ws : List W) (h : Str) : Bool := match ws with
  | w :: _ => isS w h
  | [] => false
theorem eqv_str {S : Store} {n : Nat} {w : W} {h : Str} (hw : OkW n w) : PyData.eqv (toD S w) (.str h) = isS w h := by
  cases hw with
  | str _ =>
    unfold toD PyData.eqv isS
    rw [Bool.beq_eq_decide_eq]
  | non => unfold toD PyData.eqv isS; rfl
  | bl b => unfold toD PyData.eqv isS; rfl
  | int b => unfold toD PyData.eqv isS; rfl
  | tup b => unfold toD PyData.eqv isS; rfl
theorem eq_str {S : Store} {n : Nat} {w : W} {h : Str} (hw : OkW n w) (hn : n ≤ 64) (hh : PyData.strOk h = true) : gEq w (.str h) S = .ok (.bl (isS w h)) S := by
  rw [eq_ok hw (OkW.str (n := 0) hh) hn (by decide), show toD S (.str h) = .str h by unfold toD; rfl, eqv_str hw]
theorem ne_str {S : Store} {n : Nat} {w : W} {h : Str} (hw : OkW n w) (hn : n ≤ 64) (hh : PyData.strOk h = true) : gNe w (.str h) S = .ok (.bl (!isS w h)) S := by
  rw [ne_ok hw (OkW.str (n := 0) hh) hn (by decide), show toD S (.str h) = .str h by unfold toD; rfl, eqv_str hw]
theorem OkW.mem {n : Nat} {ws : List W} (h : OkW (n + 1) (.tup ws)) : ∀ w ∈ ws, OkW n w := by
  cases h with
  | tup h => exact h
theorem form_ok {S : Store} {n : Nat} {ws : List W} {h : Str} {k : Int} (hw : OkW (n + 1) (.tup ws)) (hn : n ≤ 64) (hh : PyData.strOk h = true) (hk : 1 ≤ k) : f__is_form [.tup ws, .str h, .int k] S = .ok (.bl (decide ((ws.length : Int) = k) && headS ws h)) S := by
  by_cases hl : (ws.length : Int) = k
  · cases ws with
    | nil => simp at hl; omega
    | cons w r =>
      have e := eq_str (S := S) (hw.mem w List.mem_cons_self) hn hh
      simp only [f__is_form, mk3_ev, d__is_form, rt_ev, av_ev, op_ev, call_ev, args_ev, args_nil, var0_ev, argK_ok, argK2_ok, callK_ok, len_tup, opK_ok, var2_ev, opK2_ok, eq_ii, hl, decide_true, avK_ok, tru_bl, avK2_t, c_ev, ixt0, var1_ev, e, rtK_ok, mkK_rt, headS, Bool.true_and]
  · simp only [f__is_form, mk3_ev, d__is_form, rt_ev, av_ev, op_ev, call_ev, args_ev, args_nil, var0_ev, argK_ok, argK2_ok, callK_ok, len_tup, opK_ok, var2_ev, opK2_ok, eq_ii, hl, decide_false, avK_ok, tru_bl, avK2_f, rtK_ok, mkK_rt, Bool.false_and]
theorem case_ok {S : Store} {n : Nat} {ks : List W} {w : W} (hw : OkW n w) : f__is_case [.tup ks, w] S = .ok (.bl (match w with | .int i => decide (0 ≤ i) && decide (i < (ks.length : Int)) | _ => false)) S := by
  cases hw with
  | int i =>
    have e : f__is_number [.int i] S = .ok (.bl true) S := rfl
    by_cases h0 : 0 ≤ i
    · simp only [f__is_case, mk2_ev, d__is_case, rt_ev, av_ev, call_ev, args_ev, args_nil, var1_ev, argK_ok, argK2_ok, callK_ok, e, avK_ok, tru_bl, avK2_t, ch_ev, c_ev, chK_ok, chK2_ok, le_ii, h0, decide_true, chK3_t, var0_ev, len_tup, chK4_ok, lt_ii, rtK_ok, mkK_rt, Bool.true_and]
    · simp only [f__is_case, mk2_ev, d__is_case, rt_ev, av_ev, call_ev, args_ev, args_nil, var1_ev, argK_ok, argK2_ok, callK_ok, e, avK_ok, tru_bl, avK2_t, ch_ev, c_ev, chK_ok, chK2_ok, le_ii, h0, decide_false, chK3_f, rtK_ok, mkK_rt, Bool.false_and]
  | non =>
    have e : f__is_number [.non] S = .ok (.bl false) S := rfl
    simp only [f__is_case, mk2_ev, d__is_case, rt_ev, av_ev, call_ev, args_ev, args_nil, var1_ev, argK_ok, argK2_ok, callK_ok, e, avK_ok, tru_bl, avK2_f, rtK_ok, mkK_rt]
  | bl b =>
    have e : f__is_number [.bl b] S = .ok (.bl false) S := rfl
    simp only [f__is_case, mk2_ev, d__is_case, rt_ev, av_ev, call_ev, args_ev, args_nil, var1_ev, argK_ok, argK2_ok, callK_ok, e, avK_ok, tru_bl, avK2_f, rtK_ok, mkK_rt]
  | @str _ x b =>
    have e : f__is_number [.str x] S = .ok (.bl false) S := rfl
    simp only [f__is_case, mk2_ev, d__is_case, rt_ev, av_ev, call_ev, args_ev, args_nil, var1_ev, argK_ok, argK2_ok, callK_ok, e, avK_ok, tru_bl, avK2_f, rtK_ok, mkK_rt]
  | @tup _ x b =>
    have e : f__is_number [.tup x] S = .ok (.bl false) S := rfl
    simp only [f__is_case, mk2_ev, d__is_case, rt_ev, av_ev, call_ev, args_ev, args_nil, var1_ev, argK_ok, argK2_ok, callK_ok, e, avK_ok, tru_bl, avK2_f, rtK_ok, mkK_rt]
def isNone (ws : List W) : Bool := match ws with
  | [w] => isS w (Str.ofString "none")
  | _ => false
theorem none_ok {S : Store} {n : Nat} {ws : List W} (hw : OkW n (.tup ws)) (hn : n ≤ 64) : gEq (.tup ws) (.tup [strW "none"]) S = .ok (.bl (isNone ws)) S := by
  have h2 : OkW 1 (.tup [strW "none"]) := .tup fun w h => by
    have : w = strW "none" := by simpa using h
    subst this
    exact (strW_ok (l := 3) (n := 0) "none").ok
  rw [eq_ok hw h2 hn (by decide)]
  congr 2
  have e2 : toD S (.tup [strW "none"]) = .tuple [.str (Str.ofString "none")] := by
    unfold toD
    unfold toDA
    unfold toDA
    unfold toD
    rfl
  rw [e2]
  cases ws with
  | nil =>
    unfold toD
    unfold toDA
    unfold PyData.eqv PyData.eqvAll isNone
    rfl
  | cons w r =>
    cases r with
    | nil =>
      unfold toD
      unfold toDA
      unfold toDA
      unfold PyData.eqv PyData.eqvAll PyData.eqvAll isNone
      cases hw with
      | tup h => rw [eqv_str (h w List.mem_cons_self), Bool.and_true]
    | cons w2 r =>
      unfold toD
      unfold toDA
      unfold toDA
      unfold PyData.eqv PyData.eqvAll PyData.eqvAll isNone
      rw [Bool.and_false]
end G
set_option maxHeartbeats 4000000
namespace G
open PySem L2 Fs
theorem sd (a b : String) (h : Str.ofString a ≠ Str.ofString b := by decide +kernel) : decide (Str.ofString a = Str.ofString b) = false := decide_eq_false h
theorem in_names {S : Store} {m : Nat} {w : W} {ns : List Str} (hw : OkW m w) (hm : m ≤ 60) (hn : ∀ x ∈ ns, SOK 6 x) : ∃ b, gIn w (.tup (ns.map .str)) S = .ok (.bl b) S ∧ (isStr w = false → b = false) := by
  by_cases hf : flatW w = true
  · refine ⟨inFl w (ns.map .str), ?_, fun h => ?_⟩
    · show (if flatW w = true ∧ allFlat (ns.map .str) = true then Res.ok (W.bl (false != inFl w (ns.map .str))) S else _) = _
      rw [if_pos ⟨hf, allFlat_strs ns⟩, false_bne]
    · unfold inFl
      rw [List.any_eq_false]
      intro y hy
      obtain ⟨x, _, rfl⟩ := List.mem_map.mp hy
      cases hw with
      | str _ => cases h
      | tup _ => cases hf
      | non => simp [eqFl]
      | bl b => simp [eqFl]
      | int i => simp [eqFl]
  · cases hw with
    | str _ => exact absurd rfl hf
    | non => exact absurd rfl hf
    | bl b => exact absurd rfl hf
    | int i => exact absurd rfl hf
    | @tup n ws h =>
      have hs1 : SeqAt.shaped (toD S (.tup ws)) = true := (OkW.tup h).shaped (by omega)
      have hs2 : SeqAt.shaped (.tuple (toDA S (ns.map .str))) = true := by
        have : OkW 1 (.tup (ns.map .str)) := .tup fun w hw => by
          obtain ⟨x, hx, rfl⟩ := List.mem_map.mp hw
          exact .str (hn x hx).1
        have := this.shaped (S := S) (by decide)
        rw [show toD S (.tup (ns.map .str)) = .tuple (toDA S (ns.map .str)) by unfold toD; rfl] at this
        exact this
      refine ⟨inD S (.tup ws) (ns.map .str), ?_, fun _ => ?_⟩
      · show (if flatW (.tup ws) = true ∧ allFlat (ns.map .str) = true then Res.ok (W.bl (false != inFl (.tup ws) (ns.map .str))) S else if SeqAt.shaped (toD S (.tup ws)) = true ∧ SeqAt.shaped (.tuple (toDA S (ns.map .str))) = true ∧ notLoc (.tup (ns.map .str)) = true then Res.ok (W.bl (false != inD S (.tup ws) (ns.map .str))) S else _) = _
        rw [if_neg (fun z => by cases z.1), if_pos ⟨hs1, hs2, rfl⟩, false_bne]
      · unfold inD
        rw [List.any_eq_false]
        intro y hy
        obtain ⟨x, _, rfl⟩ := List.mem_map.mp hy
        rw [show toD S (.str x) = .str x by unfold toD; rfl, show toD S (.tup ws) = .tuple (toDA S ws) by unfold toD; rfl]
        unfold PyData.eqv
        simp
theorem headS_of {w : W} {r : List W} {h : Str} (hh : headS (w :: r) h = true) : w = .str h := by
  cases w with
  | str x =>
    have : x = h := of_decide_eq_true hh
    rw [this]
  | _ => cases hh
theorem head3 {ws : List W} {h : Str} (hl : (ws.length : Int) = 3) (hh : headS ws h = true) : ∃ x1 x2, ws = [.str h, x1, x2] := by
  match ws, hl, hh with
  | [y, x1, x2], _, hh =>
    rw [headS_of hh]
    exact ⟨x1, x2, rfl⟩
  | [], hl, _ => simp at hl
  | [_], hl, _ => simp at hl
  | [_, _], hl, _ => simp at hl
  | _ :: _ :: _ :: _ :: r, hl, _ => simp at hl; omega
theorem head2 {ws : List W} {h : Str} (hl : (ws.length : Int) = 2) (hh : headS ws h = true) : ∃ x1, ws = [.str h, x1] := by
  match ws, hl, hh with
  | [y, x1], _, hh =>
    rw [headS_of hh]
    exact ⟨x1, rfl⟩
  | [], hl, _ => simp at hl
  | [_], hl, _ => simp at hl
  | _ :: _ :: _ :: r, hl, _ => simp at hl; omega
theorem tup_of {w : W} (h : isTup w = true) : ∃ ws, w = .tup ws := by
  cases w <;> first | exact ⟨_, rfl⟩ | cases h
theorem str_of {w : W} (h : isStr w = true) : ∃ x, w = .str x := by
  cases w <;> first | exact ⟨_, rfl⟩ | cases h
theorem isl_no {n m : Nat} {h : String} {r : List W} {w : W} {S : Store} (hw : OkW m w) (hT : isTup w = false) (d1 : decide (Str.ofString h = Str.ofString "names") = false) (d2 : decide (Str.ofString h = Str.ofString "integers") = false) :
    f_is_letter (n + 1) [.tup (strW h :: r), w] S = .ok (.bl false) S ∧ f__law_is_letter (n + 1) [.tup (strW h :: r), w] S = .ok (.bl false) S := by
  have i1 := isi_tup (S := S) hw
  rw [hT] at i1
  constructor
  · simp only [f_is_letter, d_is_letter, mk1_ev, mk2_ev, mk3_ev, sq_ev, set_ev, call_ev, args_ev, argK_ok, args_nil, argK2_ok, callK_ok, List.replicate, c_ev, setK_ok, set2_ev, sqK_nx, sqK_rt, if_ev, tb_ev, t_ev, tK_ok, tru_bl, nt_ev, ntK_ok, and_ev, or_ev, op_ev, opK_ok, opK2_ok, tbK_ok, ifK_t, ifK_f, nx_ev, rt_ev, rtK_ok, mkK_rt, var0_ev, var1_ev, var2_ev, ixt0, ixt1, ixt2, eq_ss, len_tup, av_ev, avK_ok, avK2_t, avK2_f, ov_ev, ovK_ok, ovK2_t, ovK2_f, aK_t, aK_f, oK_t, oK_f, eq_ii, ne_ii, lt_ii, ge_ii, tup_ev, Bool.not_true, Bool.not_false, decide_true, decide_false, d1, d2, i1]
  · simp only [f__law_is_letter, d__law_is_letter, mk1_ev, mk2_ev, mk3_ev, sq_ev, set_ev, call_ev, args_ev, argK_ok, args_nil, argK2_ok, callK_ok, List.replicate, c_ev, setK_ok, set2_ev, sqK_nx, sqK_rt, if_ev, tb_ev, t_ev, tK_ok, tru_bl, nt_ev, ntK_ok, and_ev, or_ev, op_ev, opK_ok, opK2_ok, tbK_ok, ifK_t, ifK_f, nx_ev, rt_ev, rtK_ok, mkK_rt, var0_ev, var1_ev, var2_ev, ixt0, ixt1, ixt2, eq_ss, len_tup, av_ev, avK_ok, avK2_t, avK2_f, ov_ev, ovK_ok, ovK2_t, ovK2_f, aK_t, aK_f, oK_t, oK_f, eq_ii, ne_ii, lt_ii, ge_ii, tup_ev, Bool.not_true, Bool.not_false, decide_true, decide_false, d1, d2, i1]
/-- a tuple that does not begin with a text is no letter -/
theorem isl_no2 {n m : Nat} {h : String} {r ws : List W} {S : Store} (hw : OkW m (.tup ws)) (hT : ∀ x, ws.head? = some x → isStr x = false) (d1 : decide (Str.ofString h = Str.ofString "names") = false) (d2 : decide (Str.ofString h = Str.ofString "integers") = false) :
    f__law_is_letter (n + 1) [.tup (strW h :: r), .tup ws] S = .ok (.bl false) S := by
  have i1 : gIsi [.tup ws, .ty "tuple"] S = .ok (.bl true) S := rfl
  cases ws with
  | nil =>
    have l0 : decide (((([] : List W).length : Nat) : Int) = 0) = true := rfl
    simp only [f__law_is_letter, d__law_is_letter, mk1_ev, mk2_ev, mk3_ev, sq_ev, set_ev, call_ev, args_ev, argK_ok, args_nil, argK2_ok, callK_ok, List.replicate, c_ev, setK_ok, set2_ev, sqK_nx, sqK_rt, if_ev, tb_ev, t_ev, tK_ok, tru_bl, nt_ev, ntK_ok, and_ev, or_ev, op_ev, opK_ok, opK2_ok, tbK_ok, ifK_t, ifK_f, nx_ev, rt_ev, rtK_ok, mkK_rt, var0_ev, var1_ev, var2_ev, ixt0, ixt1, ixt2, eq_ss, len_tup, av_ev, avK_ok, avK2_t, avK2_f, ov_ev, ovK_ok, ovK2_t, ovK2_f, aK_t, aK_f, oK_t, oK_f, eq_ii, ne_ii, lt_ii, ge_ii, tup_ev, Bool.not_true, Bool.not_false, decide_true, decide_false, d1, d2, i1, l0]
  | cons x q =>
    have l0 : decide ((((x :: q).length : Nat) : Int) = 0) = false := decide_eq_false (by rw [List.length_cons]; omega)
    cases hw with
    | tup hx =>
      have i2 := isi_str (S := S) (hx x List.mem_cons_self)
      rw [hT x rfl] at i2
      simp only [f__law_is_letter, d__law_is_letter, mk1_ev, mk2_ev, mk3_ev, sq_ev, set_ev, call_ev, args_ev, argK_ok, args_nil, argK2_ok, callK_ok, List.replicate, c_ev, setK_ok, set2_ev, sqK_nx, sqK_rt, if_ev, tb_ev, t_ev, tK_ok, tru_bl, nt_ev, ntK_ok, and_ev, or_ev, op_ev, opK_ok, opK2_ok, tbK_ok, ifK_t, ifK_f, nx_ev, rt_ev, rtK_ok, mkK_rt, var0_ev, var1_ev, var2_ev, ixt0, ixt1, ixt2, eq_ss, len_tup, av_ev, avK_ok, avK2_t, avK2_f, ov_ev, ovK_ok, ovK2_t, ovK2_f, aK_t, aK_f, oK_t, oK_f, eq_ii, ne_ii, lt_ii, ge_ii, tup_ev, Bool.not_true, Bool.not_false, decide_true, decide_false, d1, d2, i1, l0, i2]
theorem isl : ∀ {n : Nat} {z : Int} {k : W}, Kd n z k → ∀ {m : Nat} {w : W} {S : Store}, OkW m w → m ≤ 60 → ∃ b, f_is_letter n [k, w] S = .ok (.bl b) S ∧ f__law_is_letter n [k, w] S = .ok (.bl b) S := by
  intro n
  induction n with
  | zero => intro z k h; cases h
  | succ n ih =>
    intro z k hk m w S hw hm
    have b1 : ∀ a : W, [a].length ≤ 100 := fun _ => by simp
    have i1 := isi_tup (S := S) hw
    have i2 := isi_str (S := S) hw
    have n1 := isnum_ok (S := S) hw
    have n2 := whole_ok (S := S) hw
    have okp : PyData.strOk (Str.ofString "pair") = true := by decide +kernel
    have okc : PyData.strOk (Str.ofString "case") = true := by decide +kernel
    have okn : PyData.strOk (Str.ofString "none") = true := by decide +kernel
    have oks : PyData.strOk (Str.ofString "some") = true := by decide +kernel
    cases hk with
    | @names _ ns a b c d =>
      obtain ⟨b, e, hb⟩ := in_names (S := S) hw hm d
      refine ⟨b, ?_, ?_⟩
      · simp only [f_is_letter, d_is_letter, mk1_ev, mk2_ev, mk3_ev, sq_ev, set_ev, call_ev, args_ev, argK_ok, args_nil, argK2_ok, callK_ok, List.replicate, c_ev, setK_ok, set2_ev, sqK_nx, sqK_rt, if_ev, tb_ev, t_ev, tK_ok, tru_bl, nt_ev, ntK_ok, and_ev, or_ev, op_ev, opK_ok, opK2_ok, tbK_ok, ifK_t, ifK_f, nx_ev, rt_ev, rtK_ok, mkK_rt, var0_ev, var1_ev, var2_ev, ixt0, ixt1, ixt2, eq_ss, len_tup, av_ev, avK_ok, avK2_t, avK2_f, ov_ev, ovK_ok, ovK2_t, ovK2_f, aK_t, aK_f, oK_t, oK_f, eq_ii, ne_ii, lt_ii, ge_ii, tup_ev, Bool.not_true, Bool.not_false, decide_true, decide_false, e]
      · cases hq : isStr w with
        | true => simp only [f__law_is_letter, d__law_is_letter, mk1_ev, mk2_ev, mk3_ev, sq_ev, set_ev, call_ev, args_ev, argK_ok, args_nil, argK2_ok, callK_ok, List.replicate, c_ev, setK_ok, set2_ev, sqK_nx, sqK_rt, if_ev, tb_ev, t_ev, tK_ok, tru_bl, nt_ev, ntK_ok, and_ev, or_ev, op_ev, opK_ok, opK2_ok, tbK_ok, ifK_t, ifK_f, nx_ev, rt_ev, rtK_ok, mkK_rt, var0_ev, var1_ev, var2_ev, ixt0, ixt1, ixt2, eq_ss, len_tup, av_ev, avK_ok, avK2_t, avK2_f, ov_ev, ovK_ok, ovK2_t, ovK2_f, aK_t, aK_f, oK_t, oK_f, eq_ii, ne_ii, lt_ii, ge_ii, tup_ev, Bool.not_true, Bool.not_false, decide_true, decide_false, i2, hq, e]
        | false =>
          have := hb hq
          subst this
          simp only [f__law_is_letter, d__law_is_letter, mk1_ev, mk2_ev, mk3_ev, sq_ev, set_ev, call_ev, args_ev, argK_ok, args_nil, argK2_ok, callK_ok, List.replicate, c_ev, setK_ok, set2_ev, sqK_nx, sqK_rt, if_ev, tb_ev, t_ev, tK_ok, tru_bl, nt_ev, ntK_ok, and_ev, or_ev, op_ev, opK_ok, opK2_ok, tbK_ok, ifK_t, ifK_f, nx_ev, rt_ev, rtK_ok, mkK_rt, var0_ev, var1_ev, var2_ev, ixt0, ixt1, ixt2, eq_ss, len_tup, av_ev, avK_ok, avK2_t, avK2_f, ov_ev, ovK_ok, ovK2_t, ovK2_f, aK_t, aK_f, oK_t, oK_f, eq_ii, ne_ii, lt_ii, ge_ii, tup_ev, Bool.not_true, Bool.not_false, decide_true, decide_false, i2, hq]
    | kint =>
      refine ⟨isNum w, ?_, ?_⟩
      · simp only [f_is_letter, d_is_letter, mk1_ev, mk2_ev, mk3_ev, sq_ev, set_ev, call_ev, args_ev, argK_ok, args_nil, argK2_ok, callK_ok, List.replicate, c_ev, setK_ok, set2_ev, sqK_nx, sqK_rt, if_ev, tb_ev, t_ev, tK_ok, tru_bl, nt_ev, ntK_ok, and_ev, or_ev, op_ev, opK_ok, opK2_ok, tbK_ok, ifK_t, ifK_f, nx_ev, rt_ev, rtK_ok, mkK_rt, var0_ev, var1_ev, var2_ev, ixt0, ixt1, ixt2, eq_ss, len_tup, av_ev, avK_ok, avK2_t, avK2_f, ov_ev, ovK_ok, ovK2_t, ovK2_f, aK_t, aK_f, oK_t, oK_f, eq_ii, ne_ii, lt_ii, ge_ii, tup_ev, Bool.not_true, Bool.not_false, decide_true, decide_false, sd "integers" "names", n1]
      · simp only [f__law_is_letter, d__law_is_letter, mk1_ev, mk2_ev, mk3_ev, sq_ev, set_ev, call_ev, args_ev, argK_ok, args_nil, argK2_ok, callK_ok, List.replicate, c_ev, setK_ok, set2_ev, sqK_nx, sqK_rt, if_ev, tb_ev, t_ev, tK_ok, tru_bl, nt_ev, ntK_ok, and_ev, or_ev, op_ev, opK_ok, opK2_ok, tbK_ok, ifK_t, ifK_f, nx_ev, rt_ev, rtK_ok, mkK_rt, var0_ev, var1_ev, var2_ev, ixt0, ixt1, ixt2, eq_ss, len_tup, av_ev, avK_ok, avK2_t, avK2_f, ov_ev, ovK_ok, ovK2_t, ovK2_f, aK_t, aK_f, oK_t, oK_f, eq_ii, ne_ii, lt_ii, ge_ii, tup_ev, Bool.not_true, Bool.not_false, decide_true, decide_false, sd "integers" "names", n2]
    | @pair _ _ _ a b h1 h2 =>
      cases hT : isTup w with
      | false =>
        obtain ⟨x1, x2⟩ := isl_no (n := n) (h := "pair") (r := [a, b]) (S := S) hw hT (sd _ _) (sd _ _)
        exact ⟨false, x1, x2⟩
      | true =>
        obtain ⟨ws, rfl⟩ := tup_of hT
        have j1 : gIsi [.tup ws, .ty "tuple"] S = .ok (.bl true) S := rfl
        obtain ⟨m', rfl⟩ : ∃ m', m = m' + 1 := by
          cases hw with
          | tup _ => exact ⟨_, rfl⟩
        have hfo := form_ok (S := S) (k := 3) hw (by omega) okp (by decide)
        cases hF : (decide ((ws.length : Int) = 3) && headS ws (Str.ofString "pair")) with
        | true =>
          rw [hF] at hfo
          rw [Bool.and_eq_true] at hF
          obtain ⟨x1, x2, rfl⟩ : ∃ x1 x2, ws = [strW "pair", x1, x2] := by
            exact head3 (of_decide_eq_true hF.1) hF.2
          obtain ⟨c1, e1, e1'⟩ := ih h1 (S := S) (hw.mem x1 (by simp)) (by omega)
          obtain ⟨c2, e2, e2'⟩ := ih h2 (S := S) (hw.mem x2 (by simp)) (by omega)
          have l3 : ((([strW "pair", x1, x2].length : Nat) : Int)) = 3 := rfl
          have l0 : decide ((3 : Int) = 0) = false := rfl
          have j2 : gIsi [strW "pair", .ty "str"] S = .ok (.bl true) S := rfl
          cases c1 with
          | true =>
            refine ⟨c2, ?_, ?_⟩
            · simp only [f_is_letter, d_is_letter, mk1_ev, mk2_ev, mk3_ev, sq_ev, set_ev, call_ev, args_ev, argK_ok, args_nil, argK2_ok, callK_ok, List.replicate, c_ev, setK_ok, set2_ev, sqK_nx, sqK_rt, if_ev, tb_ev, t_ev, tK_ok, tru_bl, nt_ev, ntK_ok, and_ev, or_ev, op_ev, opK_ok, opK2_ok, tbK_ok, ifK_t, ifK_f, nx_ev, rt_ev, rtK_ok, mkK_rt, var0_ev, var1_ev, var2_ev, ixt0, ixt1, ixt2, eq_ss, len_tup, av_ev, avK_ok, avK2_t, avK2_f, ov_ev, ovK_ok, ovK2_t, ovK2_f, aK_t, aK_f, oK_t, oK_f, eq_ii, ne_ii, lt_ii, ge_ii, tup_ev, Bool.not_true, Bool.not_false, decide_true, decide_false, sd "pair" "names", sd "pair" "integers", j1, hfo, e1, e2]
            · simp only [f__law_is_letter, d__law_is_letter, mk1_ev, mk2_ev, mk3_ev, sq_ev, set_ev, call_ev, args_ev, argK_ok, args_nil, argK2_ok, callK_ok, List.replicate, c_ev, setK_ok, set2_ev, sqK_nx, sqK_rt, if_ev, tb_ev, t_ev, tK_ok, tru_bl, nt_ev, ntK_ok, and_ev, or_ev, op_ev, opK_ok, opK2_ok, tbK_ok, ifK_t, ifK_f, nx_ev, rt_ev, rtK_ok, mkK_rt, var0_ev, var1_ev, var2_ev, ixt0, ixt1, ixt2, eq_ss, len_tup, av_ev, avK_ok, avK2_t, avK2_f, ov_ev, ovK_ok, ovK2_t, ovK2_f, aK_t, aK_f, oK_t, oK_f, eq_ii, ne_ii, lt_ii, ge_ii, tup_ev, Bool.not_true, Bool.not_false, decide_true, decide_false, sd "pair" "names", sd "pair" "integers", j1, l3, l0, j2, ne_ss, e1', e2']
          | false =>
            refine ⟨false, ?_, ?_⟩
            · simp only [f_is_letter, d_is_letter, mk1_ev, mk2_ev, mk3_ev, sq_ev, set_ev, call_ev, args_ev, argK_ok, args_nil, argK2_ok, callK_ok, List.replicate, c_ev, setK_ok, set2_ev, sqK_nx, sqK_rt, if_ev, tb_ev, t_ev, tK_ok, tru_bl, nt_ev, ntK_ok, and_ev, or_ev, op_ev, opK_ok, opK2_ok, tbK_ok, ifK_t, ifK_f, nx_ev, rt_ev, rtK_ok, mkK_rt, var0_ev, var1_ev, var2_ev, ixt0, ixt1, ixt2, eq_ss, len_tup, av_ev, avK_ok, avK2_t, avK2_f, ov_ev, ovK_ok, ovK2_t, ovK2_f, aK_t, aK_f, oK_t, oK_f, eq_ii, ne_ii, lt_ii, ge_ii, tup_ev, Bool.not_true, Bool.not_false, decide_true, decide_false, sd "pair" "names", sd "pair" "integers", j1, hfo, e1, e2]
            · simp only [f__law_is_letter, d__law_is_letter, mk1_ev, mk2_ev, mk3_ev, sq_ev, set_ev, call_ev, args_ev, argK_ok, args_nil, argK2_ok, callK_ok, List.replicate, c_ev, setK_ok, set2_ev, sqK_nx, sqK_rt, if_ev, tb_ev, t_ev, tK_ok, tru_bl, nt_ev, ntK_ok, and_ev, or_ev, op_ev, opK_ok, opK2_ok, tbK_ok, ifK_t, ifK_f, nx_ev, rt_ev, rtK_ok, mkK_rt, var0_ev, var1_ev, var2_ev, ixt0, ixt1, ixt2, eq_ss, len_tup, av_ev, avK_ok, avK2_t, avK2_f, ov_ev, ovK_ok, ovK2_t, ovK2_f, aK_t, aK_f, oK_t, oK_f, eq_ii, ne_ii, lt_ii, ge_ii, tup_ev, Bool.not_true, Bool.not_false, decide_true, decide_false, sd "pair" "names", sd "pair" "integers", j1, l3, l0, j2, ne_ss, e1', e2']
        | false =>
          rw [hF] at hfo
          refine ⟨false, ?_, ?_⟩
          · simp only [f_is_letter, d_is_letter, mk1_ev, mk2_ev, mk3_ev, sq_ev, set_ev, call_ev, args_ev, argK_ok, args_nil, argK2_ok, callK_ok, List.replicate, c_ev, setK_ok, set2_ev, sqK_nx, sqK_rt, if_ev, tb_ev, t_ev, tK_ok, tru_bl, nt_ev, ntK_ok, and_ev, or_ev, op_ev, opK_ok, opK2_ok, tbK_ok, ifK_t, ifK_f, nx_ev, rt_ev, rtK_ok, mkK_rt, var0_ev, var1_ev, var2_ev, ixt0, ixt1, ixt2, eq_ss, len_tup, av_ev, avK_ok, avK2_t, avK2_f, ov_ev, ovK_ok, ovK2_t, ovK2_f, aK_t, aK_f, oK_t, oK_f, eq_ii, ne_ii, lt_ii, ge_ii, tup_ev, Bool.not_true, Bool.not_false, decide_true, decide_false, sd "pair" "names", sd "pair" "integers", j1, hfo]
          · by_cases hx : ∀ x, ws.head? = some x → isStr x = false
            · exact isl_no2 hw hx (sd _ _) (sd _ _)
            · cases ws with
              | nil => exact absurd (fun x h => by cases h) hx
              | cons y r =>
                have hy : isStr y = true := by
                  cases q : isStr y with
                  | true => rfl
                  | false => exact absurd (fun x h => by cases h; exact q) hx
                obtain ⟨q, rfl⟩ := str_of hy
                have l0 : decide ((((W.str q :: r).length : Nat) : Int) = 0) = false := decide_eq_false (by rw [List.length_cons]; omega)
                have j2 : gIsi [.str q, .ty "str"] S = .ok (.bl true) S := rfl
                cases q1 : decide (q = Str.ofString "pair") with
                | false => simp only [f__law_is_letter, d__law_is_letter, mk1_ev, mk2_ev, mk3_ev, sq_ev, set_ev, call_ev, args_ev, argK_ok, args_nil, argK2_ok, callK_ok, List.replicate, c_ev, setK_ok, set2_ev, sqK_nx, sqK_rt, if_ev, tb_ev, t_ev, tK_ok, tru_bl, nt_ev, ntK_ok, and_ev, or_ev, op_ev, opK_ok, opK2_ok, tbK_ok, ifK_t, ifK_f, nx_ev, rt_ev, rtK_ok, mkK_rt, var0_ev, var1_ev, var2_ev, ixt0, ixt1, ixt2, eq_ss, len_tup, av_ev, avK_ok, avK2_t, avK2_f, ov_ev, ovK_ok, ovK2_t, ovK2_f, aK_t, aK_f, oK_t, oK_f, eq_ii, ne_ii, lt_ii, ge_ii, tup_ev, Bool.not_true, Bool.not_false, decide_true, decide_false, sd "pair" "names", sd "pair" "integers", j1, l0, j2, ne_ss, q1]
                | true =>
                  have l3 : decide ((((W.str q :: r).length : Nat) : Int) = 3) = false := by
                    cases l : decide ((((W.str q :: r).length : Nat) : Int) = 3) with
                    | false => rfl
                    | true =>
                      rw [l] at hF
                      have : headS (W.str q :: r) (Str.ofString "pair") = true := q1
                      rw [this] at hF
                      cases hF
                  simp only [f__law_is_letter, d__law_is_letter, mk1_ev, mk2_ev, mk3_ev, sq_ev, set_ev, call_ev, args_ev, argK_ok, args_nil, argK2_ok, callK_ok, List.replicate, c_ev, setK_ok, set2_ev, sqK_nx, sqK_rt, if_ev, tb_ev, t_ev, tK_ok, tru_bl, nt_ev, ntK_ok, and_ev, or_ev, op_ev, opK_ok, opK2_ok, tbK_ok, ifK_t, ifK_f, nx_ev, rt_ev, rtK_ok, mkK_rt, var0_ev, var1_ev, var2_ev, ixt0, ixt1, ixt2, eq_ss, len_tup, av_ev, avK_ok, avK2_t, avK2_f, ov_ev, ovK_ok, ovK2_t, ovK2_f, aK_t, aK_f, oK_t, oK_f, eq_ii, ne_ii, lt_ii, ge_ii, tup_ev, Bool.not_true, Bool.not_false, decide_true, decide_false, sd "pair" "names", sd "pair" "integers", j1, l0, j2, ne_ss, q1, l3]
    | @either _ _ ks h1 h2 h3 =>
      cases hT : isTup w with
      | false =>
        obtain ⟨x1, x2⟩ := isl_no (n := n) (h := "either") (r := [.tup ks]) (S := S) hw hT (sd _ _) (sd _ _)
        exact ⟨false, x1, x2⟩
      | true =>
        obtain ⟨ws, rfl⟩ := tup_of hT
        have j1 : gIsi [.tup ws, .ty "tuple"] S = .ok (.bl true) S := rfl
        obtain ⟨m', rfl⟩ : ∃ m', m = m' + 1 := by
          cases hw with
          | tup _ => exact ⟨_, rfl⟩
        have hfo := form_ok (S := S) (k := 3) hw (by omega) okc (by decide)
        cases hF : (decide ((ws.length : Int) = 3) && headS ws (Str.ofString "case")) with
        | true =>
          rw [hF] at hfo
          rw [Bool.and_eq_true] at hF
          obtain ⟨x1, x2, rfl⟩ := head3 (of_decide_eq_true hF.1) hF.2
          have l3 : ((([strW "case", x1, x2].length : Nat) : Int)) = 3 := rfl
          have l0 : decide ((3 : Int) = 0) = false := rfl
          have j2 : gIsi [strW "case", .ty "str"] S = .ok (.bl true) S := rfl
          have hx1 : OkW m' x1 := hw.mem x1 (by simp)
          have hca := case_ok (S := S) (ks := ks) hx1
          have hwh := whole_ok (S := S) hx1
          cases hN : isNum x1 with
          | false =>
            have hca' : f__is_case [.tup ks, x1] S = .ok (.bl false) S := by
              rw [hca]
              cases x1 <;> first | rfl | cases hN
            rw [hN] at hwh
            refine ⟨false, ?_, ?_⟩
            · simp only [f_is_letter, d_is_letter, mk1_ev, mk2_ev, mk3_ev, sq_ev, set_ev, call_ev, args_ev, argK_ok, args_nil, argK2_ok, callK_ok, List.replicate, c_ev, setK_ok, set2_ev, sqK_nx, sqK_rt, if_ev, tb_ev, t_ev, tK_ok, tru_bl, nt_ev, ntK_ok, and_ev, or_ev, op_ev, opK_ok, opK2_ok, tbK_ok, ifK_t, ifK_f, nx_ev, rt_ev, rtK_ok, mkK_rt, var0_ev, var1_ev, var2_ev, ixt0, ixt1, ixt2, eq_ss, len_tup, av_ev, avK_ok, avK2_t, avK2_f, ov_ev, ovK_ok, ovK2_t, ovK2_f, aK_t, aK_f, oK_t, oK_f, eq_ii, ne_ii, lt_ii, ge_ii, tup_ev, Bool.not_true, Bool.not_false, decide_true, decide_false, sd "either" "names", sd "either" "integers", sd "either" "pair", j1, hfo, hca']
            · simp only [f__law_is_letter, d__law_is_letter, mk1_ev, mk2_ev, mk3_ev, sq_ev, set_ev, call_ev, args_ev, argK_ok, args_nil, argK2_ok, callK_ok, List.replicate, c_ev, setK_ok, set2_ev, sqK_nx, sqK_rt, if_ev, tb_ev, t_ev, tK_ok, tru_bl, nt_ev, ntK_ok, and_ev, or_ev, op_ev, opK_ok, opK2_ok, tbK_ok, ifK_t, ifK_f, nx_ev, rt_ev, rtK_ok, mkK_rt, var0_ev, var1_ev, var2_ev, ixt0, ixt1, ixt2, eq_ss, len_tup, av_ev, avK_ok, avK2_t, avK2_f, ov_ev, ovK_ok, ovK2_t, ovK2_f, aK_t, aK_f, oK_t, oK_f, eq_ii, ne_ii, lt_ii, ge_ii, tup_ev, Bool.not_true, Bool.not_false, decide_true, decide_false, sd "either" "names", sd "either" "integers", sd "either" "pair", j1, l3, l0, j2, ne_ss, hwh]
          | true =>
            obtain ⟨i, rfl⟩ : ∃ i, x1 = .int i := by
              cases x1 <;> first | exact ⟨_, rfl⟩ | cases hN
            have hwh' : f__law_whole [.int i] S = .ok (.bl true) S := rfl
            by_cases g0 : 0 ≤ i
            · have n0 : decide (i < 0) = false := decide_eq_false (by omega)
              by_cases g1 : i < (ks.length : Int)
              · have n1' : decide ((ks.length : Int) ≤ i) = false := decide_eq_false (by omega)
                obtain ⟨a, d1, ma⟩ := atNat (xs := ks) g0 g1
                obtain ⟨z', hz⟩ := h1.mem a ma
                obtain ⟨c2, e2, e2'⟩ := ih hz (S := S) (hw.mem x2 (by simp)) (by omega)
                have hca' : f__is_case [.tup ks, .int i] S = .ok (.bl true) S := by
                  rw [hca]
                  show Res.ok (W.bl (decide (0 ≤ i) && decide (i < (ks.length : Int)))) S = _
                  rw [decide_eq_true g0, decide_eq_true g1]
                  rfl
                refine ⟨c2, ?_, ?_⟩
                · simp only [f_is_letter, d_is_letter, mk1_ev, mk2_ev, mk3_ev, sq_ev, set_ev, call_ev, args_ev, argK_ok, args_nil, argK2_ok, callK_ok, List.replicate, c_ev, setK_ok, set2_ev, sqK_nx, sqK_rt, if_ev, tb_ev, t_ev, tK_ok, tru_bl, nt_ev, ntK_ok, and_ev, or_ev, op_ev, opK_ok, opK2_ok, tbK_ok, ifK_t, ifK_f, nx_ev, rt_ev, rtK_ok, mkK_rt, var0_ev, var1_ev, var2_ev, ixt0, ixt1, ixt2, eq_ss, len_tup, av_ev, avK_ok, avK2_t, avK2_f, ov_ev, ovK_ok, ovK2_t, ovK2_f, aK_t, aK_f, oK_t, oK_f, eq_ii, ne_ii, lt_ii, ge_ii, tup_ev, Bool.not_true, Bool.not_false, decide_true, decide_false, sd "either" "names", sd "either" "integers", sd "either" "pair", j1, hfo, hca', ix_t d1, e2]
                · simp only [f__law_is_letter, d__law_is_letter, mk1_ev, mk2_ev, mk3_ev, sq_ev, set_ev, call_ev, args_ev, argK_ok, args_nil, argK2_ok, callK_ok, List.replicate, c_ev, setK_ok, set2_ev, sqK_nx, sqK_rt, if_ev, tb_ev, t_ev, tK_ok, tru_bl, nt_ev, ntK_ok, and_ev, or_ev, op_ev, opK_ok, opK2_ok, tbK_ok, ifK_t, ifK_f, nx_ev, rt_ev, rtK_ok, mkK_rt, var0_ev, var1_ev, var2_ev, ixt0, ixt1, ixt2, eq_ss, len_tup, av_ev, avK_ok, avK2_t, avK2_f, ov_ev, ovK_ok, ovK2_t, ovK2_f, aK_t, aK_f, oK_t, oK_f, eq_ii, ne_ii, lt_ii, ge_ii, tup_ev, Bool.not_true, Bool.not_false, decide_true, decide_false, sd "either" "names", sd "either" "integers", sd "either" "pair", j1, l3, l0, j2, ne_ss, hwh', n0, n1', ix_t d1, e2']
              · have n1' : decide ((ks.length : Int) ≤ i) = true := decide_eq_true (by omega)
                have hca' : f__is_case [.tup ks, .int i] S = .ok (.bl false) S := by
                  rw [hca]
                  show Res.ok (W.bl (decide (0 ≤ i) && decide (i < (ks.length : Int)))) S = _
                  rw [decide_eq_true g0, decide_eq_false g1]
                  rfl
                refine ⟨false, ?_, ?_⟩
                · simp only [f_is_letter, d_is_letter, mk1_ev, mk2_ev, mk3_ev, sq_ev, set_ev, call_ev, args_ev, argK_ok, args_nil, argK2_ok, callK_ok, List.replicate, c_ev, setK_ok, set2_ev, sqK_nx, sqK_rt, if_ev, tb_ev, t_ev, tK_ok, tru_bl, nt_ev, ntK_ok, and_ev, or_ev, op_ev, opK_ok, opK2_ok, tbK_ok, ifK_t, ifK_f, nx_ev, rt_ev, rtK_ok, mkK_rt, var0_ev, var1_ev, var2_ev, ixt0, ixt1, ixt2, eq_ss, len_tup, av_ev, avK_ok, avK2_t, avK2_f, ov_ev, ovK_ok, ovK2_t, ovK2_f, aK_t, aK_f, oK_t, oK_f, eq_ii, ne_ii, lt_ii, ge_ii, tup_ev, Bool.not_true, Bool.not_false, decide_true, decide_false, sd "either" "names", sd "either" "integers", sd "either" "pair", j1, hfo, hca']
                · simp only [f__law_is_letter, d__law_is_letter, mk1_ev, mk2_ev, mk3_ev, sq_ev, set_ev, call_ev, args_ev, argK_ok, args_nil, argK2_ok, callK_ok, List.replicate, c_ev, setK_ok, set2_ev, sqK_nx, sqK_rt, if_ev, tb_ev, t_ev, tK_ok, tru_bl, nt_ev, ntK_ok, and_ev, or_ev, op_ev, opK_ok, opK2_ok, tbK_ok, ifK_t, ifK_f, nx_ev, rt_ev, rtK_ok, mkK_rt, var0_ev, var1_ev, var2_ev, ixt0, ixt1, ixt2, eq_ss, len_tup, av_ev, avK_ok, avK2_t, avK2_f, ov_ev, ovK_ok, ovK2_t, ovK2_f, aK_t, aK_f, oK_t, oK_f, eq_ii, ne_ii, lt_ii, ge_ii, tup_ev, Bool.not_true, Bool.not_false, decide_true, decide_false, sd "either" "names", sd "either" "integers", sd "either" "pair", j1, l3, l0, j2, ne_ss, hwh', n0, n1']
            · have n0 : decide (i < 0) = true := decide_eq_true (by omega)
              have hca' : f__is_case [.tup ks, .int i] S = .ok (.bl false) S := by
                rw [hca]
                show Res.ok (W.bl (decide (0 ≤ i) && decide (i < (ks.length : Int)))) S = _
                rw [decide_eq_false g0]
                rfl
              refine ⟨false, ?_, ?_⟩
              · simp only [f_is_letter, d_is_letter, mk1_ev, mk2_ev, mk3_ev, sq_ev, set_ev, call_ev, args_ev, argK_ok, args_nil, argK2_ok, callK_ok, List.replicate, c_ev, setK_ok, set2_ev, sqK_nx, sqK_rt, if_ev, tb_ev, t_ev, tK_ok, tru_bl, nt_ev, ntK_ok, and_ev, or_ev, op_ev, opK_ok, opK2_ok, tbK_ok, ifK_t, ifK_f, nx_ev, rt_ev, rtK_ok, mkK_rt, var0_ev, var1_ev, var2_ev, ixt0, ixt1, ixt2, eq_ss, len_tup, av_ev, avK_ok, avK2_t, avK2_f, ov_ev, ovK_ok, ovK2_t, ovK2_f, aK_t, aK_f, oK_t, oK_f, eq_ii, ne_ii, lt_ii, ge_ii, tup_ev, Bool.not_true, Bool.not_false, decide_true, decide_false, sd "either" "names", sd "either" "integers", sd "either" "pair", j1, hfo, hca']
              · simp only [f__law_is_letter, d__law_is_letter, mk1_ev, mk2_ev, mk3_ev, sq_ev, set_ev, call_ev, args_ev, argK_ok, args_nil, argK2_ok, callK_ok, List.replicate, c_ev, setK_ok, set2_ev, sqK_nx, sqK_rt, if_ev, tb_ev, t_ev, tK_ok, tru_bl, nt_ev, ntK_ok, and_ev, or_ev, op_ev, opK_ok, opK2_ok, tbK_ok, ifK_t, ifK_f, nx_ev, rt_ev, rtK_ok, mkK_rt, var0_ev, var1_ev, var2_ev, ixt0, ixt1, ixt2, eq_ss, len_tup, av_ev, avK_ok, avK2_t, avK2_f, ov_ev, ovK_ok, ovK2_t, ovK2_f, aK_t, aK_f, oK_t, oK_f, eq_ii, ne_ii, lt_ii, ge_ii, tup_ev, Bool.not_true, Bool.not_false, decide_true, decide_false, sd "either" "names", sd "either" "integers", sd "either" "pair", j1, l3, l0, j2, ne_ss, hwh', n0]
        | false =>
          rw [hF] at hfo
          refine ⟨false, ?_, ?_⟩
          · simp only [f_is_letter, d_is_letter, mk1_ev, mk2_ev, mk3_ev, sq_ev, set_ev, call_ev, args_ev, argK_ok, args_nil, argK2_ok, callK_ok, List.replicate, c_ev, setK_ok, set2_ev, sqK_nx, sqK_rt, if_ev, tb_ev, t_ev, tK_ok, tru_bl, nt_ev, ntK_ok, and_ev, or_ev, op_ev, opK_ok, opK2_ok, tbK_ok, ifK_t, ifK_f, nx_ev, rt_ev, rtK_ok, mkK_rt, var0_ev, var1_ev, var2_ev, ixt0, ixt1, ixt2, eq_ss, len_tup, av_ev, avK_ok, avK2_t, avK2_f, ov_ev, ovK_ok, ovK2_t, ovK2_f, aK_t, aK_f, oK_t, oK_f, eq_ii, ne_ii, lt_ii, ge_ii, tup_ev, Bool.not_true, Bool.not_false, decide_true, decide_false, sd "either" "names", sd "either" "integers", sd "either" "pair", j1, hfo]
          · by_cases hx : ∀ x, ws.head? = some x → isStr x = false
            · exact isl_no2 hw hx (sd _ _) (sd _ _)
            · cases ws with
              | nil => exact absurd (fun x h => by cases h) hx
              | cons y r =>
                have hy : isStr y = true := by
                  cases q : isStr y with
                  | true => rfl
                  | false => exact absurd (fun x h => by cases h; exact q) hx
                obtain ⟨q, rfl⟩ := str_of hy
                have l0 : decide ((((W.str q :: r).length : Nat) : Int) = 0) = false := decide_eq_false (by rw [List.length_cons]; omega)
                have j2 : gIsi [.str q, .ty "str"] S = .ok (.bl true) S := rfl
                cases q1 : decide (q = Str.ofString "case") with
                | false => simp only [f__law_is_letter, d__law_is_letter, mk1_ev, mk2_ev, mk3_ev, sq_ev, set_ev, call_ev, args_ev, argK_ok, args_nil, argK2_ok, callK_ok, List.replicate, c_ev, setK_ok, set2_ev, sqK_nx, sqK_rt, if_ev, tb_ev, t_ev, tK_ok, tru_bl, nt_ev, ntK_ok, and_ev, or_ev, op_ev, opK_ok, opK2_ok, tbK_ok, ifK_t, ifK_f, nx_ev, rt_ev, rtK_ok, mkK_rt, var0_ev, var1_ev, var2_ev, ixt0, ixt1, ixt2, eq_ss, len_tup, av_ev, avK_ok, avK2_t, avK2_f, ov_ev, ovK_ok, ovK2_t, ovK2_f, aK_t, aK_f, oK_t, oK_f, eq_ii, ne_ii, lt_ii, ge_ii, tup_ev, Bool.not_true, Bool.not_false, decide_true, decide_false, sd "either" "names", sd "either" "integers", sd "either" "pair", j1, l0, j2, ne_ss, q1]
                | true =>
                  have l3 : decide ((((W.str q :: r).length : Nat) : Int) = 3) = false := by
                    cases l : decide ((((W.str q :: r).length : Nat) : Int) = 3) with
                    | false => rfl
                    | true =>
                      rw [l] at hF
                      have : headS (W.str q :: r) (Str.ofString "case") = true := q1
                      rw [this] at hF
                      cases hF
                  simp only [f__law_is_letter, d__law_is_letter, mk1_ev, mk2_ev, mk3_ev, sq_ev, set_ev, call_ev, args_ev, argK_ok, args_nil, argK2_ok, callK_ok, List.replicate, c_ev, setK_ok, set2_ev, sqK_nx, sqK_rt, if_ev, tb_ev, t_ev, tK_ok, tru_bl, nt_ev, ntK_ok, and_ev, or_ev, op_ev, opK_ok, opK2_ok, tbK_ok, ifK_t, ifK_f, nx_ev, rt_ev, rtK_ok, mkK_rt, var0_ev, var1_ev, var2_ev, ixt0, ixt1, ixt2, eq_ss, len_tup, av_ev, avK_ok, avK2_t, avK2_f, ov_ev, ovK_ok, ovK2_t, ovK2_f, aK_t, aK_f, oK_t, oK_f, eq_ii, ne_ii, lt_ii, ge_ii, tup_ev, Bool.not_true, Bool.not_false, decide_true, decide_false, sd "either" "names", sd "either" "integers", sd "either" "pair", j1, l0, j2, ne_ss, q1, l3]
    | @maybe _ _ a h1 =>
      cases hT : isTup w with
      | false =>
        obtain ⟨x1, x2⟩ := isl_no (n := n) (h := "maybe") (r := [a]) (S := S) hw hT (sd _ _) (sd _ _)
        exact ⟨false, x1, x2⟩
      | true =>
        obtain ⟨ws, rfl⟩ := tup_of hT
        have j1 : gIsi [.tup ws, .ty "tuple"] S = .ok (.bl true) S := rfl
        obtain ⟨m', rfl⟩ : ∃ m', m = m' + 1 := by
          cases hw with
          | tup _ => exact ⟨_, rfl⟩
        have hfo := form_ok (S := S) (k := 2) hw (by omega) oks (by decide)
        have hno := none_ok (S := S) hw (by omega)
        by_cases hx : ∀ x, ws.head? = some x → isStr x = false
        · have hF : (decide ((ws.length : Int) = 2) && headS ws (Str.ofString "some")) = false := by
            cases ws with
            | nil => rfl
            | cons y r =>
              have hy := hx y rfl
              have : headS (y :: r) (Str.ofString "some") = false := by
                cases y <;> first | rfl | (cases hy; done)
              rw [this, Bool.and_false]
          have hN : isNone ws = false := by
            cases ws with
            | nil => rfl
            | cons y r =>
              have hy := hx y rfl
              cases r <;> cases y <;> first | rfl | (cases hy; done)
          rw [hF] at hfo
          rw [hN] at hno
          refine ⟨false, ?_, isl_no2 hw hx (sd _ _) (sd _ _)⟩
          simp only [f_is_letter, d_is_letter, mk1_ev, mk2_ev, mk3_ev, sq_ev, set_ev, call_ev, args_ev, argK_ok, args_nil, argK2_ok, callK_ok, List.replicate, c_ev, setK_ok, set2_ev, sqK_nx, sqK_rt, if_ev, tb_ev, t_ev, tK_ok, tru_bl, nt_ev, ntK_ok, and_ev, or_ev, op_ev, opK_ok, opK2_ok, tbK_ok, ifK_t, ifK_f, nx_ev, rt_ev, rtK_ok, mkK_rt, var0_ev, var1_ev, var2_ev, ixt0, ixt1, ixt2, eq_ss, len_tup, av_ev, avK_ok, avK2_t, avK2_f, ov_ev, ovK_ok, ovK2_t, ovK2_f, aK_t, aK_f, oK_t, oK_f, eq_ii, ne_ii, lt_ii, ge_ii, tup_ev, Bool.not_true, Bool.not_false, decide_true, decide_false, sd "maybe" "names", sd "maybe" "integers", sd "maybe" "pair", sd "maybe" "either", j1, tupK_ok (b1 _), hno, hfo]
        · cases ws with
          | nil => exact absurd (fun x h => by cases h) hx
          | cons y r =>
            have hy : isStr y = true := by
              cases q : isStr y with
              | true => rfl
              | false => exact absurd (fun x h => by cases h; exact q) hx
            obtain ⟨q, rfl⟩ := str_of hy
            have l0 : decide ((((W.str q :: r).length : Nat) : Int) = 0) = false := decide_eq_false (by rw [List.length_cons]; omega)
            have j2 : gIsi [.str q, .ty "str"] S = .ok (.bl true) S := rfl
            by_cases q1 : q = Str.ofString "none"
            · subst q1
              have hF : (decide ((((strW "none" :: r).length : Nat) : Int) = 2) && headS (strW "none" :: r) (Str.ofString "some")) = false := by
                rw [show headS (strW "none" :: r) (Str.ofString "some") = false from sd "none" "some", Bool.and_false]
              rw [hF] at hfo
              cases r with
              | nil =>
                have hN : isNone [strW "none"] = true := by
                  show decide (Str.ofString "none" = Str.ofString "none") = true
                  exact decide_eq_true rfl
                rw [hN] at hno
                have l1 : decide ((([strW "none"].length : Nat) : Int) = 1) = true := rfl
                refine ⟨true, ?_, ?_⟩
                · simp only [f_is_letter, d_is_letter, mk1_ev, mk2_ev, mk3_ev, sq_ev, set_ev, call_ev, args_ev, argK_ok, args_nil, argK2_ok, callK_ok, List.replicate, c_ev, setK_ok, set2_ev, sqK_nx, sqK_rt, if_ev, tb_ev, t_ev, tK_ok, tru_bl, nt_ev, ntK_ok, and_ev, or_ev, op_ev, opK_ok, opK2_ok, tbK_ok, ifK_t, ifK_f, nx_ev, rt_ev, rtK_ok, mkK_rt, var0_ev, var1_ev, var2_ev, ixt0, ixt1, ixt2, eq_ss, len_tup, av_ev, avK_ok, avK2_t, avK2_f, ov_ev, ovK_ok, ovK2_t, ovK2_f, aK_t, aK_f, oK_t, oK_f, eq_ii, ne_ii, lt_ii, ge_ii, tup_ev, Bool.not_true, Bool.not_false, decide_true, decide_false, sd "maybe" "names", sd "maybe" "integers", sd "maybe" "pair", sd "maybe" "either", j1, tupK_ok (b1 _), hno, hfo]
                · simp only [f__law_is_letter, d__law_is_letter, mk1_ev, mk2_ev, mk3_ev, sq_ev, set_ev, call_ev, args_ev, argK_ok, args_nil, argK2_ok, callK_ok, List.replicate, c_ev, setK_ok, set2_ev, sqK_nx, sqK_rt, if_ev, tb_ev, t_ev, tK_ok, tru_bl, nt_ev, ntK_ok, and_ev, or_ev, op_ev, opK_ok, opK2_ok, tbK_ok, ifK_t, ifK_f, nx_ev, rt_ev, rtK_ok, mkK_rt, var0_ev, var1_ev, var2_ev, ixt0, ixt1, ixt2, eq_ss, len_tup, av_ev, avK_ok, avK2_t, avK2_f, ov_ev, ovK_ok, ovK2_t, ovK2_f, aK_t, aK_f, oK_t, oK_f, eq_ii, ne_ii, lt_ii, ge_ii, tup_ev, Bool.not_true, Bool.not_false, decide_true, decide_false, sd "maybe" "names", sd "maybe" "integers", sd "maybe" "pair", sd "maybe" "either", j1, l0, j2, l1]
              | cons y2 r2 =>
                have hN : isNone (strW "none" :: y2 :: r2) = false := rfl
                rw [hN] at hno
                have l1 : decide ((((strW "none" :: y2 :: r2).length : Nat) : Int) = 1) = false := decide_eq_false (by rw [List.length_cons, List.length_cons]; omega)
                refine ⟨false, ?_, ?_⟩
                · simp only [f_is_letter, d_is_letter, mk1_ev, mk2_ev, mk3_ev, sq_ev, set_ev, call_ev, args_ev, argK_ok, args_nil, argK2_ok, callK_ok, List.replicate, c_ev, setK_ok, set2_ev, sqK_nx, sqK_rt, if_ev, tb_ev, t_ev, tK_ok, tru_bl, nt_ev, ntK_ok, and_ev, or_ev, op_ev, opK_ok, opK2_ok, tbK_ok, ifK_t, ifK_f, nx_ev, rt_ev, rtK_ok, mkK_rt, var0_ev, var1_ev, var2_ev, ixt0, ixt1, ixt2, eq_ss, len_tup, av_ev, avK_ok, avK2_t, avK2_f, ov_ev, ovK_ok, ovK2_t, ovK2_f, aK_t, aK_f, oK_t, oK_f, eq_ii, ne_ii, lt_ii, ge_ii, tup_ev, Bool.not_true, Bool.not_false, decide_true, decide_false, sd "maybe" "names", sd "maybe" "integers", sd "maybe" "pair", sd "maybe" "either", j1, tupK_ok (b1 _), hno, hfo]
                · simp only [f__law_is_letter, d__law_is_letter, mk1_ev, mk2_ev, mk3_ev, sq_ev, set_ev, call_ev, args_ev, argK_ok, args_nil, argK2_ok, callK_ok, List.replicate, c_ev, setK_ok, set2_ev, sqK_nx, sqK_rt, if_ev, tb_ev, t_ev, tK_ok, tru_bl, nt_ev, ntK_ok, and_ev, or_ev, op_ev, opK_ok, opK2_ok, tbK_ok, ifK_t, ifK_f, nx_ev, rt_ev, rtK_ok, mkK_rt, var0_ev, var1_ev, var2_ev, ixt0, ixt1, ixt2, eq_ss, len_tup, av_ev, avK_ok, avK2_t, avK2_f, ov_ev, ovK_ok, ovK2_t, ovK2_f, aK_t, aK_f, oK_t, oK_f, eq_ii, ne_ii, lt_ii, ge_ii, tup_ev, Bool.not_true, Bool.not_false, decide_true, decide_false, sd "maybe" "names", sd "maybe" "integers", sd "maybe" "pair", sd "maybe" "either", j1, l0, j2, l1]
            · have q1' : decide (q = Str.ofString "none") = false := decide_eq_false q1
              have hN : isNone (W.str q :: r) = false := by
                cases r with
                | nil => exact q1'
                | cons _ _ => rfl
              rw [hN] at hno
              cases hF : (decide ((((W.str q :: r).length : Nat) : Int) = 2) && headS (W.str q :: r) (Str.ofString "some")) with
              | true =>
                rw [hF] at hfo
                rw [Bool.and_eq_true] at hF
                obtain ⟨x1, ex⟩ := head2 (of_decide_eq_true hF.1) hF.2
                injection ex with ex1 ex2
                cases ex1
                subst ex2
                obtain ⟨c1, e1, e1'⟩ := ih h1 (S := S) (hw.mem x1 (by simp)) (by omega)
                have l2 : decide ((([strW "some", x1].length : Nat) : Int) = 2) = true := rfl
                refine ⟨c1, ?_, ?_⟩
                · simp only [f_is_letter, d_is_letter, mk1_ev, mk2_ev, mk3_ev, sq_ev, set_ev, call_ev, args_ev, argK_ok, args_nil, argK2_ok, callK_ok, List.replicate, c_ev, setK_ok, set2_ev, sqK_nx, sqK_rt, if_ev, tb_ev, t_ev, tK_ok, tru_bl, nt_ev, ntK_ok, and_ev, or_ev, op_ev, opK_ok, opK2_ok, tbK_ok, ifK_t, ifK_f, nx_ev, rt_ev, rtK_ok, mkK_rt, var0_ev, var1_ev, var2_ev, ixt0, ixt1, ixt2, eq_ss, len_tup, av_ev, avK_ok, avK2_t, avK2_f, ov_ev, ovK_ok, ovK2_t, ovK2_f, aK_t, aK_f, oK_t, oK_f, eq_ii, ne_ii, lt_ii, ge_ii, tup_ev, Bool.not_true, Bool.not_false, decide_true, decide_false, sd "maybe" "names", sd "maybe" "integers", sd "maybe" "pair", sd "maybe" "either", j1, tupK_ok (b1 _), hno, hfo, e1]
                · simp only [f__law_is_letter, d__law_is_letter, mk1_ev, mk2_ev, mk3_ev, sq_ev, set_ev, call_ev, args_ev, argK_ok, args_nil, argK2_ok, callK_ok, List.replicate, c_ev, setK_ok, set2_ev, sqK_nx, sqK_rt, if_ev, tb_ev, t_ev, tK_ok, tru_bl, nt_ev, ntK_ok, and_ev, or_ev, op_ev, opK_ok, opK2_ok, tbK_ok, ifK_t, ifK_f, nx_ev, rt_ev, rtK_ok, mkK_rt, var0_ev, var1_ev, var2_ev, ixt0, ixt1, ixt2, eq_ss, len_tup, av_ev, avK_ok, avK2_t, avK2_f, ov_ev, ovK_ok, ovK2_t, ovK2_f, aK_t, aK_f, oK_t, oK_f, eq_ii, ne_ii, lt_ii, ge_ii, tup_ev, Bool.not_true, Bool.not_false, decide_true, decide_false, sd "maybe" "names", sd "maybe" "integers", sd "maybe" "pair", sd "maybe" "either", j1, l0, j2, q1', l2, e1']
              | false =>
                rw [hF] at hfo
                refine ⟨false, ?_, ?_⟩
                · simp only [f_is_letter, d_is_letter, mk1_ev, mk2_ev, mk3_ev, sq_ev, set_ev, call_ev, args_ev, argK_ok, args_nil, argK2_ok, callK_ok, List.replicate, c_ev, setK_ok, set2_ev, sqK_nx, sqK_rt, if_ev, tb_ev, t_ev, tK_ok, tru_bl, nt_ev, ntK_ok, and_ev, or_ev, op_ev, opK_ok, opK2_ok, tbK_ok, ifK_t, ifK_f, nx_ev, rt_ev, rtK_ok, mkK_rt, var0_ev, var1_ev, var2_ev, ixt0, ixt1, ixt2, eq_ss, len_tup, av_ev, avK_ok, avK2_t, avK2_f, ov_ev, ovK_ok, ovK2_t, ovK2_f, aK_t, aK_f, oK_t, oK_f, eq_ii, ne_ii, lt_ii, ge_ii, tup_ev, Bool.not_true, Bool.not_false, decide_true, decide_false, sd "maybe" "names", sd "maybe" "integers", sd "maybe" "pair", sd "maybe" "either", j1, tupK_ok (b1 _), hno, hfo]
                · cases q2 : decide (q = Str.ofString "some") with
                  | false => simp only [f__law_is_letter, d__law_is_letter, mk1_ev, mk2_ev, mk3_ev, sq_ev, set_ev, call_ev, args_ev, argK_ok, args_nil, argK2_ok, callK_ok, List.replicate, c_ev, setK_ok, set2_ev, sqK_nx, sqK_rt, if_ev, tb_ev, t_ev, tK_ok, tru_bl, nt_ev, ntK_ok, and_ev, or_ev, op_ev, opK_ok, opK2_ok, tbK_ok, ifK_t, ifK_f, nx_ev, rt_ev, rtK_ok, mkK_rt, var0_ev, var1_ev, var2_ev, ixt0, ixt1, ixt2, eq_ss, len_tup, av_ev, avK_ok, avK2_t, avK2_f, ov_ev, ovK_ok, ovK2_t, ovK2_f, aK_t, aK_f, oK_t, oK_f, eq_ii, ne_ii, lt_ii, ge_ii, tup_ev, Bool.not_true, Bool.not_false, decide_true, decide_false, sd "maybe" "names", sd "maybe" "integers", sd "maybe" "pair", sd "maybe" "either", j1, l0, j2, q1', q2]
                  | true =>
                    have l2 : decide ((((W.str q :: r).length : Nat) : Int) = 2) = false := by
                      cases l : decide ((((W.str q :: r).length : Nat) : Int) = 2) with
                      | false => rfl
                      | true =>
                        rw [l] at hF
                        have : headS (W.str q :: r) (Str.ofString "some") = true := q2
                        rw [this] at hF
                        cases hF
                    simp only [f__law_is_letter, d__law_is_letter, mk1_ev, mk2_ev, mk3_ev, sq_ev, set_ev, call_ev, args_ev, argK_ok, args_nil, argK2_ok, callK_ok, List.replicate, c_ev, setK_ok, set2_ev, sqK_nx, sqK_rt, if_ev, tb_ev, t_ev, tK_ok, tru_bl, nt_ev, ntK_ok, and_ev, or_ev, op_ev, opK_ok, opK2_ok, tbK_ok, ifK_t, ifK_f, nx_ev, rt_ev, rtK_ok, mkK_rt, var0_ev, var1_ev, var2_ev, ixt0, ixt1, ixt2, eq_ss, len_tup, av_ev, avK_ok, avK2_t, avK2_f, ov_ev, ovK_ok, ovK2_t, ovK2_f, aK_t, aK_f, oK_t, oK_f, eq_ii, ne_ii, lt_ii, ge_ii, tup_ev, Bool.not_true, Bool.not_false, decide_true, decide_false, sd "maybe" "names", sd "maybe" "integers", sd "maybe" "pair", sd "maybe" "either", j1, l0, j2, q1', q2, l2]
end G
set_option maxHeartbeats 4000000
namespace G
open PySem L2 Fs
theorem add_ll {S : Store} {n m : Nat} {a b : List W} (h1 : S[n]? = some (.lst a)) (h2 : S[m]? = some (.lst b)) (h : a.length + b.length ≤ 1000) : gAdd (.loc n) (.loc m) S = .ok (.loc S.length) (S ++ [.lst (a ++ b)]) := by
  show (match S[n]?, S[m]? with | some (.lst a), some (.lst b) => if a.length + b.length ≤ sizeLine then Res.ok (W.loc S.length) (S ++ [Cell.lst (a ++ b)]) else .bad | _, _ => .bad) = _
  rw [h1, h2]
  exact if_pos (Nat.le_trans h (by decide))
theorem seq_loc {S : Store} {n : Nat} {ws : List W} (h : S[n]? = some (.lst ws)) : seqW S (.loc n) = some ws := lst_loc h
theorem ask_turn {k w : W} {z : Int} {m : Nat} {S : Store} {l0 : List (Option W)} {x9 : Option W} {s t : W} {a b c d e f : Option W} (hk : Kd 4 z k) (hw : OkW m w) (hm : m ≤ 60) :
    ∃ v, (dSeq (dSet 9 (dCall (f_is_letter 4) [(dVar 8), (dVar 7)]))
      (dIf (dOrT (dNotT (dT (dCall gIsi [(dVar 9), (dC (.ty "bool"))]))) (dTB (dOp gNe (dVar 9) (dCall (f__law_is_letter 4) [(dVar 8), (dVar 7)])))) (dRet (dC (.bl false))) dNx))
      [some s, some t, a, b, c, d, e, some w, some k, x9] S = .nx [some s, some t, a, b, c, d, e, some w, some k, some v] S := by
  obtain ⟨q, e1, e2⟩ := isl hk (S := S) hw hm
  have i1 : gIsi [.bl q, .ty "bool"] S = .ok (.bl true) S := rfl
  refine ⟨.bl q, ?_⟩
  simp only [sq_ev, set_ev, call_ev, args_ev, args_nil, var8_ev, argK_ok, var7_ev, argK2_ok, callK_ok, e1, setK_ok, set9_ev, sqK_nx, if_ev, or_ev, nt_ev, t_ev, var9_ev, c_ev, i1, tK_ok, tru_bl, ntK_ok, Bool.not_true, oK_f, tb_ev, op_ev, opK_ok, e2, opK2_ok, ne_bb, tbK_ok, decide_true, Bool.not_true, ifK_f, nx_ev]
theorem law_true (ns : List Int) (hn : ns.length ≤ 63) : ∃ S, f_law [.rol (ns.map W.int)] [] = .ok (.bl true) S := by
  have b2 : ∀ a b : W, [a, b].length ≤ 100 := fun _ _ => by simp
  have b3 : ∀ a b c : W, [a, b, c].length ≤ 100 := fun _ _ _ => by simp
  have b5 : ∀ a b c d e : W, [a, b, c, d, e].length ≤ 100 := fun _ _ _ _ _ => by simp
  obtain ⟨S0, e0, T0, _⟩ := tape_ok ns
  obtain ⟨k1, z1, S1, e1, T1, F1, K1, _⟩ := kind_ok (n := 4) (d := 3) (m := 6) (by decide) (by decide) (by decide) (by decide) (by decide) T0
  obtain ⟨k2, z2, S2, e2, T2, F2, K2, _⟩ := kind_ok (n := 4) (d := 3) (m := 6) (by decide) (by decide) (by decide) (by decide) (by decide) T1
  obtain ⟨w1, S3, e3, T3, F3, L1⟩ := letter_ok (m := 20) (q := .int 12) (by decide) (by decide) (K1.le (show 3 ≤ 4 by decide)) T2
  have h1 : Sh 3 3 w1 := L1.ok K1
  obtain ⟨w2, S4, e4, T4, F4, h2⟩ := spoilt_ok (n := 8) (by decide) (Nat.le_refl 3) (by decide) h1 T3
  obtain ⟨w3, S5, e5, T5, F5, h3⟩ := spoilt_ok (n := 8) (by decide) (show 3 ≤ 2 * 3 + 1 by decide) (by decide) h2 T4
  obtain ⟨w4, S6, e6, T6, F6, L4⟩ := letter_ok (m := 20) (q := .int 12) (by decide) (by decide) (K2.le (show 3 ≤ 4 by decide)) T5
  have h4 : Sh 3 3 w4 := L4.ok K2
  obtain ⟨w5, S7, e7, T7, F7, h5⟩ := wild_ok (n := 4) (d := 2) (by decide) T6
  have e1' : f__law_kind 4 [.loc 1, .int 3, .int 6] S0 = .ok k1 S1 := e1
  have e2' : f__law_kind 4 [.loc 1, .int 3, .int 6] S1 = .ok k2 S2 := e2
  have e7' : f__law_wild 4 [.loc 1, .int 2] S6 = .ok w5 S7 := e7
  obtain ⟨S8, hS8⟩ : ∃ S8, S8 = S7 ++ [Cell.lst [w1, w2, w3, w4, w5]] := ⟨_, rfl⟩
  have T8 : Tp S8 1 0 := by rw [hS8]; exact T7.app
  have p8 : S8[S7.length]? = some (.lst [w1, w2, w3, w4, w5]) := by rw [hS8]; exact get_mid (cs := [])
  obtain ⟨c, S9, e9, T9, F9, l9, u9⟩ := draw_n 3 (T8.app (cs := [.lst [.bl true, .bl false, .non]]))
  obtain ⟨w6, d6, h6⟩ := mem_ok (n := 0) (ws := [.bl true, .bl false, .non]) (S := S9) (p := S8.length) (k := c) (by
    intro w hw
    simp only [List.mem_cons, List.mem_nil_iff, or_false] at hw
    rcases hw with rfl | rfl | rfl
    · exact .bl _
    · exact .bl _
    · exact .non) (F9.get (by have := T8.lt; omega) (get_mid (cs := []))) l9 (by exact u9)
  have p9 : S9[S7.length]? = some (.lst [w1, w2, w3, w4, w5]) := F9.get (by have := T7.lt; omega) (by rw [List.getElem?_append_left (lt_of p8)]; exact p8)
  obtain ⟨S10, hS10⟩ : ∃ S10, S10 = S9 ++ [Cell.lst [w6, w1]] := ⟨_, rfl⟩
  have p10 : S10[S7.length]? = some (.lst [w1, w2, w3, w4, w5]) := by rw [hS10, List.getElem?_append_left (lt_of p9)]; exact p9
  have q10 : S10[S9.length]? = some (.lst [w6, w1]) := by rw [hS10]; exact get_mid (cs := [])
  obtain ⟨vs, hvs⟩ : ∃ vs, vs = [w1, w2, w3, w4, w5] ++ [w6, w1] := ⟨_, rfl⟩
  have a10 : gAdd (.loc S7.length) (.loc S9.length) S10 = .ok (.loc S10.length) (S10 ++ [.lst vs]) := by rw [hvs]; exact add_ll p10 q10 (by simp)
  have hall : ∀ w ∈ vs, OkW 10 w := by
    intro w hw
    rw [hvs] at hw
    simp only [List.mem_append, List.mem_cons, List.mem_nil_iff, or_false] at hw
    rcases hw with (rfl | rfl | rfl | rfl | rfl) | (rfl | rfl)
    · exact h1.ok.mono (by decide)
    · exact h2.ok.mono (by decide)
    · exact h3.ok.mono (by decide)
    · exact h4.ok.mono (by decide)
    · exact h5.ok.mono (by decide)
    · exact h6.ok.mono (by decide)
    · exact h1.ok.mono (by decide)
  have A1 : Kd 4 z1 k1 := K1.le (by decide)
  have A2 : Kd 4 z2 k2 := K2.le (by decide)
  obtain ⟨n, hn⟩ : ∃ n, n = S10.length := ⟨_, rfl⟩
  have loop := loop_inv (st := stayOf (.loc n) vs) (gg := dgName 7) (m := dFor (dSeqI (dLst [(dVar 2), (dVar 3), (dVar 2)])) (dgName 8) (dSeq (dSet 9 (dCall (f_is_letter 4) [(dVar 8), (dVar 7)]))
      (dIf (dOrT (dNotT (dT (dCall gIsi [(dVar 9), (dC (.ty "bool"))]))) (dTB (dOp gNe (dVar 9) (dCall (f__law_is_letter 4) [(dVar 8), (dVar 7)])))) (dRet (dC (.bl false))) dNx)))
    (fun i ls S => ∃ x7 x8 x9, ls = [some (.rol (ns.map W.int)), some (.loc 1), some k1, some k2, some w1, some w2, some (.loc n), x7, x8, x9] ∧ S[n]? = some (.lst vs))
    (fun i ls S h => by
      obtain ⟨x7, x8, x9, _, h⟩ := h
      exact h) vs 0
    (fun i w ls S ew h => by
      obtain ⟨x7, x8, x9, rfl, h⟩ := h
      have hw := hall w (List.mem_of_getElem? ew)
      have inner := loop_inv (st := stayOf (.loc S.length) [k1, k2, k1]) (gg := dgName 8) (m := dSeq (dSet 9 (dCall (f_is_letter 4) [(dVar 8), (dVar 7)]))
          (dIf (dOrT (dNotT (dT (dCall gIsi [(dVar 9), (dC (.ty "bool"))]))) (dTB (dOp gNe (dVar 9) (dCall (f__law_is_letter 4) [(dVar 8), (dVar 7)])))) (dRet (dC (.bl false))) dNx))
        (fun i ls S' => ∃ x8 x9, ls = [some (.rol (ns.map W.int)), some (.loc 1), some k1, some k2, some w1, some w2, some (.loc n), some w, x8, x9] ∧ S' = S ++ [.lst [k1, k2, k1]])
        (fun i ls S' h => by
          obtain ⟨x8, x9, _, rfl⟩ := h
          exact get_mid (cs := [])) [k1, k2, k1] 0
        (fun j k ls S' ek h => by
          obtain ⟨x8, x9, rfl, rfl⟩ := h
          have hk : ∃ z, Kd 4 z k := by
            have := List.mem_of_getElem? ek
            simp only [List.mem_cons, List.mem_nil_iff, or_false] at this
            rcases this with rfl | rfl | rfl
            · exact ⟨_, A1⟩
            · exact ⟨_, A2⟩
            · exact ⟨_, A1⟩
          obtain ⟨z, hk⟩ := hk
          obtain ⟨v, ev⟩ := ask_turn (S := S ++ [.lst [k1, k2, k1]]) (s := .rol (ns.map W.int)) (t := .loc 1) (a := some k1) (b := some k2) (c := some w1) (d := some w2) (e := some (.loc n)) (f := none) (x9 := x9) (l0 := []) hk hw (by decide)
          exact ⟨_, _, _, rfl, .inl ev, ⟨_, _, rfl, rfl⟩⟩)
        [some (.rol (ns.map W.int)), some (.loc 1), some k1, some k2, some w1, some w2, some (.loc n), some w, x8, x9] (S ++ [.lst [k1, k2, k1]]) ⟨_, _, rfl, rfl⟩
      obtain ⟨ls3, S3', e3', y8, y9, rfl, rfl⟩ := inner
      refine ⟨_, [some (.rol (ns.map W.int)), some (.loc 1), some k1, some k2, some w1, some w2, some (.loc n), some w, y8, y9], S ++ [.lst [k1, k2, k1]], rfl, .inl ?_, ⟨_, _, _, rfl, by rw [List.getElem?_append_left (lt_of h)]; exact h⟩⟩
      · simp only [set7_ev, for_ev, si_ev, lst_ev, args_ev, args_nil, var2_ev, var3_ev, argK_ok, argK2_ok, lstK_ok (b3 _ _ _), siK_ok, seq_loc (get_mid (cs := [])), siK2_ok, forK_ok]
        exact e3')
    [some (.rol (ns.map W.int)), some (.loc 1), some k1, some k2, some w1, some w2, some (.loc n), none, none, none] (S10 ++ [.lst vs]) ⟨none, none, none, rfl, by rw [hn]; exact get_mid (cs := [])⟩
  obtain ⟨ls, S, e, x7, x8, x9, rfl, _⟩ := loop
  have sq : seqW (S10 ++ [.lst vs]) (.loc S10.length) = some vs := seq_loc (get_mid (cs := []))
  refine ⟨S, ?_⟩
  rw [hn] at e
  simp only [f_law, mk1_ev, d_law, sq_ev, set_ev, call_ev, args_ev, argK_ok, args_nil, argK2_ok, callK_ok, List.replicate, var0_ev, e0, setK_ok, set1_ev, sqK_nx, var1_ev, c_ev, e1', set2_ev, e2', set3_ev, var2_ev, tup_ev, tupK_ok (b2 _ _), e3, set4_ev, var4_ev, e4, set5_ev, lst_ev, var5_ev, e5, var3_ev, e6, e7', lstK_ok (b5 _ _ _ _ _), ← hS8, set6_ev, op_ev, var6_ev, opK_ok, lstK_ok (b3 _ _ _), e9, opK2_ok, d6, lstK_ok (b2 _ _), ← hS10, a10, for_ev, si_ev, siK_ok, sq, siK2_ok, forK_ok, e, rt_ev, rtK_ok, mkK_rt]
end G
set_option maxHeartbeats 0
namespace G
open PySem L2 Fs
def h__is_number : He.DefD := ⟨("_is_number", none), "_is_number", "_is_number", defArgs s__is_number, defBody s__is_number, defScope s__is_number, [], []⟩
def h__is_form : He.DefD := ⟨("_is_form", none), "_is_form", "_is_form", defArgs s__is_form, defBody s__is_form, defScope s__is_form, [], []⟩
def h__is_case : He.DefD := ⟨("_is_case", none), "_is_case", "_is_case", defArgs s__is_case, defBody s__is_case, defScope s__is_case, [], []⟩
def h_is_letter : He.DefD := ⟨("is_letter", none), "is_letter", "is_letter", defArgs s_is_letter, defBody s_is_letter, defScope s_is_letter, [], []⟩
def h__law_tape : He.DefD := ⟨("_law_tape", none), "_law_tape", "_law_tape", defArgs s__law_tape, defBody s__law_tape, defScope s__law_tape, [], []⟩
def h__law_draw : He.DefD := ⟨("_law_draw", none), "_law_draw", "_law_draw", defArgs s__law_draw, defBody s__law_draw, defScope s__law_draw, [], []⟩
def h__law_whole : He.DefD := ⟨("_law_whole", none), "_law_whole", "_law_whole", defArgs s__law_whole, defBody s__law_whole, defScope s__law_whole, [], []⟩
def h__law_names : He.DefD := ⟨("_law_names", none), "_law_names", "_law_names", defArgs s__law_names, defBody s__law_names, defScope s__law_names, [], []⟩
def h__law_kinds : He.DefD := ⟨("_law_kinds", none), "_law_kinds", "_law_kinds", defArgs s__law_kinds, defBody s__law_kinds, defScope s__law_kinds, [], []⟩
def h__law_kind : He.DefD := ⟨("_law_kind", none), "_law_kind", "_law_kind", defArgs s__law_kind, defBody s__law_kind, defScope s__law_kind, [], []⟩
def h__law_integer : He.DefD := ⟨("_law_integer", none), "_law_integer", "_law_integer", defArgs s__law_integer, defBody s__law_integer, defScope s__law_integer, [], []⟩
def h__law_letter : He.DefD := ⟨("_law_letter", none), "_law_letter", "_law_letter", defArgs s__law_letter, defBody s__law_letter, defScope s__law_letter, [], []⟩
def h__law_is_letter : He.DefD := ⟨("_law_is_letter", none), "_law_is_letter", "_law_is_letter", defArgs s__law_is_letter, defBody s__law_is_letter, defScope s__law_is_letter, [], []⟩
def h__law_wild : He.DefD := ⟨("_law_wild", none), "_law_wild", "_law_wild", defArgs s__law_wild, defBody s__law_wild, defScope s__law_wild, [], []⟩
def h__law_spoilt : He.DefD := ⟨("_law_spoilt", none), "_law_spoilt", "_law_spoilt", defArgs s__law_spoilt, defBody s__law_spoilt, defScope s__law_spoilt, [], []⟩
def h_law : He.DefD := ⟨("law", none), "law", "law", defArgs s_law, defBody s_law, defScope s_law, [], []⟩
def hfn : List He.DefD := [h__is_number, h__is_form, h__is_case, h_is_letter, h__law_tape, h__law_draw, h__law_whole, h__law_names, h__law_kinds, h__law_kind, h__law_integer, h__law_letter, h__law_is_letter, h__law_wild, h__law_spoilt, h_law]
def hfal : List He.Fa := [.glo "_is_number", .glo "_is_form", .glo "_is_case", .glo "is_letter", .glo "_law_tape", .glo "_law_draw", .glo "_law_whole", .glo "_law_names", .glo "_law_kinds", .glo "_law_kind", .glo "_law_integer", .glo "_law_letter", .glo "_law_is_letter", .glo "_law_wild", .glo "_law_spoilt", .glo "law", .free "abs", .free "bool", .free "int", .free "isinstance", .free "len", .free "list", .free "max", .free "min", .free "range", .free "str", .free "sum", .free "tuple"]
abbrev R : PySem.W.OpenRow := PySem.W.OpenLaw.row PySem.Challenge.rw_guardwords_k00_letters_of_a_kind
abbrev hk : PySem.W.Hook := He.hookD 4 hfal hfn
def ob (s : PySem.W.SharedT) : He.AlD := He.obsDG 4 hfal hfn (HandSHeadRun.getT s)
theorem ob_eq (s : PySem.W.SharedT) : ob s = hk.obs s.abs := He.obsDG_eq (HandSHeadRun.getT_eq s)
def loose : List PySem.Str := ["is_letter", "_is_number", "_is_form", "_is_case", "_law_tape", "_law_draw", "_law_whole", "_law_names", "_law_kinds", "_law_kind", "_law_integer", "_law_letter", "_law_is_letter", "_law_wild", "_law_spoilt"]
theorem run (w : World) : HandSHeadRun.RunEq R (PySem.W.view R.prog [17]) hk ob 3000 loose w := by
  intro os
  kernel_rfl
theorem facts {P : Program} {w : World} {K : PySem.W.Frag} {h : Heap} {mg : Str → Option Value} {f : Addr} (X : K.In h) (Gn : h.Ns mainGlobals mg) (hfa : mg ("law" : Str) = some (.ref f)) (c : He.SaysD hfal hfn K) :
    ∃ fd : FuncData, (∀ (s : Shared) (v : Value), BindsTo s fd ⟨[v], []⟩ [("script", v)]) ∧ ∀ base : Heap, K.In base → base.Ns mainGlobals mg → FnOk P w K mg base CX0 15 f fd ["script"] (Fs.spLaw K) := by
  obtain ⟨fd__is_number, F__is_number⟩ := c.def_ 0 (d := h__is_number) rfl
  obtain ⟨fd__is_form, F__is_form⟩ := c.def_ 1 (d := h__is_form) rfl
  obtain ⟨fd__is_case, F__is_case⟩ := c.def_ 2 (d := h__is_case) rfl
  obtain ⟨fd_is_letter, F_is_letter⟩ := c.def_ 3 (d := h_is_letter) rfl
  obtain ⟨fd__law_tape, F__law_tape⟩ := c.def_ 4 (d := h__law_tape) rfl
  obtain ⟨fd__law_draw, F__law_draw⟩ := c.def_ 5 (d := h__law_draw) rfl
  obtain ⟨fd__law_whole, F__law_whole⟩ := c.def_ 6 (d := h__law_whole) rfl
  obtain ⟨fd__law_names, F__law_names⟩ := c.def_ 7 (d := h__law_names) rfl
  obtain ⟨fd__law_kinds, F__law_kinds⟩ := c.def_ 8 (d := h__law_kinds) rfl
  obtain ⟨fd__law_kind, F__law_kind⟩ := c.def_ 9 (d := h__law_kind) rfl
  obtain ⟨fd__law_integer, F__law_integer⟩ := c.def_ 10 (d := h__law_integer) rfl
  obtain ⟨fd__law_letter, F__law_letter⟩ := c.def_ 11 (d := h__law_letter) rfl
  obtain ⟨fd__law_is_letter, F__law_is_letter⟩ := c.def_ 12 (d := h__law_is_letter) rfl
  obtain ⟨fd__law_wild, F__law_wild⟩ := c.def_ 13 (d := h__law_wild) rfl
  obtain ⟨fd__law_spoilt, F__law_spoilt⟩ := c.def_ 14 (d := h__law_spoilt) rfl
  obtain ⟨fd_law, F_law⟩ := c.def_ 15 (d := h_law) rfl
  have T : Facts K mg := {
    d__is_number := ⟨_, _, F__is_number, He.glo_ok X Gn (c.fact 0 (f := .glo "_is_number") rfl)⟩
    d__is_form := ⟨_, _, F__is_form, He.glo_ok X Gn (c.fact 1 (f := .glo "_is_form") rfl)⟩
    d__is_case := ⟨_, _, F__is_case, He.glo_ok X Gn (c.fact 2 (f := .glo "_is_case") rfl)⟩
    d_is_letter := ⟨_, _, F_is_letter, He.glo_ok X Gn (c.fact 3 (f := .glo "is_letter") rfl)⟩
    d__law_tape := ⟨_, _, F__law_tape, He.glo_ok X Gn (c.fact 4 (f := .glo "_law_tape") rfl)⟩
    d__law_draw := ⟨_, _, F__law_draw, He.glo_ok X Gn (c.fact 5 (f := .glo "_law_draw") rfl)⟩
    d__law_whole := ⟨_, _, F__law_whole, He.glo_ok X Gn (c.fact 6 (f := .glo "_law_whole") rfl)⟩
    d__law_names := ⟨_, _, F__law_names, He.glo_ok X Gn (c.fact 7 (f := .glo "_law_names") rfl)⟩
    d__law_kinds := ⟨_, _, F__law_kinds, He.glo_ok X Gn (c.fact 8 (f := .glo "_law_kinds") rfl)⟩
    d__law_kind := ⟨_, _, F__law_kind, He.glo_ok X Gn (c.fact 9 (f := .glo "_law_kind") rfl)⟩
    d__law_integer := ⟨_, _, F__law_integer, He.glo_ok X Gn (c.fact 10 (f := .glo "_law_integer") rfl)⟩
    d__law_letter := ⟨_, _, F__law_letter, He.glo_ok X Gn (c.fact 11 (f := .glo "_law_letter") rfl)⟩
    d__law_is_letter := ⟨_, _, F__law_is_letter, He.glo_ok X Gn (c.fact 12 (f := .glo "_law_is_letter") rfl)⟩
    d__law_wild := ⟨_, _, F__law_wild, He.glo_ok X Gn (c.fact 13 (f := .glo "_law_wild") rfl)⟩
    d__law_spoilt := ⟨_, _, F__law_spoilt, He.glo_ok X Gn (c.fact 14 (f := .glo "_law_spoilt") rfl)⟩
    d_law := ⟨_, _, F_law, He.glo_ok X Gn (c.fact 15 (f := .glo "law") rfl)⟩
    m_abs := He.free_ok X Gn (c.fact 16 (f := .free "abs") rfl)
    m_bool := He.free_ok X Gn (c.fact 17 (f := .free "bool") rfl)
    m_int := He.free_ok X Gn (c.fact 18 (f := .free "int") rfl)
    m_isinstance := He.free_ok X Gn (c.fact 19 (f := .free "isinstance") rfl)
    m_len := He.free_ok X Gn (c.fact 20 (f := .free "len") rfl)
    m_list := He.free_ok X Gn (c.fact 21 (f := .free "list") rfl)
    m_max := He.free_ok X Gn (c.fact 22 (f := .free "max") rfl)
    m_min := He.free_ok X Gn (c.fact 23 (f := .free "min") rfl)
    m_range := He.free_ok X Gn (c.fact 24 (f := .free "range") rfl)
    m_str := He.free_ok X Gn (c.fact 25 (f := .free "str") rfl)
    m_sum := He.free_ok X Gn (c.fact 26 (f := .free "sum") rfl)
    m_tuple := He.free_ok X Gn (c.fact 27 (f := .free "tuple") rfl)
  }
  have e := hfa.symm.trans (He.glo_ok X Gn (c.fact 15 (f := .glo "law") rfl))
  cases e
  exact law_fin (ok_law (P := P) (w := w) T) (He.glo_ok X Gn (c.fact 15 (f := .glo "law") rfl)) law_true
end G
open PySem PySem.W PySem.Calls PyProof.Rows
theorem PySem.Challenge.cw_guardwords_k00_letters_of_a_kind_holds : PySem.Challenge.rw_guardwords_k00_letters_of_a_kind.Holds := by
  w_on; o_law
  refine HandSHeadRun.head_any (r := OpenLaw.row PySem.Challenge.rw_guardwords_k00_letters_of_a_kind) (q := view (OpenLaw.row PySem.Challenge.rw_guardwords_k00_letters_of_a_kind).prog [17]) (H := G.hk) (ob := G.ob) (M := 3000) (loose := G.loose) (d := HandSHeadRun.topDef (OpenLaw.row PySem.Challenge.rw_guardwords_k00_letters_of_a_kind).prog 17) (kwd := []) G.ob_eq
    (by kernel_rfl) (fun s => by kernel_rfl) G.run (by kernel_rfl) (by kernel_rfl) (by kernel_rfl) (by rfl) (by first | assumption | decide +kernel) (by decide +kernel) ⟨rfl, rfl, rfl, rfl, rfl, by decide +kernel⟩ ?hw ?hc
  case hw => w_witness2
  case hc =>
    refine L2.walk_ofE (l := PySem.Challenge.rw_guardwords_k00_letters_of_a_kind) (n := 63) (k := 15) (x := "script") (CX := L2.CX0) rfl (by decide) (by kernel_rfl) ⟨rfl, by decide, by decide⟩ ?F (fun _ _ _ _ z => z)
    intro w mg fa h Y Gn hmg0
    obtain ⟨K, KX, c⟩ := Y
    have hmg : mg ("law" : PySem.Str) = some (.ref fa) := by
      have e : (HandSHeadRun.topDef (OpenLaw.row PySem.Challenge.rw_guardwords_k00_letters_of_a_kind).prog 17).name = ("law" : PySem.Str) := by kernel_rfl
      rw [← e]
      exact hmg0
    obtain ⟨fd, hb, hF⟩ := G.facts (P := (PySem.Challenge.rw_guardwords_k00_letters_of_a_kind).prog) (w := w) KX Gn hmg c
    exact ⟨K, fd, Fs.spLaw K, KX, hb, fun H a ns hl o hS => ⟨a, ns, rfl, Fs.RoL.of_only o hS, hl, fun _ => rfl⟩, hF⟩

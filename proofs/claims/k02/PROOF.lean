import PyProof.Rows.All
import Wide.All
import OpenK.AllK
import Wide.FinOn
import HandS.ForMost
import HandS.Wide
import HandS.Deep
import HandS.IsInst
import HandS.Flow
import HandS.TupAny
import HandS.Strs
import HandS.Defaults
import HandS.Exc
import HandS.ExcOwn
import HandS.TryOnly
import HandS.WordsExc
import HandS.TupLe
import KE.LtSeq
import HandS.Style
import HandS.ExcIs
import HandS.HotCalls
import HandS.HeadHook1
import HandS.HeadHook4
import HandS.Iter
import HandS.Head0
import HandS.Head1
import HandS.Head2
import HandS.HeadEnd
import HandS.HeadHook2
import PySem.Challenge.RW_guardwords_k02_order_of_words
set_option Elab.async false
set_option linter.all false
set_option maxRecDepth 100000
set_option maxHeartbeats 4000000
namespace Fs
open PySem L2

/-! ### values, cells, results -/
inductive W where
  | non | bl (b : Bool) | int (i : Int) | str (x : Str) | tup (xs : List W) | rol (xs : List W) | loc (n : Nat) | ty (n : String) | adr (a : Nat)
inductive Cell where
  | lst (xs : List W)
  | dct (kvs : List (L2.Key × W))
abbrev Store := List Cell
def cellLst : Option Cell → Option (List W)
  | some (.lst xs) => some xs
  | _ => none
theorem cellLst_some {o : Option Cell} {xs : List W} (h : cellLst o = some xs) : o = some (.lst xs) := by
  cases o with
  | none => cases h
  | some c => cases c <;> cases h <;> rfl
structure Ex where
  cls : Str
  fs : List (Str × W)
inductive Res (α : Type) where
  | ok (a : α) (S : Store)
  | exc (e : Ex) (S : Store)
  | bad
def Res.bind {α β : Type} : Res α → (α → Store → Res β) → Res β
  | .ok a S, f => f a S
  | .exc e S, _ => .exc e S
  | .bad, _ => .bad
abbrev Lo := List (Option W)
abbrev DE := Lo → Store → Res W
abbrev DT := Lo → Store → Res Bool
abbrev DA := Lo → Store → Res (List W)
abbrev DF := List W → Store → Res W
inductive RS where
  | nx (ls : Lo) (S : Store) | rt (w : W) (S : Store) | bk (ls : Lo) (S : Store) | ct (ls : Lo) (S : Store) | ex (e : Ex) (ls : Lo) (S : Store) | bad
abbrev DS := Lo → Store → RS

/-! ### what stands for what -/
abbrev Mu := Nat → Option Addr
def RoL (K : PySem.W.Frag) (H : Hp) (a : Addr) (xs : List V) : Prop :=
  (∃ o, H a = some (.frz o (.lst xs))) ∨
    ∃ (o : Obj) (its : Array Value) (n : Nat), K.lookup a = some o ∧ o.cls = .type "list" ∧ o.dict = none ∧ o.data = .seq its n ∧ its.size ≤ sizeLine ∧ Vals xs its.toList
theorem RoL.seq {K : PySem.W.Frag} {H : Hp} {a : Addr} {xs : List V} (h : RoL K H a xs) : SqL K H a xs := by
  rcases h with ⟨o, h⟩ | h
  · exact .inl (.inr ⟨o, h⟩)
  · exact .inr h
theorem RoL.of_only {K : PySem.W.Frag} {H : Hp} {a : Addr} {xs : List V} (o : Only H) (h : SqL K H a xs) : RoL K H a xs := by
  rcases h with (h | ⟨u, h⟩) | h
  · rcases o a with q | ⟨u, ys, q⟩
    · rw [q] at h; cases h
    · rw [q] at h; cases h
  · exact .inl ⟨u, h⟩
  · exact .inr h
/-- a tuple whose object is known to have no dict -/
def SqD (K : PySem.W.Frag) (H : Hp) (a : Addr) (xs : List V) : Prop :=
  (∃ o, H a = some (.frz o (.tup xs)) ∧ o.dict = none) ∨
    ∃ (o : Obj) (its : Array Value) (n : Nat), K.lookup a = some o ∧ o.cls = .type "tuple" ∧ o.dict = none ∧ o.data = .seq its n ∧ its.size ≤ sizeLine ∧ Vals xs its.toList
theorem SqD.t {K : PySem.W.Frag} {H : Hp} {a : Addr} {xs : List V} (h : SqD K H a xs) : SqT K H a xs := by
  rcases h with ⟨o, h, _⟩ | ⟨o, its, n, h1, h2, _, h3, h4, h5⟩
  · exact .inl (.inr ⟨o, h⟩)
  · exact .inr ⟨o, its, n, h1, h2, h3, h4, h5⟩
theorem SqD.of {K : PySem.W.Frag} {H : Hp} {a : Addr} {xs : List V} {o : Obj} (h : H a = some (.frz o (.tup xs))) (hd : o.dict = none) : SqD K H a xs := .inl ⟨o, h, hd⟩
mutual
inductive Vr (K : PySem.W.Frag) (μ : Mu) (H : Hp) : V → W → Prop
  | non : Vr K μ H .non .non
  | bl (b : Bool) : Vr K μ H (.bl b) (.bl b)
  | int (i : Int) : Vr K μ H (.int i) (.int i)
  | str (x : Str) : Vr K μ H (.str x) (.str x)
  | tup {a : Addr} {xs : List V} {ws : List W} : SqD K H a xs → VrA K μ H xs ws → Vr K μ H (.ref a) (.tup ws)
  | rol {a : Addr} {xs : List V} {ws : List W} : RoL K H a xs → VrA K μ H xs ws → Vr K μ H (.ref a) (.rol ws)
  | loc {n : Nat} {a : Addr} : μ n = some a → Vr K μ H (.ref a) (.loc n)
  | ty (n : String) : Vr K μ H (.ty n) (.ty n)
  | adr (a : Addr) : Vr K μ H (.ref a) (.adr a)
inductive VrA (K : PySem.W.Frag) (μ : Mu) (H : Hp) : List V → List W → Prop
  | nil : VrA K μ H [] []
  | cons {v : V} {vs : List V} {w : W} {ws : List W} : Vr K μ H v w → VrA K μ H vs ws → VrA K μ H (v :: vs) (w :: ws)
end
def fixO : HO → Bool
  | .tup _ => true
  | .frz _ _ => true
  | .xd _ => true
  | _ => false
structure Gr (μ μ' : Mu) (H H' : Hp) : Prop where
  mu : ∀ n a, μ n = some a → μ' n = some a
  fx : ∀ a u, H a = some u → fixO u = true → H' a = some u
  kp : ∀ a u, H a = some u → (∀ n, μ n ≠ some a) → H' a = some u ∧ ∀ n, μ' n ≠ some a
theorem Gr.refl (μ : Mu) (H : Hp) : Gr μ μ H H := ⟨fun _ _ h => h, fun _ _ h _ => h, fun _ _ h q => ⟨h, q⟩⟩
theorem Gr.trans {μ μ1 μ2 : Mu} {H H1 H2 : Hp} (a : Gr μ μ1 H H1) (b : Gr μ1 μ2 H1 H2) : Gr μ μ2 H H2 :=
  ⟨fun n x h => b.mu n x (a.mu n x h), fun x u h q => b.fx x u (a.fx x u h q) q, fun x u h q => b.kp x u (a.kp x u h q).1 (a.kp x u h q).2⟩
structure Gq (μ μ' : Mu) (H H' : Hp) : Prop where
  mu : ∀ n a, μ n = some a → μ' n = some a
  fx : ∀ a u, H a = some u → fixO u = true → H' a = some u
theorem Gr.q {μ μ' : Mu} {H H' : Hp} (g : Gr μ μ' H H') : Gq μ μ' H H' := ⟨g.mu, g.fx⟩
theorem Gq.sqt {K : PySem.W.Frag} {μ μ' : Mu} {H H' : Hp} {a : Addr} {xs : List V} (g : Gq μ μ' H H') (h : SqT K H a xs) : SqT K H' a xs := by
  rcases h with (h | ⟨o, h⟩) | h
  · exact .inl (.inl (g.fx _ _ h rfl))
  · exact .inl (.inr ⟨o, g.fx _ _ h rfl⟩)
  · exact .inr h
theorem Gq.sqd {K : PySem.W.Frag} {μ μ' : Mu} {H H' : Hp} {a : Addr} {xs : List V} (g : Gq μ μ' H H') (h : SqD K H a xs) : SqD K H' a xs := by
  rcases h with ⟨o, h, hd⟩ | h
  · exact .inl ⟨o, g.fx _ _ h rfl, hd⟩
  · exact .inr h
theorem Gq.rol {K : PySem.W.Frag} {μ μ' : Mu} {H H' : Hp} {a : Addr} {xs : List V} (g : Gq μ μ' H H') (h : RoL K H a xs) : RoL K H' a xs := by
  rcases h with ⟨o, h⟩ | h
  · exact .inl ⟨o, g.fx _ _ h rfl⟩
  · exact .inr h
mutual
theorem Vr.mono0 {K : PySem.W.Frag} {μ μ' : Mu} {H H' : Hp} (g : Gq μ μ' H H') : ∀ {w : W} {v : V}, Vr K μ H v w → Vr K μ' H' v w
  | .non, _, h => by cases h; exact .non
  | .bl b, _, h => by cases h; exact .bl b
  | .int b, _, h => by cases h; exact .int b
  | .str b, _, h => by cases h; exact .str b
  | .tup ws, _, h => by
    cases h with
    | tup h1 h2 => exact .tup (g.sqd h1) (VrA.mono0 g h2)
  | .rol ws, _, h => by
    cases h with
    | rol h1 h2 => exact .rol (g.rol h1) (VrA.mono0 g h2)
  | .loc n, _, h => by
    cases h with
    | loc h1 => exact .loc (g.mu _ _ h1)
  | .ty n, _, h => by cases h; exact .ty n
  | .adr a, _, h => by cases h; exact .adr a
theorem VrA.mono0 {K : PySem.W.Frag} {μ μ' : Mu} {H H' : Hp} (g : Gq μ μ' H H') : ∀ {ws : List W} {vs : List V}, VrA K μ H vs ws → VrA K μ' H' vs ws
  | [], _, h => by cases h; exact .nil
  | w :: ws, _, h => by
    cases h with
    | cons h1 h2 => exact .cons (Vr.mono0 g h1) (VrA.mono0 g h2)
end
theorem Gr.sqt {K : PySem.W.Frag} {μ μ' : Mu} {H H' : Hp} {a : Addr} {xs : List V} (g : Gr μ μ' H H') (h : SqT K H a xs) : SqT K H' a xs := g.q.sqt h
theorem Gr.rol {K : PySem.W.Frag} {μ μ' : Mu} {H H' : Hp} {a : Addr} {xs : List V} (g : Gr μ μ' H H') (h : RoL K H a xs) : RoL K H' a xs := g.q.rol h
theorem Vr.mono {K : PySem.W.Frag} {μ μ' : Mu} {H H' : Hp} (g : Gr μ μ' H H') {w : W} {v : V} (h : Vr K μ H v w) : Vr K μ' H' v w := h.mono0 g.q
theorem VrA.mono {K : PySem.W.Frag} {μ μ' : Mu} {H H' : Hp} (g : Gr μ μ' H H') {ws : List W} {vs : List V} (h : VrA K μ H vs ws) : VrA K μ' H' vs ws := h.mono0 g.q
theorem VrA.length {K : PySem.W.Frag} {μ : Mu} {H : Hp} : ∀ {ws : List W} {vs : List V}, VrA K μ H vs ws → vs.length = ws.length
  | [], _, h => by cases h; rfl
  | w :: ws, _, h => by
    cases h with
    | cons h1 h2 => rw [List.length_cons, List.length_cons, VrA.length h2]
theorem VrA.get {K : PySem.W.Frag} {μ : Mu} {H : Hp} : ∀ {ws : List W} {vs : List V} {i : Nat} {w : W}, VrA K μ H vs ws → ws[i]? = some w → ∃ v, vs[i]? = some v ∧ Vr K μ H v w
  | [], _, _, _, _, e => by simp at e
  | w :: ws, _, 0, _, h, e => by
    cases h with
    | cons h1 h2 =>
      simp at e
      subst e
      exact ⟨_, rfl, h1⟩
  | w :: ws, _, i + 1, _, h, e => by
    cases h with
    | cons h1 h2 =>
      obtain ⟨v, q1, q2⟩ := VrA.get (i := i) h2 (by simpa using e)
      exact ⟨v, by simpa using q1, q2⟩
theorem VrA.append {K : PySem.W.Frag} {μ : Mu} {H : Hp} : ∀ {ws ws' : List W} {vs vs' : List V}, VrA K μ H vs ws → VrA K μ H vs' ws' → VrA K μ H (vs ++ vs') (ws ++ ws')
  | [], _, _, _, h, h' => by cases h; exact h'
  | w :: ws, _, _, _, h, h' => by
    cases h with
    | cons h1 h2 => exact .cons h1 (VrA.append h2 h')
theorem VrA.set {K : PySem.W.Frag} {μ : Mu} {H : Hp} {v : V} {w : W} (r : Vr K μ H v w) : ∀ {ws : List W} {vs : List V} (i : Nat), VrA K μ H vs ws → VrA K μ H (vs.set i v) (ws.set i w)
  | [], _, _, h => by cases h; exact .nil
  | _ :: ws, _, 0, h => by
    cases h with
    | cons h1 h2 => exact .cons r h2
  | _ :: ws, _, i + 1, h => by
    cases h with
    | cons h1 h2 => exact .cons h1 (VrA.set r i h2)
theorem VrA.take {K : PySem.W.Frag} {μ : Mu} {H : Hp} : ∀ {ws : List W} {vs : List V} (n : Nat), VrA K μ H vs ws → VrA K μ H (vs.take n) (ws.take n)
  | _, _, 0, _ => by simpa using VrA.nil
  | [], _, n + 1, h => by cases h; exact .nil
  | _ :: ws, _, n + 1, h => by
    cases h with
    | cons h1 h2 => exact .cons h1 (VrA.take n h2)
theorem VrA.drop {K : PySem.W.Frag} {μ : Mu} {H : Hp} : ∀ {ws : List W} {vs : List V} (n : Nat), VrA K μ H vs ws → VrA K μ H (vs.drop n) (ws.drop n)
  | _, _, 0, h => by simpa using h
  | [], _, n + 1, h => by cases h; exact .nil
  | _ :: ws, _, n + 1, h => by
    cases h with
    | cons h1 h2 => exact VrA.drop n h2
theorem VrA.ints {K : PySem.W.Frag} {μ : Mu} {H : Hp} : ∀ ns : List Int, VrA K μ H (ns.map V.int) (ns.map W.int)
  | [] => .nil
  | n :: r => .cons (.int n) (VrA.ints r)

/-! ### the store in the heap -/
def CellR (K : PySem.W.Frag) (μ : Mu) (H : Hp) (a : Addr) : Cell → Prop
  | .lst ws => ∃ xs, H a = some (.lst xs) ∧ VrA K μ H xs ws
  | .dct ws => ∃ xs : List (L2.Key × V), H a = some (.dK xs) ∧ xs.map (·.1) = ws.map (·.1) ∧ VrA K μ H (xs.map (·.2)) (ws.map (·.2))
structure Sim (K : PySem.W.Frag) (μ : Mu) (S : Store) (H : Hp) : Prop where
  cell : ∀ n c, S[n]? = some c → ∃ a, μ n = some a ∧ CellR K μ H a c
  inj : ∀ n n' a, μ n = some a → μ n' = some a → n = n'
  top : ∀ n, S.length ≤ n → μ n = none
theorem CellR.mono0 {K : PySem.W.Frag} {μ μ' : Mu} {H H' : Hp} {a : Addr} (g : Gq μ μ' H H') (e : H' a = H a) : ∀ {c : Cell}, CellR K μ H a c → CellR K μ' H' a c
  | .lst ws, h => by
    obtain ⟨xs, h1, h2⟩ := h
    exact ⟨xs, by rw [e]; exact h1, h2.mono0 g⟩
  | .dct ws, h => by
    obtain ⟨xs, h1, h2, h3⟩ := h
    exact ⟨xs, by rw [e]; exact h1, h2, h3.mono0 g⟩
theorem CellR.mono {K : PySem.W.Frag} {μ μ' : Mu} {H H' : Hp} {a : Addr} (g : Gr μ μ' H H') (e : H' a = H a) {c : Cell} (h : CellR K μ H a c) : CellR K μ' H' a c := h.mono0 g.q e
theorem CellR.nofix {K : PySem.W.Frag} {μ : Mu} {H : Hp} {a : Addr} : ∀ {c : Cell}, CellR K μ H a c → ∃ u, H a = some u ∧ fixO u = false
  | .lst ws, h => by
    obtain ⟨xs, h1, h2⟩ := h
    exact ⟨_, h1, rfl⟩
  | .dct ws, h => by
    obtain ⟨xs, h1, h2⟩ := h
    exact ⟨_, h1, rfl⟩
/-- a fresh object that is a value (a tuple) -/
theorem gr_new {μ : Mu} {H : Hp} {p : Addr} {u : HO} (hp : H p = none) : Gr μ μ H (upd H p u) := ⟨fun _ _ h => h, fun a o h _ => by
  rw [upd_ne (ne_of_none h hp)]
  exact h, fun a o h q => ⟨by rw [upd_ne (ne_of_none h hp)]; exact h, q⟩⟩
theorem Sim.new {K : PySem.W.Frag} {μ : Mu} {S : Store} {H : Hp} (s : Sim K μ S H) {p : Addr} {u : HO} (hp : H p = none) : Sim K μ S (upd H p u) :=
  ⟨fun n c h => by
    obtain ⟨a, h1, h2⟩ := s.cell n c h
    obtain ⟨o, h3, _⟩ := h2.nofix
    exact ⟨a, h1, h2.mono (gr_new hp) (upd_ne (ne_of_none h3 hp))⟩, s.inj, s.top⟩
def muAdd (μ : Mu) (n : Nat) (p : Addr) : Mu := fun k => if k = n then some p else μ k
theorem muAdd_same {μ : Mu} {n : Nat} {p : Addr} : muAdd μ n p n = some p := by unfold muAdd; rw [if_pos rfl]
theorem muAdd_ne {μ : Mu} {n k : Nat} {p : Addr} (h : k ≠ n) : muAdd μ n p k = μ k := by unfold muAdd; rw [if_neg h]
/-- a fresh list -/
theorem gr_cell {K : PySem.W.Frag} {μ : Mu} {S : Store} {H : Hp} (s : Sim K μ S H) {p : Addr} {u : HO} (hp : H p = none) : Gr μ (muAdd μ S.length p) H (upd H p u) :=
  ⟨fun n a h => by
    by_cases e : n = S.length
    · subst e; rw [s.top _ (Nat.le_refl _)] at h; cases h
    · rw [muAdd_ne e]; exact h, (gr_new (μ := μ) hp).fx, fun a o h q => ⟨by rw [upd_ne (ne_of_none h hp)]; exact h, fun n z => by
      by_cases e : n = S.length
      · subst e
        rw [muAdd_same] at z
        exact ne_of_none h hp (Option.some.inj z).symm
      · rw [muAdd_ne e] at z
        exact q n z⟩⟩
theorem Sim.lt {K : PySem.W.Frag} {μ : Mu} {S : Store} {H : Hp} (s : Sim K μ S H) {n : Nat} {a : Addr} (h : μ n = some a) : n < S.length := by
  by_cases e : n < S.length
  · exact e
  · rw [s.top n (by omega)] at h; cases h
theorem Sim.there {K : PySem.W.Frag} {μ : Mu} {S : Store} {H : Hp} (s : Sim K μ S H) {n : Nat} {a : Addr} (h : μ n = some a) : ∃ u, H a = some u ∧ fixO u = false := by
  have hl := s.lt h
  obtain ⟨a', h1, h2⟩ := s.cell n _ (List.getElem?_eq_getElem hl)
  rw [h1] at h
  cases h
  exact h2.nofix
theorem Sim.alloc {K : PySem.W.Frag} {μ : Mu} {S : Store} {H : Hp} (s : Sim K μ S H) {p : Addr} {u : HO} {c : Cell} (hp : H p = none) (hc : CellR K (muAdd μ S.length p) (upd H p u) p c) :
    Sim K (muAdd μ S.length p) (S ++ [c]) (upd H p u) := by
  refine ⟨fun n d h => ?_, fun n n' a h h' => ?_, fun n h => ?_⟩
  · by_cases e : n < S.length
    · rw [List.getElem?_append_left e] at h
      obtain ⟨a, h1, h2⟩ := s.cell n d h
      obtain ⟨o, h3, _⟩ := h2.nofix
      exact ⟨a, by rw [muAdd_ne (by omega)]; exact h1, h2.mono (gr_cell s hp) (upd_ne (ne_of_none h3 hp))⟩
    · by_cases e2 : n = S.length
      · subst e2
        rw [List.getElem?_append_right (Nat.le_refl _), Nat.sub_self] at h
        cases h
        exact ⟨p, muAdd_same, hc⟩
      · rw [List.getElem?_eq_none (by rw [List.length_append, List.length_singleton]; omega)] at h
        cases h
  · have key : ∀ k b, muAdd μ S.length p k = some b → (k = S.length ∧ b = p) ∨ (k ≠ S.length ∧ μ k = some b) := fun k b q => by
      by_cases e : k = S.length
      · subst e; rw [muAdd_same] at q; cases q; exact .inl ⟨rfl, rfl⟩
      · rw [muAdd_ne e] at q; exact .inr ⟨e, q⟩
    have no : ∀ k b, μ k = some b → b ≠ p := fun k b q => by
      obtain ⟨o, h3, _⟩ := s.there q
      exact ne_of_none h3 hp
    rcases key n a h with ⟨e1, e2⟩ | ⟨e1, e2⟩ <;> rcases key n' a h' with ⟨e3, e4⟩ | ⟨e3, e4⟩
    · rw [e1, e3]
    · exact absurd e2 (no _ _ e4)
    · exact absurd e4 (no _ _ e2)
    · exact s.inj n n' a e2 e4
  · rw [List.length_append, List.length_singleton] at h
    rw [muAdd_ne (by omega)]
    exact s.top n (by omega)
/-- a cell is written -/
theorem gr_write {K : PySem.W.Frag} {μ : Mu} {S : Store} {H : Hp} (s : Sim K μ S H) {n : Nat} {a : Addr} {u : HO} (h : μ n = some a) : Gr μ μ H (upd H a u) := ⟨fun _ _ h => h, fun b o hb hf => by
  obtain ⟨o', h3, h4⟩ := s.there h
  by_cases e : b = a
  · subst e
    rw [h3] at hb
    cases hb
    rw [h4] at hf
    cases hf
  · rw [upd_ne e]
    exact hb, fun b o hb q => ⟨by rw [upd_ne (fun z => q n (by rw [z]; exact h))]; exact hb, q⟩⟩
theorem Sim.write {K : PySem.W.Frag} {μ : Mu} {S : Store} {H : Hp} (s : Sim K μ S H) {n : Nat} {a : Addr} {u : HO} {c : Cell} (h : μ n = some a) (hc : CellR K μ (upd H a u) a c) : Sim K μ (S.set n c) (upd H a u) := by
  refine ⟨fun k d hk => ?_, s.inj, fun k hk => s.top k (by rw [List.length_set] at hk; exact hk)⟩
  by_cases e : k = n
  · subst e
    rw [List.getElem?_set_self (s.lt h)] at hk
    cases hk
    exact ⟨a, h, hc⟩
  · rw [List.getElem?_set_ne (Ne.symm e)] at hk
    obtain ⟨b, h1, h2⟩ := s.cell k d hk
    exact ⟨b, h1, h2.mono (gr_write s h) (upd_ne fun z => e (s.inj k n a (by rw [← z]; exact h1) h))⟩
/-- the heap grows -/
theorem gr_ext {μ : Mu} {H H' : Hp} (k : ∀ b o, H b = some o → H' b = some o) : Gr μ μ H H' := ⟨fun _ _ h => h, fun a u h _ => k a u h, fun a u h q => ⟨k a u h, q⟩⟩
theorem Sim.ext {K : PySem.W.Frag} {μ : Mu} {S : Store} {H H' : Hp} (s : Sim K μ S H) (k : ∀ b o, H b = some o → H' b = some o) : Sim K μ S H' :=
  ⟨fun n c h => by
    obtain ⟨a, h1, h2⟩ := s.cell n c h
    obtain ⟨o, h3, _⟩ := h2.nofix
    exact ⟨a, h1, h2.mono (gr_ext k) (by rw [h3]; exact k _ _ h3)⟩, s.inj, s.top⟩
/-- one that stands in the heap becomes a cell -/
theorem gr_add {K : PySem.W.Frag} {μ : Mu} {S : Store} {H H' : Hp} (s : Sim K μ S H) (k : ∀ b o, H b = some o → H' b = some o) {p : Addr} (hp : H p = none) : Gr μ (muAdd μ S.length p) H H' :=
  ⟨fun n a h => by rw [muAdd_ne (fun e => by rw [e, s.top _ (Nat.le_refl _)] at h; cases h)]; exact h, fun a u h _ => k a u h, fun a u h q => ⟨k a u h, fun n z => by
      by_cases e : n = S.length
      · subst e
        rw [muAdd_same] at z
        exact ne_of_none h hp (Option.some.inj z).symm
      · rw [muAdd_ne e] at z
        exact q n z⟩⟩
theorem Sim.add {K : PySem.W.Frag} {μ : Mu} {S : Store} {H : Hp} (s : Sim K μ S H) {p : Addr} {c : Cell} (hp : ∀ n, μ n ≠ some p) (hc : CellR K (muAdd μ S.length p) H p c) : Sim K (muAdd μ S.length p) (S ++ [c]) H := by
  have g : Gq μ (muAdd μ S.length p) H H := ⟨fun n a h => by rw [muAdd_ne (fun e => by rw [e, s.top _ (Nat.le_refl _)] at h; cases h)]; exact h, fun _ _ h _ => h⟩
  refine ⟨fun n d h => ?_, fun n n' a h h' => ?_, fun n h => ?_⟩
  · by_cases e : n < S.length
    · rw [List.getElem?_append_left e] at h
      obtain ⟨a, h1, h2⟩ := s.cell n d h
      exact ⟨a, g.mu _ _ h1, h2.mono0 g rfl⟩
    · by_cases e2 : n = S.length
      · subst e2
        rw [List.getElem?_append_right (Nat.le_refl _), Nat.sub_self] at h
        cases h
        exact ⟨p, muAdd_same, hc⟩
      · rw [List.getElem?_eq_none (by rw [List.length_append, List.length_singleton]; omega)] at h
        cases h
  · have key : ∀ k b, muAdd μ S.length p k = some b → (k = S.length ∧ b = p) ∨ (k ≠ S.length ∧ μ k = some b) := fun k b q => by
      by_cases e : k = S.length
      · subst e; rw [muAdd_same] at q; cases q; exact .inl ⟨rfl, rfl⟩
      · rw [muAdd_ne e] at q; exact .inr ⟨e, q⟩
    rcases key n a h with ⟨e1, e2⟩ | ⟨e1, e2⟩ <;> rcases key n' a h' with ⟨e3, e4⟩ | ⟨e3, e4⟩
    · rw [e1, e3]
    · exact absurd (by rw [← e2]; exact e4) (hp _)
    · exact absurd (by rw [← e4]; exact e2) (hp _)
    · exact s.inj n n' a e2 e4
  · rw [List.length_append, List.length_singleton] at h
    rw [muAdd_ne (by omega)]
    exact s.top n (by omega)
/-- an untracked thing is written -/
theorem gr_wr {μ : Mu} {H : Hp} {p : Addr} {u : HO} (hp : ∀ n, μ n ≠ some p) : Gq μ μ H H := ⟨fun _ _ h => h, fun _ _ h _ => h⟩
theorem Sim.empty {K : PySem.W.Frag} {H : Hp} : Sim K (fun _ => none) [] H := ⟨fun n c h => by simp at h, fun _ _ _ h => (by cases h), fun _ _ => rfl⟩

/-! ### slots -/
structure LR (K : PySem.W.Frag) (μ : Mu) (H : Hp) (σ : St) (ls : Lo) : Prop where
  len : σ.length = ls.length
  at_ : ∀ (i : Nat) (w : W), ls[i]? = some (some w) → ∃ v, σ[i]? = some (some v) ∧ Vr K μ H v w
theorem LR.mono {K : PySem.W.Frag} {μ μ' : Mu} {H H' : Hp} {σ : St} {ls : Lo} (g : Gr μ μ' H H') (h : LR K μ H σ ls) : LR K μ' H' σ ls := ⟨h.len, fun i w e => by
  obtain ⟨v, h1, h2⟩ := h.at_ i w e
  exact ⟨v, h1, h2.mono g⟩⟩
theorem LR.set {K : PySem.W.Frag} {μ : Mu} {H : Hp} {σ : St} {ls : Lo} {i : Nat} {v : V} {w : W} (h : LR K μ H σ ls) (r : Vr K μ H v w) : LR K μ H (σ.set i (some v)) (ls.set i (some w)) := by
  refine ⟨by rw [List.length_set, List.length_set, h.len], fun j w' e => ?_⟩
  by_cases q : i = j
  · subst q
    by_cases hl : i < ls.length
    · rw [List.getElem?_set_self hl] at e
      cases e
      exact ⟨v, by rw [List.getElem?_set_self (by rw [h.len]; exact hl)], r⟩
    · rw [List.getElem?_eq_none (by rw [List.length_set]; omega)] at e
      cases e
  · rw [List.getElem?_set_ne q] at e
    rw [List.getElem?_set_ne q]
    exact h.at_ j w' e
def startW (N : Nat) (ws : List W) : Lo := ws.map some ++ List.replicate (N - ws.length) none
theorem LR.atStart {K : PySem.W.Frag} {μ : Mu} {H : Hp} {N : List Str} {vs : List V} {ws : List W} (h : VrA K μ H vs ws) : LR K μ H (L2.start N vs) (startW N.length ws) := by
  have hl := h.length
  refine ⟨by unfold L2.start startW; rw [List.length_append, List.length_append, List.length_map, List.length_map, List.length_replicate, List.length_replicate, hl], fun i w e => ?_⟩
  unfold startW at e
  unfold L2.start
  by_cases q : i < ws.length
  · rw [List.getElem?_append_left (by rw [List.length_map]; exact q), List.getElem?_map] at e
    cases e1 : ws[i]? with
    | none => rw [e1] at e; cases e
    | some x =>
      rw [e1] at e
      cases e
      obtain ⟨v, h1, h2⟩ := h.get e1
      exact ⟨v, by rw [List.getElem?_append_left (by rw [List.length_map, hl]; exact q), List.getElem?_map, h1]; rfl, h2⟩
  · rw [List.getElem?_append_right (by rw [List.length_map]; omega)] at e
    have := List.mem_of_getElem? e
    have := List.eq_of_mem_replicate this
    cases this

/-! ### an exception, and what is wanted behind a result -/
def XR (mg : Str → Option Value) (K : PySem.W.Frag) (μ : Mu) (H : Hp) (e : Ex) (c : Value) (d : Option Addr) : Prop :=
  mg e.cls = some c ∧ ((e.fs = [] ∧ d = none) ∨ (e.fs ≠ [] ∧ ∃ a xs, d = some a ∧ H a = some (.xd xs) ∧ xs.map (·.1) = e.fs.map (·.1) ∧ VrA K μ H (xs.map (·.2)) (e.fs.map (·.2))))
def Bd {α β : Type} (K : PySem.W.Frag) (mg : Str → Option Value) (Rl : Mu → Hp → β → α → Prop) (E : XK) (μ : Mu) (H : Hp) (r : Res α) (Q : β → Hp → Prop) : Prop :=
  match r with
  | .ok a S => ∀ b H' μ', Gr μ μ' H H' → Sim K μ' S H' → Rl μ' H' b a → Q b H'
  | .exc e S => ∀ c d H' μ', Gr μ μ' H H' → Sim K μ' S H' → XR mg K μ' H' e c d → E c d H'
  | .bad => False
theorem Bd.mono {α β : Type} {K : PySem.W.Frag} {mg : Str → Option Value} {Rl : Mu → Hp → β → α → Prop} {E : XK} {μ μ1 : Mu} {H H1 : Hp} {Q : β → Hp → Prop} (g : Gr μ μ1 H H1) : ∀ {r : Res α}, Bd K mg Rl E μ H r Q → Bd K mg Rl E μ1 H1 r Q
  | .ok a S, h => fun b H' μ' g' => h b H' μ' (g.trans g')
  | .exc e S, h => fun c d H' μ' g' => h c d H' μ' (g.trans g')
  | .bad, h => h
theorem Bd.bind {α β γ δ : Type} {K : PySem.W.Frag} {mg : Str → Option Value} {Rl : Mu → Hp → β → α → Prop} {Rm : Mu → Hp → δ → γ → Prop} {E : XK} {μ : Mu} {H : Hp} {f : γ → Store → Res α} {Q : β → Hp → Prop} {Q1 : δ → Hp → Prop}
    (k : ∀ a S b H1 μ1, Gr μ μ1 H H1 → Sim K μ1 S H1 → Rm μ1 H1 b a → Bd K mg Rl E μ1 H1 (f a S) Q → Q1 b H1) : ∀ {r : Res γ}, Bd K mg Rl E μ H (r.bind f) Q → Bd K mg Rm E μ H r Q1
  | .ok a S, h => fun b H' μ' g s r => k a S b H' μ' g s r (Bd.mono g h)
  | .exc e S, h => h
  | .bad, h => h
abbrev RlV (K : PySem.W.Frag) : Mu → Hp → V → W → Prop := fun μ H v w => Vr K μ H v w
abbrev RlB : Mu → Hp → Bool → Bool → Prop := fun _ _ a b => a = b
abbrev RlA (K : PySem.W.Frag) : Mu → Hp → List V → List W → Prop := fun μ H v w => VrA K μ H v w
end Fs
set_option maxHeartbeats 4000000
/-! tuples that the program makes: their objects are known to have no dict -/
namespace Tx
open PySem PySem.Spec PyProof.Rows L2 Fs
section
variable {X : Cx} {pins : List (Addr × Obj)} {σ : L2.St} {H : Hp} {s : Shared} {xs : List V}
/-- a new tuple, its object known -/
theorem laidD {us : Array Value} (I : Inv X pins σ H s) (z : xs.length ≤ sizeLine) (r : Vals xs us.toList) :
    Inv X pins σ (upd H s.heap.objs.size (.frz { cls := .type "tuple", data := .seq us } (.tup xs))) { s with heap := s.heap.push { cls := .type "tuple", data := .seq us } } :=
  have new : (s.heap.push { cls := .type "tuple", data := .seq us }).get? s.heap.objs.size = some { cls := .type "tuple", data := .seq us } := Heap.get?_push_size _ rfl
  I.laid (fun _ _ => Heap.get?_push_of_some _) (Nat.le_refl s.heap.objs.size) ⟨new, z, us.toList, r, _, new, rfl, 0, by rw [Array.toArray_toList]⟩
/-- what stands at a fresh place -/
theorem newD {us : Array Value} {Q : VK} (I : Inv X pins σ H s) (z : xs.length ≤ sizeLine) (r : Vals xs us.toList) (q : ∀ p o, H p = none → o.dict = none → Q (.ref p) (upd H p (.frz o (.tup xs)))) :
    EP X pins σ Q (.ref s.heap.objs.size) { s with heap := s.heap.push { cls := .type "tuple", data := .seq us } } :=
  ⟨.ref s.heap.objs.size, _, laidD I z r, rfl, q s.heap.objs.size { cls := .type "tuple", data := .seq us } (I.hok.fresh (Nat.le_refl _)) rfl⟩
theorem noDict {a : Addr} (I : Inv X pins σ H s) (h : SqD X.K H a xs) : s.TypeIs (.ref a) "tuple" ∧ ∃ ob, s.heap.get? a = some ob ∧ ob.dict = none := by
  rcases h with ⟨o, h, hd⟩ | ⟨o, _, _, h1, h2, hd, _⟩
  · obtain ⟨e, _, _, _, o', e', hc, _⟩ := I.hok a _ h
    cases e.symm.trans e'
    exact ⟨⟨o, e, hc⟩, o, e, hd⟩
  · have e := I.kIn a o h1
    exact ⟨⟨o, e, h2⟩, o, e, hd⟩
end
def tTupD (t : TA) : TE := fun σ H Q => t σ H fun xs H1 => xs.length ≤ sizeLine ∧ ∀ p o, H1 p = none → o.dict = none → Q (.ref p) (upd H1 p (.frz o (.tup xs)))
section
variable {X : Cx} {es : List Expr} {t : TA} {pos : Pos}
theorem pe_tupD {x1} (h : PA X es t) : PE X (.Tuple es x1 pos) (tTupD t) := ⟨fun pins s σ H Q I hq => wpAny_Tuple_spliced (thn (h.run pos pins s σ H _ I hq) fun us _ ⟨xs, _, J, r, small, k⟩ =>
  ⟨Nat.le_trans (Nat.le_of_eq r.length.symm) small, newD (us := us.toArray) J small (by simpa using r) k⟩)⟩
/-- the plain form of a method's call: few arguments, none starred, on one line -/
structure Plain (X : Cx) (o e : Expr) (es : List Expr) (name : Str) (apos cpos : Pos) : Prop where
  base : attributeBase o name X.env (eval o X.env) = eval o X.env
  star : starEach (e :: es) X.env = (false, eval e X.env) :: starEach es X.env
  rest : (backTo cpos (starEach es X.env)).any (·.1) = false
  all1 : (backTo cpos (starEach (e :: es) X.env)).all (fun x => !x.1) = true
  all2 : (backToKw cpos (keywordEach [] X.env)).all (fun x => x.1.isSome) = true
  less : (e :: es).length < 30
  line : apos.endLine = cpos.line
/-- o.m(e, ..), o a tuple -/
theorem pe_bmT {o e : Expr} {es : List Expr} {name : Str} {id : String} {apos cpos : Pos} {r : V → List V → Hp → VK → Prop} {to : TE} (slot : Slot "tuple" name id) (hty : typeOf (.builtin id) = pure (.type "method_descriptor")) (hm : MtR X id r) (ho : PE X o to) (ha : PA X (e :: es) t)
    (F : Plain X o e es name apos cpos := by exact ⟨rfl, rfl, rfl, rfl, rfl, by decide, rfl⟩) :
    PE X (.Call (.Attribute o name apos) (e :: es) [] cpos) (fun σ H Q => to σ H fun x H1 => ∃ a xs, x = .ref a ∧ SqD X.K H1 a xs ∧ t σ H1 fun vs H2 => r x vs H2 Q) :=
  ⟨fun pins s σ H Q I h => wpAny_Call_method_late F.base (by rw [F.all1, F.all2]; simpa using F.less) (by rw [F.line]; exact beq_self_eq_true _) rfl (thn (ho.run pins s σ H _ I h) fun v s1 ⟨x, H1, I1, r1, a, xs, ex, hd, q1⟩ => by
    cases ex
    cases (r1 : v = Value.ref a)
    obtain ⟨tp, nd⟩ := noDict I1 hd
    refine ⟨"tuple", id, PySem.F.plainAttrs_tuple, slot, hty, tp, fun b eb => (Value.ref.inj eb) ▸ nd, ?_⟩
    have args := ha.run cpos pins s1 σ H1 _ I1 q1
    rw [F.star] at args ⊢
    have none_starred : (backTo cpos ((false, eval e X.env) :: starEach es X.env)).any (·.1) = false := (Bool.false_or _).trans F.rest
    exact Calls.callWith_builtin none_starred (Calls.evalArgs_plain (thn args fun us s2 ⟨vs, H2, I2, r2, q2⟩ => hm pins s2 σ H2 (.ref a) vs (.ref a) us Q I2 rfl r2 q2)))⟩
end
section
variable {X : Cx}
def rCatD (K : PySem.W.Frag) : R2 := fun x y H Q => ∃ a b xs ys, x = .ref a ∧ y = .ref b ∧ SqT K H a xs ∧ SqT K H b ys ∧ xs.length + ys.length ≤ sizeLine ∧
  (xs = [] → Q (.ref b) H) ∧ (xs ≠ [] → ys = [] → Q (.ref a) H) ∧ (xs ≠ [] → ys ≠ [] → ∀ p o, H p = none → o.dict = none → Q (.ref p) (upd H p (.frz o (.tup (xs ++ ys)))))
theorem op_catD : OpR X (binaryOp .Add) (rCatD X.K) := fun pins s σ H x y v u Q I rx ry ⟨a, b, xs, ys, ex, ey, ha, hb, hz, q0, q1, q2⟩ => by
  rcases Classical.em (xs = []) with hx | hx
  · exact op_catA pins s σ H x y v u Q I rx ry ⟨a, b, xs, ys, ex, ey, ha, hb, hz, q0, q1, (absurd hx ·)⟩
  · subst ex
    subst ey
    cases rx
    cases ry
    obtain ⟨_, r1, p1, _⟩ := I.tuple ha
    obtain ⟨_, r2, p2, _⟩ := I.tuple hb
    exact HT.cat_tup p1 p2 (hx ∘ r1.nil_iff.mp) (fun z => ⟨.ref a, H, I, rfl, q1 hx (r2.nil_iff.mp z)⟩) (fun z => newD I (List.length_append ▸ hz) (by simpa using r1.append r2) (q2 hx (z ∘ r2.nil_iff.mpr))) (r1.length ▸ r2.length ▸ hz)
def rSlD (K : PySem.W.Frag) : V → Option Int → Option Int → Hp → VK → Prop := fun x lo hi H Q => ∃ a xs, x = .ref a ∧ SqT K H a xs ∧
  (HT.sIx xs.length 0 lo = 0 ∧ HT.sIx xs.length xs.length hi = xs.length → Q (.ref a) H) ∧ (¬ (HT.sIx xs.length 0 lo = 0 ∧ HT.sIx xs.length xs.length hi = xs.length) → ∀ p o, H p = none → o.dict = none → Q (.ref p) (upd H p (.frz o (.tup (cutV xs lo hi)))))
theorem sl_tupD : SlR X (rSlD X.K) := fun pins s σ H x v vl vu lo hi sl Q I rx hs pl pu ⟨a, xs, ex, hx, q1, q2⟩ => by
  rcases Classical.em (HT.sIx xs.length 0 lo = 0 ∧ HT.sIx xs.length xs.length hi = xs.length) with hw | hw
  · exact sl_tupA pins s σ H x v vl vu lo hi sl Q I rx hs pl pu ⟨a, xs, ex, hx, q1, (absurd hw ·)⟩
  · subst ex
    cases rx
    obtain ⟨its, r, ht, short⟩ := I.tuple hx
    have same : xs.length = its.toArray.size := r.length.trans (List.size_toArray ..).symm
    have cut := newD (us := (its.toArray.toList.drop (HT.sIx xs.length 0 lo) |>.take (HT.sIx xs.length xs.length hi - HT.sIx xs.length 0 lo)).toArray) I (Nat.le_trans (cutV_length xs lo hi) short)
      (by unfold cutV; simpa using (r.drop (HT.sIx xs.length 0 lo)).take (HT.sIx xs.length xs.length hi - HT.sIx xs.length 0 lo)) (q2 hw)
    refine ⟨"tuple", _, PyProof.Rows.slot_tuple_getitem.lookup, ht.typeIs, HT.getItem_tuple_cut ht hs pl pu (same ▸ hw) ?_ (same ▸ short)⟩
    rw [← same]
    simpa using cut
theorem call_tupleD : CallR X (.type "tuple") (fun xs H Q => ∃ p ys, xs = [.ref p] ∧ ((SqL X.K H p ys ∧ ∀ l o, H l = none → o.dict = none → Q (.ref l) (upd H l (.frz o (.tup ys)))) ∨ (SqT X.K H p ys ∧ Q (.ref p) H))) := fun pins s σ H xs us Q I r ⟨p, ys, ex, h⟩ => by
  subst ex
  obtain ⟨_, rfl, rx⟩ := vals1 r
  cases rx
  cases h with
  | inl h =>
    obtain ⟨its, r', pl, hz⟩ := I.list h.1
    refine call_tuple_list pl.isList (fun h' kp => newD (I.kept (t' := s.toks) kp) hz (by simpa using r') h.2) ?_
    have := r'.length
    simp only [List.size_toArray]
    omega
  | inr h =>
    obtain ⟨_, _, pl, _⟩ := I.tuple h.1
    exact call_tuple_same pl ⟨.ref p, H, I, rfl, h.2⟩
end
end Tx
set_option maxHeartbeats 4000000
namespace Fs
open PySem L2

/-! ### judgements -/
section
end
/-- what is wanted of an exception: its class, its dict, the slots, the heap -/
abbrev WE := Value → Option Addr → St → Hp → Prop
abbrev BdV (X : Cx) (Wx : WE) (σ : St) (μ : Mu) (H : Hp) (r : Res W) (Q : VK) : Prop := Bd X.K X.mg (RlV X.K) (fun c d H' => Wx c d σ H') μ H r Q
abbrev BdB (X : Cx) (Wx : WE) (σ : St) (μ : Mu) (H : Hp) (r : Res Bool) (Q : Bool → Hp → Prop) : Prop := Bd X.K X.mg RlB (fun c d H' => Wx c d σ H') μ H r Q
abbrev BdA (X : Cx) (Wx : WE) (σ : St) (μ : Mu) (H : Hp) (r : Res (List W)) (Q : List V → Hp → Prop) : Prop := Bd X.K X.mg (RlA X.K) (fun c d H' => Wx c d σ H') μ H r Q
def BdS (X : Cx) (Wx : WE) (μ : Mu) (H : Hp) (r : RS) (D : Ends) : Prop :=
  match r with
  | .nx ls S => ∀ σ' H' μ', Gr μ μ' H H' → Sim X.K μ' S H' → LR X.K μ' H' σ' ls → D.nx σ' H'
  | .rt w S => ∀ v H' μ', Gr μ μ' H H' → Sim X.K μ' S H' → Vr X.K μ' H' v w → D.rt v H'
  | .bk ls S => ∀ σ' H' μ', Gr μ μ' H H' → Sim X.K μ' S H' → LR X.K μ' H' σ' ls → D.bk σ' H'
  | .ct ls S => ∀ σ' H' μ', Gr μ μ' H H' → Sim X.K μ' S H' → LR X.K μ' H' σ' ls → D.ct σ' H'
  | .ex e ls S => ∀ σ' c d H' μ', Gr μ μ' H H' → Sim X.K μ' S H' → LR X.K μ' H' σ' ls → XR X.mg X.K μ' H' e c d → Wx c d σ' H'
  | .bad => False
theorem BdS.mono {X : Cx} {Wx : WE} {μ μ1 : Mu} {H H1 : Hp} {D : Ends} (g : Gr μ μ1 H H1) : ∀ {r : RS}, BdS X Wx μ H r D → BdS X Wx μ1 H1 r D
  | .nx ls S, h => fun σ' H' μ' g' => h σ' H' μ' (g.trans g')
  | .rt w S, h => fun v H' μ' g' => h v H' μ' (g.trans g')
  | .bk ls S, h => fun σ' H' μ' g' => h σ' H' μ' (g.trans g')
  | .ct ls S, h => fun σ' H' μ' g' => h σ' H' μ' (g.trans g')
  | .ex e ls S, h => fun σ' c d H' μ' g' => h σ' c d H' μ' (g.trans g')
  | .bad, h => h

structure SE (X : Cx) (Wx : WE) (e : Expr) (m : DE) : Prop where
  ex : ∃ t, PE X e t ∧ ∀ σ H μ ls S Q, LR X.K μ H σ ls → Sim X.K μ S H → BdV X Wx σ μ H (m ls S) Q → t σ H Q
structure ST (X : Cx) (Wx : WE) (e : Expr) (m : DT) : Prop where
  ex : ∃ t, PT X e t ∧ ∀ σ H μ ls S Q, LR X.K μ H σ ls → Sim X.K μ S H → BdB X Wx σ μ H (m ls S) Q → t σ H Q
structure SW (X : Cx) (Wx : WE) (e : Expr) (m : DT) : Prop where
  ex : ∃ t, PW X e t ∧ ∀ σ H μ ls S Q, LR X.K μ H σ ls → Sim X.K μ S H → BdB X Wx σ μ H (m ls S) Q → t σ H Q
structure SA (X : Cx) (Wx : WE) (es : List Expr) (m : DA) : Prop where
  ex : ∃ t, PA X es t ∧ ∀ σ H μ ls S Q, LR X.K μ H σ ls → Sim X.K μ S H → BdA X Wx σ μ H (m ls S) Q → t σ H Q
structure SS (X : Cx) (Wx : WE) (st : Stmt) (m : DS) : Prop where
  ex : ∃ t, PS X st t ∧ ∀ σ H μ ls S D, LR X.K μ H σ ls → Sim X.K μ S H → BdS X Wx μ H (m ls S) D → t D σ H
structure SSs (X : Cx) (Wx : WE) (st : List Stmt) (m : DS) : Prop where
  ex : ∃ t, PSs X st t ∧ ∀ σ H μ ls S D, LR X.K μ H σ ls → Sim X.K μ S H → BdS X Wx μ H (m ls S) D → t D σ H

/-! ### the denotations' combinators -/
def dVar (i : Nat) : DE := fun ls S => match ls[i]? with
  | some (some w) => .ok w S
  | _ => .bad
def dC (w : W) : DE := fun _ S => .ok w S
def dArgs : List DE → DA
  | [] => fun _ S => .ok [] S
  | a :: r => fun ls S => (a ls S).bind fun w S1 => (dArgs r ls S1).bind fun ws S2 => .ok (w :: ws) S2
def dTup (as : List DE) : DE := fun ls S => (dArgs as ls S).bind fun ws S1 => if ws.length ≤ sizeLine then .ok (.tup ws) S1 else .bad
def dLst (as : List DE) : DE := fun ls S => (dArgs as ls S).bind fun ws S1 => if ws.length ≤ sizeLine then .ok (.loc S1.length) (S1 ++ [.lst ws]) else .bad
def dOp (g : W → W → Store → Res W) (a b : DE) : DE := fun ls S => (a ls S).bind fun x S1 => (b ls S1).bind fun y S2 => g x y S2
def dUn (g : W → Store → Res W) (a : DE) : DE := fun ls S => (a ls S).bind fun x S1 => g x S1
/-- a call of a function of values -/
def dCall (f : DF) (as : List DE) : DE := fun ls S => (dArgs as ls S).bind fun ws S1 => f ws S1
def gTruth (w : W) (S : Store) : Res Bool :=
  match w with
  | .non => .ok false S
  | .bl b => .ok b S
  | .int i => .ok (i != 0) S
  | .str x => if x.length ≤ sizeLine then .ok ((x.length : Int) != 0) S else .bad
  | .tup ws => .ok (!ws.isEmpty) S
  | .rol ws => .ok (!ws.isEmpty) S
  | .loc n => match S[n]? with
    | some (.lst ws) => .ok (!ws.isEmpty) S
    | _ => .bad
  | _ => .bad
/-- an expression as a test -/
def dT (a : DE) : DT := fun ls S => (a ls S).bind gTruth
/-- one that gives True or False -/
def dTB (a : DE) : DT := fun ls S => (a ls S).bind fun w S1 => match w with
  | .bl b => .ok b S1
  | _ => .bad
def dNotT (a : DT) : DT := fun ls S => (a ls S).bind fun b S1 => .ok (!b) S1
def dAndT (a b : DT) : DT := fun ls S => (a ls S).bind fun c S1 => if c = true then b ls S1 else .ok false S1
def dOrT (a b : DT) : DT := fun ls S => (a ls S).bind fun c S1 => if c = true then .ok true S1 else b ls S1
/-- and, or, not as values -/
def dAnd (a b : DE) : DE := fun ls S => (a ls S).bind fun x S1 => (gTruth x S1).bind fun c S2 => if c = true then b ls S2 else .ok x S2
def dOr (a b : DE) : DE := fun ls S => (a ls S).bind fun x S1 => (gTruth x S1).bind fun c S2 => if c = true then .ok x S2 else b ls S2
def dNot (a : DE) : DE := fun ls S => (a ls S).bind fun x S1 => (gTruth x S1).bind fun c S2 => .ok (.bl (!c)) S2
def dIfE (c : DT) (a b : DE) : DE := fun ls S => (c ls S).bind fun k S1 => if k = true then a ls S1 else b ls S1
/-- a < b < c -/
def dChain (g g' : W → W → Store → Res W) (a b c : DE) : DE := fun ls S => (a ls S).bind fun x S1 => (b ls S1).bind fun y S2 => (g x y S2).bind fun k S3 => match k with
  | .bl true => (c ls S3).bind fun z S4 => g' y z S4
  | .bl false => .ok (.bl false) S3
  | _ => .bad
def rsOf (ls : Lo) (r : Res W) (k : W → Store → RS) : RS := match r with
  | .ok w S => k w S
  | .exc e S => .ex e ls S
  | .bad => .bad
def rsOfB (ls : Lo) (r : Res Bool) (k : Bool → Store → RS) : RS := match r with
  | .ok w S => k w S
  | .exc e S => .ex e ls S
  | .bad => .bad
def dNx : DS := fun ls S => .nx ls S
def dSeq (a b : DS) : DS := fun ls S => match a ls S with
  | .nx ls1 S1 => b ls1 S1
  | r => r
def dIf (c : DT) (a b : DS) : DS := fun ls S => rsOfB ls (c ls S) fun k S1 => if k = true then a ls S1 else b ls S1
def dSet (i : Nat) (a : DE) : DS := fun ls S => rsOf ls (a ls S) fun w S1 => .nx (ls.set i (some w)) S1
def dExpr (a : DE) : DS := fun ls S => rsOf ls (a ls S) fun _ S1 => .nx ls S1
def dRet (a : DE) : DS := fun ls S => rsOf ls (a ls S) fun w S1 => .rt w S1
def dRetN : DS := fun ls S => .rt .non S
def dBk : DS := fun ls S => .bk ls S
def dCt : DS := fun ls S => .ct ls S
/-- a def by its body -/
def mkF (N : Nat) (np : Nat) (m : DS) : DF := fun ws S => if ws.length = np then (match m (startW N ws) S with
  | .nx _ S' => .ok .non S'
  | .rt w S' => .ok w S'
  | .ex e _ S' => .exc e S'
  | _ => .bad) else .bad

/-! ### rules: names, constants, arguments -/
section
variable {X : Cx} {Wx : WE} {a b c e : Expr} {es : List Expr} {ma mb mc : DE} {pos : Pos}
theorem se_var (i : Nat) {x : Str} (hN : X.N[i]? = some x := by rfl) (hv : Vis X.env.scope x := by first | exact Or.inl rfl | exact Or.inr (Or.inl rfl) | exact Or.inr (Or.inr rfl)) (hd : (x == ("__debug__" : Str)) = false := by decide)
    (hcd : (x == ("__classdict__" : Str)) = false := by decide) : SE X Wx (.Name x pos) (dVar i) :=
  ⟨_, pe_var hN hv hd hcd, fun σ H μ ls S Q hL hS h => by
    unfold dVar at h
    split at h
    · rename_i w e
      obtain ⟨v, h1, h2⟩ := hL.at_ i w e
      exact ⟨v, h1, h v H μ (Gr.refl _ _) hS h2⟩
    · exact False.elim h⟩
theorem se_c {w : W} {v : V} (p : PE X e (tC v)) (r : ∀ μ H, Vr X.K μ H v w) : SE X Wx e (dC w) :=
  ⟨_, p, fun σ H μ ls S Q hL hS h => h v H μ (Gr.refl _ _) hS (r μ H)⟩
theorem se_int {i j} : SE X Wx (.Constant (.int i) j pos) (dC (.int i)) := se_c pe_int fun _ _ => .int i
theorem se_bl {i j} : SE X Wx (.Constant (.bool i) j pos) (dC (.bl i)) := se_c pe_bl fun _ _ => .bl i
theorem se_non {j} : SE X Wx (.Constant .none j pos) (dC .non) := se_c pe_non fun _ _ => .non
theorem se_str {i j} : SE X Wx (.Constant (.str i) j pos) (dC (.str i)) := se_c pe_str fun _ _ => .str i
theorem sa_nil : SA X Wx [] (dArgs []) := ⟨_, pa_nil, fun σ H μ ls S Q hL hS h => h [] H μ (Gr.refl _ _) hS .nil⟩
theorem sa_cons {as : List DE} (ha : SE X Wx e ma) (hr : SA X Wx es (dArgs as)) (hs : starEach (e :: es) X.env = (false, eval e X.env) :: starEach es X.env := by rfl) : SA X Wx (e :: es) (dArgs (ma :: as)) := by
  obtain ⟨t, p, q⟩ := ha.ex
  obtain ⟨t', p', q'⟩ := hr.ex
  refine ⟨_, pa_cons p p' hs, fun σ H μ ls S Q hL hS h => ?_⟩
  refine q σ H μ ls S _ hL hS (Bd.bind (fun w S1 v H1 μ1 g1 s1 r1 h1 => ?_) h)
  refine q' σ H1 μ1 ls S1 _ (hL.mono g1) s1 (Bd.bind (fun ws S2 vs H2 μ2 g2 s2 r2 h2 => ?_) h1)
  exact h2 (v :: vs) H2 μ2 (Gr.refl _ _) s2 (.cons (r1.mono g2) r2)
theorem se_tup {as : List DE} {x1} (ha : SA X Wx es (dArgs as)) : SE X Wx (.Tuple es x1 pos) (dTup as) := by
  obtain ⟨t, p, q⟩ := ha.ex
  refine ⟨_, Tx.pe_tupD p, fun σ H μ ls S Q hL hS h => ?_⟩
  refine q σ H μ ls S _ hL hS (Bd.bind (fun ws S1 vs H1 μ1 g1 s1 r1 h1 => ?_) h)
  by_cases hl : ws.length ≤ sizeLine
  · rw [if_pos hl] at h1
    refine ⟨by rw [r1.length]; exact hl, fun p o hp ho => ?_⟩
    exact h1 (.ref p) _ μ1 (gr_new hp) (s1.new hp) (.tup (.of upd_same ho) (r1.mono (gr_new hp)))
  · rw [if_neg hl] at h1
    exact False.elim h1
theorem se_lst {as : List DE} (ha : SA X Wx es (dArgs as)) : SE X Wx (.List es pos) (dLst as) := by
  obtain ⟨t, p, q⟩ := ha.ex
  refine ⟨_, pe_lst p, fun σ H μ ls S Q hL hS h => ?_⟩
  refine q σ H μ ls S _ hL hS (Bd.bind (fun ws S1 vs H1 μ1 g1 s1 r1 h1 => ?_) h)
  by_cases hl : ws.length ≤ sizeLine
  · rw [if_pos hl] at h1
    refine ⟨by rw [r1.length]; exact hl, fun p hp => ?_⟩
    exact h1 (.ref p) _ _ (gr_cell s1 hp) (s1.alloc hp ⟨_, upd_same, r1.mono (gr_cell s1 hp)⟩) (.loc muAdd_same)
  · rw [if_neg hl] at h1
    exact False.elim h1

/-! ### operators by values -/
/-- what a two-place operation on values is worth -/
structure SO (X : Cx) (f : Value → Value → Sem Value) (g : W → W → Store → Res W) : Prop where
  ex : ∃ r, OpR X f r ∧ ∀ (E : XK) x y H μ S wx wy Q, Sim X.K μ S H → Vr X.K μ H x wx → Vr X.K μ H y wy → Bd X.K X.mg (RlV X.K) E μ H (g wx wy S) Q → r x y H Q
theorem SO.or {f : Value → Value → Sem Value} {g1 g2 g : W → W → Store → Res W} (h1 : SO X f g1) (h2 : SO X f g2) (h : ∀ wx wy S, (g wx wy S = g1 wx wy S) ∨ g wx wy S = g2 wx wy S) : SO X f g := by
  obtain ⟨r1, o1, q1⟩ := h1.ex
  obtain ⟨r2, o2, q2⟩ := h2.ex
  refine ⟨fun x y H Q => r1 x y H Q ∨ r2 x y H Q, fun pins s σ H x y v u Q I rx ry hr => ?_, fun E x y H μ S wx wy Q hS rx ry hb => ?_⟩
  · rcases hr with hr | hr
    · exact o1 pins s σ H x y v u Q I rx ry hr
    · exact o2 pins s σ H x y v u Q I rx ry hr
  · rcases h wx wy S with e | e <;> rw [e] at hb
    · exact .inl (q1 E x y H μ S wx wy Q hS rx ry hb)
    · exact .inr (q2 E x y H μ S wx wy Q hS rx ry hb)
theorem se_opG {f : Value → Value → Sem Value} {g : W → W → Store → Res W} (ho : SO X f g) (ha : SE X Wx a ma) (hb : SE X Wx b mb)
    (mk : ∀ {r : R2} {ta tb : TE}, OpR X f r → PE X a ta → PE X b tb → PE X e (tOp r ta tb)) : SE X Wx e (dOp g ma mb) := by
  obtain ⟨r, o, q⟩ := ho.ex
  obtain ⟨t1, p1, q1⟩ := ha.ex
  obtain ⟨t2, p2, q2⟩ := hb.ex
  refine ⟨_, mk o p1 p2, fun σ H μ ls S Q hL hS h => ?_⟩
  refine q1 σ H μ ls S _ hL hS (Bd.bind (fun w1 S1 v1 H1 μ1 g1 s1 r1 h1 => ?_) h)
  refine q2 σ H1 μ1 ls S1 _ (hL.mono g1) s1 (Bd.bind (fun w2 S2 v2 H2 μ2 g2 s2 r2 h2 => ?_) h1)
  exact q _ v1 v2 H2 μ2 S2 w1 w2 Q s2 (r1.mono g2) r2 h2
theorem se_op {op : Operator} {g : W → W → Store → Res W} (ho : SO X (binaryOp op) g) (ha : SE X Wx a ma) (hb : SE X Wx b mb) : SE X Wx (.BinOp a op b pos) (dOp g ma mb) :=
  se_opG ho ha hb fun o p q => pe_op o p q
theorem se_cmp {op : CmpOp} {g : W → W → Store → Res W} (ho : SO X (compareOp op) g) (ha : SE X Wx a ma) (hb : SE X Wx b mb) (hm : behindInMarks op b = false := by first | exact nomark _ | rfl) : SE X Wx (.Compare a [op] [b] pos) (dOp g ma mb) :=
  se_opG ho ha hb fun o p q => pe_cmpR o p q hm
/-- a comparison as a test -/
theorem st_cmp {op : CmpOp} {g : W → W → Store → Res W} (ho : SO X (compareOp op) g) (ha : SE X Wx a ma) (hb : SE X Wx b mb) (hm : behindInMarks op b = false := by first | exact nomark _ | rfl) : ST X Wx (.Compare a [op] [b] pos) (dTB (dOp g ma mb)) := by
  obtain ⟨r, o, q⟩ := ho.ex
  obtain ⟨t1, p1, q1⟩ := ha.ex
  obtain ⟨t2, p2, q2⟩ := hb.ex
  refine ⟨_, pt_cmpR o p1 p2 hm, fun σ H μ ls S Q hL hS h => ?_⟩
  have h' : BdB X Wx σ μ H ((ma ls S).bind fun x S1 => (mb ls S1).bind fun y S2 => (g x y S2).bind fun w S3 => match w with
    | .bl b => .ok b S3
    | _ => .bad) Q := by
    unfold dTB dOp at h
    cases e1 : ma ls S with
    | ok x S1 =>
      rw [e1] at h
      simp only [Res.bind] at h ⊢
      cases e2 : mb ls S1 with
      | ok y S2 =>
        rw [e2] at h
        exact h
      | exc e S => rw [e2] at h; exact h
      | bad => rw [e2] at h; exact h
    | exc e S => rw [e1] at h; exact h
    | bad => rw [e1] at h; exact h
  refine q1 σ H μ ls S _ hL hS (Bd.bind (fun w1 S1 v1 H1 μ1 g1 s1 r1 h1 => ?_) h')
  refine q2 σ H1 μ1 ls S1 _ (hL.mono g1) s1 (Bd.bind (fun w2 S2 v2 H2 μ2 g2 s2 r2 h2 => ?_) h1)
  refine q _ v1 v2 H2 μ2 S2 w1 w2 _ s2 (r1.mono g2) r2 (Bd.bind (fun w3 S3 v3 H3 μ3 g3 s3 r3 h3 => ?_) h2)
  cases r3 with
  | bl k => exact ⟨k, rfl, h3 k H3 μ3 (Gr.refl _ _) s3 rfl⟩
  | _ => exact False.elim h3
end
end Fs
set_option maxHeartbeats 4000000
namespace Fs
open PySem L2

/-! ### sequences -/
def lstW (S : Store) : W → Option (List W)
  | .rol ws => some ws
  | .loc n => match S[n]? with
    | some (.lst ws) => some ws
    | _ => none
  | _ => none
def seqW (S : Store) : W → Option (List W)
  | .tup ws => some ws
  | w => lstW S w
section
variable {K : PySem.W.Frag} {μ : Mu} {H : Hp} {S : Store}
theorem Sim.cellL (s : Sim K μ S H) {n : Nat} {ws : List W} {v : V} (h : S[n]? = some (.lst ws)) (r : Vr K μ H v (.loc n)) : ∃ a xs, v = .ref a ∧ μ n = some a ∧ H a = some (.lst xs) ∧ VrA K μ H xs ws := by
  cases r with
  | loc h1 =>
    obtain ⟨a, h2, xs, h3, h4⟩ := s.cell n _ h
    rw [h1] at h2
    cases h2
    exact ⟨_, xs, rfl, h1, h3, h4⟩
theorem lst_of (s : Sim K μ S H) {w : W} {ws : List W} {v : V} (h : lstW S w = some ws) (r : Vr K μ H v w) : ∃ a xs, v = .ref a ∧ SqL K H a xs ∧ VrA K μ H xs ws := by
  cases r with
  | rol h1 h2 =>
    cases h
    exact ⟨_, _, rfl, h1.seq, h2⟩
  | @loc n a h1 =>
    have h' : (match S[n]? with
      | some (.lst ws) => some ws
      | _ => none) = some ws := h
    split at h'
    · rename_i ws' e
      cases h'
      obtain ⟨a', xs, e1, _, e2, e3⟩ := s.cellL e (.loc h1)
      exact ⟨a', xs, e1, .of e2, e3⟩
    · cases h'
  | _ => exact absurd (show (none : Option (List W)) = some ws from h) (by simp)
theorem seq_of (s : Sim K μ S H) {w : W} {ws : List W} {v : V} (h : seqW S w = some ws) (r : Vr K μ H v w) : ∃ a xs, v = .ref a ∧ (SqL K H a xs ∨ SqT K H a xs) ∧ VrA K μ H xs ws := by
  cases r with
  | tup h1 h2 =>
    cases h
    exact ⟨_, _, rfl, .inr h1.t, h2⟩
  | rol h1 h2 =>
    obtain ⟨a, xs, e, q, r⟩ := lst_of s (w := .rol _) h (.rol h1 h2)
    exact ⟨a, xs, e, .inl q, r⟩
  | loc h1 =>
    obtain ⟨a, xs, e, q, r⟩ := lst_of s (w := .loc _) h (.loc h1)
    exact ⟨a, xs, e, .inl q, r⟩
  | _ => exact absurd (show (none : Option (List W)) = some ws from h) (by simp)
theorem VrA.atI {ws : List W} {xs : List V} (h : VrA K μ H xs ws) {i : Int} {w : W} (e : L2.atI ws i = some w) : ∃ v, L2.atI xs i = some v ∧ Vr K μ H v w := by
  unfold L2.atI at e ⊢
  rw [h.length]
  cases q : ixN ws.length i with
  | none => simp [q] at e
  | some j =>
    rw [q] at e
    exact h.get e
end

/-! ### arithmetic -/
def gAdd (x y : W) (S : Store) : Res W := match x, y with
  | .int i, .int j => .ok (.int (i + j)) S
  | .str a, .str b => if a.length + b.length ≤ sizeLine then .ok (.str (a ++ b)) S else .bad
  | .tup a, .tup b => if a.length + b.length ≤ sizeLine then .ok (.tup (a ++ b)) S else .bad
  | .loc n, .loc m => match S[n]?, S[m]? with
    | some (.lst a), some (.lst b) => if a.length + b.length ≤ sizeLine then .ok (.loc S.length) (S ++ [.lst (a ++ b)]) else .bad
    | _, _ => .bad
  | _, _ => .bad
def gSub (x y : W) (S : Store) : Res W := match x, y with
  | .int i, .int j => .ok (.int (i - j)) S
  | _, _ => .bad
def gMul (x y : W) (S : Store) : Res W := match x, y with
  | .int i, .int j => if (-(2 ^ 64) < i ∧ i < 2 ^ 64) ∨ (-(2 ^ 64) < j ∧ j < 2 ^ 64) then .ok (.int (i * j)) S else if i.natAbs.log2 + j.natAbs.log2 < 1000000 then .ok (.int (i * j)) S else .bad
  | _, _ => .bad
def gDiv (x y : W) (S : Store) : Res W := match x, y with
  | .int i, .int j => if 0 < j ∧ j.natAbs.log2 < 9000 then .ok (.int (i / j)) S else .bad
  | _, _ => .bad
def gMod (x y : W) (S : Store) : Res W := match x, y with
  | .int i, .int j => if 0 < j then .ok (.int (i % j)) S else .bad
  | _, _ => .bad
def gPow (x y : W) (S : Store) : Res W := match x, y with
  | .int i, .int j => if 0 ≤ j ∧ j ≤ 1000000 ∧ i.natAbs < 2 ^ 64 then .ok (.int (i ^ j.toNat)) S else .bad
  | _, _ => .bad
section
variable {X : Cx}
theorem SO.ii {f : Value → Value → Sem Value} {C : Int → Int → Prop} {g : Int → Int → W} {g' : Int → Int → V} {G : W → W → Store → Res W} (o : OpR X f (rI C g')) (hg : ∀ i j μ H, Vr X.K μ H (g' i j) (g i j))
    (h : ∀ x y S, (∃ i j, x = .int i ∧ y = .int j ∧ C i j ∧ G x y S = .ok (g i j) S) ∨ G x y S = .bad) : SO X f G := by
  refine ⟨_, o, fun E x y H μ S wx wy Q hS rx ry hb => ?_⟩
  rcases h wx wy S with ⟨i, j, rfl, rfl, c, e⟩ | e <;> rw [e] at hb
  · cases rx
    cases ry
    exact ⟨i, j, rfl, rfl, c, hb _ H μ (Gr.refl _ _) hS (hg i j μ H)⟩
  · exact False.elim hb
theorem rI0_of {f : Value → Value → Sem Value} {g' : Int → Int → V} (o : OpR X f (rI0 g')) : OpR X f (rI (fun _ _ => True) g') := by
  intro pins s σ H x y v u Q I rx ry h
  obtain ⟨i, j, e1, e2, _, q⟩ := h
  exact o pins s σ H x y v u Q I rx ry ⟨i, j, e1, e2, q⟩
def gAddI (x y : W) (S : Store) : Res W := match x, y with
  | .int i, .int j => .ok (.int (i + j)) S
  | _, _ => .bad
def gAddS (x y : W) (S : Store) : Res W := match x, y with
  | .str a, .str b => if a.length + b.length ≤ sizeLine then .ok (.str (a ++ b)) S else .bad
  | _, _ => .bad
def gAddT (x y : W) (S : Store) : Res W := match x, y with
  | .tup a, .tup b => if a.length + b.length ≤ sizeLine then .ok (.tup (a ++ b)) S else .bad
  | _, _ => .bad
def gAddL (x y : W) (S : Store) : Res W := match x, y with
  | .loc n, .loc m => match S[n]?, S[m]? with
    | some (.lst a), some (.lst b) => if a.length + b.length ≤ sizeLine then .ok (.loc S.length) (S ++ [.lst (a ++ b)]) else .bad
    | _, _ => .bad
  | _, _ => .bad
theorem so_addI : SO X (binaryOp .Add) gAddI := SO.ii (g := fun i j => .int (i + j)) (rI0_of op_add) (fun _ _ _ _ => .int _) fun x y S => by
  unfold gAddI
  split
  · exact .inl ⟨_, _, rfl, rfl, trivial, rfl⟩
  · exact .inr rfl
theorem so_addS : SO X (binaryOp .Add) gAddS := ⟨_, op_add_str, fun E x y H μ S wx wy Q hS rx ry hb => by
  unfold gAddS at hb
  split at hb
  · cases rx
    cases ry
    split at hb
    · rename_i h
      exact ⟨_, _, rfl, rfl, h, hb _ H μ (Gr.refl _ _) hS (.str _)⟩
    · exact False.elim hb
  · exact False.elim hb⟩
theorem so_addT : SO X (binaryOp .Add) gAddT := ⟨_, Tx.op_catD, fun E x y H μ S wx wy Q hS rx ry hb => by
  unfold gAddT at hb
  split at hb
  · rename_i a b
    cases rx with
    | @tup p xs _ h1 h2 =>
    cases ry with
    | @tup q ys _ h3 h4 =>
    split at hb
    · rename_i h
      refine ⟨_, _, _, _, rfl, rfl, h1.t, h3.t, by rw [h2.length, h4.length]; exact h, fun e => ?_, fun _ e => ?_, fun _ _ p o hp ho => ?_⟩
      · subst e
        cases h2
        exact hb _ H μ (Gr.refl _ _) hS (.tup h3 (by simpa using h4))
      · subst e
        cases h4
        exact hb _ H μ (Gr.refl _ _) hS (.tup h1 (by simpa using h2))
      · exact hb (.ref p) _ μ (gr_new hp) (hS.new hp) (.tup (.of upd_same ho) ((h2.append h4).mono (gr_new hp)))
    · exact False.elim hb
  · exact False.elim hb⟩
theorem so_addL : SO X (binaryOp .Add) gAddL := ⟨_, op_cat, fun E x y H μ S wx wy Q hS rx ry hb => by
  unfold gAddL at hb
  split at hb
  · rename_i n m
    split at hb
    · rename_i a b e1 e2
      split at hb
      · rename_i h
        obtain ⟨p, xs, rfl, _, h1, h2⟩ := hS.cellL e1 rx
        obtain ⟨q, ys, rfl, _, h3, h4⟩ := hS.cellL e2 ry
        refine ⟨_, _, _, _, rfl, rfl, h1, h3, by rw [h2.length, h4.length]; exact h, fun p hp => ?_⟩
        exact hb (.ref p) _ _ (gr_cell hS hp) (hS.alloc hp ⟨_, upd_same, (h2.append h4).mono (gr_cell hS hp)⟩) (.loc muAdd_same)
      · exact False.elim hb
    · exact False.elim hb
  · exact False.elim hb⟩
theorem so_add : SO X (binaryOp .Add) gAdd :=
  SO.or (SO.or so_addI so_addS (g := fun x y S => match x, y with | .int i, .int j => .ok (.int (i + j)) S | x, y => gAddS x y S) fun x y S => by
      cases x <;> cases y <;> first | exact .inl rfl | exact .inr rfl)
    (SO.or so_addT so_addL (g := fun x y S => match x, y with | .tup a, .tup b => gAddT (.tup a) (.tup b) S | x, y => gAddL x y S) fun x y S => by
      cases x <;> cases y <;> first | exact .inl rfl | exact .inr rfl) fun x y S => by
    cases x <;> cases y <;> first | exact .inl rfl | exact .inr rfl
theorem so_sub : SO X (binaryOp .Sub) gSub := SO.ii (g := fun i j => .int (i - j)) (rI0_of op_sub) (fun _ _ _ _ => .int _) fun x y S => by
  unfold gSub
  split
  · exact .inl ⟨_, _, rfl, rfl, trivial, rfl⟩
  · exact .inr rfl
theorem so_mul : SO X (binaryOp .Mult) gMul := by
  refine SO.or (g1 := fun x y S => match x, y with
    | .int i, .int j => if (-(2 ^ 64) < i ∧ i < 2 ^ 64) ∨ (-(2 ^ 64) < j ∧ j < 2 ^ 64) then .ok (.int (i * j)) S else .bad
    | _, _ => .bad) (g2 := fun x y S => match x, y with
    | .int i, .int j => if i.natAbs.log2 + j.natAbs.log2 < 1000000 then .ok (.int (i * j)) S else .bad
    | _, _ => .bad)
    (SO.ii (g := fun i j => .int (i * j)) op_mul (fun _ _ _ _ => .int _) fun x y S => ?_) (SO.ii (g := fun i j => .int (i * j)) op_mulW (fun _ _ _ _ => .int _) fun x y S => ?_) fun x y S => ?_
  · try dsimp only
    split
    · split
      · rename_i h
        exact .inl ⟨_, _, rfl, rfl, h, rfl⟩
      · exact .inr rfl
    · exact .inr rfl
  · try dsimp only
    split
    · split
      · rename_i h
        exact .inl ⟨_, _, rfl, rfl, h, rfl⟩
      · exact .inr rfl
    · exact .inr rfl
  · unfold gMul
    try dsimp only
    split
    · split
      · exact .inl rfl
      · exact .inr rfl
    · exact .inl rfl
theorem so_div : SO X (binaryOp .FloorDiv) gDiv := SO.ii (g := fun i j => .int (i / j)) op_fdivW (fun _ _ _ _ => .int _) fun x y S => by
  unfold gDiv
  split
  · split
    · rename_i h
      exact .inl ⟨_, _, rfl, rfl, h, rfl⟩
    · exact .inr rfl
  · exact .inr rfl
theorem so_mod : SO X (binaryOp .Mod) gMod := SO.ii (g := fun i j => .int (i % j)) op_mod (fun _ _ _ _ => .int _) fun x y S => by
  unfold gMod
  split
  · split
    · rename_i h
      exact .inl ⟨_, _, rfl, rfl, h, rfl⟩
    · exact .inr rfl
  · exact .inr rfl
theorem so_pow : SO X (binaryOp .Pow) gPow := SO.ii (g := fun i j => .int (i ^ j.toNat)) op_pow (fun _ _ _ _ => .int _) fun x y S => by
  unfold gPow
  split
  · split
    · rename_i h
      exact .inl ⟨_, _, rfl, rfl, h, rfl⟩
    · exact .inr rfl
  · exact .inr rfl
/-! ### comparisons of ints -/
def gCmp (p : Int → Int → Bool) (x y : W) (S : Store) : Res W := match x, y with
  | .int i, .int j => .ok (.bl (p i j)) S
  | _, _ => .bad
theorem so_cmp {f : Value → Value → Sem Value} {p : Int → Int → Bool} (o : OpR X f (rI0 fun i j => .bl (p i j))) : SO X f (gCmp p) := SO.ii (g := fun i j => .bl (p i j)) (rI0_of o) (fun _ _ _ _ => .bl _) fun x y S => by
  unfold gCmp
  split
  · exact .inl ⟨_, _, rfl, rfl, trivial, rfl⟩
  · exact .inr rfl
abbrev gLt := gCmp fun i j => decide (i < j)
abbrev gLe := gCmp fun i j => decide (i ≤ j)
abbrev gGt := gCmp fun i j => decide (j < i)
abbrev gGe := gCmp fun i j => decide (j ≤ i)
theorem so_lt : SO X (compareOp .Lt) gLt := so_cmp op_lt
theorem so_le : SO X (compareOp .LtE) gLe := so_cmp op_le
theorem so_gt : SO X (compareOp .Gt) gGt := so_cmp op_gt
theorem so_ge : SO X (compareOp .GtE) gGe := so_cmp op_ge
/-! ### is None -/
def gIsN (x y : W) (S : Store) : Res W := match y with
  | .non => .ok (.bl (match x with | .non => true | _ => false)) S
  | _ => .bad
def gNotN (x y : W) (S : Store) : Res W := match y with
  | .non => .ok (.bl (match x with | .non => false | _ => true)) S
  | _ => .bad
theorem so_isN : SO X (compareOp .Is) gIsN := ⟨_, op_isN, fun E x y H μ S wx wy Q hS rx ry hb => by
  unfold gIsN at hb
  split at hb
  · cases ry
    refine ⟨rfl, ?_⟩
    refine hb _ H μ (Gr.refl _ _) hS ?_
    cases rx <;> first | exact .bl true | exact .bl false
  · exact False.elim hb⟩
theorem so_notN : SO X (compareOp .IsNot) gNotN := ⟨_, op_notN, fun E x y H μ S wx wy Q hS rx ry hb => by
  unfold gNotN at hb
  split at hb
  · cases ry
    refine ⟨rfl, ?_⟩
    refine hb _ H μ (Gr.refl _ _) hS ?_
    cases rx <;> first | exact .bl true | exact .bl false
  · exact False.elim hb⟩
end

/-! ### data: equality, in -/
mutual
/-- without lists -/
def toD0 : W → PyData
  | .non => .none
  | .bl b => .bool b
  | .int i => .int i
  | .str x => .str x
  | .tup ws => .tuple (toDA0 ws)
  | _ => .dict []
def toDA0 : List W → List PyData
  | [] => []
  | w :: ws => toD0 w :: toDA0 ws
end
mutual
/-- lists (of data without lists) anywhere -/
def toD (S : Store) : W → PyData
  | .non => .none
  | .bl b => .bool b
  | .int i => .int i
  | .str x => .str x
  | .tup ws => .tuple (toDA S ws)
  | .rol ws => .list (toDA S ws)
  | .loc n => match S[n]? with
    | some (.lst ws) => .list (toDA0 ws)
    | _ => .dict []
  | _ => .dict []
def toDA (S : Store) : List W → List PyData
  | [] => []
  | w :: ws => toD S w :: toDA S ws
end
section
variable {K : PySem.W.Frag} {μ : Mu} {H : Hp} {S : Store}
mutual
theorem dp0_of : ∀ {w : W} {v : V}, Vr K μ H v w → (toD0 w).canLay0 = true → Dp K H v (toD0 w)
  | .non, _, h, _ => by cases h; unfold toD0; exact .non
  | .bl b, _, h, _ => by cases h; unfold toD0; exact .bl b
  | .int b, _, h, _ => by cases h; unfold toD0; exact .int b
  | .str b, _, h, _ => by cases h; unfold toD0; exact .str b
  | .tup ws, _, h, c => by
    cases h with
    | tup h1 h2 =>
      unfold toD0 at c ⊢
      unfold PyData.canLay0 at c
      exact .tup h1.t (dpA0_of h2 c)
  | .rol ws, _, h, c => by unfold toD0 at c; cases c
  | .loc n, _, h, c => by unfold toD0 at c; cases c
  | .ty n, _, h, c => by unfold toD0 at c; cases c
  | .adr n, _, h, c => by unfold toD0 at c; cases c
theorem dpA0_of : ∀ {ws : List W} {vs : List V}, VrA K μ H vs ws → PyData.canLayAll0 (toDA0 ws) = true → DpAll K H vs (toDA0 ws)
  | [], _, h, _ => by cases h; unfold toDA0; exact .nil
  | w :: ws, _, h, c => by
    cases h with
    | cons h1 h2 =>
      unfold toDA0 at c ⊢
      unfold PyData.canLayAll0 at c
      rw [Bool.and_eq_true] at c
      exact .cons (dp0_of h1 c.1) (dpA0_of h2 c.2)
end
mutual
theorem dp_of (s : Sim K μ S H) : ∀ {w : W} {v : V}, Vr K μ H v w → (toD S w).canLay0 = true → Dp K H v (toD S w)
  | .non, _, h, _ => by cases h; unfold toD; exact .non
  | .bl b, _, h, _ => by cases h; unfold toD; exact .bl b
  | .int b, _, h, _ => by cases h; unfold toD; exact .int b
  | .str b, _, h, _ => by cases h; unfold toD; exact .str b
  | .tup ws, _, h, c => by
    cases h with
    | tup h1 h2 =>
      unfold toD at c ⊢
      unfold PyData.canLay0 at c
      exact .tup h1.t (dpA_of s h2 c)
  | .rol ws, _, h, c => by
    cases h with
    | rol h1 h2 =>
      unfold toD at c ⊢
      unfold PyData.canLay0 at c
      exact .lst h1.seq (dpA_of s h2 c)
  | .loc n, _, h, c => by
    unfold toD at c ⊢
    split at c
    · rename_i ws e
      obtain ⟨a, xs, rfl, _, h1, h2⟩ := s.cellL e h
      unfold PyData.canLay0 at c
      exact .lst (.of h1) (dpA0_of h2 c)
    · cases c
  | .ty n, _, h, c => by unfold toD at c; cases c
  | .adr n, _, h, c => by unfold toD at c; cases c
theorem dpA_of (s : Sim K μ S H) : ∀ {ws : List W} {vs : List V}, VrA K μ H vs ws → PyData.canLayAll0 (toDA S ws) = true → DpAll K H vs (toDA S ws)
  | [], _, h, _ => by cases h; unfold toDA; exact .nil
  | w :: ws, _, h, c => by
    cases h with
    | cons h1 h2 =>
      unfold toDA at c ⊢
      unfold PyData.canLayAll0 at c
      rw [Bool.and_eq_true] at c
      exact .cons (dp_of s h1 c.1) (dpA_of s h2 c.2)
end
end
theorem shaped_lay {d : PyData} (h : SeqAt.shaped d = true) : d.canLay0 = true := by
  unfold SeqAt.shaped at h
  rw [Bool.and_eq_true] at h
  exact h.1
def flatW : W → Bool
  | .non => true
  | .bl _ => true
  | .int _ => true
  | .str _ => true
  | _ => false
/-- == of flat values -/
def eqFl : W → W → Bool
  | .non, .non => true
  | .bl a, .bl b => a == b
  | .bl a, .int j => (if a then 1 else 0) == j
  | .int i, .bl b => i == (if b then 1 else 0)
  | .int i, .int j => i == j
  | .str x, .str y => x == y
  | _, _ => false
def gEqB (neg : Bool) (x y : W) (S : Store) : Res W := match x, y with
  | .int i, .int j => .ok (.bl (neg != decide (i = j))) S
  | .str i, .str j => .ok (.bl (neg != decide (i = j))) S
  | .bl i, .bl j => .ok (.bl (neg != decide (i = j))) S
  | x, y => if SeqAt.shaped (toD S x) = true ∧ SeqAt.shaped (toD S y) = true then .ok (.bl (neg != PyData.eqv (toD S x) (toD S y))) S else .bad
abbrev gEq := gEqB false
abbrev gNe := gEqB true
section
variable {X : Cx}
theorem so_eqv {neg : Bool} {op : CmpOp} (h1 : OpR X (compareOp op) (fun x y H Q => scal x y = true ∧ Q (.bl (neg != decide (x = y))) H))
    (h2 : OpR X (compareOp op) fun x y H Q => ∃ d e, Dp X.K H x d ∧ Dp X.K H y e ∧ SeqAt.shaped d = true ∧ SeqAt.shaped e = true ∧ Q (.bl (neg != PyData.eqv d e)) H) : SO X (compareOp op) (gEqB neg) := by
  refine SO.or (g1 := fun x y S => match x, y with
    | .int i, .int j => .ok (.bl (neg != decide (i = j))) S
    | .str i, .str j => .ok (.bl (neg != decide (i = j))) S
    | .bl i, .bl j => .ok (.bl (neg != decide (i = j))) S
    | _, _ => .bad) (g2 := fun x y S => if SeqAt.shaped (toD S x) = true ∧ SeqAt.shaped (toD S y) = true then .ok (.bl (neg != PyData.eqv (toD S x) (toD S y))) S else .bad) ⟨_, h1, ?_⟩ ⟨_, h2, ?_⟩ fun x y S => by
    cases x <;> cases y <;> first | exact .inr rfl | exact .inl rfl
  · intro E x y H μ S wx wy Q hS rx ry hb
    try dsimp only at hb
    split at hb
    · cases rx
      cases ry
      refine ⟨rfl, ?_⟩
      rw [decide_eq_decide.mpr (show (V.int _ = V.int _) ↔ _ from ⟨fun e => V.int.inj e, fun e => by rw [e]⟩)]
      exact hb _ H μ (Gr.refl _ _) hS (.bl _)
    · cases rx
      cases ry
      refine ⟨rfl, ?_⟩
      rw [decide_eq_decide.mpr (show (V.str _ = V.str _) ↔ _ from ⟨fun e => V.str.inj e, fun e => by rw [e]⟩)]
      exact hb _ H μ (Gr.refl _ _) hS (.bl _)
    · cases rx
      cases ry
      refine ⟨rfl, ?_⟩
      rw [decide_eq_decide.mpr (show (V.bl _ = V.bl _) ↔ _ from ⟨fun e => V.bl.inj e, fun e => by rw [e]⟩)]
      exact hb _ H μ (Gr.refl _ _) hS (.bl _)
    · exact False.elim hb
  · intro E x y H μ S wx wy Q hS rx ry hb
    try dsimp only at hb
    split at hb
    · rename_i c
      exact ⟨_, _, dp_of hS rx (shaped_lay c.1), dp_of hS ry (shaped_lay c.2), c.1, c.2, hb _ H μ (Gr.refl _ _) hS (.bl _)⟩
    · exact False.elim hb
theorem false_bne (b : Bool) : (false != b) = b := by cases b <;> rfl
theorem true_bne (b : Bool) : (true != b) = !b := by cases b <;> rfl
theorem so_eq (hu : X.A.units + 64 < cLine) : SO X (compareOp .Eq) gEq :=
  so_eqv (fun pins s σ H x y v u Q I rx ry h => op_eq pins s σ H x y v u Q I rx ry (by simp only [false_bne] at h; exact h)) (fun pins s σ H x y v u Q I rx ry h => op_eqD hu pins s σ H x y v u Q I rx ry (by simp only [false_bne] at h; exact h))
theorem so_ne (hu : X.A.units + 64 < cLine) : SO X (compareOp .NotEq) gNe :=
  so_eqv (fun pins s σ H x y v u Q I rx ry h => op_ne pins s σ H x y v u Q I rx ry (by simp only [true_bne] at h; exact h)) (fun pins s σ H x y v u Q I rx ry h => op_neD hu pins s σ H x y v u Q I rx ry (by simp only [true_bne] at h; exact h))
end
end Fs
set_option maxHeartbeats 4000000
namespace Fs
open PySem L2

/-! ### in, not in -/
def allFlat (ws : List W) : Bool := ws.all flatW
def inFl (x : W) (ws : List W) : Bool := ws.any fun y => eqFl y x
def inD (S : Store) (x : W) (ws : List W) : Bool := ws.any fun y => PyData.eqv (toD S y) (toD S x)
def notLoc : W → Bool
  | .loc _ => false
  | _ => true
def gInB (neg : Bool) (x y : W) (S : Store) : Res W := match seqW S y with
  | some ws => if flatW x = true ∧ allFlat ws = true then .ok (.bl (neg != inFl x ws)) S
    else if SeqAt.shaped (toD S x) = true ∧ SeqAt.shaped (.tuple (toDA S ws)) = true ∧ notLoc y = true then .ok (.bl (neg != inD S x ws)) S else .bad
  | none => .bad
abbrev gIn := gInB false
abbrev gNotIn := gInB true
section
variable {K : PySem.W.Frag} {μ : Mu} {H : Hp} {S : Store}
theorem flat_v {w : W} {v : V} (r : Vr K μ H v w) (f : flatW w = true) : flatV v = true := by
  cases r <;> first | rfl | cases f
theorem flat_vs : ∀ {ws : List W} {vs : List V}, VrA K μ H vs ws → allFlat ws = true → vs.all flatV = true
  | [], _, h, _ => by cases h; rfl
  | w :: ws, _, h, f => by
    cases h with
    | cons h1 h2 =>
      unfold allFlat at f
      simp only [List.all_cons, Bool.and_eq_true] at f ⊢
      exact ⟨flat_v h1 f.1, flat_vs h2 f.2⟩
theorem eq_fl {w w' : W} {v v' : V} (r : Vr K μ H v w) (r' : Vr K μ H v' w') (f : flatW w = true) (f' : flatW w' = true) : eqV v v' = eqFl w w' := by
  cases r <;> first | (cases r' <;> first | rfl | (cases f'; done)) | (cases f; done)
theorem in_fl {x : V} {wx : W} (r : Vr K μ H x wx) (f : flatW wx = true) : ∀ {ws : List W} {vs : List V}, VrA K μ H vs ws → allFlat ws = true → inV x vs = inFl wx ws
  | [], _, h, _ => by cases h; rfl
  | w :: ws, _, h, q => by
    cases h with
    | cons h1 h2 =>
      unfold allFlat at q
      rw [List.all_cons, Bool.and_eq_true] at q
      have ih := in_fl r f h2 q.2
      unfold inV inFl at ih ⊢
      rw [List.any_cons, List.any_cons, ih, eq_fl h1 r q.1 f]
theorem any_toDA (S : Store) (d : PyData) : ∀ ws : List W, ((toDA S ws).any fun z => PyData.eqv z d) = ws.any fun y => PyData.eqv (toD S y) d
  | [] => by unfold toDA; rfl
  | w :: ws => by
    unfold toDA
    rw [List.any_cons, List.any_cons, any_toDA S d ws]
end
section
variable {X : Cx}
def rInT (K : PySem.W.Frag) (neg : Bool) : R2 := fun x y H Q => ∃ d ds, Dp K H x d ∧ Dp K H y (.tuple ds) ∧ SeqAt.shaped d = true ∧ SeqAt.shaped (.tuple ds) = true ∧ Q (.bl (neg != ds.any fun z => PyData.eqv z d)) H
theorem shT {ds : List PyData} (h : SeqAt.shaped (.tuple ds) = true) : SeqAt.shaped (.list ds) = true := by
  unfold SeqAt.shaped at h ⊢
  unfold PyData.canLay0 PyData.depth at h ⊢
  exact h
theorem op_inT (hu : X.A.units + 65 < cLine) : OpR X (compareOp .In) (rInT X.K false) := by
  rintro pins s σ H x y v u Q I rx ry ⟨d, ds, hd, he, sd, se, q⟩
  obtain ⟨⟨as, r1⟩, bs, r2⟩ := And.intro (Dp.reads I d x v hd rx) (Dp.reads I (.tuple ds) y u he ry)
  refine SeqAt.in_tuple_reads r2 r1 (SeqAt.canLay_of_shaped (shT se)) (SeqAt.canLay_of_shaped sd) (PyProof.Rows.room_in_shaped sd hu) ⟨.bl _, H, I, rfl, ?_⟩
  rw [false_bne] at q
  exact q
theorem op_notInT (hu : X.A.units + 65 < cLine) : OpR X (compareOp .NotIn) (rInT X.K true) := by
  rintro pins s σ H x y v u Q I rx ry ⟨d, ds, hd, he, sd, se, q⟩
  obtain ⟨⟨as, r1⟩, bs, r2⟩ := And.intro (Dp.reads I d x v hd rx) (Dp.reads I (.tuple ds) y u he ry)
  refine SeqAt.notIn_tuple_reads r2 r1 (SeqAt.canLay_of_shaped (shT se)) (SeqAt.canLay_of_shaped sd) (PyProof.Rows.room_in_shaped sd hu) ⟨.bl _, H, I, rfl, ?_⟩
  rw [true_bne] at q
  exact q
theorem so_inB {neg : Bool} {op : CmpOp} (h1 : OpR X (compareOp op) (rIn X.K neg)) (h2 : OpR X (compareOp op) (rInT X.K neg)) (h3 : OpR X (compareOp op) (fun x y H Q => ∃ d ds, Dp X.K H x d ∧ Dp X.K H y (.list ds) ∧ SeqAt.shaped d = true ∧ SeqAt.shaped (.list ds) = true ∧ Q (.bl (neg != ds.any fun z => PyData.eqv z d)) H)) : SO X (compareOp op) (gInB neg) := by
  refine ⟨fun x y H Q => rIn X.K neg x y H Q ∨ rInT X.K neg x y H Q ∨ ∃ d ds, Dp X.K H x d ∧ Dp X.K H y (.list ds) ∧ SeqAt.shaped d = true ∧ SeqAt.shaped (.list ds) = true ∧ Q (.bl (neg != ds.any fun z => PyData.eqv z d)) H, fun pins s σ H x y v u Q I rx ry h => ?_, fun E x y H μ S wx wy Q hS rx ry hb => ?_⟩
  · rcases h with h | h | h
    · exact h1 pins s σ H x y v u Q I rx ry h
    · exact h2 pins s σ H x y v u Q I rx ry h
    · exact h3 pins s σ H x y v u Q I rx ry h
  · unfold gInB at hb
    split at hb
    · rename_i ws e
      split at hb
      · rename_i f
        obtain ⟨a, xs, rfl, hq, r⟩ := seq_of hS e ry
        refine .inl ⟨a, xs, rfl, hq, flat_v rx f.1, flat_vs r f.2, ?_⟩
        rw [in_fl rx f.1 r f.2]
        have := hb (.bl (neg != inFl wx ws)) H μ (Gr.refl _ _) hS (.bl _)
        cases neg with
        | true => rw [true_bne] at this; exact this
        | false => rw [false_bne] at this; exact this
      · split at hb
        · rename_i f
          have q := hb (.bl (neg != inD S wx ws)) H μ (Gr.refl _ _) hS (.bl _)
          have eD : inD S wx ws = (toDA S ws).any fun z => PyData.eqv z (toD S wx) := (any_toDA S _ ws).symm
          rw [eD] at q
          have c1 := shaped_lay f.2.1
          unfold PyData.canLay0 at c1
          cases ry with
          | tup a1 a2 =>
            cases e
            exact .inr (.inl ⟨_, _, dp_of hS rx (shaped_lay f.1), .tup a1.t (dpA_of hS a2 c1), f.1, f.2.1, q⟩)
          | rol a1 a2 =>
            cases e
            exact .inr (.inr ⟨_, _, dp_of hS rx (shaped_lay f.1), .lst a1.seq (dpA_of hS a2 c1), f.1, shT f.2.1, q⟩)
          | loc _ => exact absurd f.2.2 (by simp [notLoc])
          | _ => exact absurd (show (none : Option (List W)) = some ws from e) (by simp)
        · exact False.elim hb
    · exact False.elim hb
theorem so_in (hu : X.A.units + 65 < cLine) : SO X (compareOp .In) gIn := so_inB op_in_seq (op_inT hu) fun pins s σ H x y v u Q I rx ry h => op_inD hu pins s σ H x y v u Q I rx ry (by simp only [false_bne] at h; exact h)
theorem so_notIn (hu : X.A.units + 65 < cLine) : SO X (compareOp .NotIn) gNotIn := so_inB op_notIn_seq (op_notInT hu) fun pins s σ H x y v u Q I rx ry h => op_notInD hu pins s σ H x y v u Q I rx ry (by simp only [true_bne] at h; exact h)
end

/-! ### subscripts -/
def gIx (x y : W) (S : Store) : Res W := match x, y with
  | .str z, .int i => if z.length ≤ sizeLine then (match L2.atI z.cps.toList i with
    | some c => .ok (.str ⟨#[c]⟩) S
    | none => .bad) else .bad
  | .tup ws, .int i => match L2.atI ws i with
    | some w => .ok w S
    | none => .bad
  | x, .int i => match lstW S x with
    | some ws => (match L2.atI ws i with
      | some w => .ok w S
      | none => .bad)
    | none => .bad
  | _, _ => .bad
section
variable {X : Cx} {Wx : WE} {a b c e : Expr} {es : List Expr} {ma mb mc : DE} {pos : Pos}
theorem ix_any : IxR X (fun x y H Q => rIxL X.K x y H Q ∨ rIxT X.K x y H Q ∨ rIxS x y H Q) := by
  rintro value slice pins s σ H x y v u Q I rx ry (h | h | h) hs
  · exact ix_list value slice pins s σ H x y v u Q I rx ry h hs
  · exact ix_tup value slice pins s σ H x y v u Q I rx ry h hs
  · exact ix_str value slice pins s σ H x y v u Q I rx ry h hs
theorem se_ix (ha : SE X Wx a ma) (hb : SE X Wx b mb) (hs : PlainIx b := by exact fun _ _ => rfl) : SE X Wx (.Subscript a b pos) (dOp gIx ma mb) := by
  obtain ⟨t1, p1, q1⟩ := ha.ex
  obtain ⟨t2, p2, q2⟩ := hb.ex
  refine ⟨_, pe_ix ix_any p1 p2 hs, fun σ H μ ls S Q hL hS h => ?_⟩
  refine q1 σ H μ ls S _ hL hS (Bd.bind (fun w1 S1 v1 H1 μ1 g1 s1 r1 h1 => ?_) h)
  refine q2 σ H1 μ1 ls S1 _ (hL.mono g1) s1 (Bd.bind (fun w2 S2 v2 H2 μ2 g2 s2 r2 h2 => ?_) h1)
  have r1 := r1.mono g2
  unfold gIx at h2
  split at h2
  · cases r1
    cases r2
    split at h2
    · rename_i hz
      split at h2
      · rename_i c ec
        exact .inr (.inr ⟨_, _, c, rfl, rfl, hz, ec, h2 _ H2 μ2 (Gr.refl _ _) s2 (.str _)⟩)
      · exact False.elim h2
    · exact False.elim h2
  · cases r2
    cases r1 with
    | tup a1 a2 =>
      split at h2
      · rename_i w ew
        obtain ⟨v, e1, e2⟩ := a2.atI ew
        exact .inr (.inl ⟨_, _, _, v, rfl, rfl, a1.t, e1, h2 _ H2 μ2 (Gr.refl _ _) s2 e2⟩)
      · exact False.elim h2
  · cases r2
    split at h2
    · rename_i ws ews
      split at h2
      · rename_i w ew
        obtain ⟨p, xs, rfl, a1, a2⟩ := lst_of s2 ews r1
        obtain ⟨v, e1, e2⟩ := a2.atI ew
        exact .inl ⟨_, _, _, v, rfl, rfl, a1, e1, h2 _ H2 μ2 (Gr.refl _ _) s2 e2⟩
      · exact False.elim h2
    · exact False.elim h2
  · exact False.elim h2

/-! ### truth, and, or, not, if -/
theorem tru_of {K : PySem.W.Frag} {mg : Str → Option Value} {E : XK} {μ : Mu} {H : Hp} {S : Store} {w : W} {v : V} {Q : Bool → Hp → Prop} (s : Sim K μ S H) (r : Vr K μ H v w) (h : Bd K mg RlB E μ H (gTruth w S) Q) : ∃ k, TruV K v H k ∧ Q k H ∧ gTruth w S = .ok k S := by
  have emp : ∀ {xs : List V} {ws : List W}, VrA K μ H xs ws → (!ws.isEmpty) = !xs.isEmpty := fun z => by cases z <;> rfl
  cases r with
  | non => exact ⟨false, rfl, h false H μ (Gr.refl _ _) s rfl, rfl⟩
  | bl b => exact ⟨b, rfl, h b H μ (Gr.refl _ _) s rfl, rfl⟩
  | int i => exact ⟨i != 0, rfl, h _ H μ (Gr.refl _ _) s rfl, rfl⟩
  | str x =>
    unfold gTruth at h ⊢
    dsimp only at h ⊢
    split at h
    · rename_i c
      exact ⟨_, ⟨c, rfl⟩, h _ H μ (Gr.refl _ _) s rfl, by rw [if_pos c]⟩
    · exact False.elim h
  | tup a1 a2 => exact ⟨_, .inr (.inl ⟨_, a1.t, emp a2⟩), h _ H μ (Gr.refl _ _) s rfl, rfl⟩
  | rol a1 a2 => exact ⟨_, .inl ⟨_, a1.seq, emp a2⟩, h _ H μ (Gr.refl _ _) s rfl, rfl⟩
  | @loc n a e =>
    have h' : Bd K mg RlB E μ H (match S[n]? with
      | some (.lst ws) => .ok (!ws.isEmpty) S
      | _ => .bad) Q := h
    have e' : gTruth (.loc n) S = (match S[n]? with
      | some (.lst ws) => .ok (!ws.isEmpty) S
      | _ => .bad) := rfl
    rw [e']
    split at h'
    · rename_i ws ew
      obtain ⟨a, xs, e1, _, e2, e3⟩ := s.cellL ew (.loc e)
      cases e1
      exact ⟨_, .inl ⟨xs, .of e2, emp e3⟩, h' _ H μ (Gr.refl _ _) s rfl, rfl⟩
    · exact False.elim h'
  | ty n => exact False.elim h
  | adr n => exact False.elim h
theorem st_tru (ha : SE X Wx a ma) (he : ∀ whole, isTrue a X.env whole = (do let v ← whole; standAt a.pos; holding [v] (truthy v)) := by intro _; rfl) : ST X Wx a (dT ma) := by
  obtain ⟨t1, p1, q1⟩ := ha.ex
  refine ⟨_, pt_truth p1 he, fun σ H μ ls S Q hL hS h => ?_⟩
  refine q1 σ H μ ls S _ hL hS (Bd.bind (fun w1 S1 v1 H1 μ1 g1 s1 r1 h1 => ?_) h)
  obtain ⟨k, e1, e2, _⟩ := tru_of s1 r1 h1
  exact ⟨k, e1, e2⟩
theorem st_not {m : DT} (ha : ST X Wx a m) : ST X Wx (.UnaryOp .Not a pos) (dNotT m) := by
  obtain ⟨t1, p1, q1⟩ := ha.ex
  refine ⟨_, pt_not p1, fun σ H μ ls S Q hL hS h => ?_⟩
  refine q1 σ H μ ls S _ hL hS (Bd.bind (fun w1 S1 v1 H1 μ1 g1 s1 r1 h1 => ?_) h)
  exact h1 _ H1 μ1 (Gr.refl _ _) s1 (by rw [r1])
theorem ite_bd {α β : Type} {K : PySem.W.Frag} {mg : Str → Option Value} {Rl : Mu → Hp → β → α → Prop} {E : XK} {μ : Mu} {H : Hp} {Q : β → Hp → Prop} {c : Bool} {x y : Res α} {P P' : Prop} (h : Bd K mg Rl E μ H (if c = true then x else y) Q)
    (h1 : Bd K mg Rl E μ H x Q → P) (h2 : Bd K mg Rl E μ H y Q → P') : if c = true then P else P' := by
  cases c with
  | true => exact iteT (h1 h)
  | false => exact iteF (h2 h)
theorem st_w {m : DT} (h : SW X Wx e m) : ST X Wx e m := by
  obtain ⟨t, p, q⟩ := h.ex
  exact ⟨t, p.pt, q⟩
theorem sw_and1 {m : DT} (ha : ST X Wx a m) : SW X Wx (.BoolOp .And [a] pos) m := by
  obtain ⟨t, p, q⟩ := ha.ex
  exact ⟨t, pw_and1 p, q⟩
theorem sw_or1 {m : DT} (ha : ST X Wx a m) : SW X Wx (.BoolOp .Or [a] pos) m := by
  obtain ⟨t, p, q⟩ := ha.ex
  exact ⟨t, pw_or1 p, q⟩
theorem sw_and {m1 m2 : DT} {rest : List Expr} (ha : ST X Wx a m1) (hb : SW X Wx (.BoolOp .And (b :: rest) pos) m2) : SW X Wx (.BoolOp .And (a :: b :: rest) pos) (dAndT m1 m2) := by
  obtain ⟨t1, p1, q1⟩ := ha.ex
  obtain ⟨t2, p2, q2⟩ := hb.ex
  refine ⟨_, pw_and p1 p2, fun σ H μ ls S Q hL hS h => ?_⟩
  refine q1 σ H μ ls S _ hL hS (Bd.bind (fun w1 S1 v1 H1 μ1 g1 s1 r1 h1 => ?_) h)
  cases r1
  exact ite_bd h1 (fun z => q2 σ H1 μ1 ls S1 Q (hL.mono g1) s1 z) fun z => z false H1 μ1 (Gr.refl _ _) s1 rfl
theorem sw_or {m1 m2 : DT} {rest : List Expr} (ha : ST X Wx a m1) (hb : SW X Wx (.BoolOp .Or (b :: rest) pos) m2) : SW X Wx (.BoolOp .Or (a :: b :: rest) pos) (dOrT m1 m2) := by
  obtain ⟨t1, p1, q1⟩ := ha.ex
  obtain ⟨t2, p2, q2⟩ := hb.ex
  refine ⟨_, pw_or p1 p2, fun σ H μ ls S Q hL hS h => ?_⟩
  refine q1 σ H μ ls S _ hL hS (Bd.bind (fun w1 S1 v1 H1 μ1 g1 s1 r1 h1 => ?_) h)
  cases r1
  exact ite_bd h1 (fun z => z true H1 μ1 (Gr.refl _ _) s1 rfl) fun z => q2 σ H1 μ1 ls S1 Q (hL.mono g1) s1 z
theorem se_one {op} (ha : SE X Wx a ma) : SE X Wx (.BoolOp op [a] pos) ma := by
  obtain ⟨t, p, q⟩ := ha.ex
  exact ⟨t, pe_one p, q⟩
theorem bd_tru {K : PySem.W.Frag} {mg : Str → Option Value} {E : XK} {μ : Mu} {H : Hp} {S : Store} {w : W} {v : V} {Q : VK} {f : Bool → Store → Res W} (s : Sim K μ S H) (r : Vr K μ H v w) (h : Bd K mg (RlV K) E μ H ((gTruth w S).bind f) Q) :
    ∃ k, TruV K v H k ∧ Bd K mg (RlV K) E μ H (f k S) Q := by
  cases e : gTruth w S with
  | bad => rw [e] at h; exact False.elim h
  | exc x S' =>
    exfalso
    unfold gTruth at e
    split at e <;> (try split at e) <;> cases e
  | ok k S' =>
    rw [e] at h
    obtain ⟨k', e1, _, e2⟩ := tru_of (mg := mg) (E := E) (Q := fun _ _ => True) s r (by rw [e]; exact fun _ _ _ _ _ _ => trivial)
    rw [e2] at e
    cases e
    exact ⟨_, e1, h⟩
theorem se_and {rest : List Expr} (ha : SE X Wx a ma) (hb : SE X Wx (.BoolOp .And (b :: rest) pos) mb) : SE X Wx (.BoolOp .And (a :: b :: rest) pos) (dAnd ma mb) := by
  obtain ⟨t1, p1, q1⟩ := ha.ex
  obtain ⟨t2, p2, q2⟩ := hb.ex
  refine ⟨_, pe_andT p1 p2, fun σ H μ ls S Q hL hS h => ?_⟩
  refine q1 σ H μ ls S _ hL hS (Bd.bind (fun w1 S1 v1 H1 μ1 g1 s1 r1 h1 => ?_) h)
  obtain ⟨k, e1, h2⟩ := bd_tru s1 r1 h1
  exact ⟨k, e1, ite_bd h2 (fun z => q2 σ H1 μ1 ls S1 Q (hL.mono g1) s1 z) fun z => z v1 H1 μ1 (Gr.refl _ _) s1 r1⟩
theorem se_or {rest : List Expr} (ha : SE X Wx a ma) (hb : SE X Wx (.BoolOp .Or (b :: rest) pos) mb) : SE X Wx (.BoolOp .Or (a :: b :: rest) pos) (dOr ma mb) := by
  obtain ⟨t1, p1, q1⟩ := ha.ex
  obtain ⟨t2, p2, q2⟩ := hb.ex
  refine ⟨_, pe_orT p1 p2, fun σ H μ ls S Q hL hS h => ?_⟩
  refine q1 σ H μ ls S _ hL hS (Bd.bind (fun w1 S1 v1 H1 μ1 g1 s1 r1 h1 => ?_) h)
  obtain ⟨k, e1, h2⟩ := bd_tru s1 r1 h1
  exact ⟨k, e1, ite_bd h2 (fun z => z v1 H1 μ1 (Gr.refl _ _) s1 r1) fun z => q2 σ H1 μ1 ls S1 Q (hL.mono g1) s1 z⟩
theorem se_not (ha : SE X Wx a ma) : SE X Wx (.UnaryOp .Not a pos) (dNot ma) := by
  obtain ⟨t1, p1, q1⟩ := ha.ex
  refine ⟨_, pe_notT p1, fun σ H μ ls S Q hL hS h => ?_⟩
  refine q1 σ H μ ls S _ hL hS (Bd.bind (fun w1 S1 v1 H1 μ1 g1 s1 r1 h1 => ?_) h)
  obtain ⟨k, e1, h2⟩ := bd_tru s1 r1 h1
  exact ⟨k, e1, h2 _ H1 μ1 (Gr.refl _ _) s1 (.bl _)⟩
theorem se_ifE {m : DT} (hc : ST X Wx c m) (ha : SE X Wx a ma) (hb : SE X Wx b mb) : SE X Wx (.IfExp c a b pos) (dIfE m ma mb) := by
  obtain ⟨t0, p0, q0⟩ := hc.ex
  obtain ⟨t1, p1, q1⟩ := ha.ex
  obtain ⟨t2, p2, q2⟩ := hb.ex
  refine ⟨_, pe_ifExp p0 p1 p2, fun σ H μ ls S Q hL hS h => ?_⟩
  refine q0 σ H μ ls S _ hL hS (Bd.bind (fun w1 S1 v1 H1 μ1 g1 s1 r1 h1 => ?_) h)
  cases r1
  exact ite_bd h1 (fun z => q1 σ H1 μ1 ls S1 Q (hL.mono g1) s1 z) fun z => q2 σ H1 μ1 ls S1 Q (hL.mono g1) s1 z
theorem se_chain {op op' : CmpOp} {g g' : W → W → Store → Res W} (ho : SO X (compareOp op) g) (ho' : SO X (compareOp op') g') (ha : SE X Wx a ma) (hb : SE X Wx b mb) (hc : SE X Wx c mc)
    (hm : lastMarks [op, op'] [b, c] = false := by with_unfolding_all rfl) : SE X Wx (.Compare a [op, op'] [b, c] pos) (dChain g g' ma mb mc) := by
  obtain ⟨r, o, q⟩ := ho.ex
  obtain ⟨r', o', q'⟩ := ho'.ex
  obtain ⟨t1, p1, q1⟩ := ha.ex
  obtain ⟨t2, p2, q2⟩ := hb.ex
  obtain ⟨t3, p3, q3⟩ := hc.ex
  refine ⟨_, pe_chain o o' p1 p2 p3 hm, fun σ H μ ls S Q hL hS h => ?_⟩
  refine q1 σ H μ ls S _ hL hS (Bd.bind (fun w1 S1 v1 H1 μ1 g1 s1 r1 h1 => ?_) h)
  refine q2 σ H1 μ1 ls S1 _ (hL.mono g1) s1 (Bd.bind (fun w2 S2 v2 H2 μ2 g2 s2 r2 h2 => ?_) h1)
  refine q _ v1 v2 H2 μ2 S2 w1 w2 _ s2 (r1.mono g2) r2 (Bd.bind (fun w3 S3 v3 H3 μ3 g3 s3 r3 h3 => ?_) h2)
  cases r3 with
  | bl k =>
    refine ⟨k, rfl, ?_⟩
    cases k with
    | true =>
      refine iteT (q3 σ H3 μ3 ls S3 _ (((hL.mono g1).mono g2).mono g3) s3 (Bd.bind (fun w4 S4 v4 H4 μ4 g4 s4 r4 h4 => ?_) h3))
      exact q' _ v2 v4 H4 μ4 S4 w2 w4 Q s4 ((r2.mono g3).mono g4) r4 h4
    | false => exact iteF (h3 (.bl false) H3 μ3 (Gr.refl _ _) s3 (.bl _))
  | _ => exact False.elim h3

/-! ### built-in calls -/
structure SC (X : Cx) (f : Value) (g : List W → Store → Res W) : Prop where
  ex : ∃ r, CallR X f r ∧ ∀ (E : XK) xs H μ S ws Q, Sim X.K μ S H → VrA X.K μ H xs ws → Bd X.K X.mg (RlV X.K) E μ H (g ws S) Q → r xs H Q
theorem se_callB {id : String} {g : List W → Store → Res W} {x : Str} {p : Pos} {as : List DE} (hc : SC X (.builtin id) g) (hm : X.mg x = none) (hv : bootBuiltins x = some (.builtin id)) (ha : SA X Wx (e :: es) (dArgs as)) (hg : Gl X x := by rfl) (hn : x ≠ "__name__" := by decide) (hdb : (x == ("__debug__" : Str)) = false := by decide)
    (he : starEach (e :: es) X.env = (false, eval e X.env) :: starEach es X.env := by rfl) (hpl : (backTo pos (starEach es X.env)).any (·.1) = false := by rfl) : SE X Wx (.Call (.Name x p) (e :: es) [] pos) (dCall g as) := by
  obtain ⟨r, c, q⟩ := hc.ex
  obtain ⟨t1, p1, q1⟩ := ha.ex
  refine ⟨_, pe_callB c hg hm hv p1 hn hdb he hpl, fun σ H μ ls S Q hL hS h => ?_⟩
  refine q1 σ H μ ls S _ hL hS (Bd.bind (fun w1 S1 v1 H1 μ1 g1 s1 r1 h1 => ?_) h)
  exact q _ v1 H1 μ1 S1 w1 Q s1 r1 h1
theorem se_callTy {id : String} {g : List W → Store → Res W} {x : Str} {p : Pos} {as : List DE} (hc : SC X (.type id) g) (hm : X.mg x = none) (hv : bootBuiltins x = some (.type id)) (ha : SA X Wx (e :: es) (dArgs as)) (hg : Gl X x := by rfl) (hn : x ≠ "__name__" := by decide) (hdb : (x == ("__debug__" : Str)) = false := by decide)
    (he : starEach (e :: es) X.env = (false, eval e X.env) :: starEach es X.env := by rfl) (hpl : (backTo pos (starEach es X.env)).any (·.1) = false := by rfl) : SE X Wx (.Call (.Name x p) (e :: es) [] pos) (dCall g as) := by
  obtain ⟨r, c, q⟩ := hc.ex
  obtain ⟨t1, p1, q1⟩ := ha.ex
  refine ⟨_, pe_callTy c hg hm hv p1 hn hdb he hpl, fun σ H μ ls S Q hL hS h => ?_⟩
  refine q1 σ H μ ls S _ hL hS (Bd.bind (fun w1 S1 v1 H1 μ1 g1 s1 r1 h1 => ?_) h)
  exact q _ v1 H1 μ1 S1 w1 Q s1 r1 h1
/-- a built-in's name as a value (a class for isinstance) -/
theorem se_ty {n : String} {x : Str} (hm : X.mg x = none) (hv : bootBuiltins x = some (.type n)) (hg : Gl X x := by rfl) (hn : x ≠ "__name__" := by decide) (hd : (x == ("__debug__" : Str)) = false := by decide) : SE X Wx (.Name x pos) (dC (.ty n)) :=
  se_c (v := .ty n) (pe_bltn hg hm hv rfl hn hd) fun _ _ => .ty n
/-- a def or class of the module as a value -/
theorem se_adr {A : Addr} {x : Str} (hm : X.mg x = some (.ref A)) (hg : Gl X x := by rfl) (hd : (x == ("__debug__" : Str)) = false := by decide) : SE X Wx (.Name x pos) (dC (.adr A)) :=
  se_c (v := .ref A) (pe_glob hg hm rfl hd) fun _ _ => .adr A
def gLen (ws : List W) (S : Store) : Res W := match ws with
  | [.str x] => if x.length ≤ sizeLine then .ok (.int x.length) S else .bad
  | [w] => match seqW S w with
    | some us => .ok (.int us.length) S
    | none => .bad
  | _ => .bad
theorem sc_len : SC X (.builtin "len") gLen := ⟨_, call_len, fun E xs H μ S ws Q hS rx hb => by
  unfold gLen at hb
  split at hb
  · cases rx with
    | cons r1 r2 =>
      cases r2
      cases r1
      split at hb
      · rename_i c
        exact ⟨_, _, rfl, ⟨c, rfl⟩, hb _ H μ (Gr.refl _ _) hS (.int _)⟩
      · exact False.elim hb
  · cases rx with
    | cons r1 r2 =>
      cases r2
      split at hb
      · rename_i us eu
        obtain ⟨a, ys, rfl, hq, r⟩ := seq_of hS eu r1
        refine ⟨_, us.length, rfl, ?_, hb _ H μ (Gr.refl _ _) hS (.int _)⟩
        rcases hq with hq | hq
        · exact .inl ⟨ys, hq, r.length.symm⟩
        · exact .inr ⟨ys, hq, r.length.symm⟩
      · exact False.elim hb
  · exact False.elim hb⟩
def gAbs (ws : List W) (S : Store) : Res W := match ws with
  | [.int i] => .ok (.int (if i < 0 then -i else i)) S
  | _ => .bad
theorem sc_abs : SC X (.builtin "abs") gAbs := ⟨_, call_abs, fun E xs H μ S ws Q hS rx hb => by
  unfold gAbs at hb
  split at hb
  · cases rx with
    | cons r1 r2 =>
      cases r2
      cases r1
      exact ⟨_, rfl, hb _ H μ (Gr.refl _ _) hS (.int _)⟩
  · exact False.elim hb⟩
def gMax (ws : List W) (S : Store) : Res W := match ws with
  | [.int i, .int j] => .ok (.int (if j > i then j else i)) S
  | _ => .bad
def gMin (ws : List W) (S : Store) : Res W := match ws with
  | [.int i, .int j] => .ok (.int (if j < i then j else i)) S
  | _ => .bad
theorem sc_max (hc : X.calm = true) : SC X (.builtin "max") gMax := ⟨_, call_max2 hc, fun E xs H μ S ws Q hS rx hb => by
  unfold gMax at hb
  split at hb
  · cases rx with
    | cons r1 r2 =>
      cases r2 with
      | cons r2 r3 =>
        cases r3
        cases r1
        cases r2
        exact ⟨_, _, rfl, hb _ H μ (Gr.refl _ _) hS (.int _)⟩
  · exact False.elim hb⟩
theorem sc_min (hc : X.calm = true) : SC X (.builtin "min") gMin := ⟨_, call_min2 hc, fun E xs H μ S ws Q hS rx hb => by
  unfold gMin at hb
  split at hb
  · cases rx with
    | cons r1 r2 =>
      cases r2 with
      | cons r2 r3 =>
        cases r3
        cases r1
        cases r2
        exact ⟨_, _, rfl, hb _ H μ (Gr.refl _ _) hS (.int _)⟩
  · exact False.elim hb⟩
def gInt (ws : List W) (S : Store) : Res W := match ws with
  | [.int i] => .ok (.int i) S
  | [.bl b] => .ok (.int (if b then 1 else 0)) S
  | _ => .bad
theorem sc_int : SC X (.type "int") gInt := ⟨_, call_int1, fun E xs H μ S ws Q hS rx hb => by
  unfold gInt at hb
  split at hb
  · cases rx with
    | cons r1 r2 =>
      cases r2
      cases r1
      exact .inl ⟨_, rfl, hb _ H μ (Gr.refl _ _) hS (.int _)⟩
  · cases rx with
    | cons r1 r2 =>
      cases r2
      cases r1
      exact .inr ⟨_, rfl, hb _ H μ (Gr.refl _ _) hS (.int _)⟩
  · exact False.elim hb⟩
def gList (ws : List W) (S : Store) : Res W := match ws with
  | [w] => match seqW S w with
    | some us => .ok (.loc S.length) (S ++ [.lst us])
    | none => .bad
  | _ => .bad
theorem sc_list : SC X (.type "list") gList := ⟨_, call_list_of, fun E xs H μ S ws Q hS rx hb => by
  unfold gList at hb
  split at hb
  · cases rx with
    | cons r1 r2 =>
      cases r2
      split at hb
      · rename_i us eu
        obtain ⟨a, ys, rfl, hq, r⟩ := seq_of hS eu r1
        refine ⟨_, ys, rfl, hq, fun l hl => ?_⟩
        exact hb (.ref l) _ _ (gr_cell hS hl) (hS.alloc hl ⟨_, upd_same, r.mono (gr_cell hS hl)⟩) (.loc muAdd_same)
      · exact False.elim hb
  · exact False.elim hb⟩
def gTuple (ws : List W) (S : Store) : Res W := match ws with
  | [w] => match seqW S w with
    | some us => .ok (.tup us) S
    | none => .bad
  | _ => .bad
theorem sc_tuple : SC X (.type "tuple") gTuple := ⟨_, Tx.call_tupleD, fun E xs H μ S ws Q hS rx hb => by
  unfold gTuple at hb
  split at hb
  · cases rx with
    | cons r1 r2 =>
      cases r2
      split at hb
      · rename_i us eu
        have key : ∀ {w : W} {v : V}, lstW S w = some us → Vr X.K μ H v w → ∃ p ys, [v] = [V.ref p] ∧ ((SqL X.K H p ys ∧ ∀ l o, H l = none → o.dict = none → Q (.ref l) (upd H l (.frz o (.tup ys)))) ∨ (SqT X.K H p ys ∧ Q (.ref p) H)) := fun el r1 => by
          obtain ⟨a, ys, rfl, hq, r⟩ := lst_of hS el r1
          exact ⟨a, ys, rfl, .inl ⟨hq, fun l o hl ho => hb (.ref l) _ μ (gr_new hl) (hS.new hl) (.tup (.of upd_same ho) (r.mono (gr_new hl)))⟩⟩
        cases r1 with
        | tup h1 h2 => cases eu; exact ⟨_, _, rfl, .inr ⟨h1.t, hb _ H μ (Gr.refl _ _) hS (.tup h1 h2)⟩⟩
        | rol h1 h2 => exact key (w := .rol _) eu (.rol h1 h2)
        | loc h1 => exact key (w := .loc _) eu (.loc h1)
        | non => cases eu
        | bl => cases eu
        | int => cases eu
        | str => cases eu
        | ty => cases eu
        | adr => cases eu
      · exact False.elim hb
  · exact False.elim hb⟩
def intsW : List W → Option (List Int)
  | [] => some []
  | .int i :: r => (intsW r).map (i :: ·)
  | _ => none
theorem ints_of {K : PySem.W.Frag} {μ : Mu} {H : Hp} : ∀ {ws : List W} {vs : List V} {ns : List Int}, VrA K μ H vs ws → intsW ws = some ns → vs = ns.map V.int
  | [], _, ns, h, e => by cases h; cases e; rfl
  | w :: ws, _, ns, h, e => by
    cases h with
    | cons h1 h2 =>
      cases h1 <;> first | (unfold intsW at e; cases e; done) | skip
      rename_i i
      unfold intsW at e
      cases q : intsW ws with
      | none => simp [q] at e
      | some ms =>
        rw [q] at e
        cases e
        rw [ints_of h2 q]
        rfl
def gSum (ws : List W) (S : Store) : Res W := match ws with
  | [w] => match lstW S w with
    | some us => (match intsW us with
      | some ns => .ok (.int ns.sum) S
      | none => .bad)
    | none => .bad
  | _ => .bad
theorem sc_sum (hc : X.calm = true) : SC X (.builtin "sum") gSum := ⟨_, cr_sum hc, fun E xs H μ S ws Q hS rx hb => by
  unfold gSum at hb
  split at hb
  · cases rx with
    | cons r1 r2 =>
      cases r2
      split at hb
      · rename_i us eu
        split at hb
        · rename_i ns en
          obtain ⟨a, ys, rfl, hq, r⟩ := lst_of hS eu r1
          have e := ints_of r en
          subst e
          exact ⟨_, ns, rfl, hq, hb _ H μ (Gr.refl _ _) hS (.int _)⟩
        · exact False.elim hb
      · exact False.elim hb
  · exact False.elim hb⟩
/-! isinstance of a built-in class -/
def tyName : W → Option String
  | .non => some "NoneType"
  | .bl _ => some "bool"
  | .int _ => some "int"
  | .str _ => some "str"
  | .tup _ => some "tuple"
  | .rol _ => some "list"
  | .loc _ => some "list"
  | _ => none
def isiB (t n : String) : Option Bool :=
  if n = "tuple" then some (decide (t = "tuple")) else if n = "str" then some (decide (t = "str")) else if n = "bool" then some (decide (t = "bool")) else if n = "int" then some (decide (t = "int") || decide (t = "bool")) else if n = "list" then some (decide (t = "list")) else none
def gIsi (ws : List W) (S : Store) : Res W := match ws with
  | [w, .ty n] => match tyName w with
    | some t => (match isiB t n with
      | some b => (match w with
        | .loc k => (match S[k]? with
          | some (.lst _) => .ok (.bl b) S
          | _ => .bad)
        | _ => .ok (.bl b) S)
      | none => .bad)
    | none => .bad
  | _ => .bad
theorem isi_kit {t n : String} {b : Bool} (ht : t = "NoneType" ∨ t = "bool" ∨ t = "int" ∨ t = "str" ∨ t = "tuple" ∨ t = "list") (h : isiB t n = some b) : kitB t n = some b := by
  have hn : n = "tuple" ∨ n = "str" ∨ n = "bool" ∨ n = "int" ∨ n = "list" := by
    unfold isiB at h
    split at h
    · exact .inl ‹_›
    · split at h
      · exact .inr (.inl ‹_›)
      · split at h
        · exact .inr (.inr (.inl ‹_›))
        · split at h
          · exact .inr (.inr (.inr (.inl ‹_›)))
          · split at h
            · exact .inr (.inr (.inr (.inr ‹_›)))
            · cases h
  rcases ht with rfl | rfl | rfl | rfl | rfl | rfl <;> rcases hn with rfl | rfl | rfl | rfl | rfl <;> (rw [← h]; decide +kernel)
theorem sc_isi : SC X (.builtin "isinstance") gIsi := ⟨_, call_isi, fun E xs H μ S ws Q hS rx hb => by
  unfold gIsi at hb
  split at hb
  · rename_i w n
    cases rx with
    | cons r1 r2 =>
      cases r2 with
      | cons r2 r3 =>
        cases r3
        cases r2
        split at hb
        · rename_i t et
          split at hb
          · rename_i b eb
            have ht : t = "NoneType" ∨ t = "bool" ∨ t = "int" ∨ t = "str" ∨ t = "tuple" ∨ t = "list" := by
              cases r1 <;> cases et <;> simp
            have hk := kit_ty (K := X.K) (isi_kit ht eb)
            have fin : ∀ {v : V}, TyX X.K H v (.type t) → Q (.bl b) H → rIsi X.K [v, .ty n] H Q := fun ty q => ⟨_, .ty n, .type t, .type n, b, rfl, .ty n, ty, hk, q⟩
            cases r1 with
            | non => cases et; exact fin (.base .non) (hb _ H μ (Gr.refl _ _) hS (.bl _))
            | bl x => cases et; exact fin (.base (.bl x)) (hb _ H μ (Gr.refl _ _) hS (.bl _))
            | int x => cases et; exact fin (.base (.int x)) (hb _ H μ (Gr.refl _ _) hS (.bl _))
            | str x => cases et; exact fin (.base (.str x)) (hb _ H μ (Gr.refl _ _) hS (.bl _))
            | tup a1 a2 =>
              cases et
              refine fin ?_ (hb _ H μ (Gr.refl _ _) hS (.bl _))
              rcases a1 with ⟨o, q, _⟩ | ⟨o, its, m, k1, k2, _⟩
              · exact .fTuple q
              · exact .kTuple k1 k2
            | rol a1 a2 =>
              cases et
              refine fin ?_ (hb _ H μ (Gr.refl _ _) hS (.bl _))
              rcases a1 with ⟨o, q⟩ | ⟨o, its, m, k1, k2, _⟩
              · exact .base (.frz q)
              · exact .kList k1 k2
            | @loc k a h1 =>
              cases et
              dsimp only at hb
              split at hb
              · rename_i us eu
                obtain ⟨a, ys, e1, _, e2, e3⟩ := hS.cellL eu (.loc h1)
                cases e1
                exact fin (.base (.lst e2)) (hb _ H μ (Gr.refl _ _) hS (.bl _))
              · exact False.elim hb
            | ty x => cases et
            | adr x => cases et
          · exact False.elim hb
        · exact False.elim hb
  · exact False.elim hb⟩
end
end Fs
set_option maxHeartbeats 4000000
namespace Fs
open PySem L2

/-! ### statements -/
section
variable {X : Cx} {Wx : WE} {a b c e : Expr} {es : List Expr} {ma mb mc : DE} {pos : Pos} {st : Stmt} {sts : List Stmt}
theorem rs_bd {σ : St} {H : Hp} {μ : Mu} {ls : Lo} {D : Ends} {k : W → Store → RS} {Q : VK} (hL : LR X.K μ H σ ls)
    (f : ∀ w S v H1 μ1, Gr μ μ1 H H1 → Sim X.K μ1 S H1 → Vr X.K μ1 H1 v w → BdS X Wx μ1 H1 (k w S) D → Q v H1) : ∀ {r : Res W}, BdS X Wx μ H (rsOf ls r k) D → BdV X Wx σ μ H r Q
  | .ok w S, h => fun v H1 μ1 g s r => f w S v H1 μ1 g s r (BdS.mono g h)
  | .exc x S, h => fun c d H1 μ1 g s r => h σ c d H1 μ1 g s (hL.mono g) r
  | .bad, h => h
theorem rsB_bd {σ : St} {H : Hp} {μ : Mu} {ls : Lo} {D : Ends} {k : Bool → Store → RS} {Q : Bool → Hp → Prop} (hL : LR X.K μ H σ ls)
    (f : ∀ w S H1 μ1, Gr μ μ1 H H1 → Sim X.K μ1 S H1 → BdS X Wx μ1 H1 (k w S) D → Q w H1) : ∀ {r : Res Bool}, BdS X Wx μ H (rsOfB ls r k) D → BdB X Wx σ μ H r Q
  | .ok w S, h => fun v H1 μ1 g s r => by
    cases r
    exact f w S H1 μ1 g s (BdS.mono g h)
  | .exc x S, h => fun c d H1 μ1 g s r => h σ c d H1 μ1 g s (hL.mono g) r
  | .bad, h => h
theorem ss_nil : SSs X Wx [] dNx := ⟨_, pss_nil, fun σ H μ ls S D hL hS h => h σ H μ (Gr.refl _ _) hS hL⟩
theorem ss_one {m : DS} (h1 : SS X Wx st m) : SSs X Wx [st] m := by
  obtain ⟨t, p, q⟩ := h1.ex
  exact ⟨t, pss_one p, q⟩
theorem ss_cons {m n : DS} (h1 : SS X Wx st m) (h2 : SSs X Wx sts n) : SSs X Wx (st :: sts) (dSeq m n) := by
  obtain ⟨t1, p1, q1⟩ := h1.ex
  obtain ⟨t2, p2, q2⟩ := h2.ex
  refine ⟨_, pss_cons p1 p2, fun σ H μ ls S D hL hS h => ?_⟩
  refine q1 σ H μ ls S _ hL hS ?_
  unfold dSeq at h
  cases e : m ls S with
  | nx ls1 S1 =>
    rw [e] at h
    exact fun σ' H' μ' g s l => q2 σ' H' μ' ls1 S1 D l s (BdS.mono g h)
  | rt w S1 => rw [e] at h; exact h
  | bk ls1 S1 => rw [e] at h; exact h
  | ct ls1 S1 => rw [e] at h; exact h
  | ex x ls1 S1 => rw [e] at h; exact h
  | bad => rw [e] at h; exact h
theorem ss_set {i : Nat} {x : Str} {p : Pos} (hN : X.N.Nodup) (ha : SE X Wx a ma) (hi : X.N[i]? = some x := by rfl) (hx : Loc X.env.scope x := by first | exact Or.inl rfl | exact Or.inr rfl) (hs : swapsWith a (some (.Name x p)) pos.line X.env = pure false := by rfl) (hf : X.fn x = true ∨ X.env.scope.names.lookup x = some .local := by first | exact .inl rfl | exact .inr rfl | assumption) :
    SS X Wx (.Assign [.Name x p] a pos) (dSet i ma) := by
  obtain ⟨t1, p1, q1⟩ := ha.ex
  refine ⟨_, ps_set hN hi hx p1 hs hf, fun σ H μ ls S D hL hS h => ?_⟩
  refine q1 σ H μ ls S _ hL hS (rs_bd hL (fun w S1 v H1 μ1 g s r h1 => ?_) h)
  exact h1 _ H1 μ1 (Gr.refl _ _) s ((hL.mono g).set r)
theorem ss_expr (ha : SE X Wx a ma) (hs : swapsWith a none pos.line X.env = pure false := by rfl) : SS X Wx (.Expr a pos) (dExpr ma) := by
  obtain ⟨t1, p1, q1⟩ := ha.ex
  refine ⟨_, ps_expr p1 hs, fun σ H μ ls S D hL hS h => ?_⟩
  refine q1 σ H μ ls S _ hL hS (rs_bd hL (fun w S1 v H1 μ1 g s r h1 => ?_) h)
  exact h1 σ H1 μ1 (Gr.refl _ _) s (hL.mono g)
theorem ss_ret (ha : SE X Wx a ma) : SS X Wx (.Return (some a) pos) (dRet ma) := by
  obtain ⟨t1, p1, q1⟩ := ha.ex
  refine ⟨_, ps_ret p1, fun σ H μ ls S D hL hS h => ?_⟩
  refine q1 σ H μ ls S _ hL hS (rs_bd hL (fun w S1 v H1 μ1 g s r h1 => ?_) h)
  exact h1 v H1 μ1 (Gr.refl _ _) s r
theorem ss_retN : SS X Wx (.Return none pos) dRetN := ⟨_, ps_retN, fun σ H μ ls S D hL hS h => h .non H μ (Gr.refl _ _) hS .non⟩
theorem ss_pass : SS X Wx (.Pass pos) dNx := ⟨_, ps_pass, fun σ H μ ls S D hL hS h => h σ H μ (Gr.refl _ _) hS hL⟩
theorem ss_bk : SS X Wx (.Break pos) dBk := ⟨_, ps_break, fun σ H μ ls S D hL hS h => h σ H μ (Gr.refl _ _) hS hL⟩
theorem ss_ct : SS X Wx (.Continue pos) dCt := ⟨_, ps_continue, fun σ H μ ls S D hL hS h => h σ H μ (Gr.refl _ _) hS hL⟩
theorem ss_if {m : DT} {m1 m2 : DS} {s1 s2 : List Stmt} (hc : ST X Wx c m) (h1 : SSs X Wx s1 m1) (h2 : SSs X Wx s2 m2) : SS X Wx (.If c s1 s2 pos) (dIf m m1 m2) := by
  obtain ⟨t0, p0, q0⟩ := hc.ex
  obtain ⟨t1, p1, q1⟩ := h1.ex
  obtain ⟨t2, p2, q2⟩ := h2.ex
  refine ⟨_, ps_if p0 p1 p2, fun σ H μ ls S D hL hS h => ?_⟩
  refine q0 σ H μ ls S _ hL hS (rsB_bd hL (fun w S1 H1 μ1 g s h1 => ?_) h)
  cases w with
  | true => exact iteT (q1 σ H1 μ1 ls S1 D (hL.mono g) s h1)
  | false => exact iteF (q2 σ H1 μ1 ls S1 D (hL.mono g) s h1)
/-! xs[i] = e -/
def dSetIx (a b c : DE) : DS := fun ls S => rsOf ls (c ls S) fun w S1 => rsOf ls (a ls S1) fun x S2 => rsOf ls (b ls S2) fun y S3 => match x, y with
  | .loc n, .int i => match S3[n]? with
    | some (.lst ws) => (match ixN ws.length i with
      | some j => .nx ls (S3.set n (.lst (ws.set j w)))
      | none => .bad)
    | _ => .bad
  | _, _ => .bad
theorem ss_setIx {p : Pos} (ha : SE X Wx a ma) (hb : SE X Wx b mb) (hc : SE X Wx c mc)
    (hg : ∀ {to ti : TE}, PE X a to → PE X b ti → PG X (.Subscript a b p) (L2.gSub to ti rSetL) := by exact fun h1 h2 => pg_sub h1 h2 set_list)
    (hs : swapsWithSole [.Subscript a b p] c pos.line X.env = pure false := by rfl) (hw : swappedStores [.Subscript a b p] c X.env = pure none := by rfl)
    (h1 : (assignEach [.Subscript a b p] X.env).map (·.2) = [assign (.Subscript a b p) X.env] := by rfl) : SS X Wx (.Assign [.Subscript a b p] c pos) (dSetIx ma mb mc) := by
  obtain ⟨t1, p1, q1⟩ := ha.ex
  obtain ⟨t2, p2, q2⟩ := hb.ex
  obtain ⟨t3, p3, q3⟩ := hc.ex
  refine ⟨_, ps_asg p3 (hg p1 p2) hs hw h1, fun σ H μ ls S D hL hS h => ?_⟩
  refine q3 σ H μ ls S _ hL hS (rs_bd hL (fun w S1 v H1 μ1 g1 s1 r1 h1 => ?_) h)
  have hL1 := hL.mono g1
  refine q1 σ H1 μ1 ls S1 _ hL1 s1 (rs_bd hL1 (fun x S2 v2 H2 μ2 g2 s2 r2 h2 => ?_) h1)
  have hL2 := hL1.mono g2
  refine q2 σ H2 μ2 ls S2 _ hL2 s2 (rs_bd hL2 (fun y S3 v3 H3 μ3 g3 s3 r3 h3 => ?_) h2)
  split at h3
  · rename_i n i
    split at h3
    · rename_i ws ew
      split at h3
      · rename_i j ej
        obtain ⟨p, xs, rfl, hm, e2, e3⟩ := s3.cellL ew (r2.mono g3)
        cases r3
        refine ⟨p, xs, i, j, rfl, rfl, e2, by rw [e3.length]; exact ej, ?_⟩
        have g := gr_write (u := HO.lst (xs.set j v)) s3 hm
        exact h3 σ _ μ3 g (s3.write hm ⟨_, upd_same, ((e3.mono g).set (((r1.mono g2).mono g3).mono g) j)⟩) ((hL2.mono g3).mono g)
      · exact False.elim h3
    · exact False.elim h3
  · exact False.elim h3
/-! xs.append(e) -/
def gAppend (x w : W) (S : Store) : Res W := match x with
  | .loc n => match S[n]? with
    | some (.lst ws) => if ws.length < sizeLine then .ok .non (S.set n (.lst (ws ++ [w]))) else .bad
    | _ => .bad
  | _ => .bad
def dAppend (a b : DE) : DE := fun ls S => (a ls S).bind fun x S1 => match lstW S1 x with
  | none => .bad
  | some _ => (b ls S1).bind fun w S2 => gAppend x w S2
theorem se_append {apos cpos : Pos} (ha : SE X Wx a ma) (hb : SA X Wx [b] (dArgs [mb]))
    (mk : ∀ {to : TE} {t : TA}, PE X a to → PA X [b] t → PE X (.Call (.Attribute a "append" apos) [b] [] cpos) (tBM X.K "list" rAppend to t) := by exact fun h1 h2 => pe_bm PySem.F.plainAttrs_list PySem.F.slot_list_append PySem.F.type_list_append mt_append h1 h2) :
    SE X Wx (.Call (.Attribute a "append" apos) [b] [] cpos) (dAppend ma mb) := by
  obtain ⟨t1, p1, q1⟩ := ha.ex
  obtain ⟨t2, p2, q2⟩ := hb.ex
  refine ⟨_, mk p1 p2, fun σ H μ ls S Q hL hS h => ?_⟩
  refine q1 σ H μ ls S _ hL hS (Bd.bind (fun x S1 v1 H1 μ1 g1 s1 r1 h1 => ?_) h)
  split at h1
  · exact False.elim h1
  · rename_i us eu
    obtain ⟨p0, xs0, e0, hq, _⟩ := lst_of s1 eu r1
    refine ⟨by rw [e0]; exact .inl ⟨rfl, xs0, hq⟩, ?_⟩
    have key : ∀ {r : Res W}, BdV X Wx σ μ1 H1 (r.bind fun w S2 => gAppend x w S2) Q → BdA X Wx σ μ1 H1 (r.bind fun w S1 => (Res.ok [] S1).bind fun ws S2 => Res.ok (w :: ws) S2) (fun vs H2 => rAppend v1 vs H2 Q) := fun {r} hr => by
      cases r with
      | bad => exact hr
      | exc e S => exact hr
      | ok w S2 =>
        intro vs H2 μ2 g2 s2 r2
        have hr' : BdV X Wx σ μ2 H2 (gAppend x w S2) Q := Bd.mono g2 hr
        cases r2 with
        | @cons v _ _ _ rv rn =>
          cases rn
          unfold gAppend at hr'
          split at hr'
          · rename_i n
            split at hr'
            · rename_i ws ew
              split at hr'
              · rename_i hl
                obtain ⟨p, xs, e1, hm, e2, e3⟩ := s2.cellL ew (r1.mono g2)
                refine ⟨p, xs, _, e1, rfl, e2, by rw [e3.length]; exact hl, ?_⟩
                have g := gr_write (u := HO.lst (xs ++ [v])) s2 hm
                exact hr' .non _ μ2 g (s2.write hm ⟨_, upd_same, (e3.mono g).append (.cons (rv.mono g) .nil)⟩) .non
              · exact False.elim hr'
            · exact False.elim hr'
          · exact False.elim hr'
    exact q2 σ H1 μ1 ls S1 _ (hL.mono g1) s1 (key h1)

/-! ### what a loop walks -/
structure Src where
  items : List W
  stay : Store → Prop
abbrev DI := Lo → Store → Res Src
def Jok (K : PySem.W.Frag) (μ1 : Mu) (H1 : Hp) (J : It) (src : Src) : Prop := ∀ i H μ S, Gr μ1 μ H1 H → Sim K μ S H → src.stay S →
  (src.items.length ≤ i → J.stop i H) ∧ ∀ w, src.items[i]? = some w → J.go i H ∧ ∀ x H', J.yld i H x H' → ∃ μ', Gr μ μ' H H' ∧ Sim K μ' S H' ∧ Vr K μ' H' x w
abbrev RlI (K : PySem.W.Frag) : Mu → Hp → It → Src → Prop := fun μ H J s => Jok K μ H J s
structure SI (X : Cx) (Wx : WE) (tg iter : Expr) (m : DI) : Prop where
  ex : ∃ wi, PI X tg iter wi ∧ ∀ σ H μ ls S (R : It → Hp → Prop), LR X.K μ H σ ls → Sim X.K μ S H → Bd X.K X.mg (RlI X.K) (fun c d H' => Wx c d σ H') μ H (m ls S) R → wi σ H R
def stayOf (w : W) (ws : List W) : Store → Prop := match w with
  | .loc n => fun S => S[n]? = some (.lst ws)
  | _ => fun _ => True
def dSeqI (a : DE) : DI := fun ls S => (a ls S).bind fun w S1 => match seqW S1 w with
  | some ws => .ok ⟨ws, stayOf w ws⟩ S1
  | none => .bad
theorem si_seq {tg : Expr} (ha : SE X Wx a ma) : SI X Wx tg a (dSeqI ma) := by
  obtain ⟨t1, p1, q1⟩ := ha.ex
  refine ⟨fun σ H R => iList X.K t1 σ H R ∨ iTup X.K t1 σ H R, ⟨fun pins s σ H R I h => ?_⟩, fun σ H μ ls S R hL hS h => ?_⟩
  · rcases h with h | h
    · exact (pi_list p1).run pins s σ H R I h
    · exact (pi_tup p1).run pins s σ H R I h
  · have hm : ∀ (P : W → Prop), (∀ w S1, ma ls S = .ok w S1 → P w) → P .non ∨ True := fun _ _ => .inr trivial
    unfold dSeqI at h
    cases e : ma ls S with
    | bad => rw [e] at h; exact False.elim h
    | exc x S1 =>
      rw [e] at h
      exact .inl (q1 σ H μ ls S _ hL hS (by rw [e]; exact h))
    | ok w S1 =>
      rw [e] at h
      dsimp only [Res.bind] at h
      split at h
      · rename_i ws ew
        by_cases ht : ∃ us, w = .tup us
        · obtain ⟨us, rfl⟩ := ht
          cases ew
          refine .inr (q1 σ H μ ls S _ hL hS ?_)
          rw [e]
          intro v H1 μ1 g1 s1 r1
          cases r1 with
          | @tup p xs _ a1 a2 =>
          refine ⟨p, rfl, ⟨xs, a1.t⟩, ?_⟩
          refine h _ H1 μ1 g1 s1 fun i H2 μ2 S2 g2 s2 _ => ⟨fun hi => ⟨xs, g2.sqt a1.t, by rw [a2.length]; exact hi⟩, fun w2 e2 => ?_⟩
          obtain ⟨v2, e3, r3⟩ := (a2.mono g2).get e2
          refine ⟨⟨xs, v2, g2.sqt a1.t, e3⟩, fun x H3 y => ?_⟩
          obtain ⟨rfl, y⟩ := y
          have := y xs (g2.sqt a1.t)
          rw [e3] at this
          cases this
          exact ⟨μ2, Gr.refl _ _, s2, r3⟩
        · have ew' : lstW S1 w = some ws := by
            cases w <;> first | exact ew | exact absurd ⟨_, rfl⟩ ht
          refine .inl (q1 σ H μ ls S _ hL hS ?_)
          rw [e]
          intro v H1 μ1 g1 s1 r1
          obtain ⟨p, xs, rfl, a1, a2⟩ := lst_of s1 ew' r1
          refine ⟨p, rfl, ⟨xs, a1⟩, ?_⟩
          refine h _ H1 μ1 g1 s1 fun i H2 μ2 S2 g2 s2 st => ?_
          have : ∃ ys, SqL X.K H2 p ys ∧ VrA X.K μ2 H2 ys ws := by
            cases r1 with
            | rol b1 b2 =>
              cases ew'
              exact ⟨_, (g2.rol b1).seq, b2.mono g2⟩
            | @loc n _ b1 =>
              have st' : S2[n]? = some (.lst ws) := st
              obtain ⟨p', ys, e1, _, e2, e3⟩ := s2.cellL st' (.loc (g2.mu _ _ b1))
              cases e1
              exact ⟨ys, .of e2, e3⟩
            | _ => exact absurd ew' (by simp [lstW])
          obtain ⟨ys, b1, b2⟩ := this
          refine ⟨fun hi => ⟨ys, b1, by rw [b2.length]; exact hi⟩, fun w2 e2 => ?_⟩
          obtain ⟨v2, e3, r3⟩ := b2.get e2
          refine ⟨⟨ys, v2, b1, e3⟩, fun x H3 y => ?_⟩
          obtain ⟨rfl, y⟩ := y
          have := y ys b1
          rw [e3] at this
          cases this
          exact ⟨μ2, Gr.refl _ _, s2, r3⟩
      · exact False.elim h
def rngW (lo : Int) (n : Nat) : List W := (List.range n).map fun (i : Nat) => W.int (lo + i)
theorem rngW_get {lo : Int} {n i : Nat} {w : W} (h : (rngW lo n)[i]? = some w) : i < n ∧ w = .int (lo + i) := by
  unfold rngW at h
  rw [List.getElem?_map] at h
  by_cases hi : i < n
  · rw [List.getElem?_range hi] at h
    cases h
    exact ⟨hi, rfl⟩
  · rw [List.getElem?_eq_none (by simpa using hi)] at h
    cases h
theorem rngW_len {lo : Int} {n : Nat} : (rngW lo n).length = n := by unfold rngW; simp
theorem jok_rng {K : PySem.W.Frag} {μ : Mu} {H : Hp} {lo : Int} {n : Nat} {st : Store → Prop} : Jok K μ H (Itr lo n) ⟨rngW lo n, st⟩ := fun i H2 μ2 S2 g2 s2 _ => by
  refine ⟨fun hi => ?_, fun w e => ?_⟩
  · have hi' : (rngW lo n).length ≤ i := hi
    rw [rngW_len] at hi'
    exact hi'
  · obtain ⟨h1, rfl⟩ := rngW_get e
    refine ⟨h1, fun x H3 y => ?_⟩
    obtain ⟨rfl, rfl⟩ := y
    exact ⟨μ2, Gr.refl _ _, s2, .int _⟩
def dRng1 (a : DE) : DI := fun ls S => (a ls S).bind fun w S1 => match w with
  | .int j => if -(2 ^ 62) ≤ j ∧ j < 2 ^ 62 then .ok ⟨rngW 0 j.toNat, fun _ => True⟩ S1 else .bad
  | _ => .bad
def dRng2 (a b : DE) : DI := fun ls S => (a ls S).bind fun w S1 => (b ls S1).bind fun w2 S2 => match w, w2 with
  | .int i, .int j => if -(2 ^ 62) ≤ i ∧ i < 2 ^ 62 ∧ -(2 ^ 62) ≤ j ∧ j < 2 ^ 62 then .ok ⟨rngW i (j - i).toNat, fun _ => True⟩ S2 else .bad
  | _, _ => .bad
theorem si_rng1 {tg : Expr} {p : Pos} (hm : X.mg "range" = none) (ha : SE X Wx a ma) (hg : Gl X "range" := by rfl) (hs : starEach [a] X.env = [(false, eval a X.env)] := by rfl) (hs' : starEach [a] X.env = (false, eval a X.env) :: starEach [] X.env := by rfl) : SI X Wx tg (.Call (.Name "range" p) [a] [] pos) (dRng1 ma) := by
  obtain ⟨t1, p1, q1⟩ := ha.ex
  refine ⟨_, pi_range1 hg hm (pa_cons p1 pa_nil hs') hs, fun σ H μ ls S R hL hS h => ?_⟩
  refine q1 σ H μ ls S _ hL hS (Bd.bind (fun w S1 v H1 μ1 g1 s1 r1 h1 => ?_) h)
  cases r1 with
  | int j =>
    dsimp only at h1
    split at h1
    · rename_i c
      exact ⟨j, rfl, c.1, c.2, h1 _ H1 μ1 (Gr.refl _ _) s1 jok_rng⟩
    · exact False.elim h1
  | _ => exact False.elim h1
theorem si_rng2 {tg : Expr} {p : Pos} (hm : X.mg "range" = none) (ha : SE X Wx a ma) (hb : SE X Wx b mb) (hg : Gl X "range" := by rfl) (hs : starEach [a, b] X.env = [(false, eval a X.env), (false, eval b X.env)] := by rfl) (hs2 : starEach [b] X.env = [(false, eval b X.env)] := by rfl)
    (hs' : starEach [a, b] X.env = (false, eval a X.env) :: starEach [b] X.env := by rfl) (hs2' : starEach [b] X.env = (false, eval b X.env) :: starEach [] X.env := by rfl) : SI X Wx tg (.Call (.Name "range" p) [a, b] [] pos) (dRng2 ma mb) := by
  obtain ⟨t1, p1, q1⟩ := ha.ex
  obtain ⟨t2, p2, q2⟩ := hb.ex
  refine ⟨_, pi_range2 hg hm (pa_cons p1 (pa_cons p2 pa_nil hs2') hs') hs hs2, fun σ H μ ls S R hL hS h => ?_⟩
  refine q1 σ H μ ls S _ hL hS (Bd.bind (fun w S1 v H1 μ1 g1 s1 r1 h1 => ?_) h)
  refine q2 σ H1 μ1 ls S1 _ (hL.mono g1) s1 (Bd.bind (fun w2 S2 v2 H2 μ2 g2 s2 r2 h2 => ?_) h1)
  cases r1 with
  | int i =>
    cases r2 with
    | int j =>
      dsimp only at h2
      split at h2
      · rename_i c
        exact ⟨i, j, rfl, c, h2 _ H2 μ2 (Gr.refl _ _) s2 jok_rng⟩
      · exact False.elim h2
    | _ => exact False.elim h2
  | _ => exact False.elim h2

/-! ### targets -/
abbrev DG := W → Lo → Option Lo
def dgName (i : Nat) : DG := fun w ls => some (ls.set i (some w))
def setAll : List Nat → List W → Lo → Lo
  | i :: is, w :: ws, ls => setAll is ws (ls.set i (some w))
  | _, _, ls => ls
def dgTup (is : List Nat) : DG := fun w ls => match w with
  | .tup ws => if ws.length = is.length then some (setAll is ws ls) else none
  | _ => none
structure SG (X : Cx) (tg : Expr) (sl : List Nat) (g : DG) : Prop where
  ex : ∃ t, PG X tg t ∧ ∀ σ H μ ls v w ls' (Q : St → Hp → Prop), LR X.K μ H σ ls → Vr X.K μ H v w → g w ls = some ls' →
    (∀ σ', LR X.K μ H σ' ls' → (∀ vs, (∀ j ∈ sl, j ∈ vs) → wipe σ' vs = wipe σ vs) → Q σ' H) → t v σ H Q
theorem wipe_set {σ : St} {i : Nat} {x : Option V} : ∀ {vs : List Nat}, i ∈ vs → wipe (σ.set i x) vs = wipe σ vs
  | [], h => by cases h
  | v :: vs, h => by
    show (wipe (σ.set i x) vs).set v none = (wipe σ vs).set v none
    by_cases hi : i ∈ vs
    · rw [wipe_set hi]
    · have e : i = v := by
        rcases List.mem_cons.mp h with h | h
        · exact h
        · exact absurd h hi
      subst e
      have key : ∀ {us : List Nat}, i ∉ us → wipe (σ.set i x) us = (wipe σ us).set i x := fun {us} => by
        induction us with
        | nil => intro _; rfl
        | cons u us ih =>
          intro hu
          show (wipe (σ.set i x) us).set u none = ((wipe σ us).set u none).set i x
          have hne : i ≠ u := fun e => hu (by rw [e]; exact List.mem_cons_self)
          rw [ih fun z => hu (List.mem_cons_of_mem _ z), List.set_comm _ _ hne]
      rw [key hi, List.set_set]
theorem sg_name {i : Nat} {x : Str} (hN : X.N.Nodup) (hi : X.N[i]? = some x := by rfl) (hx : Loc X.env.scope x := by first | exact Or.inl rfl | exact Or.inr rfl) (hf : X.fn x = true ∨ X.env.scope.names.lookup x = some .local := by first | exact .inl rfl | exact .inr rfl | assumption) : SG X (.Name x pos) [i] (dgName i) :=
  ⟨_, pg_name hN hi hx hf, fun σ H μ ls v w ls' Q hL r e q => by
    cases e
    exact q _ (hL.set r) fun vs h => wipe_set (h i (List.mem_singleton_self i))⟩

/-! ### for -/
open Classical in
noncomputable def dLoop (st : Store → Prop) (g : DG) (m : DS) : List W → Lo → Store → RS
  | [], ls, S => if st S then .nx ls S else .bad
  | w :: ws, ls, S => if st S then (match g w ls with
    | some ls0 => (match m ls0 S with
      | .nx ls1 S1 => dLoop st g m ws ls1 S1
      | .ct ls1 S1 => dLoop st g m ws ls1 S1
      | .bk ls1 S1 => .nx ls1 S1
      | r => r)
    | none => .bad) else .bad
def rsOfI (ls : Lo) (r : Res Src) (k : Src → Store → RS) : RS := match r with
  | .ok w S => k w S
  | .exc e S => .ex e ls S
  | .bad => .bad
noncomputable def dFor (it : DI) (g : DG) (m : DS) : DS := fun ls S => rsOfI ls (it ls S) fun src S1 => dLoop src.stay g m src.items ls S1
theorem ss_for {tg iter : Expr} {body : List Stmt} {sl : List Nat} {it : DI} {g : DG} {m : DS} (hp : PassesOwn (model X.prog X.w) X.A X.env X.xe) (hc : X.calm = true) (hi : SI X Wx tg iter it) (hg : SG X tg sl g) (hb : SSs X Wx body m)
    (hs : ∀ x, foldedSetIterable iter X.env x = pure x := by intro _; rfl) : SS X Wx (.For tg iter body [] pos) (dFor it g m) := by
  obtain ⟨wi, p1, q1⟩ := hi.ex
  obtain ⟨t2, p2, q2⟩ := hg.ex
  obtain ⟨t3, p3, q3⟩ := hb.ex
  refine ⟨_, ps_for hp hc p1 p2 p3 hs, fun σ H μ ls S D hL hS h => ?_⟩
  refine q1 σ H μ ls S _ hL hS ?_
  unfold dFor at h
  cases e : it ls S with
  | bad => rw [e] at h; exact h
  | exc x S1 =>
    rw [e] at h
    exact fun c d H1 μ1 g1 s1 r1 => h σ c d H1 μ1 g1 s1 (hL.mono g1) r1
  | ok src S1 =>
    rw [e] at h
    intro J H1 μ1 g1 s1 jk
    have h1 : BdS X Wx μ1 H1 (dLoop src.stay g m src.items ls S1) D := BdS.mono g1 h
    refine ⟨fun i k σ' H' => k = src.items.length - i ∧ i ≤ src.items.length ∧ ∃ μ' ls' S', Gr μ1 μ' H1 H' ∧ Sim X.K μ' S' H' ∧ LR X.K μ' H' σ' ls' ∧ BdS X Wx μ' H' (dLoop src.stay g m (src.items.drop i) ls' S') D,
      ⟨src.items.length, by simp, Nat.zero_le _, μ1, ls, S1, Gr.refl _ _, s1, hL.mono g1, by simpa using h1⟩, ?_⟩
    rintro i k σ' H' ⟨rfl, hle, μ', ls', S', g2, s2, l2, b2⟩
    by_cases hlt : i < src.items.length
    · rw [List.drop_eq_getElem_cons hlt] at b2
      unfold dLoop at b2
      split at b2
      · rename_i hst
        split at b2
        · rename_i ls0 e0
          obtain ⟨_, jj⟩ := jk i H' μ' S' g2 s2 hst
          obtain ⟨jgo, jy⟩ := jj _ (List.getElem?_eq_getElem hlt)
          refine .inr ⟨jgo, fun σ3 H3 => ∃ μ3 ls3 S3, Gr μ1 μ3 H1 H3 ∧ Sim X.K μ3 S3 H3 ∧ LR X.K μ3 H3 σ3 ls3 ∧ BdS X Wx μ3 H3 (dLoop src.stay g m (src.items.drop (i + 1)) ls3 S3) D, fun σ3 H3 n3 => ⟨_, by omega, rfl, hlt, n3⟩, fun x H3 y => ?_⟩
          obtain ⟨μ3, g3, s3, r3⟩ := jy x H3 y
          refine q2 σ' H3 μ3 ls' x _ ls0 _ (l2.mono g3) r3 e0 fun σ4 l4 _ => ?_
          refine q3 σ4 H3 μ3 ls0 S' _ l4 s3 ?_
          have b3 := BdS.mono g3 b2
          have g13 := g2.trans g3
          cases em : m ls0 S' with
          | nx lsa Sa =>
            rw [em] at b3
            exact fun σ5 H5 μ5 g5 s5 l5 => ⟨μ5, lsa, Sa, g13.trans g5, s5, l5, BdS.mono g5 b3⟩
          | ct lsa Sa =>
            rw [em] at b3
            exact fun σ5 H5 μ5 g5 s5 l5 => ⟨μ5, lsa, Sa, g13.trans g5, s5, l5, BdS.mono g5 b3⟩
          | bk lsa Sa => rw [em] at b3; exact b3
          | rt w Sa => rw [em] at b3; exact b3
          | ex w lsa Sa => rw [em] at b3; exact b3
          | bad => rw [em] at b3; exact b3
        · exact False.elim b2
      · exact False.elim b2
    · rw [List.drop_eq_nil_of_le (by omega)] at b2
      unfold dLoop at b2
      split at b2
      · rename_i hst
        obtain ⟨jj, _⟩ := jk i H' μ' S' g2 s2 hst
        exact .inl ⟨jj (by omega), b2 σ' H' μ' (Gr.refl _ _) s2 l2⟩
      · exact False.elim b2
end
end Fs
set_option maxHeartbeats 4000000
namespace Fs
open PySem L2

/-- no exception is wanted -/
abbrev Wn : WE := fun _ _ _ _ => False

/-! ### readings that hang on the denotation alone -/
def cE (K : PySem.W.Frag) (mg : Str → Option Value) (Wx : WE) (m : DE) : TE := fun σ H Q => ∃ μ ls S, LR K μ H σ ls ∧ Sim K μ S H ∧ Bd K mg (RlV K) (fun c d H' => Wx c d σ H') μ H (m ls S) Q
def cT (K : PySem.W.Frag) (mg : Str → Option Value) (Wx : WE) (m : DT) : TT := fun σ H Q => ∃ μ ls S, LR K μ H σ ls ∧ Sim K μ S H ∧ Bd K mg RlB (fun c d H' => Wx c d σ H') μ H (m ls S) Q
def cG (K : PySem.W.Frag) (sl : List Nat) (g : DG) : TG := fun v σ H Q => ∃ μ ls w ls', LR K μ H σ ls ∧ Vr K μ H v w ∧ g w ls = some ls' ∧ ∀ σ', LR K μ H σ' ls' → (∀ vs, (∀ j ∈ sl, j ∈ vs) → wipe σ' vs = wipe σ vs) → Q σ' H
section
variable {X : Cx} {Wx : WE} {a b c e : Expr} {es : List Expr} {ma mb mc : DE} {pos : Pos} {st : Stmt} {sts : List Stmt}
theorem SE.canon (h : SE X Wx e ma) : PE X e (cE X.K X.mg Wx ma) := by
  obtain ⟨t, p, q⟩ := h.ex
  exact ⟨fun pins s σ H Q I ⟨μ, ls, S, h1, h2, h3⟩ => p.run pins s σ H Q I (q σ H μ ls S Q h1 h2 h3)⟩
theorem SG.canon {sl : List Nat} {g : DG} (h : SG X e sl g) : PG X e (cG X.K sl g) := by
  obtain ⟨t, p, q⟩ := h.ex
  exact ⟨fun pins s σ H v u Q I r ⟨μ, ls, w, ls', h1, h2, h3, h4⟩ => p.run pins s σ H v u Q I r (q σ H μ ls v w ls' Q h1 h2 h3 h4)⟩
structure STs (X : Cx) (Wx : WE) (es : List Expr) (m : DT) : Prop where
  ex : ∃ t, PTs X es t ∧ ∀ σ H μ ls S Q, LR X.K μ H σ ls → Sim X.K μ S H → BdB X Wx σ μ H (m ls S) Q → t σ H Q
def dYes : DT := fun _ S => .ok true S
theorem sts_nil : STs X Wx [] dYes := ⟨_, pts_nil, fun σ H μ ls S Q hL hS h => h true H μ (Gr.refl _ _) hS rfl⟩
theorem sts_one {m : DT} (h : ST X Wx e m) : STs X Wx [e] m := by
  obtain ⟨t, p, q⟩ := h.ex
  exact ⟨t, pts_one p, q⟩
theorem STs.canon {m : DT} (h : STs X Wx es m) : PTs X es (cT X.K X.mg Wx m) := by
  obtain ⟨t, p, q⟩ := h.ex
  exact ⟨fun pins s σ H Q I ⟨μ, ls, S, h1, h2, h3⟩ => p.run pins s σ H Q I (q σ H μ ls S Q h1 h2 h3)⟩
end

/-! ### list comprehensions -/
def wipeW (ls : Lo) : List Nat → Lo
  | [] => ls
  | v :: vs => (wipeW ls vs).set v none
theorem LR.wipe {K : PySem.W.Frag} {μ : Mu} {H : Hp} {σ : St} {ls : Lo} (h : LR K μ H σ ls) : ∀ vs : List Nat, LR K μ H (wipe σ vs) (wipeW ls vs)
  | [] => h
  | v :: vs => by
    have ih := h.wipe vs
    refine ⟨by show ((L2.wipe σ vs).set v none).length = ((wipeW ls vs).set v none).length; rw [List.length_set, List.length_set, ih.len], fun i w e => ?_⟩
    have e' : ((wipeW ls vs).set v none)[i]? = some (some w) := e
    show ∃ x, ((L2.wipe σ vs).set v none)[i]? = some (some x) ∧ _
    by_cases hi : v = i
    · subst hi
      by_cases hl : v < (wipeW ls vs).length
      · rw [List.getElem?_set_self hl] at e'; cases e'
      · rw [List.getElem?_eq_none (by rw [List.length_set]; omega)] at e'; cases e'
    · rw [List.getElem?_set_ne hi] at e' ⊢
      exact ih.at_ i w e'
theorem wipe_wipe (σ : St) : ∀ (vs us : List Nat), (∀ j ∈ us, j ∈ vs) → wipe (wipe σ vs) us = wipe σ vs
  | vs, [], _ => rfl
  | vs, u :: us, h => by
    show (wipe (wipe σ vs) us).set u none = wipe σ vs
    rw [wipe_wipe σ vs us fun j hj => h j (List.mem_cons_of_mem _ hj)]
    have key : ∀ {ws : List Nat}, u ∈ ws → (wipe σ ws).set u none = wipe σ ws := fun {ws} => by
      induction ws with
      | nil => intro h; cases h
      | cons w ws ih =>
        intro hu
        show ((wipe σ ws).set w none).set u none = (wipe σ ws).set w none
        by_cases e : w = u
        · subst e; rw [List.set_set]
        · have hu' : u ∈ ws := by
            rcases List.mem_cons.mp hu with q | q
            · exact absurd q.symm e
            · exact q
          rw [List.set_comm _ _ e, ih hu']
    exact key (h u List.mem_cons_self)
open Classical in
noncomputable def dLcLoop (st : Store → Prop) (g : DG) (tt : DT) (te : DE) (D : Nat) (ls : Lo) : List W → Store → Res W
  | [], S => if st S then .ok (.loc D) S else .bad
  | w :: ws, S => if st S then (match g w ls with
    | some ls2 => (tt ls2 S).bind fun b S1 => if b = true then (te ls2 S1).bind fun y S2 => (match cellLst S2[D]? with
        | some acc => if acc.length < sizeLine then dLcLoop st g tt te D ls ws (S2.set D (.lst (acc ++ [y]))) else .bad
        | none => .bad) else dLcLoop st g tt te D ls ws S1
    | none => .bad) else .bad
noncomputable def dLc (it : DI) (g : DG) (vs : List Nat) (tt : DT) (te : DE) : DE := fun ls S => (it ls S).bind fun src S1 => dLcLoop src.stay g tt te S1.length (wipeW ls vs) src.items (S1 ++ [.lst []])
section
variable {X : Cx} {elt tg iter : Expr} {ifs : List Expr} {scope : Scope} {own : List (Str × Nat)} {pos : Pos} {it : DI} {g : DG} {tt : DT} {te : DE} {sl : List Nat}
theorem lc_real {wi : TI} (q1 : ∀ σ H μ ls S (R : It → Hp → Prop), LR X.K μ H σ ls → Sim X.K μ S H → Bd X.K X.mg (RlI X.K) (fun c d H' => Wn c d σ H') μ H (it ls S) R → wi σ H R) (vs : List Nat) (hsl : ∀ j ∈ sl, j ∈ vs)
    {σ : St} {H : Hp} {μ : Mu} {ls : Lo} {S : Store} {Q : VK} (hL : LR X.K μ H σ ls) (hS : Sim X.K μ S H) (h : BdV X Wn σ μ H (dLc it g vs tt te ls S) Q) :
    tLc wi (cG X.K sl g) (cT X.K X.mg Wn tt) (cE X.K X.mg Wn te) vs σ H Q := by
  refine q1 σ H μ ls S _ hL hS (Bd.bind (fun src S1 J H1 μ1 g1 s1 jk h1 => ?_) h)
  intro D hD
  have gD := gr_cell (u := HO.lst []) s1 hD
  have sD := s1.alloc (c := .lst []) hD ⟨[], upd_same, .nil⟩
  refine ⟨fun i k H' => k = src.items.length - i ∧ i ≤ src.items.length ∧ ∃ μ' S', Gr (muAdd μ1 S1.length D) μ' (upd H1 D (.lst [])) H' ∧ Sim X.K μ' S' H' ∧ BdV X Wn σ μ' H' (dLcLoop src.stay g tt te S1.length (wipeW ls vs) (src.items.drop i) S') Q,
    ⟨src.items.length, by simp, Nat.zero_le _, _, _, Gr.refl _ _, sD, by simpa using Bd.mono gD h1⟩, ?_⟩
  rintro i k H' ⟨rfl, hle, μ', S', g2, s2, b2⟩
  have gg := gD.trans g2
  by_cases hlt : i < src.items.length
  · rw [List.drop_eq_getElem_cons hlt] at b2
    unfold dLcLoop at b2
    split at b2
    · rename_i hst
      split at b2
      · rename_i ls2 e2
        obtain ⟨_, jj⟩ := jk i H' μ' S' gg s2 hst
        obtain ⟨jgo, jy⟩ := jj _ (List.getElem?_eq_getElem hlt)
        refine .inr ⟨jgo, fun H3 => ∃ μ3 S3, Gr (muAdd μ1 S1.length D) μ3 (upd H1 D (.lst [])) H3 ∧ Sim X.K μ3 S3 H3 ∧ BdV X Wn σ μ3 H3 (dLcLoop src.stay g tt te S1.length (wipeW ls vs) (src.items.drop (i + 1)) S3) Q, fun H3 n3 => ⟨_, by omega, rfl, hlt, n3⟩, fun x H3 y => ?_⟩
        obtain ⟨μ3, g3, s3, r3⟩ := jy x H3 y
        refine ⟨μ3, wipeW ls vs, _, ls2, ((hL.mono g1).mono (gg.trans g3)).wipe vs, r3, e2, fun σ4 l4 w4 => ⟨?_, ?_⟩⟩
        · rw [w4 vs hsl, wipe_wipe σ vs vs fun _ z => z]
        refine ⟨μ3, ls2, S', l4, s3, Bd.bind (fun bb S4 b' H4 μ4 g4 s4 r4 h4 => ?_) (Bd.mono g3 b2)⟩
        cases r4
        cases bb with
        | false =>
          refine iteF ?_
          exact ⟨μ4, S4, g2.trans (g3.trans g4), s4, h4⟩
        | true =>
          refine iteT ⟨μ4, ls2, S4, l4.mono g4, s4, Bd.bind (fun yw S5 yv H5 μ5 g5 s5 r5 h5 => ?_) h4⟩
          split at h5
          · rename_i acc ea
            split at h5
            · rename_i hz
              have g25 := g2.trans (g3.trans (g4.trans g5))
              have hm : μ5 S1.length = some D := g25.mu _ _ muAdd_same
              obtain ⟨p, xs, e1, hm', e3, e4⟩ := s5.cellL (cellLst_some ea) (.loc hm)
              cases e1
              refine ⟨xs, e3, by rw [e4.length]; exact hz, μ5, _, g25.trans (gr_write s5 hm), s5.write (c := .lst _) hm ⟨_, upd_same, (e4.mono (gr_write s5 hm)).append (.cons (r5.mono (gr_write s5 hm)) .nil)⟩, Bd.mono (gr_write s5 hm) h5⟩
            · exact False.elim h5
          · exact False.elim h5
      · exact False.elim b2
    · exact False.elim b2
  · rw [List.drop_eq_nil_of_le (by omega)] at b2
    unfold dLcLoop at b2
    split at b2
    · rename_i hst
      obtain ⟨jj, _⟩ := jk i H' μ' S' gg s2 hst
      exact .inl ⟨jj (by omega), b2 _ H' μ' (Gr.refl _ _) s2 (.loc (g2.mu _ _ muAdd_same))⟩
    · exact False.elim b2
theorem se_lc (hc : X.calm = true) (hN : X.N.Nodup) (hi : SI X Wn tg iter it) (ok : BlkOk X.N X.env.scope scope own)
    (hg : ∀ (s : Shared) (H : Hp) (C : Addr) (cl : List (Str × Addr)) (fp : List Addr), SG (X.blk s H scope (compEnvC scope cl C X.env) fp) tg sl g) (ht : ∀ (s : Shared) (H : Hp) (C : Addr) (cl : List (Str × Addr)) (fp : List Addr), STs (X.blk s H scope (compEnvC scope cl C X.env) fp) Wn ifs tt)
    (he : ∀ (s : Shared) (H : Hp) (C : Addr) (cl : List (Str × Addr)) (fp : List Addr), SE (X.blk s H scope (compEnvC scope cl C X.env) fp) Wn elt te) (hsl : ∀ j ∈ sl, j ∈ own.map (·.2) := by decide) (hs : ∀ x, foldedSetIterable iter X.env x = pure x := by intro _; rfl) :
    SE X Wn (.ListComp elt [⟨tg, iter, ifs, 0⟩] scope pos) (dLc it g (own.map (·.2)) tt te) := by
  obtain ⟨wi, p1, q1⟩ := hi.ex
  exact ⟨_, pe_lc (g := cG X.K sl g) (tt := cT X.K X.mg Wn tt) (te := cE X.K X.mg Wn te) hc hN p1 ok (fun s H C cl fp => (hg s H C cl fp).canon) (fun s H C cl fp => (ht s H C cl fp).canon) (fun s H C cl fp => (he s H C cl fp).canon) hs, fun σ H μ ls S Q hL hS h => lc_real q1 _ hsl hL hS h⟩
theorem ss_setLc {i : Nat} {y : Str} {py spos : Pos} (hc : X.calm = true) (hN : X.N.Nodup)
    (hi : SI X Wn tg iter it) (ok : BlkOk X.N X.env.scope scope own)
    (hg : ∀ (s : Shared) (H : Hp) (C : Addr) (cl : List (Str × Addr)) (fp : List Addr), SG (X.blk s H scope (compEnvC scope cl C X.env) fp) tg sl g) (ht : ∀ (s : Shared) (H : Hp) (C : Addr) (cl : List (Str × Addr)) (fp : List Addr), STs (X.blk s H scope (compEnvC scope cl C X.env) fp) Wn ifs tt)
    (he : ∀ (s : Shared) (H : Hp) (C : Addr) (cl : List (Str × Addr)) (fp : List Addr), SE (X.blk s H scope (compEnvC scope cl C X.env) fp) Wn elt te) (hy : X.N[i]? = some y := by rfl) (hyl : X.env.scope.names.lookup y = some .local := by rfl)
    (hsw : swapsWith (.ListComp elt [⟨tg, iter, ifs, 0⟩] scope pos) (some (.Name y py)) spos.line X.env = pure true := by exact sw_true rfl rfl rfl (by decide +kernel)) (hsl : ∀ j ∈ sl, j ∈ own.map (·.2) := by decide) (hs : ∀ x, foldedSetIterable iter X.env x = pure x := by intro _; rfl) :
    SS X Wn (.Assign [.Name y py] (.ListComp elt [⟨tg, iter, ifs, 0⟩] scope pos) spos) (dSet i (dLc it g (own.map (·.2)) tt te)) := by
  obtain ⟨wi, p1, q1⟩ := hi.ex
  refine ⟨_, ps_setLc (g := cG X.K sl g) (tt := cT X.K X.mg Wn tt) (te := cE X.K X.mg Wn te) hc hN hy hyl hsw p1 ok (fun s H C cl fp => (hg s H C cl fp).canon) (fun s H C cl fp => (ht s H C cl fp).canon) (fun s H C cl fp => (he s H C cl fp).canon) hs, fun σ H μ ls S D hL hS h => ?_⟩
  refine lc_real q1 _ hsl hL hS (rs_bd hL (fun w S1 v H1 μ1 g s r h1 => ?_) h)
  exact h1 _ H1 μ1 (Gr.refl _ _) s ((hL.mono g).set r)
end

/-! ### unary minus -/
def gNeg (x : W) (S : Store) : Res W := match x with
  | .int i => .ok (.int (-i)) S
  | _ => .bad
section
variable {X : Cx} {Wx : WE} {a b c e : Expr} {es : List Expr} {ma mb mc : DE} {pos : Pos}
theorem se_neg (ha : SE X Wx a ma) : SE X Wx (.UnaryOp .USub a pos) (dUn gNeg ma) := by
  obtain ⟨t1, p1, q1⟩ := ha.ex
  refine ⟨_, pe_un un_neg p1, fun σ H μ ls S Q hL hS h => ?_⟩
  refine q1 σ H μ ls S _ hL hS (Bd.bind (fun w1 S1 v1 H1 μ1 g1 s1 r1 h1 => ?_) h)
  cases r1 with
  | int i => exact ⟨i, rfl, h1 _ H1 μ1 (Gr.refl _ _) s1 (.int _)⟩
  | _ => exact False.elim h1
end

/-! ### slices -/
abbrev DO := Lo → Store → Res (Option Int)
def dNoP : DO := fun _ S => .ok none S
def dPart (a : DE) : DO := fun ls S => (a ls S).bind fun w S1 => match w with
  | .int i => .ok (some i) S1
  | _ => .bad
def cutW (xs : List W) (lo hi : Option Int) : List W := (xs.drop (HT.sIx xs.length 0 lo)).take (HT.sIx xs.length xs.length hi - HT.sIx xs.length 0 lo)
def gSlice (x : W) (lo hi : Option Int) (S : Store) : Res W := match x with
  | .tup ws => .ok (.tup (cutW ws lo hi)) S
  | .str z => if z.length ≤ sizeLine then .ok (.str (cutS z lo hi)) S else .bad
  | x => match lstW S x with
    | some ws => .ok (.loc S.length) (S ++ [.lst (cutW ws lo hi)])
    | none => .bad
def dSl (a : DE) (lo hi : DO) : DE := fun ls S => (a ls S).bind fun x S1 => (lo ls S1).bind fun l S2 => (hi ls S2).bind fun h S3 => gSlice x l h S3
abbrev RlO : Mu → Hp → Option Int → Option Int → Prop := fun _ _ a b => a = b
structure SOp (X : Cx) (Wx : WE) (e : Option Expr) (m : DO) : Prop where
  ex : ∃ t, PO X e t ∧ ∀ σ H μ ls S Q, LR X.K μ H σ ls → Sim X.K μ S H → Bd X.K X.mg RlO (fun c d H' => Wx c d σ H') μ H (m ls S) Q → t σ H Q
section
variable {X : Cx} {Wx : WE} {a e : Expr} {ma : DE} {pos p2 : Pos} {lo hi : Option Expr} {ml mh : DO}
theorem so_none : SOp X Wx none dNoP := ⟨_, po_none, fun σ H μ ls S Q hL hS h => h none H μ (Gr.refl _ _) hS rfl⟩
theorem so_some (ha : SE X Wx a ma) : SOp X Wx (some a) (dPart ma) := by
  obtain ⟨t1, p1, q1⟩ := ha.ex
  refine ⟨_, po_some p1, fun σ H μ ls S Q hL hS h => ?_⟩
  refine q1 σ H μ ls S _ hL hS (Bd.bind (fun w1 S1 v1 H1 μ1 g1 s1 r1 h1 => ?_) h)
  cases r1 with
  | int i => exact ⟨i, rfl, h1 _ H1 μ1 (Gr.refl _ _) s1 rfl⟩
  | _ => exact False.elim h1
theorem cutW_rel {K : PySem.W.Frag} {μ : Mu} {H : Hp} {ws : List W} {xs : List V} (h : VrA K μ H xs ws) (lo hi : Option Int) : VrA K μ H (cutV xs lo hi) (cutW ws lo hi) := by
  unfold cutV cutW
  rw [h.length]
  exact (h.drop _).take _
theorem se_slice (ha : SE X Wx a ma) (hl : SOp X Wx lo ml) (hh : SOp X Wx hi mh) : SE X Wx (.Subscript a (.Slice lo hi none p2) pos) (dSl ma ml mh) := by
  obtain ⟨t1, p1, q1⟩ := ha.ex
  obtain ⟨t2, p2, q2⟩ := hl.ex
  obtain ⟨t3, p3, q3⟩ := hh.ex
  refine ⟨_, pe_slice (SlR.or Tx.sl_tupD (SlR.or sl_str sl_list)) p1 p2 p3, fun σ H μ ls S Q hL hS h => ?_⟩
  refine q1 σ H μ ls S _ hL hS (Bd.bind (fun w1 S1 v1 H1 μ1 g1 s1 r1 h1 => ?_) h)
  refine q2 σ H1 μ1 ls S1 _ (hL.mono g1) s1 (Bd.bind (fun l S2 l' H2 μ2 g2 s2 r2 h2 => ?_) h1)
  cases r2
  refine q3 σ H2 μ2 ls S2 _ ((hL.mono g1).mono g2) s2 (Bd.bind (fun u S3 u' H3 μ3 g3 s3 r3 h3 => ?_) h2)
  cases r3
  have r1 := (r1.mono g2).mono g3
  unfold gSlice at h3
  split at h3
  · cases r1 with
    | @tup p xs _ a1 a2 =>
      refine .inl ⟨p, xs, rfl, a1.t, fun hw => ?_, fun _ q o hq ho => h3 (.ref q) _ μ3 (gr_new hq) (s3.new hq) (.tup (.of upd_same ho) ((cutW_rel a2 l u).mono (gr_new hq)))⟩
      have e : cutV xs l u = xs := by
        unfold cutV
        rw [hw.1, hw.2]
        simp
      have := cutW_rel a2 l u
      rw [e] at this
      exact h3 _ H3 μ3 (Gr.refl _ _) s3 (.tup a1 this)
  · cases r1
    split at h3
    · rename_i hz
      exact .inr (.inl ⟨_, rfl, hz, h3 _ H3 μ3 (Gr.refl _ _) s3 (.str _)⟩)
    · exact False.elim h3
  · split at h3
    · rename_i ws ew
      obtain ⟨p, xs, rfl, a1, a2⟩ := lst_of s3 ew r1
      exact .inr (.inr ⟨p, xs, rfl, a1, fun q hq => h3 (.ref q) _ _ (gr_cell s3 hq) (s3.alloc hq ⟨_, upd_same, (cutW_rel a2 l u).mono (gr_cell s3 hq)⟩) (.loc muAdd_same)⟩)
    · exact False.elim h3
end

/-! ### calls of defs, and defs -/
def spF (K : PySem.W.Frag) (mg : Str → Option Value) (n : Nat) (f : DF) : Sp := fun vs H Q _ => ∃ μ ws S, ws.length = n ∧ Sim K μ S H ∧ VrA K μ H vs ws ∧ Bd K mg (RlV K) E0 μ H (f ws S) Q
structure Fok (P : Program) (w : World) (K : PySem.W.Frag) (mg : Str → Option Value) (x : Str) (k : Nat) (ps : List Str) (fn : DF) : Prop where
  ex : ∃ (f : Addr) (fd : FuncData), (∀ base, FnOk P w K mg base CX0 k f fd ps (spF K mg ps.length fn)) ∧ mg x = some (.ref f) ∧ PySem.W.keepIn K (.ref f) = true ∧ Binds K fd ps [] ∧
    ∀ (s : Shared) (us : List Value), us.length = ps.length → BindsTo s fd ⟨us, []⟩ (ps.zip us)
theorem Fok.mono {P : Program} {w : World} {K : PySem.W.Frag} {mg : Str → Option Value} {x : Str} {k k' : Nat} {ps : List Str} {fn : DF} (h : Fok P w K mg x k ps fn) (hk : k ≤ k') : Fok P w K mg x k' ps fn := by
  obtain ⟨f, fd, h2, h3⟩ := h.ex
  exact ⟨f, fd, fun base => (h2 base).mono hk, h3⟩
section
variable {X : Cx} {e : Expr} {es : List Expr} {pos p : Pos}
theorem se_call {x : Str} {k k' : Nat} {ps : List Str} {fn : DF} {as : List DE} (h : Fok X.prog X.w X.K X.mg x k ps fn) (hr : Room k' X.A) (ha : SA X Wn (e :: es) (dArgs as)) (hk : k ≤ k' := by first | omega | (simp only [Nat.add_eq]; omega)) (hg : Gl X x := by rfl) (hdb : (x == ("__debug__" : Str)) = false := by decide) (he : starEach (e :: es) X.env = (false, eval e X.env) :: starEach es X.env := by rfl) (hpl : (backTo pos (starEach es X.env)).any (·.1) = false := by rfl)
    (hn : as.length = ps.length := by rfl) : SE X Wn (.Call (.Name x p) (e :: es) [] pos) (dCall fn as) := by
  obtain ⟨f, fd, h2, h3, h4, h5, _⟩ := h.ex
  obtain ⟨t1, p1, q1⟩ := ha.ex
  refine ⟨_, pe_call (h2 X.base) (hr.mono hk) hg h3 h4 h5 .nil pass0 p1 hdb he hpl, fun σ H μ ls S Q hL hS h => ?_⟩
  have hlen : ∀ ws S', dArgs as ls S = .ok ws S' → ws.length = ps.length := by
    have key : ∀ (as : List DE) ls S ws S', dArgs as ls S = .ok ws S' → ws.length = as.length := fun as => by
      induction as with
      | nil => intro ls S ws S' e; cases e; rfl
      | cons a r ih =>
        intro ls S ws S' e
        unfold dArgs at e
        cases e1 : a ls S with
        | ok w S1 =>
          rw [e1] at e
          dsimp only [Res.bind] at e
          cases e2 : dArgs r ls S1 with
          | ok us S2 =>
            rw [e2] at e
            cases e
            rw [List.length_cons, List.length_cons, ih _ _ _ _ e2]
          | exc _ _ => rw [e2] at e; cases e
          | bad => rw [e2] at e; cases e
        | exc _ _ => rw [e1] at e; cases e
        | bad => rw [e1] at e; cases e
    intro ws S' e
    rw [key as ls S ws S' e, hn]
  unfold dCall at h
  cases ea : dArgs as ls S with
  | bad => rw [ea] at h; exact False.elim h
  | exc x S1 =>
    rw [ea] at h
    exact q1 σ H μ ls S _ hL hS (by rw [ea]; exact h)
  | ok ws S1 =>
    rw [ea] at h
    refine q1 σ H μ ls S _ hL hS ?_
    rw [ea]
    intro vs H1 μ1 g1 s1 r1
    rw [List.append_nil]
    exact ⟨μ1, ws, S1, hlen ws S1 ea, s1, r1, Bd.mono g1 h⟩
end
theorem huE {k : Nat} {A : Around} (h : Room k A) : A.units + 64 < cLine := by
  have := h.un
  omega
theorem huI {k : Nat} {A : Around} (h : Room k A) : A.units + 65 < cLine := by
  have := h.un
  omega
/-- where a def of the text stands -/
structure DefAt (K : PySem.W.Frag) (mg : Str → Option Value) (x : Str) (st : Stmt) : Prop where
  ex : ∃ f fd, FunD K x x (defArgs st) (defBody st) (defScope st) [] [] f fd ∧ mg x = some (.ref f)
section
variable {P : Program} {w : World} {K : PySem.W.Frag} {mg : Str → Option Value}
theorem Fok.of {x : Str} {st : Stmt} {k : Nat} {N ps : List Str} {m : DS} (F : DefAt K mg x st) (S : FnScope N ps (defScope st))
    (hbind : ∀ (kV doc pm : Value) (an : Option Addr) (cdv ct : Value) (us : List Value), us.length = ps.length → bindArgs (PySem.W.fnOf x x (defArgs st) (defBody st) (defScope st) .none kV doc pm an cdv ct) ⟨us, []⟩ = pure (ps.zip us))
    (hb : ∀ (base : Heap) (f : Addr) (cdv : Value) (A : Around) (outer : List Env) (s : Shared) (H : Hp) (E : XK), Room k (A.deeper (PyProof.Rows.envOfC x (defScope st) s.heap.objs.size f cdv)) →
      SSs (cxOf CX0 P w K mg base N x (defScope st) f cdv A outer s H E).nox Wn (defBody st) m) : Fok P w K mg x (k + 1) ps (mkF N.length ps.length m) := by
  obtain ⟨f, fd, F, hm⟩ := F.ex
  refine ⟨f, fd, fun base => ?_, hm, F.kp, F.bindsN hbind, F.bindsA hbind⟩
  refine F.ok S (fun vs H Q E h => ?_) (fun cdv A outer s H vs Q E hr h => ?_)
  · obtain ⟨μ, ws, S', h1, h2, h3, h4⟩ := h
    rw [h3.length, h1]
  · obtain ⟨μ, ws, S', h1, h2, h3, h4⟩ := h
    obtain ⟨t, p, q⟩ := (hb base f cdv A outer s H E hr).ex
    refine ⟨t, PSs.nox p, q _ H μ (startW N.length ws) S' _ (LR.atStart h3) h2 ?_⟩
    unfold mkF at h4
    rw [if_pos h1] at h4
    cases e : m (startW N.length ws) S' with
    | nx ls S1 => rw [e] at h4; exact fun σ' H' μ' g s l => h4 .non H' μ' g s .non
    | rt v S1 => rw [e] at h4; exact h4
    | bk ls S1 => rw [e] at h4; exact False.elim h4
    | ct ls S1 => rw [e] at h4; exact False.elim h4
    | ex x ls S1 => rw [e] at h4; exact fun σ' c d H' μ' g s l r => h4 c d H' μ' g s r
    | bad => rw [e] at h4; exact False.elim h4
/-- nothing is promised of what is stuck -/
theorem Fok.none {x : Str} {st : Stmt} {k : Nat} {ps : List Str} (F : DefAt K mg x st)
    (hbind : ∀ (kV doc pm : Value) (an : Option Addr) (cdv ct : Value) (us : List Value), us.length = ps.length → bindArgs (PySem.W.fnOf x x (defArgs st) (defBody st) (defScope st) .none kV doc pm an cdv ct) ⟨us, []⟩ = pure (ps.zip us)) :
    Fok P w K mg x k ps (fun _ _ => .bad) := by
  obtain ⟨f, fd, F, hm⟩ := F.ex
  have no : ∀ vs H Q E, ¬ spF K mg ps.length (fun _ _ => .bad) vs H Q E := fun vs H Q E h => by
    obtain ⟨μ, ws, S', h1, h2, h3, h4⟩ := h
    exact h4
  exact ⟨f, fd, fun base => ⟨fun vs H Q E h => absurd h (no vs H Q E), fun A outer s H args us vs Q E _ _ _ _ h => absurd h (no vs H Q E)⟩, hm, F.kp, F.bindsN hbind, F.bindsA hbind⟩
/-- the law: from a read-only list of ints to True -/
def spLaw (K : PySem.W.Frag) : Sp := fun vs H Q _ => ∃ (a : Addr) (ns : List Int), vs = [.ref a] ∧ RoL K H a (ns.map V.int) ∧ ns.length ≤ 63 ∧ ∀ H', Q (.bl true) H'
theorem law_fin {f : Addr} {k : Nat} {fn : DF} (O : Fok P w K mg "law" k ["script"] fn) (hm : mg "law" = some (.ref f))
    (h : ∀ ns : List Int, ns.length ≤ 63 → ∃ S, fn [.rol (ns.map W.int)] [] = .ok (.bl true) S) :
    ∃ fd : FuncData, (∀ (s : Shared) (v : Value), BindsTo s fd ⟨[v], []⟩ [("script", v)]) ∧ ∀ base : Heap, K.In base → base.Ns mainGlobals mg → FnOk P w K mg base CX0 k f fd ["script"] (spLaw K) := by
  obtain ⟨f', fd, h2, h3, h4, h5, h6⟩ := O.ex
  rw [hm] at h3
  cases h3
  refine ⟨fd, fun s v => h6 s [v] rfl, fun base _ _ => (h2 base).imp fun vs H Q E hs => ?_⟩
  obtain ⟨a, ns, rfl, hr, hl, q⟩ := hs
  obtain ⟨S, e⟩ := h ns hl
  refine ⟨fun _ => none, [.rol (ns.map W.int)], [], rfl, Sim.empty, .cons (.rol hr (VrA.ints ns)) .nil, ?_⟩
  rw [e]
  intro v H' μ' g s r
  cases r
  exact q H'
end
end Fs
set_option maxHeartbeats 4000000
namespace Fs
open PySem L2
/-! ### evaluation, step by step -/
section
variable {α β : Type} {g g' : W → W → Store → Res W} {u : W → Store → Res W} {a b c : DE} {as : List DE} {ls : Lo} {S : Store} {w x y : W} {ws : List W} {tt t1 t2 : DT} {m n : DS} {f : DF} {i : Nat}
@[simp] theorem c_ev : dC w ls S = .ok w S := rfl
def argK2 (w : W) : Res (List W) → Res (List W)
  | .ok ws S => .ok (w :: ws) S
  | .exc e S => .exc e S
  | .bad => .bad
def argK (r : List DE) (ls : Lo) : Res W → Res (List W)
  | .ok w S => argK2 w (dArgs r ls S)
  | .exc e S => .exc e S
  | .bad => .bad
@[simp] theorem args_nil : dArgs [] ls S = .ok [] S := rfl
@[simp] theorem args_ev : dArgs (a :: as) ls S = argK as ls (a ls S) := by
  unfold dArgs argK
  cases a ls S <;> first | rfl | skip
  rename_i w S1
  show (dArgs as ls S1).bind _ = argK2 w (dArgs as ls S1)
  cases dArgs as ls S1 <;> rfl
@[simp] theorem argK_ok : argK as ls (.ok w S) = argK2 w (dArgs as ls S) := rfl
@[simp] theorem argK2_ok : argK2 w (.ok ws S) = .ok (w :: ws) S := rfl
def tupK : Res (List W) → Res W
  | .ok ws S => if ws.length ≤ sizeLine then .ok (.tup ws) S else .bad
  | .exc e S => .exc e S
  | .bad => .bad
@[simp] theorem tup_ev : dTup as ls S = tupK (dArgs as ls S) := by
  unfold dTup tupK
  cases dArgs as ls S <;> rfl
theorem tupK_ok (h : ws.length ≤ 100) : tupK (.ok ws S) = .ok (.tup ws) S := if_pos (Nat.le_trans h (by decide))
def lstK : Res (List W) → Res W
  | .ok ws S => if ws.length ≤ sizeLine then .ok (.loc S.length) (S ++ [.lst ws]) else .bad
  | .exc e S => .exc e S
  | .bad => .bad
@[simp] theorem lst_ev : dLst as ls S = lstK (dArgs as ls S) := by
  unfold dLst lstK
  cases dArgs as ls S <;> rfl
theorem lstK_ok (h : ws.length ≤ 100) : lstK (.ok ws S) = .ok (.loc S.length) (S ++ [.lst ws]) := if_pos (Nat.le_trans h (by decide))
@[simp] theorem tupK_ok' : tupK (.ok ws S) = if ws.length ≤ sizeLine then .ok (.tup ws) S else .bad := rfl
@[simp] theorem lstK_ok' : lstK (.ok ws S) = if ws.length ≤ sizeLine then .ok (.loc S.length) (S ++ [.lst ws]) else .bad := rfl
def opK2 (g : W → W → Store → Res W) (x : W) : Res W → Res W
  | .ok y S => g x y S
  | .exc e S => .exc e S
  | .bad => .bad
def opK (g : W → W → Store → Res W) (b : DE) (ls : Lo) : Res W → Res W
  | .ok x S => opK2 g x (b ls S)
  | .exc e S => .exc e S
  | .bad => .bad
@[simp] theorem op_ev : dOp g a b ls S = opK g b ls (a ls S) := by
  unfold dOp opK
  cases a ls S <;> first | rfl | skip
  rename_i w S1
  show (b ls S1).bind _ = opK2 g w (b ls S1)
  cases b ls S1 <;> rfl
@[simp] theorem opK_ok : opK g b ls (.ok x S) = opK2 g x (b ls S) := rfl
@[simp] theorem opK2_ok : opK2 g x (.ok y S) = g x y S := rfl
def unK (u : W → Store → Res W) : Res W → Res W
  | .ok y S => u y S
  | .exc e S => .exc e S
  | .bad => .bad
@[simp] theorem un_ev : dUn u a ls S = unK u (a ls S) := by
  unfold dUn unK
  cases a ls S <;> rfl
@[simp] theorem unK_ok : unK u (.ok x S) = u x S := rfl
def callK (f : DF) : Res (List W) → Res W
  | .ok y S => f y S
  | .exc e S => .exc e S
  | .bad => .bad
@[simp] theorem call_ev : dCall f as ls S = callK f (dArgs as ls S) := by
  unfold dCall callK
  cases dArgs as ls S <;> rfl
@[simp] theorem callK_ok : callK f (.ok ws S) = f ws S := rfl
def tK : Res W → Res Bool
  | .ok y S => gTruth y S
  | .exc e S => .exc e S
  | .bad => .bad
@[simp] theorem t_ev : dT a ls S = tK (a ls S) := by
  unfold dT tK
  cases a ls S <;> rfl
@[simp] theorem tK_ok : tK (.ok x S) = gTruth x S := rfl
@[simp] theorem tru_bl {k : Bool} : gTruth (.bl k) S = .ok k S := rfl
@[simp] theorem tru_non : gTruth .non S = .ok false S := rfl
@[simp] theorem tru_int {k : Int} : gTruth (.int k) S = .ok (k != 0) S := rfl
@[simp] theorem tru_tup : gTruth (.tup ws) S = .ok (!ws.isEmpty) S := rfl
def tbK : Res W → Res Bool
  | .ok (.bl b) S => .ok b S
  | .exc e S => .exc e S
  | _ => .bad
@[simp] theorem tb_ev : dTB a ls S = tbK (a ls S) := by
  unfold dTB tbK
  cases a ls S <;> first | rfl | skip
  rename_i w S1
  cases w <;> rfl
@[simp] theorem tbK_ok {k : Bool} : tbK (.ok (.bl k) S) = .ok k S := rfl
def ntK : Res Bool → Res Bool
  | .ok k S => .ok (!k) S
  | .exc e S => .exc e S
  | .bad => .bad
@[simp] theorem nt_ev : dNotT tt ls S = ntK (tt ls S) := by
  unfold dNotT ntK
  cases tt ls S <;> rfl
@[simp] theorem ntK_ok {k : Bool} : ntK (.ok k S) = .ok (!k) S := rfl
def aK (t2 : DT) (ls : Lo) : Res Bool → Res Bool
  | .ok true S => t2 ls S
  | .ok false S => .ok false S
  | .exc e S => .exc e S
  | .bad => .bad
@[simp] theorem and_ev : dAndT t1 t2 ls S = aK t2 ls (t1 ls S) := by
  unfold dAndT aK
  cases t1 ls S <;> first | rfl | skip
  rename_i k S1
  cases k <;> rfl
@[simp] theorem aK_t : aK t2 ls (.ok true S) = t2 ls S := rfl
@[simp] theorem aK_f : aK t2 ls (.ok false S) = .ok false S := rfl
def oK (t2 : DT) (ls : Lo) : Res Bool → Res Bool
  | .ok true S => .ok true S
  | .ok false S => t2 ls S
  | .exc e S => .exc e S
  | .bad => .bad
@[simp] theorem or_ev : dOrT t1 t2 ls S = oK t2 ls (t1 ls S) := by
  unfold dOrT oK
  cases t1 ls S <;> first | rfl | skip
  rename_i k S1
  cases k <;> rfl
@[simp] theorem oK_t : oK t2 ls (.ok true S) = .ok true S := rfl
@[simp] theorem oK_f : oK t2 ls (.ok false S) = t2 ls S := rfl
def avK2 (b : DE) (ls : Lo) (x : W) : Res Bool → Res W
  | .ok true S => b ls S
  | .ok false S => .ok x S
  | .exc e S => .exc e S
  | .bad => .bad
def avK (b : DE) (ls : Lo) : Res W → Res W
  | .ok x S => avK2 b ls x (gTruth x S)
  | .exc e S => .exc e S
  | .bad => .bad
@[simp] theorem av_ev : dAnd a b ls S = avK b ls (a ls S) := by
  unfold dAnd avK
  cases a ls S <;> first | rfl | skip
  rename_i k S1
  show (gTruth k S1).bind _ = avK2 b ls k (gTruth k S1)
  cases gTruth k S1 <;> first | rfl | skip
  rename_i q S2
  cases q <;> rfl
@[simp] theorem avK_ok : avK b ls (.ok x S) = avK2 b ls x (gTruth x S) := rfl
@[simp] theorem avK2_t : avK2 b ls x (.ok true S) = b ls S := rfl
@[simp] theorem avK2_f : avK2 b ls x (.ok false S) = .ok x S := rfl
def ovK2 (b : DE) (ls : Lo) (x : W) : Res Bool → Res W
  | .ok true S => .ok x S
  | .ok false S => b ls S
  | .exc e S => .exc e S
  | .bad => .bad
def ovK (b : DE) (ls : Lo) : Res W → Res W
  | .ok x S => ovK2 b ls x (gTruth x S)
  | .exc e S => .exc e S
  | .bad => .bad
@[simp] theorem ov_ev : dOr a b ls S = ovK b ls (a ls S) := by
  unfold dOr ovK
  cases a ls S <;> first | rfl | skip
  rename_i k S1
  show (gTruth k S1).bind _ = ovK2 b ls k (gTruth k S1)
  cases gTruth k S1 <;> first | rfl | skip
  rename_i q S2
  cases q <;> rfl
@[simp] theorem ovK_ok : ovK b ls (.ok x S) = ovK2 b ls x (gTruth x S) := rfl
@[simp] theorem ovK2_t : ovK2 b ls x (.ok true S) = .ok x S := rfl
@[simp] theorem ovK2_f : ovK2 b ls x (.ok false S) = b ls S := rfl
def nvK2 : Res Bool → Res W
  | .ok k S => .ok (.bl (!k)) S
  | .exc e S => .exc e S
  | .bad => .bad
def nvK : Res W → Res W
  | .ok x S => nvK2 (gTruth x S)
  | .exc e S => .exc e S
  | .bad => .bad
@[simp] theorem nv_ev : dNot a ls S = nvK (a ls S) := by
  unfold dNot nvK
  cases a ls S <;> first | rfl | skip
  rename_i k S1
  show (gTruth k S1).bind _ = nvK2 (gTruth k S1)
  cases gTruth k S1 <;> rfl
@[simp] theorem nvK_ok : nvK (.ok x S) = nvK2 (gTruth x S) := rfl
@[simp] theorem nvK2_ok {k : Bool} : nvK2 (.ok k S) = .ok (.bl (!k)) S := rfl
def ieK (a b : DE) (ls : Lo) : Res Bool → Res W
  | .ok true S => a ls S
  | .ok false S => b ls S
  | .exc e S => .exc e S
  | .bad => .bad
@[simp] theorem ie_ev : dIfE tt a b ls S = ieK a b ls (tt ls S) := by
  unfold dIfE ieK
  cases tt ls S <;> first | rfl | skip
  rename_i k S1
  cases k <;> rfl
@[simp] theorem ieK_t : ieK a b ls (.ok true S) = a ls S := rfl
@[simp] theorem ieK_f : ieK a b ls (.ok false S) = b ls S := rfl
def chK4 (g' : W → W → Store → Res W) (y : W) : Res W → Res W
  | .ok z S => g' y z S
  | .exc e S => .exc e S
  | .bad => .bad
def chK3 (g' : W → W → Store → Res W) (y : W) (c : DE) (ls : Lo) : Res W → Res W
  | .ok (.bl true) S => chK4 g' y (c ls S)
  | .ok (.bl false) S => .ok (.bl false) S
  | .exc e S => .exc e S
  | _ => .bad
def chK2 (g g' : W → W → Store → Res W) (x : W) (c : DE) (ls : Lo) : Res W → Res W
  | .ok y S => chK3 g' y c ls (g x y S)
  | .exc e S => .exc e S
  | .bad => .bad
def chK (g g' : W → W → Store → Res W) (b c : DE) (ls : Lo) : Res W → Res W
  | .ok x S => chK2 g g' x c ls (b ls S)
  | .exc e S => .exc e S
  | .bad => .bad
@[simp] theorem ch_ev : dChain g g' a b c ls S = chK g g' b c ls (a ls S) := by
  unfold dChain chK
  cases a ls S <;> first | rfl | skip
  rename_i x S1
  show (b ls S1).bind _ = chK2 g g' x c ls (b ls S1)
  cases b ls S1 <;> first | rfl | skip
  rename_i y S2
  show (g x y S2).bind _ = chK3 g' y c ls (g x y S2)
  cases g x y S2 <;> first | rfl | skip
  rename_i k S3
  cases k <;> first | rfl | skip
  rename_i k
  cases k <;> first | rfl | skip
  show (c ls S3).bind _ = chK4 g' y (c ls S3)
  cases c ls S3 <;> rfl
@[simp] theorem chK_ok : chK g g' b c ls (.ok x S) = chK2 g g' x c ls (b ls S) := rfl
@[simp] theorem chK2_ok : chK2 g g' x c ls (.ok y S) = chK3 g' y c ls (g x y S) := rfl
@[simp] theorem chK3_t : chK3 g' y c ls (.ok (.bl true) S) = chK4 g' y (c ls S) := rfl
@[simp] theorem chK3_f : chK3 g' y c ls (.ok (.bl false) S) = .ok (.bl false) S := rfl
@[simp] theorem chK4_ok : chK4 g' y (.ok w S) = g' y w S := rfl
/-! statements -/
@[simp] theorem nx_ev : dNx ls S = .nx ls S := rfl
@[simp] theorem bk_ev : dBk ls S = .bk ls S := rfl
@[simp] theorem ct_ev : dCt ls S = .ct ls S := rfl
@[simp] theorem rtn_ev : dRetN ls S = .rt .non S := rfl
def sqK (n : DS) : RS → RS
  | .nx ls S => n ls S
  | r => r
@[simp] theorem sq_ev : dSeq m n ls S = sqK n (m ls S) := by
  unfold dSeq sqK
  cases m ls S <;> rfl
@[simp] theorem sqK_nx : sqK n (.nx ls S) = n ls S := rfl
@[simp] theorem sqK_rt : sqK n (.rt w S) = .rt w S := rfl
@[simp] theorem sqK_bk : sqK n (.bk ls S) = .bk ls S := rfl
@[simp] theorem sqK_ct : sqK n (.ct ls S) = .ct ls S := rfl
def ifK (m n : DS) (ls : Lo) : Res Bool → RS
  | .ok true S => m ls S
  | .ok false S => n ls S
  | .exc e S => .ex e ls S
  | .bad => .bad
@[simp] theorem if_ev : dIf tt m n ls S = ifK m n ls (tt ls S) := by
  unfold dIf rsOfB ifK
  cases tt ls S <;> first | rfl | skip
  rename_i k S1
  cases k <;> rfl
@[simp] theorem ifK_t : ifK m n ls (.ok true S) = m ls S := rfl
@[simp] theorem ifK_f : ifK m n ls (.ok false S) = n ls S := rfl
def setK (i : Nat) (ls : Lo) : Res W → RS
  | .ok w S => .nx (ls.set i (some w)) S
  | .exc e S => .ex e ls S
  | .bad => .bad
@[simp] theorem set_ev : dSet i a ls S = setK i ls (a ls S) := by
  unfold dSet rsOf setK
  cases a ls S <;> rfl
@[simp] theorem setK_ok : setK i ls (.ok w S) = .nx (ls.set i (some w)) S := rfl
def exK (ls : Lo) : Res W → RS
  | .ok _ S => .nx ls S
  | .exc e S => .ex e ls S
  | .bad => .bad
@[simp] theorem ex_ev : dExpr a ls S = exK ls (a ls S) := by
  unfold dExpr rsOf exK
  cases a ls S <;> rfl
@[simp] theorem exK_ok : exK ls (.ok w S) = .nx ls S := rfl
def rtK (ls : Lo) : Res W → RS
  | .ok w S => .rt w S
  | .exc e S => .ex e ls S
  | .bad => .bad
@[simp] theorem rt_ev : dRet a ls S = rtK ls (a ls S) := by
  unfold dRet rsOf rtK
  cases a ls S <;> rfl
@[simp] theorem rtK_ok : rtK ls (.ok w S) = .rt w S := rfl
def sxL (n : Nat) (i : Int) (w : W) (ls : Lo) (S : Store) : Option Cell → RS
  | some (.lst ws) => (match ixN ws.length i with
    | some j => .nx ls (S.set n (.lst (ws.set j w)))
    | none => .bad)
  | _ => .bad
def sxK4 (w x y : W) (ls : Lo) (S : Store) : RS := match x, y with
  | .loc n, .int i => sxL n i w ls S S[n]?
  | _, _ => .bad
def sxK3 (w x : W) (ls : Lo) : Res W → RS
  | .ok y S => sxK4 w x y ls S
  | .exc e S => .ex e ls S
  | .bad => .bad
def sxK2 (w : W) (b : DE) (ls : Lo) : Res W → RS
  | .ok x S => sxK3 w x ls (b ls S)
  | .exc e S => .ex e ls S
  | .bad => .bad
def sxK (a b : DE) (ls : Lo) : Res W → RS
  | .ok w S => sxK2 w b ls (a ls S)
  | .exc e S => .ex e ls S
  | .bad => .bad
@[simp] theorem sx_ev : dSetIx a b c ls S = sxK a b ls (c ls S) := by
  unfold dSetIx sxK
  cases c ls S <;> rfl
@[simp] theorem sxK_ok : sxK a b ls (.ok w S) = sxK2 w b ls (a ls S) := rfl
@[simp] theorem sxK2_ok : sxK2 w b ls (.ok x S) = sxK3 w x ls (b ls S) := rfl
@[simp] theorem sxK3_ok {i : Int} {n : Nat} : sxK3 w (.loc n) ls (.ok (.int i) S) = sxL n i w ls S S[n]? := rfl
@[simp] theorem sxL_ok {i : Int} {n : Nat} : sxL n i w ls S (some (.lst ws)) = (match ixN ws.length i with
    | some j => .nx ls (S.set n (.lst (ws.set j w)))
    | none => .bad) := rfl
def apK2 (x : W) : Res W → Res W
  | .ok w S => gAppend x w S
  | .exc e S => .exc e S
  | .bad => .bad
def apK (b : DE) (ls : Lo) : Res W → Res W
  | .ok x S => (match lstW S x with
    | none => .bad
    | some _ => apK2 x (b ls S))
  | .exc e S => .exc e S
  | .bad => .bad
@[simp] theorem ap_ev : dAppend a b ls S = apK b ls (a ls S) := by
  unfold dAppend apK
  cases a ls S <;> first | rfl | skip
  rename_i x S1
  show (match lstW S1 x with | none => Res.bad | some _ => (b ls S1).bind _) = _
  dsimp only
  cases lstW S1 x <;> first | rfl | skip
  show (b ls S1).bind _ = apK2 x (b ls S1)
  cases b ls S1 <;> rfl
@[simp] theorem apK2_ok : apK2 x (.ok w S) = gAppend x w S := rfl
theorem apK_ok {us : List W} (h : lstW S x = some us) : apK b ls (.ok x S) = apK2 x (b ls S) := by
  show (match lstW S x with | none => Res.bad | some _ => apK2 x (b ls S)) = _
  rw [h]
/-! slices -/
def slK3 (x : W) (l : Option Int) : Res (Option Int) → Res W
  | .ok h S => gSlice x l h S
  | .exc e S => .exc e S
  | .bad => .bad
def slK2 (x : W) (hi : DO) (ls : Lo) : Res (Option Int) → Res W
  | .ok l S => slK3 x l (hi ls S)
  | .exc e S => .exc e S
  | .bad => .bad
def slK (lo hi : DO) (ls : Lo) : Res W → Res W
  | .ok x S => slK2 x hi ls (lo ls S)
  | .exc e S => .exc e S
  | .bad => .bad
variable {lo hi : DO} {l h : Option Int}
@[simp] theorem sl_ev : dSl a lo hi ls S = slK lo hi ls (a ls S) := by
  unfold dSl slK
  cases a ls S <;> first | rfl | skip
  rename_i x S1
  show (lo ls S1).bind _ = slK2 x hi ls (lo ls S1)
  cases lo ls S1 <;> first | rfl | skip
  rename_i l S2
  show (hi ls S2).bind _ = slK3 x l (hi ls S2)
  cases hi ls S2 <;> rfl
@[simp] theorem slK_ok : slK lo hi ls (.ok x S) = slK2 x hi ls (lo ls S) := rfl
@[simp] theorem slK2_ok : slK2 x hi ls (.ok l S) = slK3 x l (hi ls S) := rfl
@[simp] theorem slK3_ok : slK3 x l (.ok h S) = gSlice x l h S := rfl
@[simp] theorem nop_ev : dNoP ls S = .ok none S := rfl
def partK : Res W → Res (Option Int)
  | .ok (.int i) S => .ok (some i) S
  | .exc e S => .exc e S
  | _ => .bad
@[simp] theorem part_ev : dPart a ls S = partK (a ls S) := by
  unfold dPart partK
  cases a ls S <;> first | rfl | skip
  rename_i x S1
  cases x <;> rfl
@[simp] theorem partK_ok {i : Int} : partK (.ok (.int i) S) = .ok (some i) S := rfl
/-! defs -/
def mkK : RS → Res W
  | .nx _ S' => .ok .non S'
  | .rt w S' => .ok w S'
  | .ex e _ S' => .exc e S'
  | _ => .bad
@[simp] theorem mkK_nx : mkK (.nx ls S) = .ok .non S := rfl
@[simp] theorem mkK_rt : mkK (.rt w S) = .ok w S := rfl
theorem mk_ev {N np : Nat} (h : ws.length = np) : mkF N np m ws S = mkK (m (startW N ws) S) := by
  unfold mkF mkK
  rw [if_pos h]
  all_goals (cases m (startW N ws) S <;> rfl)
@[simp] theorem mk1_ev {N : Nat} {x1 : W} : mkF N 1 m [x1] S = mkK (m (some x1 :: List.replicate (N - 1) none) S) := mk_ev rfl
@[simp] theorem mk2_ev {N : Nat} {x1 x2 : W} : mkF N 2 m [x1, x2] S = mkK (m (some x1 :: some x2 :: List.replicate (N - 2) none) S) := mk_ev rfl
@[simp] theorem mk3_ev {N : Nat} {x1 x2 x3 : W} : mkF N 3 m [x1, x2, x3] S = mkK (m (some x1 :: some x2 :: some x3 :: List.replicate (N - 3) none) S) := mk_ev rfl
@[simp] theorem mk4_ev {N : Nat} {x1 x2 x3 x4 : W} : mkF N 4 m [x1, x2, x3, x4] S = mkK (m (some x1 :: some x2 :: some x3 :: some x4 :: List.replicate (N - 4) none) S) := mk_ev rfl
@[simp] theorem mk5_ev {N : Nat} {x1 x2 x3 x4 x5 : W} : mkF N 5 m [x1, x2, x3, x4, x5] S = mkK (m (some x1 :: some x2 :: some x3 :: some x4 :: some x5 :: List.replicate (N - 5) none) S) := mk_ev rfl
/-! operations -/
@[simp] theorem add_ii {i j : Int} : gAdd (.int i) (.int j) S = .ok (.int (i + j)) S := rfl
@[simp] theorem sub_ii {i j : Int} : gSub (.int i) (.int j) S = .ok (.int (i - j)) S := rfl
@[simp] theorem lt_ii {i j : Int} : gLt (.int i) (.int j) S = .ok (.bl (decide (i < j))) S := rfl
@[simp] theorem le_ii {i j : Int} : gLe (.int i) (.int j) S = .ok (.bl (decide (i ≤ j))) S := rfl
@[simp] theorem gt_ii {i j : Int} : gGt (.int i) (.int j) S = .ok (.bl (decide (j < i))) S := rfl
@[simp] theorem ge_ii {i j : Int} : gGe (.int i) (.int j) S = .ok (.bl (decide (j ≤ i))) S := rfl
@[simp] theorem eq_ii {i j : Int} : gEq (.int i) (.int j) S = .ok (.bl (decide (i = j))) S := by
  show Res.ok (W.bl (false != decide (i = j))) S = _
  rw [false_bne]
@[simp] theorem eq_ss {i j : Str} : gEq (.str i) (.str j) S = .ok (.bl (decide (i = j))) S := by
  show Res.ok (W.bl (false != decide (i = j))) S = _
  rw [false_bne]
@[simp] theorem eq_bb {i j : Bool} : gEq (.bl i) (.bl j) S = .ok (.bl (decide (i = j))) S := by
  show Res.ok (W.bl (false != decide (i = j))) S = _
  rw [false_bne]
@[simp] theorem ne_ii {i j : Int} : gNe (.int i) (.int j) S = .ok (.bl (!decide (i = j))) S := by
  show Res.ok (W.bl (true != decide (i = j))) S = _
  rw [true_bne]
@[simp] theorem ne_ss {i j : Str} : gNe (.str i) (.str j) S = .ok (.bl (!decide (i = j))) S := by
  show Res.ok (W.bl (true != decide (i = j))) S = _
  rw [true_bne]
@[simp] theorem ne_bb {i j : Bool} : gNe (.bl i) (.bl j) S = .ok (.bl (!decide (i = j))) S := by
  show Res.ok (W.bl (true != decide (i = j))) S = _
  rw [true_bne]
theorem mul_ii {i j : Int} (h : -(2 ^ 64) < j ∧ j < 2 ^ 64) : gMul (.int i) (.int j) S = .ok (.int (i * j)) S := if_pos (.inr h)
theorem mul_ii' {i j : Int} (h : -(2 ^ 64) < i ∧ i < 2 ^ 64) : gMul (.int i) (.int j) S = .ok (.int (i * j)) S := if_pos (.inl h)
theorem mod_ii {i j : Int} (h : 0 < j) : gMod (.int i) (.int j) S = .ok (.int (i % j)) S := if_pos h
theorem div_ii {i j : Int} (h : 0 < j ∧ j.natAbs.log2 < 9000) : gDiv (.int i) (.int j) S = .ok (.int (i / j)) S := if_pos h
@[simp] theorem neg_i {i : Int} : gNeg (.int i) S = .ok (.int (-i)) S := rfl
@[simp] theorem abs_i {i : Int} : gAbs [.int i] S = .ok (.int (if i < 0 then -i else i)) S := rfl
@[simp] theorem max_ii {i j : Int} : gMax [.int i, .int j] S = .ok (.int (if j > i then j else i)) S := rfl
@[simp] theorem min_ii {i j : Int} : gMin [.int i, .int j] S = .ok (.int (if j < i then j else i)) S := rfl
@[simp] theorem int_i {i : Int} : gInt [.int i] S = .ok (.int i) S := rfl
@[simp] theorem int_b {k : Bool} : gInt [.bl k] S = .ok (.int (if k then 1 else 0)) S := rfl
@[simp] theorem isN_non : gIsN .non .non S = .ok (.bl true) S := rfl
@[simp] theorem notN_non : gNotN .non .non S = .ok (.bl false) S := rfl
/-! subscripts of written sequences -/
@[simp] theorem var0_ev  {w : W} {r : Lo} {S : Store} : dVar 0 (some w :: r) S = .ok w S := rfl
@[simp] theorem set0_ev {α : Type}  {x y : α} {r : List α} : List.set (x :: r) 0 y = y :: r := rfl
@[simp] theorem var1_ev {x0 : Option W} {w : W} {r : Lo} {S : Store} : dVar 1 (x0 :: some w :: r) S = .ok w S := rfl
@[simp] theorem set1_ev {α : Type} {x0 : α} {x y : α} {r : List α} : List.set (x0 :: x :: r) 1 y = x0 :: y :: r := rfl
@[simp] theorem var2_ev {x0 : Option W} {x1 : Option W} {w : W} {r : Lo} {S : Store} : dVar 2 (x0 :: x1 :: some w :: r) S = .ok w S := rfl
@[simp] theorem set2_ev {α : Type} {x0 : α} {x1 : α} {x y : α} {r : List α} : List.set (x0 :: x1 :: x :: r) 2 y = x0 :: x1 :: y :: r := rfl
@[simp] theorem var3_ev {x0 : Option W} {x1 : Option W} {x2 : Option W} {w : W} {r : Lo} {S : Store} : dVar 3 (x0 :: x1 :: x2 :: some w :: r) S = .ok w S := rfl
@[simp] theorem set3_ev {α : Type} {x0 : α} {x1 : α} {x2 : α} {x y : α} {r : List α} : List.set (x0 :: x1 :: x2 :: x :: r) 3 y = x0 :: x1 :: x2 :: y :: r := rfl
@[simp] theorem var4_ev {x0 : Option W} {x1 : Option W} {x2 : Option W} {x3 : Option W} {w : W} {r : Lo} {S : Store} : dVar 4 (x0 :: x1 :: x2 :: x3 :: some w :: r) S = .ok w S := rfl
@[simp] theorem set4_ev {α : Type} {x0 : α} {x1 : α} {x2 : α} {x3 : α} {x y : α} {r : List α} : List.set (x0 :: x1 :: x2 :: x3 :: x :: r) 4 y = x0 :: x1 :: x2 :: x3 :: y :: r := rfl
@[simp] theorem var5_ev {x0 : Option W} {x1 : Option W} {x2 : Option W} {x3 : Option W} {x4 : Option W} {w : W} {r : Lo} {S : Store} : dVar 5 (x0 :: x1 :: x2 :: x3 :: x4 :: some w :: r) S = .ok w S := rfl
@[simp] theorem set5_ev {α : Type} {x0 : α} {x1 : α} {x2 : α} {x3 : α} {x4 : α} {x y : α} {r : List α} : List.set (x0 :: x1 :: x2 :: x3 :: x4 :: x :: r) 5 y = x0 :: x1 :: x2 :: x3 :: x4 :: y :: r := rfl
@[simp] theorem var6_ev {x0 : Option W} {x1 : Option W} {x2 : Option W} {x3 : Option W} {x4 : Option W} {x5 : Option W} {w : W} {r : Lo} {S : Store} : dVar 6 (x0 :: x1 :: x2 :: x3 :: x4 :: x5 :: some w :: r) S = .ok w S := rfl
@[simp] theorem set6_ev {α : Type} {x0 : α} {x1 : α} {x2 : α} {x3 : α} {x4 : α} {x5 : α} {x y : α} {r : List α} : List.set (x0 :: x1 :: x2 :: x3 :: x4 :: x5 :: x :: r) 6 y = x0 :: x1 :: x2 :: x3 :: x4 :: x5 :: y :: r := rfl
@[simp] theorem var7_ev {x0 : Option W} {x1 : Option W} {x2 : Option W} {x3 : Option W} {x4 : Option W} {x5 : Option W} {x6 : Option W} {w : W} {r : Lo} {S : Store} : dVar 7 (x0 :: x1 :: x2 :: x3 :: x4 :: x5 :: x6 :: some w :: r) S = .ok w S := rfl
@[simp] theorem set7_ev {α : Type} {x0 : α} {x1 : α} {x2 : α} {x3 : α} {x4 : α} {x5 : α} {x6 : α} {x y : α} {r : List α} : List.set (x0 :: x1 :: x2 :: x3 :: x4 :: x5 :: x6 :: x :: r) 7 y = x0 :: x1 :: x2 :: x3 :: x4 :: x5 :: x6 :: y :: r := rfl
@[simp] theorem var8_ev {x0 : Option W} {x1 : Option W} {x2 : Option W} {x3 : Option W} {x4 : Option W} {x5 : Option W} {x6 : Option W} {x7 : Option W} {w : W} {r : Lo} {S : Store} : dVar 8 (x0 :: x1 :: x2 :: x3 :: x4 :: x5 :: x6 :: x7 :: some w :: r) S = .ok w S := rfl
@[simp] theorem set8_ev {α : Type} {x0 : α} {x1 : α} {x2 : α} {x3 : α} {x4 : α} {x5 : α} {x6 : α} {x7 : α} {x y : α} {r : List α} : List.set (x0 :: x1 :: x2 :: x3 :: x4 :: x5 :: x6 :: x7 :: x :: r) 8 y = x0 :: x1 :: x2 :: x3 :: x4 :: x5 :: x6 :: x7 :: y :: r := rfl
@[simp] theorem var9_ev {x0 : Option W} {x1 : Option W} {x2 : Option W} {x3 : Option W} {x4 : Option W} {x5 : Option W} {x6 : Option W} {x7 : Option W} {x8 : Option W} {w : W} {r : Lo} {S : Store} : dVar 9 (x0 :: x1 :: x2 :: x3 :: x4 :: x5 :: x6 :: x7 :: x8 :: some w :: r) S = .ok w S := rfl
@[simp] theorem set9_ev {α : Type} {x0 : α} {x1 : α} {x2 : α} {x3 : α} {x4 : α} {x5 : α} {x6 : α} {x7 : α} {x8 : α} {x y : α} {r : List α} : List.set (x0 :: x1 :: x2 :: x3 :: x4 :: x5 :: x6 :: x7 :: x8 :: x :: r) 9 y = x0 :: x1 :: x2 :: x3 :: x4 :: x5 :: x6 :: x7 :: x8 :: y :: r := rfl
@[simp] theorem var10_ev {x0 : Option W} {x1 : Option W} {x2 : Option W} {x3 : Option W} {x4 : Option W} {x5 : Option W} {x6 : Option W} {x7 : Option W} {x8 : Option W} {x9 : Option W} {w : W} {r : Lo} {S : Store} : dVar 10 (x0 :: x1 :: x2 :: x3 :: x4 :: x5 :: x6 :: x7 :: x8 :: x9 :: some w :: r) S = .ok w S := rfl
@[simp] theorem set10_ev {α : Type} {x0 : α} {x1 : α} {x2 : α} {x3 : α} {x4 : α} {x5 : α} {x6 : α} {x7 : α} {x8 : α} {x9 : α} {x y : α} {r : List α} : List.set (x0 :: x1 :: x2 :: x3 :: x4 :: x5 :: x6 :: x7 :: x8 :: x9 :: x :: r) 10 y = x0 :: x1 :: x2 :: x3 :: x4 :: x5 :: x6 :: x7 :: x8 :: x9 :: y :: r := rfl
@[simp] theorem var11_ev {x0 : Option W} {x1 : Option W} {x2 : Option W} {x3 : Option W} {x4 : Option W} {x5 : Option W} {x6 : Option W} {x7 : Option W} {x8 : Option W} {x9 : Option W} {x10 : Option W} {w : W} {r : Lo} {S : Store} : dVar 11 (x0 :: x1 :: x2 :: x3 :: x4 :: x5 :: x6 :: x7 :: x8 :: x9 :: x10 :: some w :: r) S = .ok w S := rfl
@[simp] theorem set11_ev {α : Type} {x0 : α} {x1 : α} {x2 : α} {x3 : α} {x4 : α} {x5 : α} {x6 : α} {x7 : α} {x8 : α} {x9 : α} {x10 : α} {x y : α} {r : List α} : List.set (x0 :: x1 :: x2 :: x3 :: x4 :: x5 :: x6 :: x7 :: x8 :: x9 :: x10 :: x :: r) 11 y = x0 :: x1 :: x2 :: x3 :: x4 :: x5 :: x6 :: x7 :: x8 :: x9 :: x10 :: y :: r := rfl
@[simp] theorem var12_ev {x0 : Option W} {x1 : Option W} {x2 : Option W} {x3 : Option W} {x4 : Option W} {x5 : Option W} {x6 : Option W} {x7 : Option W} {x8 : Option W} {x9 : Option W} {x10 : Option W} {x11 : Option W} {w : W} {r : Lo} {S : Store} : dVar 12 (x0 :: x1 :: x2 :: x3 :: x4 :: x5 :: x6 :: x7 :: x8 :: x9 :: x10 :: x11 :: some w :: r) S = .ok w S := rfl
@[simp] theorem set12_ev {α : Type} {x0 : α} {x1 : α} {x2 : α} {x3 : α} {x4 : α} {x5 : α} {x6 : α} {x7 : α} {x8 : α} {x9 : α} {x10 : α} {x11 : α} {x y : α} {r : List α} : List.set (x0 :: x1 :: x2 :: x3 :: x4 :: x5 :: x6 :: x7 :: x8 :: x9 :: x10 :: x11 :: x :: r) 12 y = x0 :: x1 :: x2 :: x3 :: x4 :: x5 :: x6 :: x7 :: x8 :: x9 :: x10 :: x11 :: y :: r := rfl
theorem ixn0 {n : Nat} : ixN (n + 1) (0 : Int) = some 0 := by
  unfold ixN
  iterate 2 rw [if_pos (by omega)]
  rfl
theorem at0_ev {α : Type}  {x : α} {r : List α} : L2.atI (x :: r) (0 : Int) = some x := by
  unfold L2.atI
  rw [show (x :: r).length = r.length + 1 from rfl, ixn0]
  rfl
theorem ixn1 {n : Nat} : ixN (n + 2) (1 : Int) = some 1 := by
  unfold ixN
  iterate 2 rw [if_pos (by omega)]
  rfl
theorem at1_ev {α : Type} {x0 : α} {x : α} {r : List α} : L2.atI (x0 :: x :: r) (1 : Int) = some x := by
  unfold L2.atI
  rw [show (x0 :: x :: r).length = r.length + 2 from rfl, ixn1]
  rfl
theorem ixn2 {n : Nat} : ixN (n + 3) (2 : Int) = some 2 := by
  unfold ixN
  iterate 2 rw [if_pos (by omega)]
  rfl
theorem at2_ev {α : Type} {x0 : α} {x1 : α} {x : α} {r : List α} : L2.atI (x0 :: x1 :: x :: r) (2 : Int) = some x := by
  unfold L2.atI
  rw [show (x0 :: x1 :: x :: r).length = r.length + 3 from rfl, ixn2]
  rfl
theorem ixn3 {n : Nat} : ixN (n + 4) (3 : Int) = some 3 := by
  unfold ixN
  iterate 2 rw [if_pos (by omega)]
  rfl
theorem at3_ev {α : Type} {x0 : α} {x1 : α} {x2 : α} {x : α} {r : List α} : L2.atI (x0 :: x1 :: x2 :: x :: r) (3 : Int) = some x := by
  unfold L2.atI
  rw [show (x0 :: x1 :: x2 :: x :: r).length = r.length + 4 from rfl, ixn3]
  rfl
theorem ixn4 {n : Nat} : ixN (n + 5) (4 : Int) = some 4 := by
  unfold ixN
  iterate 2 rw [if_pos (by omega)]
  rfl
theorem at4_ev {α : Type} {x0 : α} {x1 : α} {x2 : α} {x3 : α} {x : α} {r : List α} : L2.atI (x0 :: x1 :: x2 :: x3 :: x :: r) (4 : Int) = some x := by
  unfold L2.atI
  rw [show (x0 :: x1 :: x2 :: x3 :: x :: r).length = r.length + 5 from rfl, ixn4]
  rfl
theorem ixn5 {n : Nat} : ixN (n + 6) (5 : Int) = some 5 := by
  unfold ixN
  iterate 2 rw [if_pos (by omega)]
  rfl
theorem at5_ev {α : Type} {x0 : α} {x1 : α} {x2 : α} {x3 : α} {x4 : α} {x : α} {r : List α} : L2.atI (x0 :: x1 :: x2 :: x3 :: x4 :: x :: r) (5 : Int) = some x := by
  unfold L2.atI
  rw [show (x0 :: x1 :: x2 :: x3 :: x4 :: x :: r).length = r.length + 6 from rfl, ixn5]
  rfl
theorem ixn6 {n : Nat} : ixN (n + 7) (6 : Int) = some 6 := by
  unfold ixN
  iterate 2 rw [if_pos (by omega)]
  rfl
theorem at6_ev {α : Type} {x0 : α} {x1 : α} {x2 : α} {x3 : α} {x4 : α} {x5 : α} {x : α} {r : List α} : L2.atI (x0 :: x1 :: x2 :: x3 :: x4 :: x5 :: x :: r) (6 : Int) = some x := by
  unfold L2.atI
  rw [show (x0 :: x1 :: x2 :: x3 :: x4 :: x5 :: x :: r).length = r.length + 7 from rfl, ixn6]
  rfl
theorem ixn7 {n : Nat} : ixN (n + 8) (7 : Int) = some 7 := by
  unfold ixN
  iterate 2 rw [if_pos (by omega)]
  rfl
theorem at7_ev {α : Type} {x0 : α} {x1 : α} {x2 : α} {x3 : α} {x4 : α} {x5 : α} {x6 : α} {x : α} {r : List α} : L2.atI (x0 :: x1 :: x2 :: x3 :: x4 :: x5 :: x6 :: x :: r) (7 : Int) = some x := by
  unfold L2.atI
  rw [show (x0 :: x1 :: x2 :: x3 :: x4 :: x5 :: x6 :: x :: r).length = r.length + 8 from rfl, ixn7]
  rfl
theorem ix_t {i : Int} (h : L2.atI ws i = some w) : gIx (.tup ws) (.int i) S = .ok w S := by
  show (match L2.atI ws i with | some w => Res.ok w S | none => Res.bad) = _
  rw [h]
theorem ix_l {i : Int} {us : List W} (h : lstW S x = some us) (h2 : L2.atI us i = some w) : gIx x (.int i) S = .ok w S := by
  cases x <;> first | (exact absurd (show (none : Option (List W)) = some us from h) (by simp); done) | skip
  · show (match lstW S (.rol _) with | some ws => (match L2.atI ws i with | some w => Res.ok w S | none => Res.bad) | none => Res.bad) = _
    rw [h]
    dsimp only
    rw [h2]
  · show (match lstW S (.loc _) with | some ws => (match L2.atI ws i with | some w => Res.ok w S | none => Res.bad) | none => Res.bad) = _
    rw [h]
    dsimp only
    rw [h2]
theorem ixt0 {x0 : W} : gIx (.tup (x0 :: ws)) (.int 0) S = .ok x0 S := ix_t at0_ev
theorem ixt1 {x0 x1 : W} : gIx (.tup (x0 :: x1 :: ws)) (.int 1) S = .ok x1 S := ix_t at1_ev
theorem ixt2 {x0 x1 x2 : W} : gIx (.tup (x0 :: x1 :: x2 :: ws)) (.int 2) S = .ok x2 S := ix_t at2_ev
theorem ixt3 {x0 x1 x2 x3 : W} : gIx (.tup (x0 :: x1 :: x2 :: x3 :: ws)) (.int 3) S = .ok x3 S := ix_t at3_ev
theorem ixt4 {x0 x1 x2 x3 x4 : W} : gIx (.tup (x0 :: x1 :: x2 :: x3 :: x4 :: ws)) (.int 4) S = .ok x4 S := ix_t at4_ev
theorem lst_loc {n : Nat} (h : S[n]? = some (.lst ws)) : lstW S (.loc n) = some ws := by
  show (match S[n]? with | some (.lst ws) => some ws | _ => none) = _
  rw [h]
theorem ixl {n : Nat} {i : Int} (h : S[n]? = some (.lst ws)) (h2 : L2.atI ws i = some w) : gIx (.loc n) (.int i) S = .ok w S := ix_l (lst_loc h) h2
@[simp] theorem len_tup : gLen [.tup ws] S = .ok (.int ws.length) S := rfl
@[simp] theorem len_rol : gLen [.rol ws] S = .ok (.int ws.length) S := rfl
theorem len_loc {n : Nat} (h : S[n]? = some (.lst ws)) : gLen [.loc n] S = .ok (.int ws.length) S := by
  show (match seqW S (.loc n) with | some us => Res.ok (W.int us.length) S | none => Res.bad) = _
  rw [show seqW S (.loc n) = lstW S (.loc n) from rfl, lst_loc h]
/-! loops -/
noncomputable def forK (g : DG) (m : DS) (ls : Lo) : Res Src → RS
  | .ok src S => dLoop src.stay g m src.items ls S
  | .exc e S => .ex e ls S
  | .bad => .bad
variable {it : DI} {gg : DG} {src : Src} {st : Store → Prop}
@[simp] theorem for_ev : dFor it gg m ls S = forK gg m ls (it ls S) := by
  unfold dFor rsOfI forK
  cases it ls S <;> rfl
@[simp] theorem forK_ok : forK gg m ls (.ok src S) = dLoop src.stay gg m src.items ls S := rfl
def siK2 (w : W) (S : Store) : Option (List W) → Res Src
  | some ws => .ok ⟨ws, stayOf w ws⟩ S
  | none => .bad
def siK : Res W → Res Src
  | .ok w S => siK2 w S (seqW S w)
  | .exc e S => .exc e S
  | .bad => .bad
@[simp] theorem si_ev : dSeqI a ls S = siK (a ls S) := by
  unfold dSeqI siK
  cases a ls S <;> rfl
@[simp] theorem siK_ok : siK (.ok w S) = siK2 w S (seqW S w) := rfl
@[simp] theorem siK2_ok : siK2 w S (some ws) = .ok ⟨ws, stayOf w ws⟩ S := rfl
def r1K : Res W → Res Src
  | .ok (.int j) S => if -(2 ^ 62) ≤ j ∧ j < 2 ^ 62 then .ok ⟨rngW 0 j.toNat, fun _ => True⟩ S else .bad
  | .exc e S => .exc e S
  | _ => .bad
@[simp] theorem r1_ev : dRng1 a ls S = r1K (a ls S) := by
  unfold dRng1 r1K
  cases a ls S <;> first | rfl | skip
  rename_i w S1
  cases w <;> rfl
theorem r1K_ok {j : Int} (h : -(2 ^ 62) ≤ j ∧ j < 2 ^ 62) : r1K (.ok (.int j) S) = .ok ⟨rngW 0 j.toNat, fun _ => True⟩ S := if_pos h
theorem loop_nil (h : st S) : dLoop st gg m [] ls S = .nx ls S := by
  unfold dLoop
  rw [if_pos h]
noncomputable def lpK (st : Store → Prop) (g : DG) (m : DS) (ws : List W) : RS → RS := fun r => match r with
  | .nx ls1 S1 => dLoop st g m ws ls1 S1
  | .ct ls1 S1 => dLoop st g m ws ls1 S1
  | .bk ls1 S1 => .nx ls1 S1
  | r => r
theorem loop_cons {ls0 : Lo} (h : st S) (h2 : gg w ls = some ls0) : dLoop st gg m (w :: ws) ls S = lpK st gg m ws (m ls0 S) := by
  unfold dLoop lpK
  rw [if_pos h, h2]
  all_goals dsimp only
  all_goals (cases m ls0 S <;> rfl)
end
end Fs
set_option maxHeartbeats 4000000
namespace Fs
open PySem L2
/-! ### loops by invariants -/
theorem loop_inv {st : Store → Prop} {gg : DG} {m : DS} (I : Nat → Lo → Store → Prop) (hst : ∀ i ls S, I i ls S → st S) : ∀ (items : List W) (k : Nat),
    (∀ i w ls S, items[i]? = some w → I (k + i) ls S → ∃ ls0 ls1 S1, gg w ls = some ls0 ∧ (m ls0 S = .nx ls1 S1 ∨ m ls0 S = .ct ls1 S1) ∧ I (k + i + 1) ls1 S1) →
    ∀ ls S, I k ls S → ∃ ls1 S1, dLoop st gg m items ls S = .nx ls1 S1 ∧ I (k + items.length) ls1 S1
  | [], k, _, ls, S, h => ⟨ls, S, loop_nil (hst _ _ _ h), h⟩
  | w :: ws, k, hs, ls, S, h => by
    obtain ⟨ls0, ls1, S1, e1, e2, h1⟩ := hs 0 w ls S rfl h
    have ih := loop_inv I hst ws (k + 1) (fun i w' ls' S' e h' => by
      have e3 : k + 1 + i = k + (i + 1) := by omega
      rw [e3] at h' ⊢
      exact hs (i + 1) w' ls' S' (by simpa using e) h') ls1 S1 h1
    obtain ⟨ls2, S2, e3, h2⟩ := ih
    refine ⟨ls2, S2, ?_, ?_⟩
    · rw [loop_cons (hst _ _ _ h) e1]
      rcases e2 with e2 | e2 <;> rw [e2] <;> exact e3
    · rw [List.length_cons, show k + (ws.length + 1) = k + 1 + ws.length by omega]
      exact h2
/-- every turn goes on, or one returns -/
theorem loop_find {st : Store → Prop} {gg : DG} {m : DS} (I : Nat → Lo → Store → Prop) (R : W → Store → Prop) (hst : ∀ i ls S, I i ls S → st S) : ∀ (items : List W) (k : Nat),
    (∀ i w ls S, items[i]? = some w → I (k + i) ls S → ∃ ls0, gg w ls = some ls0 ∧ ((∃ ls1 S1, (m ls0 S = .nx ls1 S1 ∨ m ls0 S = .ct ls1 S1) ∧ I (k + i + 1) ls1 S1) ∨ ∃ v S1, m ls0 S = .rt v S1 ∧ R v S1)) →
    ∀ ls S, I k ls S → (∃ ls1 S1, dLoop st gg m items ls S = .nx ls1 S1 ∧ I (k + items.length) ls1 S1) ∨ ∃ v S1, dLoop st gg m items ls S = .rt v S1 ∧ R v S1
  | [], k, _, ls, S, h => .inl ⟨ls, S, loop_nil (hst _ _ _ h), h⟩
  | w :: ws, k, hs, ls, S, h => by
    obtain ⟨ls0, e1, h1⟩ := hs 0 w ls S rfl h
    rw [loop_cons (hst _ _ _ h) e1]
    rcases h1 with ⟨ls1, S1, e2, h1⟩ | ⟨v, S1, e2, h1⟩
    · have ih := loop_find I R hst ws (k + 1) (fun i w' ls' S' e h' => by
        have e3 : k + 1 + i = k + (i + 1) := by omega
        rw [e3] at h' ⊢
        exact hs (i + 1) w' ls' S' (by simpa using e) h') ls1 S1 h1
      rw [show k + (w :: ws).length = k + 1 + ws.length by rw [List.length_cons]; omega]
      rcases e2 with e2 | e2 <;> rw [e2] <;> exact ih
    · rw [e2]
      exact .inr ⟨v, S1, rfl, h1⟩
theorem sum_loc {S : Store} {n : Nat} {ws : List W} {ns : List Int} (h : S[n]? = some (.lst ws)) (h2 : intsW ws = some ns) : gSum [.loc n] S = .ok (.int ns.sum) S := by
  show (match lstW S (.loc n) with | some us => (match intsW us with | some ns => Res.ok (W.int ns.sum) S | none => Res.bad) | none => Res.bad) = _
  rw [lst_loc h]
  dsimp only
  rw [h2]
theorem tuple_loc {S : Store} {n : Nat} {ws : List W} (h : S[n]? = some (.lst ws)) : gTuple [.loc n] S = .ok (.tup ws) S := by
  show (match seqW S (.loc n) with | some us => Res.ok (W.tup us) S | none => Res.bad) = _
  rw [show seqW S (.loc n) = lstW S (.loc n) from rfl, lst_loc h]
theorem append_loc {S : Store} {n : Nat} {ws : List W} {w : W} (h : S[n]? = some (.lst ws)) (hl : ws.length < 100000) : gAppend (.loc n) w S = .ok .non (S.set n (.lst (ws ++ [w]))) := by
  show (match S[n]? with | some (.lst ws) => if ws.length < sizeLine then Res.ok W.non (S.set n (.lst (ws ++ [w]))) else .bad | _ => .bad) = _
  rw [h]
  exact if_pos (Nat.lt_of_lt_of_le hl (by decide))
/-! ### comprehensions -/
section
variable {it : DI} {vs : List Nat} {j : Nat} {tt : DT} {te : DE} {ls : Lo} {S S1 : Store} {ws : List W} {st : Store → Prop}
noncomputable def lcK (g : DG) (vs : List Nat) (tt : DT) (te : DE) (ls : Lo) : Res Src → Res W
  | .ok src S1 => dLcLoop src.stay g tt te S1.length (wipeW ls vs) src.items (S1 ++ [.lst []])
  | .exc e S => .exc e S
  | .bad => .bad
@[simp] theorem lc_ev {g : DG} : dLc it g vs tt te ls S = lcK g vs tt te ls (it ls S) := by
  unfold dLc lcK
  cases it ls S <;> rfl
theorem lcLoop_nil {g : DG} {D : Nat} (h : st S) : dLcLoop st g tt te D ls [] S = .ok (.loc D) S := by
  unfold dLcLoop
  rw [if_pos h]
theorem lcLoop_cons {g : DG} {D : Nat} {w : W} {ls2 : Lo} {S2 S3 : Store} {y : W} {acc : List W} (h : st S) (h1 : g w ls = some ls2) (h2 : tt ls2 S = .ok true S2) (h3 : te ls2 S2 = .ok y S3) (h4 : S3[D]? = some (.lst acc)) (h5 : acc.length < sizeLine) :
    dLcLoop st g tt te D ls (w :: ws) S = dLcLoop st g tt te D ls ws (S3.set D (.lst (acc ++ [y]))) := by
  rw [dLcLoop, if_pos h]
  simp only [h1, h2, h3, h4, Res.bind, cellLst, if_pos h5, if_true]
theorem lcLoop_skip {g : DG} {D : Nat} {w : W} {ls2 : Lo} {S2 : Store} (h : st S) (h1 : g w ls = some ls2) (h2 : tt ls2 S = .ok false S2) :
    dLcLoop st g tt te D ls (w :: ws) S = dLcLoop st g tt te D ls ws S2 := by
  rw [dLcLoop, if_pos h]
  simp only [h1, h2, Res.bind]
  rfl
/-- by an invariant over (turn, list so far, store) -/
theorem lcLoop_inv {g : DG} {D : Nat} (I : Nat → List W → Store → Prop) (hst : ∀ i acc S, I i acc S → st S) : ∀ (ws : List W) (k : Nat),
    (∀ i w acc S, ws[i]? = some w → I (k + i) acc S → ∃ ls2 b S2, g w ls = some ls2 ∧ tt ls2 S = .ok b S2 ∧ (b = false → I (k + i + 1) acc S2) ∧
      (b = true → ∃ y S3, te ls2 S2 = .ok y S3 ∧ S3[D]? = some (.lst acc) ∧ acc.length < 100000 ∧ I (k + i + 1) (acc ++ [y]) (S3.set D (.lst (acc ++ [y]))))) →
    ∀ acc S, I k acc S → ∃ acc1 S1, dLcLoop st g tt te D ls ws S = .ok (.loc D) S1 ∧ I (k + ws.length) acc1 S1
  | [], k, _, acc, S, h => ⟨acc, S, lcLoop_nil (hst _ _ _ h), h⟩
  | w :: ws, k, hs, acc, S, h => by
    obtain ⟨ls2, b, S2, e1, e2, hf, ht⟩ := hs 0 w acc S rfl h
    have ih := fun acc' S' h' => lcLoop_inv I hst ws (k + 1) (fun i w' ac S' e h' => by
      have e3 : k + 1 + i = k + (i + 1) := by omega
      rw [e3] at h' ⊢
      exact hs (i + 1) w' ac S' (by simpa using e) h') acc' S' h'
    rw [show k + (w :: ws).length = k + 1 + ws.length by rw [List.length_cons]; omega]
    cases b with
    | false =>
      rw [lcLoop_skip (hst _ _ _ h) e1 e2]
      exact ih acc S2 (hf rfl)
    | true =>
      obtain ⟨y, S3, e3, e4, e5, h3⟩ := ht rfl
      rw [lcLoop_cons (hst _ _ _ h) e1 e2 e3 e4 (Nat.lt_of_lt_of_le e5 (by decide))]
      exact ih _ _ h3
theorem get_mid {S cs : Store} {c : Cell} : (S ++ c :: cs)[S.length]? = some c := by
  rw [List.getElem?_append_right (Nat.le_refl _), Nat.sub_self]
  rfl
theorem set_mid {S cs : Store} {c d : Cell} : (S ++ c :: cs).set S.length d = S ++ d :: cs := by
  rw [List.set_append_right _ _ (Nat.le_refl _), Nat.sub_self]
  rfl
/-- what makes new cells alone -/
theorem lc_map {R : W → W → Prop} (hst : ∀ acc cs, st (S1 ++ .lst acc :: cs)) (hl : ws.length < 100000)
    (he : ∀ w S, w ∈ ws → ∃ y cs, te ((wipeW ls vs).set j (some w)) S = .ok y (S ++ cs) ∧ R w y) :
    ∃ ys cs, lcK (dgName j) vs dYes te ls (.ok ⟨ws, st⟩ S1) = .ok (.loc S1.length) (S1 ++ .lst ys :: cs) ∧ ys.length = ws.length ∧ ∀ (i : Nat) (w y : W), ws[i]? = some w → ys[i]? = some y → R w y := by
  have key := lcLoop_inv (st := st) (g := dgName j) (tt := dYes) (te := te) (ls := wipeW ls vs) (D := S1.length) (fun i acc S => (∃ cs, S = S1 ++ .lst acc :: cs) ∧ acc.length = i ∧ i ≤ ws.length ∧ ∀ (i : Nat) (w y : W), ws[i]? = some w → acc[i]? = some y → R w y)
    (fun i acc S h => by
      obtain ⟨⟨cs, rfl⟩, _⟩ := h
      exact hst _ _) ws 0 (fun i w acc S ew h => by
        obtain ⟨⟨cs, rfl⟩, h1, h2, h3⟩ := h
        obtain ⟨y, cs', e, r⟩ := he w (S1 ++ .lst acc :: cs) (List.mem_of_getElem? ew)
        refine ⟨_, true, _, rfl, rfl, fun z => (by cases z), fun _ => ⟨y, _, e, ?_, by omega, ?_, ?_, ?_, ?_⟩⟩
        · rw [List.append_assoc]
          exact get_mid
        · refine ⟨cs ++ cs', ?_⟩
          rw [List.append_assoc]
          exact set_mid
        · rw [List.length_append, h1]
          rfl
        · have := (List.getElem?_eq_some_iff.mp ew).1
          omega
        · intro i' w' y' e1 e2
          by_cases q : i' < acc.length
          · rw [List.getElem?_append_left q] at e2
            exact h3 i' w' y' e1 e2
          · by_cases q2 : i' = acc.length
            · subst q2
              rw [List.getElem?_append_right (Nat.le_refl _), Nat.sub_self] at e2
              cases e2
              rw [show acc.length = i by omega, ew] at e1
              cases e1
              exact r
            · rw [List.getElem?_eq_none (by rw [List.length_append, List.length_singleton]; omega)] at e2
              cases e2) [] (S1 ++ [.lst []]) ⟨⟨[], rfl⟩, rfl, Nat.zero_le _, fun i w y _ e => (by simp at e)⟩
  obtain ⟨ys, S2, e, ⟨cs, rfl⟩, h1, h2, h3⟩ := key
  exact ⟨ys, cs, e, by omega, h3⟩
end
end Fs
set_option maxHeartbeats 4000000
namespace Fs
open PySem L2

/-! ### dicts: keys ints and texts -/
def keyW : W → Option L2.Key
  | .int i => some (.inl i)
  | .str x => some (.inr x)
  | _ => none
def dctW (S : Store) : W → Option (List (L2.Key × W))
  | .loc n => match S[n]? with
    | some (.dct kvs) => some kvs
    | _ => none
  | _ => none
def valW (kvs : List (L2.Key × W)) (k : L2.Key) : Option W := (kvs.find? fun kv => decide (kv.1 = k)).map (·.2)
def putW (kvs : List (L2.Key × W)) (k : L2.Key) (v : W) : List (L2.Key × W) :=
  if kvs.any fun kv => decide (kv.1 = k) then kvs.map fun kv => if kv.1 = k then (kv.1, v) else kv else kvs ++ [(k, v)]
def mergeW (kvs more : List (L2.Key × W)) : List (L2.Key × W) := more.foldl (fun acc kv => putW acc kv.1 kv.2) kvs
theorem putK_def (kvs : List (L2.Key × V)) (k : L2.Key) (v : V) : putK kvs k v = if kvs.any fun kv => decide (kv.1 = k) then kvs.map fun kv => if kv.1 = k then (kv.1, v) else kv else kvs ++ [(k, v)] := rfl
/-- what a dict of ours stands for -/
inductive KVr (K : PySem.W.Frag) (μ : Mu) (H : Hp) : List (L2.Key × V) → List (L2.Key × W) → Prop
  | nil : KVr K μ H [] []
  | cons {k : L2.Key} {v : V} {w : W} {vs : List (L2.Key × V)} {ws : List (L2.Key × W)} : Vr K μ H v w → KVr K μ H vs ws → KVr K μ H ((k, v) :: vs) ((k, w) :: ws)
section
variable {K : PySem.W.Frag} {μ : Mu} {H : Hp} {S : Store}
theorem KVr.of : ∀ {ws : List (L2.Key × W)} {vs : List (L2.Key × V)}, vs.map (·.1) = ws.map (·.1) → VrA K μ H (vs.map (·.2)) (ws.map (·.2)) → KVr K μ H vs ws
  | [], vs, e, h => by
    cases vs with
    | nil => exact .nil
    | cons a b => cases e
  | (k, w) :: ws, vs, e, h => by
    cases vs with
    | nil => cases e
    | cons a b =>
      obtain ⟨k', v⟩ := a
      rw [List.map_cons, List.map_cons] at e h
      injection e with e1 e2
      cases h with
      | cons h1 h2 =>
        have e1 : k' = k := e1
        subst e1
        exact .cons h1 (KVr.of e2 h2)
theorem KVr.keys {ws : List (L2.Key × W)} {vs : List (L2.Key × V)} (h : KVr K μ H vs ws) : vs.map (·.1) = ws.map (·.1) := by
  induction h with
  | nil => rfl
  | cons _ _ ih => rw [List.map_cons, List.map_cons, ih]
theorem KVr.vals {ws : List (L2.Key × W)} {vs : List (L2.Key × V)} (h : KVr K μ H vs ws) : VrA K μ H (vs.map (·.2)) (ws.map (·.2)) := by
  induction h with
  | nil => exact .nil
  | cons h1 _ ih => exact .cons h1 ih
theorem KVr.length {ws : List (L2.Key × W)} {vs : List (L2.Key × V)} (h : KVr K μ H vs ws) : vs.length = ws.length := by
  induction h with
  | nil => rfl
  | cons h1 _ ih => rw [List.length_cons, List.length_cons, ih]
theorem KVr.mono {μ' : Mu} {H' : Hp} (g : Gr μ μ' H H') {ws : List (L2.Key × W)} {vs : List (L2.Key × V)} (h : KVr K μ H vs ws) : KVr K μ' H' vs ws := by
  induction h with
  | nil => exact .nil
  | cons h1 _ ih => exact .cons (h1.mono g) ih
theorem KVr.mono0 {μ' : Mu} {H' : Hp} (g : Gq μ μ' H H') {ws : List (L2.Key × W)} {vs : List (L2.Key × V)} (h : KVr K μ H vs ws) : KVr K μ' H' vs ws := by
  induction h with
  | nil => exact .nil
  | cons h1 _ ih => exact .cons (h1.mono0 g) ih
/-- a dict's value at a key: nothing or two that stand for one another -/
def OptR (K : PySem.W.Frag) (μ : Mu) (H : Hp) : Option V → Option W → Prop
  | none, none => True
  | some v, some w => Vr K μ H v w
  | _, _ => False
theorem OptR.some {o : Option V} {x : W} (h : OptR K μ H o (some x)) : ∃ v, o = Option.some v ∧ Vr K μ H v x := by
  cases o with
  | none => exact False.elim h
  | some v => exact ⟨v, rfl, h⟩
theorem OptR.isSome {o : Option V} {x : Option W} (h : OptR K μ H o x) : o.isSome = x.isSome := by
  cases o <;> cases x <;> first | rfl | exact False.elim h
theorem KVr.val {ws : List (L2.Key × W)} {vs : List (L2.Key × V)} (h : KVr K μ H vs ws) (k : L2.Key) : OptR K μ H (valV vs k) (valW ws k) := by
  induction h with
  | nil => exact True.intro
  | @cons k' v w vs ws h1 _ ih =>
    by_cases e : k' = k
    · rw [valV_pos (p := (k', v)) e]
      have : valW ((k', w) :: ws) k = some w := by simp [valW, List.find?_cons, e]
      rw [this]
      exact h1
    · rw [valV_neg (p := (k', v)) e]
      have : valW ((k', w) :: ws) k = valW ws k := by simp [valW, List.find?_cons, e]
      rw [this]
      exact ih
theorem KVr.any {ws : List (L2.Key × W)} {vs : List (L2.Key × V)} (h : KVr K μ H vs ws) (k : L2.Key) : (vs.any fun kv => decide (kv.1 = k)) = ws.any fun kv => decide (kv.1 = k) := by
  induction h with
  | nil => rfl
  | cons h1 _ ih => rw [List.any_cons, List.any_cons, ih]
theorem KVr.append {ws ws' : List (L2.Key × W)} {vs vs' : List (L2.Key × V)} (h : KVr K μ H vs ws) (h' : KVr K μ H vs' ws') : KVr K μ H (vs ++ vs') (ws ++ ws') := by
  induction h with
  | nil => exact h'
  | cons h1 _ ih => exact .cons h1 ih
theorem KVr.put {ws : List (L2.Key × W)} {vs : List (L2.Key × V)} (h : KVr K μ H vs ws) (k : L2.Key) {v : V} {w : W} (r : Vr K μ H v w) : KVr K μ H (putK vs k v) (putW ws k w) := by
  rw [putK_def]
  unfold putW
  rw [h.any k]
  cases ws.any fun kv => decide (kv.1 = k) with
  | false => exact h.append (.cons r .nil)
  | true =>
    rw [if_pos rfl, if_pos rfl]
    induction h with
    | nil => exact .nil
    | @cons k' v' w' vs ws h1 _ ih =>
      simp only [List.map_cons]
      by_cases e : k' = k
      · subst e
        rw [if_pos rfl, if_pos rfl]
        exact .cons r ih
      · rw [if_neg e, if_neg e]
        exact .cons h1 ih
theorem KVr.merge {more : List (L2.Key × W)} {rs : List (L2.Key × V)} (h : KVr K μ H rs more) : ∀ {ws : List (L2.Key × W)} {vs : List (L2.Key × V)}, KVr K μ H vs ws → KVr K μ H (mergeK vs rs) (mergeW ws more) := by
  induction h with
  | nil => intro ws vs q; exact q
  | @cons k v w rs more h1 _ ih =>
    intro ws vs q
    exact ih (q.put k h1)
theorem key_v {w : W} {v : V} {k : L2.Key} (r : Vr K μ H v w) (h : keyW w = some k) : v = kV k := by
  cases r <;> first | (cases h; rfl) | cases h
theorem Sim.cellD (s : Sim K μ S H) {w : W} {ws : List (L2.Key × W)} {v : V} (h : dctW S w = some ws) (r : Vr K μ H v w) : ∃ n a xs, w = .loc n ∧ v = .ref a ∧ μ n = some a ∧ H a = some (.dK xs) ∧ KVr K μ H xs ws := by
  cases r with
  | @loc n a h1 =>
    have h' : (match S[n]? with
      | some (.dct kvs) => some kvs
      | _ => none) = some ws := h
    split at h'
    · rename_i ws' e
      cases h'
      obtain ⟨a', h2, xs, h3, h4, h5⟩ := s.cell n _ e
      rw [h1] at h2
      cases h2
      exact ⟨n, a, xs, rfl, rfl, h1, h3, .of h4 h5⟩
    · cases h'
  | _ => exact absurd (show (none : Option (List (L2.Key × W))) = some ws from h) (by simp)
end

/-! ### in, not in, [] of dicts -/
def gDIn (neg : Bool) (x y : W) (S : Store) : Res W := match dctW S y, keyW x with
  | some kvs, some k => .ok (.bl (neg != (valW kvs k).isSome)) S
  | _, _ => .bad
def gDIx (x y : W) (S : Store) : Res W := match dctW S x, keyW y with
  | some kvs, some k => (match valW kvs k with
    | some w => .ok w S
    | none => .bad)
  | _, _ => .bad
section
variable {X : Cx} {Wx : WE} {a b c e : Expr} {es : List Expr} {ma mb mc : DE} {pos : Pos}
theorem op_dIn (hu : X.A.units + 1 < cLine) : OpR X (compareOp .In) (fun x y H Q => ∃ a o, y = .ref a ∧ DGet H a x o ∧ Q (.bl o.isSome) H) := by
  rintro pins s σ H x y v u Q I rx ry ⟨a, o, ey, g, q⟩
  subst ey
  cases (show u = .ref a from ry)
  exact d_in hu I g rx fun s3 I3 => ⟨.bl o.isSome, H, I3, rfl, q⟩
theorem op_dNotIn (hu : X.A.units + 1 < cLine) : OpR X (compareOp .NotIn) (fun x y H Q => ∃ a o, y = .ref a ∧ DGet H a x o ∧ Q (.bl (!o.isSome)) H) := by
  rintro pins s σ H x y v u Q I rx ry ⟨a, o, ey, g, q⟩
  subst ey
  cases (show u = .ref a from ry)
  exact d_notIn hu I g rx fun s3 I3 => ⟨.bl (!o.isSome), H, I3, rfl, q⟩
theorem so_dInB {neg : Bool} {op : CmpOp} (h : OpR X (compareOp op) (fun x y H Q => ∃ a o, y = .ref a ∧ DGet H a x o ∧ Q (.bl (neg != o.isSome)) H)) : SO X (compareOp op) (gDIn neg) := ⟨_, h, fun E x y H μ S wx wy Q hS rx ry hb => by
  unfold gDIn at hb
  split at hb
  · rename_i kvs k e1 e2
    obtain ⟨n, a, xs, rfl, rfl, h1, h2, h3⟩ := hS.cellD e1 ry
    have ek := key_v rx e2
    subst ek
    refine ⟨a, _, rfl, DGet.k h2, ?_⟩
    rw [(h3.val k).isSome]
    exact hb _ H μ (Gr.refl _ _) hS (.bl _)
  · exact False.elim hb⟩
theorem so_dIn (hu : X.A.units + 1 < cLine) : SO X (compareOp .In) (gDIn false) := so_dInB fun pins s σ H x y v u Q I rx ry h => op_dIn hu pins s σ H x y v u Q I rx ry (by simpa only [false_bne] using h)
theorem so_dNotIn (hu : X.A.units + 1 < cLine) : SO X (compareOp .NotIn) (gDIn true) := so_dInB fun pins s σ H x y v u Q I rx ry h => op_dNotIn hu pins s σ H x y v u Q I rx ry (by simpa only [true_bne] using h)
theorem se_dIx (hu : X.A.units + 1 < cLine) (ha : SE X Wx a ma) (hb : SE X Wx b mb) (hs : NoSl b := by exact fun _ _ => rfl) : SE X Wx (.Subscript a b pos) (dOp gDIx ma mb) := by
  obtain ⟨t1, p1, q1⟩ := ha.ex
  obtain ⟨t2, p2, q2⟩ := hb.ex
  refine ⟨_, pe_dget hu p1 p2 hs, fun σ H μ ls S Q hL hS h => ?_⟩
  refine q1 σ H μ ls S _ hL hS (Bd.bind (fun w1 S1 v1 H1 μ1 g1 s1 r1 h1 => ?_) h)
  refine q2 σ H1 μ1 ls S1 _ (hL.mono g1) s1 (Bd.bind (fun w2 S2 v2 H2 μ2 g2 s2 r2 h2 => ?_) h1)
  have r1 := r1.mono g2
  unfold gDIx at h2
  split at h2
  · rename_i kvs k e1 e2
    obtain ⟨n, a, xs, rfl, rfl, h3, h4, h5⟩ := s2.cellD e1 r1
    have ek := key_v r2 e2
    subst ek
    split at h2
    · rename_i w ew
      have := h5.val k
      rw [ew] at this
      obtain ⟨v, ev, rv⟩ := this.some
      refine ⟨a, v, rfl, ?_, h2 v H2 μ2 (Gr.refl _ _) s2 rv⟩
      rw [← ev]
      exact DGet.k h4
    · exact False.elim h2
  · exact False.elim h2

/-! ### displays -/
def dPairs : List (DE × DE) → Lo → Store → Res (List (W × W))
  | [] => fun _ S => .ok [] S
  | (a, b) :: r => fun ls S => (a ls S).bind fun x S1 => (b ls S1).bind fun y S2 => (dPairs r ls S2).bind fun ps S3 => .ok ((x, y) :: ps) S3
inductive PrA (K : PySem.W.Frag) (μ : Mu) (H : Hp) : List (V × V) → List (W × W) → Prop
  | nil : PrA K μ H [] []
  | cons {k v : V} {x w : W} {vs : List (V × V)} {ws : List (W × W)} : Vr K μ H k x → Vr K μ H v w → PrA K μ H vs ws → PrA K μ H ((k, v) :: vs) ((x, w) :: ws)
abbrev RlP (K : PySem.W.Frag) : Mu → Hp → List (V × V) → List (W × W) → Prop := fun μ H v w => PrA K μ H v w
theorem PrA.mono {K : PySem.W.Frag} {μ μ' : Mu} {H H' : Hp} (g : Gr μ μ' H H') {ws : List (W × W)} {vs : List (V × V)} (h : PrA K μ H vs ws) : PrA K μ' H' vs ws := by
  induction h with
  | nil => exact .nil
  | cons h1 h2 _ ih => exact .cons (h1.mono g) (h2.mono g) ih
structure SPr (X : Cx) (Wx : WE) (pos : Pos) (keys : List (Option Expr)) (values : List Expr) (m : Lo → Store → Res (List (W × W))) : Prop where
  ex : ∃ trs, PPs X pos keys values trs ∧ ∀ σ H μ ls S Q, LR X.K μ H σ ls → Sim X.K μ S H → Bd X.K X.mg (RlP X.K) (fun c d H' => Wx c d σ H') μ H (m ls S) Q → tPairs trs σ H Q
theorem sp_nil : SPr X Wx pos [] [] (dPairs []) := ⟨_, pps_nil, fun σ H μ ls S Q hL hS h => h [] H μ (Gr.refl _ _) hS .nil⟩
theorem sp_cons {ks : List (Option Expr)} {vs : List Expr} {ms : List (DE × DE)} (ha : SE X Wx a ma) (hb : SE X Wx b mb) (hr : SPr X Wx pos ks vs (dPairs ms)) : SPr X Wx pos (some a :: ks) (b :: vs) (dPairs ((ma, mb) :: ms)) := by
  obtain ⟨t1, p1, q1⟩ := ha.ex
  obtain ⟨t2, p2, q2⟩ := hb.ex
  obtain ⟨t3, p3, q3⟩ := hr.ex
  refine ⟨_, pps_cons p1 p2 p3, fun σ H μ ls S Q hL hS h => ?_⟩
  refine q1 σ H μ ls S _ hL hS (Bd.bind (fun w1 S1 v1 H1 μ1 g1 s1 r1 h1 => ?_) h)
  refine q2 σ H1 μ1 ls S1 _ (hL.mono g1) s1 (Bd.bind (fun w2 S2 v2 H2 μ2 g2 s2 r2 h2 => ?_) h1)
  refine q3 σ H2 μ2 ls S2 _ ((hL.mono g1).mono g2) s2 (Bd.bind (fun w3 S3 v3 H3 μ3 g3 s3 r3 h3 => ?_) h2)
  exact h3 _ H3 μ3 (Gr.refl _ _) s3 (.cons ((r1.mono g2).mono g3) (r2.mono g3) r3)
def keysW : List (W × W) → Option (List (L2.Key × W))
  | [] => some []
  | (x, w) :: r => match keyW x, keysW r with
    | some k, some rs => some ((k, w) :: rs)
    | _, _ => none
theorem keys_of {K : PySem.W.Frag} {μ : Mu} {H : Hp} {ws : List (W × W)} {vs : List (V × V)} (h : PrA K μ H vs ws) : ∀ {kvs : List (L2.Key × W)}, keysW ws = some kvs → ∃ xs : List (L2.Key × V), vs = xs.map (fun kv => (kV kv.1, kv.2)) ∧ KVr K μ H xs kvs := by
  induction h with
  | nil => intro kvs e; cases e; exact ⟨[], rfl, .nil⟩
  | @cons k v x w vs ws h1 h2 _ ih =>
    intro kvs e
    unfold keysW at e
    split at e
    · rename_i k' rs e1 e2
      cases e
      obtain ⟨xs, ex, rx⟩ := ih e2
      have ek := key_v h1 e1
      subst ek
      exact ⟨(k', v) :: xs, by rw [List.map_cons, ← ex], .cons h2 rx⟩
    · cases e
def dDisp (ps : List (DE × DE)) : DE := fun ls S => (dPairs ps ls S).bind fun qs S1 => match keysW qs with
  | some kvs => if kvs.length ≤ 15 then .ok (.loc S1.length) (S1 ++ [.dct (mergeW [] kvs)]) else .bad
  | none => .bad
theorem se_new : SE X Wx (.Dict [] [] pos) (dDisp []) := by
  refine ⟨_, pe_dnewK, fun σ H μ ls S Q hL hS h => ?_⟩
  intro p hp
  exact h (.ref p) _ _ (gr_cell hS hp) (hS.alloc (c := .dct []) hp ⟨[], upd_same, rfl, .nil⟩) (.loc muAdd_same)
theorem se_disp {keys : List (Option Expr)} {values : List Expr} {ps : List (DE × DE)} (hp : SPr X Wx pos keys values (dPairs ps)) (hall : keys.all (·.isSome) = true := by rfl) (hl : keys.length = values.length := by rfl) (h0 : keys ≠ [] := by exact fun z => by cases z)
    (h15 : keys.length ≤ 15 := by decide) : SE X Wx (.Dict keys values pos) (dDisp ps) := by
  obtain ⟨t1, p1, q1⟩ := hp.ex
  refine ⟨_, pe_disp p1 hall hl h0 h15, fun σ H μ ls S Q hL hS h => ?_⟩
  intro p hpn
  have hmu : ∀ n, μ n ≠ some p := fun n z => by
    obtain ⟨u, e, _⟩ := hS.there z
    rw [hpn] at e
    cases e
  refine q1 σ _ μ ls S _ (hL.mono (gr_new hpn)) (hS.new hpn) ?_
  unfold dDisp at h
  cases er : dPairs ps ls S with
  | bad => rw [er] at h; exact False.elim h
  | exc e S' =>
    rw [er] at h
    exact fun c d H' μ' g s x => h c d H' μ' ((gr_new hpn).trans g) s x
  | ok qs S1 =>
    rw [er] at h
    intro vs H2 μ2 g s r
    have hk2 := g.kp p _ upd_same hmu
    refine ⟨hk2.1, ?_⟩
    replace h : Bd X.K X.mg (RlV X.K) (fun c d H' => Wx c d σ H') μ H (match keysW qs with
      | some kvs => if kvs.length ≤ 15 then .ok (.loc S1.length) (S1 ++ [.dct (mergeW [] kvs)]) else .bad
      | none => .bad) Q := h
    split at h
    · rename_i kvs ek
      split at h
      · rename_i hz
        obtain ⟨xs, ex, rx⟩ := keys_of r ek
        refine ⟨xs, ex, by rw [rx.length]; exact hz, ?_⟩
        have gq : Gq μ2 μ2 H2 (upd H2 p (.dK (mergeK [] xs))) := ⟨fun _ _ z => z, fun a u z f => by
          rw [upd_ne (fun e => by subst e; rw [hk2.1] at z; cases z; cases f)]
          exact z⟩
        have s' : Sim X.K μ2 S1 (upd H2 p (.dK (mergeK [] xs))) := ⟨fun n c z => by
          obtain ⟨a, z1, z2⟩ := s.cell n c z
          exact ⟨a, z1, z2.mono0 gq (upd_ne fun e => hk2.2 n (by rw [← e]; exact z1))⟩, s.inj, s.top⟩
        have mm : ∀ n a, μ2 n = some a → muAdd μ2 S1.length p n = some a := fun n a z => by rw [muAdd_ne (fun e => by rw [e, s.top _ (Nat.le_refl _)] at z; cases z)]; exact z
        have gq2 : Gq μ2 (muAdd μ2 S1.length p) H2 (upd H2 p (.dK (mergeK [] xs))) := ⟨mm, gq.fx⟩
        have rm := (rx.merge .nil).mono0 gq2
        have g' := (gr_new (u := .dK []) hpn).trans g
        refine h (.ref p) _ (muAdd μ2 S1.length p) ⟨fun n a z => mm n a (g'.mu n a z), fun a u z f => gq.fx a u (g'.fx a u z f) f, fun a u z f => ?_⟩ (s'.add (c := .dct _) hk2.2 ⟨_, upd_same, rm.keys, rm.vals⟩) (.loc muAdd_same)
        have hne : a ≠ p := fun e => by subst e; rw [hpn] at z; cases z
        obtain ⟨z1, z2⟩ := g'.kp a u z f
        refine ⟨by rw [upd_ne hne]; exact z1, fun n e => ?_⟩
        by_cases e' : n = S1.length
        · subst e'
          rw [muAdd_same] at e
          exact hne (Option.some.inj e).symm
        · rw [muAdd_ne e'] at e
          exact z2 n e
      · exact False.elim h
    · exact False.elim h

/-! ### dict(pairs) -/
def pairsW : List W → Option (List (L2.Key × W))
  | [] => some []
  | .tup [x, w] :: r => match keyW x, pairsW r with
    | some k, some rs => some ((k, w) :: rs)
    | _, _ => none
  | _ => none
theorem pairs_ofW {K : PySem.W.Frag} {μ : Mu} {H : Hp} : ∀ {ws : List W} {vs : List V} {kvs : List (L2.Key × W)}, VrA K μ H vs ws → pairsW ws = some kvs → ∃ (ps : List Addr) (xs : List (L2.Key × V)), vs = ps.map V.ref ∧ Paired (fun p kv => SqT K H p [kV kv.1, kv.2]) ps xs ∧ KVr K μ H xs kvs
  | [], _, kvs, h, e => by
    cases h
    cases e
    exact ⟨[], [], rfl, .nil, .nil⟩
  | w0 :: ws, _, kvs, h, e => by
    cases h with
    | cons h1 h2 =>
      unfold pairsW at e
      split at e
      · rename_i heq
        cases heq
      · rename_i x w r heq
        injection heq with q1 q2
        subst q1
        subst q2
        split at e
        · rename_i k rs e1 e2
          cases e
          obtain ⟨ps, xs, ev, pr, kr⟩ := pairs_ofW h2 e2
          cases h1 with
          | @tup p ys _ t1 t2 =>
          cases t2 with
          | cons t2 t3 =>
            cases t3 with
            | cons t3 t4 =>
              cases t4
              have ek := key_v t2 e1
              subst ek
              exact ⟨p :: ps, (k, _) :: xs, by rw [List.map_cons, ← ev], .cons t1.t pr, .cons t3 kr⟩
        · cases e
      · cases e
def gDict (ws : List W) (S : Store) : Res W := match ws with
  | [w] => match lstW S w with
    | some us => (match pairsW us with
      | some kvs => .ok (.loc S.length) (S ++ [.dct (mergeW [] kvs)])
      | none => .bad)
    | none => .bad
  | _ => .bad
theorem sc_dict (hc : X.calm = true) : SC X (.type "dict") gDict := ⟨_, call_dictP hc, fun E xs H μ S ws Q hS rx hb => by
  unfold gDict at hb
  split at hb
  · cases rx with
    | cons r1 r2 =>
      cases r2
      split at hb
      · rename_i us eu
        split at hb
        · rename_i kvs ek
          obtain ⟨a, ys, rfl, hq, r⟩ := lst_of hS eu r1
          obtain ⟨ps, xs, rfl, pr, kr⟩ := pairs_ofW r ek
          refine ⟨a, ps, xs, rfl, hq, pr, fun p hp => ?_⟩
          have rm := (kr.merge .nil).mono (gr_cell (u := .dK (mergeK [] xs)) hS hp)
          exact hb (.ref p) _ _ (gr_cell hS hp) (hS.alloc (c := .dct _) hp ⟨_, upd_same, rm.keys, rm.vals⟩) (.loc muAdd_same)
        · exact False.elim hb
      · exact False.elim hb
  · exact False.elim hb⟩
end
end Fs
set_option maxHeartbeats 4000000
namespace Fs
open PySem L2
/-! ### defs that may raise -/
def spX (K : PySem.W.Frag) (mg : Str → Option Value) (n : Nat) (f : DF) : Sp := fun vs H Q E => ∃ μ ws S, ws.length = n ∧ Sim K μ S H ∧ VrA K μ H vs ws ∧ Bd K mg (RlV K) E μ H (f ws S) Q
structure FokX (P : Program) (w : World) (K : PySem.W.Frag) (mg : Str → Option Value) (x : Str) (k : Nat) (ps : List Str) (fn : DF) : Prop where
  ex : ∃ (f : Addr) (fd : FuncData), (∀ base, FnOk P w K mg base (L2.CX P w) k f fd ps (spX K mg ps.length fn)) ∧ mg x = some (.ref f) ∧ PySem.W.keepIn K (.ref f) = true ∧ Binds K fd ps [] ∧
    ∀ (s : Shared) (us : List Value), us.length = ps.length → BindsTo s fd ⟨us, []⟩ (ps.zip us)
theorem args_len : ∀ (as : List DE) ls S ws S', dArgs as ls S = .ok ws S' → ws.length = as.length := fun as => by
  induction as with
  | nil => intro ls S ws S' e; cases e; rfl
  | cons a r ih =>
    intro ls S ws S' e
    unfold dArgs at e
    cases e1 : a ls S with
    | ok w S1 =>
      rw [e1] at e
      dsimp only [Res.bind] at e
      cases e2 : dArgs r ls S1 with
      | ok us S2 =>
        rw [e2] at e
        cases e
        rw [List.length_cons, List.length_cons, ih _ _ _ _ e2]
      | exc _ _ => rw [e2] at e; cases e
      | bad => rw [e2] at e; cases e
    | exc _ _ => rw [e1] at e; cases e
    | bad => rw [e1] at e; cases e
section
variable {X : Cx} {Wx : WX} {e : Expr} {es : List Expr} {pos p : Pos}
theorem se_callX {x : Str} {k k' : Nat} {ps : List Str} {fn : DF} {as : List DE} (h : FokX X.prog X.w X.K X.mg x k ps fn) (hr : Room k' X.A) (tk : Takes X Wx) (ha : SA X Wx (e :: es) (dArgs as)) (hk : k ≤ k' := by first | omega | (simp only [Nat.add_eq]; omega)) (hg : Gl X x := by rfl) (hdb : (x == ("__debug__" : Str)) = false := by decide) (he : starEach (e :: es) X.env = (false, eval e X.env) :: starEach es X.env := by rfl) (hpl : (backTo pos (starEach es X.env)).any (·.1) = false := by rfl)
    (hn : as.length = ps.length := by rfl) : SE X Wx (.Call (.Name x p) (e :: es) [] pos) (dCall fn as) := by
  obtain ⟨f, fd, h2, h3, h4, h5, _⟩ := h.ex
  obtain ⟨t1, p1, q1⟩ := ha.ex
  refine ⟨_, pe_callS (E := L2.WE Wx) (h2 X.base) (hr.mono hk) hg h3 h4 h5 (fun σ => passAt tk σ) p1 hdb he hpl, fun σ H μ ls S Q hL hS h => ?_⟩
  have hlen : ∀ ws S', dArgs as ls S = .ok ws S' → ws.length = ps.length := fun ws S' e => by rw [args_len as ls S ws S' e, hn]
  unfold dCall at h
  cases ea : dArgs as ls S with
  | bad => rw [ea] at h; exact False.elim h
  | exc x S1 =>
    rw [ea] at h
    exact q1 σ H μ ls S _ hL hS (by rw [ea]; exact h)
  | ok ws S1 =>
    rw [ea] at h
    refine q1 σ H μ ls S _ hL hS ?_
    rw [ea]
    intro vs H1 μ1 g1 s1 r1
    exact ⟨μ1, ws, S1, hlen ws S1 ea, s1, r1, Bd.mono g1 h⟩
/-- raise X("..."), X an own class without __init__ -/
def dRaise (x : Str) : DS := fun ls S => .ex ⟨x, []⟩ ls S
theorem ss_raise {x : Str} {C : Addr} (hc : X.calm = true) (tk : Takes X Wx) (hm : X.mg x = some (.ref C)) (he : PMk X e fun σ H E => E (.ref C) none H) : SS X Wx (.Raise (some e) none pos) (dRaise x) :=
  ⟨_, ps_raise hc tk he, fun σ H μ ls S D hL hS h => h σ (.ref C) none H μ (Gr.refl _ _) hS hL ⟨hm, .inl ⟨rfl, rfl⟩⟩⟩
end
section
variable {P : Program} {w : World} {K : PySem.W.Frag} {mg : Str → Option Value}
/-- the context's wish of a def that may raise -/
theorem FokX.of {x : Str} {st : Stmt} {k : Nat} {N ps : List Str} {m : DS} (F : DefAt K mg x st) (S : FnScope N ps (defScope st))
    (hbind : ∀ (kV doc pm : Value) (an : Option Addr) (cdv ct : Value) (us : List Value), us.length = ps.length → bindArgs (PySem.W.fnOf x x (defArgs st) (defBody st) (defScope st) .none kV doc pm an cdv ct) ⟨us, []⟩ = pure (ps.zip us))
    (hb : ∀ (base : Heap) (f : Addr) (cdv : Value) (A : Around) (outer : List Env) (s : Shared) (H : Hp) (E : XK), Room k (A.deeper (PyProof.Rows.envOfC x (defScope st) s.heap.objs.size f cdv)) →
      Takes (cxOf (L2.CX P w) P w K mg base N x (defScope st) f cdv A outer s H E) (fun cls d _ H => E cls d H) →
      SSs (cxOf (L2.CX P w) P w K mg base N x (defScope st) f cdv A outer s H E) (fun cls d _ H => E cls d H) (defBody st) m) : FokX P w K mg x (k + 1) ps (mkF N.length ps.length m) := by
  obtain ⟨f, fd, F, hm⟩ := F.ex
  refine ⟨f, fd, fun base => ?_, hm, F.kp, F.bindsN hbind, F.bindsA hbind⟩
  refine F.ok S (fun vs H Q E h => ?_) (fun cdv A outer s H vs Q E hr h => ?_)
  · obtain ⟨μ, ws, S', h1, h2, h3, h4⟩ := h
    rw [h3.length, h1]
  · obtain ⟨μ, ws, S', h1, h2, h3, h4⟩ := h
    obtain ⟨t, p, q⟩ := (hb base f cdv A outer s H E hr (takes_of rfl rfl rfl rfl)).ex
    refine ⟨t, p, q _ H μ (startW N.length ws) S' _ (LR.atStart h3) h2 ?_⟩
    unfold mkF at h4
    rw [if_pos h1] at h4
    cases e : m (startW N.length ws) S' with
    | nx ls S1 => rw [e] at h4; exact fun σ' H' μ' g s l => h4 .non H' μ' g s .non
    | rt v S1 => rw [e] at h4; exact h4
    | bk ls S1 => rw [e] at h4; exact False.elim h4
    | ct ls S1 => rw [e] at h4; exact False.elim h4
    | ex x ls S1 => rw [e] at h4; exact fun σ' c d H' μ' g s l r => h4 c d H' μ' g s r
    | bad => rw [e] at h4; exact False.elim h4
end
end Fs
namespace Fs
open PySem L2
/-! ### a block's reading by its denotation alone (what a try asks of its body: one reading for every wish) -/
def tSem (X : Cx) (Wx : WX) (m : DS) : TS := fun D σ H => ∃ μ ls S, LR X.K μ H σ ls ∧ Sim X.K μ S H ∧ BdS X Wx μ H (m ls S) D
theorem sem_of {X : Cx} {Wx : WX} {st : List Stmt} {m : DS} (h : SSs X Wx st m) : PSs X st (tSem X Wx m) := by
  obtain ⟨t, p, q⟩ := h.ex
  exact ⟨fun pins s σ H D I hw => by
    obtain ⟨μ, ls, S, h1, h2, h3⟩ := hw
    exact p.run pins s σ H D I (q σ H μ ls S D h1 h2 h3)⟩
end Fs
set_option maxHeartbeats 4000000
/-! the order of tuples, where the first unlike places alone need be comparable -/
namespace Od
open PySem PySem.SeqAt
open PySem.AutoSeq1 (wpAny_loadPart')
open PySem.MeetsSeq PySem.MeetsSeq2 PySem.MeetsSeq3
/-- pair by pair: alike ones are passed, the first unlike one decides -/
inductive OrdL (op : CmpOp) (A : Around) (s : Shared) (fin : Bool) : List (Value × Value) → Bool → Prop
  | nil : OrdL op A s fin [] fin
  | eq {y x : Value} {r : List (Value × Value)} {k : Bool} : EqAt A s y x true → OrdL op A s fin r k → OrdL op A s fin ((y, x) :: r) k
  | ne {y x : Value} {r : List (Value × Value)} {k : Bool} : EqAt A s y x false → Ob.RcOp op A s y x k → OrdL op A s fin ((y, x) :: r) k
theorem lt_meets (l b : Addr) (us ws : Array Value) (n n' : Nat) (d d' : Option Addr) (sl sl' : Array (Option Value)) : Meets (Builtin.«tuple.__lt__» ⟨[.ref l, .ref b], []⟩) fun A R s =>
    (s.heap.get? l = some ⟨.type "tuple", d, .seq us n, sl⟩ ∧ s.heap.get? b = some ⟨.type "tuple", d', .seq ws n', sl'⟩) ∧ ∃ k, OrdL .Lt A.in1 s (decide (us.size < ws.size)) (us.toList.zip ws.toList) k ∧ R (.ok (.ret (.bool k))) s :=
  Meets.of_wp fun prog w A R ⟨hp, g, dr, tk, os⟩ ⟨⟨e1, e2⟩, k, ho, hR⟩ => by
    have sub := AutoSeq1.sub_tuple_tuple
    wp_walk using wpAny_loadPart' e1, wpAny_loadPart' e2, wpAny_forIn_list _ (fun rest c t => (c.1 = none ∧ t = ⟨hp, g, dr, tk, os⟩) ∧ OrdL .Lt A.in1 ⟨hp, g, dr, tk, os⟩ (decide (us.size < ws.size)) rest k) _
    case turn =>
      rintro ⟨y, x⟩ rest c t ⟨⟨c1, rfl⟩, o⟩
      cases o with
      | eq q o' =>
        refine wpAny_bind (q prog w _ _ ?_)
        wp_walk
        exact ⟨⟨rfl, rfl⟩, o'⟩
      | ne q q' =>
        refine wpAny_bind (q prog w _ _ ?_)
        have z1 := q' prog w
        wp_walk using z1
        refine ⟨_, rfl, ?_⟩
        simpa using hR
    case fin =>
      rintro ⟨c1, c2⟩ t ⟨⟨c3, rfl⟩, o⟩
      cases (show c1 = none from c3)
      cases o
      wp_walk
      refine ⟨_, rfl, ?_⟩
      simpa [Builtin.Tuple.tupleCompareSizes] using hR
    case h => exact ⟨⟨rfl, rfl⟩, ho⟩
theorem gt_meets (l b : Addr) (us ws : Array Value) (n n' : Nat) (d d' : Option Addr) (sl sl' : Array (Option Value)) : Meets (Builtin.«tuple.__gt__» ⟨[.ref l, .ref b], []⟩) fun A R s =>
    (s.heap.get? l = some ⟨.type "tuple", d, .seq us n, sl⟩ ∧ s.heap.get? b = some ⟨.type "tuple", d', .seq ws n', sl'⟩) ∧ ∃ k, OrdL .Gt A.in1 s (decide (ws.size < us.size)) (us.toList.zip ws.toList) k ∧ R (.ok (.ret (.bool k))) s :=
  Meets.of_wp fun prog w A R ⟨hp, g, dr, tk, os⟩ ⟨⟨e1, e2⟩, k, ho, hR⟩ => by
    have sub := AutoSeq1.sub_tuple_tuple
    wp_walk using wpAny_loadPart' e1, wpAny_loadPart' e2, wpAny_forIn_list _ (fun rest c t => (c.1 = none ∧ t = ⟨hp, g, dr, tk, os⟩) ∧ OrdL .Gt A.in1 ⟨hp, g, dr, tk, os⟩ (decide (ws.size < us.size)) rest k) _
    case turn =>
      rintro ⟨y, x⟩ rest c t ⟨⟨c1, rfl⟩, o⟩
      cases o with
      | eq q o' =>
        refine wpAny_bind (q prog w _ _ ?_)
        wp_walk
        exact ⟨⟨rfl, rfl⟩, o'⟩
      | ne q q' =>
        refine wpAny_bind (q prog w _ _ ?_)
        have z1 := q' prog w
        wp_walk using z1
        refine ⟨_, rfl, ?_⟩
        simpa using hR
    case fin =>
      rintro ⟨c1, c2⟩ t ⟨⟨c3, rfl⟩, o⟩
      cases (show c1 = none from c3)
      cases o
      wp_walk
      refine ⟨_, rfl, ?_⟩
      simpa [Builtin.Tuple.tupleCompareSizes] using hR
    case h => exact ⟨⟨rfl, rfl⟩, ho⟩
/-- which of the two orders -/
def cop (gt : Bool) : CmpOp := if gt then .Gt else .Lt
theorem tup_ord {gt : Bool} {A : Around} {s : Shared} {l b : Addr} {us ws : Array Value} {k : Bool} (hl : s.heap.IsTuple l us) (hb : s.heap.IsTuple b ws) (hu : A.units < cLine)
    (ho : OrdL (cop gt) A.in1 s (if gt then decide (ws.size < us.size) else decide (us.size < ws.size)) (us.toList.zip ws.toList) k) : Ob.RcOp (cop gt) A s (.ref l) (.ref b) k := by
  obtain ⟨⟨c1, d1, t1, sl1⟩, g1, rfl, n1, rfl⟩ := id hl
  obtain ⟨⟨c2, d2, t2, sl2⟩, g2, rfl, n2, rfl⟩ := id hb
  intro prog w E Q q
  cases gt with
  | false =>
    exact richCompare_meets_room (op := .Lt) ⟨_, g1, rfl⟩ ⟨_, g2, rfl⟩ F.slot_tuple_lt F.entry_tuple_lt (F.args_tuple_lt_2 _ _) (lt_meets l b us ws n1 n2 d1 d2 sl1 sl2)
      ⟨⟨g1, g2⟩, k, ho, (fun z => nomatch z), q⟩ hu
  | true =>
    exact richCompare_meets_room (op := .Gt) ⟨_, g1, rfl⟩ ⟨_, g2, rfl⟩ F.slot_tuple_gt F.entry_tuple_gt (F.args_tuple_gt_2 _ _) (gt_meets l b us ws n1 n2 d1 d2 sl1 sl2)
      ⟨⟨g1, g2⟩, k, ho, (fun z => nomatch z), q⟩ hu
mutual
/-- a < b | a > b of data, where Python has it -/
def ordD (gt : Bool) : PyData → PyData → Option Bool
  | .int i, .int j => some (if gt then decide (j < i) else decide (i < j))
  | .tuple xs, .tuple ys => ordA gt xs ys
  | .list xs, .list ys => if gt then none else ordL xs ys
  | _, _ => none
def ordA (gt : Bool) : List PyData → List PyData → Option Bool
  | [], [] => some false
  | [], _ :: _ => some (!gt)
  | _ :: _, [] => some gt
  | x :: xs, y :: ys => if PyData.eqv x y = true then ordA gt xs ys else ordD gt x y
/-- lists: all pairs comparable -/
def ordL : List PyData → List PyData → Option Bool
  | [], [] => some false
  | [], _ :: _ => some true
  | _ :: _, [] => some false
  | x :: xs, y :: ys => match ordL xs ys with
    | some k => if PyData.eqv x y = true then some k else ordD false x y
    | none => none
end
theorem ordL_cons {x y : PyData} {xs ys : List PyData} : ordL (x :: xs) (y :: ys) = (match ordL xs ys with
    | some k => if PyData.eqv x y = true then some k else ordD false x y
    | none => none) := by rw [ordL]
/-- what a pair's order is worth, where it is asked -/
def ordV (x y : PyData) : Bool := (ordD false x y).getD false
theorem firstLt_cons (e r : Nat → Bool) (fin : Bool) (n : Nat) : firstLt e r fin (List.range (n + 1)) = if e 0 = true then firstLt (fun j => e (j + 1)) (fun j => r (j + 1)) fin (List.range n) else r 0 := by
  rw [List.range_succ_eq_map]
  have key : ∀ l : List Nat, firstLt e r fin (l.map Nat.succ) = firstLt (fun j => e (j + 1)) (fun j => r (j + 1)) fin l := fun l => by
    induction l with
    | nil => rfl
    | cons a l ih => rw [List.map_cons, firstLt, firstLt, ih]
  rw [firstLt, key]
theorem firstLt_ordL : ∀ (xs ys : List PyData) (k : Bool), ordL xs ys = some k →
    firstLt (pairEq xs ys) (fun j => ordV (xs.getD j .none) (ys.getD j .none)) (decide (xs.length < ys.length)) (List.range (min xs.length ys.length)) = k
  | [], [], k, h => by rw [ordL] at h; cases h; rfl
  | [], y :: ys, k, h => by
    rw [ordL] at h
    cases h
    have z : decide (([] : List PyData).length < (y :: ys).length) = true := by simp
    rw [z]
    rfl
  | x :: xs, [], k, h => by
    rw [ordL] at h
    cases h
    have z : decide ((x :: xs).length < ([] : List PyData).length) = false := by simp
    rw [z]
    rfl
  | x :: xs, y :: ys, k, h => by
    rw [ordL_cons] at h
    cases q : ordL xs ys with
    | none => rw [q] at h; cases h
    | some k' =>
      rw [q] at h
      have ih := firstLt_ordL xs ys k' q
      have em : min (x :: xs).length (y :: ys).length = min xs.length ys.length + 1 := by rw [List.length_cons, List.length_cons]; omega
      have ed : decide ((x :: xs).length < (y :: ys).length) = decide (xs.length < ys.length) := decide_eq_decide.mpr Nat.add_lt_add_iff_right
      rw [em, ed, firstLt_cons]
      cases e : PyData.eqv x y with
      | true =>
        rw [if_pos (show pairEq (x :: xs) (y :: ys) 0 = true from e)]
        dsimp only at h
        rw [e, if_pos rfl] at h
        cases h
        exact ih
      | false =>
        rw [if_neg (show ¬ pairEq (x :: xs) (y :: ys) 0 = true by rw [show pairEq (x :: xs) (y :: ys) 0 = PyData.eqv x y from rfl, e]; exact Bool.false_ne_true)]
        dsimp only at h
        rw [e, if_neg Bool.false_ne_true] at h
        show ordV x y = k
        unfold ordV
        rw [h]
        rfl
theorem ordA_cons {gt : Bool} {x y : PyData} {xs ys : List PyData} : ordA gt (x :: xs) (y :: ys) = if PyData.eqv x y = true then ordA gt xs ys else ordD gt x y := by rw [ordA]
mutual
theorem rc_of (gt : Bool) : ∀ (da db : PyData) (A : Around) (s : Shared) (a b : Value) (as bs : List Addr) (k : Bool), Reads s.heap a da as → Reads s.heap b db bs → da.canLay0 = true → db.canLay0 = true →
    A.units + min da.depth db.depth < cLine → ordD gt da db = some k → Ob.RcOp (cop gt) A s a b k
  | .int i, db, A, s, a, b, as, bs, k, ra, rb, la, lb, hu, h => by
    cases db with
    | int j =>
      cases ra
      cases rb
      rw [ordD] at h
      cases h
      cases gt with
      | false => exact Ob.RcOp.lt_int _ _ _ _
      | true => exact Ob.RcOp.gt_int _ _ _ _
    | _ => simp [ordD] at h
  | .tuple xs, db, A, s, a, b, as, bs, k, ra, rb, la, lb, hu, h => by
    cases db with
    | tuple ys =>
      cases ra with
      | @tuple p ob us m _ cs h1 h2 h3 h4 =>
        cases rb with
        | @tuple p' ob' us' m' _ cs' k1 k2 k3 k4 =>
          have n1 : us.size = xs.length := Array.length_toList.symm.trans (ReadsAll.length _ _ _ h4)
          have n2 : us'.size = ys.length := Array.length_toList.symm.trans (ReadsAll.length _ _ _ k4)
          refine tup_ord ⟨_, h1, h2, _, h3⟩ ⟨_, k1, k2, _, k3⟩ (room_here hu) ?_
          rw [n1, n2]
          exact rcA_of gt xs ys A.in1 s _ _ _ _ k h4 k4 (by rw [PyData.canLay0] at la; exact la) (by rw [PyData.canLay0] at lb; exact lb) (room_in hu) (by rw [ordD] at h; exact h)
    | _ => simp [ordD] at h
  | .none, _, _, _, _, _, _, _, _, _, _, _, _, _, h => by simp [ordD] at h
  | .bool _, _, _, _, _, _, _, _, _, _, _, _, _, _, h => by simp [ordD] at h
  | .str _, _, _, _, _, _, _, _, _, _, _, _, _, _, h => by simp [ordD] at h
  | .list xs, db, A, s, a, b, as, bs, k, ra, rb, la, lb, hu, h => by
    cases db with
    | list ys =>
      cases gt with
      | true => simp [ordD] at h
      | false =>
        rw [ordD, if_neg Bool.false_ne_true] at h
        cases ra with
        | @list p ob us m _ cs h1 h2 h3 h4 =>
          cases rb with
          | @list p' ob' us' m' _ cs' k1 k2 k3 k4 =>
            have n1 : us.size = xs.length := Array.length_toList.symm.trans (ReadsAll.length _ _ _ h4)
            have n2 : us'.size = ys.length := Array.length_toList.symm.trans (ReadsAll.length _ _ _ k4)
            rw [PyData.canLay0] at la lb
            have z := firstLt_ordL xs ys k h
            rw [← n1, ← n2] at z
            have R := RcLt.lists (A := A) (s := s) (e := pairEq xs ys) (r := fun j => ordV (xs.getD j .none) (ys.getD j .none)) ⟨_, h1, h2, _, h3⟩ ⟨_, k1, k2, _, k3⟩ (room_here hu) (fun j j1 j2 => by
              have := PySem.SeqAt.eqAt_readsAll xs ys A.in1 s us.toList us'.toList _ _ h4 k4 la lb (room_in hu) j (by simpa using j1) (by simpa using j2)
              simpa using this) (fun j j1 j2 hj => by
              have := rcL_of xs ys A.in1 s us.toList us'.toList _ _ k h4 k4 la lb (room_in hu) h j (by simpa using j1) (by simpa using j2) hj
              simpa using this)
            rw [z] at R
            exact R
    | _ => simp [ordD] at h
  | .dict _, _, _, _, _, _, _, _, _, _, _, _, _, _, h => by simp [ordD] at h
theorem rcA_of (gt : Bool) : ∀ (xs ys : List PyData) (A : Around) (s : Shared) (vs ws : List Value) (as bs : List Addr) (k : Bool), ReadsAll s.heap vs xs as → ReadsAll s.heap ws ys bs → PyData.canLayAll0 xs = true → PyData.canLayAll0 ys = true →
    A.units + min (PyData.depthAll xs) (PyData.depthAll ys) < cLine → ordA gt xs ys = some k → OrdL (cop gt) A s (if gt then decide (ys.length < xs.length) else decide (xs.length < ys.length)) (vs.zip ws) k
  | [], [], A, s, vs, ws, as, bs, k, ra, rb, _, _, _, h => by
    cases ra
    cases rb
    rw [ordA] at h
    cases h
    cases gt <;> exact OrdL.nil
  | [], y :: ys, A, s, vs, ws, as, bs, k, ra, rb, _, _, _, h => by
    cases ra
    rw [ordA] at h
    cases h
    rw [List.zip_nil_left]
    cases gt
    · have z : decide (([] : List PyData).length < (y :: ys).length) = true := by simp
      rw [if_neg Bool.false_ne_true, z]
      exact OrdL.nil
    · have z : decide ((y :: ys).length < ([] : List PyData).length) = false := by simp
      rw [if_pos rfl, z]
      exact OrdL.nil
  | x :: xs, [], A, s, vs, ws, as, bs, k, ra, rb, _, _, _, h => by
    cases rb
    rw [ordA] at h
    cases h
    rw [List.zip_nil_right]
    cases gt
    · have z : decide ((x :: xs).length < ([] : List PyData).length) = false := by simp
      rw [if_neg Bool.false_ne_true, z]
      exact OrdL.nil
    · have z : decide (([] : List PyData).length < (x :: xs).length) = true := by simp
      rw [if_pos rfl, z]
      exact OrdL.nil
  | x :: xs, y :: ys, A, s, vs, ws, as, bs, k, ra, rb, la, lb, hu, h => by
    rw [PyData.canLayAll0, Bool.and_eq_true] at la lb
    cases ra with
    | cons r rs =>
      cases rb with
      | cons r' rs' =>
        rw [List.zip_cons_cons]
        have q := PySem.SeqAt.eqAt_reads x y A s _ _ _ _ r r' la.1 lb.1 (room_head hu)
        rw [ordA_cons] at h
        have ez : (if gt then decide ((y :: ys).length < (x :: xs).length) else decide ((x :: xs).length < (y :: ys).length)) = (if gt then decide (ys.length < xs.length) else decide (xs.length < ys.length)) := by
          rw [decide_eq_decide.mpr (show (y :: ys).length < (x :: xs).length ↔ ys.length < xs.length from Nat.add_lt_add_iff_right), decide_eq_decide.mpr (show (x :: xs).length < (y :: ys).length ↔ xs.length < ys.length from Nat.add_lt_add_iff_right)]
        rw [ez]
        cases e : PyData.eqv x y with
        | true =>
          rw [e, if_pos rfl] at h
          rw [e] at q
          exact .eq q (rcA_of gt xs ys A s _ _ _ _ k rs rs' la.2 lb.2 (room_tail hu) h)
        | false =>
          rw [e, if_neg Bool.false_ne_true] at h
          rw [e] at q
          exact .ne q (rc_of gt x y A s _ _ _ _ k r r' la.1 lb.1 (room_head hu) h)
theorem rcL_of : ∀ (xs ys : List PyData) (A : Around) (s : Shared) (vs ws : List Value) (as bs : List Addr) (k : Bool), ReadsAll s.heap vs xs as → ReadsAll s.heap ws ys bs → PyData.canLayAll0 xs = true → PyData.canLayAll0 ys = true →
    A.units + min (PyData.depthAll xs) (PyData.depthAll ys) < cLine → ordL xs ys = some k → ∀ j (h1 : j < vs.length) (h2 : j < ws.length), pairEq xs ys j = false → RcLt A s vs[j] ws[j] (ordV (xs.getD j .none) (ys.getD j .none))
  | [], _, _, _, _, _, _, _, _, ra, _, _, _, _, _, j, h1, _, _ => by cases ra; exact absurd h1 (Nat.not_lt_zero _)
  | _ :: _, [], _, _, _, _, _, _, _, _, rb, _, _, _, _, j, _, h2, _ => by cases rb; exact absurd h2 (Nat.not_lt_zero _)
  | x :: xs, y :: ys, A, s, _, _, _, _, k, ra, rb, la, lb, hu, h, j, h1, h2, hj => by
    rw [PyData.canLayAll0, Bool.and_eq_true] at la lb
    rw [ordL_cons] at h
    cases q : ordL xs ys with
    | none => rw [q] at h; cases h
    | some k' =>
      rw [q] at h
      dsimp only at h
      cases ra with
      | cons r rs =>
        cases rb with
        | cons r' rs' =>
          cases j with
          | zero =>
            have e : PyData.eqv x y = false := hj
            rw [e, if_neg Bool.false_ne_true] at h
            show RcLt A s _ _ (ordV x y)
            unfold ordV
            rw [h]
            exact rc_of false x y A s _ _ _ _ k r r' la.1 lb.1 (room_head hu) h
          | succ j => exact rcL_of xs ys A s _ _ _ _ k' rs rs' la.2 lb.2 (room_tail hu) q j (Nat.lt_of_succ_lt_succ h1) (Nat.lt_of_succ_lt_succ h2) hj
end
end Od
namespace Fs
open PySem L2
/-- < | > of numbers and nested tuples of numbers -/
def gOrd (gt : Bool) (x y : W) (S : Store) : Res W := match x, y with
  | .int i, .int j => .ok (.bl (if gt then decide (j < i) else decide (i < j))) S
  | x, y => if SeqAt.shaped (toD S x) = true ∧ SeqAt.shaped (toD S y) = true then (match Od.ordD gt (toD S x) (toD S y) with
    | some k => .ok (.bl k) S
    | none => .bad) else .bad
section
variable {X : Cx}
theorem op_ord {gt : Bool} (hu : X.A.units + 64 < cLine) : OpR X (compareOp (Od.cop gt)) (fun x y H Q => ∃ d e k, Dp X.K H x d ∧ Dp X.K H y e ∧ SeqAt.shaped d = true ∧ SeqAt.shaped e = true ∧ Od.ordD gt d e = some k ∧ Q (.bl k) H) := by
  rintro pins s σ H x y v u Q I rx ry ⟨d, e, k, hd, he, sd, se, hk, q⟩
  obtain ⟨⟨as, r1⟩, bs, r2⟩ := And.intro (Dp.reads I d x v hd rx) (Dp.reads I e y u he ry)
  have z := Od.rc_of gt d e X.A s v u as bs k r1 r2 (SeqAt.canLay_of_shaped sd) (SeqAt.canLay_of_shaped se) (SeqAt.room_of_shaped sd hu) hk
  cases gt with
  | false => exact z _ _ _ _ ⟨.bl k, H, I, rfl, q⟩
  | true => exact z _ _ _ _ ⟨.bl k, H, I, rfl, q⟩
theorem so_ord {gt : Bool} (hu : X.A.units + 64 < cLine) : SO X (compareOp (Od.cop gt)) (gOrd gt) := by
  refine ⟨_, op_ord (gt := gt) hu, fun E x y H μ S wx wy Q hS rx ry hb => ?_⟩
  unfold gOrd at hb
  split at hb
  · rename_i i j
    cases rx
    cases ry
    exact ⟨.int i, .int j, _, .int i, .int j, rfl, rfl, by rw [Od.ordD], hb _ H μ (Gr.refl _ _) hS (.bl _)⟩
  · split at hb
    · rename_i c
      split at hb
      · rename_i k ek
        exact ⟨_, _, k, dp_of hS rx (shaped_lay c.1), dp_of hS ry (shaped_lay c.2), c.1, c.2, ek, hb _ H μ (Gr.refl _ _) hS (.bl _)⟩
      · exact False.elim hb
    · exact False.elim hb
theorem so_ltN (hu : X.A.units + 64 < cLine) : SO X (compareOp .Lt) (gOrd false) := so_ord (gt := false) hu
theorem so_gtN (hu : X.A.units + 64 < cLine) : SO X (compareOp .Gt) (gOrd true) := so_ord (gt := true) hu
end
end Fs
set_option maxHeartbeats 4000000
/-! t[::-1] of a tuple; index and count -/
namespace Rv
open PySem PySem.Spec PyProof.Rows L2 Fs
section
variable {prog : Program} {w : World} {A : Around} {E : Value → Shared → Prop} {s : Shared}
theorem applied {sl : Addr} {tk : Tok} {n : Nat} {Q : Int × Int × Nat → Shared → Prop} (hs : s.heap.IsSliceOf sl .none .none (.int (-1) tk)) (h : Q ((n : Int) - 1, -1, n) s) : wpAny (model prog w) A (Builtin.Slice.sliceApplied (.ref sl) (pure (n : Int))) Q E s := by
  obtain ⟨ob, g1, g2, g3⟩ := id hs
  delta Builtin.Slice.sliceApplied Builtin.Slice.sliceFields; refine wpAny_bind (wpAny_bind (wpAny_field g1 g3 (x := .none) rfl (wpAny_bind (wpAny_field g1 g3 (x := .none) rfl (wpAny_bind (wpAny_field g1 g3 (x := .int (-1) tk) rfl (wpAny_pure ?_)))))))
  refine wpAny_bind (slicePart_int ?_)
  show wpAny _ _ (if ((-1 : Int) == 0) = true then _ else _) _ _ s
  rw [if_neg (by decide)]
  refine wpAny_bind (slicePart_none (wpAny_bind (slicePart_none (wpAny_bind (wpAny_pure ?_)))))
  have e1 : Builtin.Slice.sliceAdjust none none (-1) (n : Int) = ((n : Int) - 1, -1) := by simp [Builtin.Slice.sliceAdjust]
  have e2 : Builtin.Slice.slicePlaces ((n : Int) - 1) (-1) (-1) = n := by
    simp [Builtin.Slice.slicePlaces]
    all_goals omega
  show wpAny _ _ (match Builtin.Slice.sliceAdjust none none (-1) (n : Int) with | (lo, hi) => pure (lo, (-1 : Int), Builtin.Slice.slicePlaces lo hi (-1))) _ _ s
  rw [e1]
  show wpAny _ _ (pure ((n : Int) - 1, (-1 : Int), Builtin.Slice.slicePlaces ((n : Int) - 1) (-1) (-1))) _ _ s
  rw [e2]
  exact wpAny_pure h
theorem fm_congr {α β : Type} (f g : α → Option β) : ∀ l : List α, (∀ x ∈ l, f x = g x) → l.filterMap f = l.filterMap g
  | [], _ => rfl
  | x :: l, h => by rw [List.filterMap_cons, List.filterMap_cons, h x List.mem_cons_self, fm_congr f g l fun y hy => h y (List.mem_cons_of_mem _ hy)]
theorem picked (xs : Array Value) : ((List.range xs.size).filterMap fun (m : Nat) => xs[(((xs.size : Nat) : Int) - 1 + (m : Int) * (-1)).toNat]?).toArray = xs.toList.reverse.toArray := by
  have z := PySem.W.krv_pick xs
  unfold slicePick at z
  rw [PySem.W.krv_bounds] at z
  have z' : ((sliceRange ((xs.size : Int) - 1) (-1) (-1)).filterMap (xs[·]?)).toArray = xs.toList.reverse.toArray := z
  rw [PySem.W.krv_sliceRange, List.filterMap_map] at z'
  rw [← z']
  refine congrArg List.toArray (fm_congr _ _ _ fun m hm => ?_)
  have := List.mem_range.mp hm
  have e : (((xs.size : Nat) : Int) - 1 + (m : Int) * (-1)).toNat = xs.size - 1 - m := by omega
  rw [e]
  rfl
theorem getItem_back {t sl : Addr} {items : Array Value} {tk : Tok} {Q : Value → Shared → Prop} (ht : IsTup s.heap t items) (hs : s.heap.IsSliceOf sl .none .none (.int (-1) tk))
    (h : Q (.ref s.heap.objs.size) { s with heap := s.heap.push { cls := .type "tuple", data := .seq items.toList.reverse.toArray } }) (hz : items.size ≤ sizeLine) : wpAny (model prog w) A (getItem (.ref t) (.ref sl)) Q E s := by
  have room : sizeOk (.seq items.toList.reverse.toArray) := by
    show items.toList.reverse.toArray.size ≤ sizeLine
    rw [List.size_toArray, List.length_reverse, Array.length_toList]
    exact hz
  obtain ⟨ob, g1, g2, g3⟩ := id hs
  have hT : s.TypeIs (.ref sl) "slice" := ⟨ob, g1, g2⟩
  unfold getItem
  refine wpAny_holding (wpAny_bind (wpAny_sequenceKey ht.typeIs (by decide) ?_))
  refine wpAny_bind (wpAny_callSpecial?_slot ht.typeIs slot_tuple_getitem ?_)
  refine wpAny_call_entry slot_tuple_getitem ht.typeIs PyProof.Rows.entry_tuple_getitem ?_ (PyProof.Rows.args_tuple_getitem _ _)
  refine wpAny_bind (m := Builtin.Tuple.tupleItemsOf (.ref t)) (tupleItemsOf_ ht (wpAny_bind (wpAny_typeOf hT ?_)))
  rw [if_pos (by decide)]
  refine wpAny_bind (applied (tk := tk) hs ?_)
  show wpAny _ _ (if ((((items.size : Nat) : Int) - 1) == 0 && (-1 : Int) == 1 && items.size == items.size) = true then _ else _) _ _ s
  rw [if_neg (by simp), picked]
  first
    | exact wpAny_bind (m := Builtin.Tuple.tupleExact _) (wpAny_newObj_type (wpAny_pure ⟨_, rfl, wpAny_pure h⟩) room)
    | exact wpAny_bind (m := Builtin.Tuple.tupleExact _) (wpAny_newObj_type (wpAny_bind (wpAny_pure (wpAny_pure ⟨_, rfl, wpAny_pure h⟩))) room)
    | exact wpAny_bind (wpAny_bind (m := Builtin.Tuple.tupleExact _) (wpAny_newObj_type (wpAny_pure (wpAny_pure ⟨_, rfl, wpAny_pure h⟩)) room))
    | exact wpAny_bind (wpAny_bind (m := Builtin.Tuple.tupleExact _) (wpAny_newObj_type (wpAny_pure ⟨_, rfl, wpAny_pure h⟩) room))
end
section
variable {X : Cx}
theorem pe_backT {e : Expr} {te : TE} {k : Nat} {p1 p2 p3 pos : Pos} (he : PE X e te) : PE X (.Subscript e (.Slice none none (some (.UnaryOp .USub (.Constant (.int 1) k p1) p2)) p3) pos)
    (fun σ H Q => te σ H fun x H1 => ∃ a xs, x = .ref a ∧ SqT X.K H1 a xs ∧ ∀ p o, H1 p = none → o.dict = none → Q (.ref p) (upd H1 p (.frz o (.tup xs.reverse)))) := by
  refine ⟨fun pins s σ H Q I h => Subscript_ (thn (he.run pins s σ H _ I h) fun v s1 ⟨x, H1, I1, r1, a, xs, ex, hx, q⟩ => ?_)⟩
  subst ex
  cases r1
  have step := po_some (X := X) (pe_un un_neg (pe_int (i := 1) (j := k) (pos := p1)) (pos := p2))
  refine wpAny_Slice (evalPart_none .. ▸ wpAny_pure (wpAny_pure ?_))
  refine thn (step.run pins s1 σ H1 (fun o H4 => o = some (-1) ∧ H4 = H1) I1 ⟨1, rfl, -1, rfl, rfl, rfl⟩) fun vs s4 ⟨o, H4, I4, ps, eo, e4⟩ => ?_
  subst eo e4
  cases ps with
  | int _ tk =>
  have I5 : Inv X pins σ H4 { s4 with heap := s4.heap.push { cls := .type "slice", data := .fields #[.none, .none, .int (-1) tk] } } := I4.kept (t' := s4.toks) fun b ob q => Heap.get?_push_of_some _ q
  obtain ⟨its, r, ht, hz⟩ := I5.tuple hx
  have hlen : its.toArray.size = xs.length := (List.size_toArray ..).trans r.length.symm
  show wpAny (model X.prog X.w) X.A (subscriptTail e (.Slice none none (some (.UnaryOp .USub (.Constant (.int 1) k p1) p2)) p3) (.ref a) (.ref s4.heap.objs.size)) (EP X pins σ Q) X.xe { s4 with heap := s4.heap.push { cls := .type "slice", data := .fields #[.none, .none, .int (-1) tk] } }
  refine tail_any (ops := [.ref a, .ref s4.heap.objs.size]) ht.typeIs slot_tuple_getitem.lookup ?_ (by with_unfolding_all rfl)
  refine getItem_back (tk := tk) ht (Heap.IsSliceOf.new ..) ?_ (by rw [hlen]; exact hz)
  exact ⟨.ref _, _, Tx.laidD I5 (by rw [List.length_reverse]; exact hz) (by simpa using r.reverse), rfl, q _ _ (I5.hok.fresh (Nat.le_refl _)) rfl⟩
end
end Rv
namespace Fs
open PySem L2
theorem VrA.reverse {K : PySem.W.Frag} {μ : Mu} {H : Hp} : ∀ {ws : List W} {vs : List V}, VrA K μ H vs ws → VrA K μ H vs.reverse ws.reverse
  | [], _, h => by cases h; exact .nil
  | w :: ws, _, h => by
    cases h with
    | cons h1 h2 =>
      simp only [List.reverse_cons]
      exact (VrA.reverse h2).append (.cons h1 .nil)
def gBack (x : W) (S : Store) : Res W := match x with
  | .tup ws => .ok (.tup ws.reverse) S
  | _ => .bad
section
variable {X : Cx} {Wx : WE} {a b c e : Expr} {es : List Expr} {ma mb mc : DE} {pos : Pos}
theorem se_back {k : Nat} {p1 p2 p3 : Pos} (ha : SE X Wx a ma) : SE X Wx (.Subscript a (.Slice none none (some (.UnaryOp .USub (.Constant (.int 1) k p1) p2)) p3) pos) (dUn gBack ma) := by
  obtain ⟨t1, p, q1⟩ := ha.ex
  refine ⟨_, Rv.pe_backT p, fun σ H μ ls S Q hL hS h => ?_⟩
  refine q1 σ H μ ls S _ hL hS (Bd.bind (fun w1 S1 v1 H1 μ1 g1 s1 r1 h1 => ?_) h)
  cases r1 with
  | @tup p xs ws a1 a2 =>
    refine ⟨p, xs, rfl, a1.t, fun q o hq ho => ?_⟩
    exact h1 (.ref q) _ μ1 (gr_new hq) (s1.new hq) (.tup (.of upd_same ho) (a2.reverse.mono (gr_new hq)))
  | _ => exact False.elim h1
/-! ### t.index(x), t of texts; l.index(x), l flat -/
def strsW : List W → Option (List Str)
  | [] => some []
  | .str x :: ws => (strsW ws).map (x :: ·)
  | _ :: _ => none
def posOf (z : Str) : List Str → Option Nat
  | [] => none
  | y :: ys => if y = z then some 0 else (posOf z ys).map (· + 1)
theorem posOf_some {z : Str} : ∀ {ys : List Str} {j : Nat}, posOf z ys = some j → ys[j]? = some z ∧ ∀ m, m < j → ys[m]? ≠ some z
  | [], j, h => by cases h
  | y :: ys, j, h => by
    unfold posOf at h
    by_cases e : y = z
    · rw [if_pos e] at h
      cases h
      exact ⟨by rw [e]; rfl, fun m hm => absurd hm (Nat.not_lt_zero _)⟩
    · rw [if_neg e] at h
      cases q : posOf z ys with
      | none => rw [q] at h; cases h
      | some i =>
        rw [q] at h
        cases h
        obtain ⟨h1, h2⟩ := posOf_some q
        refine ⟨h1, fun m hm => ?_⟩
        cases m with
        | zero => exact fun w => e (Option.some.inj w)
        | succ m => exact h2 m (Nat.lt_of_succ_lt_succ hm)
theorem strs_v {K : PySem.W.Frag} {μ : Mu} {H : Hp} : ∀ {ws : List W} {vs : List V} {ys : List Str}, VrA K μ H vs ws → strsW ws = some ys → vs = ys.map V.str
  | [], vs, ys, h, e => by cases h; cases e; rfl
  | w :: ws, vs, ys, h, e => by
    cases h with
    | cons h1 h2 =>
      cases h1 with
      | str x =>
        unfold strsW at e
        cases q : strsW ws with
        | none => simp [q] at e
        | some zs =>
          rw [q] at e
          cases e
          rw [strs_v h2 q]
          rfl
      | _ => cases e
def gTIx (x : W) (y : W) (S : Store) : Res W := match x, y with
  | .tup ws, .str z => (match strsW ws with
    | some ys => (match posOf z ys with
      | some j => .ok (.int (j : Nat)) S
      | none => .bad)
    | none => .bad)
  | _, _ => .bad
def dTIx (a b : DE) : DE := fun ls S => (a ls S).bind fun x S1 => match x with
  | .tup ws => (b ls S1).bind fun y S2 => gTIx (.tup ws) y S2
  | _ => .bad
theorem se_tindex {apos cpos : Pos} (ha : SE X Wx a ma) (hb : SA X Wx [b] (dArgs [mb]))
    (mk : ∀ {to : TE} {t : TA}, PE X a to → PA X [b] t → PE X (.Call (.Attribute a "index" apos) [b] [] cpos) (fun σ H Q => to σ H fun x H1 => ∃ p xs, x = .ref p ∧ SqD X.K H1 p xs ∧ t σ H1 fun vs H2 =>
      (∃ p, ∃ ys : List Str, ∃ z j, x = .ref p ∧ vs = [.str z] ∧ SqT X.K H2 p (ys.map V.str) ∧ ys[j]? = some z ∧ (∀ m, m < j → ys[m]? ≠ some z) ∧ Q (.int (j : Nat)) H2)) := by exact fun h1 h2 => Tx.pe_bmT PySem.F.slot_tuple_index PySem.F.type_tuple_index mt_tup_index h1 h2) :
    SE X Wx (.Call (.Attribute a "index" apos) [b] [] cpos) (dTIx ma mb) := by
  obtain ⟨t1, p1, q1⟩ := ha.ex
  obtain ⟨t2, p2, q2⟩ := hb.ex
  refine ⟨_, mk p1 p2, fun σ H μ ls S Q hL hS h => ?_⟩
  refine q1 σ H μ ls S _ hL hS (Bd.bind (fun x S1 v1 H1 μ1 g1 s1 r1 h1 => ?_) h)
  cases r1 with
  | @tup p xs ws a1 a2 =>
    refine ⟨p, xs, rfl, a1, ?_⟩
    have key : ∀ {r : Res W}, BdV X Wx σ μ1 H1 (r.bind fun y S2 => gTIx (.tup ws) y S2) Q → BdA X Wx σ μ1 H1 (r.bind fun w S1 => (Res.ok [] S1).bind fun ws S2 => Res.ok (w :: ws) S2) (fun vs H2 =>
        (∃ p', ∃ ys : List Str, ∃ z j, V.ref p = .ref p' ∧ vs = [.str z] ∧ SqT X.K H2 p' (ys.map V.str) ∧ ys[j]? = some z ∧ (∀ m, m < j → ys[m]? ≠ some z) ∧ Q (.int (j : Nat)) H2)) := fun {r} hr => by
      cases r with
      | bad => exact hr
      | exc e S => exact hr
      | ok w S2 =>
        intro vs H2 μ2 g2 s2 r2
        have hr' : BdV X Wx σ μ2 H2 (gTIx (.tup ws) w S2) Q := Bd.mono g2 hr
        cases r2 with
        | @cons v _ _ _ rv rn =>
          cases rn
          unfold gTIx at hr'
          split at hr'
          · rename_i ws' z ex
            cases ex
            cases rv
            split at hr'
            · rename_i ys ey
              split at hr'
              · rename_i j ej
                obtain ⟨b1, b2⟩ := posOf_some ej
                have e := strs_v a2 ey
                refine ⟨p, ys, z, j, rfl, rfl, ?_, b1, b2, hr' _ H2 μ2 (Gr.refl _ _) s2 (.int _)⟩
                rw [← e]
                exact g2.sqt a1.t
              · exact False.elim hr'
            · exact False.elim hr'
          · exact False.elim hr'
    exact q2 σ H1 μ1 ls S1 _ (hL.mono g1) s1 (key h1)
  | _ => exact False.elim h1
/-! l.index(x), l.count(x), all flat -/
def posFl (z : W) : List W → Option Nat
  | [] => none
  | y :: ys => if eqFl y z = true then some 0 else (posFl z ys).map (· + 1)
theorem posFl_some {z : W} : ∀ {ys : List W} {j : Nat}, posFl z ys = some j → (∃ y, ys[j]? = some y ∧ eqFl y z = true) ∧ ∀ m y, m < j → ys[m]? = some y → eqFl y z = false
  | [], j, h => by cases h
  | y :: ys, j, h => by
    unfold posFl at h
    cases e : eqFl y z with
    | true =>
      rw [e, if_pos rfl] at h
      cases h
      exact ⟨⟨y, rfl, e⟩, fun m _ hm => absurd hm (Nat.not_lt_zero _)⟩
    | false =>
      rw [e, if_neg Bool.false_ne_true] at h
      cases q : posFl z ys with
      | none => rw [q] at h; cases h
      | some i =>
        rw [q] at h
        cases h
        obtain ⟨h1, h2⟩ := posFl_some q
        refine ⟨h1, fun m y' hm ey => ?_⟩
        cases m with
        | zero => cases ey; exact e
        | succ m => exact h2 m y' (Nat.lt_of_succ_lt_succ hm) ey
def gLIx (x y : W) (S : Store) : Res W := match lstW S x with
  | some ws => if flatW y = true ∧ allFlat ws = true then (match posFl y ws with
    | some j => .ok (.int (j : Nat)) S
    | none => .bad) else .bad
  | none => .bad
def gLCnt (x y : W) (S : Store) : Res W := match lstW S x with
  | some ws => if flatW y = true ∧ allFlat ws = true then .ok (.int ((ws.countP fun z => eqFl z y : Nat) : Int)) S else .bad
  | none => .bad
/-- o.m(e) with o a list, by its values -/
def dLM (g : W → W → Store → Res W) (a b : DE) : DE := fun ls S => (a ls S).bind fun x S1 => match lstW S1 x with
  | none => .bad
  | some _ => (b ls S1).bind fun w S2 => g x w S2
def rCntF (K : PySem.W.Frag) : V → List V → Hp → VK → Prop := fun x xs H Q => ∃ (a : Addr) (ys : List V) (y : V), x = V.ref a ∧ xs = [y] ∧ SqL K H a ys ∧ flatV y = true ∧ ys.all flatV = true ∧ Q (.int ((ys.countP fun z => eqV z y : Nat) : Int)) H
theorem cnt_eq {y : V} : ∀ {ys : List V} {us : List Value}, Vals ys us → ys.all flatV = true → us.countP (eqU y) = ys.countP fun z => eqV z y
  | _, _, .nil, _ => rfl
  | _, _, .cons r t, f => by
    simp only [List.all_cons, Bool.and_eq_true] at f
    rw [List.countP_cons, List.countP_cons, cnt_eq t f.2, eqU_of r f.1]
theorem mt_cntF : MtR X "list.count" (rCntF X.K) := by
  rintro pins s σ H _ _ v us Q I rx rxs ⟨a, ys, y, rfl, rfl, hs, fy, fys, q⟩
  cases rx
  obtain ⟨uy, rfl, ry⟩ := rxs.one
  obtain ⟨its, rv, ⟨⟨_, dd, _, sl⟩, n, there, rfl, _, rfl⟩, _⟩ := I.list hs
  refine call_meets PySem.F.slot_list_count ⟨_, there, rfl⟩ PySem.F.entry_list_count (PySem.F.args_list_count_2 _ _) (SeqAt.list_countAt a its.toArray n dd sl uy (eqU y)) ⟨there, fun u' hu' => mem_eqAt ry fy rv fys u' (by simpa using hu'), ?_⟩
  have ec : its.toArray.toList.countP (eqU y) = ys.countP fun z => eqV z y := cnt_eq rv fys
  rw [ec]
  exact ⟨.int _, H, I.tok _, ⟨_, rfl⟩, q⟩
theorem se_lm {name : Str} {g : W → W → Store → Res W} {r : V → List V → Hp → VK → Prop} {apos cpos : Pos} (ha : SE X Wx a ma) (hb : SA X Wx [b] (dArgs [mb]))
    (hr : ∀ (E : XK) v1 v w1 w μ H S ws xs p Q, Sim X.K μ S H → lstW S w1 = some ws → v1 = V.ref p → SqL X.K H p xs → VrA X.K μ H xs ws → Vr X.K μ H v w → Bd X.K X.mg (RlV X.K) E μ H (g w1 w S) Q → r v1 [v] H Q)
    (hn : ∀ w1 w S, lstW S w1 = none → g w1 w S = .bad)
    (mk : ∀ {to : TE} {t : TA}, PE X a to → PA X [b] t → PE X (.Call (.Attribute a name apos) [b] [] cpos) (tBM X.K "list" r to t)) :
    SE X Wx (.Call (.Attribute a name apos) [b] [] cpos) (dLM g ma mb) := by
  obtain ⟨t1, p1, q1⟩ := ha.ex
  obtain ⟨t2, p2, q2⟩ := hb.ex
  refine ⟨_, mk p1 p2, fun σ H μ ls S Q hL hS h => ?_⟩
  refine q1 σ H μ ls S _ hL hS (Bd.bind (fun x S1 v1 H1 μ1 g1 s1 r1 h1 => ?_) h)
  split at h1
  · exact False.elim h1
  · rename_i us eu
    obtain ⟨p0, xs0, e0, hq, _⟩ := lst_of s1 eu r1
    refine ⟨by rw [e0]; exact .inl ⟨rfl, xs0, hq⟩, ?_⟩
    have key : ∀ {y : Res W}, BdV X Wx σ μ1 H1 (y.bind fun w S2 => g x w S2) Q → BdA X Wx σ μ1 H1 (y.bind fun w S1 => (Res.ok [] S1).bind fun ws S2 => Res.ok (w :: ws) S2) (fun vs H2 => r v1 vs H2 Q) := fun {y} hy => by
      cases y with
      | bad => exact hy
      | exc e S => exact hy
      | ok w S2 =>
        intro vs H2 μ2 g2 s2 r2
        have hy' : BdV X Wx σ μ2 H2 (g x w S2) Q := Bd.mono g2 hy
        cases r2 with
        | @cons v _ _ _ rv rn =>
          cases rn
          cases el : lstW S2 x with
          | none => rw [hn _ _ _ el] at hy'; exact False.elim hy'
          | some ws =>
            obtain ⟨p, xs, e1, e2, e3⟩ := lst_of s2 el (r1.mono g2)
            exact hr _ v1 v x w μ2 H2 S2 ws xs p Q s2 el e1 e2 e3 rv hy'
    exact q2 σ H1 μ1 ls S1 _ (hL.mono g1) s1 (key h1)
theorem cnt_fl {K : PySem.W.Frag} {μ : Mu} {H : Hp} {x : V} {wx : W} (r : Vr K μ H x wx) (f : flatW wx = true) : ∀ {ws : List W} {vs : List V}, VrA K μ H vs ws → allFlat ws = true → (vs.countP fun z => eqV z x) = ws.countP fun z => eqFl z wx
  | [], _, h, _ => by cases h; rfl
  | w :: ws, _, h, q => by
    cases h with
    | cons h1 h2 =>
      unfold allFlat at q
      rw [List.all_cons, Bool.and_eq_true] at q
      rw [List.countP_cons, List.countP_cons, cnt_fl r f h2 q.2, eq_fl h1 r q.1 f]
theorem se_lcount {apos cpos : Pos} (ha : SE X Wx a ma) (hb : SA X Wx [b] (dArgs [mb]))
    (mk : ∀ {to : TE} {t : TA}, PE X a to → PA X [b] t → PE X (.Call (.Attribute a "count" apos) [b] [] cpos) (tBM X.K "list" (rCntF X.K) to t) := by exact fun h1 h2 => pe_bm PySem.F.plainAttrs_list PySem.F.slot_list_count PySem.F.type_list_count mt_cntF h1 h2) :
    SE X Wx (.Call (.Attribute a "count" apos) [b] [] cpos) (dLM gLCnt ma mb) :=
  se_lm ha hb (fun E v1 v w1 w μ H S ws xs p Q s el e1 e2 e3 rv h => by
    unfold gLCnt at h
    rw [el] at h
    dsimp only at h
    split at h
    · rename_i f
      refine ⟨p, xs, v, e1, rfl, e2, flat_v rv f.1, flat_vs e3 f.2, ?_⟩
      rw [cnt_fl rv f.1 e3 f.2]
      exact h _ H μ (Gr.refl _ _) s (.int _)
    · exact False.elim h) (fun w1 w S e => by unfold gLCnt; rw [e]) mk
theorem allFlat_get {ws : List W} (f : allFlat ws = true) {m : Nat} {w : W} (e : ws[m]? = some w) : flatW w = true := List.all_eq_true.mp f w (List.mem_of_getElem? e)
theorem se_lindex {apos cpos : Pos} (ha : SE X Wx a ma) (hb : SA X Wx [b] (dArgs [mb]))
    (mk : ∀ {to : TE} {t : TA}, PE X a to → PA X [b] t → PE X (.Call (.Attribute a "index" apos) [b] [] cpos) (tBM X.K "list" (rIndex X.K) to t) := by exact fun h1 h2 => pe_bm PySem.F.plainAttrs_list PySem.F.slot_list_index PySem.F.type_list_index mt_index h1 h2) :
    SE X Wx (.Call (.Attribute a "index" apos) [b] [] cpos) (dLM gLIx ma mb) :=
  se_lm ha hb (fun E v1 v w1 w μ H S ws xs p Q s el e1 e2 e3 rv h => by
    unfold gLIx at h
    rw [el] at h
    dsimp only at h
    split at h
    · rename_i f
      split at h
      · rename_i j ej
        obtain ⟨⟨y, b1, b2⟩, b3⟩ := posFl_some ej
        obtain ⟨z, c1, c2⟩ := e3.get b1
        refine ⟨p, xs, v, j, z, e1, rfl, e2, flat_v rv f.1, flat_vs e3 f.2, c1, ?_, fun m z' hm ez => ?_, h _ H μ (Gr.refl _ _) s (.int _)⟩
        · rw [eq_fl c2 rv (allFlat_get f.2 b1) f.1]
          exact b2
        · have hl : m < ws.length := by
            have := (List.getElem?_eq_some_iff.mp ez).1
            rw [e3.length] at this
            exact this
          obtain ⟨z2, d1, d2⟩ := e3.get (List.getElem?_eq_getElem hl)
          rw [ez] at d1
          cases d1
          rw [eq_fl d2 rv (allFlat_get f.2 (List.getElem?_eq_getElem hl)) f.1]
          exact b3 m _ hm (List.getElem?_eq_getElem hl)
      · exact False.elim h
    · exact False.elim h) (fun w1 w S e => by unfold gLIx; rw [e]) mk
end
end Fs
set_option maxHeartbeats 4000000
/-! errors of own classes: raised, caught by a name, asked for their class -/
namespace Fs
open PySem L2
open L2H (RoomH PinOk cxH inv_startH roomH_of)

/-! ### what is known of the classes -/
/-- a class without an __init__ of its own, that may be raised with a text -/
structure Err1 (K : PySem.W.Frag) (mg : Str → Option Value) (x : Str) : Prop where
  ex : ∃ C, mg x = some (.ref C) ∧ PySem.W.excIn K C He.veBase "ValueError.__new__" = true ∧ PySem.W.keepIn K (.ref C) = true ∧ PySem.W.subIn K (.ref C) (.type "BaseException") = some true ∧ PySem.W.typeIn K (.ref C) = some (.type "type")
/-- the classes ns: none under another, all under ValueError and under the class top -/
structure ErrT (K : PySem.W.Frag) (mg : Str → Option Value) (ns : List Str) (top : Str) : Prop where
  cls : ∀ x ∈ ns, ∃ C, mg x = some (.ref C) ∧ ExcC K C ∧ (∀ y ∈ ns, ∃ D, mg y = some (.ref D) ∧ PySem.W.kitOne K (.ref C) (.ref D) = some (decide (x = y))) ∧ PySem.W.kitOne K (.ref C) (.type "ValueError") = some true ∧
    ∃ G, mg top = some (.ref G) ∧ PySem.W.exmOne K (.ref C) (.ref G) = some true
section
variable {X : Cx} {Wx : WE} {pos p p2 p3 : Pos}
theorem ss_raiseO {x m : Str} {j : Nat} (hc : X.calm = true) (tk : Takes X Wx) (h : Err1 X.K X.mg x) (hg : Gl X x := by rfl) (hdb : (x == ("__debug__" : Str)) = false := by decide) :
    SS X Wx (.Raise (some (.Call (.Name x p) [.Constant (.str m) j p2] [] p3)) none pos) (dRaise x) := by
  obtain ⟨C, h1, h2, h3, h4, h5⟩ := h.ex
  exact ss_raise hc tk h1 (pmk_own PySem.F.excBase_ValueError h2 h1 h3 (raises_own h4 h5) hg hdb)
end

/-! ### the caught error -/
/-- in this context a's object is pinned: an instance of cls without a dict -/
structure PinX (X : Cx) (a : Addr) (cls : Value) : Prop where
  ex : ∃ oe : Obj, (a, oe) ∈ X.pn ∧ Zc cls none oe ∧ ∃ vs, oe.data = .fields vs
theorem call_isP {X : Cx} {a D : Addr} (C : ExcC X.K D) (hp : PinX X a (.ref D)) : CallR X (.builtin "isinstance") (rIsE X.K D a) := by
  rintro pins s σ H xs us Q I r ⟨c, cv, b, rfl, hcv, e, q⟩
  obtain ⟨u1, u2, rfl, rx, rt⟩ := vals2 r
  cases rx
  have ec := hcv _ rt
  subst ec
  obtain ⟨⟨oc, od, oda, osl⟩, hm, ⟨h1, h2⟩, vs, hv⟩ := hp.ex
  have hget := (I.pin _ (List.mem_append.mpr (.inl hm))).1
  dsimp only at h1 h2 hv
  subst h1 h2 hv
  exact PySem.W.kia_one (PySem.W.handS_kitx_exc C.hg C.hk C.hs C.hd C.ha C.hn C.ht C.hm) I.kIn ⟨hget, rfl, rfl, trivial⟩ e (fun z => nomatch z) fun tk => ⟨.bl b, H, I.kept (t' := tk) fun _ _ z => z, rfl, q⟩
/-- the slot i holds the caught error at a: b -/
def dIsE (i a : Nat) (b : Bool) : DE := fun ls S => match ls[i]? with
  | some (some (.adr a')) => if a' = a then .ok (.bl b) S else .bad
  | _ => .bad
section
variable {X : Cx} {Wx : WE} {pos p p1 p2 : Pos}
theorem se_isG {x y : Str} {a D : Addr} {b : Bool} {cv : Value} {c : V} (i : Nat) (C : ExcC X.K D) (hp : PinX X a (.ref D)) (hm : X.mg "isinstance" = none) (hy : PE X (.Name y p2) (tC c)) (hv : ∀ u, RelV c u → u = cv) (hk : PySem.W.kitOne X.K (.ref D) cv = some b)
    (hN : X.N[i]? = some x := by rfl) (hvis : Vis X.env.scope x := by first | exact Or.inl rfl | exact Or.inr (Or.inl rfl) | exact Or.inr (Or.inr rfl)) (hd : (x == ("__debug__" : Str)) = false := by decide) (hcd : (x == ("__classdict__" : Str)) = false := by decide) (hg : Gl X "isinstance" := by rfl)
    (hs1 : starEach [.Name x p1, .Name y p2] X.env = (false, eval (.Name x p1) X.env) :: starEach [.Name y p2] X.env := by rfl) (hs2 : starEach [.Name y p2] X.env = (false, eval (.Name y p2) X.env) :: starEach [] X.env := by rfl)
    (hpl : (backTo pos (starEach [.Name y p2] X.env)).any (·.1) = false := by rfl) : SE X Wx (.Call (.Name "isinstance" p) [.Name x p1, .Name y p2] [] pos) (dIsE i a b) := by
  refine ⟨_, pe_callB (call_isP C hp) hg hm (by decide +kernel) (pa_cons (pe_var hN hvis hd hcd) (pa_cons hy pa_nil hs2) hs1) (by decide) (by decide) hs1 hpl, fun σ H μ ls S Q hL hS h => ?_⟩
  unfold dIsE at h
  split at h
  · rename_i a' e
    split at h
    · rename_i ea
      subst ea
      obtain ⟨v, h1, h2⟩ := hL.at_ i _ e
      cases h2
      exact ⟨_, h1, c, cv, b, rfl, hv, hk, h _ H μ (Gr.refl _ _) hS (.bl b)⟩
    · exact False.elim h
  · exact False.elim h
theorem se_isO {x y cn top : Str} {ns : List Str} {a : Addr} {cls : Value} (i : Nat) (T : ErrT X.K X.mg ns top) (hc : cn ∈ ns) (hcm : X.mg cn = some cls) (hp : PinX X a cls) (hm : X.mg "isinstance" = none) (hy : y ∈ ns)
    (hN : X.N[i]? = some x := by rfl) (hvis : Vis X.env.scope x := by first | exact Or.inl rfl | exact Or.inr (Or.inl rfl) | exact Or.inr (Or.inr rfl)) (hd : (x == ("__debug__" : Str)) = false := by decide) (hcd : (x == ("__classdict__" : Str)) = false := by decide) (hg : Gl X "isinstance" := by rfl) (hgy : Gl X y := by rfl) (hdy : (y == ("__debug__" : Str)) = false := by decide)
    (hs1 : starEach [.Name x p1, .Name y p2] X.env = (false, eval (.Name x p1) X.env) :: starEach [.Name y p2] X.env := by rfl) (hs2 : starEach [.Name y p2] X.env = (false, eval (.Name y p2) X.env) :: starEach [] X.env := by rfl)
    (hpl : (backTo pos (starEach [.Name y p2] X.env)).any (·.1) = false := by rfl) : SE X Wx (.Call (.Name "isinstance" p) [.Name x p1, .Name y p2] [] pos) (dIsE i a (decide (cn = y))) := by
  obtain ⟨C, h1, h2, h3, _⟩ := T.cls cn hc
  rw [hcm] at h1
  cases h1
  obtain ⟨D, h4, h5⟩ := h3 y hy
  exact se_isG (c := .ref D) (cv := .ref D) i h2 hp hm (pe_glob hgy h4 rfl hdy) (fun u r => r) h5 hN hvis hd hcd hg hs1 hs2 hpl
theorem se_isV {x cn top : Str} {ns : List Str} {a : Addr} {cls : Value} (i : Nat) (T : ErrT X.K X.mg ns top) (hc : cn ∈ ns) (hcm : X.mg cn = some cls) (hp : PinX X a cls) (hm : X.mg "isinstance" = none) (hmv : X.mg "ValueError" = none)
    (hN : X.N[i]? = some x := by rfl) (hvis : Vis X.env.scope x := by first | exact Or.inl rfl | exact Or.inr (Or.inl rfl) | exact Or.inr (Or.inr rfl)) (hd : (x == ("__debug__" : Str)) = false := by decide) (hcd : (x == ("__classdict__" : Str)) = false := by decide) (hg : Gl X "isinstance" := by rfl) (hgy : Gl X "ValueError" := by rfl)
    (hs1 : starEach [.Name x p1, .Name "ValueError" p2] X.env = (false, eval (.Name x p1) X.env) :: starEach [.Name "ValueError" p2] X.env := by rfl) (hs2 : starEach [.Name "ValueError" p2] X.env = (false, eval (.Name "ValueError" p2) X.env) :: starEach [] X.env := by rfl)
    (hpl : (backTo pos (starEach [.Name "ValueError" p2] X.env)).any (·.1) = false := by rfl) : SE X Wx (.Call (.Name "isinstance" p) [.Name x p1, .Name "ValueError" p2] [] pos) (dIsE i a true) := by
  obtain ⟨C, h1, h2, _, h3, _⟩ := T.cls cn hc
  rw [hcm] at h1
  cases h1
  exact se_isG (c := .ty "ValueError") (cv := .type "ValueError") i h2 hp hm (pe_bltn hgy hmv (by decide +kernel) rfl) (fun u r => r) h3 hN hvis hd hcd hg hs1 hs2 hpl
end

/-! ### defs that are called with it -/
structure FnE (P : Program) (w : World) (K : PySem.W.Frag) (mg : Str → Option Value) (base : Heap) (k : Nat) (f : Addr) (fd : FuncData) (ps : List Str) (sp : Addr → Value → Sp) : Prop where
  len : ∀ a c vs H Q E, sp a c vs H Q E → vs.length = ps.length
  run : ∀ (A : Around) (outer : List Env) (s : Shared) (H : Hp) (args : Args) (us : List Value) (vs : List V) (Q : VK) (E : XK) (p : Addr × Obj) (cls : Value), RoomH k A → PinOk outer H s p → Zc cls none p.2 → (∃ zs, p.2.data = .fields zs) →
    Env0 P w K mg base A outer s H → BindsTo s fd args (ps.zip us) → Vals vs us → sp p.1 cls vs H Q E → codeAny (model P w) A (.call (.ref f) args) (CR CX0 outer P w H s Q E) s
theorem fnE_of {P : Program} {w : World} {K : PySem.W.Frag} {mg : Str → Option Value} {base : Heap} {k : Nat} {f : Addr} {fd : FuncData} {x : Str} {params : Arguments} {body : List Stmt} {scope : Scope} {N ps : List Str} {sp : Addr → Value → Sp}
    (F : FunD K x x params body scope [] [] f fd) (S : FnScope N ps scope) (len : ∀ a c vs H Q E, sp a c vs H Q E → vs.length = ps.length)
    (hb : ∀ (cdv : Value) (A : Around) (outer : List Env) (s : Shared) (H : Hp) (vs : List V) (Q : VK) (E : XK) (p : Addr × Obj) (cls : Value), Zc cls none p.2 → (∃ zs, p.2.data = .fields zs) → RoomH k (A.deeper (PyProof.Rows.envOfC x scope s.heap.objs.size f cdv)) → sp p.1 cls vs H Q E →
      ∃ t, PSs (cxH CX0 P w K mg base N x scope f cdv A outer s H E p) body t ∧ t { nx := fun _ H' => Q .non H', rt := Q } (L2.start N vs) H) : FnE P w K mg base (k + 1) f fd ps sp := by
  obtain ⟨_, _, _, _, _, _, _, cdv, _, _, rfl, lk, hcd, _⟩ := F.ex
  refine ⟨len, fun A outer s H args us vs Q E p cls hr hpin hz hf e0 hbd r hsp => ?_⟩
  have old : ∀ b o, base.get? b = some o → s.heap.get? b = some o := fun b o e => (e0.bs b o e).1
  have KX : K.In s.heap := e0.mod.kin.keeps old
  have knd : ∀ y ∈ ps.zip us, scope.names.lookup y.1 = some .local ∨ (scope.names.lookup y.1 = some .cell ∧ ((PySem.cellsFrom (s.heap.objs.size + 1) scope.names []).lookup y.1).isSome = true) := fun y hy => by
    obtain ⟨n, v⟩ := y
    exact (S.par n (List.of_mem_zip hy).1).imp id fun q => ⟨q, PySem.W.cellsFrom_some _ _ _ (.inl q)⟩
  refine PySem.codeAny_call_function hr.depth (KX _ _ lk) rfl S.co S.gen rfl (PySem.W.codeRec_of KX hcd) (hbd _ _ _ _ (PySem.wpAny_newFunctionEnv_cells S.kind knd fun env he s1 st => ?_))
  subst he
  refine ⟨(e0.mod.nolimit.keeps old).keeps st.toInCall.keep, PySem.codeAny_func ?_⟩
  obtain ⟨t, ht, hq⟩ := hb cdv A outer s H vs Q E p cls hz hf (hr.deeper _) hsp
  refine wpAny_mono (ht.run [] s1 (L2.start N vs) H _ (inv_startH S hpin e0 (len _ _ _ _ _ _ hsp) r st) hq) (fun fl s' hs => ?_) fun _ _ z => z
  cases fl with
  | ret u =>
    obtain ⟨v, _, H', J, rv, q⟩ := hs
    exact ⟨v, H', J.os, J.bare, J.base, J.hok, rv, q⟩
  | next =>
    obtain ⟨σ', H', J, q⟩ := hs
    exact ⟨.non, H', J.os, J.bare, J.base, J.hok, rfl, q⟩
  | brk => exact hs.elim fun _ z => z.elim fun _ z => False.elim z.2
  | cont => exact hs.elim fun _ z => z.elim fun _ z => False.elim z.2
def spE (K : PySem.W.Frag) (mg : Str → Option Value) (ns : List Str) (n : Nat) (fn : Nat → Str → DF) : Addr → Value → Sp := fun a cls vs H Q _ =>
  ∃ μ ws S cn, cn ∈ ns ∧ mg cn = some cls ∧ ws.length = n ∧ Sim K μ S H ∧ VrA K μ H vs ws ∧ Bd K mg (RlV K) E0 μ H (fn a cn ws S) Q
structure FokE (P : Program) (w : World) (K : PySem.W.Frag) (mg : Str → Option Value) (ns : List Str) (x : Str) (k : Nat) (ps : List Str) (fn : Nat → Str → DF) : Prop where
  ex : ∃ (f : Addr) (fd : FuncData), (∀ base, FnE P w K mg base k f fd ps (spE K mg ns ps.length fn)) ∧ mg x = some (.ref f) ∧ PySem.W.keepIn K (.ref f) = true ∧ Binds K fd ps []
theorem FnE.mono {P : Program} {w : World} {K : PySem.W.Frag} {mg : Str → Option Value} {base : Heap} {k k' : Nat} {f : Addr} {fd : FuncData} {ps : List Str} {sp : Addr → Value → Sp} (F : FnE P w K mg base k f fd ps sp) (h : k ≤ k') : FnE P w K mg base k' f fd ps sp :=
  ⟨F.len, fun A outer s H args us vs Q E p cls hr => F.run A outer s H args us vs Q E p cls (hr.mono h)⟩
section
variable {P : Program} {w : World} {K : PySem.W.Frag} {mg : Str → Option Value}
theorem FokE.of {ns : List Str} {x : Str} {st : Stmt} {k : Nat} {N ps : List Str} {m : Nat → Str → DS} (F : DefAt K mg x st) (S : FnScope N ps (defScope st))
    (hbind : ∀ (kV doc pm : Value) (an : Option Addr) (cdv ct : Value) (us : List Value), us.length = ps.length → bindArgs (PySem.W.fnOf x x (defArgs st) (defBody st) (defScope st) .none kV doc pm an cdv ct) ⟨us, []⟩ = pure (ps.zip us))
    (hb : ∀ (base : Heap) (f : Addr) (cdv : Value) (A : Around) (outer : List Env) (s : Shared) (H : Hp) (E : XK) (p : Addr × Obj) (cn : Str) (cls : Value), RoomH k (A.deeper (PyProof.Rows.envOfC x (defScope st) s.heap.objs.size f cdv)) → cn ∈ ns → mg cn = some cls →
      PinX (cxH CX0 P w K mg base N x (defScope st) f cdv A outer s H E p).nox p.1 cls → SSs (cxH CX0 P w K mg base N x (defScope st) f cdv A outer s H E p).nox Wn (defBody st) (m p.1 cn)) : FokE P w K mg ns x (k + 1) ps (fun a cn => mkF N.length ps.length (m a cn)) := by
  obtain ⟨f, fd, F, hm⟩ := F.ex
  refine ⟨f, fd, fun base => ?_, hm, F.kp, F.bindsN hbind⟩
  refine fnE_of F S (fun a c vs H Q E h => ?_) (fun cdv A outer s H vs Q E p cls hz hf hr h => ?_)
  · obtain ⟨μ, ws, S', cn, _, _, h1, h2, h3, h4⟩ := h
    rw [h3.length, h1]
  · obtain ⟨μ, ws, S', cn, c1, c2, h1, h2, h3, h4⟩ := h
    obtain ⟨t, q1, q2⟩ := (hb base f cdv A outer s H E p cn cls hr c1 c2 ⟨p.2, List.mem_singleton_self p, hz, hf⟩).ex
    refine ⟨t, PSs.nox q1, q2 _ H μ (startW N.length ws) S' _ (LR.atStart h3) h2 ?_⟩
    have h4 : Bd K mg (RlV K) E0 μ H (mkF N.length ps.length (m p.1 cn) ws S') Q := h4
    unfold mkF at h4
    rw [if_pos h1] at h4
    cases e : m p.1 cn (startW N.length ws) S' with
    | nx ls S1 => rw [e] at h4; exact fun σ' H' μ' g s l => h4 .non H' μ' g s .non
    | rt v S1 => rw [e] at h4; exact h4
    | bk ls S1 => rw [e] at h4; exact False.elim h4
    | ct ls S1 => rw [e] at h4; exact False.elim h4
    | ex x ls S1 => rw [e] at h4; exact fun σ' c d H' μ' g s l r => h4 c d H' μ' g s r
    | bad => rw [e] at h4; exact False.elim h4
end
section
variable {X : Cx} {e : Expr} {es : List Expr} {pos p : Pos}
theorem run_fnE {k : Nat} {f : Addr} {fd : FuncData} {ps : List Str} {sp : Addr → Value → Sp} {a : Addr} {cls : Value} {pins : List (Addr × Obj)} {σ : L2.St} {H : Hp} {s : Shared} {Q : VK} {us : List Value} {vs : List V} (F : FnE X.prog X.w X.K X.mg X.base k f fd ps sp) (hr : RoomH k X.A) (hp : PinX X a cls)
    (hb : Binds X.K fd ps []) (I : Inv X pins σ H s) (r : Vals vs us) (h : sp a cls vs H Q E0) : wpAny (model X.prog X.w) X.A (call (.ref f) us) (EP X pins σ Q) X.xe s := by
  obtain ⟨oe, hm, hz, hf⟩ := hp.ex
  have b := hb s us I.kIn (by rw [List.append_nil, ← r.length]; exact F.len _ _ _ _ _ _ h)
  rw [List.append_nil] at b
  obtain ⟨z1, z2, z3, z4, z5⟩ := I.pin (a, oe) (List.mem_append_left _ hm)
  have pin : PinOk X.stack H s (a, oe) := ⟨z1, z2, fun w => (List.mem_cons.mp (I.stkSub _ w)).elim z3 z4, z5⟩
  refine wpAny_call (codeAny_mono (F.run X.A X.stack s H ⟨us, []⟩ us vs Q E0 (a, oe) cls hr pin hz hf I.env0 b r h) fun res s' hq => ?_)
  cases res with
  | error e => exact hq.elim
  | ok fl =>
    cases fl with
    | ret u => exact I.after hq
    | next => exact False.elim hq
    | brk => exact False.elim hq
    | cont => exact False.elim hq
theorem se_callE {ns : List Str} {x cn : Str} {k k' : Nat} {ps : List Str} {fn : Nat → Str → DF} {as : List DE} {a : Addr} {cls : Value} (h : FokE X.prog X.w X.K X.mg ns x k ps fn) (hr : RoomH k' X.A) (hp : PinX X a cls) (hc : cn ∈ ns) (hcm : X.mg cn = some cls) (ha : SA X Wn (e :: es) (dArgs as)) (hk : k ≤ k' := by first | omega | (simp only [Nat.add_eq]; omega))
    (hg : Gl X x := by rfl) (hdb : (x == ("__debug__" : Str)) = false := by decide) (he : starEach (e :: es) X.env = (false, eval e X.env) :: starEach es X.env := by rfl) (hpl : (backTo pos (starEach es X.env)).any (·.1) = false := by rfl)
    (hn : as.length = ps.length := by rfl) : SE X Wn (.Call (.Name x p) (e :: es) [] pos) (dCall (fn a cn) as) := by
  obtain ⟨f, fd, h2, h3, h4, h5⟩ := h.ex
  obtain ⟨t1, p1, q1⟩ := ha.ex
  have pe : PE X (.Call (.Name x p) (e :: es) [] pos) (fun σ H Q => t1 σ H fun vs H1 => spE X.K X.mg ns ps.length fn a cls vs H1 Q E0) := by
    refine ⟨fun pins s σ H Q I h => ?_⟩
    refine wpAny_Call_Name_kw (ld_glob I hg h3 ?_ hdb)
    refine PySem.W.callWith_K (h₀ := X.base) I.ok.mod.kin h4 (thn (p1.run pos pins s σ H _ I h) fun us s1 ⟨vs, H1, I1, r, q⟩ => ⟨I1.kIn, ?_⟩) he hpl
    exact run_fnE ((h2 X.base).mono hk) hr hp h5 I1 r q
  refine ⟨_, pe, fun σ H μ ls S Q hL hS h => ?_⟩
  have hlen : ∀ ws S', dArgs as ls S = .ok ws S' → ws.length = ps.length := fun ws S' e => by rw [args_len as ls S ws S' e, hn]
  unfold dCall at h
  cases ea : dArgs as ls S with
  | bad => rw [ea] at h; exact False.elim h
  | exc x S1 =>
    rw [ea] at h
    exact q1 σ H μ ls S _ hL hS (by rw [ea]; exact h)
  | ok ws S1 =>
    rw [ea] at h
    refine q1 σ H μ ls S _ hL hS ?_
    rw [ea]
    intro vs H1 μ1 g1 s1 r1
    exact ⟨μ1, ws, S1, cn, hc, hcm, hlen ws S1 ea, s1, r1, Bd.mono g1 h⟩
/-- where something may be raised: a def that raises nothing -/
def noX (f : DF) : DF := fun ws S => match f ws S with
  | .exc _ _ => .bad
  | r => r
theorem noX_ok {f : DF} {ws : List W} {w : W} {S S' : Store} (h : f ws S = .ok w S') : noX f ws S = .ok w S' := by
  unfold noX
  rw [h]
theorem se_call0 {Wx : WE} {x : Str} {k k' : Nat} {ps : List Str} {fn : DF} {as : List DE} (h : Fok X.prog X.w X.K X.mg x k ps fn) (hr : Room k' X.A) (ha : SA X Wx (e :: es) (dArgs as)) (hk : k ≤ k' := by first | omega | (simp only [Nat.add_eq]; omega)) (hg : Gl X x := by rfl) (hdb : (x == ("__debug__" : Str)) = false := by decide) (he : starEach (e :: es) X.env = (false, eval e X.env) :: starEach es X.env := by rfl) (hpl : (backTo pos (starEach es X.env)).any (·.1) = false := by rfl)
    (hn : as.length = ps.length := by rfl) : SE X Wx (.Call (.Name x p) (e :: es) [] pos) (dCall (noX fn) as) := by
  obtain ⟨f, fd, h2, h3, h4, h5, _⟩ := h.ex
  obtain ⟨t1, p1, q1⟩ := ha.ex
  refine ⟨_, pe_call (h2 X.base) (hr.mono hk) hg h3 h4 h5 .nil pass0 p1 hdb he hpl, fun σ H μ ls S Q hL hS h => ?_⟩
  have hlen : ∀ ws S', dArgs as ls S = .ok ws S' → ws.length = ps.length := fun ws S' e => by rw [args_len as ls S ws S' e, hn]
  unfold dCall at h
  cases ea : dArgs as ls S with
  | bad => rw [ea] at h; exact False.elim h
  | exc x S1 =>
    rw [ea] at h
    exact q1 σ H μ ls S _ hL hS (by rw [ea]; exact h)
  | ok ws S1 =>
    rw [ea] at h
    refine q1 σ H μ ls S _ hL hS ?_
    rw [ea]
    intro vs H1 μ1 g1 s1 r1
    rw [List.append_nil]
    refine ⟨μ1, ws, S1, hlen ws S1 ea, s1, r1, ?_⟩
    have h' : BdV X Wx σ μ H (noX fn ws S1) Q := h
    unfold noX at h'
    cases ef : fn ws S1 with
    | ok w S2 => rw [ef] at h'; exact Bd.mono (r := Res.ok w S2) g1 h'
    | exc e S2 => rw [ef] at h'; exact False.elim h'
    | bad => rw [ef] at h'; exact False.elim h'
end

/-! ### try: .. except top as n: .. -/
/-- the name n goes behind the suite; nothing is raised there -/
def unb (i : Nat) : RS → RS
  | .nx ls S => .nx (ls.set i none) S
  | .bk ls S => .bk (ls.set i none) S
  | .ct ls S => .ct (ls.set i none) S
  | .rt w S => .rt w S
  | _ => .bad
def dTry (ns : List Str) (i : Nat) (m : DS) (h : Nat → Str → DS) : DS := fun ls S => match m ls S with
  | .ex e ls1 S1 => if e.cls ∈ ns ∧ e.fs.isEmpty = true then unb i (h 0 e.cls (ls1.set i (some (.adr 0))) S1) else .bad
  | r => r
theorem LR.unset {K : PySem.W.Frag} {μ : Mu} {H : Hp} {σ : L2.St} {ls : Lo} (i : Nat) (h : LR K μ H σ ls) : LR K μ H (σ.set i none) (ls.set i none) := by
  refine ⟨by rw [List.length_set, List.length_set, h.len], fun j w' e => ?_⟩
  by_cases q : i = j
  · subst q
    by_cases hl : i < ls.length
    · rw [List.getElem?_set_self hl] at e
      cases e
    · rw [List.getElem?_eq_none (by rw [List.length_set]; omega)] at e
      cases e
  · rw [List.getElem?_set_ne q] at e
    rw [List.getElem?_set_ne q]
    exact h.at_ j w' e
theorem unb_bd {X : Cx} {Wx : WE} {μ : Mu} {H : Hp} {D : Ends} (i : Nat) : ∀ {r : RS}, BdS X Wx μ H (unb i r) D → BdS X Wn μ H r { nx := fun σ' H' => D.nx (σ'.set i none) H', rt := D.rt, bk := fun σ' H' => D.bk (σ'.set i none) H', ct := fun σ' H' => D.ct (σ'.set i none) H' }
  | .nx ls S, h => fun σ' H' μ' g s l => h (σ'.set i none) H' μ' g s (l.unset i)
  | .rt w S, h => h
  | .bk ls S, h => fun σ' H' μ' g s l => h (σ'.set i none) H' μ' g s (l.unset i)
  | .ct ls S, h => fun σ' H' μ' g s l => h (σ'.set i none) H' μ' g s (l.unset i)
  | .ex e ls S, h => False.elim h
  | .bad, h => False.elim h
section
variable {X : Cx} {Wx : WE} {x n : Str} {i : Nat} {body suite : List Stmt} {b₀ : Stmt} {np pos pos' : Pos} {m : DS} {h : Nat → Str → DS} {ns : List Str}
theorem ss_try (hN : X.N.Nodup) (T : ErrT X.K X.mg ns x) (tk : Takes X Wx) (hb : ∀ (W : WX) (pn : List (Addr × Obj)) (xe : Value → Shared → Prop), Takes (X.tr pn xe) W → PassesOwn (model X.prog X.w) X.A X.env xe → SSs (X.tr pn xe) W body m)
    (hsu : ∀ (a : Addr) (oe : Obj) (cn : Str) (cls : Value) (pn : List (Addr × Obj)), cn ∈ ns → X.mg cn = some cls → PinX (X.suite a ((a, oe) :: pn)) a cls → SSs (X.suite a ((a, oe) :: pn)) Wn (b₀ :: suite) (h a cn))
    (hpar : ∀ (a : Nat) (cn : Str) (ls : Lo) (S : Store), cn ∈ ns → unb i (h a cn (ls.set i (some (.adr a))) S) = unb i (h 0 cn (ls.set i (some (.adr 0))) S))
    (hs : X.stack = X.env :: X.outer := by rfl) (hf : X.env.frame = some X.env.locals := by rfl) (hi : X.N[i]? = some n := by rfl) (hln : X.env.kindOf n = some .local := by rfl) (hg : Gl X x := by rfl) (hdb : (x == ("__debug__" : Str)) = false := by decide)
    (hne : ns ≠ [] := by decide) : SS X Wx (.Try body [.ExceptHandler (some (.Name x np)) (some n) (b₀ :: suite) pos'] [] [] pos) (dTry ns i m h) := by
  obtain ⟨c0, hc0⟩ := List.exists_mem_of_ne_nil ns hne
  obtain ⟨_, _, _, _, _, G, hG, _⟩ := T.cls c0 hc0
  refine ⟨_, ps_try_as (tb := fun W => tSem X W m) (ts := fun a cls d => fun D σ H => ∃ cn, cn ∈ ns ∧ X.mg cn = some cls ∧ d = none ∧ tSem X Wn (h a cn) D σ H) (Wout := Wx) (c := .ref G) hs hf hN hi hln ⟨hg, hdb, .inl hG⟩ tk
    (fun W pn xe tk' hp => sem_of (X := X.tr pn xe) (hb W pn xe tk' hp)) (fun a oe cls d pn hz hfs => ⟨fun pins s σ H D I hw => ?_⟩), fun σ H μ ls S D hL hS hd => ⟨μ, ls, S, hL, hS, ?_⟩⟩
  · obtain ⟨cn, c1, c2, rfl, hw⟩ := hw
    exact (sem_of (X := X.suite a ((a, oe) :: pn)) (hsu a oe cn cls pn c1 c2 ⟨oe, List.mem_cons_self, hz, hfs⟩)).run pins s σ H D I hw
  · unfold dTry at hd
    cases e : m ls S with
    | nx ls S1 => rw [e] at hd; exact hd
    | rt v S1 => rw [e] at hd; exact hd
    | bk ls S1 => rw [e] at hd; exact hd
    | ct ls S1 => rw [e] at hd; exact hd
    | bad => rw [e] at hd; exact hd
    | ex x ls1 S1 =>
      rw [e] at hd
      dsimp only at hd
      split at hd
      · rename_i c
        intro σ' cls d H' μ' g s l xr
        obtain ⟨x1, x2⟩ := xr
        have hd0 : d = none := by
          rcases x2 with ⟨_, z⟩ | ⟨z, _⟩
          · exact z
          · exact absurd (by simpa using c.2) z
        obtain ⟨C, h1, _, _, _, G', hG', hex⟩ := T.cls _ c.1
        rw [x1] at h1
        cases h1
        rw [hG] at hG'
        cases hG'
        refine ⟨true, hex, fun _ a ha => ⟨x.cls, c.1, x1, hd0, μ', ls1.set i (some (.adr a)), S1, l.set (.adr a), s, ?_⟩, fun z => nomatch z⟩
        have q := BdS.mono g hd
        rw [← hpar a x.cls ls1 S1 c.1] at q
        exact unb_bd i q
      · exact False.elim hd
end
end Fs
namespace Fs
open PySem L2
open L2H (RoomH)
theorem huEH {k : Nat} {A : Around} (h : RoomH k A) : A.units + 64 < cLine := by
  have := h.un
  omega
theorem huIH {k : Nat} {A : Around} (h : RoomH k A) : A.units + 65 < cLine := by
  have := h.un
  omega
theorem roomM {k : Nat} {A : Around} {v : Option Value} (h : Room k A) : RoomH k (A.mark v) := ⟨h.dp, h.un⟩
theorem FokX.none {P : Program} {w : World} {K : PySem.W.Frag} {mg : Str → Option Value} {x : Str} {st : Stmt} {k : Nat} {ps : List Str} (F : DefAt K mg x st)
    (hbind : ∀ (kV doc pm : Value) (an : Option Addr) (cdv ct : Value) (us : List Value), us.length = ps.length → bindArgs (PySem.W.fnOf x x (defArgs st) (defBody st) (defScope st) .none kV doc pm an cdv ct) ⟨us, []⟩ = pure (ps.zip us)) :
    FokX P w K mg x k ps (fun _ _ => .bad) := by
  obtain ⟨f, fd, F, hm⟩ := F.ex
  have no : ∀ vs H Q E, ¬ spX K mg ps.length (fun _ _ => .bad) vs H Q E := fun vs H Q E h => by
    obtain ⟨μ, ws, S, h1, h2, h3, h4⟩ := h
    exact h4
  exact ⟨f, fd, fun base => ⟨fun vs H Q E h => absurd h (no vs H Q E), fun A outer s H args us vs Q E _ _ _ _ h => absurd h (no vs H Q E)⟩, hm, F.kp, F.bindsN hbind, F.bindsA hbind⟩
/-! what hangs on the error's place alone -/
theorem isE0 {a : Nat} {b : Bool} {r : Lo} {S : Store} : dIsE 0 a b (some (.adr a) :: r) S = .ok (.bl b) S := if_pos rfl
theorem par_call {f : Nat → Str → DF} (hp : ∀ a cn S, f a cn [.adr a] S = f 0 cn [.adr 0] S) (i a : Nat) (cn : Str) (ls : Lo) (S : Store) : dCall (f a cn) [dVar i] (ls.set i (some (.adr a))) S = dCall (f 0 cn) [dVar i] (ls.set i (some (.adr 0))) S := by
  have key : ∀ b : Nat, dArgs [dVar i] (ls.set i (some (.adr b))) S = if i < ls.length then .ok [.adr b] S else .bad := fun b => by
    show ((dVar i (ls.set i (some (.adr b))) S).bind fun w S1 => (Res.ok [] S1).bind fun ws S2 => .ok (w :: ws) S2) = _
    by_cases h : i < ls.length
    · have e : dVar i (ls.set i (some (.adr b))) S = .ok (.adr b) S := by
        unfold dVar
        rw [List.getElem?_set_self h]
      rw [e, if_pos h]
      rfl
    · have e : dVar i (ls.set i (some (.adr b))) S = .bad := by
        unfold dVar
        rw [List.getElem?_eq_none (by rw [List.length_set]; omega)]
      rw [e, if_neg h]
      rfl
  unfold dCall
  rw [key a, key 0]
  by_cases h : i < ls.length
  · rw [if_pos h, if_pos h]
    exact hp a cn S
  · rw [if_neg h, if_neg h]
    rfl
end Fs
namespace Fs
open PySem L2
/-! ### the classes' facts, looked up -/
def exCB (K : PySem.W.Frag) (D : Addr) : Bool := He.eqO (PySem.W.findIn K (.ref D) "__getattribute__") (some (some (.builtin "BaseException.__getattribute__"))) && (He.eqO (PySem.W.findIn K (.ref D) "__getattr__") (some none) && (decide (PySem.W.subIn K (.ref D) (.type "BaseException") = some true) &&
  (PySem.W.hasDictIn K D && (He.eqO (PySem.W.findIn K (.ref D) "__class__") (some (some (.builtin "object.__class__"))) && (He.eqO (PySem.W.specialIn K (.builtin "object.__class__") "__get__") (some (some (.builtin "getset_descriptor.__get__"))) &&
  (decide (PySem.W.takesIn K (.builtin "object.__class__") = some true) && decide (PySem.W.mroIn K D (.type "object") = some true)))))))
theorem exC_of {K : PySem.W.Frag} {D : Addr} (h : exCB K D = true) : ExcC K D := by
  simp only [exCB, Bool.and_eq_true] at h
  obtain ⟨h1, h2, h3, h4, h5, h6, h7, h8⟩ := h
  exact ⟨He.eqO_ok h1, He.eqO_ok h2, of_decide_eq_true h3, h4, He.eqO_ok h5, He.eqO_ok h6, of_decide_eq_true h7, of_decide_eq_true h8⟩
def errB (K : PySem.W.Frag) (ns : List Str) (top : Str) : Bool := ns.all fun x => exCB K (He.ga K x) && ((ns.all fun y => decide (PySem.W.kitOne K (.ref (He.ga K x)) (.ref (He.ga K y)) = some (decide (x = y)))) &&
  (decide (PySem.W.kitOne K (.ref (He.ga K x)) (.type "ValueError") = some true) && decide (PySem.W.exmOne K (.ref (He.ga K x)) (.ref (He.ga K top)) = some true)))
theorem errT_of {K : PySem.W.Frag} {mg : Str → Option Value} {ns : List Str} {top : Str} (hg : ∀ x ∈ ns, mg x = some (.ref (He.ga K x))) (ht : mg top = some (.ref (He.ga K top))) (h : errB K ns top = true) : ErrT K mg ns top := by
  refine ⟨fun x hx => ?_⟩
  have hx' := List.all_eq_true.mp h x hx
  simp only [Bool.and_eq_true] at hx'
  obtain ⟨h1, h2, h3, h4⟩ := hx'
  refine ⟨_, hg x hx, exC_of h1, fun y hy => ⟨_, hg y hy, of_decide_eq_true (List.all_eq_true.mp h2 y hy)⟩, of_decide_eq_true h3, _, ht, of_decide_eq_true h4⟩
theorem err1_of {K : PySem.W.Frag} {mg : Str → Option Value} {x : Str} (hg : mg x = some (.ref (He.ga K x))) (h : (He.Fa.exc x).ok K = true) : Err1 K mg x := by
  obtain ⟨h1, h2, h3, h4⟩ := He.exc_ok h
  exact ⟨_, hg, h1, h2, h3, h4⟩
end Fs
set_option maxHeartbeats 4000000
namespace Fs
open PySem L2
/-! ### evaluation of the newer words -/
section
variable {g : W → W → Store → Res W} {a b : DE} {ls : Lo} {S S1 S2 : Store} {w x y : W} {ws us : List W} {m n : DS} {f : DF} {i : Nat} {e : Ex}
theorem tix_ok {z : Str} {ys : List Str} {j : Nat} (h1 : a ls S = .ok (.tup ws) S1) (h2 : b ls S1 = .ok (.str z) S2) (h3 : strsW ws = some ys) (h4 : posOf z ys = some j) : dTIx a b ls S = .ok (.int (j : Nat)) S2 := by
  unfold dTIx
  rw [h1]
  show (b ls S1).bind _ = _
  rw [h2]
  show gTIx (.tup ws) (.str z) S2 = _
  unfold gTIx
  dsimp only
  rw [h3]
  dsimp only
  rw [h4]
theorem lm_ok (h1 : a ls S = .ok x S1) (h2 : lstW S1 x = some ws) (h3 : b ls S1 = .ok y S2) : dLM g a b ls S = g x y S2 := by
  unfold dLM
  rw [h1]
  show (match lstW S1 x with | none => Res.bad | some _ => (b ls S1).bind fun w S2 => g x w S2) = _
  rw [h2]
  dsimp only
  rw [h3]
  rfl
theorem lix_ok {j : Nat} (h : lstW S x = some ws) (f1 : flatW y = true) (f2 : allFlat ws = true) (h2 : posFl y ws = some j) : gLIx x y S = .ok (.int (j : Nat)) S := by
  unfold gLIx
  rw [h]
  dsimp only
  rw [if_pos ⟨f1, f2⟩, h2]
theorem lcnt_ok (h : lstW S x = some ws) (f1 : flatW y = true) (f2 : allFlat ws = true) : gLCnt x y S = .ok (.int ((ws.countP fun z => eqFl z y : Nat) : Int)) S := by
  unfold gLCnt
  rw [h]
  dsimp only
  rw [if_pos ⟨f1, f2⟩]
theorem back_t : gBack (.tup ws) S = .ok (.tup ws.reverse) S := rfl
@[simp] theorem ord_ii {gt : Bool} {i j : Int} : gOrd gt (.int i) (.int j) S = .ok (.bl (if gt then decide (j < i) else decide (i < j))) S := rfl
theorem ord_tt {gt k : Bool} (h1 : SeqAt.shaped (toD S (.tup ws)) = true) (h2 : SeqAt.shaped (toD S (.tup us)) = true) (h3 : Od.ordD gt (toD S (.tup ws)) (toD S (.tup us)) = some k) : gOrd gt (.tup ws) (.tup us) S = .ok (.bl k) S := by
  show (if SeqAt.shaped (toD S (.tup ws)) = true ∧ SeqAt.shaped (toD S (.tup us)) = true then (match Od.ordD gt (toD S (.tup ws)) (toD S (.tup us)) with
    | some k => Res.ok (W.bl k) S
    | none => .bad) else .bad) = _
  rw [if_pos ⟨h1, h2⟩, h3]
@[simp] theorem raise_ev {x : Str} : dRaise x ls S = .ex ⟨x, []⟩ ls S := rfl
theorem noX_ev {r : Res W} (h : f ws S = r) (hr : ∀ e S', r ≠ .exc e S') : noX f ws S = r := by
  unfold noX
  rw [h]
  cases r with
  | exc e S' => exact absurd rfl (hr e S')
  | _ => rfl
theorem try_nx {ns : List Str} {h : Nat → Str → DS} {ls1 : Lo} (e : m ls S = .nx ls1 S1) : dTry ns i m h ls S = .nx ls1 S1 := by
  unfold dTry
  rw [e]
theorem try_rt {ns : List Str} {h : Nat → Str → DS} (e : m ls S = .rt w S1) : dTry ns i m h ls S = .rt w S1 := by
  unfold dTry
  rw [e]
theorem try_ex {ns : List Str} {h : Nat → Str → DS} {ls1 : Lo} {x : Str} (e : m ls S = .ex ⟨x, []⟩ ls1 S1) (hx : x ∈ ns) : dTry ns i m h ls S = unb i (h 0 x (ls1.set i (some (.adr 0))) S1) := by
  unfold dTry
  rw [e]
  dsimp only
  rw [if_pos ⟨hx, rfl⟩]
/-- a, then a list behind a list -/
theorem add_ll {p q : Nat} (h1 : S[p]? = some (.lst ws)) (h2 : S[q]? = some (.lst us)) (hl : ws.length + us.length ≤ 1000) : gAdd (.loc p) (.loc q) S = .ok (.loc S.length) (S ++ [.lst (ws ++ us)]) := by
  show gAddL (.loc p) (.loc q) S = _
  unfold gAddL
  dsimp only
  rw [h1, h2]
  exact if_pos (Nat.le_trans hl (by decide))
end
/-! ### a text is walked -/
def signsW (x : Str) : List W := x.cps.toList.map fun c => W.str ⟨#[c]⟩
def dStrI (a : DE) : DI := fun ls S => (a ls S).bind fun w S1 => match w with
  | .str x => .ok ⟨signsW x, fun _ => True⟩ S1
  | _ => .bad
section
variable {X : Cx} {Wx : WE} {a : Expr} {ma : DE}
theorem si_str {tg : Expr} (ha : SE X Wx a ma) : SI X Wx tg a (dStrI ma) := by
  obtain ⟨t1, p1, q1⟩ := ha.ex
  refine ⟨_, pi_str p1, fun σ H μ ls S R hL hS h => ?_⟩
  refine q1 σ H μ ls S _ hL hS (Bd.bind (fun w S1 v H1 μ1 g1 s1 r1 h1 => ?_) h)
  cases r1 with
  | str x =>
    refine ⟨x, rfl, h1 _ H1 μ1 (Gr.refl _ _) s1 fun i H2 μ2 S2 g2 s2 _ => ⟨fun hi => ?_, fun w e => ?_⟩⟩
    · have : (signsW x).length ≤ i := hi
      unfold signsW at this
      rw [List.length_map, Array.length_toList] at this
      exact this
    · have e' : (signsW x)[i]? = some w := e
      unfold signsW at e'
      rw [List.getElem?_map] at e'
      cases ec : x.cps.toList[i]? with
      | none => rw [ec] at e'; cases e'
      | some c =>
        rw [ec] at e'
        cases e'
        have ec' : x.cps[i]? = some c := by rw [← Array.getElem?_toList]; exact ec
        refine ⟨(Array.getElem?_eq_some_iff.mp ec').1, fun y H3 hy => ?_⟩
        obtain ⟨rfl, c', hc, rfl⟩ := hy
        rw [ec'] at hc
        cases hc
        exact ⟨μ2, Gr.refl _ _, s2, .str _⟩
  | _ => exact False.elim h1
end
def stK : Res W → Res Src
  | .ok (.str x) S => .ok ⟨signsW x, fun _ => True⟩ S
  | .exc e S => .exc e S
  | _ => .bad
theorem st_ev {a : DE} {ls : Lo} {S : Store} : dStrI a ls S = stK (a ls S) := by
  unfold dStrI stK
  cases a ls S <;> first | rfl | skip
  rename_i w S1
  cases w <;> rfl
theorem stK_ok {x : Str} {S : Store} : stK (.ok (.str x) S) = .ok ⟨signsW x, fun _ => True⟩ S := rfl
end Fs
set_option maxHeartbeats 4000000
namespace G
open PySem L2 Fs
def topS (i : Nat) : Stmt := PySem.Challenge.pw_guardwords_k02_order_of_words.main.body.getD i (.Pass ⟨0, 0, 0, 0⟩)
def errNs : List Str := ["BadLetter", "BadCondition", "BadTerm", "OtherKinds", "Unread", "NotPlain", "NotSingle", "TooMany", "UnknownName", "TooLarge", "WrongUse", "InUse", "Circle", "NothingToUndo"]
abbrev s__is_number : Stmt := topS 18
theorem sc__is_number : FnScope ["value"] ["value"] (defScope s__is_number) := ⟨rfl, rfl, rfl, by decide +kernel, rfl, by decide +kernel, by decide +kernel⟩
noncomputable def d__is_number : DS :=
  (dRet (dAnd (dCall gIsi [(dVar 0), (dC (.ty "int"))]) (dNot (dCall gIsi [(dVar 0), (dC (.ty "bool"))]))))
noncomputable def f__is_number : DF := mkF 1 1 d__is_number
abbrev s__is_form : Stmt := topS 19
theorem sc__is_form : FnScope ["value", "head", "size"] ["value", "head", "size"] (defScope s__is_form) := ⟨rfl, rfl, rfl, by decide +kernel, rfl, by decide +kernel, by decide +kernel⟩
noncomputable def d__is_form : DS :=
  (dRet (dAnd (dOp gEq (dCall gLen [(dVar 0)]) (dVar 2)) (dOp gEq (dOp gIx (dVar 0) (dC (.int 0))) (dVar 1))))
noncomputable def f__is_form : DF := mkF 3 3 d__is_form
abbrev s__is_case : Stmt := topS 20
theorem sc__is_case : FnScope ["kinds", "value"] ["kinds", "value"] (defScope s__is_case) := ⟨rfl, rfl, rfl, by decide +kernel, rfl, by decide +kernel, by decide +kernel⟩
noncomputable def d__is_case : DS :=
  (dRet (dAnd (dCall f__is_number [(dVar 1)]) (dChain gLe gLt (dC (.int 0)) (dVar 1) (dCall gLen [(dVar 0)]))))
noncomputable def f__is_case : DF := mkF 2 2 d__is_case
abbrev s_is_letter : Stmt := topS 17
theorem sc_is_letter : FnScope ["kind", "value", "head"] ["kind", "value"] (defScope s_is_letter) := ⟨rfl, rfl, rfl, by decide +kernel, rfl, by decide +kernel, by decide +kernel⟩
noncomputable def d_is_letter (self : DF) : DS :=
  (dSeq (dSet 2 (dOp gIx (dVar 0) (dC (.int 0))))
  (dSeq (dIf (dTB (dOp gEq (dVar 2) (dC (.str (PySem.Str.ofString "names"))))) (dRet (dOp gIn (dVar 1) (dOp gIx (dVar 0) (dC (.int 1))))) dNx)
  (dSeq (dIf (dTB (dOp gEq (dVar 2) (dC (.str (PySem.Str.ofString "integers"))))) (dRet (dCall f__is_number [(dVar 1)])) dNx)
  (dSeq (dIf (dNotT (dT (dCall gIsi [(dVar 1), (dC (.ty "tuple"))]))) (dRet (dC (.bl false))) dNx)
  (dSeq (dIf (dTB (dOp gEq (dVar 2) (dC (.str (PySem.Str.ofString "pair"))))) (dRet (dAnd (dCall f__is_form [(dVar 1), (dC (.str (PySem.Str.ofString "pair"))), (dC (.int 3))]) (dAnd (dCall self [(dOp gIx (dVar 0) (dC (.int 1))), (dOp gIx (dVar 1) (dC (.int 1)))]) (dCall self [(dOp gIx (dVar 0) (dC (.int 2))), (dOp gIx (dVar 1) (dC (.int 2)))])))) dNx)
  (dSeq (dIf (dTB (dOp gEq (dVar 2) (dC (.str (PySem.Str.ofString "either"))))) (dRet (dAnd (dCall f__is_form [(dVar 1), (dC (.str (PySem.Str.ofString "case"))), (dC (.int 3))]) (dAnd (dCall f__is_case [(dOp gIx (dVar 0) (dC (.int 1))), (dOp gIx (dVar 1) (dC (.int 1)))]) (dCall self [(dOp gIx (dOp gIx (dVar 0) (dC (.int 1))) (dOp gIx (dVar 1) (dC (.int 1)))), (dOp gIx (dVar 1) (dC (.int 2)))])))) dNx)
  (dRet (dOr (dOp gEq (dVar 1) (dTup [(dC (.str (PySem.Str.ofString "none")))])) (dAnd (dCall f__is_form [(dVar 1), (dC (.str (PySem.Str.ofString "some"))), (dC (.int 2))]) (dCall self [(dOp gIx (dVar 0) (dC (.int 1))), (dOp gIx (dVar 1) (dC (.int 1)))]))))))))))
noncomputable def f_is_letter : Nat → DF
  | 0 => fun _ _ => .bad
  | n + 1 => mkF 3 2 (d_is_letter (f_is_letter n))
abbrev s_check_letter : Stmt := topS 21
theorem sc_check_letter : FnScope ["kind", "letter"] ["kind", "letter"] (defScope s_check_letter) := ⟨rfl, rfl, rfl, by decide +kernel, rfl, by decide +kernel, by decide +kernel⟩
noncomputable def d_check_letter : DS :=
  (dIf (dNotT (dT (dCall (noX (f_is_letter 4)) [(dVar 0), (dVar 1)]))) (dRaise "BadLetter") dNx)
noncomputable def f_check_letter : DF := mkF 2 2 d_check_letter
abbrev s_check_word : Stmt := topS 22
theorem sc_check_word : FnScope ["kind", "word", "letter"] ["kind", "word"] (defScope s_check_word) := ⟨rfl, rfl, rfl, by decide +kernel, rfl, by decide +kernel, by decide +kernel⟩
noncomputable def d_check_word : DS :=
  (dFor (dSeqI (dVar 1)) (dgName 2) (dExpr (dCall f_check_letter [(dVar 0), (dVar 2)])))
noncomputable def f_check_word : DF := mkF 3 2 d_check_word
abbrev s_integer_rank : Stmt := topS 23
theorem sc_integer_rank : FnScope ["number"] ["number"] (defScope s_integer_rank) := ⟨rfl, rfl, rfl, by decide +kernel, rfl, by decide +kernel, by decide +kernel⟩
noncomputable def d_integer_rank : DS :=
  (dRet (dIfE (dTB (dOp gGt (dVar 0) (dC (.int 0)))) (dOp gSub (dOp gMul (dC (.int 2)) (dVar 0)) (dC (.int 1))) (dOp gMul (dUn gNeg (dC (.int 2))) (dVar 0))))
noncomputable def f_integer_rank : DF := mkF 1 1 d_integer_rank
abbrev s_rank : Stmt := topS 24
theorem sc_rank : FnScope ["kind", "letter", "head"] ["kind", "letter"] (defScope s_rank) := ⟨rfl, rfl, rfl, by decide +kernel, rfl, by decide +kernel, by decide +kernel⟩
noncomputable def d_rank (self : DF) : DS :=
  (dSeq (dSet 2 (dOp gIx (dVar 0) (dC (.int 0))))
  (dSeq (dIf (dTB (dOp gEq (dVar 2) (dC (.str (PySem.Str.ofString "names"))))) (dRet (dTIx (dOp gIx (dVar 0) (dC (.int 1))) (dVar 1))) dNx)
  (dSeq (dIf (dTB (dOp gEq (dVar 2) (dC (.str (PySem.Str.ofString "integers"))))) (dRet (dCall f_integer_rank [(dVar 1)])) dNx)
  (dSeq (dIf (dTB (dOp gEq (dVar 2) (dC (.str (PySem.Str.ofString "pair"))))) (dRet (dTup [(dCall self [(dOp gIx (dVar 0) (dC (.int 1))), (dOp gIx (dVar 1) (dC (.int 1)))]), (dCall self [(dOp gIx (dVar 0) (dC (.int 2))), (dOp gIx (dVar 1) (dC (.int 2)))])])) dNx)
  (dSeq (dIf (dTB (dOp gEq (dVar 2) (dC (.str (PySem.Str.ofString "either"))))) (dRet (dTup [(dOp gIx (dVar 1) (dC (.int 1))), (dCall self [(dOp gIx (dOp gIx (dVar 0) (dC (.int 1))) (dOp gIx (dVar 1) (dC (.int 1)))), (dOp gIx (dVar 1) (dC (.int 2)))])])) dNx)
  (dRet (dIfE (dTB (dOp gEq (dVar 1) (dTup [(dC (.str (PySem.Str.ofString "none")))]))) (dTup []) (dTup [(dCall self [(dOp gIx (dVar 0) (dC (.int 1))), (dOp gIx (dVar 1) (dC (.int 1)))])]))))))))
noncomputable def f_rank : Nat → DF
  | 0 => fun _ _ => .bad
  | n + 1 => mkF 3 2 (d_rank (f_rank n))
abbrev s__order : Stmt := topS 27
theorem sc__order : FnScope ["first", "second"] ["first", "second"] (defScope s__order) := ⟨rfl, rfl, rfl, by decide +kernel, rfl, by decide +kernel, by decide +kernel⟩
noncomputable def d__order : DS :=
  (dSeq (dIf (dTB (dOp gEq (dVar 0) (dVar 1))) (dRet (dC (.int 0))) dNx)
  (dRet (dIfE (dTB (dOp (gOrd false) (dVar 0) (dVar 1))) (dUn gNeg (dC (.int 1))) (dC (.int 1)))))
noncomputable def f__order : DF := mkF 2 2 d__order
abbrev s__word_rank : Stmt := topS 26
theorem sc__word_rank : FnScope ["kind", "word", "letter"] ["kind", "word"] (defScope s__word_rank) := ⟨rfl, rfl, rfl, by decide +kernel, rfl, by decide +kernel, by decide +kernel⟩
noncomputable def d__word_rank : DS :=
  (dRet (dTup [(dCall gLen [(dVar 1)]), (dLc (dSeqI (dVar 1)) (dgName 2) [2] dYes (dCall (f_rank 4) [(dVar 0), (dVar 2)]))]))
noncomputable def f__word_rank : DF := mkF 3 2 d__word_rank
abbrev s_words_compared : Stmt := topS 25
theorem sc_words_compared : FnScope ["kind", "first", "second"] ["kind", "first", "second"] (defScope s_words_compared) := ⟨rfl, rfl, rfl, by decide +kernel, rfl, by decide +kernel, by decide +kernel⟩
noncomputable def d_words_compared : DS :=
  (dSeq (dExpr (dCall f_check_word [(dVar 0), (dVar 1)]))
  (dSeq (dExpr (dCall f_check_word [(dVar 0), (dVar 2)]))
  (dRet (dCall (noX f__order) [(dCall (noX f__word_rank) [(dVar 0), (dVar 1)]), (dCall (noX f__word_rank) [(dVar 0), (dVar 2)])]))))
noncomputable def f_words_compared : DF := mkF 3 3 d_words_compared
abbrev s__law_tape : Stmt := topS 29
theorem sc__law_tape : FnScope ["script", "mixed", "cell"] ["script"] (defScope s__law_tape) := ⟨rfl, rfl, rfl, by decide +kernel, rfl, by decide +kernel, by decide +kernel⟩
noncomputable def d__law_tape : DS :=
  (dSeq (dSet 1 (dC (.int 7)))
  (dSeq (dFor (dSeqI (dVar 0)) (dgName 2) (dSet 1 (dOp gMod (dCall gInt [(dOp gAdd (dOp gMul (dVar 1) (dC (.int 31))) (dCall gAbs [(dCall gInt [(dVar 2)])]))]) (dC (.int 2147483647)))))
  (dRet (dLst [(dCall gList [(dVar 0)]), (dC (.int 0)), (dC (.int 0)), (dVar 1)]))))
noncomputable def f__law_tape : DF := mkF 3 1 d__law_tape
abbrev s__law_draw : Stmt := topS 30
theorem sc__law_draw : FnScope ["tape", "many", "place", "number"] ["tape", "many"] (defScope s__law_draw) := ⟨rfl, rfl, rfl, by decide +kernel, rfl, by decide +kernel, by decide +kernel⟩
noncomputable def d__law_draw : DS :=
  (dSeq (dIf (dTB (dOp gEq (dOp gIx (dVar 0) (dC (.int 2))) (dC (.int 0)))) (dSeq (dSet 2 (dOp gIx (dVar 0) (dC (.int 1))))
    (dSeq (dSet 3 (dC (.int 0)))
    (dSeq (dIf (dTB (dOp gLt (dVar 2) (dCall gLen [(dOp gIx (dVar 0) (dC (.int 0)))]))) (dSet 3 (dCall gAbs [(dCall gInt [(dOp gIx (dOp gIx (dVar 0) (dC (.int 0))) (dVar 2))])])) (dSeq (dSetIx (dVar 0) (dC (.int 3)) (dOp gMod (dCall gInt [(dOp gAdd (dOp gAdd (dOp gMul (dOp gIx (dVar 0) (dC (.int 3))) (dC (.int 48271))) (dVar 2)) (dC (.int 1)))]) (dC (.int 2147483647))))
      (dSet 3 (dOp gIx (dVar 0) (dC (.int 3))))))
    (dSeq (dSetIx (dVar 0) (dC (.int 1)) (dOp gAdd (dVar 2) (dC (.int 1))))
    (dSeq (dIf (dTB (dOp gLt (dVar 3) (dOp gPow (dC (.int 10)) (dC (.int 18))))) (dSeq (dSet 3 (dOp gMod (dCall gInt [(dOp gAdd (dOp gAdd (dOp gMul (dVar 3) (dC (.int 48271))) (dOp gMul (dVar 2) (dC (.int 69621)))) (dC (.int 5)))]) (dC (.int 2147483647))))
      (dSeq (dSet 3 (dOp gMod (dCall gInt [(dOp gMul (dVar 3) (dC (.int 69621)))]) (dC (.int 2147483629))))
      (dRet (dOp gMod (dCall gInt [(dVar 3)]) (dCall gMax [(dVar 1), (dC (.int 1))]))))) dNx)
    (dSetIx (dVar 0) (dC (.int 2)) (dVar 3))))))) dNx)
  (dSeq (dSet 3 (dOp gIx (dVar 0) (dC (.int 2))))
  (dSeq (dSetIx (dVar 0) (dC (.int 2)) (dOp gDiv (dVar 3) (dCall gMax [(dVar 1), (dC (.int 2))])))
  (dRet (dOp gMod (dCall gInt [(dVar 3)]) (dCall gMax [(dVar 1), (dC (.int 1))]))))))
noncomputable def f__law_draw : DF := mkF 4 2 d__law_draw
abbrev s__law_whole : Stmt := topS 31
theorem sc__law_whole : FnScope ["told"] ["told"] (defScope s__law_whole) := ⟨rfl, rfl, rfl, by decide +kernel, rfl, by decide +kernel, by decide +kernel⟩
noncomputable def d__law_whole : DS :=
  (dRet (dAnd (dCall gIsi [(dVar 0), (dC (.ty "int"))]) (dNot (dCall gIsi [(dVar 0), (dC (.ty "bool"))]))))
noncomputable def f__law_whole : DF := mkF 1 1 d__law_whole
abbrev s__law_names : Stmt := topS 32
theorem sc__law_names : FnScope ["tape", "signs", "fixed", "stem", "names", "k", "name"] ["tape"] (defScope s__law_names) := ⟨rfl, rfl, rfl, by decide +kernel, rfl, by decide +kernel, by decide +kernel⟩
noncomputable def d__law_names : DS :=
  (dSeq (dSet 1 (dC (.str (PySem.Str.ofString "abcdexyzABZ0189 !\"#$&'()*+,-./:;<=>?\x40[\\]^_{|}~"))))
  (dSeq (dSet 2 (dLst [(dC (.str (PySem.Str.ofString "none"))), (dC (.str (PySem.Str.ofString "pair"))), (dC (.str (PySem.Str.ofString "case"))), (dC (.str (PySem.Str.ofString "some"))), (dC (.str (PySem.Str.ofString "true"))), (dC (.str (PySem.Str.ofString "0")))]))
  (dSeq (dSet 3 (dOp gIx (dLst [(dC (.str (PySem.Str.ofString ""))), (dC (.str (PySem.Str.ofString ""))), (dC (.str (PySem.Str.ofString ""))), (dC (.str (PySem.Str.ofString "case"))), (dC (.str (PySem.Str.ofString "a ,")))]) (dCall f__law_draw [(dVar 0), (dC (.int 5))])))
  (dSeq (dSet 4 (dLst []))
  (dSeq (dFor (dRng1 (dOp gIx (dLst [(dC (.int 1)), (dC (.int 2)), (dC (.int 2)), (dC (.int 3)), (dC (.int 3)), (dC (.int 4))]) (dCall f__law_draw [(dVar 0), (dC (.int 6))]))) (dgName 5) (dSeq (dSet 6 (dOp gAdd (dVar 3) (dOp gIx (dVar 1) (dCall f__law_draw [(dVar 0), (dCall gLen [(dVar 1)])]))))
    (dSeq (dIf (dTB (dOp gEq (dCall f__law_draw [(dVar 0), (dC (.int 3))]) (dC (.int 0)))) (dSet 6 (dOp gAdd (dVar 6) (dOp gIx (dVar 1) (dCall f__law_draw [(dVar 0), (dCall gLen [(dVar 1)])])))) dNx)
    (dSeq (dIf (dTB (dOp gEq (dCall f__law_draw [(dVar 0), (dC (.int 8))]) (dC (.int 0)))) (dSet 6 (dOp gIx (dVar 2) (dCall f__law_draw [(dVar 0), (dC (.int 6))]))) dNx)
    (dIf (dTB (dOp gNotIn (dVar 6) (dVar 4))) (dExpr (dAppend (dVar 4) (dVar 6))) dNx)))))
  (dRet (dCall gTuple [(dVar 4)])))))))
noncomputable def f__law_names : DF := mkF 7 1 d__law_names
abbrev s__law_strange : Stmt := topS 33
theorem sc__law_strange : FnScope ["names", "name", "sign"] ["names"] (defScope s__law_strange) := ⟨rfl, rfl, rfl, by decide +kernel, rfl, by decide +kernel, by decide +kernel⟩
noncomputable def d__law_strange : DS :=
  (dRet (dOp gIx (dLc (dSeqI (dLc (dStrI (dC (.str (PySem.Str.ofString "pqrst")))) (dgName 2) [2] dYes (dOp gAdd (dSl (dOp gIx (dVar 0) (dC (.int 0))) dNoP (dPart (dC (.int 5)))) (dVar 2)))) (dgName 1) [1] (dTB (dOp gNotIn (dVar 1) (dVar 0))) (dVar 1)) (dC (.int 0))))
noncomputable def f__law_strange : DF := mkF 3 1 d__law_strange
abbrev s__law_kinds : Stmt := topS 34
theorem sc__law_kinds : FnScope ["kind", "piece"] ["kind"] (defScope s__law_kinds) := ⟨rfl, rfl, rfl, by decide +kernel, rfl, by decide +kernel, by decide +kernel⟩
noncomputable def d__law_kinds (self : DF) : DS :=
  (dSeq (dIf (dTB (dOp gEq (dOp gIx (dVar 0) (dC (.int 0))) (dC (.str (PySem.Str.ofString "pair"))))) (dRet (dOp gAdd (dOp gAdd (dC (.int 1)) (dCall self [(dOp gIx (dVar 0) (dC (.int 1)))])) (dCall self [(dOp gIx (dVar 0) (dC (.int 2)))]))) dNx)
  (dSeq (dIf (dTB (dOp gEq (dOp gIx (dVar 0) (dC (.int 0))) (dC (.str (PySem.Str.ofString "either"))))) (dRet (dOp gAdd (dC (.int 1)) (dCall gSum [(dLc (dSeqI (dOp gIx (dVar 0) (dC (.int 1)))) (dgName 1) [1] dYes (dCall self [(dVar 1)]))]))) dNx)
  (dSeq (dIf (dTB (dOp gEq (dOp gIx (dVar 0) (dC (.int 0))) (dC (.str (PySem.Str.ofString "maybe"))))) (dRet (dOp gAdd (dC (.int 1)) (dCall self [(dOp gIx (dVar 0) (dC (.int 1)))]))) dNx)
  (dRet (dC (.int 1))))))
noncomputable def f__law_kinds : Nat → DF
  | 0 => fun _ _ => .bad
  | n + 1 => mkF 2 1 (d__law_kinds (f__law_kinds n))
abbrev s__law_kind : Stmt := topS 35
theorem sc__law_kind : FnScope ["tape", "depth", "many", "choice", "first", "left", "parts", "kinds", "k", "piece"] ["tape", "depth", "many"] (defScope s__law_kind) := ⟨rfl, rfl, rfl, by decide +kernel, rfl, by decide +kernel, by decide +kernel⟩
noncomputable def d__law_kind (self : DF) : DS :=
  (dSeq (dSet 3 (dCall f__law_draw [(dVar 0), (dC (.int 8))]))
  (dSeq (dIf (dOrT (dTB (dOp gEq (dVar 1) (dC (.int 1)))) (dOrT (dTB (dOp gEq (dVar 2) (dC (.int 1)))) (dTB (dOp gLt (dVar 3) (dC (.int 2)))))) (dSeq (dIf (dTB (dOp gEq (dCall f__law_draw [(dVar 0), (dC (.int 3))]) (dC (.int 0)))) (dRet (dTup [(dC (.str (PySem.Str.ofString "names"))), (dCall f__law_names [(dVar 0)])])) dNx)
    (dRet (dTup [(dC (.str (PySem.Str.ofString "integers")))]))) dNx)
  (dSeq (dIf (dOrT (dTB (dOp gEq (dVar 2) (dC (.int 2)))) (dTB (dOp gEq (dVar 3) (dC (.int 2))))) (dRet (dTup [(dC (.str (PySem.Str.ofString "maybe"))), (dCall self [(dVar 0), (dOp gSub (dVar 1) (dC (.int 1))), (dOp gSub (dVar 2) (dC (.int 1)))])])) dNx)
  (dSeq (dIf (dTB (dOp gLt (dVar 3) (dC (.int 6)))) (dSeq (dSet 4 (dCall self [(dVar 0), (dOp gSub (dVar 1) (dC (.int 1))), (dOp gSub (dVar 2) (dC (.int 2)))]))
    (dRet (dTup [(dC (.str (PySem.Str.ofString "pair"))), (dVar 4), (dCall self [(dVar 0), (dOp gSub (dVar 1) (dC (.int 1))), (dOp gSub (dOp gSub (dVar 2) (dC (.int 1))) (dCall (f__law_kinds 4) [(dVar 4)]))])]))) dNx)
  (dSeq (dSet 5 (dOp gSub (dVar 2) (dC (.int 1))))
  (dSeq (dSet 6 (dOp gAdd (dC (.int 1)) (dCall f__law_draw [(dVar 0), (dCall gMin [(dC (.int 3)), (dVar 5)])])))
  (dSeq (dSet 7 (dLst []))
  (dSeq (dFor (dRng1 (dVar 6)) (dgName 8) (dSeq (dSet 9 (dCall self [(dVar 0), (dOp gSub (dVar 1) (dC (.int 1))), (dOp gSub (dVar 5) (dOp gSub (dOp gSub (dVar 6) (dC (.int 1))) (dVar 8)))]))
    (dSeq (dExpr (dAppend (dVar 7) (dVar 9)))
    (dSet 5 (dOp gSub (dVar 5) (dCall (f__law_kinds 4) [(dVar 9)]))))))
  (dRet (dTup [(dC (.str (PySem.Str.ofString "either"))), (dCall gTuple [(dVar 7)])]))))))))))
noncomputable def f__law_kind : Nat → DF
  | 0 => fun _ _ => .bad
  | n + 1 => mkF 10 3 (d__law_kind (f__law_kind n))
abbrev s__law_integer : Stmt := topS 36
theorem sc__law_integer : FnScope ["tape", "top", "choice", "number"] ["tape", "top"] (defScope s__law_integer) := ⟨rfl, rfl, rfl, by decide +kernel, rfl, by decide +kernel, by decide +kernel⟩
noncomputable def d__law_integer : DS :=
  (dSeq (dSet 2 (dCall f__law_draw [(dVar 0), (dC (.int 5))]))
  (dSeq (dSet 3 (dCall f__law_draw [(dVar 0), (dOp gIx (dLst [(dC (.int 2)), (dOp gAdd (dVar 1) (dC (.int 1))), (dOp gAdd (dVar 1) (dC (.int 14))), (dOp gPow (dC (.int 10)) (dC (.int 9))), (dOp gSub (dOp gPow (dC (.int 10)) (dC (.int 30))) (dC (.int 99)))]) (dVar 2))]))
  (dSeq (dIf (dTB (dOp gEq (dVar 2) (dC (.int 3)))) (dSet 3 (dOp gAdd (dOp gMul (dVar 3) (dOp gPow (dC (.int 10)) (dC (.int 21)))) (dCall f__law_draw [(dVar 0), (dOp gPow (dC (.int 10)) (dC (.int 9)))]))) dNx)
  (dRet (dOp gIx (dLst [(dVar 3), (dUn gNeg (dVar 3))]) (dCall f__law_draw [(dVar 0), (dC (.int 2))]))))))
noncomputable def f__law_integer : DF := mkF 4 2 d__law_integer
abbrev s__law_letter : Stmt := topS 37
theorem sc__law_letter : FnScope ["tape", "kind", "theory", "first", "i"] ["tape", "kind", "theory"] (defScope s__law_letter) := ⟨rfl, rfl, rfl, by decide +kernel, rfl, by decide +kernel, by decide +kernel⟩
noncomputable def d__law_letter (self : DF) : DS :=
  (dSeq (dIf (dTB (dOp gEq (dOp gIx (dVar 1) (dC (.int 0))) (dC (.str (PySem.Str.ofString "names"))))) (dRet (dOp gIx (dOp gIx (dVar 1) (dC (.int 1))) (dCall f__law_draw [(dVar 0), (dCall gLen [(dOp gIx (dVar 1) (dC (.int 1)))])]))) dNx)
  (dSeq (dIf (dTB (dOp gEq (dOp gIx (dVar 1) (dC (.int 0))) (dC (.str (PySem.Str.ofString "integers"))))) (dRet (dCall f__law_integer [(dVar 0), (dOp gIx (dVar 2) (dC (.int 0)))])) dNx)
  (dSeq (dIf (dTB (dOp gEq (dOp gIx (dVar 1) (dC (.int 0))) (dC (.str (PySem.Str.ofString "pair"))))) (dSeq (dSet 3 (dCall self [(dVar 0), (dOp gIx (dVar 1) (dC (.int 1))), (dVar 2)]))
    (dRet (dTup [(dC (.str (PySem.Str.ofString "pair"))), (dVar 3), (dCall self [(dVar 0), (dOp gIx (dVar 1) (dC (.int 2))), (dVar 2)])]))) dNx)
  (dSeq (dIf (dTB (dOp gEq (dOp gIx (dVar 1) (dC (.int 0))) (dC (.str (PySem.Str.ofString "either"))))) (dSeq (dSet 4 (dCall f__law_draw [(dVar 0), (dCall gLen [(dOp gIx (dVar 1) (dC (.int 1)))])]))
    (dRet (dTup [(dC (.str (PySem.Str.ofString "case"))), (dVar 4), (dCall self [(dVar 0), (dOp gIx (dOp gIx (dVar 1) (dC (.int 1))) (dVar 4)), (dVar 2)])]))) dNx)
  (dSeq (dIf (dTB (dOp gEq (dCall f__law_draw [(dVar 0), (dC (.int 3))]) (dC (.int 0)))) (dRet (dTup [(dC (.str (PySem.Str.ofString "none")))])) dNx)
  (dRet (dTup [(dC (.str (PySem.Str.ofString "some"))), (dCall self [(dVar 0), (dOp gIx (dVar 1) (dC (.int 1))), (dVar 2)])])))))))
noncomputable def f__law_letter : Nat → DF
  | 0 => fun _ _ => .bad
  | n + 1 => mkF 5 3 (d__law_letter (f__law_letter n))
abbrev s__law_word : Stmt := topS 38
theorem sc__law_word : FnScope ["tape", "kind", "theory", "most", "k"] ["tape", "kind", "theory", "most"] (defScope s__law_word) := ⟨rfl, rfl, rfl, by decide +kernel, rfl, by decide +kernel, by decide +kernel⟩
noncomputable def d__law_word : DS :=
  (dRet (dCall gTuple [(dLc (dRng1 (dCall f__law_draw [(dVar 0), (dOp gAdd (dVar 3) (dC (.int 1)))])) (dgName 4) [4] dYes (dCall (f__law_letter 4) [(dVar 0), (dVar 1), (dVar 2)]))]))
noncomputable def f__law_word : DF := mkF 5 4 d__law_word
abbrev s__law_key : Stmt := topS 39
theorem sc__law_key : FnScope ["kind", "letter"] ["kind", "letter"] (defScope s__law_key) := ⟨rfl, rfl, rfl, by decide +kernel, rfl, by decide +kernel, by decide +kernel⟩
noncomputable def d__law_key (self : DF) : DS :=
  (dSeq (dIf (dTB (dOp gEq (dOp gIx (dVar 0) (dC (.int 0))) (dC (.str (PySem.Str.ofString "names"))))) (dRet (dTup [(dTIx (dOp gIx (dVar 0) (dC (.int 1))) (dVar 1))])) dNx)
  (dSeq (dIf (dTB (dOp gEq (dOp gIx (dVar 0) (dC (.int 0))) (dC (.str (PySem.Str.ofString "integers"))))) (dRet (dTup [(dOp gSub (dOp gMul (dC (.int 2)) (dCall gAbs [(dVar 1)])) (dCall gInt [(dOp gGt (dVar 1) (dC (.int 0)))]))])) dNx)
  (dSeq (dIf (dTB (dOp gEq (dOp gIx (dVar 0) (dC (.int 0))) (dC (.str (PySem.Str.ofString "pair"))))) (dRet (dTup [(dCall self [(dOp gIx (dVar 0) (dC (.int 1))), (dOp gIx (dVar 1) (dC (.int 1)))]), (dCall self [(dOp gIx (dVar 0) (dC (.int 2))), (dOp gIx (dVar 1) (dC (.int 2)))])])) dNx)
  (dSeq (dIf (dTB (dOp gEq (dOp gIx (dVar 0) (dC (.int 0))) (dC (.str (PySem.Str.ofString "either"))))) (dRet (dTup [(dOp gIx (dVar 1) (dC (.int 1))), (dCall self [(dOp gIx (dOp gIx (dVar 0) (dC (.int 1))) (dOp gIx (dVar 1) (dC (.int 1)))), (dOp gIx (dVar 1) (dC (.int 2)))])])) dNx)
  (dSeq (dIf (dTB (dOp gEq (dOp gIx (dVar 1) (dC (.int 0))) (dC (.str (PySem.Str.ofString "none"))))) (dRet (dTup [(dC (.int 0))])) dNx)
  (dRet (dTup [(dC (.int 1)), (dCall self [(dOp gIx (dVar 0) (dC (.int 1))), (dOp gIx (dVar 1) (dC (.int 1)))])])))))))
noncomputable def f__law_key : Nat → DF
  | 0 => fun _ _ => .bad
  | n + 1 => mkF 2 2 (d__law_key (f__law_key n))
abbrev s__law_word_key : Stmt := topS 40
theorem sc__law_word_key : FnScope ["kind", "word", "letter"] ["kind", "word"] (defScope s__law_word_key) := ⟨rfl, rfl, rfl, by decide +kernel, rfl, by decide +kernel, by decide +kernel⟩
noncomputable def d__law_word_key : DS :=
  (dRet (dTup [(dCall gLen [(dVar 1)]), (dCall gTuple [(dLc (dSeqI (dVar 1)) (dgName 2) [2] dYes (dCall (f__law_key 4) [(dVar 0), (dVar 2)]))])]))
noncomputable def f__law_word_key : DF := mkF 3 2 d__law_word_key
abbrev s__law_is_letter : Stmt := topS 41
theorem sc__law_is_letter : FnScope ["kind", "told"] ["kind", "told"] (defScope s__law_is_letter) := ⟨rfl, rfl, rfl, by decide +kernel, rfl, by decide +kernel, by decide +kernel⟩
noncomputable def d__law_is_letter (self : DF) : DS :=
  (dSeq (dIf (dTB (dOp gEq (dOp gIx (dVar 0) (dC (.int 0))) (dC (.str (PySem.Str.ofString "names"))))) (dRet (dAnd (dCall gIsi [(dVar 1), (dC (.ty "str"))]) (dOp gIn (dVar 1) (dOp gIx (dVar 0) (dC (.int 1)))))) dNx)
  (dSeq (dIf (dTB (dOp gEq (dOp gIx (dVar 0) (dC (.int 0))) (dC (.str (PySem.Str.ofString "integers"))))) (dRet (dCall f__law_whole [(dVar 1)])) dNx)
  (dSeq (dIf (dOrT (dNotT (dT (dCall gIsi [(dVar 1), (dC (.ty "tuple"))]))) (dOrT (dTB (dOp gEq (dCall gLen [(dVar 1)]) (dC (.int 0)))) (dNotT (dT (dCall gIsi [(dOp gIx (dVar 1) (dC (.int 0))), (dC (.ty "str"))]))))) (dRet (dC (.bl false))) dNx)
  (dSeq (dIf (dTB (dOp gEq (dOp gIx (dVar 0) (dC (.int 0))) (dC (.str (PySem.Str.ofString "pair"))))) (dSeq (dIf (dOrT (dTB (dOp gNe (dOp gIx (dVar 1) (dC (.int 0))) (dC (.str (PySem.Str.ofString "pair"))))) (dTB (dOp gNe (dCall gLen [(dVar 1)]) (dC (.int 3))))) (dRet (dC (.bl false))) dNx)
    (dRet (dAnd (dCall self [(dOp gIx (dVar 0) (dC (.int 1))), (dOp gIx (dVar 1) (dC (.int 1)))]) (dCall self [(dOp gIx (dVar 0) (dC (.int 2))), (dOp gIx (dVar 1) (dC (.int 2)))])))) dNx)
  (dSeq (dIf (dTB (dOp gEq (dOp gIx (dVar 0) (dC (.int 0))) (dC (.str (PySem.Str.ofString "either"))))) (dSeq (dIf (dOrT (dTB (dOp gNe (dOp gIx (dVar 1) (dC (.int 0))) (dC (.str (PySem.Str.ofString "case"))))) (dOrT (dTB (dOp gNe (dCall gLen [(dVar 1)]) (dC (.int 3)))) (dNotT (dT (dCall f__law_whole [(dOp gIx (dVar 1) (dC (.int 1)))]))))) (dRet (dC (.bl false))) dNx)
    (dSeq (dIf (dOrT (dTB (dOp gLt (dOp gIx (dVar 1) (dC (.int 1))) (dC (.int 0)))) (dTB (dOp gGe (dOp gIx (dVar 1) (dC (.int 1))) (dCall gLen [(dOp gIx (dVar 0) (dC (.int 1)))])))) (dRet (dC (.bl false))) dNx)
    (dRet (dCall self [(dOp gIx (dOp gIx (dVar 0) (dC (.int 1))) (dOp gIx (dVar 1) (dC (.int 1)))), (dOp gIx (dVar 1) (dC (.int 2)))])))) dNx)
  (dSeq (dIf (dTB (dOp gEq (dOp gIx (dVar 1) (dC (.int 0))) (dC (.str (PySem.Str.ofString "none"))))) (dRet (dOp gEq (dCall gLen [(dVar 1)]) (dC (.int 1)))) dNx)
  (dRet (dAnd (dOp gEq (dOp gIx (dVar 1) (dC (.int 0))) (dC (.str (PySem.Str.ofString "some")))) (dAnd (dOp gEq (dCall gLen [(dVar 1)]) (dC (.int 2))) (dCall self [(dOp gIx (dVar 0) (dC (.int 1))), (dOp gIx (dVar 1) (dC (.int 1)))]))))))))))
noncomputable def f__law_is_letter : Nat → DF
  | 0 => fun _ _ => .bad
  | n + 1 => mkF 2 2 (d__law_is_letter (f__law_is_letter n))
abbrev s__law_error : Stmt := topS 42
theorem sc__law_error : FnScope ["wrong", "flags"] ["wrong"] (defScope s__law_error) := ⟨rfl, rfl, rfl, by decide +kernel, rfl, by decide +kernel, by decide +kernel⟩
noncomputable def d__law_error (a : Nat) (cn : Str) : DS :=
  (dSeq (dSet 1 (dLst [(dIsE 0 a (decide (cn = "BadLetter"))), (dIsE 0 a (decide (cn = "BadCondition"))), (dIsE 0 a (decide (cn = "BadTerm")))]))
  (dSeq (dSet 1 (dOp gAdd (dVar 1) (dLst [(dIsE 0 a (decide (cn = "OtherKinds"))), (dIsE 0 a (decide (cn = "Unread"))), (dIsE 0 a (decide (cn = "NotPlain")))])))
  (dSeq (dSet 1 (dOp gAdd (dVar 1) (dLst [(dIsE 0 a (decide (cn = "NotSingle"))), (dIsE 0 a (decide (cn = "TooMany"))), (dIsE 0 a (decide (cn = "UnknownName")))])))
  (dSeq (dSet 1 (dOp gAdd (dVar 1) (dLst [(dIsE 0 a (decide (cn = "Circle"))), (dIsE 0 a (decide (cn = "TooLarge"))), (dIsE 0 a (decide (cn = "WrongUse")))])))
  (dSeq (dSet 1 (dOp gAdd (dVar 1) (dLst [(dIsE 0 a (decide (cn = "InUse"))), (dIsE 0 a (decide (cn = "NothingToUndo")))])))
  (dSeq (dIf (dOrT (dNotT (dT (dIsE 0 a true))) (dTB (dOp gNe (dLM gLCnt (dVar 1) (dC (.bl true))) (dC (.int 1))))) (dRet (dUn gNeg (dC (.int 1)))) dNx)
  (dRet (dLM gLIx (dVar 1) (dC (.bl true))))))))))
noncomputable def f__law_error (a : Nat) (cn : Str) : DF := mkF 2 1 (d__law_error a cn)
abbrev s__law_turned : Stmt := topS 43
theorem sc__law_turned : FnScope ["kind", "piece"] ["kind"] (defScope s__law_turned) := ⟨rfl, rfl, rfl, by decide +kernel, rfl, by decide +kernel, by decide +kernel⟩
noncomputable def d__law_turned (self : DF) : DS :=
  (dSeq (dIf (dTB (dOp gEq (dOp gIx (dVar 0) (dC (.int 0))) (dC (.str (PySem.Str.ofString "names"))))) (dRet (dTup [(dC (.str (PySem.Str.ofString "names"))), (dUn gBack (dOp gIx (dVar 0) (dC (.int 1))))])) dNx)
  (dSeq (dIf (dTB (dOp gEq (dOp gIx (dVar 0) (dC (.int 0))) (dC (.str (PySem.Str.ofString "pair"))))) (dRet (dTup [(dC (.str (PySem.Str.ofString "pair"))), (dCall self [(dOp gIx (dVar 0) (dC (.int 1)))]), (dCall self [(dOp gIx (dVar 0) (dC (.int 2)))])])) dNx)
  (dSeq (dIf (dTB (dOp gEq (dOp gIx (dVar 0) (dC (.int 0))) (dC (.str (PySem.Str.ofString "either"))))) (dRet (dTup [(dC (.str (PySem.Str.ofString "either"))), (dCall gTuple [(dLc (dSeqI (dOp gIx (dVar 0) (dC (.int 1)))) (dgName 1) [1] dYes (dCall self [(dVar 1)]))])])) dNx)
  (dSeq (dIf (dTB (dOp gEq (dOp gIx (dVar 0) (dC (.int 0))) (dC (.str (PySem.Str.ofString "maybe"))))) (dRet (dTup [(dC (.str (PySem.Str.ofString "maybe"))), (dCall self [(dOp gIx (dVar 0) (dC (.int 1)))])])) dNx)
  (dRet (dVar 0))))))
noncomputable def f__law_turned : Nat → DF
  | 0 => fun _ _ => .bad
  | n + 1 => mkF 2 1 (d__law_turned (f__law_turned n))
abbrev s__law_near : Stmt := topS 44
theorem sc__law_near : FnScope ["tape", "kind", "letter", "side", "i"] ["tape", "kind", "letter"] (defScope s__law_near) := ⟨rfl, rfl, rfl, by decide +kernel, rfl, by decide +kernel, by decide +kernel⟩
noncomputable def d__law_near (self : DF) : DS :=
  (dSeq (dIf (dTB (dOp gEq (dOp gIx (dVar 1) (dC (.int 0))) (dC (.str (PySem.Str.ofString "names"))))) (dRet (dOp gIx (dOp gIx (dVar 1) (dC (.int 1))) (dCall f__law_draw [(dVar 0), (dCall gLen [(dOp gIx (dVar 1) (dC (.int 1)))])]))) dNx)
  (dSeq (dIf (dTB (dOp gEq (dOp gIx (dVar 1) (dC (.int 0))) (dC (.str (PySem.Str.ofString "integers"))))) (dRet (dOp gIx (dLst [(dOp gAdd (dVar 2) (dC (.int 1))), (dOp gSub (dVar 2) (dC (.int 1))), (dUn gNeg (dVar 2)), (dOp gAdd (dVar 2) (dC (.int 12))), (dC (.int 0))]) (dCall f__law_draw [(dVar 0), (dC (.int 5))]))) dNx)
  (dSeq (dIf (dTB (dOp gEq (dOp gIx (dVar 1) (dC (.int 0))) (dC (.str (PySem.Str.ofString "pair"))))) (dSeq (dSet 3 (dOp gAdd (dC (.int 1)) (dCall f__law_draw [(dVar 0), (dC (.int 2))])))
    (dRet (dOp gAdd (dOp gAdd (dSl (dVar 2) dNoP (dPart (dVar 3))) (dTup [(dCall self [(dVar 0), (dOp gIx (dVar 1) (dVar 3)), (dOp gIx (dVar 2) (dVar 3))])])) (dSl (dVar 2) (dPart (dOp gAdd (dVar 3) (dC (.int 1)))) dNoP)))) dNx)
  (dSeq (dIf (dTB (dOp gEq (dOp gIx (dVar 1) (dC (.int 0))) (dC (.str (PySem.Str.ofString "either"))))) (dSeq (dSet 4 (dCall f__law_draw [(dVar 0), (dCall gLen [(dOp gIx (dVar 1) (dC (.int 1)))])]))
    (dSeq (dIf (dTB (dOp gEq (dVar 4) (dOp gIx (dVar 2) (dC (.int 1))))) (dRet (dTup [(dC (.str (PySem.Str.ofString "case"))), (dVar 4), (dCall self [(dVar 0), (dOp gIx (dOp gIx (dVar 1) (dC (.int 1))) (dVar 4)), (dOp gIx (dVar 2) (dC (.int 2)))])])) dNx)
    (dRet (dTup [(dC (.str (PySem.Str.ofString "case"))), (dVar 4), (dCall (f__law_letter 4) [(dVar 0), (dOp gIx (dOp gIx (dVar 1) (dC (.int 1))) (dVar 4)), (dTup [(dC (.int 20)), (dC (.int 12))])])])))) dNx)
  (dSeq (dIf (dTB (dOp gEq (dOp gIx (dVar 2) (dC (.int 0))) (dC (.str (PySem.Str.ofString "none"))))) (dRet (dTup [(dC (.str (PySem.Str.ofString "some"))), (dCall (f__law_letter 4) [(dVar 0), (dOp gIx (dVar 1) (dC (.int 1))), (dTup [(dC (.int 20)), (dC (.int 12))])])])) dNx)
  (dSeq (dIf (dTB (dOp gEq (dCall f__law_draw [(dVar 0), (dC (.int 4))]) (dC (.int 0)))) (dRet (dTup [(dC (.str (PySem.Str.ofString "none")))])) dNx)
  (dRet (dTup [(dC (.str (PySem.Str.ofString "some"))), (dCall self [(dVar 0), (dOp gIx (dVar 1) (dC (.int 1))), (dOp gIx (dVar 2) (dC (.int 1)))])]))))))))
noncomputable def f__law_near : Nat → DF
  | 0 => fun _ _ => .bad
  | n + 1 => mkF 5 3 (d__law_near (f__law_near n))
abbrev s__law_foreign : Stmt := topS 45
theorem sc__law_foreign : FnScope ["tape", "kind", "letter", "choice", "side", "others", "left", "one"] ["tape", "kind", "letter"] (defScope s__law_foreign) := ⟨rfl, rfl, rfl, by decide +kernel, rfl, by decide +kernel, by decide +kernel⟩
noncomputable def d__law_foreign (self : DF) : DS :=
  (dSeq (dSet 3 (dCall f__law_draw [(dVar 0), (dC (.int 4))]))
  (dSeq (dIf (dAndT (dTB (dOp gGt (dVar 3) (dC (.int 0)))) (dTB (dOp gLt (dCall (f__law_kinds 4) [(dVar 1)]) (dC (.int 5))))) (dSeq (dIf (dTB (dOp gEq (dOp gIx (dVar 1) (dC (.int 0))) (dC (.str (PySem.Str.ofString "pair"))))) (dSeq (dSet 4 (dOp gAdd (dC (.int 1)) (dCall f__law_draw [(dVar 0), (dC (.int 2))])))
      (dRet (dOp gAdd (dOp gAdd (dSl (dVar 2) dNoP (dPart (dVar 4))) (dTup [(dCall self [(dVar 0), (dOp gIx (dVar 1) (dVar 4)), (dOp gIx (dVar 2) (dVar 4))])])) (dSl (dVar 2) (dPart (dOp gAdd (dVar 4) (dC (.int 1)))) dNoP)))) dNx)
    (dSeq (dIf (dAndT (dTB (dOp gEq (dOp gIx (dVar 1) (dC (.int 0))) (dC (.str (PySem.Str.ofString "either"))))) (dAndT (dTB (dOp gEq (dVar 3) (dC (.int 1)))) (dTB (dOp gLt (dCall gLen [(dOp gIx (dVar 1) (dC (.int 1)))]) (dC (.int 3)))))) (dRet (dTup [(dC (.str (PySem.Str.ofString "case"))), (dCall gLen [(dOp gIx (dVar 1) (dC (.int 1)))]), (dOp gIx (dVar 2) (dC (.int 2)))])) dNx)
    (dSeq (dIf (dTB (dOp gEq (dOp gIx (dVar 1) (dC (.int 0))) (dC (.str (PySem.Str.ofString "either"))))) (dRet (dTup [(dC (.str (PySem.Str.ofString "case"))), (dOp gIx (dVar 2) (dC (.int 1))), (dCall self [(dVar 0), (dOp gIx (dOp gIx (dVar 1) (dC (.int 1))) (dOp gIx (dVar 2) (dC (.int 1)))), (dOp gIx (dVar 2) (dC (.int 2)))])])) dNx)
    (dIf (dAndT (dTB (dOp gEq (dOp gIx (dVar 1) (dC (.int 0))) (dC (.str (PySem.Str.ofString "maybe"))))) (dTB (dOp gEq (dOp gIx (dVar 2) (dC (.int 0))) (dC (.str (PySem.Str.ofString "some")))))) (dRet (dTup [(dC (.str (PySem.Str.ofString "some"))), (dCall self [(dVar 0), (dOp gIx (dVar 1) (dC (.int 1))), (dOp gIx (dVar 2) (dC (.int 1)))])])) dNx)))) dNx)
  (dSeq (dIf (dTB (dOp gEq (dOp gIx (dVar 1) (dC (.int 0))) (dC (.str (PySem.Str.ofString "names"))))) (dRet (dOp gIx (dLst [(dCall f__law_strange [(dOp gIx (dVar 1) (dC (.int 1)))]), (dC (.int 0)), (dC (.int 1)), (dCall f__law_integer [(dVar 0), (dC (.int 20))])]) (dCall f__law_draw [(dVar 0), (dC (.int 4))]))) dNx)
  (dSeq (dIf (dTB (dOp gEq (dOp gIx (dVar 1) (dC (.int 0))) (dC (.str (PySem.Str.ofString "integers"))))) (dRet (dOp gIx (dLst [(dC (.str (PySem.Str.ofString "0"))), (dC (.str (PySem.Str.ofString "q"))), (dC (.str (PySem.Str.ofString "some")))]) (dCall f__law_draw [(dVar 0), (dC (.int 3))]))) dNx)
  (dSeq (dSet 5 (dLst [(dC (.int 0)), (dC (.str (PySem.Str.ofString "q"))), (dTup [(dC (.str (PySem.Str.ofString "none")))]), (dTup [(dC (.str (PySem.Str.ofString "some"))), (dC (.int 1))]), (dTup [(dC (.str (PySem.Str.ofString "some"))), (dC (.str (PySem.Str.ofString "q")))]), (dTup [(dC (.str (PySem.Str.ofString "case"))), (dC (.int 0)), (dC (.int 1))]), (dTup [(dC (.str (PySem.Str.ofString "pair"))), (dC (.int 0)), (dC (.str (PySem.Str.ofString "q")))])]))
  (dSeq (dSet 6 (dLc (dSeqI (dVar 5)) (dgName 7) [7] (dNotT (dT (dCall (f__law_is_letter 4) [(dVar 1), (dVar 7)]))) (dVar 7)))
  (dRet (dOp gIx (dVar 6) (dCall f__law_draw [(dVar 0), (dCall gLen [(dVar 6)])])))))))))
noncomputable def f__law_foreign : Nat → DF
  | 0 => fun _ _ => .bad
  | n + 1 => mkF 8 3 (d__law_foreign (f__law_foreign n))
abbrev s__law_refused : Stmt := topS 46
theorem sc__law_refused : FnScope ["kind", "first", "second", "e"] ["kind", "first", "second"] (defScope s__law_refused) := ⟨rfl, rfl, rfl, by decide +kernel, rfl, by decide +kernel, by decide +kernel⟩
noncomputable def d__law_refused : DS :=
  (dSeq (dTry errNs 3 (dExpr (dCall f_words_compared [(dVar 0), (dVar 1), (dVar 2)])) (fun a cn => (dRet (dOp gEq (dCall (f__law_error a cn) [(dVar 3)]) (dC (.int 0))))))
  (dRet (dC (.bl false))))
noncomputable def f__law_refused : DF := mkF 4 3 d__law_refused
abbrev s__law_answers : Stmt := topS 47
theorem sc__law_answers : FnScope ["kind", "first", "second", "told", "one", "two"] ["kind", "first", "second"] (defScope s__law_answers) := ⟨rfl, rfl, rfl, by decide +kernel, rfl, by decide +kernel, by decide +kernel⟩
noncomputable def d__law_answers : DS :=
  (dSeq (dSet 3 (dCall f_words_compared [(dVar 0), (dVar 1), (dVar 2)]))
  (dSeq (dSet 4 (dCall f__law_word_key [(dVar 0), (dVar 1)]))
  (dSeq (dSet 5 (dCall f__law_word_key [(dVar 0), (dVar 2)]))
  (dRet (dAnd (dCall f__law_whole [(dVar 3)]) (dOp gEq (dVar 3) (dOp gSub (dCall gInt [(dOp (gOrd true) (dVar 4) (dVar 5))]) (dCall gInt [(dOp (gOrd false) (dVar 4) (dVar 5))]))))))))
noncomputable def f__law_answers : DF := mkF 6 3 d__law_answers
abbrev s__law_changed : Stmt := topS 48
theorem sc__law_changed : FnScope ["tape", "kind", "word", "choice", "k"] ["tape", "kind", "word"] (defScope s__law_changed) := ⟨rfl, rfl, rfl, by decide +kernel, rfl, by decide +kernel, by decide +kernel⟩
noncomputable def d__law_changed : DS :=
  (dSeq (dSet 3 (dCall f__law_draw [(dVar 0), (dC (.int 6))]))
  (dSeq (dIf (dOrT (dTB (dOp gEq (dVar 3) (dC (.int 0)))) (dTB (dOp gEq (dCall gLen [(dVar 2)]) (dC (.int 0))))) (dRet (dCall f__law_word [(dVar 0), (dVar 1), (dTup [(dC (.int 20)), (dC (.int 12))]), (dC (.int 8))])) dNx)
  (dSeq (dSet 4 (dCall f__law_draw [(dVar 0), (dCall gLen [(dVar 2)])]))
  (dSeq (dIf (dTB (dOp gEq (dVar 3) (dC (.int 1)))) (dRet (dSl (dVar 2) dNoP (dPart (dVar 4)))) dNx)
  (dSeq (dIf (dAndT (dTB (dOp gEq (dVar 3) (dC (.int 2)))) (dTB (dOp gLt (dCall gLen [(dVar 2)]) (dC (.int 8))))) (dRet (dOp gAdd (dOp gAdd (dSl (dVar 2) dNoP (dPart (dVar 4))) (dTup [(dCall (f__law_letter 4) [(dVar 0), (dVar 1), (dTup [(dC (.int 20)), (dC (.int 12))])])])) (dSl (dVar 2) (dPart (dVar 4)) dNoP))) dNx)
  (dSeq (dIf (dTB (dOp gEq (dVar 3) (dC (.int 3)))) (dRet (dOp gAdd (dSl (dVar 2) (dPart (dVar 4)) dNoP) (dSl (dVar 2) dNoP (dPart (dVar 4))))) dNx)
  (dRet (dOp gAdd (dOp gAdd (dSl (dVar 2) dNoP (dPart (dVar 4))) (dTup [(dCall (f__law_near 4) [(dVar 0), (dVar 1), (dOp gIx (dVar 2) (dVar 4))])])) (dSl (dVar 2) (dPart (dOp gAdd (dVar 4) (dC (.int 1)))) dNoP)))))))))
noncomputable def f__law_changed : DF := mkF 5 3 d__law_changed
abbrev s_law : Stmt := topS 49
theorem sc_law : FnScope ["script", "tape", "kind", "first", "second", "third", "asked", "pair", "letter", "k", "strange"] ["script"] (defScope s_law) := ⟨rfl, rfl, rfl, by decide +kernel, rfl, by decide +kernel, by decide +kernel⟩
noncomputable def d_law : DS :=
  (dSeq (dSet 1 (dCall f__law_tape [(dVar 0)]))
  (dSeq (dSet 2 (dCall (f__law_kind 4) [(dVar 1), (dC (.int 3)), (dC (.int 6))]))
  (dSeq (dSet 3 (dCall f__law_word [(dVar 1), (dVar 2), (dTup [(dC (.int 20)), (dC (.int 12))]), (dC (.int 8))]))
  (dSeq (dSet 4 (dCall f__law_changed [(dVar 1), (dVar 2), (dVar 3)]))
  (dSeq (dSet 5 (dCall f__law_changed [(dVar 1), (dVar 2), (dVar 4)]))
  (dSeq (dFor (dSeqI (dLst [(dVar 2), (dCall (f__law_turned 4) [(dVar 2)]), (dVar 2)])) (dgName 6) (dFor (dSeqI (dLst [(dTup [(dVar 3), (dVar 4)]), (dTup [(dVar 4), (dVar 3)]), (dTup [(dVar 3), (dVar 5)])])) (dgName 7) (dIf (dNotT (dT (dCall f__law_answers [(dVar 6), (dOp gIx (dVar 7) (dC (.int 0))), (dOp gIx (dVar 7) (dC (.int 1)))]))) (dRet (dC (.bl false))) dNx)))
  (dSeq (dSet 8 (dCall (f__law_letter 4) [(dVar 1), (dVar 2), (dTup [(dC (.int 20)), (dC (.int 12))])]))
  (dSeq (dSet 9 (dCall f__law_draw [(dVar 1), (dC (.int 7))]))
  (dSeq (dSet 10 (dOp gAdd (dOp gAdd (dSl (dVar 3) dNoP (dPart (dVar 9))) (dTup [(dCall (f__law_foreign 4) [(dVar 1), (dVar 2), (dVar 8)])])) (dSl (dVar 3) (dPart (dOp gAdd (dVar 9) (dC (.int 1)))) dNoP)))
  (dSeq (dIf (dOrT (dNotT (dT (dCall f__law_refused [(dVar 2), (dVar 10), (dVar 4)]))) (dNotT (dT (dCall f__law_answers [(dVar 2), (dVar 4), (dVar 5)])))) (dRet (dC (.bl false))) dNx)
  (dRet (dAnd (dCall f__law_refused [(dVar 2), (dVar 4), (dVar 10)]) (dCall f__law_answers [(dVar 2), (dVar 4), (dVar 4)])))))))))))))
noncomputable def f_law : DF := mkF 11 1 d_law
end G
set_option maxHeartbeats 4000000
namespace G
open PySem L2 Fs
/-! the number of an error -/
theorem get_end {S : Store} {c : Cell} : (S ++ [c])[S.length]? = some c := by
  rw [List.getElem?_append_right (Nat.le_refl _), Nat.sub_self]
  rfl
theorem get_old {S cs : Store} {n : Nat} {c : Cell} (h : S[n]? = some c) : (S ++ cs)[n]? = some c := by
  rw [List.getElem?_append_left (List.getElem?_eq_some_iff.mp h).1]
  exact h
abbrev eqn (cn : Str) (x : String) : W := .bl (decide (cn = (PySem.Str.ofString x)))
def errL (cn : Str) : List String → List W := fun l => l.map (eqn cn)
/-- flags = flags + [..] -/
theorem more3 {a n : Nat} {cn : Str} {S : Store} {ws : List W} {b1 b2 b3 : Bool} (h : S[n]? = some (.lst ws)) (hl : ws.length ≤ 20) :
    dSet 1 (dOp gAdd (dVar 1) (dLst [dIsE 0 a b1, dIsE 0 a b2, dIsE 0 a b3])) [some (.adr a), some (.loc n)] S = .nx [some (.adr a), some (.loc (S.length + 1))] (S ++ [.lst [.bl b1, .bl b2, .bl b3], .lst (ws ++ [.bl b1, .bl b2, .bl b3])]) := by
  have e : dOp gAdd (dVar 1) (dLst [dIsE 0 a b1, dIsE 0 a b2, dIsE 0 a b3]) [some (.adr a), some (.loc n)] S = .ok (.loc (S.length + 1)) (S ++ [.lst [.bl b1, .bl b2, .bl b3], .lst (ws ++ [.bl b1, .bl b2, .bl b3])]) := by
    rw [op_ev, var1_ev, opK_ok, lst_ev, args_ev, isE0, argK_ok, args_ev, isE0, argK_ok, args_ev, isE0, argK_ok, args_nil, argK2_ok, argK2_ok, argK2_ok, lstK_ok (by simp), opK2_ok]
    rw [add_ll (get_old h) get_end (by simp; omega), List.length_append]
    simp
  rw [set_ev, e, setK_ok, set1_ev]
theorem more2 {a n : Nat} {cn : Str} {S : Store} {ws : List W} {b1 b2 : Bool} (h : S[n]? = some (.lst ws)) (hl : ws.length ≤ 20) :
    dSet 1 (dOp gAdd (dVar 1) (dLst [dIsE 0 a b1, dIsE 0 a b2])) [some (.adr a), some (.loc n)] S = .nx [some (.adr a), some (.loc (S.length + 1))] (S ++ [.lst [.bl b1, .bl b2], .lst (ws ++ [.bl b1, .bl b2])]) := by
  have e : dOp gAdd (dVar 1) (dLst [dIsE 0 a b1, dIsE 0 a b2]) [some (.adr a), some (.loc n)] S = .ok (.loc (S.length + 1)) (S ++ [.lst [.bl b1, .bl b2], .lst (ws ++ [.bl b1, .bl b2])]) := by
    rw [op_ev, var1_ev, opK_ok, lst_ev, args_ev, isE0, argK_ok, args_ev, isE0, argK_ok, args_nil, argK2_ok, argK2_ok, lstK_ok (by simp), opK2_ok]
    rw [add_ll (get_old h) get_end (by simp; omega), List.length_append]
    simp
  rw [set_ev, e, setK_ok, set1_ev]
theorem sqK_nx {n : DS} {ls : Lo} {S : Store} : sqK n (.nx ls S) = n ls S := rfl
def fl3 (cn : Str) (x y z : String) : List W := [eqn cn x, eqn cn y, eqn cn z]
def flE (cn : Str) : List W := (((fl3 cn "BadLetter" "BadCondition" "BadTerm" ++ fl3 cn "OtherKinds" "Unread" "NotPlain") ++ fl3 cn "NotSingle" "TooMany" "UnknownName") ++ fl3 cn "Circle" "TooLarge" "WrongUse") ++ [eqn cn "InUse", eqn cn "NothingToUndo"]
/-- the lists that are made on the way -/
def errC (cn : Str) : List Cell := [.lst (fl3 cn "BadLetter" "BadCondition" "BadTerm"),
  .lst (fl3 cn "OtherKinds" "Unread" "NotPlain"), .lst (fl3 cn "BadLetter" "BadCondition" "BadTerm" ++ fl3 cn "OtherKinds" "Unread" "NotPlain"),
  .lst (fl3 cn "NotSingle" "TooMany" "UnknownName"), .lst ((fl3 cn "BadLetter" "BadCondition" "BadTerm" ++ fl3 cn "OtherKinds" "Unread" "NotPlain") ++ fl3 cn "NotSingle" "TooMany" "UnknownName"),
  .lst (fl3 cn "Circle" "TooLarge" "WrongUse"), .lst (((fl3 cn "BadLetter" "BadCondition" "BadTerm" ++ fl3 cn "OtherKinds" "Unread" "NotPlain") ++ fl3 cn "NotSingle" "TooMany" "UnknownName") ++ fl3 cn "Circle" "TooLarge" "WrongUse"),
  .lst [eqn cn "InUse", eqn cn "NothingToUndo"], .lst (flE cn)]
def errNo (cn : Str) : Nat := (posFl (.bl true) (flE cn)).getD 99
theorem errNo_all : ∀ cn ∈ errNs, posFl (.bl true) (flE cn) = some (errNo cn) ∧ ((flE cn).countP fun z => eqFl z (.bl true)) = 1 := by decide +kernel
theorem flE_flat {cn : Str} : allFlat (flE cn) = true := rfl
theorem err_ev {a : Nat} {cn : Str} {S : Store} (hc : cn ∈ errNs) : f__law_error a cn [.adr a] S = .ok (.int (errNo cn)) (S ++ errC cn) := by
  obtain ⟨h1, h2⟩ := errNo_all cn hc
  have e0 : dSet 1 (dLst [(dIsE 0 a (decide (cn = "BadLetter"))), (dIsE 0 a (decide (cn = "BadCondition"))), (dIsE 0 a (decide (cn = "BadTerm")))]) [some (.adr a), none] S = .nx [some (.adr a), some (.loc S.length)] (S ++ [.lst (fl3 cn "BadLetter" "BadCondition" "BadTerm")]) := by
    rw [set_ev, lst_ev, args_ev, isE0, argK_ok, args_ev, isE0, argK_ok, args_ev, isE0, argK_ok, args_nil, argK2_ok, argK2_ok, argK2_ok, lstK_ok (by simp), setK_ok]
    rfl
  have key : d__law_error a cn [some (.adr a), none] S = .rt (.int (errNo cn)) (S ++ errC cn) := by
    unfold d__law_error
    rw [sq_ev, e0, sqK_nx]
    rw [sq_ev, more3 (cn := cn) get_end (by simp [fl3]), sqK_nx]
    rw [sq_ev, more3 (cn := cn) (ws := fl3 cn "BadLetter" "BadCondition" "BadTerm" ++ fl3 cn "OtherKinds" "Unread" "NotPlain") (by
      rw [List.getElem?_append_right (by simp)]
      simp [fl3]) (by simp [fl3]), sqK_nx]
    rw [sq_ev, more3 (cn := cn) (ws := (fl3 cn "BadLetter" "BadCondition" "BadTerm" ++ fl3 cn "OtherKinds" "Unread" "NotPlain") ++ fl3 cn "NotSingle" "TooMany" "UnknownName") (by
      rw [List.getElem?_append_right (by simp)]
      simp [fl3]) (by simp [fl3]), sqK_nx]
    rw [sq_ev, more2 (cn := cn) (ws := ((fl3 cn "BadLetter" "BadCondition" "BadTerm" ++ fl3 cn "OtherKinds" "Unread" "NotPlain") ++ fl3 cn "NotSingle" "TooMany" "UnknownName") ++ fl3 cn "Circle" "TooLarge" "WrongUse") (by
      rw [List.getElem?_append_right (by simp)]
      simp [fl3]) (by simp [fl3]), sqK_nx]
    have eS : ∀ n : Nat, n = S.length + 8 → (S ++ errC cn)[n]? = some (.lst (flE cn)) := fun n hn => by
      rw [hn, List.getElem?_append_right (by simp)]
      simp [errC]
    have lE : ∀ n : Nat, n = S.length + 8 → lstW (S ++ errC cn) (.loc n) = some (flE cn) := fun n hn => lst_loc (eS n hn)
    generalize hn : (S ++ [Cell.lst (fl3 cn "BadLetter" "BadCondition" "BadTerm")] ++ _ ++ _ ++ _).length + 1 = n
    have hn' : n = S.length + 8 := by
      rw [← hn]
      simp
    rw [show (S ++ [Cell.lst (fl3 cn "BadLetter" "BadCondition" "BadTerm")] ++ _ ++ _ ++ _ ++ _) = S ++ errC cn by simp [errC, flE, fl3]]
    have c1 : dLM gLCnt (dVar 1) (dC (.bl true)) [some (.adr a), some (.loc n)] (S ++ errC cn) = .ok (.int 1) (S ++ errC cn) := by
      rw [lm_ok var1_ev (lE n hn') c_ev, lcnt_ok (lE n hn') rfl flE_flat, h2]
      rfl
    have c2 : dLM gLIx (dVar 1) (dC (.bl true)) [some (.adr a), some (.loc n)] (S ++ errC cn) = .ok (.int (errNo cn)) (S ++ errC cn) := by
      rw [lm_ok var1_ev (lE n hn') c_ev, lix_ok (lE n hn') rfl flE_flat h1]
    rw [sq_ev, if_ev, or_ev, nt_ev, t_ev, isE0, tK_ok]
    show sqK _ (ifK _ _ _ (dTB _ _ _)) = _
    rw [tb_ev, op_ev, c1, opK_ok, c_ev, opK2_ok, ne_ii, tbK_ok]
    show sqK _ (dNx _ _) = _
    rw [nx_ev, sqK_nx, rt_ev, c2, rtK_ok]
  unfold f__law_error
  rw [mk1_ev]
  show mkK (d__law_error a cn [some (.adr a), none] S) = _
  rw [key]
  rfl
end G
set_option maxHeartbeats 4000000
namespace G
open PySem L2 Fs
theorem err_par {a b : Nat} {cn : Str} {S : Store} (hc : cn ∈ errNs) : f__law_error a cn [.adr a] S = f__law_error b cn [.adr b] S := by rw [err_ev hc, err_ev hc]
/-- the call of _law_error with the caught error hangs on its class alone -/
theorem err_call {i a : Nat} {cn : Str} {ls : Lo} {S : Store} (hc : cn ∈ errNs) (hi : i < ls.length) : dCall (f__law_error a cn) [dVar i] (ls.set i (some (.adr a))) S = .ok (.int (errNo cn)) (S ++ errC cn) := by
  have e : dVar i (ls.set i (some (.adr a))) S = .ok (.adr a) S := by
    unfold dVar
    rw [List.getElem?_set_self hi]
  rw [call_ev, args_ev, e, argK_ok, args_nil, argK2_ok, callK_ok, err_ev hc]
theorem err_call' {i a : Nat} {cn : Str} {ls : Lo} {S : Store} (hi : ¬ i < ls.length) : dCall (f__law_error a cn) [dVar i] (ls.set i (some (.adr a))) S = .bad := by
  have e : dVar i (ls.set i (some (.adr a))) S = .bad := by
    unfold dVar
    rw [List.getElem?_eq_none (by rw [List.length_set]; omega)]
  rw [call_ev, args_ev, e]
  rfl
theorem par_ret_eq {i : Nat} {k : Int} (a : Nat) (cn : Str) (ls : Lo) (S : Store) (hc : cn ∈ errNs) :
    unb i (dRet (dOp gEq (dCall (f__law_error a cn) [dVar i]) (dC (.int k))) (ls.set i (some (.adr a))) S) = unb i (dRet (dOp gEq (dCall (f__law_error 0 cn) [dVar i]) (dC (.int k))) (ls.set i (some (.adr 0))) S) := by
  by_cases hi : i < ls.length
  · rw [rt_ev, rt_ev, op_ev, op_ev, err_call hc hi, err_call hc hi]
    rfl
  · rw [rt_ev, rt_ev, op_ev, op_ev, err_call' hi, err_call' hi]
    rfl
theorem ret_eq_ev {i : Nat} {k : Int} {cn : Str} {ls : Lo} {S : Store} (hc : cn ∈ errNs) (hi : i < ls.length) :
    unb i (dRet (dOp gEq (dCall (f__law_error 0 cn) [dVar i]) (dC (.int k))) (ls.set i (some (.adr 0))) S) = .rt (.bl (decide ((errNo cn : Int) = k))) (S ++ errC cn) := by
  rw [rt_ev, op_ev, err_call hc hi, opK_ok, c_ev, opK2_ok, eq_ii]
  rfl
theorem par__law_refused (a : Nat) (cn : Str) (ls : Lo) (S : Store) (hc : cn ∈ errNs) :
    unb 3 (dRet (dOp gEq (dCall (f__law_error a cn) [dVar 3]) (dC (.int 0))) (ls.set 3 (some (.adr a))) S) = unb 3 (dRet (dOp gEq (dCall (f__law_error 0 cn) [dVar 3]) (dC (.int 0))) (ls.set 3 (some (.adr 0))) S) := par_ret_eq a cn ls S hc
end G
set_option maxHeartbeats 4000000
namespace G
open PySem L2 Fs
structure Facts (K : PySem.W.Frag) (mg : Str → Option Value) : Prop where
  d__is_number : DefAt K mg "_is_number" s__is_number
  d__is_form : DefAt K mg "_is_form" s__is_form
  d__is_case : DefAt K mg "_is_case" s__is_case
  d_is_letter : DefAt K mg "is_letter" s_is_letter
  d_check_letter : DefAt K mg "check_letter" s_check_letter
  d_check_word : DefAt K mg "check_word" s_check_word
  d_integer_rank : DefAt K mg "integer_rank" s_integer_rank
  d_rank : DefAt K mg "rank" s_rank
  d__order : DefAt K mg "_order" s__order
  d__word_rank : DefAt K mg "_word_rank" s__word_rank
  d_words_compared : DefAt K mg "words_compared" s_words_compared
  d__law_tape : DefAt K mg "_law_tape" s__law_tape
  d__law_draw : DefAt K mg "_law_draw" s__law_draw
  d__law_whole : DefAt K mg "_law_whole" s__law_whole
  d__law_names : DefAt K mg "_law_names" s__law_names
  d__law_strange : DefAt K mg "_law_strange" s__law_strange
  d__law_kinds : DefAt K mg "_law_kinds" s__law_kinds
  d__law_kind : DefAt K mg "_law_kind" s__law_kind
  d__law_integer : DefAt K mg "_law_integer" s__law_integer
  d__law_letter : DefAt K mg "_law_letter" s__law_letter
  d__law_word : DefAt K mg "_law_word" s__law_word
  d__law_key : DefAt K mg "_law_key" s__law_key
  d__law_word_key : DefAt K mg "_law_word_key" s__law_word_key
  d__law_is_letter : DefAt K mg "_law_is_letter" s__law_is_letter
  d__law_error : DefAt K mg "_law_error" s__law_error
  d__law_turned : DefAt K mg "_law_turned" s__law_turned
  d__law_near : DefAt K mg "_law_near" s__law_near
  d__law_foreign : DefAt K mg "_law_foreign" s__law_foreign
  d__law_refused : DefAt K mg "_law_refused" s__law_refused
  d__law_answers : DefAt K mg "_law_answers" s__law_answers
  d__law_changed : DefAt K mg "_law_changed" s__law_changed
  d_law : DefAt K mg "law" s_law
  m_ValueError : mg "ValueError" = none
  m_abs : mg "abs" = none
  m_bool : mg "bool" = none
  m_int : mg "int" = none
  m_isinstance : mg "isinstance" = none
  m_len : mg "len" = none
  m_list : mg "list" = none
  m_max : mg "max" = none
  m_min : mg "min" = none
  m_range : mg "range" = none
  m_str : mg "str" = none
  m_sum : mg "sum" = none
  m_tuple : mg "tuple" = none
  r_BadLetter : Err1 K mg "BadLetter"
  errs : ErrT K mg errNs "GuardError"
section
variable {P : Program} {w : World} {K : PySem.W.Frag} {mg : Str → Option Value}
theorem ok__is_number (T : Facts K mg) : Fok P w K mg "_is_number" 1 ["value"] f__is_number := by
  refine Fok.of (k := 0) T.d__is_number sc__is_number (fun _ _ _ _ _ _ us hl => match us, hl with | [_], _ => rfl) (fun base f cdv A outer s H E hr => ?_)
  exact (ss_one (ss_ret (se_and (se_callB sc_isi T.m_isinstance (by decide +kernel) (sa_cons (se_var 0) (sa_cons (se_ty T.m_int (by decide +kernel)) sa_nil))) (se_one (se_not (se_callB sc_isi T.m_isinstance (by decide +kernel) (sa_cons (se_var 0) (sa_cons (se_ty T.m_bool (by decide +kernel)) sa_nil))))))))
theorem ok__is_form (T : Facts K mg) : Fok P w K mg "_is_form" 1 ["value", "head", "size"] f__is_form := by
  refine Fok.of (k := 0) T.d__is_form sc__is_form (fun _ _ _ _ _ _ us hl => match us, hl with | [_, _, _], _ => rfl) (fun base f cdv A outer s H E hr => ?_)
  exact (ss_one (ss_ret (se_and (se_cmp (so_eq (huE hr)) (se_callB sc_len T.m_len (by decide +kernel) (sa_cons (se_var 0) sa_nil)) (se_var 2)) (se_one (se_cmp (so_eq (huE hr)) (se_ix (se_var 0) se_int) (se_var 1))))))
theorem ok__is_case (T : Facts K mg) : Fok P w K mg "_is_case" 2 ["kinds", "value"] f__is_case := by
  refine Fok.of (k := 1) T.d__is_case sc__is_case (fun _ _ _ _ _ _ us hl => match us, hl with | [_, _], _ => rfl) (fun base f cdv A outer s H E hr => ?_)
  exact (ss_one (ss_ret (se_and (se_call (ok__is_number T) hr (sa_cons (se_var 1) sa_nil)) (se_one (se_chain so_le so_lt se_int (se_var 1) (se_callB sc_len T.m_len (by decide +kernel) (sa_cons (se_var 0) sa_nil)))))))
theorem ok_is_letter (T : Facts K mg) : ∀ n : Nat, Fok P w K mg "is_letter" (2 + n) ["kind", "value"] (f_is_letter n)
  | 0 => Fok.none (ps := ["kind", "value"]) T.d_is_letter (fun _ _ _ _ _ _ us hl => match us, hl with | [_, _], _ => rfl)
  | n + 1 => by
    have self_ok := ok_is_letter T n
    refine Fok.of T.d_is_letter sc_is_letter (fun _ _ _ _ _ _ us hl => match us, hl with | [_, _], _ => rfl) (fun base f cdv A outer s H E hr => ?_)
    exact (ss_cons (ss_set (i := 2) sc_is_letter.nd (se_ix (se_var 0) se_int))
  (ss_cons (ss_if (st_cmp (so_eq (huE hr)) (se_var 2) se_str) (ss_one (ss_ret (se_cmp (so_in (huI hr)) (se_var 1) (se_ix (se_var 0) se_int)))) ss_nil)
  (ss_cons (ss_if (st_cmp (so_eq (huE hr)) (se_var 2) se_str) (ss_one (ss_ret (se_call (ok__is_number T) hr (sa_cons (se_var 1) sa_nil)))) ss_nil)
  (ss_cons (ss_if (st_not (st_tru (se_callB sc_isi T.m_isinstance (by decide +kernel) (sa_cons (se_var 1) (sa_cons (se_ty T.m_tuple (by decide +kernel)) sa_nil))))) (ss_one (ss_ret se_bl)) ss_nil)
  (ss_cons (ss_if (st_cmp (so_eq (huE hr)) (se_var 2) se_str) (ss_one (ss_ret (se_and (se_call (ok__is_form T) hr (sa_cons (se_var 1) (sa_cons se_str (sa_cons se_int sa_nil)))) (se_and (se_call self_ok hr (sa_cons (se_ix (se_var 0) se_int) (sa_cons (se_ix (se_var 1) se_int) sa_nil))) (se_one (se_call self_ok hr (sa_cons (se_ix (se_var 0) se_int) (sa_cons (se_ix (se_var 1) se_int) sa_nil)))))))) ss_nil)
  (ss_cons (ss_if (st_cmp (so_eq (huE hr)) (se_var 2) se_str) (ss_one (ss_ret (se_and (se_call (ok__is_form T) hr (sa_cons (se_var 1) (sa_cons se_str (sa_cons se_int sa_nil)))) (se_and (se_call (ok__is_case T) hr (sa_cons (se_ix (se_var 0) se_int) (sa_cons (se_ix (se_var 1) se_int) sa_nil))) (se_one (se_call self_ok hr (sa_cons (se_ix (se_ix (se_var 0) se_int) (se_ix (se_var 1) se_int)) (sa_cons (se_ix (se_var 1) se_int) sa_nil)))))))) ss_nil)
  (ss_one (ss_ret (se_or (se_cmp (so_eq (huE hr)) (se_var 1) (se_tup (sa_cons se_str sa_nil))) (se_one (se_and (se_call (ok__is_form T) hr (sa_cons (se_var 1) (sa_cons se_str (sa_cons se_int sa_nil)))) (se_one (se_call self_ok hr (sa_cons (se_ix (se_var 0) se_int) (sa_cons (se_ix (se_var 1) se_int) sa_nil)))))))))))))))
theorem ok_check_letter (T : Facts K mg) : FokX P w K mg "check_letter" 7 ["kind", "letter"] f_check_letter := by
  refine FokX.of (k := 6) T.d_check_letter sc_check_letter (fun _ _ _ _ _ _ us hl => match us, hl with | [_, _], _ => rfl) (fun base f cdv A outer s H E hr tk => ?_)
  exact (ss_one (ss_if (st_not (st_tru (se_call0 (ok_is_letter T 4) hr (sa_cons (se_var 0) (sa_cons (se_var 1) sa_nil))))) (ss_one (ss_raiseO rfl tk T.r_BadLetter)) ss_nil))
theorem ok_check_word (T : Facts K mg) : FokX P w K mg "check_word" 8 ["kind", "word"] f_check_word := by
  refine FokX.of (k := 7) T.d_check_word sc_check_word (fun _ _ _ _ _ _ us hl => match us, hl with | [_, _], _ => rfl) (fun base f cdv A outer s H E hr tk => ?_)
  exact (ss_one (ss_for (passes_of rfl) rfl (si_seq (se_var 1)) (sg_name (i := 2) sc_check_word.nd) (ss_one (ss_expr (se_callX (ok_check_letter T) hr tk (sa_cons (se_var 0) (sa_cons (se_var 2) sa_nil)))))))
theorem ok_integer_rank (T : Facts K mg) : Fok P w K mg "integer_rank" 1 ["number"] f_integer_rank := by
  refine Fok.of (k := 0) T.d_integer_rank sc_integer_rank (fun _ _ _ _ _ _ us hl => match us, hl with | [_], _ => rfl) (fun base f cdv A outer s H E hr => ?_)
  exact (ss_one (ss_ret (se_ifE (st_cmp so_gt (se_var 0) se_int) (se_op so_sub (se_op so_mul se_int (se_var 0)) se_int) (se_op so_mul (se_neg se_int) (se_var 0)))))
theorem ok_rank (T : Facts K mg) : ∀ n : Nat, Fok P w K mg "rank" (1 + n) ["kind", "letter"] (f_rank n)
  | 0 => Fok.none (ps := ["kind", "letter"]) T.d_rank (fun _ _ _ _ _ _ us hl => match us, hl with | [_, _], _ => rfl)
  | n + 1 => by
    have self_ok := ok_rank T n
    refine Fok.of T.d_rank sc_rank (fun _ _ _ _ _ _ us hl => match us, hl with | [_, _], _ => rfl) (fun base f cdv A outer s H E hr => ?_)
    exact (ss_cons (ss_set (i := 2) sc_rank.nd (se_ix (se_var 0) se_int))
  (ss_cons (ss_if (st_cmp (so_eq (huE hr)) (se_var 2) se_str) (ss_one (ss_ret (se_tindex (se_ix (se_var 0) se_int) (sa_cons (se_var 1) sa_nil)))) ss_nil)
  (ss_cons (ss_if (st_cmp (so_eq (huE hr)) (se_var 2) se_str) (ss_one (ss_ret (se_call (ok_integer_rank T) hr (sa_cons (se_var 1) sa_nil)))) ss_nil)
  (ss_cons (ss_if (st_cmp (so_eq (huE hr)) (se_var 2) se_str) (ss_one (ss_ret (se_tup (sa_cons (se_call self_ok hr (sa_cons (se_ix (se_var 0) se_int) (sa_cons (se_ix (se_var 1) se_int) sa_nil))) (sa_cons (se_call self_ok hr (sa_cons (se_ix (se_var 0) se_int) (sa_cons (se_ix (se_var 1) se_int) sa_nil))) sa_nil))))) ss_nil)
  (ss_cons (ss_if (st_cmp (so_eq (huE hr)) (se_var 2) se_str) (ss_one (ss_ret (se_tup (sa_cons (se_ix (se_var 1) se_int) (sa_cons (se_call self_ok hr (sa_cons (se_ix (se_ix (se_var 0) se_int) (se_ix (se_var 1) se_int)) (sa_cons (se_ix (se_var 1) se_int) sa_nil))) sa_nil))))) ss_nil)
  (ss_one (ss_ret (se_ifE (st_cmp (so_eq (huE hr)) (se_var 1) (se_tup (sa_cons se_str sa_nil))) (se_tup sa_nil) (se_tup (sa_cons (se_call self_ok hr (sa_cons (se_ix (se_var 0) se_int) (sa_cons (se_ix (se_var 1) se_int) sa_nil))) sa_nil))))))))))
theorem ok__order (T : Facts K mg) : Fok P w K mg "_order" 1 ["first", "second"] f__order := by
  refine Fok.of (k := 0) T.d__order sc__order (fun _ _ _ _ _ _ us hl => match us, hl with | [_, _], _ => rfl) (fun base f cdv A outer s H E hr => ?_)
  exact (ss_cons (ss_if (st_cmp (so_eq (huE hr)) (se_var 0) (se_var 1)) (ss_one (ss_ret se_int)) ss_nil)
  (ss_one (ss_ret (se_ifE (st_cmp (so_ltN (huE hr)) (se_var 0) (se_var 1)) (se_neg se_int) se_int))))
theorem ok__word_rank (T : Facts K mg) : Fok P w K mg "_word_rank" 6 ["kind", "word"] f__word_rank := by
  refine Fok.of (k := 5) T.d__word_rank sc__word_rank (fun _ _ _ _ _ _ us hl => match us, hl with | [_, _], _ => rfl) (fun base f cdv A outer s H E hr => ?_)
  exact (ss_one (ss_ret (se_tup (sa_cons (se_callB sc_len T.m_len (by decide +kernel) (sa_cons (se_var 1) sa_nil)) (sa_cons (se_lc rfl sc__word_rank.nd (si_seq (se_var 1)) (blkOk_by (own := [("letter", 2)]) (by rfl)) (fun _ _ _ _ _ => sg_name (i := 2) sc__word_rank.nd) (fun _ _ _ _ _ => sts_nil) (fun _ _ _ _ _ => (se_call (ok_rank T 4) hr (sa_cons (se_var 0) (sa_cons (se_var 2) sa_nil))))) sa_nil)))))
theorem ok_words_compared (T : Facts K mg) : FokX P w K mg "words_compared" 9 ["kind", "first", "second"] f_words_compared := by
  refine FokX.of (k := 8) T.d_words_compared sc_words_compared (fun _ _ _ _ _ _ us hl => match us, hl with | [_, _, _], _ => rfl) (fun base f cdv A outer s H E hr tk => ?_)
  exact (ss_cons (ss_expr (se_callX (ok_check_word T) hr tk (sa_cons (se_var 0) (sa_cons (se_var 1) sa_nil))))
  (ss_cons (ss_expr (se_callX (ok_check_word T) hr tk (sa_cons (se_var 0) (sa_cons (se_var 2) sa_nil))))
  (ss_one (ss_ret (se_call0 (ok__order T) hr (sa_cons (se_call0 (ok__word_rank T) hr (sa_cons (se_var 0) (sa_cons (se_var 1) sa_nil))) (sa_cons (se_call0 (ok__word_rank T) hr (sa_cons (se_var 0) (sa_cons (se_var 2) sa_nil))) sa_nil)))))))
theorem ok__law_tape (T : Facts K mg) : Fok P w K mg "_law_tape" 1 ["script"] f__law_tape := by
  refine Fok.of (k := 0) T.d__law_tape sc__law_tape (fun _ _ _ _ _ _ us hl => match us, hl with | [_], _ => rfl) (fun base f cdv A outer s H E hr => ?_)
  exact (ss_cons (ss_set (i := 1) sc__law_tape.nd se_int)
  (ss_cons (ss_for PassesOwn.never rfl (si_seq (se_var 0)) (sg_name (i := 2) sc__law_tape.nd) (ss_one (ss_set (i := 1) sc__law_tape.nd (se_op so_mod (se_callTy sc_int T.m_int (by decide +kernel) (sa_cons (se_op so_add (se_op so_mul (se_var 1) se_int) (se_callB sc_abs T.m_abs (by decide +kernel) (sa_cons (se_callTy sc_int T.m_int (by decide +kernel) (sa_cons (se_var 2) sa_nil)) sa_nil))) sa_nil)) se_int))))
  (ss_one (ss_ret (se_lst (sa_cons (se_callTy sc_list T.m_list (by decide +kernel) (sa_cons (se_var 0) sa_nil)) (sa_cons se_int (sa_cons se_int (sa_cons (se_var 1) sa_nil)))))))))
theorem ok__law_draw (T : Facts K mg) : Fok P w K mg "_law_draw" 1 ["tape", "many"] f__law_draw := by
  refine Fok.of (k := 0) T.d__law_draw sc__law_draw (fun _ _ _ _ _ _ us hl => match us, hl with | [_, _], _ => rfl) (fun base f cdv A outer s H E hr => ?_)
  exact (ss_cons (ss_if (st_cmp (so_eq (huE hr)) (se_ix (se_var 0) se_int) se_int) (ss_cons (ss_set (i := 2) sc__law_draw.nd (se_ix (se_var 0) se_int))
    (ss_cons (ss_set (i := 3) sc__law_draw.nd se_int)
    (ss_cons (ss_if (st_cmp so_lt (se_var 2) (se_callB sc_len T.m_len (by decide +kernel) (sa_cons (se_ix (se_var 0) se_int) sa_nil))) (ss_one (ss_set (i := 3) sc__law_draw.nd (se_callB sc_abs T.m_abs (by decide +kernel) (sa_cons (se_callTy sc_int T.m_int (by decide +kernel) (sa_cons (se_ix (se_ix (se_var 0) se_int) (se_var 2)) sa_nil)) sa_nil)))) (ss_cons (ss_setIx (se_var 0) se_int (se_op so_mod (se_callTy sc_int T.m_int (by decide +kernel) (sa_cons (se_op so_add (se_op so_add (se_op so_mul (se_ix (se_var 0) se_int) se_int) (se_var 2)) se_int) sa_nil)) se_int))
      (ss_one (ss_set (i := 3) sc__law_draw.nd (se_ix (se_var 0) se_int)))))
    (ss_cons (ss_setIx (se_var 0) se_int (se_op so_add (se_var 2) se_int))
    (ss_cons (ss_if (st_cmp so_lt (se_var 3) (se_op so_pow se_int se_int)) (ss_cons (ss_set (i := 3) sc__law_draw.nd (se_op so_mod (se_callTy sc_int T.m_int (by decide +kernel) (sa_cons (se_op so_add (se_op so_add (se_op so_mul (se_var 3) se_int) (se_op so_mul (se_var 2) se_int)) se_int) sa_nil)) se_int))
      (ss_cons (ss_set (i := 3) sc__law_draw.nd (se_op so_mod (se_callTy sc_int T.m_int (by decide +kernel) (sa_cons (se_op so_mul (se_var 3) se_int) sa_nil)) se_int))
      (ss_one (ss_ret (se_op so_mod (se_callTy sc_int T.m_int (by decide +kernel) (sa_cons (se_var 3) sa_nil)) (se_callB (sc_max rfl) T.m_max (by decide +kernel) (sa_cons (se_var 1) (sa_cons se_int sa_nil)))))))) ss_nil)
    (ss_one (ss_setIx (se_var 0) se_int (se_var 3)))))))) ss_nil)
  (ss_cons (ss_set (i := 3) sc__law_draw.nd (se_ix (se_var 0) se_int))
  (ss_cons (ss_setIx (se_var 0) se_int (se_op so_div (se_var 3) (se_callB (sc_max rfl) T.m_max (by decide +kernel) (sa_cons (se_var 1) (sa_cons se_int sa_nil)))))
  (ss_one (ss_ret (se_op so_mod (se_callTy sc_int T.m_int (by decide +kernel) (sa_cons (se_var 3) sa_nil)) (se_callB (sc_max rfl) T.m_max (by decide +kernel) (sa_cons (se_var 1) (sa_cons se_int sa_nil)))))))))
theorem ok__law_whole (T : Facts K mg) : Fok P w K mg "_law_whole" 1 ["told"] f__law_whole := by
  refine Fok.of (k := 0) T.d__law_whole sc__law_whole (fun _ _ _ _ _ _ us hl => match us, hl with | [_], _ => rfl) (fun base f cdv A outer s H E hr => ?_)
  exact (ss_one (ss_ret (se_and (se_callB sc_isi T.m_isinstance (by decide +kernel) (sa_cons (se_var 0) (sa_cons (se_ty T.m_int (by decide +kernel)) sa_nil))) (se_one (se_not (se_callB sc_isi T.m_isinstance (by decide +kernel) (sa_cons (se_var 0) (sa_cons (se_ty T.m_bool (by decide +kernel)) sa_nil))))))))
theorem ok__law_names (T : Facts K mg) : Fok P w K mg "_law_names" 2 ["tape"] f__law_names := by
  refine Fok.of (k := 1) T.d__law_names sc__law_names (fun _ _ _ _ _ _ us hl => match us, hl with | [_], _ => rfl) (fun base f cdv A outer s H E hr => ?_)
  exact (ss_cons (ss_set (i := 1) sc__law_names.nd se_str)
  (ss_cons (ss_set (i := 2) sc__law_names.nd (se_lst (sa_cons se_str (sa_cons se_str (sa_cons se_str (sa_cons se_str (sa_cons se_str (sa_cons se_str sa_nil))))))))
  (ss_cons (ss_set (i := 3) sc__law_names.nd (se_ix (se_lst (sa_cons se_str (sa_cons se_str (sa_cons se_str (sa_cons se_str (sa_cons se_str sa_nil)))))) (se_call (ok__law_draw T) hr (sa_cons (se_var 0) (sa_cons se_int sa_nil)))))
  (ss_cons (ss_set (i := 4) sc__law_names.nd (se_lst sa_nil))
  (ss_cons (ss_for PassesOwn.never rfl (si_rng1 T.m_range (se_ix (se_lst (sa_cons se_int (sa_cons se_int (sa_cons se_int (sa_cons se_int (sa_cons se_int (sa_cons se_int sa_nil))))))) (se_call (ok__law_draw T) hr (sa_cons (se_var 0) (sa_cons se_int sa_nil))))) (sg_name (i := 5) sc__law_names.nd) (ss_cons (ss_set (i := 6) sc__law_names.nd (se_op so_add (se_var 3) (se_ix (se_var 1) (se_call (ok__law_draw T) hr (sa_cons (se_var 0) (sa_cons (se_callB sc_len T.m_len (by decide +kernel) (sa_cons (se_var 1) sa_nil)) sa_nil))))))
    (ss_cons (ss_if (st_cmp (so_eq (huE hr)) (se_call (ok__law_draw T) hr (sa_cons (se_var 0) (sa_cons se_int sa_nil))) se_int) (ss_one (ss_set (i := 6) sc__law_names.nd (se_op so_add (se_var 6) (se_ix (se_var 1) (se_call (ok__law_draw T) hr (sa_cons (se_var 0) (sa_cons (se_callB sc_len T.m_len (by decide +kernel) (sa_cons (se_var 1) sa_nil)) sa_nil))))))) ss_nil)
    (ss_cons (ss_if (st_cmp (so_eq (huE hr)) (se_call (ok__law_draw T) hr (sa_cons (se_var 0) (sa_cons se_int sa_nil))) se_int) (ss_one (ss_set (i := 6) sc__law_names.nd (se_ix (se_var 2) (se_call (ok__law_draw T) hr (sa_cons (se_var 0) (sa_cons se_int sa_nil)))))) ss_nil)
    (ss_one (ss_if (st_cmp (so_notIn (huI hr)) (se_var 6) (se_var 4)) (ss_one (ss_expr (se_append (se_var 4) (sa_cons (se_var 6) sa_nil)))) ss_nil))))))
  (ss_one (ss_ret (se_callTy sc_tuple T.m_tuple (by decide +kernel) (sa_cons (se_var 4) sa_nil)))))))))
theorem ok__law_strange (T : Facts K mg) : Fok P w K mg "_law_strange" 1 ["names"] f__law_strange := by
  refine Fok.of (k := 0) T.d__law_strange sc__law_strange (fun _ _ _ _ _ _ us hl => match us, hl with | [_], _ => rfl) (fun base f cdv A outer s H E hr => ?_)
  exact (ss_one (ss_ret (se_ix (se_lc rfl sc__law_strange.nd (si_seq (se_lc rfl sc__law_strange.nd (si_str se_str) (blkOk_by (own := [("sign", 2)]) (by rfl)) (fun _ _ _ _ _ => sg_name (i := 2) sc__law_strange.nd) (fun _ _ _ _ _ => sts_nil) (fun _ _ _ _ _ => (se_op so_add (se_slice (se_ix (se_var 0) se_int) so_none (so_some se_int)) (se_var 2))))) (blkOk_by (own := [("name", 1)]) (by rfl)) (fun _ _ _ _ _ => sg_name (i := 1) sc__law_strange.nd) (fun _ _ _ _ _ => (sts_one (st_cmp (so_notIn (huI hr)) (se_var 1) (se_var 0)))) (fun _ _ _ _ _ => (se_var 1))) se_int)))
theorem ok__law_kinds (T : Facts K mg) : ∀ n : Nat, Fok P w K mg "_law_kinds" (0 + n) ["kind"] (f__law_kinds n)
  | 0 => Fok.none (ps := ["kind"]) T.d__law_kinds (fun _ _ _ _ _ _ us hl => match us, hl with | [_], _ => rfl)
  | n + 1 => by
    have self_ok := ok__law_kinds T n
    refine Fok.of T.d__law_kinds sc__law_kinds (fun _ _ _ _ _ _ us hl => match us, hl with | [_], _ => rfl) (fun base f cdv A outer s H E hr => ?_)
    exact (ss_cons (ss_if (st_cmp (so_eq (huE hr)) (se_ix (se_var 0) se_int) se_str) (ss_one (ss_ret (se_op so_add (se_op so_add se_int (se_call self_ok hr (sa_cons (se_ix (se_var 0) se_int) sa_nil))) (se_call self_ok hr (sa_cons (se_ix (se_var 0) se_int) sa_nil))))) ss_nil)
  (ss_cons (ss_if (st_cmp (so_eq (huE hr)) (se_ix (se_var 0) se_int) se_str) (ss_one (ss_ret (se_op so_add se_int (se_callB (sc_sum rfl) T.m_sum (by decide +kernel) (sa_cons (se_lc rfl sc__law_kinds.nd (si_seq (se_ix (se_var 0) se_int)) (blkOk_by (own := [("piece", 1)]) (by rfl)) (fun _ _ _ _ _ => sg_name (i := 1) sc__law_kinds.nd) (fun _ _ _ _ _ => sts_nil) (fun _ _ _ _ _ => (se_call self_ok hr (sa_cons (se_var 1) sa_nil)))) sa_nil))))) ss_nil)
  (ss_cons (ss_if (st_cmp (so_eq (huE hr)) (se_ix (se_var 0) se_int) se_str) (ss_one (ss_ret (se_op so_add se_int (se_call self_ok hr (sa_cons (se_ix (se_var 0) se_int) sa_nil))))) ss_nil)
  (ss_one (ss_ret se_int)))))
theorem ok__law_kind (T : Facts K mg) : ∀ n : Nat, Fok P w K mg "_law_kind" (4 + n) ["tape", "depth", "many"] (f__law_kind n)
  | 0 => Fok.none (ps := ["tape", "depth", "many"]) T.d__law_kind (fun _ _ _ _ _ _ us hl => match us, hl with | [_, _, _], _ => rfl)
  | n + 1 => by
    have self_ok := ok__law_kind T n
    refine Fok.of T.d__law_kind sc__law_kind (fun _ _ _ _ _ _ us hl => match us, hl with | [_, _, _], _ => rfl) (fun base f cdv A outer s H E hr => ?_)
    exact (ss_cons (ss_set (i := 3) sc__law_kind.nd (se_call (ok__law_draw T) hr (sa_cons (se_var 0) (sa_cons se_int sa_nil))))
  (ss_cons (ss_if (st_w (sw_or (st_cmp (so_eq (huE hr)) (se_var 1) se_int) (sw_or (st_cmp (so_eq (huE hr)) (se_var 2) se_int) (sw_or1 (st_cmp so_lt (se_var 3) se_int))))) (ss_cons (ss_if (st_cmp (so_eq (huE hr)) (se_call (ok__law_draw T) hr (sa_cons (se_var 0) (sa_cons se_int sa_nil))) se_int) (ss_one (ss_ret (se_tup (sa_cons se_str (sa_cons (se_call (ok__law_names T) hr (sa_cons (se_var 0) sa_nil)) sa_nil))))) ss_nil)
    (ss_one (ss_ret (se_tup (sa_cons se_str sa_nil))))) ss_nil)
  (ss_cons (ss_if (st_w (sw_or (st_cmp (so_eq (huE hr)) (se_var 2) se_int) (sw_or1 (st_cmp (so_eq (huE hr)) (se_var 3) se_int)))) (ss_one (ss_ret (se_tup (sa_cons se_str (sa_cons (se_call self_ok hr (sa_cons (se_var 0) (sa_cons (se_op so_sub (se_var 1) se_int) (sa_cons (se_op so_sub (se_var 2) se_int) sa_nil)))) sa_nil))))) ss_nil)
  (ss_cons (ss_if (st_cmp so_lt (se_var 3) se_int) (ss_cons (ss_set (i := 4) sc__law_kind.nd (se_call self_ok hr (sa_cons (se_var 0) (sa_cons (se_op so_sub (se_var 1) se_int) (sa_cons (se_op so_sub (se_var 2) se_int) sa_nil)))))
    (ss_one (ss_ret (se_tup (sa_cons se_str (sa_cons (se_var 4) (sa_cons (se_call self_ok hr (sa_cons (se_var 0) (sa_cons (se_op so_sub (se_var 1) se_int) (sa_cons (se_op so_sub (se_op so_sub (se_var 2) se_int) (se_call (ok__law_kinds T 4) hr (sa_cons (se_var 4) sa_nil))) sa_nil)))) sa_nil))))))) ss_nil)
  (ss_cons (ss_set (i := 5) sc__law_kind.nd (se_op so_sub (se_var 2) se_int))
  (ss_cons (ss_set (i := 6) sc__law_kind.nd (se_op so_add se_int (se_call (ok__law_draw T) hr (sa_cons (se_var 0) (sa_cons (se_callB (sc_min rfl) T.m_min (by decide +kernel) (sa_cons se_int (sa_cons (se_var 5) sa_nil))) sa_nil)))))
  (ss_cons (ss_set (i := 7) sc__law_kind.nd (se_lst sa_nil))
  (ss_cons (ss_for PassesOwn.never rfl (si_rng1 T.m_range (se_var 6)) (sg_name (i := 8) sc__law_kind.nd) (ss_cons (ss_set (i := 9) sc__law_kind.nd (se_call self_ok hr (sa_cons (se_var 0) (sa_cons (se_op so_sub (se_var 1) se_int) (sa_cons (se_op so_sub (se_var 5) (se_op so_sub (se_op so_sub (se_var 6) se_int) (se_var 8))) sa_nil)))))
    (ss_cons (ss_expr (se_append (se_var 7) (sa_cons (se_var 9) sa_nil)))
    (ss_one (ss_set (i := 5) sc__law_kind.nd (se_op so_sub (se_var 5) (se_call (ok__law_kinds T 4) hr (sa_cons (se_var 9) sa_nil))))))))
  (ss_one (ss_ret (se_tup (sa_cons se_str (sa_cons (se_callTy sc_tuple T.m_tuple (by decide +kernel) (sa_cons (se_var 7) sa_nil)) sa_nil)))))))))))))
theorem ok__law_integer (T : Facts K mg) : Fok P w K mg "_law_integer" 2 ["tape", "top"] f__law_integer := by
  refine Fok.of (k := 1) T.d__law_integer sc__law_integer (fun _ _ _ _ _ _ us hl => match us, hl with | [_, _], _ => rfl) (fun base f cdv A outer s H E hr => ?_)
  exact (ss_cons (ss_set (i := 2) sc__law_integer.nd (se_call (ok__law_draw T) hr (sa_cons (se_var 0) (sa_cons se_int sa_nil))))
  (ss_cons (ss_set (i := 3) sc__law_integer.nd (se_call (ok__law_draw T) hr (sa_cons (se_var 0) (sa_cons (se_ix (se_lst (sa_cons se_int (sa_cons (se_op so_add (se_var 1) se_int) (sa_cons (se_op so_add (se_var 1) se_int) (sa_cons (se_op so_pow se_int se_int) (sa_cons (se_op so_sub (se_op so_pow se_int se_int) se_int) sa_nil)))))) (se_var 2)) sa_nil))))
  (ss_cons (ss_if (st_cmp (so_eq (huE hr)) (se_var 2) se_int) (ss_one (ss_set (i := 3) sc__law_integer.nd (se_op so_add (se_op so_mul (se_var 3) (se_op so_pow se_int se_int)) (se_call (ok__law_draw T) hr (sa_cons (se_var 0) (sa_cons (se_op so_pow se_int se_int) sa_nil)))))) ss_nil)
  (ss_one (ss_ret (se_ix (se_lst (sa_cons (se_var 3) (sa_cons (se_neg (se_var 3)) sa_nil))) (se_call (ok__law_draw T) hr (sa_cons (se_var 0) (sa_cons se_int sa_nil)))))))))
theorem ok__law_letter (T : Facts K mg) : ∀ n : Nat, Fok P w K mg "_law_letter" (2 + n) ["tape", "kind", "theory"] (f__law_letter n)
  | 0 => Fok.none (ps := ["tape", "kind", "theory"]) T.d__law_letter (fun _ _ _ _ _ _ us hl => match us, hl with | [_, _, _], _ => rfl)
  | n + 1 => by
    have self_ok := ok__law_letter T n
    refine Fok.of T.d__law_letter sc__law_letter (fun _ _ _ _ _ _ us hl => match us, hl with | [_, _, _], _ => rfl) (fun base f cdv A outer s H E hr => ?_)
    exact (ss_cons (ss_if (st_cmp (so_eq (huE hr)) (se_ix (se_var 1) se_int) se_str) (ss_one (ss_ret (se_ix (se_ix (se_var 1) se_int) (se_call (ok__law_draw T) hr (sa_cons (se_var 0) (sa_cons (se_callB sc_len T.m_len (by decide +kernel) (sa_cons (se_ix (se_var 1) se_int) sa_nil)) sa_nil)))))) ss_nil)
  (ss_cons (ss_if (st_cmp (so_eq (huE hr)) (se_ix (se_var 1) se_int) se_str) (ss_one (ss_ret (se_call (ok__law_integer T) hr (sa_cons (se_var 0) (sa_cons (se_ix (se_var 2) se_int) sa_nil))))) ss_nil)
  (ss_cons (ss_if (st_cmp (so_eq (huE hr)) (se_ix (se_var 1) se_int) se_str) (ss_cons (ss_set (i := 3) sc__law_letter.nd (se_call self_ok hr (sa_cons (se_var 0) (sa_cons (se_ix (se_var 1) se_int) (sa_cons (se_var 2) sa_nil)))))
    (ss_one (ss_ret (se_tup (sa_cons se_str (sa_cons (se_var 3) (sa_cons (se_call self_ok hr (sa_cons (se_var 0) (sa_cons (se_ix (se_var 1) se_int) (sa_cons (se_var 2) sa_nil)))) sa_nil))))))) ss_nil)
  (ss_cons (ss_if (st_cmp (so_eq (huE hr)) (se_ix (se_var 1) se_int) se_str) (ss_cons (ss_set (i := 4) sc__law_letter.nd (se_call (ok__law_draw T) hr (sa_cons (se_var 0) (sa_cons (se_callB sc_len T.m_len (by decide +kernel) (sa_cons (se_ix (se_var 1) se_int) sa_nil)) sa_nil))))
    (ss_one (ss_ret (se_tup (sa_cons se_str (sa_cons (se_var 4) (sa_cons (se_call self_ok hr (sa_cons (se_var 0) (sa_cons (se_ix (se_ix (se_var 1) se_int) (se_var 4)) (sa_cons (se_var 2) sa_nil)))) sa_nil))))))) ss_nil)
  (ss_cons (ss_if (st_cmp (so_eq (huE hr)) (se_call (ok__law_draw T) hr (sa_cons (se_var 0) (sa_cons se_int sa_nil))) se_int) (ss_one (ss_ret (se_tup (sa_cons se_str sa_nil)))) ss_nil)
  (ss_one (ss_ret (se_tup (sa_cons se_str (sa_cons (se_call self_ok hr (sa_cons (se_var 0) (sa_cons (se_ix (se_var 1) se_int) (sa_cons (se_var 2) sa_nil)))) sa_nil))))))))))
theorem ok__law_word (T : Facts K mg) : Fok P w K mg "_law_word" 7 ["tape", "kind", "theory", "most"] f__law_word := by
  refine Fok.of (k := 6) T.d__law_word sc__law_word (fun _ _ _ _ _ _ us hl => match us, hl with | [_, _, _, _], _ => rfl) (fun base f cdv A outer s H E hr => ?_)
  exact (ss_one (ss_ret (se_callTy sc_tuple T.m_tuple (by decide +kernel) (sa_cons (se_lc rfl sc__law_word.nd (si_rng1 T.m_range (se_call (ok__law_draw T) hr (sa_cons (se_var 0) (sa_cons (se_op so_add (se_var 3) se_int) sa_nil)))) (blkOk_by (own := [("k", 4)]) (by rfl)) (fun _ _ _ _ _ => sg_name (i := 4) sc__law_word.nd) (fun _ _ _ _ _ => sts_nil) (fun _ _ _ _ _ => (se_call (ok__law_letter T 4) hr (sa_cons (se_var 0) (sa_cons (se_var 1) (sa_cons (se_var 2) sa_nil)))))) sa_nil))))
theorem ok__law_key (T : Facts K mg) : ∀ n : Nat, Fok P w K mg "_law_key" (0 + n) ["kind", "letter"] (f__law_key n)
  | 0 => Fok.none (ps := ["kind", "letter"]) T.d__law_key (fun _ _ _ _ _ _ us hl => match us, hl with | [_, _], _ => rfl)
  | n + 1 => by
    have self_ok := ok__law_key T n
    refine Fok.of T.d__law_key sc__law_key (fun _ _ _ _ _ _ us hl => match us, hl with | [_, _], _ => rfl) (fun base f cdv A outer s H E hr => ?_)
    exact (ss_cons (ss_if (st_cmp (so_eq (huE hr)) (se_ix (se_var 0) se_int) se_str) (ss_one (ss_ret (se_tup (sa_cons (se_tindex (se_ix (se_var 0) se_int) (sa_cons (se_var 1) sa_nil)) sa_nil)))) ss_nil)
  (ss_cons (ss_if (st_cmp (so_eq (huE hr)) (se_ix (se_var 0) se_int) se_str) (ss_one (ss_ret (se_tup (sa_cons (se_op so_sub (se_op so_mul se_int (se_callB sc_abs T.m_abs (by decide +kernel) (sa_cons (se_var 1) sa_nil))) (se_callTy sc_int T.m_int (by decide +kernel) (sa_cons (se_cmp so_gt (se_var 1) se_int) sa_nil))) sa_nil)))) ss_nil)
  (ss_cons (ss_if (st_cmp (so_eq (huE hr)) (se_ix (se_var 0) se_int) se_str) (ss_one (ss_ret (se_tup (sa_cons (se_call self_ok hr (sa_cons (se_ix (se_var 0) se_int) (sa_cons (se_ix (se_var 1) se_int) sa_nil))) (sa_cons (se_call self_ok hr (sa_cons (se_ix (se_var 0) se_int) (sa_cons (se_ix (se_var 1) se_int) sa_nil))) sa_nil))))) ss_nil)
  (ss_cons (ss_if (st_cmp (so_eq (huE hr)) (se_ix (se_var 0) se_int) se_str) (ss_one (ss_ret (se_tup (sa_cons (se_ix (se_var 1) se_int) (sa_cons (se_call self_ok hr (sa_cons (se_ix (se_ix (se_var 0) se_int) (se_ix (se_var 1) se_int)) (sa_cons (se_ix (se_var 1) se_int) sa_nil))) sa_nil))))) ss_nil)
  (ss_cons (ss_if (st_cmp (so_eq (huE hr)) (se_ix (se_var 1) se_int) se_str) (ss_one (ss_ret (se_tup (sa_cons se_int sa_nil)))) ss_nil)
  (ss_one (ss_ret (se_tup (sa_cons se_int (sa_cons (se_call self_ok hr (sa_cons (se_ix (se_var 0) se_int) (sa_cons (se_ix (se_var 1) se_int) sa_nil))) sa_nil))))))))))
theorem ok__law_word_key (T : Facts K mg) : Fok P w K mg "_law_word_key" 5 ["kind", "word"] f__law_word_key := by
  refine Fok.of (k := 4) T.d__law_word_key sc__law_word_key (fun _ _ _ _ _ _ us hl => match us, hl with | [_, _], _ => rfl) (fun base f cdv A outer s H E hr => ?_)
  exact (ss_one (ss_ret (se_tup (sa_cons (se_callB sc_len T.m_len (by decide +kernel) (sa_cons (se_var 1) sa_nil)) (sa_cons (se_callTy sc_tuple T.m_tuple (by decide +kernel) (sa_cons (se_lc rfl sc__law_word_key.nd (si_seq (se_var 1)) (blkOk_by (own := [("letter", 2)]) (by rfl)) (fun _ _ _ _ _ => sg_name (i := 2) sc__law_word_key.nd) (fun _ _ _ _ _ => sts_nil) (fun _ _ _ _ _ => (se_call (ok__law_key T 4) hr (sa_cons (se_var 0) (sa_cons (se_var 2) sa_nil))))) sa_nil)) sa_nil)))))
theorem ok__law_is_letter (T : Facts K mg) : ∀ n : Nat, Fok P w K mg "_law_is_letter" (1 + n) ["kind", "told"] (f__law_is_letter n)
  | 0 => Fok.none (ps := ["kind", "told"]) T.d__law_is_letter (fun _ _ _ _ _ _ us hl => match us, hl with | [_, _], _ => rfl)
  | n + 1 => by
    have self_ok := ok__law_is_letter T n
    refine Fok.of T.d__law_is_letter sc__law_is_letter (fun _ _ _ _ _ _ us hl => match us, hl with | [_, _], _ => rfl) (fun base f cdv A outer s H E hr => ?_)
    exact (ss_cons (ss_if (st_cmp (so_eq (huE hr)) (se_ix (se_var 0) se_int) se_str) (ss_one (ss_ret (se_and (se_callB sc_isi T.m_isinstance (by decide +kernel) (sa_cons (se_var 1) (sa_cons (se_ty T.m_str (by decide +kernel)) sa_nil))) (se_one (se_cmp (so_in (huI hr)) (se_var 1) (se_ix (se_var 0) se_int)))))) ss_nil)
  (ss_cons (ss_if (st_cmp (so_eq (huE hr)) (se_ix (se_var 0) se_int) se_str) (ss_one (ss_ret (se_call (ok__law_whole T) hr (sa_cons (se_var 1) sa_nil)))) ss_nil)
  (ss_cons (ss_if (st_w (sw_or (st_not (st_tru (se_callB sc_isi T.m_isinstance (by decide +kernel) (sa_cons (se_var 1) (sa_cons (se_ty T.m_tuple (by decide +kernel)) sa_nil))))) (sw_or (st_cmp (so_eq (huE hr)) (se_callB sc_len T.m_len (by decide +kernel) (sa_cons (se_var 1) sa_nil)) se_int) (sw_or1 (st_not (st_tru (se_callB sc_isi T.m_isinstance (by decide +kernel) (sa_cons (se_ix (se_var 1) se_int) (sa_cons (se_ty T.m_str (by decide +kernel)) sa_nil))))))))) (ss_one (ss_ret se_bl)) ss_nil)
  (ss_cons (ss_if (st_cmp (so_eq (huE hr)) (se_ix (se_var 0) se_int) se_str) (ss_cons (ss_if (st_w (sw_or (st_cmp (so_ne (huE hr)) (se_ix (se_var 1) se_int) se_str) (sw_or1 (st_cmp (so_ne (huE hr)) (se_callB sc_len T.m_len (by decide +kernel) (sa_cons (se_var 1) sa_nil)) se_int)))) (ss_one (ss_ret se_bl)) ss_nil)
    (ss_one (ss_ret (se_and (se_call self_ok hr (sa_cons (se_ix (se_var 0) se_int) (sa_cons (se_ix (se_var 1) se_int) sa_nil))) (se_one (se_call self_ok hr (sa_cons (se_ix (se_var 0) se_int) (sa_cons (se_ix (se_var 1) se_int) sa_nil)))))))) ss_nil)
  (ss_cons (ss_if (st_cmp (so_eq (huE hr)) (se_ix (se_var 0) se_int) se_str) (ss_cons (ss_if (st_w (sw_or (st_cmp (so_ne (huE hr)) (se_ix (se_var 1) se_int) se_str) (sw_or (st_cmp (so_ne (huE hr)) (se_callB sc_len T.m_len (by decide +kernel) (sa_cons (se_var 1) sa_nil)) se_int) (sw_or1 (st_not (st_tru (se_call (ok__law_whole T) hr (sa_cons (se_ix (se_var 1) se_int) sa_nil)))))))) (ss_one (ss_ret se_bl)) ss_nil)
    (ss_cons (ss_if (st_w (sw_or (st_cmp so_lt (se_ix (se_var 1) se_int) se_int) (sw_or1 (st_cmp so_ge (se_ix (se_var 1) se_int) (se_callB sc_len T.m_len (by decide +kernel) (sa_cons (se_ix (se_var 0) se_int) sa_nil)))))) (ss_one (ss_ret se_bl)) ss_nil)
    (ss_one (ss_ret (se_call self_ok hr (sa_cons (se_ix (se_ix (se_var 0) se_int) (se_ix (se_var 1) se_int)) (sa_cons (se_ix (se_var 1) se_int) sa_nil))))))) ss_nil)
  (ss_cons (ss_if (st_cmp (so_eq (huE hr)) (se_ix (se_var 1) se_int) se_str) (ss_one (ss_ret (se_cmp (so_eq (huE hr)) (se_callB sc_len T.m_len (by decide +kernel) (sa_cons (se_var 1) sa_nil)) se_int))) ss_nil)
  (ss_one (ss_ret (se_and (se_cmp (so_eq (huE hr)) (se_ix (se_var 1) se_int) se_str) (se_and (se_cmp (so_eq (huE hr)) (se_callB sc_len T.m_len (by decide +kernel) (sa_cons (se_var 1) sa_nil)) se_int) (se_one (se_call self_ok hr (sa_cons (se_ix (se_var 0) se_int) (sa_cons (se_ix (se_var 1) se_int) sa_nil))))))))))))))
theorem ok__law_error (T : Facts K mg) : FokE P w K mg errNs "_law_error" 1 ["wrong"] f__law_error := by
  refine FokE.of (k := 0) (m := d__law_error) T.d__law_error sc__law_error (fun _ _ _ _ _ _ us hl => match us, hl with | [_], _ => rfl) (fun base f cdv A outer s H E p cn cls hr hcn hcm hp => ?_)
  exact (ss_cons (ss_set (i := 1) sc__law_error.nd (se_lst (sa_cons (se_isO 0 T.errs hcn hcm hp T.m_isinstance (by decide)) (sa_cons (se_isO 0 T.errs hcn hcm hp T.m_isinstance (by decide)) (sa_cons (se_isO 0 T.errs hcn hcm hp T.m_isinstance (by decide)) sa_nil)))))
  (ss_cons (ss_set (i := 1) sc__law_error.nd (se_op so_add (se_var 1) (se_lst (sa_cons (se_isO 0 T.errs hcn hcm hp T.m_isinstance (by decide)) (sa_cons (se_isO 0 T.errs hcn hcm hp T.m_isinstance (by decide)) (sa_cons (se_isO 0 T.errs hcn hcm hp T.m_isinstance (by decide)) sa_nil))))))
  (ss_cons (ss_set (i := 1) sc__law_error.nd (se_op so_add (se_var 1) (se_lst (sa_cons (se_isO 0 T.errs hcn hcm hp T.m_isinstance (by decide)) (sa_cons (se_isO 0 T.errs hcn hcm hp T.m_isinstance (by decide)) (sa_cons (se_isO 0 T.errs hcn hcm hp T.m_isinstance (by decide)) sa_nil))))))
  (ss_cons (ss_set (i := 1) sc__law_error.nd (se_op so_add (se_var 1) (se_lst (sa_cons (se_isO 0 T.errs hcn hcm hp T.m_isinstance (by decide)) (sa_cons (se_isO 0 T.errs hcn hcm hp T.m_isinstance (by decide)) (sa_cons (se_isO 0 T.errs hcn hcm hp T.m_isinstance (by decide)) sa_nil))))))
  (ss_cons (ss_set (i := 1) sc__law_error.nd (se_op so_add (se_var 1) (se_lst (sa_cons (se_isO 0 T.errs hcn hcm hp T.m_isinstance (by decide)) (sa_cons (se_isO 0 T.errs hcn hcm hp T.m_isinstance (by decide)) sa_nil)))))
  (ss_cons (ss_if (st_w (sw_or (st_not (st_tru (se_isV 0 T.errs hcn hcm hp T.m_isinstance T.m_ValueError))) (sw_or1 (st_cmp (so_ne (huEH hr)) (se_lcount (se_var 1) (sa_cons se_bl sa_nil)) se_int)))) (ss_one (ss_ret (se_neg se_int))) ss_nil)
  (ss_one (ss_ret (se_lindex (se_var 1) (sa_cons se_bl sa_nil))))))))))
theorem ok__law_turned (T : Facts K mg) : ∀ n : Nat, Fok P w K mg "_law_turned" (0 + n) ["kind"] (f__law_turned n)
  | 0 => Fok.none (ps := ["kind"]) T.d__law_turned (fun _ _ _ _ _ _ us hl => match us, hl with | [_], _ => rfl)
  | n + 1 => by
    have self_ok := ok__law_turned T n
    refine Fok.of T.d__law_turned sc__law_turned (fun _ _ _ _ _ _ us hl => match us, hl with | [_], _ => rfl) (fun base f cdv A outer s H E hr => ?_)
    exact (ss_cons (ss_if (st_cmp (so_eq (huE hr)) (se_ix (se_var 0) se_int) se_str) (ss_one (ss_ret (se_tup (sa_cons se_str (sa_cons (se_back (se_ix (se_var 0) se_int)) sa_nil))))) ss_nil)
  (ss_cons (ss_if (st_cmp (so_eq (huE hr)) (se_ix (se_var 0) se_int) se_str) (ss_one (ss_ret (se_tup (sa_cons se_str (sa_cons (se_call self_ok hr (sa_cons (se_ix (se_var 0) se_int) sa_nil)) (sa_cons (se_call self_ok hr (sa_cons (se_ix (se_var 0) se_int) sa_nil)) sa_nil)))))) ss_nil)
  (ss_cons (ss_if (st_cmp (so_eq (huE hr)) (se_ix (se_var 0) se_int) se_str) (ss_one (ss_ret (se_tup (sa_cons se_str (sa_cons (se_callTy sc_tuple T.m_tuple (by decide +kernel) (sa_cons (se_lc rfl sc__law_turned.nd (si_seq (se_ix (se_var 0) se_int)) (blkOk_by (own := [("piece", 1)]) (by rfl)) (fun _ _ _ _ _ => sg_name (i := 1) sc__law_turned.nd) (fun _ _ _ _ _ => sts_nil) (fun _ _ _ _ _ => (se_call self_ok hr (sa_cons (se_var 1) sa_nil)))) sa_nil)) sa_nil))))) ss_nil)
  (ss_cons (ss_if (st_cmp (so_eq (huE hr)) (se_ix (se_var 0) se_int) se_str) (ss_one (ss_ret (se_tup (sa_cons se_str (sa_cons (se_call self_ok hr (sa_cons (se_ix (se_var 0) se_int) sa_nil)) sa_nil))))) ss_nil)
  (ss_one (ss_ret (se_var 0)))))))
theorem ok__law_near (T : Facts K mg) : ∀ n : Nat, Fok P w K mg "_law_near" (6 + n) ["tape", "kind", "letter"] (f__law_near n)
  | 0 => Fok.none (ps := ["tape", "kind", "letter"]) T.d__law_near (fun _ _ _ _ _ _ us hl => match us, hl with | [_, _, _], _ => rfl)
  | n + 1 => by
    have self_ok := ok__law_near T n
    refine Fok.of T.d__law_near sc__law_near (fun _ _ _ _ _ _ us hl => match us, hl with | [_, _, _], _ => rfl) (fun base f cdv A outer s H E hr => ?_)
    exact (ss_cons (ss_if (st_cmp (so_eq (huE hr)) (se_ix (se_var 1) se_int) se_str) (ss_one (ss_ret (se_ix (se_ix (se_var 1) se_int) (se_call (ok__law_draw T) hr (sa_cons (se_var 0) (sa_cons (se_callB sc_len T.m_len (by decide +kernel) (sa_cons (se_ix (se_var 1) se_int) sa_nil)) sa_nil)))))) ss_nil)
  (ss_cons (ss_if (st_cmp (so_eq (huE hr)) (se_ix (se_var 1) se_int) se_str) (ss_one (ss_ret (se_ix (se_lst (sa_cons (se_op so_add (se_var 2) se_int) (sa_cons (se_op so_sub (se_var 2) se_int) (sa_cons (se_neg (se_var 2)) (sa_cons (se_op so_add (se_var 2) se_int) (sa_cons se_int sa_nil)))))) (se_call (ok__law_draw T) hr (sa_cons (se_var 0) (sa_cons se_int sa_nil)))))) ss_nil)
  (ss_cons (ss_if (st_cmp (so_eq (huE hr)) (se_ix (se_var 1) se_int) se_str) (ss_cons (ss_set (i := 3) sc__law_near.nd (se_op so_add se_int (se_call (ok__law_draw T) hr (sa_cons (se_var 0) (sa_cons se_int sa_nil)))))
    (ss_one (ss_ret (se_op so_add (se_op so_add (se_slice (se_var 2) so_none (so_some (se_var 3))) (se_tup (sa_cons (se_call self_ok hr (sa_cons (se_var 0) (sa_cons (se_ix (se_var 1) (se_var 3)) (sa_cons (se_ix (se_var 2) (se_var 3)) sa_nil)))) sa_nil))) (se_slice (se_var 2) (so_some (se_op so_add (se_var 3) se_int)) so_none))))) ss_nil)
  (ss_cons (ss_if (st_cmp (so_eq (huE hr)) (se_ix (se_var 1) se_int) se_str) (ss_cons (ss_set (i := 4) sc__law_near.nd (se_call (ok__law_draw T) hr (sa_cons (se_var 0) (sa_cons (se_callB sc_len T.m_len (by decide +kernel) (sa_cons (se_ix (se_var 1) se_int) sa_nil)) sa_nil))))
    (ss_cons (ss_if (st_cmp (so_eq (huE hr)) (se_var 4) (se_ix (se_var 2) se_int)) (ss_one (ss_ret (se_tup (sa_cons se_str (sa_cons (se_var 4) (sa_cons (se_call self_ok hr (sa_cons (se_var 0) (sa_cons (se_ix (se_ix (se_var 1) se_int) (se_var 4)) (sa_cons (se_ix (se_var 2) se_int) sa_nil)))) sa_nil)))))) ss_nil)
    (ss_one (ss_ret (se_tup (sa_cons se_str (sa_cons (se_var 4) (sa_cons (se_call (ok__law_letter T 4) hr (sa_cons (se_var 0) (sa_cons (se_ix (se_ix (se_var 1) se_int) (se_var 4)) (sa_cons (se_tup (sa_cons se_int (sa_cons se_int sa_nil))) sa_nil)))) sa_nil)))))))) ss_nil)
  (ss_cons (ss_if (st_cmp (so_eq (huE hr)) (se_ix (se_var 2) se_int) se_str) (ss_one (ss_ret (se_tup (sa_cons se_str (sa_cons (se_call (ok__law_letter T 4) hr (sa_cons (se_var 0) (sa_cons (se_ix (se_var 1) se_int) (sa_cons (se_tup (sa_cons se_int (sa_cons se_int sa_nil))) sa_nil)))) sa_nil))))) ss_nil)
  (ss_cons (ss_if (st_cmp (so_eq (huE hr)) (se_call (ok__law_draw T) hr (sa_cons (se_var 0) (sa_cons se_int sa_nil))) se_int) (ss_one (ss_ret (se_tup (sa_cons se_str sa_nil)))) ss_nil)
  (ss_one (ss_ret (se_tup (sa_cons se_str (sa_cons (se_call self_ok hr (sa_cons (se_var 0) (sa_cons (se_ix (se_var 1) se_int) (sa_cons (se_ix (se_var 2) se_int) sa_nil)))) sa_nil)))))))))))
theorem ok__law_foreign (T : Facts K mg) : ∀ n : Nat, Fok P w K mg "_law_foreign" (5 + n) ["tape", "kind", "letter"] (f__law_foreign n)
  | 0 => Fok.none (ps := ["tape", "kind", "letter"]) T.d__law_foreign (fun _ _ _ _ _ _ us hl => match us, hl with | [_, _, _], _ => rfl)
  | n + 1 => by
    have self_ok := ok__law_foreign T n
    refine Fok.of T.d__law_foreign sc__law_foreign (fun _ _ _ _ _ _ us hl => match us, hl with | [_, _, _], _ => rfl) (fun base f cdv A outer s H E hr => ?_)
    exact (ss_cons (ss_set (i := 3) sc__law_foreign.nd (se_call (ok__law_draw T) hr (sa_cons (se_var 0) (sa_cons se_int sa_nil))))
  (ss_cons (ss_if (st_w (sw_and (st_cmp so_gt (se_var 3) se_int) (sw_and1 (st_cmp so_lt (se_call (ok__law_kinds T 4) hr (sa_cons (se_var 1) sa_nil)) se_int)))) (ss_cons (ss_if (st_cmp (so_eq (huE hr)) (se_ix (se_var 1) se_int) se_str) (ss_cons (ss_set (i := 4) sc__law_foreign.nd (se_op so_add se_int (se_call (ok__law_draw T) hr (sa_cons (se_var 0) (sa_cons se_int sa_nil)))))
      (ss_one (ss_ret (se_op so_add (se_op so_add (se_slice (se_var 2) so_none (so_some (se_var 4))) (se_tup (sa_cons (se_call self_ok hr (sa_cons (se_var 0) (sa_cons (se_ix (se_var 1) (se_var 4)) (sa_cons (se_ix (se_var 2) (se_var 4)) sa_nil)))) sa_nil))) (se_slice (se_var 2) (so_some (se_op so_add (se_var 4) se_int)) so_none))))) ss_nil)
    (ss_cons (ss_if (st_w (sw_and (st_cmp (so_eq (huE hr)) (se_ix (se_var 1) se_int) se_str) (sw_and (st_cmp (so_eq (huE hr)) (se_var 3) se_int) (sw_and1 (st_cmp so_lt (se_callB sc_len T.m_len (by decide +kernel) (sa_cons (se_ix (se_var 1) se_int) sa_nil)) se_int))))) (ss_one (ss_ret (se_tup (sa_cons se_str (sa_cons (se_callB sc_len T.m_len (by decide +kernel) (sa_cons (se_ix (se_var 1) se_int) sa_nil)) (sa_cons (se_ix (se_var 2) se_int) sa_nil)))))) ss_nil)
    (ss_cons (ss_if (st_cmp (so_eq (huE hr)) (se_ix (se_var 1) se_int) se_str) (ss_one (ss_ret (se_tup (sa_cons se_str (sa_cons (se_ix (se_var 2) se_int) (sa_cons (se_call self_ok hr (sa_cons (se_var 0) (sa_cons (se_ix (se_ix (se_var 1) se_int) (se_ix (se_var 2) se_int)) (sa_cons (se_ix (se_var 2) se_int) sa_nil)))) sa_nil)))))) ss_nil)
    (ss_one (ss_if (st_w (sw_and (st_cmp (so_eq (huE hr)) (se_ix (se_var 1) se_int) se_str) (sw_and1 (st_cmp (so_eq (huE hr)) (se_ix (se_var 2) se_int) se_str)))) (ss_one (ss_ret (se_tup (sa_cons se_str (sa_cons (se_call self_ok hr (sa_cons (se_var 0) (sa_cons (se_ix (se_var 1) se_int) (sa_cons (se_ix (se_var 2) se_int) sa_nil)))) sa_nil))))) ss_nil))))) ss_nil)
  (ss_cons (ss_if (st_cmp (so_eq (huE hr)) (se_ix (se_var 1) se_int) se_str) (ss_one (ss_ret (se_ix (se_lst (sa_cons (se_call (ok__law_strange T) hr (sa_cons (se_ix (se_var 1) se_int) sa_nil)) (sa_cons se_int (sa_cons se_int (sa_cons (se_call (ok__law_integer T) hr (sa_cons (se_var 0) (sa_cons se_int sa_nil))) sa_nil))))) (se_call (ok__law_draw T) hr (sa_cons (se_var 0) (sa_cons se_int sa_nil)))))) ss_nil)
  (ss_cons (ss_if (st_cmp (so_eq (huE hr)) (se_ix (se_var 1) se_int) se_str) (ss_one (ss_ret (se_ix (se_lst (sa_cons se_str (sa_cons se_str (sa_cons se_str sa_nil)))) (se_call (ok__law_draw T) hr (sa_cons (se_var 0) (sa_cons se_int sa_nil)))))) ss_nil)
  (ss_cons (ss_set (i := 5) sc__law_foreign.nd (se_lst (sa_cons se_int (sa_cons se_str (sa_cons (se_tup (sa_cons se_str sa_nil)) (sa_cons (se_tup (sa_cons se_str (sa_cons se_int sa_nil))) (sa_cons (se_tup (sa_cons se_str (sa_cons se_str sa_nil))) (sa_cons (se_tup (sa_cons se_str (sa_cons se_int (sa_cons se_int sa_nil)))) (sa_cons (se_tup (sa_cons se_str (sa_cons se_int (sa_cons se_str sa_nil)))) sa_nil)))))))))
  (ss_cons (ss_setLc (i := 6) rfl sc__law_foreign.nd (si_seq (se_var 5)) (blkOk_by (own := [("one", 7)]) (by rfl)) (fun _ _ _ _ _ => sg_name (i := 7) sc__law_foreign.nd) (fun _ _ _ _ _ => (sts_one (st_not (st_tru (se_call (ok__law_is_letter T 4) hr (sa_cons (se_var 1) (sa_cons (se_var 7) sa_nil))))))) (fun _ _ _ _ _ => (se_var 7)))
  (ss_one (ss_ret (se_ix (se_var 6) (se_call (ok__law_draw T) hr (sa_cons (se_var 0) (sa_cons (se_callB sc_len T.m_len (by decide +kernel) (sa_cons (se_var 6) sa_nil)) sa_nil))))))))))))
theorem ok__law_refused (T : Facts K mg) : Fok P w K mg "_law_refused" 10 ["kind", "first", "second"] f__law_refused := by
  refine Fok.of (k := 9) T.d__law_refused sc__law_refused (fun _ _ _ _ _ _ us hl => match us, hl with | [_, _, _], _ => rfl) (fun base f cdv A outer s H E hr => ?_)
  exact (ss_cons (ss_try (i := 3) (h := fun a cn => (dRet (dOp gEq (dCall (f__law_error a cn) [(dVar 3)]) (dC (.int 0))))) sc__law_refused.nd T.errs takes0 (fun W pn xe tk hp => (ss_one (ss_expr (se_callX (ok_words_compared T) hr tk (sa_cons (se_var 0) (sa_cons (se_var 1) (sa_cons (se_var 2) sa_nil))))))) (fun a oe cn cls pn hcn hcm hp => by
    have hr := roomM (v := some (.ref a)) hr
    exact (ss_one (ss_ret (se_cmp (so_eq (huEH hr)) (se_callE (ok__law_error T) hr hp hcn hcm (sa_cons (se_var 3) sa_nil)) se_int)))) par__law_refused)
  (ss_one (ss_ret se_bl)))
theorem ok__law_answers (T : Facts K mg) : Fok P w K mg "_law_answers" 10 ["kind", "first", "second"] f__law_answers := by
  refine Fok.of (k := 9) T.d__law_answers sc__law_answers (fun _ _ _ _ _ _ us hl => match us, hl with | [_, _, _], _ => rfl) (fun base f cdv A outer s H E hr => ?_)
  exact (ss_cons (ss_set (i := 3) sc__law_answers.nd (se_callX (ok_words_compared T) hr takes0 (sa_cons (se_var 0) (sa_cons (se_var 1) (sa_cons (se_var 2) sa_nil)))))
  (ss_cons (ss_set (i := 4) sc__law_answers.nd (se_call (ok__law_word_key T) hr (sa_cons (se_var 0) (sa_cons (se_var 1) sa_nil))))
  (ss_cons (ss_set (i := 5) sc__law_answers.nd (se_call (ok__law_word_key T) hr (sa_cons (se_var 0) (sa_cons (se_var 2) sa_nil))))
  (ss_one (ss_ret (se_and (se_call (ok__law_whole T) hr (sa_cons (se_var 3) sa_nil)) (se_one (se_cmp (so_eq (huE hr)) (se_var 3) (se_op so_sub (se_callTy sc_int T.m_int (by decide +kernel) (sa_cons (se_cmp (so_gtN (huE hr)) (se_var 4) (se_var 5)) sa_nil)) (se_callTy sc_int T.m_int (by decide +kernel) (sa_cons (se_cmp (so_ltN (huE hr)) (se_var 4) (se_var 5)) sa_nil)))))))))))
theorem ok__law_changed (T : Facts K mg) : Fok P w K mg "_law_changed" 11 ["tape", "kind", "word"] f__law_changed := by
  refine Fok.of (k := 10) T.d__law_changed sc__law_changed (fun _ _ _ _ _ _ us hl => match us, hl with | [_, _, _], _ => rfl) (fun base f cdv A outer s H E hr => ?_)
  exact (ss_cons (ss_set (i := 3) sc__law_changed.nd (se_call (ok__law_draw T) hr (sa_cons (se_var 0) (sa_cons se_int sa_nil))))
  (ss_cons (ss_if (st_w (sw_or (st_cmp (so_eq (huE hr)) (se_var 3) se_int) (sw_or1 (st_cmp (so_eq (huE hr)) (se_callB sc_len T.m_len (by decide +kernel) (sa_cons (se_var 2) sa_nil)) se_int)))) (ss_one (ss_ret (se_call (ok__law_word T) hr (sa_cons (se_var 0) (sa_cons (se_var 1) (sa_cons (se_tup (sa_cons se_int (sa_cons se_int sa_nil))) (sa_cons se_int sa_nil))))))) ss_nil)
  (ss_cons (ss_set (i := 4) sc__law_changed.nd (se_call (ok__law_draw T) hr (sa_cons (se_var 0) (sa_cons (se_callB sc_len T.m_len (by decide +kernel) (sa_cons (se_var 2) sa_nil)) sa_nil))))
  (ss_cons (ss_if (st_cmp (so_eq (huE hr)) (se_var 3) se_int) (ss_one (ss_ret (se_slice (se_var 2) so_none (so_some (se_var 4))))) ss_nil)
  (ss_cons (ss_if (st_w (sw_and (st_cmp (so_eq (huE hr)) (se_var 3) se_int) (sw_and1 (st_cmp so_lt (se_callB sc_len T.m_len (by decide +kernel) (sa_cons (se_var 2) sa_nil)) se_int)))) (ss_one (ss_ret (se_op so_add (se_op so_add (se_slice (se_var 2) so_none (so_some (se_var 4))) (se_tup (sa_cons (se_call (ok__law_letter T 4) hr (sa_cons (se_var 0) (sa_cons (se_var 1) (sa_cons (se_tup (sa_cons se_int (sa_cons se_int sa_nil))) sa_nil)))) sa_nil))) (se_slice (se_var 2) (so_some (se_var 4)) so_none)))) ss_nil)
  (ss_cons (ss_if (st_cmp (so_eq (huE hr)) (se_var 3) se_int) (ss_one (ss_ret (se_op so_add (se_slice (se_var 2) (so_some (se_var 4)) so_none) (se_slice (se_var 2) so_none (so_some (se_var 4)))))) ss_nil)
  (ss_one (ss_ret (se_op so_add (se_op so_add (se_slice (se_var 2) so_none (so_some (se_var 4))) (se_tup (sa_cons (se_call (ok__law_near T 4) hr (sa_cons (se_var 0) (sa_cons (se_var 1) (sa_cons (se_ix (se_var 2) (se_var 4)) sa_nil)))) sa_nil))) (se_slice (se_var 2) (so_some (se_op so_add (se_var 4) se_int)) so_none))))))))))
theorem ok_law (T : Facts K mg) : Fok P w K mg "law" 12 ["script"] f_law := by
  refine Fok.of (k := 11) T.d_law sc_law (fun _ _ _ _ _ _ us hl => match us, hl with | [_], _ => rfl) (fun base f cdv A outer s H E hr => ?_)
  exact (ss_cons (ss_set (i := 1) sc_law.nd (se_call (ok__law_tape T) hr (sa_cons (se_var 0) sa_nil)))
  (ss_cons (ss_set (i := 2) sc_law.nd (se_call (ok__law_kind T 4) hr (sa_cons (se_var 1) (sa_cons se_int (sa_cons se_int sa_nil)))))
  (ss_cons (ss_set (i := 3) sc_law.nd (se_call (ok__law_word T) hr (sa_cons (se_var 1) (sa_cons (se_var 2) (sa_cons (se_tup (sa_cons se_int (sa_cons se_int sa_nil))) (sa_cons se_int sa_nil))))))
  (ss_cons (ss_set (i := 4) sc_law.nd (se_call (ok__law_changed T) hr (sa_cons (se_var 1) (sa_cons (se_var 2) (sa_cons (se_var 3) sa_nil)))))
  (ss_cons (ss_set (i := 5) sc_law.nd (se_call (ok__law_changed T) hr (sa_cons (se_var 1) (sa_cons (se_var 2) (sa_cons (se_var 4) sa_nil)))))
  (ss_cons (ss_for PassesOwn.never rfl (si_seq (se_lst (sa_cons (se_var 2) (sa_cons (se_call (ok__law_turned T 4) hr (sa_cons (se_var 2) sa_nil)) (sa_cons (se_var 2) sa_nil))))) (sg_name (i := 6) sc_law.nd) (ss_one (ss_for PassesOwn.never rfl (si_seq (se_lst (sa_cons (se_tup (sa_cons (se_var 3) (sa_cons (se_var 4) sa_nil))) (sa_cons (se_tup (sa_cons (se_var 4) (sa_cons (se_var 3) sa_nil))) (sa_cons (se_tup (sa_cons (se_var 3) (sa_cons (se_var 5) sa_nil))) sa_nil))))) (sg_name (i := 7) sc_law.nd) (ss_one (ss_if (st_not (st_tru (se_call (ok__law_answers T) hr (sa_cons (se_var 6) (sa_cons (se_ix (se_var 7) se_int) (sa_cons (se_ix (se_var 7) se_int) sa_nil)))))) (ss_one (ss_ret se_bl)) ss_nil)))))
  (ss_cons (ss_set (i := 8) sc_law.nd (se_call (ok__law_letter T 4) hr (sa_cons (se_var 1) (sa_cons (se_var 2) (sa_cons (se_tup (sa_cons se_int (sa_cons se_int sa_nil))) sa_nil)))))
  (ss_cons (ss_set (i := 9) sc_law.nd (se_call (ok__law_draw T) hr (sa_cons (se_var 1) (sa_cons se_int sa_nil))))
  (ss_cons (ss_set (i := 10) sc_law.nd (se_op so_add (se_op so_add (se_slice (se_var 3) so_none (so_some (se_var 9))) (se_tup (sa_cons (se_call (ok__law_foreign T 4) hr (sa_cons (se_var 1) (sa_cons (se_var 2) (sa_cons (se_var 8) sa_nil)))) sa_nil))) (se_slice (se_var 3) (so_some (se_op so_add (se_var 9) se_int)) so_none)))
  (ss_cons (ss_if (st_w (sw_or (st_not (st_tru (se_call (ok__law_refused T) hr (sa_cons (se_var 2) (sa_cons (se_var 10) (sa_cons (se_var 4) sa_nil)))))) (sw_or1 (st_not (st_tru (se_call (ok__law_answers T) hr (sa_cons (se_var 2) (sa_cons (se_var 4) (sa_cons (se_var 5) sa_nil))))))))) (ss_one (ss_ret se_bl)) ss_nil)
  (ss_one (ss_ret (se_and (se_call (ok__law_refused T) hr (sa_cons (se_var 2) (sa_cons (se_var 4) (sa_cons (se_var 10) sa_nil)))) (se_one (se_call (ok__law_answers T) hr (sa_cons (se_var 2) (sa_cons (se_var 4) (sa_cons (se_var 4) sa_nil))))))))))))))))))
end
end G
set_option maxHeartbeats 4000000
namespace G
open PySem L2 Fs
/-! ### the tape -/
def Tp (S : Store) (t s : Nat) : Prop := ∃ (ns : List Int) (a b c : Int), S[t]? = some (.lst [.loc s, .int a, .int b, .int c]) ∧ S[s]? = some (.lst (ns.map W.int)) ∧ 0 ≤ a ∧ s ≠ t
def Fr (t : Nat) (S S' : Store) : Prop := S.length ≤ S'.length ∧ ∀ (n : Nat) (c : Cell), n ≠ t → S[n]? = some c → S'[n]? = some c
theorem Fr.refl (t : Nat) (S : Store) : Fr t S S := ⟨Nat.le_refl _, fun _ _ _ h => h⟩
theorem Fr.trans {t : Nat} {S S1 S2 : Store} (a : Fr t S S1) (b : Fr t S1 S2) : Fr t S S2 := ⟨Nat.le_trans a.1 b.1, fun n c h e => b.2 n c h (a.2 n c h e)⟩
theorem fr_set {t : Nat} {S : Store} {c : Cell} : Fr t S (S.set t c) := ⟨by rw [List.length_set]; exact Nat.le_refl _, fun n d h e => by rw [List.getElem?_set_ne (Ne.symm h)]; exact e⟩
theorem fr_app {t : Nat} {S : Store} {cs : List Cell} : Fr t S (S ++ cs) := ⟨by rw [List.length_append]; omega, fun n d h e => by
  rw [List.getElem?_append_left]
  · exact e
  · exact (List.getElem?_eq_some_iff.mp e).1⟩
theorem lt_of {S : Store} {n : Nat} {c : Cell} (h : S[n]? = some c) : n < S.length := (List.getElem?_eq_some_iff.mp h).1
theorem get_set {S : Store} {n : Nat} {c d : Cell} (h : S[n]? = some d) : (S.set n c)[n]? = some c := List.getElem?_set_self (lt_of h)
theorem Tp.app {S : Store} {t s : Nat} {cs : List Cell} (h : Tp S t s) : Tp (S ++ cs) t s := by
  obtain ⟨ns, a, b, c, h1, h2, h3⟩ := h
  exact ⟨ns, a, b, c, by rw [List.getElem?_append_left (lt_of h1)]; exact h1, by rw [List.getElem?_append_left (lt_of h2)]; exact h2, h3⟩
theorem Tp.lt {S : Store} {t s : Nat} (h : Tp S t s) : t < S.length ∧ s < S.length := by
  obtain ⟨ns, a, b, c, h1, h2, h3⟩ := h
  exact ⟨lt_of h1, lt_of h2⟩
/-- the tape's cell is written -/
theorem Tp.put {S : Store} {t s : Nat} {ns : List Int} {a b c : Int} {d : Cell} (h1 : S[t]? = some d) (hne : s ≠ t) (h2 : S[s]? = some (.lst (ns.map W.int))) (h0 : 0 ≤ a) : Tp (S.set t (.lst [.loc s, .int a, .int b, .int c])) t s :=
  ⟨ns, a, b, c, get_set h1, by rw [List.getElem?_set_ne (Ne.symm hne)]; exact h2, h0, hne⟩
/-- some other cell is written -/
theorem Tp.other {S : Store} {t s n : Nat} {c : Cell} (h : Tp S t s) (hn : n ≠ t) (hs : n ≠ s) : Tp (S.set n c) t s := by
  obtain ⟨ns, a, b, e, h1, h2, h3⟩ := h
  exact ⟨ns, a, b, e, by rw [List.getElem?_set_ne hn]; exact h1, by rw [List.getElem?_set_ne hs]; exact h2, h3⟩
theorem Fr.put {t : Nat} {S0 S : Store} {n : Nat} {c : Cell} (h : Fr t S0 S) (hn : S0.length ≤ n) : Fr t S0 (S.set n c) := ⟨by rw [List.length_set]; exact h.1, fun k d hk e => by
  have := lt_of e
  rw [List.getElem?_set_ne (by omega)]
  exact h.2 k d hk e⟩
theorem Fr.get {t : Nat} {S0 S : Store} {n : Nat} {c : Cell} (h : Fr t S0 S) (hn : n ≠ t) (e : S0[n]? = some c) : S[n]? = some c := h.2 n c hn e
theorem pow18 {S : Store} : gPow (.int 10) (.int 18) S = .ok (.int 1000000000000000000) S := by
  show (if (0 : Int) ≤ 18 ∧ (18 : Int) ≤ 1000000 ∧ (10 : Int).natAbs < 2 ^ 64 then Res.ok (W.int (10 ^ (18 : Int).toNat)) S else .bad) = _
  rw [if_pos (by decide)]
  rfl
theorem pos_of {m : Int} {j : Int} (hj : 0 < j) : 0 < (if m < j then j else m) := by split <;> omega
theorem log_of {m : Int} {j : Int} (h : m.natAbs.log2 < 9000) (hj : j.natAbs.log2 < 9000) : (if m < j then j else m).natAbs.log2 < 9000 := by split <;> assumption
def many (m : Int) : Int := if m < 1 then 1 else m
theorem atNat {α : Type} {xs : List α} {a : Int} (h0 : 0 ≤ a) (h1 : a < (xs.length : Int)) : ∃ x, L2.atI xs a = some x ∧ x ∈ xs := by
  have hk : a.toNat < xs.length := by omega
  refine ⟨xs[a.toNat], ?_, List.getElem_mem hk⟩
  unfold L2.atI ixN
  rw [if_pos h0, if_pos h1]
  exact List.getElem?_eq_getElem hk
theorem mem_int {ns : List Int} {w : W} (h : w ∈ ns.map W.int) : ∃ i, w = .int i := by
  obtain ⟨i, _, rfl⟩ := List.mem_map.mp h
  exact ⟨i, rfl⟩
theorem ixn_lit {n : Nat} {i : Int} (h0 : 0 ≤ i) (h : i < (n : Int)) : ixN n i = some i.toNat := by
  unfold ixN
  rw [if_pos h0, if_pos h]
/-- what a draw is worth -/
def DrP (t s : Nat) (S : Store) (m : Int) (r : Res W) : Prop := ∃ k S', r = .ok (.int k) S' ∧ Tp S' t s ∧ Fr t S S' ∧ 0 ≤ k ∧ k < many m
theorem draw_ok {S : Store} {t s : Nat} {m : Int} (h : Tp S t s) (hm : m.natAbs.log2 < 9000) : DrP t s S m (f__law_draw [.loc t, .int m] S) := by
  obtain ⟨ns, a, b, c, ht, hs, ha, hne⟩ := h
  have m1 : 0 < (if m < 1 then 1 else m : Int) := pos_of (by decide)
  have m2 : 0 < (if m < 2 then 2 else m : Int) := pos_of (by decide)
  have l2 : (if m < 2 then 2 else m : Int).natAbs.log2 < 9000 := log_of hm (by decide)
  have lo : ∀ i : Int, 0 ≤ i % (if m < 1 then 1 else m) := fun i => Int.emod_nonneg _ (by omega)
  have hi : ∀ i : Int, i % (if m < 1 then 1 else m) < many m := fun i => Int.emod_lt_of_pos _ m1
  have gs : ∀ c, (S.set t c)[t]? = some c := fun c => get_set ht
  by_cases hb : b = 0
  · subst hb
    by_cases hl : a < (ns.length : Int)
    · -- a number of the script
      obtain ⟨x, ex, hx⟩ := atNat (xs := ns.map W.int) ha (by simpa using hl)
      obtain ⟨i, rfl⟩ := mem_int hx
      generalize hj : (if i < 0 then -i else i) = j
      by_cases hs18 : j < 1000000000000000000
      · simp [f__law_draw, d__law_draw, ixl ht at0_ev, ixl ht at1_ev, ixl ht at2_ev, len_loc hs, hl, ixl hs ex, hj, ht, ixn_lit, pow18, hs18, mul_ii, mod_ii m1, mod_ii, gs]
        exact ⟨_, _, rfl, Tp.put ht hne hs (by omega), fr_set, lo _, hi _⟩
      · simp [f__law_draw, d__law_draw, ixl ht at0_ev, ixl ht at1_ev, ixl ht at2_ev, len_loc hs, hl, ixl hs ex, hj, ht, ixn_lit, pow18, hs18, mul_ii, mod_ii m1, mod_ii, gs, ixl (gs _) at2_ev, div_ii ⟨m2, l2⟩]
        exact ⟨_, _, rfl, Tp.put ht hne hs (by omega), fr_set, lo _, hi _⟩
    · -- behind the script's end
      generalize hj : (c * 48271 + a + 1) % 2147483647 = j
      have hj0 : j < 1000000000000000000 := by omega
      simp [f__law_draw, d__law_draw, ixl ht at0_ev, ixl ht at1_ev, ixl ht at2_ev, ixl ht at3_ev, len_loc hs, hl, hj, hj0, ht, ixn_lit, pow18, mul_ii, mod_ii m1, mod_ii, gs, ixl (gs _) at3_ev]
      exact ⟨_, _, rfl, Tp.put ht hne hs (by omega), fr_set, lo _, hi _⟩
  · simp [f__law_draw, d__law_draw, ixl ht at2_ev, hb, ht, ixn_lit, div_ii ⟨m2, l2⟩, mod_ii m1]
    exact ⟨_, _, rfl, Tp.put ht hne hs ha, fr_set, lo _, hi _⟩
theorem log_big {m : Int} (h1 : -10000000000000000000000000000000000000000 ≤ m) (h2 : m ≤ 10000000000000000000000000000000000000000) : m.natAbs.log2 < 9000 := by
  have h : m.natAbs < 2 ^ 200 := by
    have e : (2 : Nat) ^ 200 = 1606938044258990275541962092341162602522202993782792835301376 := by decide
    rw [e]
    omega
  exact Nat.lt_trans (PySem.Flt.log2_lt_of (by decide) h) (by decide)
/-- a draw by a written number -/
theorem draw_n {S : Store} {t s : Nat} (m : Int) (h : Tp S t s) (h1 : 1 ≤ m := by omega) (h2 : m ≤ 10000000000000000000000000000000000000000 := by omega) : ∃ k S', f__law_draw [.loc t, .int m] S = .ok (.int k) S' ∧ Tp S' t s ∧ Fr t S S' ∧ 0 ≤ k ∧ k < m := by
  obtain ⟨k, S', e, a, b, c, d⟩ := draw_ok h (log_big (by omega) h2)
  refine ⟨k, S', e, a, b, c, ?_⟩
  unfold many at d
  rw [if_neg (by omega)] at d
  exact d
/-! ### texts -/
def SOK (n : Nat) (x : Str) : Prop := PyData.strOk x = true ∧ x.length ≤ n
theorem SOK.mono {m n : Nat} {x : Str} (h : SOK m x) (hm : m ≤ n) : SOK n x := ⟨h.1, Nat.le_trans h.2 hm⟩
theorem str_len (x y : Str) : (x ++ y).length = x.length + y.length := by
  show (x.cps ++ y.cps).size = x.cps.size + y.cps.size
  rw [Array.size_append]
theorem SOK.add {m n : Nat} {x y : Str} (hx : SOK m x) (hy : SOK n y) : SOK (m + n) (x ++ y) := by
  refine ⟨?_, by rw [str_len]; have := hx.2; have := hy.2; omega⟩
  have h1 := hx.1
  have h2 := hy.1
  unfold PyData.strOk at h1 h2 ⊢
  show (x.cps ++ y.cps).all _ = true
  rw [Array.all_append, h1, h2]
  rfl
theorem add_ss {x y : Str} {S : Store} (h : x.length + y.length ≤ 1000) : gAdd (.str x) (.str y) S = .ok (.str (x ++ y)) S := if_pos (Nat.le_trans h (by decide))
theorem ix_s {z : Str} {i : Int} {S : Store} (hz : z.length ≤ 1000) (h0 : 0 ≤ i) (h1 : i < (z.length : Int)) (hok : PyData.strOk z = true) : ∃ x, gIx (.str z) (.int i) S = .ok (.str x) S ∧ SOK 1 x := by
  obtain ⟨c, e, hc⟩ := atNat (xs := z.cps.toList) h0 (by simpa [Str.length] using h1)
  refine ⟨⟨#[c]⟩, ?_, ?_, Nat.le_refl _⟩
  · show (if z.length ≤ sizeLine then _ else _) = _
    rw [if_pos (Nat.le_trans hz (by decide)), e]
  · unfold PyData.strOk at hok ⊢
    rw [Array.all_eq_true'] at hok
    have := hok c (by simpa using hc)
    simpa using this
/-- an item of a list that stands at p -/
theorem ix_lit {S : Store} {p : Nat} {ws : List W} {k : Int} (h : S[p]? = some (.lst ws)) (h0 : 0 ≤ k) (h1 : k < (ws.length : Int)) : ∃ w, gIx (.loc p) (.int k) S = .ok w S ∧ w ∈ ws := by
  obtain ⟨w, e, hw⟩ := atNat h0 h1
  exact ⟨w, ixl h e, hw⟩
/-! ### kinds -/
abbrev strW (s : String) : W := .str (Str.ofString s)
mutual
inductive Kd : Nat → Int → W → Prop
  | names {n : Nat} {ns : List Str} : ns ≠ [] → ns.length ≤ 4 → ns.Nodup → (∀ x ∈ ns, SOK 6 x) → Kd (n + 1) 1 (.tup [strW "names", .tup (ns.map .str)])
  | kint {n : Nat} : Kd (n + 1) 1 (.tup [strW "integers"])
  | pair {n : Nat} {s s' : Int} {a b : W} : Kd n s a → Kd n s' b → Kd (n + 1) (1 + s + s') (.tup [strW "pair", a, b])
  | either {n : Nat} {s : Int} {ks : List W} : KdA n s ks → ks ≠ [] → ks.length ≤ 3 → Kd (n + 1) (1 + s) (.tup [strW "either", .tup ks])
  | maybe {n : Nat} {s : Int} {a : W} : Kd n s a → Kd (n + 1) (1 + s) (.tup [strW "maybe", a])
inductive KdA : Nat → Int → List W → Prop
  | nil {n : Nat} : KdA n 0 []
  | cons {n : Nat} {s s' : Int} {a : W} {r : List W} : Kd n s a → KdA n s' r → KdA n (s + s') (a :: r)
end
theorem KdA.mem : ∀ {n : Nat} {ks : List W} {s : Int}, KdA n s ks → ∀ a ∈ ks, ∃ s', Kd n s' a
  | _, [], _, _, _, h => by cases h
  | _, k :: ks, _, h, a, m => by
    cases h with
    | cons h1 h2 =>
      rcases List.mem_cons.mp m with rfl | m
      · exact ⟨_, h1⟩
      · exact KdA.mem h2 a m
theorem KdA.snoc : ∀ {n : Nat} {ks : List W} {s s' : Int} {a : W}, KdA n s ks → Kd n s' a → KdA n (s + s') (ks ++ [a])
  | _, [], _, s', _, h, h' => by
    cases h
    have := KdA.cons h' KdA.nil
    rw [show (0 : Int) + s' = s' + 0 by omega]
    exact this
  | _, k :: ks, _, s', _, h, h' => by
    cases h with
    | @cons _ s1 s2 _ _ h1 h2 =>
      have := KdA.cons h1 (KdA.snoc h2 h')
      rw [show s1 + s2 + s' = s1 + (s2 + s') by omega]
      exact this
theorem Kd.pos : ∀ {n : Nat} {s : Int} {k : W}, Kd n s k → 1 ≤ s := by
  intro n
  induction n with
  | zero => intro s k h; cases h
  | succ n ih =>
    have ihA : ∀ (ks : List W) (s : Int), KdA n s ks → 0 ≤ s := fun ks => by
      induction ks with
      | nil => intro s h; cases h; exact Int.le_refl _
      | cons a r ihr =>
        intro s h
        cases h with
        | cons h1 h2 =>
          have := ih h1
          have := ihr _ h2
          omega
    intro s k h
    cases h with
    | names => exact Int.le_refl _
    | kint => exact Int.le_refl _
    | pair h1 h2 => have := ih h1; have := ih h2; omega
    | either h1 => have := ihA _ _ h1; omega
    | maybe h1 => have := ih h1; omega
theorem Kd.mono : ∀ {n : Nat} {s : Int} {k : W}, Kd n s k → Kd (n + 1) s k := by
  intro n
  induction n with
  | zero => intro s k h; cases h
  | succ n ih =>
    have ihA : ∀ (ks : List W) (s : Int), KdA n s ks → KdA (n + 1) s ks := fun ks => by
      induction ks with
      | nil => intro s h; cases h; exact .nil
      | cons a r ihr =>
        intro s h
        cases h with
        | cons h1 h2 => exact .cons (ih h1) (ihr _ h2)
    intro s k h
    cases h with
    | names a b c d => exact .names a b c d
    | kint => exact .kint
    | pair h1 h2 => exact .pair (ih h1) (ih h2)
    | either h1 h2 h3 => exact .either (ihA _ _ h1) h2 h3
    | maybe h1 => exact .maybe (ih h1)
theorem Kd.le {n m : Nat} {s : Int} {k : W} (h : Kd n s k) (hm : n ≤ m) : Kd m s k := by
  induction hm with
  | refl => exact h
  | step _ ih => exact ih.mono
end G
set_option maxHeartbeats 4000000
namespace G
open PySem L2 Fs
theorem sum_ints : ∀ {n : Nat} {ks : List W} {s : Int} {ys : List W}, KdA n s ks → ys.length = ks.length → (∀ (i : Nat) (w y : W), ks[i]? = some w → ys[i]? = some y → ∀ s', Kd n s' w → y = .int s') → ∃ ns, intsW ys = some ns ∧ ns.sum = s
  | _, [], _, ys, h, hl, _ => by
    cases h
    cases ys with
    | nil => exact ⟨[], rfl, rfl⟩
    | cons a r => cases hl
  | n, k :: ks, _, ys, h, hl, hr => by
    cases h with
    | @cons _ s1 s2 _ _ h1 h2 =>
      cases ys with
      | nil => cases hl
      | cons y ys =>
        obtain ⟨ns, e1, e2⟩ := sum_ints (ys := ys) h2 (by simpa using hl) fun i w z a b => hr (i + 1) w z (by simpa using a) (by simpa using b)
        have e := hr 0 k y rfl rfl _ h1
        subst e
        refine ⟨s1 :: ns, ?_, ?_⟩
        rotate_left
        · rw [List.sum_cons, e2]
        · show (intsW ys).map _ = _
          rw [e1]
          rfl
theorem kinds_ok : ∀ {n : Nat} {s : Int} {k : W}, Kd n s k → ∀ S, ∃ cs, f__law_kinds n [k] S = .ok (.int s) (S ++ cs) := by
  intro n
  induction n with
  | zero => intro s k h; cases h
  | succ n ih =>
    intro s k h S
    cases h with
    | names a b c d => exact ⟨[], by simp +decide [f__law_kinds, d__law_kinds, ixt0, ixt1]⟩
    | kint => exact ⟨[], by simp +decide [f__law_kinds, d__law_kinds, ixt0, ixt1]⟩
    | pair h1 h2 =>
      obtain ⟨c1, e1⟩ := ih h1 S
      obtain ⟨c2, e2⟩ := ih h2 (S ++ c1)
      exact ⟨c1 ++ c2, by simp +decide [f__law_kinds, d__law_kinds, ixt0, ixt1, ixt2, e1, e2]⟩
    | maybe h1 =>
      obtain ⟨c1, e1⟩ := ih h1 S
      exact ⟨c1, by simp +decide [f__law_kinds, d__law_kinds, ixt0, ixt1, ixt2, e1]⟩
    | @either _ s ks h1 h2 h3 =>
      obtain ⟨ys, cs, e, hl, hr⟩ := lc_map (S1 := S) (ls := [some (W.tup [strW "either", .tup ks]), none]) (vs := [1]) (j := 1) (te := dCall (f__law_kinds n) [dVar 1]) (st := stayOf (.tup ks) ks) (ws := ks) (R := fun w y => ∀ s', Kd n s' w → y = .int s') (fun _ _ => trivial) (by omega) (fun w S2 hw => by
        obtain ⟨s', hk⟩ := h1.mem w hw
        obtain ⟨c1, e1⟩ := ih hk S2
        refine ⟨.int s', c1, ?_, fun s2 hk2 => ?_⟩
        · simp [wipeW, e1]
        · obtain ⟨c2, e2⟩ := ih hk2 S2
          rw [e1] at e2
          injection e2)
      obtain ⟨ns, n1, n2⟩ := sum_ints h1 hl hr
      have hs : gSum [.loc S.length] (S ++ Cell.lst ys :: cs) = .ok (.int s) (S ++ Cell.lst ys :: cs) := by rw [sum_loc get_mid n1, n2]
      refine ⟨Cell.lst ys :: cs, ?_⟩
      simp +decide [f__law_kinds, d__law_kinds, ixt0, ixt1, ixt2, seqW, e, hs]
end G
set_option maxHeartbeats 4000000
namespace G
open PySem L2 Fs
/-! ### names -/
abbrev sgn : Str := Str.ofString "abcdexyzABZ0189 !\"#$&'()*+,-./:;<=>?\x40[\\]^_{|}~"
theorem sgn_len : sgn.length = 46 := by decide +kernel
theorem sgn_ok : PyData.strOk sgn = true := by decide +kernel
theorem len_sgn {S : Store} : gLen [.str sgn] S = .ok (.int 46) S := by
  show (if sgn.length ≤ sizeLine then Res.ok (W.int sgn.length) S else .bad) = _
  rw [sgn_len, if_pos (by decide)]
  rfl
def fixW : List W := [strW "none", strW "pair", strW "case", strW "some", strW "true", strW "0"]
theorem in_strs (x : Str) : ∀ ns : List Str, inFl (.str x) (ns.map .str) = decide (x ∈ ns)
  | [] => rfl
  | n :: r => by
    show (eqFl (.str n) (.str x) || inFl (.str x) (r.map .str)) = _
    rw [in_strs x r]
    show ((n == x) || _) = _
    by_cases h : n = x
    · subst h; simp
    · have h' : ¬ x = n := fun e => h e.symm
      have : (n == x) = false := by simpa using h
      rw [this]
      simp [h']
theorem allFlat_strs : ∀ ns : List Str, allFlat (ns.map .str) = true
  | [] => rfl
  | n :: r => by
    show (flatW (.str n) && allFlat (r.map .str)) = true
    rw [allFlat_strs r]
    rfl
theorem notIn_strs {S : Store} {p : Nat} {x : Str} {ns : List Str} (h : S[p]? = some (.lst (ns.map .str))) : gNotIn (.str x) (.loc p) S = .ok (.bl (!decide (x ∈ ns))) S := by
  show (match seqW S (.loc p) with | some ws => (if flatW (.str x) = true ∧ allFlat ws = true then Res.ok (W.bl (true != inFl (.str x) ws)) S else _) | none => _) = _
  rw [show seqW S (.loc p) = lstW S (.loc p) from rfl, lst_loc h]
  dsimp only
  rw [if_pos ⟨rfl, allFlat_strs ns⟩, in_strs, true_bne]
theorem in_strsT {S : Store} {x : Str} {ns : List Str} : gIn (.str x) (.tup (ns.map .str)) S = .ok (.bl (decide (x ∈ ns))) S := by
  show (if flatW (.str x) = true ∧ allFlat (ns.map .str) = true then Res.ok (W.bl (false != inFl (.str x) (ns.map .str))) S else _) = _
  rw [if_pos ⟨rfl, allFlat_strs ns⟩, in_strs, false_bne]
/-- one sign -/
theorem sign_ok {S : Store} {k : Int} (h0 : 0 ≤ k) (h1 : k < 46) : ∃ x, gIx (.str sgn) (.int k) S = .ok (.str x) S ∧ SOK 1 x :=
  ix_s (by rw [sgn_len]; decide) h0 (by rw [sgn_len]; omega) sgn_ok
def NmI (t s q p : Nat) (S0 : Store) (stem : Str) (i : Nat) (ls : Lo) (S : Store) : Prop := ∃ x5 x6 ns, ls = [some (.loc t), some (.str sgn), some (.loc q), some (.str stem), some (.loc p), x5, x6] ∧ Tp S t s ∧ Fr t S0 S ∧ S[q]? = some (.lst fixW) ∧
  S[p]? = some (.lst (ns.map .str)) ∧ ns.length ≤ i ∧ (0 < i → ns ≠ []) ∧ ns.Nodup ∧ ∀ x ∈ ns, SOK 6 x
def NmP (t s : Nat) (S : Store) (r : Res W) : Prop := ∃ ns S', r = .ok (.tup (ns.map .str)) S' ∧ Tp S' t s ∧ Fr t S S' ∧ ns ≠ [] ∧ ns.length ≤ 4 ∧ ns.Nodup ∧ ∀ x ∈ ns, SOK 6 x
theorem fix_str {w : W} (h : w ∈ fixW) : ∃ x, w = .str x ∧ SOK 4 x := by
  unfold fixW at h
  simp only [List.mem_cons, List.mem_nil_iff, or_false] at h
  rcases h with rfl | rfl | rfl | rfl | rfl | rfl <;> exact ⟨_, rfl, by decide +kernel, by decide +kernel⟩
/-- a turn of the loop -/
theorem name_turn {t s q p : Nat} {S0 S : Store} {stem : Str} {i : Nat} {ls : Lo} {w : W} (hstem : SOK 4 stem) (hp : S0.length ≤ p) (hpt : p ≠ t) (hps : p ≠ s) (hpq : q ≠ p) (hqt : q ≠ t) (hi : i < 1000) (h : NmI t s q p S0 stem i ls S) :
    ∃ ls0 ls1 S1, dgName 5 w ls = some ls0 ∧ (dSeq (dSet 6 (dOp gAdd (dVar 3) (dOp gIx (dVar 1) (dCall f__law_draw [(dVar 0), (dCall gLen [(dVar 1)])]))))
    (dSeq (dIf (dTB (dOp gEq (dCall f__law_draw [(dVar 0), (dC (.int 3))]) (dC (.int 0)))) (dSet 6 (dOp gAdd (dVar 6) (dOp gIx (dVar 1) (dCall f__law_draw [(dVar 0), (dCall gLen [(dVar 1)])])))) dNx)
    (dSeq (dIf (dTB (dOp gEq (dCall f__law_draw [(dVar 0), (dC (.int 8))]) (dC (.int 0)))) (dSet 6 (dOp gIx (dVar 2) (dCall f__law_draw [(dVar 0), (dC (.int 6))]))) dNx)
    (dIf (dTB (dOp gNotIn (dVar 6) (dVar 4))) (dExpr (dAppend (dVar 4) (dVar 6))) dNx)))) ls0 S = .nx ls1 S1 ∧ NmI t s q p S0 stem (i + 1) ls1 S1 := by
  obtain ⟨x5, x6, ns, rfl, hT, hF, hq, hN, hlen, hne, hnd, hall⟩ := h
  obtain ⟨k1, S1, e1, T1, F1, l1, u1⟩ := draw_n 46 hT
  obtain ⟨y1, d1, o1⟩ := sign_ok (S := S1) l1 u1
  obtain ⟨k2, S2, e2, T2, F2, l2, u2⟩ := draw_n 3 T1
  have ad1 : ∀ S, gAdd (.str stem) (.str y1) S = .ok (.str (stem ++ y1)) S := fun S => add_ss (by have := hstem.2; have := o1.2; omega)
  have o2 := hstem.add o1
  -- the second sign
  have st2 : ∃ (nm : Str) (S3 : Store), (dIf (dTB (dOp gEq (dCall f__law_draw [(dVar 0), (dC (.int 3))]) (dC (.int 0)))) (dSet 6 (dOp gAdd (dVar 6) (dOp gIx (dVar 1) (dCall f__law_draw [(dVar 0), (dCall gLen [(dVar 1)])])))) dNx)
      [some (.loc t), some (.str sgn), some (.loc q), some (.str stem), some (.loc p), some w, some (.str (stem ++ y1))] S1 = .nx [some (.loc t), some (.str sgn), some (.loc q), some (.str stem), some (.loc p), some w, some (.str nm)] S3 ∧ SOK 6 nm ∧ Tp S3 t s ∧ Fr t S1 S3 := by
    by_cases hk : k2 = 0
    · obtain ⟨k3, S3, e3, T3, F3, l3, u3⟩ := draw_n 46 T2
      obtain ⟨y3, d3, o3⟩ := sign_ok (S := S3) l3 u3
      refine ⟨stem ++ y1 ++ y3, S3, ?_, (o2.add o3).mono (by decide), T3, F2.trans F3⟩
      have ad3 : gAdd (.str (stem ++ y1)) (.str y3) S3 = .ok (.str (stem ++ y1 ++ y3)) S3 := add_ss (by have := o2.2; have := o3.2; omega)
      simp [e2, hk, len_sgn, e3, d3, ad3]
    · exact ⟨stem ++ y1, S2, by simp [e2, hk], o2.mono (by decide), T2, F2⟩
  obtain ⟨nm, S3, x3, o3, T3, F3⟩ := st2
  obtain ⟨k4, S4, e4, T4, F4, l4, u4⟩ := draw_n 8 T3
  have fq : ∀ {S'}, Fr t S1 S' → S'[q]? = some (.lst fixW) := fun f => f.get hqt (F1.get hqt hq)
  have st3 : ∃ (nm' : Str) (S5 : Store), (dIf (dTB (dOp gEq (dCall f__law_draw [(dVar 0), (dC (.int 8))]) (dC (.int 0)))) (dSet 6 (dOp gIx (dVar 2) (dCall f__law_draw [(dVar 0), (dC (.int 6))]))) dNx)
      [some (.loc t), some (.str sgn), some (.loc q), some (.str stem), some (.loc p), some w, some (.str nm)] S3 = .nx [some (.loc t), some (.str sgn), some (.loc q), some (.str stem), some (.loc p), some w, some (.str nm')] S5 ∧ SOK 6 nm' ∧ Tp S5 t s ∧ Fr t S1 S5 := by
    by_cases hk : k4 = 0
    · obtain ⟨k5, S5, e5, T5, F5, l5, u5⟩ := draw_n 6 T4
      obtain ⟨y5, d5, o5⟩ := ix_lit (k := k5) (fq ((F3.trans F4).trans F5)) l5 (by exact u5)
      obtain ⟨y, rfl, o6⟩ := fix_str o5
      exact ⟨y, S5, by simp [e4, hk, e5, d5], o6.mono (by decide), T5, (F3.trans F4).trans F5⟩
    · exact ⟨nm, S4, by simp [e4, hk], o3, T4, F3.trans F4⟩
  obtain ⟨nm', S5, x5', o5, T5, F5⟩ := st3
  have G5 := F1.trans F5
  have hN5 : S5[p]? = some (.lst (ns.map .str)) := G5.get hpt hN
  have hq5 := fq F5
  have x1 : (dSet 6 (dOp gAdd (dVar 3) (dOp gIx (dVar 1) (dCall f__law_draw [(dVar 0), (dCall gLen [(dVar 1)])])))) [some (.loc t), some (.str sgn), some (.loc q), some (.str stem), some (.loc p), some w, x6] S = .nx [some (.loc t), some (.str sgn), some (.loc q), some (.str stem), some (.loc p), some w, some (.str (stem ++ y1))] S1 := by
    simp [len_sgn, e1, d1, ad1]
  by_cases hm : nm' ∈ ns
  · refine ⟨_, [some (.loc t), some (.str sgn), some (.loc q), some (.str stem), some (.loc p), some w, some (.str nm')], S5, rfl, ?_, ⟨_, _, ns, rfl, T5, hF.trans G5, hq5, hN5, by omega, ⟨fun _ z => (by subst z; cases hm), hnd, hall⟩⟩⟩
    rw [set5_ev, sq_ev, x1, sqK_nx, sq_ev, x3, sqK_nx, sq_ev, x5', sqK_nx]
    simp [notIn_strs hN5, hm]
  · refine ⟨_, [some (.loc t), some (.str sgn), some (.loc q), some (.str stem), some (.loc p), some w, some (.str nm')], S5.set p (.lst ((ns ++ [nm']).map .str)), rfl, ?_, ⟨_, _, ns ++ [nm'], rfl, T5.other hpt hps, (hF.trans G5).put hp, ?_, get_set hN5, ?_, ⟨fun _ z => (by simp at z), ?_, ?_⟩⟩⟩
    · rw [set5_ev, sq_ev, x1, sqK_nx, sq_ev, x3, sqK_nx, sq_ev, x5', sqK_nx]
      simp [notIn_strs hN5, hm, apK_ok (lst_loc hN5), append_loc hN5 (show (ns.map W.str).length < 100000 by rw [List.length_map]; omega)]
    · rw [List.getElem?_set_ne (Ne.symm hpq)]
      exact hq5
    · rw [List.length_append, List.length_singleton]
      omega
    · rw [List.nodup_append]
      refine ⟨hnd, by simp, fun a ha b hb => ?_⟩
      have : b = nm' := by simpa using hb
      subst this
      exact fun e => hm (by rw [← e]; exact ha)
    · intro x hx
      rcases List.mem_append.mp hx with hx | hx
      · exact hall x hx
      · have : x = nm' := by simpa using hx
        subst this
        exact o5
def stemW : List W := [strW "", strW "", strW "", strW "case", strW "a ,"]
theorem stem_str {w : W} (h : w ∈ stemW) : ∃ x, w = .str x ∧ SOK 4 x := by
  unfold stemW at h
  simp only [List.mem_cons, List.mem_nil_iff, or_false] at h
  rcases h with rfl | rfl | rfl | rfl | rfl <;> exact ⟨_, rfl, by decide +kernel, by decide +kernel⟩
theorem names_ok {S : Store} {t s : Nat} (h : Tp S t s) : NmP t s S (f__law_names [.loc t] S) := by
  obtain ⟨ht, hs⟩ := h.lt
  have hA : Tp (S ++ [.lst fixW] ++ [.lst stemW]) t s := h.app.app
  obtain ⟨k1, S1, e1, T1, F1, l1, u1⟩ := draw_n 5 hA
  have FA : Fr t S S1 := (fr_app.trans fr_app).trans F1
  have q1 : S1[S.length]? = some (.lst fixW) := F1.get (by omega) (by
    rw [List.getElem?_append_left (by simp)]
    exact get_mid (cs := []))
  have q2 : S1[S.length + 1]? = some (.lst stemW) := F1.get (by omega) (by
    have := get_mid (S := S ++ [Cell.lst fixW]) (c := .lst stemW) (cs := [])
    simpa using this)
  obtain ⟨w1, d1, m1⟩ := ix_lit (k := k1) q2 l1 (by exact u1)
  obtain ⟨stem, rfl, hst⟩ := stem_str m1
  -- names = [], the range
  have hB : Tp (S1 ++ [.lst []] ++ [.lst [.int 1, .int 2, .int 2, .int 3, .int 3, .int 4]]) t s := T1.app.app
  obtain ⟨k2, S2, e2, T2, F2, l2, u2⟩ := draw_n 6 hB
  have q3 : S2[S1.length + 1]? = some (.lst [.int 1, .int 2, .int 2, .int 3, .int 3, .int 4]) := F2.get (by have := F1.1; have := T1.lt; omega) (by
    have := get_mid (S := S1 ++ [Cell.lst []]) (c := .lst [.int 1, .int 2, .int 2, .int 3, .int 3, .int 4]) (cs := [])
    simpa using this)
  obtain ⟨w2, d2, m2⟩ := ix_lit (k := k2) q3 l2 (by exact u2)
  have hn : ∃ n : Int, w2 = .int n ∧ 1 ≤ n ∧ n ≤ 4 := by
    simp only [List.mem_cons, List.mem_nil_iff, or_false] at m2
    rcases m2 with rfl | rfl | rfl | rfl | rfl | rfl <;> exact ⟨_, rfl, by decide, by decide⟩
  obtain ⟨n, rfl, n1, n4⟩ := hn
  have qN : S2[S1.length]? = some (.lst []) := F2.get (by have := T1.lt; omega) (by
    rw [List.getElem?_append_left (by simp)]
    exact get_mid (cs := []))
  have qF : S2[S.length]? = some (.lst fixW) := F2.get (by omega) ((fr_app.trans fr_app).get (t := t) (by omega) q1)
  have sl : S.length < S1.length := lt_of q1
  have FB : Fr t S S2 := FA.trans ((fr_app.trans fr_app).trans F2)
  have loop := loop_inv (st := fun _ => True) (gg := dgName 5) (NmI t s S.length S1.length S stem) (fun _ _ _ _ => trivial) (rngW 0 n.toNat) 0
    (fun i w ls S' ew hI => by
      have hi : i < 4 := by
        have := (List.getElem?_eq_some_iff.mp ew).1
        rw [rngW_len] at this
        omega
      rw [Nat.zero_add] at hI ⊢
      obtain ⟨ls0, ls1, S1', a1, a2, a3⟩ := name_turn (w := w) hst (by omega) (by have := T1.lt; omega) (by have := T1.lt; omega) (by omega) (by omega) (by omega) hI
      exact ⟨ls0, ls1, S1', a1, .inl a2, a3⟩)
    [some (.loc t), some (.str sgn), some (.loc S.length), some (.str stem), some (.loc S1.length), none, none] S2
    ⟨none, none, [], rfl, T2, FB, qF, qN, Nat.le_refl _, fun z => (by cases z), List.nodup_nil, fun x hx => (by cases hx)⟩
  obtain ⟨ls3, S3, e3, x5, x6, ns, rfl, T3, F3, _, hN, hlen, hne, hnd, hall⟩ := loop
  rw [Nat.zero_add, rngW_len] at hlen hne
  refine ⟨ns, S3, ?_, T3, F3, hne (by omega), by omega, hnd, hall⟩
  have e1' : f__law_draw [.loc t, .int 5] (S ++ [Cell.lst [strW "none", strW "pair", strW "case", strW "some", strW "true", strW "0"], Cell.lst [strW "", strW "", strW "", strW "case", strW "a ,"]]) = .ok (.int k1) S1 := by
    rw [show S ++ [Cell.lst [strW "none", strW "pair", strW "case", strW "some", strW "true", strW "0"], Cell.lst [strW "", strW "", strW "", strW "case", strW "a ,"]] = S ++ [.lst fixW] ++ [.lst stemW] by rw [List.append_assoc]; rfl]
    exact e1
  have e2' : f__law_draw [.loc t, .int 6] (S1 ++ [Cell.lst [], .lst [.int 1, .int 2, .int 2, .int 3, .int 3, .int 4]]) = .ok (.int k2) S2 := by
    rw [show S1 ++ [Cell.lst [], .lst [.int 1, .int 2, .int 2, .int 3, .int 3, .int 4]] = S1 ++ [.lst []] ++ [.lst [.int 1, .int 2, .int 2, .int 3, .int 3, .int 4]] by rw [List.append_assoc]; rfl]
    exact e2
  have r1 : r1K (.ok (.int n) S2) = .ok ⟨rngW 0 n.toNat, fun _ => True⟩ S2 := r1K_ok ⟨by omega, by omega⟩
  have b6 : ∀ a b c d e f : W, [a, b, c, d, e, f].length ≤ 100 := fun _ _ _ _ _ _ => by simp
  have b5 : ∀ a b c d e : W, [a, b, c, d, e].length ≤ 100 := fun _ _ _ _ _ => by simp
  have b0 : ([] : List W).length ≤ 100 := by decide
  have L1 : (S ++ [Cell.lst [strW "none", strW "pair", strW "case", strW "some", strW "true", strW "0"]]).length = S.length + 1 := by rw [List.length_append]; rfl
  have L2 : (S1 ++ [Cell.lst []]).length = S1.length + 1 := by rw [List.length_append]; rfl
  have A1 : ∀ (S : Store) (a b : Cell), S ++ [a] ++ [b] = S ++ [a, b] := fun S a b => by rw [List.append_assoc]; rfl
  simp only [f__law_names, mk1_ev, d__law_names, sq_ev, set_ev, c_ev, setK_ok, sqK_nx, lst_ev, args_ev, argK_ok, args_nil, argK2_ok, lstK_ok (b6 _ _ _ _ _ _), lstK_ok (b5 _ _ _ _ _), lstK_ok b0, List.replicate, set1_ev, set2_ev, set3_ev, set4_ev, op_ev, opK_ok, call_ev, var0_ev, var1_ev, var2_ev, var4_ev, callK_ok, A1, e1', L1, opK2_ok, d1, for_ev, r1_ev, e2', L2, d2, r1, forK_ok, e3, rt_ev, tuple_loc hN, rtK_ok, mkK_rt]
end G
set_option maxHeartbeats 4000000
namespace G
open PySem L2 Fs
/-! ### integers -/
def InP (t s : Nat) (S : Store) (r : Res W) : Prop := ∃ i S', r = .ok (.int i) S' ∧ Tp S' t s ∧ Fr t S S'
theorem pow9 {S : Store} : gPow (.int 10) (.int 9) S = .ok (.int 1000000000) S := by
  show (if (0 : Int) ≤ 9 ∧ (9 : Int) ≤ 1000000 ∧ (10 : Int).natAbs < 2 ^ 64 then Res.ok (W.int (10 ^ (9 : Int).toNat)) S else .bad) = _
  rw [if_pos (by decide)]
  rfl
theorem pow30 {S : Store} : gPow (.int 10) (.int 30) S = .ok (.int 1000000000000000000000000000000) S := by
  show (if (0 : Int) ≤ 30 ∧ (30 : Int) ≤ 1000000 ∧ (10 : Int).natAbs < 2 ^ 64 then Res.ok (W.int (10 ^ (30 : Int).toNat)) S else .bad) = _
  rw [if_pos (by decide)]
  rfl
theorem pow21 {S : Store} : gPow (.int 10) (.int 21) S = .ok (.int 1000000000000000000000) S := by
  show (if (0 : Int) ≤ 21 ∧ (21 : Int) ≤ 1000000 ∧ (10 : Int).natAbs < 2 ^ 64 then Res.ok (W.int (10 ^ (21 : Int).toNat)) S else .bad) = _
  rw [if_pos (by decide)]
  rfl
theorem integer_ok {S : Store} {t s : Nat} {m : Int} (h : Tp S t s) (h0 : 0 ≤ m) (h1 : m ≤ 1000) : InP t s S (f__law_integer [.loc t, .int m] S) := by
  obtain ⟨k1, S1, e1, T1, F1, l1, u1⟩ := draw_n 5 h
  let L : List W := [.int 2, .int (m + 1), .int (m + 14), .int 1000000000, .int 999999999999999999999999999901]
  have T1' : Tp (S1 ++ [.lst L]) t s := T1.app
  obtain ⟨w, d1, m1⟩ := ix_lit (S := S1 ++ [.lst L]) (p := S1.length) (ws := L) (k := k1) (get_mid (cs := [])) l1 (by exact u1)
  have hw : ∃ j : Int, w = .int j ∧ 1 ≤ j ∧ j ≤ 10000000000000000000000000000000000000000 := by
    simp only [L, List.mem_cons, List.mem_nil_iff, or_false] at m1
    rcases m1 with rfl | rfl | rfl | rfl | rfl <;> exact ⟨_, rfl, by omega, by omega⟩
  obtain ⟨j, rfl, j1, j2⟩ := hw
  obtain ⟨k2, S2, e2, T2, F2, l2, u2⟩ := draw_n j T1'
  have b5 : L.length ≤ 100 := by simp [L]
  have F02 : Fr t S S2 := (F1.trans fr_app).trans F2
  -- the number
  have st2 : ∃ (i : Int) (S3 : Store), (dIf (dTB (dOp gEq (dVar 2) (dC (.int 3)))) (dSet 3 (dOp gAdd (dOp gMul (dVar 3) (dOp gPow (dC (.int 10)) (dC (.int 21)))) (dCall f__law_draw [(dVar 0), (dOp gPow (dC (.int 10)) (dC (.int 9)))]))) dNx)
      [some (.loc t), some (.int m), some (.int k1), some (.int k2)] S2 = .nx [some (.loc t), some (.int m), some (.int k1), some (.int i)] S3 ∧ Tp S3 t s ∧ Fr t S2 S3 := by
    by_cases hk : k1 = 3
    · obtain ⟨k3, S3, e3, T3, F3, l3, u3⟩ := draw_n 1000000000 T2
      have hj : j = 1000000000 := by
        subst hk
        rw [ixl (get_mid (cs := [])) at3_ev] at d1
        injection d1 with d1
        injection d1 with d1
        exact d1.symm
      refine ⟨k2 * 1000000000000000000000 + k3, S3, ?_, T3, F3⟩
      simp [hk, pow21, pow9, e3, mul_ii' (show -(2 ^ 64) < k2 ∧ k2 < 2 ^ 64 by constructor <;> omega)]
    · exact ⟨k2, S2, by simp [hk], T2, Fr.refl _ _⟩
  obtain ⟨i, S3, x2, T3, F3⟩ := st2
  let M : List W := [.int i, .int (-i)]
  have T3' : Tp (S3 ++ [.lst M]) t s := T3.app
  obtain ⟨k4, S4, e4, T4, F4, l4, u4⟩ := draw_n 2 T3'
  have q4 : S4[S3.length]? = some (.lst M) := F4.get (by have := T3.lt; omega) (get_mid (cs := []))
  obtain ⟨w4, d4, m4⟩ := ix_lit (k := k4) q4 l4 (by exact u4)
  have hw4 : ∃ j : Int, w4 = .int j := by
    simp only [M, List.mem_cons, List.mem_nil_iff, or_false] at m4
    rcases m4 with rfl | rfl <;> exact ⟨_, rfl⟩
  obtain ⟨j4, rfl⟩ := hw4
  have b2 : ∀ a b : W, [a, b].length ≤ 100 := fun _ _ => by simp
  refine ⟨j4, S4, ?_, T4, F02.trans ((F3.trans fr_app).trans F4)⟩
  have c99 : (1000000000000000000000000000000 - 99 : Int) = 999999999999999999999999999901 := by decide
  simp only [L] at b5 d1 e2
  simp only [M] at e4 d4
  simp only [f__law_integer, mk2_ev, d__law_integer, sq_ev, set_ev, call_ev, args_ev, argK_ok, args_nil, argK2_ok, callK_ok, List.replicate, var0_ev, var1_ev, c_ev, e1, setK_ok, set2_ev, sqK_nx, op_ev, opK_ok, opK2_ok, lst_ev, add_ii, pow9, pow30, sub_ii, c99, lstK_ok b5, var2_ev, d1, e2, set3_ev, x2, rt_ev, var3_ev, un_ev, unK_ok, neg_i, lstK_ok (b2 _ _), e4, d4, rtK_ok, mkK_rt]
end G
set_option maxHeartbeats 4000000
namespace G
open PySem L2 Fs
/-! ### data: no lists, texts that are texts, at most n deep -/
inductive OkW : Nat → W → Prop
  | non {n : Nat} : OkW n .non
  | bl {n : Nat} (b : Bool) : OkW n (.bl b)
  | int {n : Nat} (i : Int) : OkW n (.int i)
  | str {n : Nat} {x : Str} : PyData.strOk x = true → OkW n (.str x)
  | tup {n : Nat} {ws : List W} : (∀ w ∈ ws, OkW n w) → OkW (n + 1) (.tup ws)
theorem OkW.mono : ∀ {n m : Nat} {w : W}, OkW n w → n ≤ m → OkW m w := by
  intro n
  induction n with
  | zero =>
    intro m w h _
    cases h with
    | non => exact .non
    | bl b => exact .bl b
    | int i => exact .int i
    | str h => exact .str h
  | succ n ih =>
    intro m w h hm
    cases h with
    | non => exact .non
    | bl b => exact .bl b
    | int i => exact .int i
    | str h => exact .str h
    | tup h =>
      obtain ⟨k, rfl⟩ : ∃ k, m = k + 1 := ⟨m - 1, by omega⟩
      exact .tup fun w hw => ih (h w hw) (by omega)
theorem lay_all (S : Store) {n : Nat} (ih : ∀ w, OkW n w → (toD S w).canLay0 = true ∧ (toD S w).depth ≤ n) : ∀ ws : List W, (∀ w ∈ ws, OkW n w) → PyData.canLayAll0 (toDA S ws) = true ∧ PyData.depthAll (toDA S ws) ≤ n
  | [], _ => by
    unfold toDA PyData.canLayAll0 PyData.depthAll
    exact ⟨rfl, Nat.zero_le _⟩
  | w :: ws, h => by
    obtain ⟨h1, h2⟩ := ih w (h w List.mem_cons_self)
    obtain ⟨h3, h4⟩ := lay_all S ih ws fun w hw => h w (List.mem_cons_of_mem _ hw)
    unfold toDA PyData.canLayAll0 PyData.depthAll
    rw [h1, h3]
    exact ⟨rfl, Nat.max_le.mpr ⟨h2, h4⟩⟩
theorem OkW.lay (S : Store) : ∀ {n : Nat} {w : W}, OkW n w → (toD S w).canLay0 = true ∧ (toD S w).depth ≤ n := by
  intro n
  induction n with
  | zero =>
    intro w h
    cases h with
    | non => unfold toD PyData.canLay0 PyData.depth; exact ⟨rfl, Nat.le_refl _⟩
    | bl b => unfold toD PyData.canLay0 PyData.depth; exact ⟨rfl, Nat.le_refl _⟩
    | int i => unfold toD PyData.canLay0 PyData.depth; exact ⟨rfl, Nat.le_refl _⟩
    | str h => unfold toD PyData.canLay0 PyData.depth; exact ⟨h, Nat.le_refl _⟩
  | succ n ih =>
    intro w h
    cases h with
    | non => unfold toD PyData.canLay0 PyData.depth; exact ⟨rfl, Nat.zero_le _⟩
    | bl b => unfold toD PyData.canLay0 PyData.depth; exact ⟨rfl, Nat.zero_le _⟩
    | int i => unfold toD PyData.canLay0 PyData.depth; exact ⟨rfl, Nat.zero_le _⟩
    | str h => unfold toD PyData.canLay0 PyData.depth; exact ⟨h, Nat.zero_le _⟩
    | tup h =>
      obtain ⟨h1, h2⟩ := lay_all S (fun w hw => ih hw) _ h
      unfold toD PyData.canLay0 PyData.depth
      exact ⟨h1, Nat.succ_le_succ h2⟩
theorem OkW.shaped {S : Store} {n : Nat} {w : W} (h : OkW n w) (hn : n ≤ 64) : SeqAt.shaped (toD S w) = true := by
  obtain ⟨h1, h2⟩ := h.lay S
  unfold SeqAt.shaped
  rw [h1, decide_eq_true (Nat.le_trans h2 hn)]
  rfl
/-- == of data, whatever it is -/
theorem eqB_gen {neg : Bool} {S : Store} {x y : W} (h1 : SeqAt.shaped (toD S x) = true) (h2 : SeqAt.shaped (toD S y) = true) : gEqB neg x y S = .ok (.bl (neg != PyData.eqv (toD S x) (toD S y))) S := by
  unfold gEqB
  split
  · rename_i i j
    rw [show toD S (.int i) = .int i by unfold toD; rfl, show toD S (.int j) = .int j by unfold toD; rfl]
    unfold PyData.eqv
    rw [Bool.beq_eq_decide_eq]
  · rename_i i j
    rw [show toD S (.str i) = .str i by unfold toD; rfl, show toD S (.str j) = .str j by unfold toD; rfl]
    unfold PyData.eqv
    rw [Bool.beq_eq_decide_eq]
  · rename_i i j
    rw [show toD S (.bl i) = .bool i by unfold toD; rfl, show toD S (.bl j) = .bool j by unfold toD; rfl]
    unfold PyData.eqv
    rw [Bool.beq_eq_decide_eq]
  · rw [if_pos ⟨h1, h2⟩]
theorem eq_ok {S : Store} {n m : Nat} {x y : W} (hx : OkW n x) (hy : OkW m y) (hn : n ≤ 64) (hm : m ≤ 64) : gEq x y S = .ok (.bl (PyData.eqv (toD S x) (toD S y))) S := by
  show gEqB false x y S = _
  rw [eqB_gen (hx.shaped hn) (hy.shaped hm), false_bne]
theorem ne_ok {S : Store} {n m : Nat} {x y : W} (hx : OkW n x) (hy : OkW m y) (hn : n ≤ 64) (hm : m ≤ 64) : gNe x y S = .ok (.bl (!PyData.eqv (toD S x) (toD S y))) S := by
  show gEqB true x y S = _
  rw [eqB_gen (hx.shaped hn) (hy.shaped hm), true_bne]
/-- with short tuples -/
inductive Sh : Nat → Nat → W → Prop
  | non {l n : Nat} : Sh l n .non
  | bl {l n : Nat} (b : Bool) : Sh l n (.bl b)
  | int {l n : Nat} (i : Int) : Sh l n (.int i)
  | str {l n : Nat} {x : Str} : PyData.strOk x = true → Sh l n (.str x)
  | tup {l n : Nat} {ws : List W} : ws.length ≤ l → (∀ w ∈ ws, Sh l n w) → Sh l (n + 1) (.tup ws)
theorem Sh.ok : ∀ {n l : Nat} {w : W}, Sh l n w → OkW n w := by
  intro n
  induction n with
  | zero =>
    intro l w h
    cases h with
    | non => exact .non
    | bl b => exact .bl b
    | int i => exact .int i
    | str h => exact .str h
  | succ n ih =>
    intro l w h
    cases h with
    | non => exact .non
    | bl b => exact .bl b
    | int i => exact .int i
    | str h => exact .str h
    | tup h1 h => exact .tup fun w hw => ih (h w hw)
theorem Sh.mono : ∀ {n m l k : Nat} {w : W}, Sh l n w → n ≤ m → l ≤ k → Sh k m w := by
  intro n
  induction n with
  | zero =>
    intro m l k w h _ _
    cases h with
    | non => exact .non
    | bl b => exact .bl b
    | int i => exact .int i
    | str h => exact .str h
  | succ n ih =>
    intro m l k w h hm hk
    cases h with
    | non => exact .non
    | bl b => exact .bl b
    | int i => exact .int i
    | str h => exact .str h
    | tup h1 h =>
      obtain ⟨j, rfl⟩ : ∃ j, m = j + 1 := ⟨m - 1, by omega⟩
      exact .tup (by omega) fun w hw => ih (h w hw) (by omega) hk
/-! ### letters -/
inductive Lt : W → W → Prop
  | name {ns : List Str} {x : Str} : x ∈ ns → Lt (.tup [strW "names", .tup (ns.map .str)]) (.str x)
  | kint (i : Int) : Lt (.tup [strW "integers"]) (.int i)
  | pair {a b x y : W} : Lt a x → Lt b y → Lt (.tup [strW "pair", a, b]) (.tup [strW "pair", x, y])
  | case {ks : List W} {i : Int} {a x : W} : 0 ≤ i → ks[i.toNat]? = some a → Lt a x → Lt (.tup [strW "either", .tup ks]) (.tup [strW "case", .int i, x])
  | none {a : W} : Lt (.tup [strW "maybe", a]) (.tup [strW "none"])
  | some {a x : W} : Lt a x → Lt (.tup [strW "maybe", a]) (.tup [strW "some", x])
theorem strW_ok {l n : Nat} (s : String) (h : PyData.strOk (Str.ofString s) = true := by decide +kernel) : Sh l n (strW s) := .str h
theorem Lt.ok : ∀ {n : Nat} {s : Int} {k w : W}, Kd n s k → Lt k w → Sh 3 n w := by
  intro n
  induction n with
  | zero => intro s k w h; cases h
  | succ n ih =>
    intro s k w h hl
    cases h with
    | names a b c d =>
      generalize hk : W.tup [strW "names", _] = k at hl
      cases hl with
      | name hx =>
        injection hk with hk
        injection hk with _ hk
        injection hk with hk
        injection hk with hk
        have : ∀ {l l' : List Str}, l.map W.str = l'.map W.str → l = l' := fun {l l'} e => List.map_inj_right (fun _ _ e => W.str.inj e) |>.mp e
        have e := this hk
        subst e
        exact .str (d _ hx).1
      | kint => cases hk
      | pair => exact absurd hk (by simp)
      | case => exact absurd hk (by simp +decide)
      | none => exact absurd hk (by simp +decide)
      | some => exact absurd hk (by simp +decide)
    | kint => cases hl with
      | kint i => exact .int i
    | pair h1 h2 =>
      generalize hk : W.tup [strW "pair", _, _] = k at hl
      cases hl with
      | pair a b =>
        cases hk
        refine .tup (by simp) fun w hw => ?_
        simp only [List.mem_cons, List.mem_nil_iff, or_false] at hw
        rcases hw with rfl | rfl | rfl
        · exact strW_ok "pair"
        · exact ih h1 a
        · exact ih h2 b
      | name => exact absurd hk (by simp)
      | kint => cases hk
      | case => exact absurd hk (by simp +decide)
      | none => exact absurd hk (by simp +decide)
      | some => exact absurd hk (by simp +decide)
    | either h1 h2 h3 =>
      generalize hk : W.tup [strW "either", _] = k at hl
      cases hl with
      | case h0 hi hx =>
        cases hk
        obtain ⟨s', hs⟩ := h1.mem _ (List.mem_of_getElem? hi)
        refine .tup (by simp) fun w hw => ?_
        simp only [List.mem_cons, List.mem_nil_iff, or_false] at hw
        rcases hw with rfl | rfl | rfl
        · exact strW_ok "case"
        · exact .int _
        · exact ih hs hx
      | name => exact absurd hk (by simp +decide)
      | kint => cases hk
      | pair => exact absurd hk (by simp)
      | none => exact absurd hk (by simp +decide)
      | some => exact absurd hk (by simp +decide)
    | maybe h1 =>
      generalize hk : W.tup [strW "maybe", _] = k at hl
      cases hl with
      | none =>
        refine .tup (by simp) fun w hw => ?_
        simp only [List.mem_cons, List.mem_nil_iff, or_false] at hw
        subst hw
        exact strW_ok "none"
      | some hx =>
        cases hk
        refine .tup (by simp) fun w hw => ?_
        simp only [List.mem_cons, List.mem_nil_iff, or_false] at hw
        rcases hw with rfl | rfl
        · exact strW_ok "some"
        · exact ih h1 hx
      | name => exact absurd hk (by simp +decide)
      | kint => cases hk
      | pair => exact absurd hk (by simp)
      | case => exact absurd hk (by simp +decide)
/-! ### drawn letters -/
def LtP (t s : Nat) (S : Store) (k : W) (r : Res W) : Prop := ∃ w S', r = .ok w S' ∧ Tp S' t s ∧ Fr t S S' ∧ Lt k w
theorem letter_ok {t s : Nat} {q : W} {m : Int} (m0 : 0 ≤ m) (m1 : m ≤ 1000) : ∀ {n : Nat} {z : Int} {k : W}, Kd n z k → ∀ {S : Store}, Tp S t s → LtP t s S k (f__law_letter n [.loc t, k, .tup [.int m, q]] S) := by
  intro n
  induction n with
  | zero => intro z k h; cases h
  | succ n ih =>
    intro z k h S hT
    have b1 : ∀ a : W, [a].length ≤ 100 := fun _ => by simp
    have b2 : ∀ a b : W, [a, b].length ≤ 100 := fun _ _ => by simp
    have b3 : ∀ a b c : W, [a, b, c].length ≤ 100 := fun _ _ _ => by simp
    cases h with
    | @names _ ns a b c d =>
      have hl : 1 ≤ (ns.length : Int) := by
        cases ns with
        | nil => exact absurd rfl a
        | cons x r => rw [List.length_cons]; omega
      obtain ⟨k1, S1, e1, T1, F1, l1, u1⟩ := draw_n (ns.length : Int) hT
      obtain ⟨w, d1, mm⟩ := atNat (xs := ns.map W.str) l1 (by simpa using u1)
      obtain ⟨x, hx, rfl⟩ := List.mem_map.mp mm
      exact ⟨.str x, S1, by simp +decide [f__law_letter, d__law_letter, ixt0, ixt1, e1, ix_t d1], T1, F1, .name hx⟩
    | kint =>
      obtain ⟨i, S1, e1, T1, F1⟩ := integer_ok hT m0 m1
      exact ⟨.int i, S1, by simp +decide [f__law_letter, d__law_letter, ixt0, ixt1, e1], T1, F1, .kint i⟩
    | pair h1 h2 =>
      obtain ⟨x, S1, e1, T1, F1, r1⟩ := ih h1 hT
      obtain ⟨y, S2, e2, T2, F2, r2⟩ := ih h2 T1
      exact ⟨_, S2, by simp +decide [f__law_letter, d__law_letter, ixt0, ixt1, ixt2, e1, e2, tupK_ok (b3 _ _ _)], T2, F1.trans F2, .pair r1 r2⟩
    | @either _ _ ks h1 h2 h3 =>
      have hl : 1 ≤ (ks.length : Int) := by
        cases ks with
        | nil => exact absurd rfl h2
        | cons x r => rw [List.length_cons]; omega
      obtain ⟨k1, S1, e1, T1, F1, l1, u1⟩ := draw_n (ks.length : Int) hT
      obtain ⟨a, d1, mm⟩ := atNat (xs := ks) l1 u1
      obtain ⟨z', hz⟩ := h1.mem a mm
      obtain ⟨x, S2, e2, T2, F2, r2⟩ := ih hz T1
      have hg : ks[k1.toNat]? = some a := by
        unfold L2.atI ixN at d1
        rw [if_pos l1, if_pos u1] at d1
        exact d1
      exact ⟨_, S2, by simp +decide [f__law_letter, d__law_letter, ixt0, ixt1, ixt2, e1, ix_t d1, e2, tupK_ok (b3 _ _ _)], T2, F1.trans F2, .case l1 hg r2⟩
    | maybe h1 =>
      obtain ⟨k1, S1, e1, T1, F1, l1, u1⟩ := draw_n 3 hT
      by_cases hk : k1 = 0
      · exact ⟨_, S1, by simp +decide [f__law_letter, d__law_letter, ixt0, ixt1, e1, hk, tupK_ok (b1 _)], T1, F1, .none⟩
      · obtain ⟨x, S2, e2, T2, F2, r2⟩ := ih h1 T1
        exact ⟨_, S2, by simp +decide [f__law_letter, d__law_letter, ixt0, ixt1, e1, hk, e2, tupK_ok (b2 _ _)], T2, F1.trans F2, .some r2⟩
end G
set_option maxHeartbeats 4000000
namespace G
open PySem L2 Fs
/-! ### drawn kinds -/
def KdP (t s : Nat) (S : Store) (d : Nat) (m : Int) (r : Res W) : Prop := ∃ k z S', r = .ok k S' ∧ Tp S' t s ∧ Fr t S S' ∧ Kd d z k ∧ z ≤ m
theorem leaf_ok {n : Nat} {t s : Nat} {S : Store} {d : Nat} {m c : Int} {S1 : Store} (hm : 1 ≤ m) (e1 : f__law_draw [.loc t, .int 8] S = .ok (.int c) S1) (T1 : Tp S1 t s) (F1 : Fr t S S1) {D : Int} (hc : D = 1 ∨ m = 1 ∨ c < 2) :
    KdP t s S (d + 1) m (f__law_kind (n + 1) [.loc t, .int D, .int m] S) := by
  have b1 : ∀ a : W, [a].length ≤ 100 := fun _ => by simp
  have b2 : ∀ a b : W, [a, b].length ≤ 100 := fun _ _ => by simp
  obtain ⟨k2, S2, e2, T2, F2, l2, u2⟩ := draw_n 3 T1
  have ht : ∀ ls3 : Lo, (dOrT (dTB (dOp gEq (dVar 1) (dC (.int 1)))) (dOrT (dTB (dOp gEq (dVar 2) (dC (.int 1)))) (dTB (dOp gLt (dVar 3) (dC (.int 2)))))) (some (.loc t) :: some (.int D) :: some (.int m) :: some (.int c) :: ls3) S1 = .ok true S1 := fun ls3 => by
    by_cases h1 : D = 1
    · simp [h1]
    · by_cases h2 : m = 1
      · simp [h1, h2]
      · have h3 : c < 2 := by
          rcases hc with h | h | h
          · exact absurd h h1
          · exact absurd h h2
          · exact h
        simp [h1, h2, h3]
  by_cases hk : k2 = 0
  · obtain ⟨ns, S3, e3, T3, F3, n1, n2, n3, n4⟩ := names_ok T2
    refine ⟨_, 1, S3, ?_, T3, (F1.trans F2).trans F3, .names n1 n2 n3 n4, hm⟩
    simp only [f__law_kind, mk3_ev, d__law_kind, sq_ev, set_ev, call_ev, args_ev, argK_ok, args_nil, argK2_ok, callK_ok, List.replicate, var0_ev, c_ev, e1, setK_ok, set3_ev, sqK_nx, if_ev, ht, ifK_t, tb_ev, op_ev, opK_ok, opK2_ok, e2, eq_ii, hk, tbK_ok, decide_true, rt_ev, tup_ev, e3, tupK_ok (b2 _ _), rtK_ok, sqK_rt, mkK_rt]
  · refine ⟨_, 1, S2, ?_, T2, F1.trans F2, .kint, hm⟩
    simp only [f__law_kind, mk3_ev, d__law_kind, sq_ev, set_ev, call_ev, args_ev, argK_ok, args_nil, argK2_ok, callK_ok, List.replicate, var0_ev, c_ev, e1, setK_ok, set3_ev, sqK_nx, if_ev, ht, ifK_t, tb_ev, op_ev, opK_ok, opK2_ok, e2, eq_ii, hk, tbK_ok, decide_false, ifK_f, nx_ev, rt_ev, tup_ev, tupK_ok (b1 _), rtK_ok, sqK_rt, mkK_rt]
def KlI (t s : Nat) (p : Nat) (S0 : Store) (d : Nat) (D m c parts : Int) (i : Nat) (ls : Lo) (S : Store) : Prop := ∃ x4 x8 x9 left ks z, ls = [some (.loc t), some (.int D), some (.int m), some (.int c), x4, some (.int left), some (.int parts), some (.loc p), x8, x9] ∧
  Tp S t s ∧ Fr t S0 S ∧ S[p]? = some (.lst ks) ∧ ks.length = i ∧ KdA d z ks ∧ z + left = m - 1 ∧ parts - i ≤ left
theorem kl_turn {n t s p : Nat} {S0 S : Store} {d : Nat} {D m c parts : Int} {i : Nat} {ls : Lo} (ih : ∀ {m : Int} {S : Store}, 1 ≤ m → m ≤ 1000 → Tp S t s → KdP t s S d m (f__law_kind n [.loc t, .int (d : Int), .int m] S)) (hd : D - 1 = (d : Int)) (h4 : d ≤ 4) (hm : m ≤ 1000)
    (hp : S0.length ≤ p) (hpt : p ≠ t) (hps : p ≠ s) (hi : (i : Int) < parts) (hi2 : i < 1000) (h : KlI t s p S0 d D m c parts i ls S) :
    ∃ ls0 ls1 S1, dgName 8 (.int (0 + (i : Int))) ls = some ls0 ∧ (dSeq (dSet 9 (dCall (f__law_kind n) [(dVar 0), (dOp gSub (dVar 1) (dC (.int 1))), (dOp gSub (dVar 5) (dOp gSub (dOp gSub (dVar 6) (dC (.int 1))) (dVar 8)))]))
    (dSeq (dExpr (dAppend (dVar 7) (dVar 9)))
    (dSet 5 (dOp gSub (dVar 5) (dCall (f__law_kinds 4) [(dVar 9)]))))) ls0 S = .nx ls1 S1 ∧ KlI t s p S0 d D m c parts (i + 1) ls1 S1 := by
  obtain ⟨x4, x8, x9, left, ks, z, rfl, hT, hF, hp1, hlen, hA, hz, hl⟩ := h
  have zp : 0 ≤ z := by
    cases ks with
    | nil => cases hA; exact Int.le_refl _
    | cons a r =>
      have : ∀ (ks : List W) (z : Int), KdA d z ks → 0 ≤ z := fun ks => by
        induction ks with
        | nil => intro z h; cases h; exact Int.le_refl _
        | cons a r ihr =>
          intro z h
          cases h with
          | cons h1 h2 =>
            have := h1.pos
            have := ihr _ h2
            omega
      exact this _ _ hA
  obtain ⟨k, z', S1, e1, T1, F1, hk, hz'⟩ := ih (m := left - (parts - 1 - (0 + (i : Int)))) (S := S) (by omega) (by omega) hT
  have hp2 := F1.get hpt hp1
  have T2 : Tp (S1.set p (.lst (ks ++ [k]))) t s := T1.other hpt hps
  obtain ⟨cs, e3⟩ := kinds_ok (hk.le h4) (S1.set p (.lst (ks ++ [k])))
  refine ⟨_, [some (.loc t), some (.int D), some (.int m), some (.int c), x4, some (.int (left - z')), some (.int parts), some (.loc p), some (.int (0 + (i : Int))), some k], S1.set p (.lst (ks ++ [k])) ++ cs, rfl, ?_,
    ⟨_, _, _, left - z', ks ++ [k], z + z', rfl, T2.app, ((hF.trans F1).put hp).trans fr_app, ?_, ?_, hA.snoc hk, by omega, by omega⟩⟩
  · simp only [set8_ev, sq_ev, set_ev, call_ev, args_ev, argK_ok, args_nil, argK2_ok, callK_ok, var0_ev, var1_ev, var5_ev, var6_ev, var7_ev, var8_ev, c_ev, op_ev, opK_ok, opK2_ok, sub_ii, hd, e1, setK_ok, set9_ev, sqK_nx, ex_ev, ap_ev, apK_ok (lst_loc hp2), var9_ev, apK2_ok, append_loc hp2 (show ks.length < 100000 by omega), exK_ok, e3, set5_ev]
  · rw [List.getElem?_append_left (by rw [List.length_set]; exact lt_of hp2)]
    exact get_set hp2
  · rw [List.length_append, hlen]
    rfl
theorem kind_ok {t s : Nat} : ∀ {n d : Nat} {m : Int} {S : Store}, 1 ≤ d → d ≤ n → d ≤ 4 → 1 ≤ m → m ≤ 1000 → Tp S t s → KdP t s S d m (f__law_kind n [.loc t, .int (d : Int), .int m] S) := by
  intro n
  induction n with
  | zero => intro d m S h1 h2; omega
  | succ n ih =>
    intro d m S h1 h2 h4 hm hm2 hT
    have b2 : ∀ a b : W, [a, b].length ≤ 100 := fun _ _ => by simp
    have b3 : ∀ a b c : W, [a, b, c].length ≤ 100 := fun _ _ _ => by simp
    have b0 : ([] : List W).length ≤ 100 := by simp
    obtain ⟨c, S1, e1, T1, F1, l1, u1⟩ := draw_n 8 hT
    obtain ⟨d', rfl⟩ : ∃ d', d = d' + 1 := ⟨d - 1, by omega⟩
    by_cases hc : ((d' + 1 : Nat) : Int) = 1 ∨ m = 1 ∨ c < 2
    · exact leaf_ok hm e1 T1 F1 hc
    · have c1 : ¬ ((d' + 1 : Nat) : Int) = 1 := fun h => hc (.inl h)
      have c2 : ¬ m = 1 := fun h => hc (.inr (.inl h))
      have c3 : ¬ c < 2 := fun h => hc (.inr (.inr h))
      have hd1 : 1 ≤ d' := by omega
      have ed : ((d' + 1 : Nat) : Int) - 1 = (d' : Int) := by omega
      by_cases hq : m = 2 ∨ c = 2
      · obtain ⟨k, z, S2, e2, T2, F2, hk, hz⟩ := ih (d := d') (m := m - 1) hd1 (by omega) (by omega) (by omega) (by omega) T1
        refine ⟨_, 1 + z, S2, ?_, T2, F1.trans F2, .maybe hk, by omega⟩
        have ht : ∀ ls3 : Lo, (dOrT (dTB (dOp gEq (dVar 2) (dC (.int 2)))) (dTB (dOp gEq (dVar 3) (dC (.int 2))))) (some (.loc t) :: some (.int ((d' + 1 : Nat) : Int)) :: some (.int m) :: some (.int c) :: ls3) S1 = .ok true S1 := fun ls3 => by
          by_cases h1 : m = 2
          · simp [h1]
          · have h2 : c = 2 := by
              rcases hq with h | h
              · exact absurd h h1
              · exact h
            simp [h1, h2]
        have hf : ∀ ls3 : Lo, (dOrT (dTB (dOp gEq (dVar 1) (dC (.int 1)))) (dOrT (dTB (dOp gEq (dVar 2) (dC (.int 1)))) (dTB (dOp gLt (dVar 3) (dC (.int 2)))))) (some (.loc t) :: some (.int ((d' + 1 : Nat) : Int)) :: some (.int m) :: some (.int c) :: ls3) S1 = .ok false S1 := fun ls3 => by
          simp only [or_ev, tb_ev, op_ev, var1_ev, var2_ev, var3_ev, opK_ok, opK2_ok, c_ev, eq_ii, tbK_ok, c1, c2, c3, lt_ii, decide_false, oK_f]
        simp only [f__law_kind, mk3_ev, d__law_kind, sq_ev, set_ev, call_ev, args_ev, argK_ok, args_nil, argK2_ok, callK_ok, List.replicate, var0_ev, var1_ev, var2_ev, c_ev, e1, setK_ok, set3_ev, sqK_nx, if_ev, hf, ht, ifK_f, ifK_t, nx_ev, op_ev, opK_ok, opK2_ok, sub_ii, ed, e2, rt_ev, tup_ev, tupK_ok (b2 _ _), rtK_ok, sqK_rt, mkK_rt]
      · have q1 : ¬ m = 2 := fun h => hq (.inl h)
        have q2 : ¬ c = 2 := fun h => hq (.inr h)
        have hf : ∀ ls3 : Lo, (dOrT (dTB (dOp gEq (dVar 1) (dC (.int 1)))) (dOrT (dTB (dOp gEq (dVar 2) (dC (.int 1)))) (dTB (dOp gLt (dVar 3) (dC (.int 2)))))) (some (.loc t) :: some (.int ((d' + 1 : Nat) : Int)) :: some (.int m) :: some (.int c) :: ls3) S1 = .ok false S1 := fun ls3 => by
          simp only [or_ev, tb_ev, op_ev, var1_ev, var2_ev, var3_ev, opK_ok, opK2_ok, c_ev, eq_ii, tbK_ok, c1, c2, c3, lt_ii, decide_false, oK_f]
        have hf2 : ∀ ls3 : Lo, (dOrT (dTB (dOp gEq (dVar 2) (dC (.int 2)))) (dTB (dOp gEq (dVar 3) (dC (.int 2))))) (some (.loc t) :: some (.int ((d' + 1 : Nat) : Int)) :: some (.int m) :: some (.int c) :: ls3) S1 = .ok false S1 := fun ls3 => by
          simp only [or_ev, tb_ev, op_ev, var1_ev, var2_ev, var3_ev, opK_ok, opK2_ok, c_ev, eq_ii, tbK_ok, q1, q2, decide_false, oK_f]
        by_cases h6 : c < 6
        · obtain ⟨k, z, S2, e2, T2, F2, hk, hz⟩ := ih (d := d') (m := m - 2) hd1 (by omega) (by omega) (by omega) (by omega) T1
          obtain ⟨cs, e3⟩ := kinds_ok (hk.le (show d' ≤ 4 by omega)) S2
          have zp := hk.pos
          obtain ⟨k', z', S3, e4, T3, F3, hk', hz'⟩ := ih (d := d') (m := m - 1 - z) hd1 (by omega) (by omega) (by omega) (by omega) (T2.app (cs := cs))
          refine ⟨_, 1 + z + z', S3, ?_, T3, (F1.trans F2).trans (fr_app.trans F3), .pair hk hk', by omega⟩
          simp only [f__law_kind, mk3_ev, d__law_kind, sq_ev, set_ev, call_ev, args_ev, argK_ok, args_nil, argK2_ok, callK_ok, List.replicate, var0_ev, var1_ev, var2_ev, var3_ev, var4_ev, c_ev, e1, setK_ok, set3_ev, set4_ev, sqK_nx, if_ev, hf, hf2, ifK_f, ifK_t, nx_ev, op_ev, opK_ok, opK2_ok, tb_ev, lt_ii, h6, decide_true, tbK_ok, sub_ii, ed, e2, e3, e4, rt_ev, tup_ev, tupK_ok (b3 _ _ _), rtK_ok, sqK_rt, mkK_rt]
        · obtain ⟨mm, hmm⟩ : ∃ mm : Int, mm = if m - 1 < 3 then m - 1 else 3 := ⟨_, rfl⟩
          have m1 : 1 ≤ mm ∧ mm ≤ 3 ∧ mm ≤ m - 1 := by
            rw [hmm]
            split <;> omega
          obtain ⟨k2, S2, e2, T2, F2, l2, u2⟩ := draw_n mm T1
          have hS2 : S.length ≤ S2.length := (F1.trans F2).1
          have loop := loop_inv (st := fun _ => True) (gg := dgName 8) (KlI t s S2.length S d' ((d' + 1 : Nat) : Int) m c (1 + k2)) (fun _ _ _ _ => trivial) (rngW 0 (1 + k2).toNat) 0
            (fun i w ls S' ew hI => by
              obtain ⟨hi, rfl⟩ := rngW_get ew
              rw [Nat.zero_add] at hI ⊢
              obtain ⟨ls0, ls1, S1', a1, a2, a3⟩ := kl_turn (n := n) (fun h1 h2 h3 => ih hd1 (by omega) (by omega) h1 h2 h3) ed (by omega) hm2 hS2 (by have := T2.lt; omega) (by have := T2.lt; omega) (by omega) (by omega) hI
              exact ⟨ls0, ls1, S1', a1, .inl a2, a3⟩)
            [some (.loc t), some (.int ((d' + 1 : Nat) : Int)), some (.int m), some (.int c), none, some (.int (m - 1)), some (.int (1 + k2)), some (.loc S2.length), none, none] (S2 ++ [.lst []])
            ⟨none, none, none, m - 1, [], 0, rfl, T2.app, (F1.trans F2).trans fr_app, get_mid (cs := []), rfl, .nil, by omega, by omega⟩
          obtain ⟨ls3, S3, e3, x4, x8, x9, left, ks, z, rfl, T3, F3, hp3, hlen, hA, hz, hlf⟩ := loop
          rw [Nat.zero_add, rngW_len] at hlen hlf
          refine ⟨_, 1 + z, S3, ?_, T3, F3, .either hA (fun h => by rw [h, List.length_nil] at hlen; omega) (by omega), by omega⟩
          have r1 : r1K (.ok (.int (1 + k2)) (S2 ++ [.lst []])) = .ok ⟨rngW 0 (1 + k2).toNat, fun _ => True⟩ (S2 ++ [.lst []]) := r1K_ok ⟨by omega, by omega⟩
          simp only [f__law_kind, mk3_ev, d__law_kind, sq_ev, set_ev, call_ev, args_ev, argK_ok, args_nil, argK2_ok, callK_ok, List.replicate, var0_ev, var1_ev, var2_ev, var3_ev, var4_ev, c_ev, e1, setK_ok, set3_ev, set4_ev, sqK_nx, if_ev, hf, hf2, ifK_f, ifK_t, nx_ev, op_ev, opK_ok, opK2_ok, tb_ev, lt_ii, h6, decide_false, tbK_ok, sub_ii, set5_ev, var5_ev, min_ii, ← hmm, e2, add_ii, set6_ev, lst_ev, lstK_ok b0, set7_ev, for_ev, r1_ev, var6_ev, r1, forK_ok, e3, rt_ev, tup_ev, var7_ev, tuple_loc hp3, tupK_ok (b2 _ _), rtK_ok, mkK_rt]
end G
set_option maxHeartbeats 4000000
namespace G
open PySem L2 Fs
/-! ### the tape's making -/
theorem tape_ok (ns : List Int) : ∃ S, f__law_tape [.rol (ns.map W.int)] [] = .ok (.loc 1) S ∧ Tp S 1 0 ∧ S.length = 2 := by
  have loop := loop_inv (st := fun _ => True) (gg := dgName 2) (m := dSet 1 (dOp gMod (dCall gInt [(dOp gAdd (dOp gMul (dVar 1) (dC (.int 31))) (dCall gAbs [(dCall gInt [(dVar 2)])]))]) (dC (.int 2147483647))))
    (fun i ls S => ∃ (j : Int) (x2 : Option W), ls = [some (.rol (ns.map W.int)), some (.int j), x2] ∧ S = []) (fun _ _ _ _ => trivial) (ns.map W.int) 0
    (fun i w ls S ew h => by
      obtain ⟨j, x2, rfl, rfl⟩ := h
      obtain ⟨k, rfl⟩ := mem_int (List.mem_of_getElem? ew)
      refine ⟨_, [some (.rol (ns.map W.int)), some (.int ((j * 31 + (if k < 0 then -k else k)) % 2147483647)), some (.int k)], [], rfl, .inl ?_, ⟨_, _, rfl, rfl⟩⟩
      simp only [set2_ev, set_ev, op_ev, call_ev, args_ev, args_nil, var1_ev, opK_ok, c_ev, opK2_ok, mul_ii (show -(2 ^ 64) < (31 : Int) ∧ (31 : Int) < 2 ^ 64 by decide), var2_ev, argK_ok, argK2_ok, callK_ok, int_i, abs_i, add_ii, mod_ii (show (0 : Int) < 2147483647 by decide), setK_ok, set1_ev])
    [some (.rol (ns.map W.int)), some (.int 7), none] [] ⟨7, none, rfl, rfl⟩
  obtain ⟨ls, S, e, j, x2, rfl, rfl⟩ := loop
  have b4 : ∀ a b c d : W, [a, b, c, d].length ≤ 100 := fun _ _ _ _ => by simp
  refine ⟨[.lst (ns.map W.int), .lst [.loc 0, .int 0, .int 0, .int j]], ?_, ⟨ns, 0, 0, j, rfl, rfl, Int.le_refl _, by decide⟩, rfl⟩
  have st : (fun x => True) = stayOf (.rol (ns.map W.int)) (ns.map W.int) := rfl
  rw [st] at e
  have gl : gList [.rol (ns.map W.int)] [] = .ok (.loc 0) [.lst (ns.map W.int)] := rfl
  have sq : seqW [] (.rol (ns.map W.int)) = some (ns.map W.int) := rfl
  simp only [f__law_tape, mk1_ev, d__law_tape, sq_ev, set_ev, c_ev, setK_ok, List.replicate, set1_ev, sqK_nx, for_ev, si_ev, var0_ev, siK_ok, sq, siK2_ok, forK_ok, e, rt_ev, lst_ev, args_ev, args_nil, call_ev, argK_ok, argK2_ok, callK_ok, gl, var1_ev, lstK_ok (b4 _ _ _ _), rtK_ok, mkK_rt]
  rfl
/-! ### a spoilt letter -/
def isTup : W → Bool
  | .tup _ => true
  | _ => false
def isStr : W → Bool
  | .str _ => true
  | _ => false
def isBool : W → Bool
  | .bl _ => true
  | _ => false
theorem isi_tup {n : Nat} {w : W} {S : Store} (h : OkW n w) : gIsi [w, .ty "tuple"] S = .ok (.bl (isTup w)) S := by
  cases h <;> rfl
theorem isi_str {n : Nat} {w : W} {S : Store} (h : OkW n w) : gIsi [w, .ty "str"] S = .ok (.bl (isStr w)) S := by
  cases h <;> rfl
theorem isi_int {n : Nat} {w : W} {S : Store} (h : OkW n w) : gIsi [w, .ty "int"] S = .ok (.bl (match w with | .int _ => true | .bl _ => true | _ => false)) S := by
  cases h <;> rfl
theorem isi_bool {n : Nat} {w : W} {S : Store} (h : OkW n w) : gIsi [w, .ty "bool"] S = .ok (.bl (isBool w)) S := by
  cases h <;> rfl
def isNum : W → Bool
  | .int _ => true
  | _ => false
theorem whole_ok {n : Nat} {w : W} {S : Store} (h : OkW n w) : f__law_whole [w] S = .ok (.bl (isNum w)) S := by
  cases h <;> rfl
theorem isnum_ok {n : Nat} {w : W} {S : Store} (h : OkW n w) : f__is_number [w] S = .ok (.bl (isNum w)) S := by
  cases h <;> rfl
theorem cut_lo {ws : List W} {k : Int} (h : 0 ≤ k) : ∀ w ∈ cutW ws none (some k), w ∈ ws := fun w hw => by
  unfold cutW at hw
  exact List.mem_of_mem_drop (List.mem_of_mem_take hw)
theorem cut_mem {ws : List W} {lo hi : Option Int} : ∀ w ∈ cutW ws lo hi, w ∈ ws := fun w hw => by
  unfold cutW at hw
  exact List.mem_of_mem_drop (List.mem_of_mem_take hw)
theorem cut_len {ws : List W} {lo hi : Option Int} : (cutW ws lo hi).length ≤ ws.length := by
  unfold cutW
  rw [List.length_take, List.length_drop]
  omega
theorem cat_tt {a b : List W} {S : Store} (h : a.length + b.length ≤ 1000) : gAdd (.tup a) (.tup b) S = .ok (.tup (a ++ b)) S := if_pos (Nat.le_trans h (by decide))
theorem slice_t {ws : List W} {lo hi : Option Int} {S : Store} : gSlice (.tup ws) lo hi S = .ok (.tup (cutW ws lo hi)) S := rfl
/-! ### is_letter, twice -/
def isS (w : W) (h : Str) : Bool := match w with
  | .str x => decide (x = h)
  | _ => false
def headS (ws : List W) (h : Str) : Bool := match ws with
  | w :: _ => isS w h
  | [] => false
theorem eqv_str {S : Store} {n : Nat} {w : W} {h : Str} (hw : OkW n w) : PyData.eqv (toD S w) (.str h) = isS w h := by
  cases hw with
  | str _ =>
    unfold toD PyData.eqv isS
    rw [Bool.beq_eq_decide_eq]
  | non => unfold toD PyData.eqv isS; rfl
  | bl b => unfold toD PyData.eqv isS; rfl
  | int b => unfold toD PyData.eqv isS; rfl
  | tup b => unfold toD PyData.eqv isS; rfl
theorem eq_str {S : Store} {n : Nat} {w : W} {h : Str} (hw : OkW n w) (hn : n ≤ 64) (hh : PyData.strOk h = true) : gEq w (.str h) S = .ok (.bl (isS w h)) S := by
  rw [eq_ok hw (OkW.str (n := 0) hh) hn (by decide), show toD S (.str h) = .str h by unfold toD; rfl, eqv_str hw]
theorem ne_str {S : Store} {n : Nat} {w : W} {h : Str} (hw : OkW n w) (hn : n ≤ 64) (hh : PyData.strOk h = true) : gNe w (.str h) S = .ok (.bl (!isS w h)) S := by
  rw [ne_ok hw (OkW.str (n := 0) hh) hn (by decide), show toD S (.str h) = .str h by unfold toD; rfl, eqv_str hw]
theorem OkW.mem {n : Nat} {ws : List W} (h : OkW (n + 1) (.tup ws)) : ∀ w ∈ ws, OkW n w := by
  cases h with
  | tup h => exact h
theorem form_ok {S : Store} {n : Nat} {ws : List W} {h : Str} {k : Int} (hw : OkW (n + 1) (.tup ws)) (hn : n ≤ 64) (hh : PyData.strOk h = true) (hk : 1 ≤ k) : f__is_form [.tup ws, .str h, .int k] S = .ok (.bl (decide ((ws.length : Int) = k) && headS ws h)) S := by
  by_cases hl : (ws.length : Int) = k
  · cases ws with
    | nil => simp at hl; omega
    | cons w r =>
      have e := eq_str (S := S) (hw.mem w List.mem_cons_self) hn hh
      simp only [f__is_form, mk3_ev, d__is_form, rt_ev, av_ev, op_ev, call_ev, args_ev, args_nil, var0_ev, argK_ok, argK2_ok, callK_ok, len_tup, opK_ok, var2_ev, opK2_ok, eq_ii, hl, decide_true, avK_ok, tru_bl, avK2_t, c_ev, ixt0, var1_ev, e, rtK_ok, mkK_rt, headS, Bool.true_and]
  · simp only [f__is_form, mk3_ev, d__is_form, rt_ev, av_ev, op_ev, call_ev, args_ev, args_nil, var0_ev, argK_ok, argK2_ok, callK_ok, len_tup, opK_ok, var2_ev, opK2_ok, eq_ii, hl, decide_false, avK_ok, tru_bl, avK2_f, rtK_ok, mkK_rt, Bool.false_and]
theorem case_ok {S : Store} {n : Nat} {ks : List W} {w : W} (hw : OkW n w) : f__is_case [.tup ks, w] S = .ok (.bl (match w with | .int i => decide (0 ≤ i) && decide (i < (ks.length : Int)) | _ => false)) S := by
  cases hw with
  | int i =>
    have e : f__is_number [.int i] S = .ok (.bl true) S := rfl
    by_cases h0 : 0 ≤ i
    · simp only [f__is_case, mk2_ev, d__is_case, rt_ev, av_ev, call_ev, args_ev, args_nil, var1_ev, argK_ok, argK2_ok, callK_ok, e, avK_ok, tru_bl, avK2_t, ch_ev, c_ev, chK_ok, chK2_ok, le_ii, h0, decide_true, chK3_t, var0_ev, len_tup, chK4_ok, lt_ii, rtK_ok, mkK_rt, Bool.true_and]
    · simp only [f__is_case, mk2_ev, d__is_case, rt_ev, av_ev, call_ev, args_ev, args_nil, var1_ev, argK_ok, argK2_ok, callK_ok, e, avK_ok, tru_bl, avK2_t, ch_ev, c_ev, chK_ok, chK2_ok, le_ii, h0, decide_false, chK3_f, rtK_ok, mkK_rt, Bool.false_and]
  | non =>
    have e : f__is_number [.non] S = .ok (.bl false) S := rfl
    simp only [f__is_case, mk2_ev, d__is_case, rt_ev, av_ev, call_ev, args_ev, args_nil, var1_ev, argK_ok, argK2_ok, callK_ok, e, avK_ok, tru_bl, avK2_f, rtK_ok, mkK_rt]
  | bl b =>
    have e : f__is_number [.bl b] S = .ok (.bl false) S := rfl
    simp only [f__is_case, mk2_ev, d__is_case, rt_ev, av_ev, call_ev, args_ev, args_nil, var1_ev, argK_ok, argK2_ok, callK_ok, e, avK_ok, tru_bl, avK2_f, rtK_ok, mkK_rt]
  | @str _ x b =>
    have e : f__is_number [.str x] S = .ok (.bl false) S := rfl
    simp only [f__is_case, mk2_ev, d__is_case, rt_ev, av_ev, call_ev, args_ev, args_nil, var1_ev, argK_ok, argK2_ok, callK_ok, e, avK_ok, tru_bl, avK2_f, rtK_ok, mkK_rt]
  | @tup _ x b =>
    have e : f__is_number [.tup x] S = .ok (.bl false) S := rfl
    simp only [f__is_case, mk2_ev, d__is_case, rt_ev, av_ev, call_ev, args_ev, args_nil, var1_ev, argK_ok, argK2_ok, callK_ok, e, avK_ok, tru_bl, avK2_f, rtK_ok, mkK_rt]
def isNone (ws : List W) : Bool := match ws with
  | [w] => isS w (Str.ofString "none")
  | _ => false
theorem none_ok {S : Store} {n : Nat} {ws : List W} (hw : OkW n (.tup ws)) (hn : n ≤ 64) : gEq (.tup ws) (.tup [strW "none"]) S = .ok (.bl (isNone ws)) S := by
  have h2 : OkW 1 (.tup [strW "none"]) := .tup fun w h => by
    have : w = strW "none" := by simpa using h
    subst this
    exact (strW_ok (l := 3) (n := 0) "none").ok
  rw [eq_ok hw h2 hn (by decide)]
  congr 2
  have e2 : toD S (.tup [strW "none"]) = .tuple [.str (Str.ofString "none")] := by
    unfold toD
    unfold toDA
    unfold toDA
    unfold toD
    rfl
  rw [e2]
  cases ws with
  | nil =>
    unfold toD
    unfold toDA
    unfold PyData.eqv PyData.eqvAll isNone
    rfl
  | cons w r =>
    cases r with
    | nil =>
      unfold toD
      unfold toDA
      unfold toDA
      unfold PyData.eqv PyData.eqvAll PyData.eqvAll isNone
      cases hw with
      | tup h => rw [eqv_str (h w List.mem_cons_self), Bool.and_true]
    | cons w2 r =>
      unfold toD
      unfold toDA
      unfold toDA
      unfold PyData.eqv PyData.eqvAll PyData.eqvAll isNone
      rw [Bool.and_false]
theorem sd (a b : String) (h : Str.ofString a ≠ Str.ofString b := by decide +kernel) : decide (Str.ofString a = Str.ofString b) = false := decide_eq_false h
theorem in_names {S : Store} {m : Nat} {w : W} {ns : List Str} (hw : OkW m w) (hm : m ≤ 60) (hn : ∀ x ∈ ns, SOK 6 x) : ∃ b, gIn w (.tup (ns.map .str)) S = .ok (.bl b) S ∧ (isStr w = false → b = false) := by
  by_cases hf : flatW w = true
  · refine ⟨inFl w (ns.map .str), ?_, fun h => ?_⟩
    · show (if flatW w = true ∧ allFlat (ns.map .str) = true then Res.ok (W.bl (false != inFl w (ns.map .str))) S else _) = _
      rw [if_pos ⟨hf, allFlat_strs ns⟩, false_bne]
    · unfold inFl
      rw [List.any_eq_false]
      intro y hy
      obtain ⟨x, _, rfl⟩ := List.mem_map.mp hy
      cases hw with
      | str _ => cases h
      | tup _ => cases hf
      | non => simp [eqFl]
      | bl b => simp [eqFl]
      | int i => simp [eqFl]
  · cases hw with
    | str _ => exact absurd rfl hf
    | non => exact absurd rfl hf
    | bl b => exact absurd rfl hf
    | int i => exact absurd rfl hf
    | @tup n ws h =>
      have hs1 : SeqAt.shaped (toD S (.tup ws)) = true := (OkW.tup h).shaped (by omega)
      have hs2 : SeqAt.shaped (.tuple (toDA S (ns.map .str))) = true := by
        have : OkW 1 (.tup (ns.map .str)) := .tup fun w hw => by
          obtain ⟨x, hx, rfl⟩ := List.mem_map.mp hw
          exact .str (hn x hx).1
        have := this.shaped (S := S) (by decide)
        rw [show toD S (.tup (ns.map .str)) = .tuple (toDA S (ns.map .str)) by unfold toD; rfl] at this
        exact this
      refine ⟨inD S (.tup ws) (ns.map .str), ?_, fun _ => ?_⟩
      · show (if flatW (.tup ws) = true ∧ allFlat (ns.map .str) = true then Res.ok (W.bl (false != inFl (.tup ws) (ns.map .str))) S else if SeqAt.shaped (toD S (.tup ws)) = true ∧ SeqAt.shaped (.tuple (toDA S (ns.map .str))) = true ∧ notLoc (.tup (ns.map .str)) = true then Res.ok (W.bl (false != inD S (.tup ws) (ns.map .str))) S else _) = _
        rw [if_neg (fun z => by cases z.1), if_pos ⟨hs1, hs2, rfl⟩, false_bne]
      · unfold inD
        rw [List.any_eq_false]
        intro y hy
        obtain ⟨x, _, rfl⟩ := List.mem_map.mp hy
        rw [show toD S (.str x) = .str x by unfold toD; rfl, show toD S (.tup ws) = .tuple (toDA S ws) by unfold toD; rfl]
        unfold PyData.eqv
        simp
theorem headS_of {w : W} {r : List W} {h : Str} (hh : headS (w :: r) h = true) : w = .str h := by
  cases w with
  | str x =>
    have : x = h := of_decide_eq_true hh
    rw [this]
  | _ => cases hh
theorem head3 {ws : List W} {h : Str} (hl : (ws.length : Int) = 3) (hh : headS ws h = true) : ∃ x1 x2, ws = [.str h, x1, x2] := by
  match ws, hl, hh with
  | [y, x1, x2], _, hh =>
    rw [headS_of hh]
    exact ⟨x1, x2, rfl⟩
  | [], hl, _ => simp at hl
  | [_], hl, _ => simp at hl
  | [_, _], hl, _ => simp at hl
  | _ :: _ :: _ :: _ :: r, hl, _ => simp at hl; omega
theorem head2 {ws : List W} {h : Str} (hl : (ws.length : Int) = 2) (hh : headS ws h = true) : ∃ x1, ws = [.str h, x1] := by
  match ws, hl, hh with
  | [y, x1], _, hh =>
    rw [headS_of hh]
    exact ⟨x1, rfl⟩
  | [], hl, _ => simp at hl
  | [_], hl, _ => simp at hl
  | _ :: _ :: _ :: r, hl, _ => simp at hl; omega
theorem tup_of {w : W} (h : isTup w = true) : ∃ ws, w = .tup ws := by
  cases w <;> first | exact ⟨_, rfl⟩ | cases h
theorem str_of {w : W} (h : isStr w = true) : ∃ x, w = .str x := by
  cases w <;> first | exact ⟨_, rfl⟩ | cases h
end G
set_option maxHeartbeats 4000000
namespace G
open PySem L2 Fs
/-! ### letters are letters -/
theorem atI_of {α : Type} {xs : List α} {i : Int} {a : α} (h0 : 0 ≤ i) (h : xs[i.toNat]? = some a) : L2.atI xs i = some a := by
  have hl := (List.getElem?_eq_some_iff.mp h).1
  unfold L2.atI ixN
  rw [if_pos h0, if_pos (by omega)]
  exact h
theorem ixAt {ws : List W} {i : Int} {a : W} {S : Store} (h0 : 0 ≤ i) (h : ws[i.toNat]? = some a) : gIx (.tup ws) (.int i) S = .ok a S := ix_t (atI_of h0 h)
theorem map_str_inj : ∀ {ns ms : List Str}, ns.map W.str = ms.map W.str → ns = ms
  | [], [], _ => rfl
  | [], _ :: _, h => nomatch h
  | _ :: _, [], h => nomatch h
  | a :: r, b :: q, h => by
    rw [List.map_cons, List.map_cons] at h
    injection h with h1 h2
    injection h1 with h1
    rw [h1, map_str_inj h2]
theorem heads {a b : String} {r q : List W} (h : W.tup (strW a :: r) = .tup (strW b :: q)) (hn : Str.ofString a ≠ Str.ofString b := by decide +kernel) : False := by
  injection h with h
  injection h with h _
  injection h with h
  exact hn h
theorem Lt.inv_names {ns : List Str} {w : W} (h : Lt (.tup [strW "names", .tup (ns.map .str)]) w) : ∃ x, w = .str x ∧ x ∈ ns := by
  generalize e : W.tup [strW "names", .tup (ns.map .str)] = k at h
  cases h with
  | @name ms x hx =>
    injection e with e
    injection e with _ e
    injection e with e _
    injection e with e
    rw [map_str_inj e]
    exact ⟨x, rfl, hx⟩
  | kint _ => exact (heads e).elim
  | pair _ _ => exact (heads e).elim
  | case _ _ _ => exact (heads e).elim
  | none => exact (heads e).elim
  | some _ => exact (heads e).elim
theorem Lt.inv_kint {w : W} (h : Lt (.tup [strW "integers"]) w) : ∃ i, w = .int i := by
  generalize e : W.tup [strW "integers"] = k at h
  cases h with
  | name _ => exact (heads e).elim
  | kint i => exact ⟨i, rfl⟩
  | pair _ _ => exact (heads e).elim
  | case _ _ _ => exact (heads e).elim
  | none => exact (heads e).elim
  | some _ => exact (heads e).elim
theorem Lt.inv_pair {a b w : W} (h : Lt (.tup [strW "pair", a, b]) w) : ∃ x y, w = .tup [strW "pair", x, y] ∧ Lt a x ∧ Lt b y := by
  generalize e : W.tup [strW "pair", a, b] = k at h
  cases h with
  | name _ => exact (heads e).elim
  | kint i => exact (heads e).elim
  | pair h1 h2 =>
    injection e with e
    injection e with _ e
    injection e with e1 e
    injection e with e2 _
    subst e1 e2
    exact ⟨_, _, rfl, h1, h2⟩
  | case _ _ _ => exact (heads e).elim
  | none => exact (heads e).elim
  | some _ => exact (heads e).elim
theorem Lt.inv_either {ks : List W} {w : W} (h : Lt (.tup [strW "either", .tup ks]) w) : ∃ i a x, w = .tup [strW "case", .int i, x] ∧ 0 ≤ i ∧ ks[i.toNat]? = Option.some a ∧ Lt a x := by
  generalize e : W.tup [strW "either", .tup ks] = k at h
  cases h with
  | name _ => exact (heads e).elim
  | kint i => exact (heads e).elim
  | pair _ _ => exact (heads e).elim
  | case h1 h2 h3 =>
    injection e with e
    injection e with _ e
    injection e with e1 _
    injection e1 with e1
    subst e1
    exact ⟨_, _, _, rfl, h1, h2, h3⟩
  | none => exact (heads e).elim
  | some _ => exact (heads e).elim
theorem Lt.inv_maybe {a w : W} (h : Lt (.tup [strW "maybe", a]) w) : w = .tup [strW "none"] ∨ ∃ x, w = .tup [strW "some", x] ∧ Lt a x := by
  generalize e : W.tup [strW "maybe", a] = k at h
  cases h with
  | name _ => exact (heads e).elim
  | kint i => exact (heads e).elim
  | pair _ _ => exact (heads e).elim
  | case _ _ _ => exact (heads e).elim
  | none => exact .inl rfl
  | some h1 =>
    injection e with e
    injection e with _ e
    injection e with e1 _
    subst e1
    exact .inr ⟨_, rfl, h1⟩
theorem okp : PyData.strOk (Str.ofString "pair") = true := by decide +kernel
theorem okc : PyData.strOk (Str.ofString "case") = true := by decide +kernel
theorem okn : PyData.strOk (Str.ofString "none") = true := by decide +kernel
theorem oks : PyData.strOk (Str.ofString "some") = true := by decide +kernel
theorem b0 : ([] : List W).length ≤ 100 := by simp
theorem b1 (a : W) : [a].length ≤ 100 := by simp
theorem b2 (a b : W) : [a, b].length ≤ 100 := by simp
theorem b3 (a b c : W) : [a, b, c].length ≤ 100 := by simp
theorem isiT {ws : List W} {S : Store} : gIsi [.tup ws, .ty "tuple"] S = .ok (.bl true) S := rfl
theorem head_self (h : String) (r : List W) : headS (strW h :: r) (Str.ofString h) = true := decide_eq_true rfl
theorem isl_t : ∀ {n : Nat} {z : Int} {k : W}, n ≤ 50 → Kd n z k → ∀ {w : W}, Lt k w → ∀ {n' : Nat} {S : Store}, n ≤ n' → f_is_letter n' [k, w] S = .ok (.bl true) S := by
  intro n
  induction n with
  | zero => intro z k _ h; cases h
  | succ n ih =>
    intro z k h50 h w hw n' S hn
    obtain ⟨m, rfl⟩ : ∃ m, n' = m + 1 := ⟨n' - 1, by omega⟩
    have hok := (hw.ok h).ok
    cases h with
    | @names _ ns h1 h2 h3 h4 =>
      obtain ⟨x, rfl, hx⟩ := hw.inv_names
      simp only [mk1_ev, mk2_ev, mk3_ev, mk4_ev, sq_ev, set_ev, call_ev, args_ev, argK_ok, args_nil, argK2_ok, callK_ok, List.replicate, c_ev, setK_ok, set0_ev, set1_ev, set2_ev, set3_ev, set4_ev, set5_ev, set6_ev, set7_ev, set8_ev, set9_ev, sqK_nx, sqK_rt, if_ev, tb_ev, t_ev, tK_ok, tru_bl, nt_ev, ntK_ok, and_ev, or_ev, op_ev, opK_ok, opK2_ok, tbK_ok, ifK_t, ifK_f, nx_ev, rt_ev, rtK_ok, mkK_rt, mkK_nx, var0_ev, var1_ev, var2_ev, var3_ev, var4_ev, var5_ev, var6_ev, var7_ev, var8_ev, var9_ev, ixt0, ixt1, ixt2, eq_ss, ne_ss, eq_ii, ne_ii, lt_ii, le_ii, gt_ii, ge_ii, len_tup, av_ev, avK_ok, avK2_t, avK2_f, ov_ev, ovK_ok, ovK2_t, ovK2_f, aK_t, aK_f, oK_t, oK_f, tup_ev, ie_ev, ieK_t, ieK_f, un_ev, unK_ok, ex_ev, exK_ok, Bool.not_true, Bool.not_false, decide_true, decide_false, Nat.reduceSub, f_is_letter, d_is_letter, in_strsT, hx]
    | kint =>
      obtain ⟨i, rfl⟩ := hw.inv_kint
      have e : f__is_number [.int i] S = .ok (.bl true) S := isnum_ok (n := 0) (.int i)
      simp only [mk1_ev, mk2_ev, mk3_ev, mk4_ev, sq_ev, set_ev, call_ev, args_ev, argK_ok, args_nil, argK2_ok, callK_ok, List.replicate, c_ev, setK_ok, set0_ev, set1_ev, set2_ev, set3_ev, set4_ev, set5_ev, set6_ev, set7_ev, set8_ev, set9_ev, sqK_nx, sqK_rt, if_ev, tb_ev, t_ev, tK_ok, tru_bl, nt_ev, ntK_ok, and_ev, or_ev, op_ev, opK_ok, opK2_ok, tbK_ok, ifK_t, ifK_f, nx_ev, rt_ev, rtK_ok, mkK_rt, mkK_nx, var0_ev, var1_ev, var2_ev, var3_ev, var4_ev, var5_ev, var6_ev, var7_ev, var8_ev, var9_ev, ixt0, ixt1, ixt2, eq_ss, ne_ss, eq_ii, ne_ii, lt_ii, le_ii, gt_ii, ge_ii, len_tup, av_ev, avK_ok, avK2_t, avK2_f, ov_ev, ovK_ok, ovK2_t, ovK2_f, aK_t, aK_f, oK_t, oK_f, tup_ev, ie_ev, ieK_t, ieK_f, un_ev, unK_ok, ex_ev, exK_ok, Bool.not_true, Bool.not_false, decide_true, decide_false, Nat.reduceSub, f_is_letter, d_is_letter, sd "names" "integers", sd "names" "pair", sd "names" "either", sd "names" "maybe", sd "integers" "names", sd "integers" "pair", sd "integers" "either", sd "integers" "maybe", sd "pair" "names", sd "pair" "integers", sd "pair" "either", sd "pair" "maybe", sd "either" "names", sd "either" "integers", sd "either" "pair", sd "either" "maybe", sd "maybe" "names", sd "maybe" "integers", sd "maybe" "pair", sd "maybe" "either", e]
    | @pair _ s s' a b h1 h2 =>
      obtain ⟨x, y, rfl, hx, hy⟩ := hw.inv_pair
      have hfo := form_ok (S := S) (h := Str.ofString "pair") (k := 3) hok (by omega) okp (by decide)
      rw [head_self, Bool.and_true, show decide (((([strW "pair", x, y]).length : Nat) : Int) = 3) = true from rfl] at hfo
      have e1 := ih (by omega) h1 hx (n' := m) (S := S) (by omega)
      have e2 := ih (by omega) h2 hy (n' := m) (S := S) (by omega)
      simp only [mk1_ev, mk2_ev, mk3_ev, mk4_ev, sq_ev, set_ev, call_ev, args_ev, argK_ok, args_nil, argK2_ok, callK_ok, List.replicate, c_ev, setK_ok, set0_ev, set1_ev, set2_ev, set3_ev, set4_ev, set5_ev, set6_ev, set7_ev, set8_ev, set9_ev, sqK_nx, sqK_rt, if_ev, tb_ev, t_ev, tK_ok, tru_bl, nt_ev, ntK_ok, and_ev, or_ev, op_ev, opK_ok, opK2_ok, tbK_ok, ifK_t, ifK_f, nx_ev, rt_ev, rtK_ok, mkK_rt, mkK_nx, var0_ev, var1_ev, var2_ev, var3_ev, var4_ev, var5_ev, var6_ev, var7_ev, var8_ev, var9_ev, ixt0, ixt1, ixt2, eq_ss, ne_ss, eq_ii, ne_ii, lt_ii, le_ii, gt_ii, ge_ii, len_tup, av_ev, avK_ok, avK2_t, avK2_f, ov_ev, ovK_ok, ovK2_t, ovK2_f, aK_t, aK_f, oK_t, oK_f, tup_ev, ie_ev, ieK_t, ieK_f, un_ev, unK_ok, ex_ev, exK_ok, Bool.not_true, Bool.not_false, decide_true, decide_false, Nat.reduceSub, f_is_letter, d_is_letter, sd "names" "integers", sd "names" "pair", sd "names" "either", sd "names" "maybe", sd "integers" "names", sd "integers" "pair", sd "integers" "either", sd "integers" "maybe", sd "pair" "names", sd "pair" "integers", sd "pair" "either", sd "pair" "maybe", sd "either" "names", sd "either" "integers", sd "either" "pair", sd "either" "maybe", sd "maybe" "names", sd "maybe" "integers", sd "maybe" "pair", sd "maybe" "either", isiT, hfo, e1, e2]
    | @either _ s ks h1 h2 h3 =>
      obtain ⟨i, a, x, rfl, i0, ia, hx⟩ := hw.inv_either
      have hfo := form_ok (S := S) (h := Str.ofString "case") (k := 3) hok (by omega) okc (by decide)
      rw [head_self, Bool.and_true, show decide (((([strW "case", .int i, x]).length : Nat) : Int) = 3) = true from rfl] at hfo
      obtain ⟨z', hz⟩ := h1.mem a (List.mem_of_getElem? ia)
      have e1 := ih (by omega) hz hx (n' := m) (S := S) (by omega)
      have hl := (List.getElem?_eq_some_iff.mp ia).1
      have hca : f__is_case [.tup ks, .int i] S = .ok (.bl true) S := by
        rw [case_ok (n := 0) (.int i)]
        show Res.ok (W.bl (decide (0 ≤ i) && decide (i < (ks.length : Int)))) S = _
        rw [decide_eq_true i0, decide_eq_true (by omega)]
        rfl
      simp only [mk1_ev, mk2_ev, mk3_ev, mk4_ev, sq_ev, set_ev, call_ev, args_ev, argK_ok, args_nil, argK2_ok, callK_ok, List.replicate, c_ev, setK_ok, set0_ev, set1_ev, set2_ev, set3_ev, set4_ev, set5_ev, set6_ev, set7_ev, set8_ev, set9_ev, sqK_nx, sqK_rt, if_ev, tb_ev, t_ev, tK_ok, tru_bl, nt_ev, ntK_ok, and_ev, or_ev, op_ev, opK_ok, opK2_ok, tbK_ok, ifK_t, ifK_f, nx_ev, rt_ev, rtK_ok, mkK_rt, mkK_nx, var0_ev, var1_ev, var2_ev, var3_ev, var4_ev, var5_ev, var6_ev, var7_ev, var8_ev, var9_ev, ixt0, ixt1, ixt2, eq_ss, ne_ss, eq_ii, ne_ii, lt_ii, le_ii, gt_ii, ge_ii, len_tup, av_ev, avK_ok, avK2_t, avK2_f, ov_ev, ovK_ok, ovK2_t, ovK2_f, aK_t, aK_f, oK_t, oK_f, tup_ev, ie_ev, ieK_t, ieK_f, un_ev, unK_ok, ex_ev, exK_ok, Bool.not_true, Bool.not_false, decide_true, decide_false, Nat.reduceSub, f_is_letter, d_is_letter, sd "names" "integers", sd "names" "pair", sd "names" "either", sd "names" "maybe", sd "integers" "names", sd "integers" "pair", sd "integers" "either", sd "integers" "maybe", sd "pair" "names", sd "pair" "integers", sd "pair" "either", sd "pair" "maybe", sd "either" "names", sd "either" "integers", sd "either" "pair", sd "either" "maybe", sd "maybe" "names", sd "maybe" "integers", sd "maybe" "pair", sd "maybe" "either", isiT, hfo, hca, ixAt i0 ia, e1]
    | @maybe _ s a h1 =>
      rcases hw.inv_maybe with rfl | ⟨x, rfl, hx⟩
      · have hno := none_ok (S := S) hok (by omega)
        rw [show isNone [strW "none"] = true from head_self "none" []] at hno
        simp only [mk1_ev, mk2_ev, mk3_ev, mk4_ev, sq_ev, set_ev, call_ev, args_ev, argK_ok, args_nil, argK2_ok, callK_ok, List.replicate, c_ev, setK_ok, set0_ev, set1_ev, set2_ev, set3_ev, set4_ev, set5_ev, set6_ev, set7_ev, set8_ev, set9_ev, sqK_nx, sqK_rt, if_ev, tb_ev, t_ev, tK_ok, tru_bl, nt_ev, ntK_ok, and_ev, or_ev, op_ev, opK_ok, opK2_ok, tbK_ok, ifK_t, ifK_f, nx_ev, rt_ev, rtK_ok, mkK_rt, mkK_nx, var0_ev, var1_ev, var2_ev, var3_ev, var4_ev, var5_ev, var6_ev, var7_ev, var8_ev, var9_ev, ixt0, ixt1, ixt2, eq_ss, ne_ss, eq_ii, ne_ii, lt_ii, le_ii, gt_ii, ge_ii, len_tup, av_ev, avK_ok, avK2_t, avK2_f, ov_ev, ovK_ok, ovK2_t, ovK2_f, aK_t, aK_f, oK_t, oK_f, tup_ev, ie_ev, ieK_t, ieK_f, un_ev, unK_ok, ex_ev, exK_ok, Bool.not_true, Bool.not_false, decide_true, decide_false, Nat.reduceSub, f_is_letter, d_is_letter, sd "names" "integers", sd "names" "pair", sd "names" "either", sd "names" "maybe", sd "integers" "names", sd "integers" "pair", sd "integers" "either", sd "integers" "maybe", sd "pair" "names", sd "pair" "integers", sd "pair" "either", sd "pair" "maybe", sd "either" "names", sd "either" "integers", sd "either" "pair", sd "either" "maybe", sd "maybe" "names", sd "maybe" "integers", sd "maybe" "pair", sd "maybe" "either", isiT, tupK_ok (b1 _), hno]
      · have hno := none_ok (S := S) hok (by omega)
        rw [show isNone [strW "some", x] = false from rfl] at hno
        have hfo := form_ok (S := S) (h := Str.ofString "some") (k := 2) hok (by omega) oks (by decide)
        rw [head_self, Bool.and_true, show decide (((([strW "some", x]).length : Nat) : Int) = 2) = true from rfl] at hfo
        have e1 := ih (by omega) h1 hx (n' := m) (S := S) (by omega)
        simp only [mk1_ev, mk2_ev, mk3_ev, mk4_ev, sq_ev, set_ev, call_ev, args_ev, argK_ok, args_nil, argK2_ok, callK_ok, List.replicate, c_ev, setK_ok, set0_ev, set1_ev, set2_ev, set3_ev, set4_ev, set5_ev, set6_ev, set7_ev, set8_ev, set9_ev, sqK_nx, sqK_rt, if_ev, tb_ev, t_ev, tK_ok, tru_bl, nt_ev, ntK_ok, and_ev, or_ev, op_ev, opK_ok, opK2_ok, tbK_ok, ifK_t, ifK_f, nx_ev, rt_ev, rtK_ok, mkK_rt, mkK_nx, var0_ev, var1_ev, var2_ev, var3_ev, var4_ev, var5_ev, var6_ev, var7_ev, var8_ev, var9_ev, ixt0, ixt1, ixt2, eq_ss, ne_ss, eq_ii, ne_ii, lt_ii, le_ii, gt_ii, ge_ii, len_tup, av_ev, avK_ok, avK2_t, avK2_f, ov_ev, ovK_ok, ovK2_t, ovK2_f, aK_t, aK_f, oK_t, oK_f, tup_ev, ie_ev, ieK_t, ieK_f, un_ev, unK_ok, ex_ev, exK_ok, Bool.not_true, Bool.not_false, decide_true, decide_false, Nat.reduceSub, f_is_letter, d_is_letter, sd "names" "integers", sd "names" "pair", sd "names" "either", sd "names" "maybe", sd "integers" "names", sd "integers" "pair", sd "integers" "either", sd "integers" "maybe", sd "pair" "names", sd "pair" "integers", sd "pair" "either", sd "pair" "maybe", sd "either" "names", sd "either" "integers", sd "either" "pair", sd "either" "maybe", sd "maybe" "names", sd "maybe" "integers", sd "maybe" "pair", sd "maybe" "either", isiT, tupK_ok (b1 _), hno, hfo, e1]
end G
set_option maxHeartbeats 4000000
namespace G
open PySem L2 Fs
/-! ### ranks and keys -/
def rnk (i : Int) : Int := if 0 < i then 2 * i - 1 else -2 * i
/-- kind, letter, the program's rank, the law's key -/
inductive Rk : W → W → W → W → Prop
  | name {ns : List Str} {x : Str} {j : Nat} : posOf x ns = some j → Rk (.tup [strW "names", .tup (ns.map .str)]) (.str x) (.int j) (.tup [.int j])
  | kint (i : Int) : Rk (.tup [strW "integers"]) (.int i) (.int (rnk i)) (.tup [.int (rnk i)])
  | pair {a b x y r r' q q' : W} : Rk a x r q → Rk b y r' q' → Rk (.tup [strW "pair", a, b]) (.tup [strW "pair", x, y]) (.tup [r, r']) (.tup [q, q'])
  | case {ks : List W} {i : Int} {a x r q : W} : 0 ≤ i → ks[i.toNat]? = some a → Rk a x r q → Rk (.tup [strW "either", .tup ks]) (.tup [strW "case", .int i, x]) (.tup [.int i, r]) (.tup [.int i, q])
  | none {a : W} : Rk (.tup [strW "maybe", a]) (.tup [strW "none"]) (.tup []) (.tup [.int 0])
  | some {a x r q : W} : Rk a x r q → Rk (.tup [strW "maybe", a]) (.tup [strW "some", x]) (.tup [r]) (.tup [.int 1, q])
theorem posOf_mem {z : Str} : ∀ {ys : List Str}, z ∈ ys → ∃ j, posOf z ys = Option.some j
  | [], h => by cases h
  | y :: ys, h => by
    unfold posOf
    by_cases e : y = z
    · exact ⟨0, if_pos e⟩
    · rw [if_neg e]
      obtain ⟨j, hj⟩ := posOf_mem (ys := ys) (by
        rcases List.mem_cons.mp h with h | h
        · exact absurd h.symm e
        · exact h)
      exact ⟨j + 1, by rw [hj]; rfl⟩
theorem strsW_map : ∀ ns : List Str, strsW (ns.map W.str) = Option.some ns
  | [] => rfl
  | n :: r => by
    show (strsW (r.map W.str)).map (n :: ·) = _
    rw [strsW_map r]
    rfl
theorem rnk_ok (i : Int) (S : Store) : f_integer_rank [.int i] S = .ok (.int (rnk i)) S := by
  have m1 : gMul (.int 2) (.int i) S = .ok (.int (2 * i)) S := mul_ii' (by decide)
  have m2 : gMul (.int (-2)) (.int i) S = .ok (.int (-2 * i)) S := mul_ii' (by decide)
  by_cases h : 0 < i
  · have e : decide (0 < i) = true := decide_eq_true h
    simp only [mk1_ev, mk2_ev, mk3_ev, mk4_ev, sq_ev, set_ev, call_ev, args_ev, argK_ok, args_nil, argK2_ok, callK_ok, List.replicate, c_ev, setK_ok, set0_ev, set1_ev, set2_ev, set3_ev, set4_ev, set5_ev, set6_ev, set7_ev, set8_ev, set9_ev, sqK_nx, sqK_rt, if_ev, tb_ev, t_ev, tK_ok, tru_bl, nt_ev, ntK_ok, and_ev, or_ev, op_ev, opK_ok, opK2_ok, tbK_ok, ifK_t, ifK_f, nx_ev, rt_ev, rtK_ok, mkK_rt, mkK_nx, var0_ev, var1_ev, var2_ev, var3_ev, var4_ev, var5_ev, var6_ev, var7_ev, var8_ev, var9_ev, ixt0, ixt1, ixt2, eq_ss, ne_ss, eq_ii, ne_ii, lt_ii, le_ii, gt_ii, ge_ii, len_tup, av_ev, avK_ok, avK2_t, avK2_f, ov_ev, ovK_ok, ovK2_t, ovK2_f, aK_t, aK_f, oK_t, oK_f, tup_ev, ie_ev, ieK_t, ieK_f, un_ev, unK_ok, ex_ev, exK_ok, Bool.not_true, Bool.not_false, decide_true, decide_false, Nat.reduceSub, f_integer_rank, d_integer_rank, e, m1, sub_ii, rnk, if_pos h]
  · have e : decide (0 < i) = false := decide_eq_false h
    simp only [mk1_ev, mk2_ev, mk3_ev, mk4_ev, sq_ev, set_ev, call_ev, args_ev, argK_ok, args_nil, argK2_ok, callK_ok, List.replicate, c_ev, setK_ok, set0_ev, set1_ev, set2_ev, set3_ev, set4_ev, set5_ev, set6_ev, set7_ev, set8_ev, set9_ev, sqK_nx, sqK_rt, if_ev, tb_ev, t_ev, tK_ok, tru_bl, nt_ev, ntK_ok, and_ev, or_ev, op_ev, opK_ok, opK2_ok, tbK_ok, ifK_t, ifK_f, nx_ev, rt_ev, rtK_ok, mkK_rt, mkK_nx, var0_ev, var1_ev, var2_ev, var3_ev, var4_ev, var5_ev, var6_ev, var7_ev, var8_ev, var9_ev, ixt0, ixt1, ixt2, eq_ss, ne_ss, eq_ii, ne_ii, lt_ii, le_ii, gt_ii, ge_ii, len_tup, av_ev, avK_ok, avK2_t, avK2_f, ov_ev, ovK_ok, ovK2_t, ovK2_f, aK_t, aK_f, oK_t, oK_f, tup_ev, ie_ev, ieK_t, ieK_f, un_ev, unK_ok, ex_ev, exK_ok, Bool.not_true, Bool.not_false, decide_true, decide_false, Nat.reduceSub, f_integer_rank, d_integer_rank, e, m2, neg_i, rnk, if_neg h]
theorem t1 {n : Nat} {a : W} (h : OkW n a) : OkW (n + 1) (.tup [a]) := .tup fun w hw => by
  rcases List.mem_cons.mp hw with rfl | hw
  · exact h
  · cases hw
theorem t2 {n : Nat} {a b : W} (h : OkW n a) (h' : OkW n b) : OkW (n + 1) (.tup [a, b]) := .tup fun w hw => by
  rcases List.mem_cons.mp hw with rfl | hw
  · exact h
  · rcases List.mem_cons.mp hw with rfl | hw
    · exact h'
    · cases hw
theorem rank_ok : ∀ {n : Nat} {z : Int} {k : W}, n ≤ 50 → Kd n z k → ∀ {w : W}, Lt k w → ∃ r q, (Rk k w r q ∧ OkW n r ∧ OkW n q) ∧ (∀ n' S, n ≤ n' → f_rank n' [k, w] S = .ok r S) ∧ (∀ n' S, n ≤ n' → f__law_key n' [k, w] S = .ok q S) := by
  intro n
  induction n with
  | zero => intro z k _ h; cases h
  | succ n ih =>
    intro z k h50 h w hw
    have hok := (hw.ok h).ok
    cases h with
    | @names _ ns h1 h2 h3 h4 =>
      obtain ⟨x, rfl, hx⟩ := hw.inv_names
      obtain ⟨j, hj⟩ := posOf_mem hx
      have ix : ∀ {S : Store} {x2 : Option W} {r : Lo}, dTIx (dOp gIx (dVar 0) (dC (.int 1))) (dVar 1) (Option.some (.tup [strW "names", .tup (ns.map .str)]) :: Option.some (.str x) :: r) S = .ok (.int (j : Nat)) S := fun {S x2 r} => by
        refine tix_ok (ws := ns.map .str) (S1 := S) ?_ ?_ (strsW_map ns) hj
        · simp only [mk1_ev, mk2_ev, mk3_ev, mk4_ev, sq_ev, set_ev, call_ev, args_ev, argK_ok, args_nil, argK2_ok, callK_ok, List.replicate, c_ev, setK_ok, set0_ev, set1_ev, set2_ev, set3_ev, set4_ev, set5_ev, set6_ev, set7_ev, set8_ev, set9_ev, sqK_nx, sqK_rt, if_ev, tb_ev, t_ev, tK_ok, tru_bl, nt_ev, ntK_ok, and_ev, or_ev, op_ev, opK_ok, opK2_ok, tbK_ok, ifK_t, ifK_f, nx_ev, rt_ev, rtK_ok, mkK_rt, mkK_nx, var0_ev, var1_ev, var2_ev, var3_ev, var4_ev, var5_ev, var6_ev, var7_ev, var8_ev, var9_ev, ixt0, ixt1, ixt2, eq_ss, ne_ss, eq_ii, ne_ii, lt_ii, le_ii, gt_ii, ge_ii, len_tup, av_ev, avK_ok, avK2_t, avK2_f, ov_ev, ovK_ok, ovK2_t, ovK2_f, aK_t, aK_f, oK_t, oK_f, tup_ev, ie_ev, ieK_t, ieK_f, un_ev, unK_ok, ex_ev, exK_ok, Bool.not_true, Bool.not_false, decide_true, decide_false, Nat.reduceSub]
        · simp only [mk1_ev, mk2_ev, mk3_ev, mk4_ev, sq_ev, set_ev, call_ev, args_ev, argK_ok, args_nil, argK2_ok, callK_ok, List.replicate, c_ev, setK_ok, set0_ev, set1_ev, set2_ev, set3_ev, set4_ev, set5_ev, set6_ev, set7_ev, set8_ev, set9_ev, sqK_nx, sqK_rt, if_ev, tb_ev, t_ev, tK_ok, tru_bl, nt_ev, ntK_ok, and_ev, or_ev, op_ev, opK_ok, opK2_ok, tbK_ok, ifK_t, ifK_f, nx_ev, rt_ev, rtK_ok, mkK_rt, mkK_nx, var0_ev, var1_ev, var2_ev, var3_ev, var4_ev, var5_ev, var6_ev, var7_ev, var8_ev, var9_ev, ixt0, ixt1, ixt2, eq_ss, ne_ss, eq_ii, ne_ii, lt_ii, le_ii, gt_ii, ge_ii, len_tup, av_ev, avK_ok, avK2_t, avK2_f, ov_ev, ovK_ok, ovK2_t, ovK2_f, aK_t, aK_f, oK_t, oK_f, tup_ev, ie_ev, ieK_t, ieK_f, un_ev, unK_ok, ex_ev, exK_ok, Bool.not_true, Bool.not_false, decide_true, decide_false, Nat.reduceSub]
      refine ⟨_, _, ⟨.name hj, .int _, t1 (.int _)⟩, fun n' S hn => ?_, fun n' S hn => ?_⟩
      · obtain ⟨m, rfl⟩ : ∃ m, n' = m + 1 := ⟨n' - 1, by omega⟩
        simp only [mk1_ev, mk2_ev, mk3_ev, mk4_ev, sq_ev, set_ev, call_ev, args_ev, argK_ok, args_nil, argK2_ok, callK_ok, List.replicate, c_ev, setK_ok, set0_ev, set1_ev, set2_ev, set3_ev, set4_ev, set5_ev, set6_ev, set7_ev, set8_ev, set9_ev, sqK_nx, sqK_rt, if_ev, tb_ev, t_ev, tK_ok, tru_bl, nt_ev, ntK_ok, and_ev, or_ev, op_ev, opK_ok, opK2_ok, tbK_ok, ifK_t, ifK_f, nx_ev, rt_ev, rtK_ok, mkK_rt, mkK_nx, var0_ev, var1_ev, var2_ev, var3_ev, var4_ev, var5_ev, var6_ev, var7_ev, var8_ev, var9_ev, ixt0, ixt1, ixt2, eq_ss, ne_ss, eq_ii, ne_ii, lt_ii, le_ii, gt_ii, ge_ii, len_tup, av_ev, avK_ok, avK2_t, avK2_f, ov_ev, ovK_ok, ovK2_t, ovK2_f, aK_t, aK_f, oK_t, oK_f, tup_ev, ie_ev, ieK_t, ieK_f, un_ev, unK_ok, ex_ev, exK_ok, Bool.not_true, Bool.not_false, decide_true, decide_false, Nat.reduceSub, f_rank, d_rank, ix (x2 := none)]
      · obtain ⟨m, rfl⟩ : ∃ m, n' = m + 1 := ⟨n' - 1, by omega⟩
        simp only [mk1_ev, mk2_ev, mk3_ev, mk4_ev, sq_ev, set_ev, call_ev, args_ev, argK_ok, args_nil, argK2_ok, callK_ok, List.replicate, c_ev, setK_ok, set0_ev, set1_ev, set2_ev, set3_ev, set4_ev, set5_ev, set6_ev, set7_ev, set8_ev, set9_ev, sqK_nx, sqK_rt, if_ev, tb_ev, t_ev, tK_ok, tru_bl, nt_ev, ntK_ok, and_ev, or_ev, op_ev, opK_ok, opK2_ok, tbK_ok, ifK_t, ifK_f, nx_ev, rt_ev, rtK_ok, mkK_rt, mkK_nx, var0_ev, var1_ev, var2_ev, var3_ev, var4_ev, var5_ev, var6_ev, var7_ev, var8_ev, var9_ev, ixt0, ixt1, ixt2, eq_ss, ne_ss, eq_ii, ne_ii, lt_ii, le_ii, gt_ii, ge_ii, len_tup, av_ev, avK_ok, avK2_t, avK2_f, ov_ev, ovK_ok, ovK2_t, ovK2_f, aK_t, aK_f, oK_t, oK_f, tup_ev, ie_ev, ieK_t, ieK_f, un_ev, unK_ok, ex_ev, exK_ok, Bool.not_true, Bool.not_false, decide_true, decide_false, Nat.reduceSub, f__law_key, d__law_key, ix (x2 := none), tupK_ok (b1 _)]
    | kint =>
      obtain ⟨i, rfl⟩ := hw.inv_kint
      refine ⟨_, _, ⟨.kint i, .int _, t1 (.int _)⟩, fun n' S hn => ?_, fun n' S hn => ?_⟩
      · obtain ⟨m, rfl⟩ : ∃ m, n' = m + 1 := ⟨n' - 1, by omega⟩
        simp only [mk1_ev, mk2_ev, mk3_ev, mk4_ev, sq_ev, set_ev, call_ev, args_ev, argK_ok, args_nil, argK2_ok, callK_ok, List.replicate, c_ev, setK_ok, set0_ev, set1_ev, set2_ev, set3_ev, set4_ev, set5_ev, set6_ev, set7_ev, set8_ev, set9_ev, sqK_nx, sqK_rt, if_ev, tb_ev, t_ev, tK_ok, tru_bl, nt_ev, ntK_ok, and_ev, or_ev, op_ev, opK_ok, opK2_ok, tbK_ok, ifK_t, ifK_f, nx_ev, rt_ev, rtK_ok, mkK_rt, mkK_nx, var0_ev, var1_ev, var2_ev, var3_ev, var4_ev, var5_ev, var6_ev, var7_ev, var8_ev, var9_ev, ixt0, ixt1, ixt2, eq_ss, ne_ss, eq_ii, ne_ii, lt_ii, le_ii, gt_ii, ge_ii, len_tup, av_ev, avK_ok, avK2_t, avK2_f, ov_ev, ovK_ok, ovK2_t, ovK2_f, aK_t, aK_f, oK_t, oK_f, tup_ev, ie_ev, ieK_t, ieK_f, un_ev, unK_ok, ex_ev, exK_ok, Bool.not_true, Bool.not_false, decide_true, decide_false, Nat.reduceSub, f_rank, d_rank, sd "names" "integers", sd "names" "pair", sd "names" "either", sd "names" "maybe", sd "integers" "names", sd "integers" "pair", sd "integers" "either", sd "integers" "maybe", sd "pair" "names", sd "pair" "integers", sd "pair" "either", sd "pair" "maybe", sd "either" "names", sd "either" "integers", sd "either" "pair", sd "either" "maybe", sd "maybe" "names", sd "maybe" "integers", sd "maybe" "pair", sd "maybe" "either", rnk_ok]
      · obtain ⟨m, rfl⟩ : ∃ m, n' = m + 1 := ⟨n' - 1, by omega⟩
        have e : (2 * (if i < 0 then -i else i) - (if decide (0 < i) = true then (1 : Int) else 0)) = rnk i := by
          unfold rnk
          by_cases h : 0 < i
          · rw [if_pos h, decide_eq_true h, if_pos rfl, if_neg (by omega)]
          · rw [if_neg h, decide_eq_false h, if_neg Bool.false_ne_true]
            split <;> omega
        have m1 : ∀ j : Int, gMul (.int 2) (.int j) S = .ok (.int (2 * j)) S := fun j => mul_ii' (by decide)
        simp only [mk1_ev, mk2_ev, mk3_ev, mk4_ev, sq_ev, set_ev, call_ev, args_ev, argK_ok, args_nil, argK2_ok, callK_ok, List.replicate, c_ev, setK_ok, set0_ev, set1_ev, set2_ev, set3_ev, set4_ev, set5_ev, set6_ev, set7_ev, set8_ev, set9_ev, sqK_nx, sqK_rt, if_ev, tb_ev, t_ev, tK_ok, tru_bl, nt_ev, ntK_ok, and_ev, or_ev, op_ev, opK_ok, opK2_ok, tbK_ok, ifK_t, ifK_f, nx_ev, rt_ev, rtK_ok, mkK_rt, mkK_nx, var0_ev, var1_ev, var2_ev, var3_ev, var4_ev, var5_ev, var6_ev, var7_ev, var8_ev, var9_ev, ixt0, ixt1, ixt2, eq_ss, ne_ss, eq_ii, ne_ii, lt_ii, le_ii, gt_ii, ge_ii, len_tup, av_ev, avK_ok, avK2_t, avK2_f, ov_ev, ovK_ok, ovK2_t, ovK2_f, aK_t, aK_f, oK_t, oK_f, tup_ev, ie_ev, ieK_t, ieK_f, un_ev, unK_ok, ex_ev, exK_ok, Bool.not_true, Bool.not_false, decide_true, decide_false, Nat.reduceSub, f__law_key, d__law_key, sd "names" "integers", sd "names" "pair", sd "names" "either", sd "names" "maybe", sd "integers" "names", sd "integers" "pair", sd "integers" "either", sd "integers" "maybe", sd "pair" "names", sd "pair" "integers", sd "pair" "either", sd "pair" "maybe", sd "either" "names", sd "either" "integers", sd "either" "pair", sd "either" "maybe", sd "maybe" "names", sd "maybe" "integers", sd "maybe" "pair", sd "maybe" "either", abs_i, m1, int_b, sub_ii, e, tupK_ok (b1 _)]
    | @pair _ s s' a b h1 h2 =>
      obtain ⟨x, y, rfl, hx, hy⟩ := hw.inv_pair
      obtain ⟨r1, q1, ⟨k1, o1, p1⟩, e1, f1⟩ := ih (by omega) h1 hx
      obtain ⟨r2, q2, ⟨k2, o2, p2⟩, e2, f2⟩ := ih (by omega) h2 hy
      refine ⟨_, _, ⟨.pair k1 k2, t2 o1 o2, t2 p1 p2⟩, fun n' S hn => ?_, fun n' S hn => ?_⟩
      · obtain ⟨m, rfl⟩ : ∃ m, n' = m + 1 := ⟨n' - 1, by omega⟩
        simp only [mk1_ev, mk2_ev, mk3_ev, mk4_ev, sq_ev, set_ev, call_ev, args_ev, argK_ok, args_nil, argK2_ok, callK_ok, List.replicate, c_ev, setK_ok, set0_ev, set1_ev, set2_ev, set3_ev, set4_ev, set5_ev, set6_ev, set7_ev, set8_ev, set9_ev, sqK_nx, sqK_rt, if_ev, tb_ev, t_ev, tK_ok, tru_bl, nt_ev, ntK_ok, and_ev, or_ev, op_ev, opK_ok, opK2_ok, tbK_ok, ifK_t, ifK_f, nx_ev, rt_ev, rtK_ok, mkK_rt, mkK_nx, var0_ev, var1_ev, var2_ev, var3_ev, var4_ev, var5_ev, var6_ev, var7_ev, var8_ev, var9_ev, ixt0, ixt1, ixt2, eq_ss, ne_ss, eq_ii, ne_ii, lt_ii, le_ii, gt_ii, ge_ii, len_tup, av_ev, avK_ok, avK2_t, avK2_f, ov_ev, ovK_ok, ovK2_t, ovK2_f, aK_t, aK_f, oK_t, oK_f, tup_ev, ie_ev, ieK_t, ieK_f, un_ev, unK_ok, ex_ev, exK_ok, Bool.not_true, Bool.not_false, decide_true, decide_false, Nat.reduceSub, f_rank, d_rank, sd "names" "integers", sd "names" "pair", sd "names" "either", sd "names" "maybe", sd "integers" "names", sd "integers" "pair", sd "integers" "either", sd "integers" "maybe", sd "pair" "names", sd "pair" "integers", sd "pair" "either", sd "pair" "maybe", sd "either" "names", sd "either" "integers", sd "either" "pair", sd "either" "maybe", sd "maybe" "names", sd "maybe" "integers", sd "maybe" "pair", sd "maybe" "either", e1 m S (by omega), e2 m S (by omega), tupK_ok (b2 _ _)]
      · obtain ⟨m, rfl⟩ : ∃ m, n' = m + 1 := ⟨n' - 1, by omega⟩
        simp only [mk1_ev, mk2_ev, mk3_ev, mk4_ev, sq_ev, set_ev, call_ev, args_ev, argK_ok, args_nil, argK2_ok, callK_ok, List.replicate, c_ev, setK_ok, set0_ev, set1_ev, set2_ev, set3_ev, set4_ev, set5_ev, set6_ev, set7_ev, set8_ev, set9_ev, sqK_nx, sqK_rt, if_ev, tb_ev, t_ev, tK_ok, tru_bl, nt_ev, ntK_ok, and_ev, or_ev, op_ev, opK_ok, opK2_ok, tbK_ok, ifK_t, ifK_f, nx_ev, rt_ev, rtK_ok, mkK_rt, mkK_nx, var0_ev, var1_ev, var2_ev, var3_ev, var4_ev, var5_ev, var6_ev, var7_ev, var8_ev, var9_ev, ixt0, ixt1, ixt2, eq_ss, ne_ss, eq_ii, ne_ii, lt_ii, le_ii, gt_ii, ge_ii, len_tup, av_ev, avK_ok, avK2_t, avK2_f, ov_ev, ovK_ok, ovK2_t, ovK2_f, aK_t, aK_f, oK_t, oK_f, tup_ev, ie_ev, ieK_t, ieK_f, un_ev, unK_ok, ex_ev, exK_ok, Bool.not_true, Bool.not_false, decide_true, decide_false, Nat.reduceSub, f__law_key, d__law_key, sd "names" "integers", sd "names" "pair", sd "names" "either", sd "names" "maybe", sd "integers" "names", sd "integers" "pair", sd "integers" "either", sd "integers" "maybe", sd "pair" "names", sd "pair" "integers", sd "pair" "either", sd "pair" "maybe", sd "either" "names", sd "either" "integers", sd "either" "pair", sd "either" "maybe", sd "maybe" "names", sd "maybe" "integers", sd "maybe" "pair", sd "maybe" "either", f1 m S (by omega), f2 m S (by omega), tupK_ok (b2 _ _)]
    | @either _ s ks h1 h2 h3 =>
      obtain ⟨i, a, x, rfl, i0, ia, hx⟩ := hw.inv_either
      obtain ⟨z', hz⟩ := h1.mem a (List.mem_of_getElem? ia)
      obtain ⟨r1, q1, ⟨k1, o1, p1⟩, e1, f1⟩ := ih (by omega) hz hx
      refine ⟨_, _, ⟨.case i0 ia k1, t2 (.int _) o1, t2 (.int _) p1⟩, fun n' S hn => ?_, fun n' S hn => ?_⟩
      · obtain ⟨m, rfl⟩ : ∃ m, n' = m + 1 := ⟨n' - 1, by omega⟩
        simp only [mk1_ev, mk2_ev, mk3_ev, mk4_ev, sq_ev, set_ev, call_ev, args_ev, argK_ok, args_nil, argK2_ok, callK_ok, List.replicate, c_ev, setK_ok, set0_ev, set1_ev, set2_ev, set3_ev, set4_ev, set5_ev, set6_ev, set7_ev, set8_ev, set9_ev, sqK_nx, sqK_rt, if_ev, tb_ev, t_ev, tK_ok, tru_bl, nt_ev, ntK_ok, and_ev, or_ev, op_ev, opK_ok, opK2_ok, tbK_ok, ifK_t, ifK_f, nx_ev, rt_ev, rtK_ok, mkK_rt, mkK_nx, var0_ev, var1_ev, var2_ev, var3_ev, var4_ev, var5_ev, var6_ev, var7_ev, var8_ev, var9_ev, ixt0, ixt1, ixt2, eq_ss, ne_ss, eq_ii, ne_ii, lt_ii, le_ii, gt_ii, ge_ii, len_tup, av_ev, avK_ok, avK2_t, avK2_f, ov_ev, ovK_ok, ovK2_t, ovK2_f, aK_t, aK_f, oK_t, oK_f, tup_ev, ie_ev, ieK_t, ieK_f, un_ev, unK_ok, ex_ev, exK_ok, Bool.not_true, Bool.not_false, decide_true, decide_false, Nat.reduceSub, f_rank, d_rank, sd "names" "integers", sd "names" "pair", sd "names" "either", sd "names" "maybe", sd "integers" "names", sd "integers" "pair", sd "integers" "either", sd "integers" "maybe", sd "pair" "names", sd "pair" "integers", sd "pair" "either", sd "pair" "maybe", sd "either" "names", sd "either" "integers", sd "either" "pair", sd "either" "maybe", sd "maybe" "names", sd "maybe" "integers", sd "maybe" "pair", sd "maybe" "either", ixAt i0 ia, e1 m S (by omega), tupK_ok (b2 _ _)]
      · obtain ⟨m, rfl⟩ : ∃ m, n' = m + 1 := ⟨n' - 1, by omega⟩
        simp only [mk1_ev, mk2_ev, mk3_ev, mk4_ev, sq_ev, set_ev, call_ev, args_ev, argK_ok, args_nil, argK2_ok, callK_ok, List.replicate, c_ev, setK_ok, set0_ev, set1_ev, set2_ev, set3_ev, set4_ev, set5_ev, set6_ev, set7_ev, set8_ev, set9_ev, sqK_nx, sqK_rt, if_ev, tb_ev, t_ev, tK_ok, tru_bl, nt_ev, ntK_ok, and_ev, or_ev, op_ev, opK_ok, opK2_ok, tbK_ok, ifK_t, ifK_f, nx_ev, rt_ev, rtK_ok, mkK_rt, mkK_nx, var0_ev, var1_ev, var2_ev, var3_ev, var4_ev, var5_ev, var6_ev, var7_ev, var8_ev, var9_ev, ixt0, ixt1, ixt2, eq_ss, ne_ss, eq_ii, ne_ii, lt_ii, le_ii, gt_ii, ge_ii, len_tup, av_ev, avK_ok, avK2_t, avK2_f, ov_ev, ovK_ok, ovK2_t, ovK2_f, aK_t, aK_f, oK_t, oK_f, tup_ev, ie_ev, ieK_t, ieK_f, un_ev, unK_ok, ex_ev, exK_ok, Bool.not_true, Bool.not_false, decide_true, decide_false, Nat.reduceSub, f__law_key, d__law_key, sd "names" "integers", sd "names" "pair", sd "names" "either", sd "names" "maybe", sd "integers" "names", sd "integers" "pair", sd "integers" "either", sd "integers" "maybe", sd "pair" "names", sd "pair" "integers", sd "pair" "either", sd "pair" "maybe", sd "either" "names", sd "either" "integers", sd "either" "pair", sd "either" "maybe", sd "maybe" "names", sd "maybe" "integers", sd "maybe" "pair", sd "maybe" "either", ixAt i0 ia, f1 m S (by omega), tupK_ok (b2 _ _)]
    | @maybe _ s a h1 =>
      rcases hw.inv_maybe with rfl | ⟨x, rfl, hx⟩
      · have hno := fun S => none_ok (S := S) hok (by omega)
        rw [show isNone [strW "none"] = true from head_self "none" []] at hno
        refine ⟨_, _, ⟨.none, .tup (fun _ h => nomatch h), t1 (.int _)⟩, fun n' S hn => ?_, fun n' S hn => ?_⟩
        · obtain ⟨m, rfl⟩ : ∃ m, n' = m + 1 := ⟨n' - 1, by omega⟩
          simp only [mk1_ev, mk2_ev, mk3_ev, mk4_ev, sq_ev, set_ev, call_ev, args_ev, argK_ok, args_nil, argK2_ok, callK_ok, List.replicate, c_ev, setK_ok, set0_ev, set1_ev, set2_ev, set3_ev, set4_ev, set5_ev, set6_ev, set7_ev, set8_ev, set9_ev, sqK_nx, sqK_rt, if_ev, tb_ev, t_ev, tK_ok, tru_bl, nt_ev, ntK_ok, and_ev, or_ev, op_ev, opK_ok, opK2_ok, tbK_ok, ifK_t, ifK_f, nx_ev, rt_ev, rtK_ok, mkK_rt, mkK_nx, var0_ev, var1_ev, var2_ev, var3_ev, var4_ev, var5_ev, var6_ev, var7_ev, var8_ev, var9_ev, ixt0, ixt1, ixt2, eq_ss, ne_ss, eq_ii, ne_ii, lt_ii, le_ii, gt_ii, ge_ii, len_tup, av_ev, avK_ok, avK2_t, avK2_f, ov_ev, ovK_ok, ovK2_t, ovK2_f, aK_t, aK_f, oK_t, oK_f, tup_ev, ie_ev, ieK_t, ieK_f, un_ev, unK_ok, ex_ev, exK_ok, Bool.not_true, Bool.not_false, decide_true, decide_false, Nat.reduceSub, f_rank, d_rank, sd "names" "integers", sd "names" "pair", sd "names" "either", sd "names" "maybe", sd "integers" "names", sd "integers" "pair", sd "integers" "either", sd "integers" "maybe", sd "pair" "names", sd "pair" "integers", sd "pair" "either", sd "pair" "maybe", sd "either" "names", sd "either" "integers", sd "either" "pair", sd "either" "maybe", sd "maybe" "names", sd "maybe" "integers", sd "maybe" "pair", sd "maybe" "either", tupK_ok (b1 _), tupK_ok b0, hno]
        · obtain ⟨m, rfl⟩ : ∃ m, n' = m + 1 := ⟨n' - 1, by omega⟩
          simp only [mk1_ev, mk2_ev, mk3_ev, mk4_ev, sq_ev, set_ev, call_ev, args_ev, argK_ok, args_nil, argK2_ok, callK_ok, List.replicate, c_ev, setK_ok, set0_ev, set1_ev, set2_ev, set3_ev, set4_ev, set5_ev, set6_ev, set7_ev, set8_ev, set9_ev, sqK_nx, sqK_rt, if_ev, tb_ev, t_ev, tK_ok, tru_bl, nt_ev, ntK_ok, and_ev, or_ev, op_ev, opK_ok, opK2_ok, tbK_ok, ifK_t, ifK_f, nx_ev, rt_ev, rtK_ok, mkK_rt, mkK_nx, var0_ev, var1_ev, var2_ev, var3_ev, var4_ev, var5_ev, var6_ev, var7_ev, var8_ev, var9_ev, ixt0, ixt1, ixt2, eq_ss, ne_ss, eq_ii, ne_ii, lt_ii, le_ii, gt_ii, ge_ii, len_tup, av_ev, avK_ok, avK2_t, avK2_f, ov_ev, ovK_ok, ovK2_t, ovK2_f, aK_t, aK_f, oK_t, oK_f, tup_ev, ie_ev, ieK_t, ieK_f, un_ev, unK_ok, ex_ev, exK_ok, Bool.not_true, Bool.not_false, decide_true, decide_false, Nat.reduceSub, f__law_key, d__law_key, sd "names" "integers", sd "names" "pair", sd "names" "either", sd "names" "maybe", sd "integers" "names", sd "integers" "pair", sd "integers" "either", sd "integers" "maybe", sd "pair" "names", sd "pair" "integers", sd "pair" "either", sd "pair" "maybe", sd "either" "names", sd "either" "integers", sd "either" "pair", sd "either" "maybe", sd "maybe" "names", sd "maybe" "integers", sd "maybe" "pair", sd "maybe" "either", tupK_ok (b1 _)]
      · obtain ⟨r1, q1, ⟨k1, o1, p1⟩, e1, f1⟩ := ih (by omega) h1 hx
        have hno := fun S => none_ok (S := S) hok (by omega)
        rw [show isNone [strW "some", x] = false from rfl] at hno
        refine ⟨_, _, ⟨.some k1, t1 o1, t2 (.int _) p1⟩, fun n' S hn => ?_, fun n' S hn => ?_⟩
        · obtain ⟨m, rfl⟩ : ∃ m, n' = m + 1 := ⟨n' - 1, by omega⟩
          simp only [mk1_ev, mk2_ev, mk3_ev, mk4_ev, sq_ev, set_ev, call_ev, args_ev, argK_ok, args_nil, argK2_ok, callK_ok, List.replicate, c_ev, setK_ok, set0_ev, set1_ev, set2_ev, set3_ev, set4_ev, set5_ev, set6_ev, set7_ev, set8_ev, set9_ev, sqK_nx, sqK_rt, if_ev, tb_ev, t_ev, tK_ok, tru_bl, nt_ev, ntK_ok, and_ev, or_ev, op_ev, opK_ok, opK2_ok, tbK_ok, ifK_t, ifK_f, nx_ev, rt_ev, rtK_ok, mkK_rt, mkK_nx, var0_ev, var1_ev, var2_ev, var3_ev, var4_ev, var5_ev, var6_ev, var7_ev, var8_ev, var9_ev, ixt0, ixt1, ixt2, eq_ss, ne_ss, eq_ii, ne_ii, lt_ii, le_ii, gt_ii, ge_ii, len_tup, av_ev, avK_ok, avK2_t, avK2_f, ov_ev, ovK_ok, ovK2_t, ovK2_f, aK_t, aK_f, oK_t, oK_f, tup_ev, ie_ev, ieK_t, ieK_f, un_ev, unK_ok, ex_ev, exK_ok, Bool.not_true, Bool.not_false, decide_true, decide_false, Nat.reduceSub, f_rank, d_rank, sd "names" "integers", sd "names" "pair", sd "names" "either", sd "names" "maybe", sd "integers" "names", sd "integers" "pair", sd "integers" "either", sd "integers" "maybe", sd "pair" "names", sd "pair" "integers", sd "pair" "either", sd "pair" "maybe", sd "either" "names", sd "either" "integers", sd "either" "pair", sd "either" "maybe", sd "maybe" "names", sd "maybe" "integers", sd "maybe" "pair", sd "maybe" "either", tupK_ok (b1 _), hno, e1 m S (by omega)]
        · obtain ⟨m, rfl⟩ : ∃ m, n' = m + 1 := ⟨n' - 1, by omega⟩
          simp only [mk1_ev, mk2_ev, mk3_ev, mk4_ev, sq_ev, set_ev, call_ev, args_ev, argK_ok, args_nil, argK2_ok, callK_ok, List.replicate, c_ev, setK_ok, set0_ev, set1_ev, set2_ev, set3_ev, set4_ev, set5_ev, set6_ev, set7_ev, set8_ev, set9_ev, sqK_nx, sqK_rt, if_ev, tb_ev, t_ev, tK_ok, tru_bl, nt_ev, ntK_ok, and_ev, or_ev, op_ev, opK_ok, opK2_ok, tbK_ok, ifK_t, ifK_f, nx_ev, rt_ev, rtK_ok, mkK_rt, mkK_nx, var0_ev, var1_ev, var2_ev, var3_ev, var4_ev, var5_ev, var6_ev, var7_ev, var8_ev, var9_ev, ixt0, ixt1, ixt2, eq_ss, ne_ss, eq_ii, ne_ii, lt_ii, le_ii, gt_ii, ge_ii, len_tup, av_ev, avK_ok, avK2_t, avK2_f, ov_ev, ovK_ok, ovK2_t, ovK2_f, aK_t, aK_f, oK_t, oK_f, tup_ev, ie_ev, ieK_t, ieK_f, un_ev, unK_ok, ex_ev, exK_ok, Bool.not_true, Bool.not_false, decide_true, decide_false, Nat.reduceSub, f__law_key, d__law_key, sd "names" "integers", sd "names" "pair", sd "names" "either", sd "names" "maybe", sd "integers" "names", sd "integers" "pair", sd "integers" "either", sd "integers" "maybe", sd "pair" "names", sd "pair" "integers", sd "pair" "either", sd "pair" "maybe", sd "either" "names", sd "either" "integers", sd "either" "pair", sd "either" "maybe", sd "maybe" "names", sd "maybe" "integers", sd "maybe" "pair", sd "maybe" "either", sd "some" "none", tupK_ok (b2 _ _), f1 m S (by omega)]
end G
set_option maxHeartbeats 4000000
namespace G
open PySem L2 Fs
/-! ### ranks and keys order alike -/
structure Cm (S : Store) (r r' q q' : W) (c : Ordering) : Prop where
  re : PyData.eqv (toD S r) (toD S r') = (c == .eq)
  rl : Od.ordD false (toD S r) (toD S r') = Option.some (c == .lt)
  qe : PyData.eqv (toD S q) (toD S q') = (c == .eq)
  ql : Od.ordD false (toD S q) (toD S q') = Option.some (c == .lt)
  qg : Od.ordD true (toD S q) (toD S q') = Option.some (c == .gt)
theorem toD_tup {S : Store} {ws : List W} : toD S (.tup ws) = .tuple (toDA S ws) := by rw [toD]
theorem toD_int {S : Store} {i : Int} : toD S (.int i) = .int i := by rw [toD]
theorem toDA_cons {S : Store} {w : W} {ws : List W} : toDA S (w :: ws) = toD S w :: toDA S ws := by rw [toDA]
theorem toDA_nil {S : Store} : toDA S [] = [] := by rw [toDA]
theorem eqv_int {i j : Int} : PyData.eqv (.int i) (.int j) = (i == j) := by rw [PyData.eqv]
theorem eqv_tup {xs ys : List PyData} : PyData.eqv (.tuple xs) (.tuple ys) = PyData.eqvAll xs ys := by rw [PyData.eqv]
theorem eqvA_cons {x y : PyData} {xs ys : List PyData} : PyData.eqvAll (x :: xs) (y :: ys) = (PyData.eqv x y && PyData.eqvAll xs ys) := by rw [PyData.eqvAll]
theorem eqvA_nil : PyData.eqvAll [] [] = true := by rw [PyData.eqvAll]
theorem eqvA_nc {x : PyData} {xs : List PyData} : PyData.eqvAll [] (x :: xs) = false := by rw [PyData.eqvAll]
theorem eqvA_cn {x : PyData} {xs : List PyData} : PyData.eqvAll (x :: xs) [] = false := by rw [PyData.eqvAll]
theorem ordD_int {g : Bool} {i j : Int} : Od.ordD g (.int i) (.int j) = Option.some (if g then decide (j < i) else decide (i < j)) := by rw [Od.ordD]
theorem ordD_tup {g : Bool} {xs ys : List PyData} : Od.ordD g (.tuple xs) (.tuple ys) = Od.ordA g xs ys := by rw [Od.ordD]
theorem ordA_nn {g : Bool} : Od.ordA g [] [] = Option.some false := by rw [Od.ordA]
theorem ordA_nc {g : Bool} {x : PyData} {xs : List PyData} : Od.ordA g [] (x :: xs) = Option.some (!g) := by rw [Od.ordA]
theorem ordA_cn {g : Bool} {x : PyData} {xs : List PyData} : Od.ordA g (x :: xs) [] = Option.some g := by rw [Od.ordA]
/-- how two numbers stand -/
def cmpI (i j : Int) : Ordering := if i = j then .eq else if i < j then .lt else .gt
theorem cmpI_e (i j : Int) : (i == j) = (cmpI i j == .eq) := by
  unfold cmpI
  by_cases h : i = j
  · rw [if_pos h, h]; simp
  · rw [if_neg h]
    split <;> simp [h]
theorem cmpI_l (i j : Int) : decide (i < j) = (cmpI i j == .lt) := by
  unfold cmpI
  by_cases h : i = j
  · rw [if_pos h, h]; simp
  · rw [if_neg h]
    by_cases h2 : i < j
    · rw [if_pos h2]; simp [h2]
    · rw [if_neg h2]; simp [h2]
theorem cmpI_g (i j : Int) : decide (j < i) = (cmpI i j == .gt) := by
  unfold cmpI
  by_cases h : i = j
  · rw [if_pos h, h]; simp
  · rw [if_neg h]
    by_cases h2 : i < j
    · rw [if_pos h2]; simp; omega
    · rw [if_neg h2]; simp; omega
theorem tup1_e {a b : PyData} {c : Ordering} (h : PyData.eqv a b = (c == .eq)) : PyData.eqv (.tuple [a]) (.tuple [b]) = (c == .eq) := by rw [eqv_tup, eqvA_cons, eqvA_nil, h, Bool.and_true]
theorem tup1_o {g : Bool} {a b : PyData} {c d : Ordering} (h : PyData.eqv a b = (c == .eq)) (h2 : Od.ordD g a b = Option.some (c == d)) (hd : d ≠ .eq) : Od.ordD g (.tuple [a]) (.tuple [b]) = Option.some (c == d) := by
  rw [ordD_tup, Od.ordA_cons, h, h2, ordA_nn]
  cases c <;> cases d <;> first | rfl | exact absurd rfl hd
theorem tup2_e {a b a' b' : PyData} {c c' : Ordering} (h : PyData.eqv a b = (c == .eq)) (h' : PyData.eqv a' b' = (c' == .eq)) : PyData.eqv (.tuple [a, a']) (.tuple [b, b']) = (c.then c' == .eq) := by
  rw [eqv_tup, eqvA_cons, eqvA_cons, eqvA_nil, h, h']
  cases c <;> cases c' <;> rfl
theorem tup2_o {g : Bool} {a b a' b' : PyData} {c c' d : Ordering} (h : PyData.eqv a b = (c == .eq)) (h' : PyData.eqv a' b' = (c' == .eq)) (h2 : Od.ordD g a b = Option.some (c == d)) (h2' : Od.ordD g a' b' = Option.some (c' == d)) (hd : d ≠ .eq) :
    Od.ordD g (.tuple [a, a']) (.tuple [b, b']) = Option.some (c.then c' == d) := by
  rw [ordD_tup, Od.ordA_cons, Od.ordA_cons, h, h', h2, h2', ordA_nn]
  cases c <;> cases c' <;> cases d <;> first | rfl | exact absurd rfl hd
/-- two places of which the first ones differ -/
theorem tup2_oN {g : Bool} {a b a' b' : PyData} {c d : Ordering} (h : PyData.eqv a b = (c == .eq)) (hc : c ≠ .eq) (h2 : Od.ordD g a b = Option.some (c == d)) : Od.ordD g (.tuple [a, a']) (.tuple [b, b']) = Option.some (c == d) := by
  rw [ordD_tup, Od.ordA_cons, h, h2]
  cases c <;> first | rfl | exact absurd rfl hc
theorem tup2_eN {a b a' b' : PyData} {c : Ordering} (h : PyData.eqv a b = (c == .eq)) (hc : c ≠ .eq) : PyData.eqv (.tuple [a, a']) (.tuple [b, b']) = (c == .eq) := by
  rw [eqv_tup, eqvA_cons, h]
  cases c <;> first | rfl | exact absurd rfl hc
theorem Rk.inv_names {ns : List Str} {w r q : W} (h : Rk (.tup [strW "names", .tup (ns.map .str)]) w r q) : ∃ j : Nat, r = .int j ∧ q = .tup [.int j] := by
  generalize e : W.tup [strW "names", .tup (ns.map .str)] = k at h
  cases h with
  | @name ms x j hx => exact ⟨j, rfl, rfl⟩
  | kint _ => exact (heads e).elim
  | pair _ _ => exact (heads e).elim
  | case _ _ _ => exact (heads e).elim
  | none => exact (heads e).elim
  | some _ => exact (heads e).elim
theorem Rk.inv_kint {w r q : W} (h : Rk (.tup [strW "integers"]) w r q) : ∃ i : Int, r = .int i ∧ q = .tup [.int i] := by
  generalize e : W.tup [strW "integers"] = k at h
  cases h with
  | name _ => exact (heads e).elim
  | kint i => exact ⟨_, rfl, rfl⟩
  | pair _ _ => exact (heads e).elim
  | case _ _ _ => exact (heads e).elim
  | none => exact (heads e).elim
  | some _ => exact (heads e).elim
theorem Rk.inv_pair {a b w r q : W} (h : Rk (.tup [strW "pair", a, b]) w r q) : ∃ x y r1 r2 q1 q2, r = .tup [r1, r2] ∧ q = .tup [q1, q2] ∧ Rk a x r1 q1 ∧ Rk b y r2 q2 := by
  generalize e : W.tup [strW "pair", a, b] = k at h
  cases h with
  | name _ => exact (heads e).elim
  | kint i => exact (heads e).elim
  | pair h1 h2 =>
    injection e with e
    injection e with _ e
    injection e with e1 e
    injection e with e2 _
    subst e1 e2
    exact ⟨_, _, _, _, _, _, rfl, rfl, h1, h2⟩
  | case _ _ _ => exact (heads e).elim
  | none => exact (heads e).elim
  | some _ => exact (heads e).elim
theorem Rk.inv_either {ks : List W} {w r q : W} (h : Rk (.tup [strW "either", .tup ks]) w r q) : ∃ (i : Int) (a x r1 q1 : W), r = .tup [.int i, r1] ∧ q = .tup [.int i, q1] ∧ 0 ≤ i ∧ ks[i.toNat]? = Option.some a ∧ Rk a x r1 q1 := by
  generalize e : W.tup [strW "either", .tup ks] = k at h
  cases h with
  | name _ => exact (heads e).elim
  | kint i => exact (heads e).elim
  | pair _ _ => exact (heads e).elim
  | case h1 h2 h3 =>
    injection e with e
    injection e with _ e
    injection e with e1 _
    injection e1 with e1
    subst e1
    exact ⟨_, _, _, _, _, rfl, rfl, h1, h2, h3⟩
  | none => exact (heads e).elim
  | some _ => exact (heads e).elim
theorem Rk.inv_maybe {a w r q : W} (h : Rk (.tup [strW "maybe", a]) w r q) : (r = .tup [] ∧ q = .tup [.int 0]) ∨ ∃ x r1 q1, r = .tup [r1] ∧ q = .tup [.int 1, q1] ∧ Rk a x r1 q1 := by
  generalize e : W.tup [strW "maybe", a] = k at h
  cases h with
  | name _ => exact (heads e).elim
  | kint i => exact (heads e).elim
  | pair _ _ => exact (heads e).elim
  | case _ _ _ => exact (heads e).elim
  | none => exact .inl ⟨rfl, rfl⟩
  | some h1 =>
    injection e with e
    injection e with _ e
    injection e with e1 _
    subst e1
    exact .inr ⟨_, _, _, rfl, rfl, h1⟩
theorem cm_int {S : Store} (i j : Int) : Cm S (.int i) (.int j) (.tup [.int i]) (.tup [.int j]) (cmpI i j) := by
  have l := cmpI_l i j
  have g := cmpI_g i j
  have e := cmpI_e i j
  refine ⟨?_, ?_, ?_, ?_, ?_⟩
  · rw [toD_int, toD_int, eqv_int, e]
  · rw [toD_int, toD_int, ordD_int, if_neg Bool.false_ne_true, l]
  · rw [toD_tup, toD_tup, toDA_cons, toDA_cons, toDA_nil, toD_int, toD_int]
    exact tup1_e (by rw [eqv_int, e])
  · rw [toD_tup, toD_tup, toDA_cons, toDA_cons, toDA_nil, toD_int, toD_int]
    exact tup1_o (by rw [eqv_int, e]) (by rw [ordD_int, if_neg Bool.false_ne_true, l]) (by decide)
  · rw [toD_tup, toD_tup, toDA_cons, toDA_cons, toDA_nil, toD_int, toD_int]
    exact tup1_o (by rw [eqv_int, e]) (by rw [ordD_int, if_pos rfl, g]) (by decide)
theorem toD2 {S : Store} {a b : W} : toD S (.tup [a, b]) = .tuple [toD S a, toD S b] := by rw [toD_tup, toDA_cons, toDA_cons, toDA_nil]
theorem toD1 {S : Store} {a : W} : toD S (.tup [a]) = .tuple [toD S a] := by rw [toD_tup, toDA_cons, toDA_nil]
theorem toD0' {S : Store} : toD S (.tup []) = .tuple [] := by rw [toD_tup, toDA_nil]
theorem cm_pair {S : Store} {r1 r2 q1 q2 s1 s2 p1 p2 : W} {c d : Ordering} (h : Cm S r1 s1 q1 p1 c) (h' : Cm S r2 s2 q2 p2 d) : Cm S (.tup [r1, r2]) (.tup [s1, s2]) (.tup [q1, q2]) (.tup [p1, p2]) (c.then d) := by
  refine ⟨?_, ?_, ?_, ?_, ?_⟩ <;> rw [toD2, toD2]
  · exact tup2_e h.re h'.re
  · exact tup2_o h.re h'.re h.rl h'.rl (by decide)
  · exact tup2_e h.qe h'.qe
  · exact tup2_o h.qe h'.qe h.ql h'.ql (by decide)
  · exact tup2_o h.qe h'.qe h.qg h'.qg (by decide)
theorem int_oe {i j : Int} : PyData.eqv (.int i) (.int j) = (cmpI i j == .eq) := by rw [eqv_int, cmpI_e]
theorem int_ol {i j : Int} : Od.ordD false (.int i) (.int j) = Option.some (cmpI i j == .lt) := by rw [ordD_int, if_neg Bool.false_ne_true, cmpI_l]
theorem int_og {i j : Int} : Od.ordD true (.int i) (.int j) = Option.some (cmpI i j == .gt) := by rw [ordD_int, if_pos rfl, cmpI_g]
theorem cm_caseN {S : Store} {i j : Int} {r1 s1 q1 p1 : W} (h : i ≠ j) : Cm S (.tup [.int i, r1]) (.tup [.int j, s1]) (.tup [.int i, q1]) (.tup [.int j, p1]) (cmpI i j) := by
  have hc : cmpI i j ≠ .eq := by
    unfold cmpI
    rw [if_neg h]
    split <;> simp
  refine ⟨?_, ?_, ?_, ?_, ?_⟩ <;> rw [toD2, toD2, toD_int, toD_int]
  · exact tup2_eN int_oe hc
  · exact tup2_oN int_oe hc int_ol
  · exact tup2_eN int_oe hc
  · exact tup2_oN int_oe hc int_ol
  · exact tup2_oN int_oe hc int_og
theorem cm_case {S : Store} {i : Int} {r1 s1 q1 p1 : W} {c : Ordering} (h : Cm S r1 s1 q1 p1 c) : Cm S (.tup [.int i, r1]) (.tup [.int i, s1]) (.tup [.int i, q1]) (.tup [.int i, p1]) c := by
  have hc : cmpI i i = .eq := by unfold cmpI; rw [if_pos rfl]
  have e : c = (cmpI i i).then c := by rw [hc]; rfl
  rw [e]
  refine ⟨?_, ?_, ?_, ?_, ?_⟩ <;> rw [toD2, toD2, toD_int]
  · exact tup2_e int_oe h.re
  · exact tup2_o int_oe h.re int_ol h.rl (by decide)
  · exact tup2_e int_oe h.qe
  · exact tup2_o int_oe h.qe int_ol h.ql (by decide)
  · exact tup2_o int_oe h.qe int_og h.qg (by decide)
theorem cm_some {S : Store} {r1 s1 q1 p1 : W} {c : Ordering} (h : Cm S r1 s1 q1 p1 c) : Cm S (.tup [r1]) (.tup [s1]) (.tup [.int 1, q1]) (.tup [.int 1, p1]) c := by
  have h2 := cm_case (i := 1) h
  exact ⟨by rw [toD1, toD1]; exact tup1_e h.re, by rw [toD1, toD1]; exact tup1_o h.re h.rl (by decide), h2.qe, h2.ql, h2.qg⟩
theorem cm_nn {S : Store} : Cm S (.tup []) (.tup []) (.tup [.int 0]) (.tup [.int 0]) .eq := by
  have h := cm_int (S := S) 0 0
  exact ⟨by rw [toD0', eqv_tup, eqvA_nil]; rfl, by rw [toD0', ordD_tup, ordA_nn]; rfl, h.qe, h.ql, h.qg⟩
theorem cm_ns {S : Store} {s1 p1 : W} : Cm S (.tup []) (.tup [s1]) (.tup [.int 0]) (.tup [.int 1, p1]) .lt := by
  refine ⟨?_, ?_, ?_, ?_, ?_⟩
  · rw [toD0', toD1, eqv_tup, eqvA_nc]; rfl
  · rw [toD0', toD1, ordD_tup, ordA_nc]; rfl
  · rw [toD1, toD2, eqv_tup, eqvA_cons, toD_int, toD_int, eqv_int]; rfl
  · rw [toD1, toD2, ordD_tup, Od.ordA_cons, toD_int, toD_int, eqv_int, ordD_int]; rfl
  · rw [toD1, toD2, ordD_tup, Od.ordA_cons, toD_int, toD_int, eqv_int, ordD_int]; rfl
theorem cm_sn {S : Store} {s1 p1 : W} : Cm S (.tup [s1]) (.tup []) (.tup [.int 1, p1]) (.tup [.int 0]) .gt := by
  refine ⟨?_, ?_, ?_, ?_, ?_⟩
  · rw [toD0', toD1, eqv_tup, eqvA_cn]; rfl
  · rw [toD0', toD1, ordD_tup, ordA_cn]; rfl
  · rw [toD1, toD2, eqv_tup, eqvA_cons, toD_int, toD_int, eqv_int]; rfl
  · rw [toD1, toD2, ordD_tup, Od.ordA_cons, toD_int, toD_int, eqv_int, ordD_int]; rfl
  · rw [toD1, toD2, ordD_tup, Od.ordA_cons, toD_int, toD_int, eqv_int, ordD_int]; rfl
theorem cm_of {S : Store} {k w r q : W} (h : Rk k w r q) : ∀ {w' r' q' : W}, Rk k w' r' q' → ∃ c, Cm S r r' q q' c := by
  induction h with
  | @name ns x j hj =>
    intro w' r' q' h'
    obtain ⟨j', rfl, rfl⟩ := h'.inv_names
    exact ⟨_, cm_int _ _⟩
  | kint i =>
    intro w' r' q' h'
    obtain ⟨j', rfl, rfl⟩ := h'.inv_kint
    exact ⟨_, cm_int _ _⟩
  | pair _ _ ih1 ih2 =>
    intro w' r' q' h'
    obtain ⟨x, y, r1, r2, q1, q2, rfl, rfl, h1, h2⟩ := h'.inv_pair
    obtain ⟨c, hc⟩ := ih1 h1
    obtain ⟨d, hd⟩ := ih2 h2
    exact ⟨_, cm_pair hc hd⟩
  | @case ks i a x r q h0 ha hk ih =>
    intro w' r' q' h'
    obtain ⟨j, b, y, r1, q1, rfl, rfl, j0, hb, h1⟩ := h'.inv_either
    by_cases e : i = j
    · subst e
      rw [ha] at hb
      cases hb
      obtain ⟨c, hc⟩ := ih h1
      exact ⟨_, cm_case hc⟩
    · exact ⟨_, cm_caseN e⟩
  | none =>
    intro w' r' q' h'
    rcases h'.inv_maybe with ⟨rfl, rfl⟩ | ⟨x, r1, q1, rfl, rfl, h1⟩
    · exact ⟨_, cm_nn⟩
    · exact ⟨_, cm_ns⟩
  | some _ ih =>
    intro w' r' q' h'
    rcases h'.inv_maybe with ⟨rfl, rfl⟩ | ⟨x, r1, q1, rfl, rfl, h1⟩
    · exact ⟨_, cm_sn⟩
    · obtain ⟨c, hc⟩ := ih h1
      exact ⟨_, cm_some hc⟩
end G
set_option maxHeartbeats 4000000
namespace G
open PySem L2 Fs
/-! ### words: ranks and keys -/
theorem OkW.D0 (S : Store) : ∀ {n : Nat} {w : W}, OkW n w → toD0 w = toD S w := by
  have all : ∀ {n : Nat}, (∀ {w : W}, OkW n w → toD0 w = toD S w) → ∀ ws : List W, (∀ w ∈ ws, OkW n w) → toDA0 ws = toDA S ws := fun {n} ih ws => by
    induction ws with
    | nil => intro _; unfold toDA0 toDA; rfl
    | cons w ws ihw =>
      intro h
      unfold toDA0 toDA
      rw [ih (h w List.mem_cons_self), ihw fun x hx => h x (List.mem_cons_of_mem _ hx)]
  intro n
  induction n with
  | zero =>
    intro w h
    cases h with
    | non => unfold toD0 toD; rfl
    | bl b => unfold toD0 toD; rfl
    | int i => unfold toD0 toD; rfl
    | str _ => unfold toD0 toD; rfl
  | succ n ih =>
    intro w h
    cases h with
    | non => unfold toD0 toD; rfl
    | bl b => unfold toD0 toD; rfl
    | int i => unfold toD0 toD; rfl
    | str _ => unfold toD0 toD; rfl
    | tup h =>
      unfold toD0 toD
      rw [all ih _ h]
inductive RkA (k : W) : List W → List W → List W → Prop
  | nil : RkA k [] [] []
  | cons {x r q : W} {xs rs qs : List W} : Rk k x r q → OkW 4 r → OkW 4 q → (∀ S, f_rank 4 [k, x] S = .ok r S) → (∀ S, f__law_key 4 [k, x] S = .ok q S) → RkA k xs rs qs → RkA k (x :: xs) (r :: rs) (q :: qs)
theorem rka_of {z : Int} {k : W} (hk : Kd 4 z k) : ∀ {xs : List W}, (∀ x ∈ xs, Lt k x) → ∃ rs qs, RkA k xs rs qs
  | [], _ => ⟨[], [], .nil⟩
  | x :: xs, h => by
    obtain ⟨r, q, ⟨h1, o1, o2⟩, e1, e2⟩ := rank_ok (by omega) hk (h x List.mem_cons_self)
    obtain ⟨rs, qs, hr⟩ := rka_of hk (xs := xs) fun y hy => h y (List.mem_cons_of_mem _ hy)
    exact ⟨_, _, .cons h1 o1 o2 (fun S => e1 4 S (Nat.le_refl _)) (fun S => e2 4 S (Nat.le_refl _)) hr⟩
theorem RkA.len {k : W} {xs rs qs : List W} (h : RkA k xs rs qs) : rs.length = xs.length ∧ qs.length = xs.length := by
  induction h with
  | nil => exact ⟨rfl, rfl⟩
  | cons _ _ _ _ _ _ ih => exact ⟨by rw [List.length_cons, List.length_cons, ih.1], by rw [List.length_cons, List.length_cons, ih.2]⟩
theorem RkA.ok {k : W} {xs rs qs : List W} (h : RkA k xs rs qs) : (∀ r ∈ rs, OkW 4 r) ∧ ∀ q ∈ qs, OkW 4 q := by
  induction h with
  | nil => exact ⟨(fun _ h => nomatch h), (fun _ h => nomatch h)⟩
  | cons _ o1 o2 _ _ _ ih =>
    refine ⟨fun r hr => ?_, fun q hq => ?_⟩
    · rcases List.mem_cons.mp hr with rfl | hr
      · exact o1
      · exact ih.1 r hr
    · rcases List.mem_cons.mp hq with rfl | hq
      · exact o2
      · exact ih.2 q hq
structure CmA (S : Store) (rs rs' qs qs' : List W) (c : Ordering) : Prop where
  re : PyData.eqvAll (toDA0 rs) (toDA0 rs') = (c == .eq)
  rl : Od.ordL (toDA0 rs) (toDA0 rs') = Option.some (c == .lt)
  qe : PyData.eqvAll (toDA S qs) (toDA S qs') = (c == .eq)
  ql : Od.ordA false (toDA S qs) (toDA S qs') = Option.some (c == .lt)
  qg : Od.ordA true (toDA S qs) (toDA S qs') = Option.some (c == .gt)
theorem toDA0_cons {w : W} {ws : List W} : toDA0 (w :: ws) = toD0 w :: toDA0 ws := by rw [toDA0]
theorem toDA0_nil : toDA0 [] = [] := by rw [toDA0]
theorem cma_of {S : Store} {k : W} {xs rs qs : List W} (h : RkA k xs rs qs) : ∀ {ys rs' qs' : List W}, RkA k ys rs' qs' → xs.length = ys.length → ∃ c, CmA S rs rs' qs qs' c := by
  induction h with
  | nil =>
    intro ys rs' qs' h' hl
    cases h' with
    | nil => exact ⟨.eq, by rw [toDA0_nil, eqvA_nil]; rfl, by rw [toDA0_nil, Od.ordL]; rfl, by rw [toDA_nil, eqvA_nil]; rfl, by rw [toDA_nil, ordA_nn]; rfl, by rw [toDA_nil, ordA_nn]; rfl⟩
    | cons _ _ _ _ _ _ => cases hl
  | cons h1 o1 o2 _ _ _ ih =>
    intro ys rs' qs' h' hl
    cases h' with
    | nil => cases hl
    | cons h1' o1' o2' _ _ h2' =>
      obtain ⟨c, hc⟩ := cm_of (S := S) h1 h1'
      obtain ⟨d, hd⟩ := ih h2' (by simpa using hl)
      refine ⟨c.then d, ?_, ?_, ?_, ?_, ?_⟩
      · rw [toDA0_cons, toDA0_cons, eqvA_cons, o1.D0 S, o1'.D0 S, hc.re, hd.re]
        cases c <;> cases d <;> rfl
      · rw [toDA0_cons, toDA0_cons, Od.ordL_cons, o1.D0 S, o1'.D0 S, hc.re, hd.rl, hc.rl]
        cases c <;> cases d <;> rfl
      · rw [toDA_cons, toDA_cons, eqvA_cons, hc.qe, hd.qe]
        cases c <;> cases d <;> rfl
      · rw [toDA_cons, toDA_cons, Od.ordA_cons, hc.qe, hd.ql, hc.ql]
        cases c <;> cases d <;> rfl
      · rw [toDA_cons, toDA_cons, Od.ordA_cons, hc.qe, hd.qg, hc.qg]
        cases c <;> cases d <;> rfl
theorem toD_loc {S : Store} {p : Nat} {ws : List W} (h : S[p]? = some (.lst ws)) : toD S (.loc p) = .list (toDA0 ws) := by
  unfold toD
  rw [h]
theorem cmw_of {S : Store} {k : W} {xs rs qs ys rs' qs' : List W} {p p' : Nat} (h : RkA k xs rs qs) (h' : RkA k ys rs' qs') (hp : S[p]? = some (.lst rs)) (hp' : S[p']? = some (.lst rs')) :
    ∃ c, Cm S (.tup [.int (xs.length : Int), .loc p]) (.tup [.int (ys.length : Int), .loc p']) (.tup [.int (xs.length : Int), .tup qs]) (.tup [.int (ys.length : Int), .tup qs']) c := by
  by_cases e : xs.length = ys.length
  · obtain ⟨c, hc⟩ := cma_of (S := S) h h' e
    have hi : cmpI (xs.length : Int) (ys.length : Int) = .eq := by unfold cmpI; rw [if_pos (by omega)]
    have ec : c = (cmpI (xs.length : Int) (ys.length : Int)).then c := by rw [hi]; rfl
    have le : PyData.eqv (toD S (.loc p)) (toD S (.loc p')) = (c == .eq) := by rw [toD_loc hp, toD_loc hp', PyData.eqv, hc.re]
    have ll : Od.ordD false (toD S (.loc p)) (toD S (.loc p')) = Option.some (c == .lt) := by rw [toD_loc hp, toD_loc hp', Od.ordD, if_neg Bool.false_ne_true, hc.rl]
    have qe : PyData.eqv (toD S (.tup qs)) (toD S (.tup qs')) = (c == .eq) := by rw [toD_tup, toD_tup, eqv_tup, hc.qe]
    have ql : Od.ordD false (toD S (.tup qs)) (toD S (.tup qs')) = Option.some (c == .lt) := by rw [toD_tup, toD_tup, ordD_tup, hc.ql]
    have qg : Od.ordD true (toD S (.tup qs)) (toD S (.tup qs')) = Option.some (c == .gt) := by rw [toD_tup, toD_tup, ordD_tup, hc.qg]
    refine ⟨c, ?_⟩
    rw [ec]
    refine ⟨?_, ?_, ?_, ?_, ?_⟩ <;> rw [toD2, toD2, toD_int, toD_int]
    · exact tup2_e int_oe le
    · exact tup2_o int_oe le int_ol ll (by decide)
    · exact tup2_e int_oe qe
    · exact tup2_o int_oe qe int_ol ql (by decide)
    · exact tup2_o int_oe qe int_og qg (by decide)
  · have hc : cmpI (xs.length : Int) (ys.length : Int) ≠ .eq := by
      unfold cmpI
      rw [if_neg (by omega)]
      split <;> simp
    refine ⟨cmpI (xs.length : Int) (ys.length : Int), ?_, ?_, ?_, ?_, ?_⟩ <;> rw [toD2, toD2, toD_int, toD_int]
    · exact tup2_eN int_oe hc
    · exact tup2_oN int_oe hc int_ol
    · exact tup2_eN int_oe hc
    · exact tup2_oN int_oe hc int_ol
    · exact tup2_oN int_oe hc int_og
theorem shaped_w {S : Store} {rs : List W} {p : Nat} {n : Int} (hp : S[p]? = some (.lst rs)) (ho : ∀ r ∈ rs, OkW 4 r) : SeqAt.shaped (toD S (.tup [.int n, .loc p])) = true := by
  have z := (OkW.tup ho).lay S
  rw [toD_tup] at z
  have e : toDA0 rs = toDA S rs := by
    have := (OkW.tup ho).D0 S
    rw [toD_tup] at this
    unfold toD0 at this
    injection this
  rw [toD2, toD_int, toD_loc hp, e]
  unfold SeqAt.shaped
  rw [Bool.and_eq_true]
  have z1 : PyData.canLayAll0 (toDA S rs) = true := by
    have := z.1
    unfold PyData.canLay0 at this
    exact this
  have z2 : PyData.depthAll (toDA S rs) + 1 ≤ 5 := by
    have := z.2
    unfold PyData.depth at this
    exact this
  refine ⟨?_, decide_eq_true ?_⟩
  · simp only [PyData.canLay0, PyData.canLayAll0, z1, Bool.and_true]
  · simp only [PyData.depth, PyData.depthAll]
    omega
/-! ### a list made place by place -/
inductive A2 (R : W → W → Prop) : List W → List W → Prop
  | nil : A2 R [] []
  | cons {w y : W} {ws ys : List W} : R w y → A2 R ws ys → A2 R (w :: ws) (y :: ys)
theorem lc_A2 {vs : List Nat} {j : Nat} {te : DE} {ls : Lo} {S1 : Store} {ws ys : List W} {st : Store → Prop} (hst : ∀ acc, st (S1 ++ [.lst acc])) (hl : ws.length < 100000)
    (h : A2 (fun w y => ∀ S, te ((wipeW ls vs).set j (some w)) S = .ok y S) ws ys) : lcK (dgName j) vs dYes te ls (.ok ⟨ws, st⟩ S1) = .ok (.loc S1.length) (S1 ++ [.lst ys]) := by
  have key : ∀ {us zs : List W}, A2 (fun w y => ∀ S, te ((wipeW ls vs).set j (some w)) S = .ok y S) us zs → ∀ acc : List W, acc.length + us.length < 100000 → dLcLoop st (dgName j) dYes te S1.length (wipeW ls vs) us (S1 ++ [.lst acc]) = .ok (.loc S1.length) (S1 ++ [.lst (acc ++ zs)]) := by
    intro us zs h
    induction h with
    | nil =>
      intro acc _
      rw [lcLoop_nil (hst _), List.append_nil]
    | @cons w y us zs h1 _ ih =>
      intro acc hz
      rw [List.length_cons] at hz
      rw [lcLoop_cons (hst _) rfl rfl (h1 _) (get_mid (cs := [])) (Nat.lt_of_lt_of_le (m := 100000) (by omega) (by decide)), set_mid, ih _ (by rw [List.length_append, List.length_singleton]; omega), List.append_assoc]
      rfl
  have := key h [] (by simpa using hl)
  rw [List.nil_append] at this
  exact this
theorem wrank_ok {k : W} {xs rs qs : List W} (h : RkA k xs rs qs) (hl : xs.length ≤ 100) (S : Store) : f__word_rank [k, .tup xs] S = .ok (.tup [.int (xs.length : Int), .loc S.length]) (S ++ [.lst rs]) := by
  have a2 : A2 (fun w y => ∀ S, dCall (f_rank 4) [(dVar 0), (dVar 2)] ((wipeW [some k, some (.tup xs), none] [2]).set 2 (some w)) S = .ok y S) xs rs := by
    induction h with
    | nil => exact .nil
    | @cons x r q xs rs qs _ _ _ e _ _ ih =>
      have ih := ih (by rw [List.length_cons] at hl; omega)
      have cv : ∀ {us zs : List W} {t t' : W}, A2 (fun w y => ∀ S, dCall (f_rank 4) [(dVar 0), (dVar 2)] ((wipeW [some k, some t, none] [2]).set 2 (some w)) S = .ok y S) us zs → A2 (fun w y => ∀ S, dCall (f_rank 4) [(dVar 0), (dVar 2)] ((wipeW [some k, some t', none] [2]).set 2 (some w)) S = .ok y S) us zs := fun h => by
        induction h with
        | nil => exact .nil
        | cons h1 _ ih => exact .cons h1 ih
      refine .cons (fun S => ?_) (cv ih)
      show dCall (f_rank 4) [(dVar 0), (dVar 2)] [some k, some (.tup (x :: xs)), some x] S = _
      simp only [mk1_ev, mk2_ev, mk3_ev, mk4_ev, sq_ev, set_ev, call_ev, args_ev, argK_ok, args_nil, argK2_ok, callK_ok, List.replicate, c_ev, setK_ok, set0_ev, set1_ev, set2_ev, set3_ev, set4_ev, set5_ev, set6_ev, set7_ev, set8_ev, set9_ev, sqK_nx, sqK_rt, if_ev, tb_ev, t_ev, tK_ok, tru_bl, nt_ev, ntK_ok, and_ev, or_ev, op_ev, opK_ok, opK2_ok, tbK_ok, ifK_t, ifK_f, nx_ev, rt_ev, rtK_ok, mkK_rt, mkK_nx, var0_ev, var1_ev, var2_ev, var3_ev, var4_ev, var5_ev, var6_ev, var7_ev, var8_ev, var9_ev, ixt0, ixt1, ixt2, eq_ss, ne_ss, eq_ii, ne_ii, lt_ii, le_ii, gt_ii, ge_ii, len_tup, av_ev, avK_ok, avK2_t, avK2_f, ov_ev, ovK_ok, ovK2_t, ovK2_f, aK_t, aK_f, oK_t, oK_f, tup_ev, ie_ev, ieK_t, ieK_f, un_ev, unK_ok, ex_ev, exK_ok, Bool.not_true, Bool.not_false, decide_true, decide_false, Nat.reduceSub, e S]
  have lc := lc_A2 (S1 := S) (ls := [some k, some (.tup xs), none]) (vs := [2]) (j := 2) (st := stayOf (.tup xs) xs) (fun _ => trivial) (by omega) a2
  have sq : seqW S (.tup xs) = some xs := rfl
  simp only [mk1_ev, mk2_ev, mk3_ev, mk4_ev, sq_ev, set_ev, call_ev, args_ev, argK_ok, args_nil, argK2_ok, callK_ok, List.replicate, c_ev, setK_ok, set0_ev, set1_ev, set2_ev, set3_ev, set4_ev, set5_ev, set6_ev, set7_ev, set8_ev, set9_ev, sqK_nx, sqK_rt, if_ev, tb_ev, t_ev, tK_ok, tru_bl, nt_ev, ntK_ok, and_ev, or_ev, op_ev, opK_ok, opK2_ok, tbK_ok, ifK_t, ifK_f, nx_ev, rt_ev, rtK_ok, mkK_rt, mkK_nx, var0_ev, var1_ev, var2_ev, var3_ev, var4_ev, var5_ev, var6_ev, var7_ev, var8_ev, var9_ev, ixt0, ixt1, ixt2, eq_ss, ne_ss, eq_ii, ne_ii, lt_ii, le_ii, gt_ii, ge_ii, len_tup, av_ev, avK_ok, avK2_t, avK2_f, ov_ev, ovK_ok, ovK2_t, ovK2_f, aK_t, aK_f, oK_t, oK_f, tup_ev, ie_ev, ieK_t, ieK_f, un_ev, unK_ok, ex_ev, exK_ok, Bool.not_true, Bool.not_false, decide_true, decide_false, Nat.reduceSub, f__word_rank, d__word_rank, lc_ev, si_ev, siK_ok, sq, siK2_ok, lc, tupK_ok (b2 _ _)]
theorem wkey_ok {k : W} {xs rs qs : List W} (h : RkA k xs rs qs) (hl : xs.length ≤ 100) (S : Store) : f__law_word_key [k, .tup xs] S = .ok (.tup [.int (xs.length : Int), .tup qs]) (S ++ [.lst qs]) := by
  have a2 : A2 (fun w y => ∀ S, dCall (f__law_key 4) [(dVar 0), (dVar 2)] ((wipeW [some k, some (.tup xs), none] [2]).set 2 (some w)) S = .ok y S) xs qs := by
    induction h with
    | nil => exact .nil
    | @cons x r q xs rs qs _ _ _ _ e _ ih =>
      have ih := ih (by rw [List.length_cons] at hl; omega)
      have cv : ∀ {us zs : List W} {t t' : W}, A2 (fun w y => ∀ S, dCall (f__law_key 4) [(dVar 0), (dVar 2)] ((wipeW [some k, some t, none] [2]).set 2 (some w)) S = .ok y S) us zs → A2 (fun w y => ∀ S, dCall (f__law_key 4) [(dVar 0), (dVar 2)] ((wipeW [some k, some t', none] [2]).set 2 (some w)) S = .ok y S) us zs := fun h => by
        induction h with
        | nil => exact .nil
        | cons h1 _ ih => exact .cons h1 ih
      refine .cons (fun S => ?_) (cv ih)
      show dCall (f__law_key 4) [(dVar 0), (dVar 2)] [some k, some (.tup (x :: xs)), some x] S = _
      simp only [mk1_ev, mk2_ev, mk3_ev, mk4_ev, sq_ev, set_ev, call_ev, args_ev, argK_ok, args_nil, argK2_ok, callK_ok, List.replicate, c_ev, setK_ok, set0_ev, set1_ev, set2_ev, set3_ev, set4_ev, set5_ev, set6_ev, set7_ev, set8_ev, set9_ev, sqK_nx, sqK_rt, if_ev, tb_ev, t_ev, tK_ok, tru_bl, nt_ev, ntK_ok, and_ev, or_ev, op_ev, opK_ok, opK2_ok, tbK_ok, ifK_t, ifK_f, nx_ev, rt_ev, rtK_ok, mkK_rt, mkK_nx, var0_ev, var1_ev, var2_ev, var3_ev, var4_ev, var5_ev, var6_ev, var7_ev, var8_ev, var9_ev, ixt0, ixt1, ixt2, eq_ss, ne_ss, eq_ii, ne_ii, lt_ii, le_ii, gt_ii, ge_ii, len_tup, av_ev, avK_ok, avK2_t, avK2_f, ov_ev, ovK_ok, ovK2_t, ovK2_f, aK_t, aK_f, oK_t, oK_f, tup_ev, ie_ev, ieK_t, ieK_f, un_ev, unK_ok, ex_ev, exK_ok, Bool.not_true, Bool.not_false, decide_true, decide_false, Nat.reduceSub, e S]
  have lc := lc_A2 (S1 := S) (ls := [some k, some (.tup xs), none]) (vs := [2]) (j := 2) (st := stayOf (.tup xs) xs) (fun _ => trivial) (by omega) a2
  have sq : seqW S (.tup xs) = some xs := rfl
  have tp : gTuple [.loc S.length] (S ++ [.lst qs]) = .ok (.tup qs) (S ++ [.lst qs]) := tuple_loc (get_mid (cs := []))
  simp only [mk1_ev, mk2_ev, mk3_ev, mk4_ev, sq_ev, set_ev, call_ev, args_ev, argK_ok, args_nil, argK2_ok, callK_ok, List.replicate, c_ev, setK_ok, set0_ev, set1_ev, set2_ev, set3_ev, set4_ev, set5_ev, set6_ev, set7_ev, set8_ev, set9_ev, sqK_nx, sqK_rt, if_ev, tb_ev, t_ev, tK_ok, tru_bl, nt_ev, ntK_ok, and_ev, or_ev, op_ev, opK_ok, opK2_ok, tbK_ok, ifK_t, ifK_f, nx_ev, rt_ev, rtK_ok, mkK_rt, mkK_nx, var0_ev, var1_ev, var2_ev, var3_ev, var4_ev, var5_ev, var6_ev, var7_ev, var8_ev, var9_ev, ixt0, ixt1, ixt2, eq_ss, ne_ss, eq_ii, ne_ii, lt_ii, le_ii, gt_ii, ge_ii, len_tup, av_ev, avK_ok, avK2_t, avK2_f, ov_ev, ovK_ok, ovK2_t, ovK2_f, aK_t, aK_f, oK_t, oK_f, tup_ev, ie_ev, ieK_t, ieK_f, un_ev, unK_ok, ex_ev, exK_ok, Bool.not_true, Bool.not_false, decide_true, decide_false, Nat.reduceSub, f__law_word_key, d__law_word_key, lc_ev, si_ev, siK_ok, sq, siK2_ok, lc, tp, tupK_ok (b2 _ _)]
end G
set_option maxHeartbeats 4000000
namespace G
open PySem L2 Fs
/-! ### the two roads answer alike -/
theorem check_t {z : Int} {k w : W} {S : Store} (hk : Kd 4 z k) (hw : Lt k w) : f_check_letter [k, w] S = .ok .non S := by
  have e := noX_ok (isl_t (by omega) hk hw (n' := 4) (S := S) (by omega))
  simp only [mk1_ev, mk2_ev, mk3_ev, mk4_ev, sq_ev, set_ev, call_ev, args_ev, argK_ok, args_nil, argK2_ok, callK_ok, List.replicate, c_ev, setK_ok, set0_ev, set1_ev, set2_ev, set3_ev, set4_ev, set5_ev, set6_ev, set7_ev, set8_ev, set9_ev, sqK_nx, sqK_rt, if_ev, tb_ev, t_ev, tK_ok, tru_bl, nt_ev, ntK_ok, and_ev, or_ev, op_ev, opK_ok, opK2_ok, tbK_ok, ifK_t, ifK_f, nx_ev, rt_ev, rtK_ok, mkK_rt, mkK_nx, var0_ev, var1_ev, var2_ev, var3_ev, var4_ev, var5_ev, var6_ev, var7_ev, var8_ev, var9_ev, ixt0, ixt1, ixt2, eq_ss, ne_ss, eq_ii, ne_ii, lt_ii, le_ii, gt_ii, ge_ii, len_tup, av_ev, avK_ok, avK2_t, avK2_f, ov_ev, ovK_ok, ovK2_t, ovK2_f, aK_t, aK_f, oK_t, oK_f, tup_ev, ie_ev, ieK_t, ieK_f, un_ev, unK_ok, ex_ev, exK_ok, Bool.not_true, Bool.not_false, decide_true, decide_false, Nat.reduceSub, f_check_letter, d_check_letter, e]
theorem check_f {k w : W} {S : Store} (h : f_is_letter 4 [k, w] S = .ok (.bl false) S) : f_check_letter [k, w] S = .exc ⟨"BadLetter", []⟩ S := by
  have e := noX_ok h
  simp only [mk1_ev, mk2_ev, mk3_ev, mk4_ev, sq_ev, set_ev, call_ev, args_ev, argK_ok, args_nil, argK2_ok, callK_ok, List.replicate, c_ev, setK_ok, set0_ev, set1_ev, set2_ev, set3_ev, set4_ev, set5_ev, set6_ev, set7_ev, set8_ev, set9_ev, sqK_nx, sqK_rt, if_ev, tb_ev, t_ev, tK_ok, tru_bl, nt_ev, ntK_ok, and_ev, or_ev, op_ev, opK_ok, opK2_ok, tbK_ok, ifK_t, ifK_f, nx_ev, rt_ev, rtK_ok, mkK_rt, mkK_nx, var0_ev, var1_ev, var2_ev, var3_ev, var4_ev, var5_ev, var6_ev, var7_ev, var8_ev, var9_ev, ixt0, ixt1, ixt2, eq_ss, ne_ss, eq_ii, ne_ii, lt_ii, le_ii, gt_ii, ge_ii, len_tup, av_ev, avK_ok, avK2_t, avK2_f, ov_ev, ovK_ok, ovK2_t, ovK2_f, aK_t, aK_f, oK_t, oK_f, tup_ev, ie_ev, ieK_t, ieK_f, un_ev, unK_ok, ex_ev, exK_ok, Bool.not_true, Bool.not_false, decide_true, decide_false, Nat.reduceSub, f_check_letter, d_check_letter, e, raise_ev]
  rfl
theorem exK_exc {ls : Lo} {e : Ex} {S : Store} : exK ls (.exc e S) = .ex e ls S := rfl
theorem sqK_ex {n : DS} {ls : Lo} {e : Ex} {S : Store} : sqK n (.ex e ls S) = .ex e ls S := rfl
theorem mkK_ex {ls : Lo} {e : Ex} {S : Store} : mkK (.ex e ls S) = .exc e S := rfl
theorem lpK_nx {st : Store → Prop} {g : DG} {m : DS} {ws : List W} {ls : Lo} {S : Store} : lpK st g m ws (.nx ls S) = dLoop st g m ws ls S := rfl
theorem lpK_ex {st : Store → Prop} {g : DG} {m : DS} {ws : List W} {e : Ex} {ls : Lo} {S : Store} : lpK st g m ws (.ex e ls S) = .ex e ls S := rfl
theorem ck_turn {z : Int} {k w t : W} {x : Option W} {S : Store} (hk : Kd 4 z k) (hw : Lt k w) : dExpr (dCall f_check_letter [(dVar 0), (dVar 2)]) [some k, some t, some w] S = .nx [some k, some t, some w] S := by
  simp only [mk1_ev, mk2_ev, mk3_ev, mk4_ev, sq_ev, set_ev, call_ev, args_ev, argK_ok, args_nil, argK2_ok, callK_ok, List.replicate, c_ev, setK_ok, set0_ev, set1_ev, set2_ev, set3_ev, set4_ev, set5_ev, set6_ev, set7_ev, set8_ev, set9_ev, sqK_nx, sqK_rt, if_ev, tb_ev, t_ev, tK_ok, tru_bl, nt_ev, ntK_ok, and_ev, or_ev, op_ev, opK_ok, opK2_ok, tbK_ok, ifK_t, ifK_f, nx_ev, rt_ev, rtK_ok, mkK_rt, mkK_nx, var0_ev, var1_ev, var2_ev, var3_ev, var4_ev, var5_ev, var6_ev, var7_ev, var8_ev, var9_ev, ixt0, ixt1, ixt2, eq_ss, ne_ss, eq_ii, ne_ii, lt_ii, le_ii, gt_ii, ge_ii, len_tup, av_ev, avK_ok, avK2_t, avK2_f, ov_ev, ovK_ok, ovK2_t, ovK2_f, aK_t, aK_f, oK_t, oK_f, tup_ev, ie_ev, ieK_t, ieK_f, un_ev, unK_ok, ex_ev, exK_ok, Bool.not_true, Bool.not_false, decide_true, decide_false, Nat.reduceSub, check_t hk hw]
theorem ck_loop {z : Int} {k t : W} {S : Store} {st : Store → Prop} (hk : Kd 4 z k) (hst : st S) : ∀ (pre : List W) (rest : List W) (x : Option W), (∀ w ∈ pre, Lt k w) →
    ∃ x', dLoop st (dgName 2) (dExpr (dCall f_check_letter [(dVar 0), (dVar 2)])) (pre ++ rest) [some k, some t, x] S = dLoop st (dgName 2) (dExpr (dCall f_check_letter [(dVar 0), (dVar 2)])) rest [some k, some t, x'] S
  | [], rest, x, _ => ⟨x, rfl⟩
  | w :: pre, rest, x, h => by
    obtain ⟨x', e⟩ := ck_loop (t := t) hk hst pre rest (some w) fun y hy => h y (List.mem_cons_of_mem _ hy)
    refine ⟨x', ?_⟩
    rw [List.cons_append, loop_cons hst rfl]
    show lpK _ _ _ _ (dExpr _ [some k, some t, some w] S) = _
    rw [ck_turn (x := x) hk (h w List.mem_cons_self), lpK_nx, e]
theorem checkw_t {z : Int} {k : W} {xs : List W} {S : Store} (hk : Kd 4 z k) (h : ∀ x ∈ xs, Lt k x) : f_check_word [k, .tup xs] S = .ok .non S := by
  obtain ⟨x', e⟩ := ck_loop (t := .tup xs) (S := S) (st := stayOf (.tup xs) xs) hk trivial xs [] none h
  rw [List.append_nil, loop_nil (show stayOf (.tup xs) xs S from trivial)] at e
  have sq : seqW S (.tup xs) = some xs := rfl
  simp only [mk1_ev, mk2_ev, mk3_ev, mk4_ev, sq_ev, set_ev, call_ev, args_ev, argK_ok, args_nil, argK2_ok, callK_ok, List.replicate, c_ev, setK_ok, set0_ev, set1_ev, set2_ev, set3_ev, set4_ev, set5_ev, set6_ev, set7_ev, set8_ev, set9_ev, sqK_nx, sqK_rt, if_ev, tb_ev, t_ev, tK_ok, tru_bl, nt_ev, ntK_ok, and_ev, or_ev, op_ev, opK_ok, opK2_ok, tbK_ok, ifK_t, ifK_f, nx_ev, rt_ev, rtK_ok, mkK_rt, mkK_nx, var0_ev, var1_ev, var2_ev, var3_ev, var4_ev, var5_ev, var6_ev, var7_ev, var8_ev, var9_ev, ixt0, ixt1, ixt2, eq_ss, ne_ss, eq_ii, ne_ii, lt_ii, le_ii, gt_ii, ge_ii, len_tup, av_ev, avK_ok, avK2_t, avK2_f, ov_ev, ovK_ok, ovK2_t, ovK2_f, aK_t, aK_f, oK_t, oK_f, tup_ev, ie_ev, ieK_t, ieK_f, un_ev, unK_ok, ex_ev, exK_ok, Bool.not_true, Bool.not_false, decide_true, decide_false, Nat.reduceSub, f_check_word, d_check_word, for_ev, si_ev, siK_ok, sq, siK2_ok, forK_ok, e]
theorem checkw_f {z : Int} {k f : W} {pre post : List W} {S : Store} (hk : Kd 4 z k) (h : ∀ x ∈ pre, Lt k x) (hf : f_is_letter 4 [k, f] S = .ok (.bl false) S) : f_check_word [k, .tup (pre ++ f :: post)] S = .exc ⟨"BadLetter", []⟩ S := by
  obtain ⟨x', e⟩ := ck_loop (t := .tup (pre ++ f :: post)) (S := S) (st := stayOf (.tup (pre ++ f :: post)) (pre ++ f :: post)) hk trivial pre (f :: post) none h
  rw [loop_cons (show stayOf (.tup (pre ++ f :: post)) (pre ++ f :: post) S from trivial) rfl] at e
  have e2 : dExpr (dCall f_check_letter [(dVar 0), (dVar 2)]) [some k, some (.tup (pre ++ f :: post)), some f] S = .ex ⟨"BadLetter", []⟩ [some k, some (.tup (pre ++ f :: post)), some f] S := by
    simp only [mk1_ev, mk2_ev, mk3_ev, mk4_ev, sq_ev, set_ev, call_ev, args_ev, argK_ok, args_nil, argK2_ok, callK_ok, List.replicate, c_ev, setK_ok, set0_ev, set1_ev, set2_ev, set3_ev, set4_ev, set5_ev, set6_ev, set7_ev, set8_ev, set9_ev, sqK_nx, sqK_rt, if_ev, tb_ev, t_ev, tK_ok, tru_bl, nt_ev, ntK_ok, and_ev, or_ev, op_ev, opK_ok, opK2_ok, tbK_ok, ifK_t, ifK_f, nx_ev, rt_ev, rtK_ok, mkK_rt, mkK_nx, var0_ev, var1_ev, var2_ev, var3_ev, var4_ev, var5_ev, var6_ev, var7_ev, var8_ev, var9_ev, ixt0, ixt1, ixt2, eq_ss, ne_ss, eq_ii, ne_ii, lt_ii, le_ii, gt_ii, ge_ii, len_tup, av_ev, avK_ok, avK2_t, avK2_f, ov_ev, ovK_ok, ovK2_t, ovK2_f, aK_t, aK_f, oK_t, oK_f, tup_ev, ie_ev, ieK_t, ieK_f, un_ev, unK_ok, ex_ev, exK_ok, Bool.not_true, Bool.not_false, decide_true, decide_false, Nat.reduceSub, check_f hf, exK_exc]
  have e3 : dLoop (stayOf (.tup (pre ++ f :: post)) (pre ++ f :: post)) (dgName 2) (dExpr (dCall f_check_letter [(dVar 0), (dVar 2)])) (pre ++ f :: post) [some k, some (.tup (pre ++ f :: post)), none] S = .ex ⟨"BadLetter", []⟩ [some k, some (.tup (pre ++ f :: post)), some f] S := by
    rw [e]
    show lpK _ _ _ _ (dExpr _ [some k, some (.tup (pre ++ f :: post)), some f] S) = _
    rw [e2, lpK_ex]
  have sq : seqW S (.tup (pre ++ f :: post)) = some (pre ++ f :: post) := rfl
  simp only [mk1_ev, mk2_ev, mk3_ev, mk4_ev, sq_ev, set_ev, call_ev, args_ev, argK_ok, args_nil, argK2_ok, callK_ok, List.replicate, c_ev, setK_ok, set0_ev, set1_ev, set2_ev, set3_ev, set4_ev, set5_ev, set6_ev, set7_ev, set8_ev, set9_ev, sqK_nx, sqK_rt, if_ev, tb_ev, t_ev, tK_ok, tru_bl, nt_ev, ntK_ok, and_ev, or_ev, op_ev, opK_ok, opK2_ok, tbK_ok, ifK_t, ifK_f, nx_ev, rt_ev, rtK_ok, mkK_rt, mkK_nx, var0_ev, var1_ev, var2_ev, var3_ev, var4_ev, var5_ev, var6_ev, var7_ev, var8_ev, var9_ev, ixt0, ixt1, ixt2, eq_ss, ne_ss, eq_ii, ne_ii, lt_ii, le_ii, gt_ii, ge_ii, len_tup, av_ev, avK_ok, avK2_t, avK2_f, ov_ev, ovK_ok, ovK2_t, ovK2_f, aK_t, aK_f, oK_t, oK_f, tup_ev, ie_ev, ieK_t, ieK_f, un_ev, unK_ok, ex_ev, exK_ok, Bool.not_true, Bool.not_false, decide_true, decide_false, Nat.reduceSub, f_check_word, d_check_word, for_ev, si_ev, siK_ok, sq, siK2_ok, forK_ok, e3, mkK_ex]
def toldI (c : Ordering) : Int := match c with
  | .eq => 0
  | .lt => -1
  | .gt => 1
theorem order_ok {S : Store} {ws us : List W} {q q' : W} {c : Ordering} (h : Cm S (.tup ws) (.tup us) q q' c) (s1 : SeqAt.shaped (toD S (.tup ws)) = true) (s2 : SeqAt.shaped (toD S (.tup us)) = true) : f__order [.tup ws, .tup us] S = .ok (.int (toldI c)) S := by
  have e1 : gEq (.tup ws) (.tup us) S = .ok (.bl (c == .eq)) S := by
    show gEqB false _ _ _ = _
    rw [eqB_gen s1 s2, h.re, false_bne]
  have e2 : gOrd false (.tup ws) (.tup us) S = .ok (.bl (c == .lt)) S := ord_tt s1 s2 h.rl
  cases c with
  | eq =>
    have e1' : gEq (.tup ws) (.tup us) S = .ok (.bl true) S := e1
    simp only [mk1_ev, mk2_ev, mk3_ev, mk4_ev, sq_ev, set_ev, call_ev, args_ev, argK_ok, args_nil, argK2_ok, callK_ok, List.replicate, c_ev, setK_ok, set0_ev, set1_ev, set2_ev, set3_ev, set4_ev, set5_ev, set6_ev, set7_ev, set8_ev, set9_ev, sqK_nx, sqK_rt, if_ev, tb_ev, t_ev, tK_ok, tru_bl, nt_ev, ntK_ok, and_ev, or_ev, op_ev, opK_ok, opK2_ok, tbK_ok, ifK_t, ifK_f, nx_ev, rt_ev, rtK_ok, mkK_rt, mkK_nx, var0_ev, var1_ev, var2_ev, var3_ev, var4_ev, var5_ev, var6_ev, var7_ev, var8_ev, var9_ev, ixt0, ixt1, ixt2, eq_ss, ne_ss, eq_ii, ne_ii, lt_ii, le_ii, gt_ii, ge_ii, len_tup, av_ev, avK_ok, avK2_t, avK2_f, ov_ev, ovK_ok, ovK2_t, ovK2_f, aK_t, aK_f, oK_t, oK_f, tup_ev, ie_ev, ieK_t, ieK_f, un_ev, unK_ok, ex_ev, exK_ok, Bool.not_true, Bool.not_false, decide_true, decide_false, Nat.reduceSub, f__order, d__order, e1', toldI]
  | lt =>
    have e1' : gEq (.tup ws) (.tup us) S = .ok (.bl false) S := e1
    have e2' : gOrd false (.tup ws) (.tup us) S = .ok (.bl true) S := e2
    simp only [mk1_ev, mk2_ev, mk3_ev, mk4_ev, sq_ev, set_ev, call_ev, args_ev, argK_ok, args_nil, argK2_ok, callK_ok, List.replicate, c_ev, setK_ok, set0_ev, set1_ev, set2_ev, set3_ev, set4_ev, set5_ev, set6_ev, set7_ev, set8_ev, set9_ev, sqK_nx, sqK_rt, if_ev, tb_ev, t_ev, tK_ok, tru_bl, nt_ev, ntK_ok, and_ev, or_ev, op_ev, opK_ok, opK2_ok, tbK_ok, ifK_t, ifK_f, nx_ev, rt_ev, rtK_ok, mkK_rt, mkK_nx, var0_ev, var1_ev, var2_ev, var3_ev, var4_ev, var5_ev, var6_ev, var7_ev, var8_ev, var9_ev, ixt0, ixt1, ixt2, eq_ss, ne_ss, eq_ii, ne_ii, lt_ii, le_ii, gt_ii, ge_ii, len_tup, av_ev, avK_ok, avK2_t, avK2_f, ov_ev, ovK_ok, ovK2_t, ovK2_f, aK_t, aK_f, oK_t, oK_f, tup_ev, ie_ev, ieK_t, ieK_f, un_ev, unK_ok, ex_ev, exK_ok, Bool.not_true, Bool.not_false, decide_true, decide_false, Nat.reduceSub, f__order, d__order, e1', e2', toldI, neg_i]
  | gt =>
    have e1' : gEq (.tup ws) (.tup us) S = .ok (.bl false) S := e1
    have e2' : gOrd false (.tup ws) (.tup us) S = .ok (.bl false) S := e2
    simp only [mk1_ev, mk2_ev, mk3_ev, mk4_ev, sq_ev, set_ev, call_ev, args_ev, argK_ok, args_nil, argK2_ok, callK_ok, List.replicate, c_ev, setK_ok, set0_ev, set1_ev, set2_ev, set3_ev, set4_ev, set5_ev, set6_ev, set7_ev, set8_ev, set9_ev, sqK_nx, sqK_rt, if_ev, tb_ev, t_ev, tK_ok, tru_bl, nt_ev, ntK_ok, and_ev, or_ev, op_ev, opK_ok, opK2_ok, tbK_ok, ifK_t, ifK_f, nx_ev, rt_ev, rtK_ok, mkK_rt, mkK_nx, var0_ev, var1_ev, var2_ev, var3_ev, var4_ev, var5_ev, var6_ev, var7_ev, var8_ev, var9_ev, ixt0, ixt1, ixt2, eq_ss, ne_ss, eq_ii, ne_ii, lt_ii, le_ii, gt_ii, ge_ii, len_tup, av_ev, avK_ok, avK2_t, avK2_f, ov_ev, ovK_ok, ovK2_t, ovK2_f, aK_t, aK_f, oK_t, oK_f, tup_ev, ie_ev, ieK_t, ieK_f, un_ev, unK_ok, ex_ev, exK_ok, Bool.not_true, Bool.not_false, decide_true, decide_false, Nat.reduceSub, f__order, d__order, e1', e2', toldI]
theorem key_ord {S : Store} {g k : Bool} {n m : Nat} {ws us : List W} (o1 : OkW n (.tup ws)) (o2 : OkW m (.tup us)) (hn : n ≤ 60) (hm : m ≤ 60) (z : Od.ordD g (toD S (.tup ws)) (toD S (.tup us)) = Option.some k) : gOrd g (.tup ws) (.tup us) S = .ok (.bl k) S :=
  ord_tt (o1.shaped (by omega)) (o2.shaped (by omega)) z
def LtW (k : W) (xs : List W) : Prop := (∀ x ∈ xs, Lt k x) ∧ xs.length ≤ 8
theorem get_end' {S : Store} {c d : Cell} : ((S ++ [c]) ++ [d])[S.length]? = some c := by
  rw [List.append_assoc]
  exact get_mid
theorem answers_ok {z : Int} {k : W} {xs ys : List W} {S : Store} (hk : Kd 4 z k) (hx : LtW k xs) (hy : LtW k ys) : ∃ cs, f__law_answers [k, .tup xs, .tup ys] S = .ok (.bl true) (S ++ cs) := by
  obtain ⟨rs, qs, h⟩ := rka_of hk hx.1
  obtain ⟨rs', qs', h'⟩ := rka_of hk hy.1
  have x8 := hx.2
  have y8 := hy.2
  have e1 := noX_ok (wrank_ok h (by omega) S)
  have e2 := noX_ok (wrank_ok h' (by omega) (S ++ [.lst rs]))
  obtain ⟨c, hc⟩ := cmw_of (S := (S ++ [.lst rs]) ++ [.lst rs']) h h' get_end' (get_mid (cs := []))
  have s1 := shaped_w (S := (S ++ [.lst rs]) ++ [.lst rs']) (n := (xs.length : Int)) get_end' h.ok.1
  have s2 := shaped_w (S := (S ++ [.lst rs]) ++ [.lst rs']) (n := (ys.length : Int)) (get_mid (cs := [])) h'.ok.1
  have e3 := noX_ok (order_ok hc s1 s2)
  have ec : f_words_compared [k, .tup xs, .tup ys] S = .ok (.int (toldI c)) ((S ++ [.lst rs]) ++ [.lst rs']) := by
    simp only [mk1_ev, mk2_ev, mk3_ev, mk4_ev, sq_ev, set_ev, call_ev, args_ev, argK_ok, args_nil, argK2_ok, callK_ok, List.replicate, c_ev, setK_ok, set0_ev, set1_ev, set2_ev, set3_ev, set4_ev, set5_ev, set6_ev, set7_ev, set8_ev, set9_ev, sqK_nx, sqK_rt, if_ev, tb_ev, t_ev, tK_ok, tru_bl, nt_ev, ntK_ok, and_ev, or_ev, op_ev, opK_ok, opK2_ok, tbK_ok, ifK_t, ifK_f, nx_ev, rt_ev, rtK_ok, mkK_rt, mkK_nx, var0_ev, var1_ev, var2_ev, var3_ev, var4_ev, var5_ev, var6_ev, var7_ev, var8_ev, var9_ev, ixt0, ixt1, ixt2, eq_ss, ne_ss, eq_ii, ne_ii, lt_ii, le_ii, gt_ii, ge_ii, len_tup, av_ev, avK_ok, avK2_t, avK2_f, ov_ev, ovK_ok, ovK2_t, ovK2_f, aK_t, aK_f, oK_t, oK_f, tup_ev, ie_ev, ieK_t, ieK_f, un_ev, unK_ok, ex_ev, exK_ok, Bool.not_true, Bool.not_false, decide_true, decide_false, Nat.reduceSub, f_words_compared, d_words_compared, checkw_t hk hx.1, checkw_t hk hy.1, e1, e2, e3]
  have k1 := wkey_ok h (by omega) ((S ++ [.lst rs]) ++ [.lst rs'])
  have k2 := wkey_ok h' (by omega) (((S ++ [.lst rs]) ++ [.lst rs']) ++ [.lst qs])
  let S4 : Store := (((S ++ [.lst rs]) ++ [.lst rs']) ++ [.lst qs]) ++ [.lst qs']
  have p1 : S4[S.length]? = some (.lst rs) := by
    show ((((S ++ [Cell.lst rs]) ++ [.lst rs']) ++ [.lst qs]) ++ [.lst qs'])[S.length]? = _
    rw [List.append_assoc, List.append_assoc, List.append_assoc]
    exact get_mid
  have p2 : S4[(S ++ [Cell.lst rs]).length]? = some (.lst rs') := by
    show ((((S ++ [Cell.lst rs]) ++ [.lst rs']) ++ [.lst qs]) ++ [.lst qs'])[(S ++ [Cell.lst rs]).length]? = _
    rw [List.append_assoc, List.append_assoc]
    exact get_mid
  obtain ⟨c', hc'⟩ := cmw_of (S := S4) h h' p1 p2
  have cc : c = c' := by
    have a1 := hc.re
    have a2 := hc'.re
    have b1 := hc.rl
    have b2 := hc'.rl
    rw [toD2, toD2, toD_int, toD_int, toD_loc get_end', toD_loc (get_mid (cs := []))] at a1 b1
    rw [toD2, toD2, toD_int, toD_int, toD_loc p1, toD_loc p2] at a2 b2
    rw [a1] at a2
    rw [b1] at b2
    injection b2 with b2
    cases c <;> cases c' <;> first | rfl | exact absurd a2 (by decide) | exact absurd b2 (by decide)
  subst cc
  have o1 : OkW 6 (.tup [.int (xs.length : Int), .tup qs]) := t2 (.int _) (.tup h.ok.2)
  have o2 : OkW 6 (.tup [.int (ys.length : Int), .tup qs']) := t2 (.int _) (.tup h'.ok.2)
  have wh : ∀ S, f__law_whole [.int (toldI c)] S = .ok (.bl true) S := fun S => whole_ok (n := 0) (.int _)
  have g1 : gOrd true (.tup [.int (xs.length : Int), .tup qs]) (.tup [.int (ys.length : Int), .tup qs']) S4 = _ := key_ord o1 o2 (by omega) (by omega) hc'.qg
  have g2 : gOrd false (.tup [.int (xs.length : Int), .tup qs]) (.tup [.int (ys.length : Int), .tup qs']) S4 = _ := key_ord o1 o2 (by omega) (by omega) hc'.ql
  have e : decide (toldI c = (if (c == .gt) = true then (1 : Int) else 0) - (if (c == .lt) = true then 1 else 0)) = true := by cases c <;> decide
  refine ⟨[.lst rs, .lst rs', .lst qs, .lst qs'], ?_⟩
  have eS : S ++ [.lst rs, .lst rs', .lst qs, .lst qs'] = S4 := by simp [S4]
  rw [eS]
  simp only [S4] at g1 g2 ⊢
  simp only [mk1_ev, mk2_ev, mk3_ev, mk4_ev, sq_ev, set_ev, call_ev, args_ev, argK_ok, args_nil, argK2_ok, callK_ok, List.replicate, c_ev, setK_ok, set0_ev, set1_ev, set2_ev, set3_ev, set4_ev, set5_ev, set6_ev, set7_ev, set8_ev, set9_ev, sqK_nx, sqK_rt, if_ev, tb_ev, t_ev, tK_ok, tru_bl, nt_ev, ntK_ok, and_ev, or_ev, op_ev, opK_ok, opK2_ok, tbK_ok, ifK_t, ifK_f, nx_ev, rt_ev, rtK_ok, mkK_rt, mkK_nx, var0_ev, var1_ev, var2_ev, var3_ev, var4_ev, var5_ev, var6_ev, var7_ev, var8_ev, var9_ev, ixt0, ixt1, ixt2, eq_ss, ne_ss, eq_ii, ne_ii, lt_ii, le_ii, gt_ii, ge_ii, len_tup, av_ev, avK_ok, avK2_t, avK2_f, ov_ev, ovK_ok, ovK2_t, ovK2_f, aK_t, aK_f, oK_t, oK_f, tup_ev, ie_ev, ieK_t, ieK_f, un_ev, unK_ok, ex_ev, exK_ok, Bool.not_true, Bool.not_false, decide_true, decide_false, Nat.reduceSub, f__law_answers, d__law_answers, ec, k1, k2, wh, g1, g2, int_b, sub_ii, e]
theorem badl : ("BadLetter" : Str) ∈ errNs := by decide
theorem no_bl : errNo "BadLetter" = 0 := by decide +kernel
theorem refused_of {k a b : W} {S S1 : Store} (h : f_words_compared [k, a, b] S = .exc ⟨"BadLetter", []⟩ S1) : f__law_refused [k, a, b] S = .ok (.bl true) (S1 ++ errC "BadLetter") := by
  have e : dTry errNs 3 (dExpr (dCall f_words_compared [(dVar 0), (dVar 1), (dVar 2)])) (fun a cn => (dRet (dOp gEq (dCall (f__law_error a cn) [(dVar 3)]) (dC (.int 0))))) [some k, some a, some b, none] S = .rt (.bl true) (S1 ++ errC "BadLetter") := by
    rw [try_ex (x := "BadLetter") (S1 := S1) (ls1 := [some k, some a, some b, none]) (by simp only [mk1_ev, mk2_ev, mk3_ev, mk4_ev, sq_ev, set_ev, call_ev, args_ev, argK_ok, args_nil, argK2_ok, callK_ok, List.replicate, c_ev, setK_ok, set0_ev, set1_ev, set2_ev, set3_ev, set4_ev, set5_ev, set6_ev, set7_ev, set8_ev, set9_ev, sqK_nx, sqK_rt, if_ev, tb_ev, t_ev, tK_ok, tru_bl, nt_ev, ntK_ok, and_ev, or_ev, op_ev, opK_ok, opK2_ok, tbK_ok, ifK_t, ifK_f, nx_ev, rt_ev, rtK_ok, mkK_rt, mkK_nx, var0_ev, var1_ev, var2_ev, var3_ev, var4_ev, var5_ev, var6_ev, var7_ev, var8_ev, var9_ev, ixt0, ixt1, ixt2, eq_ss, ne_ss, eq_ii, ne_ii, lt_ii, le_ii, gt_ii, ge_ii, len_tup, av_ev, avK_ok, avK2_t, avK2_f, ov_ev, ovK_ok, ovK2_t, ovK2_f, aK_t, aK_f, oK_t, oK_f, tup_ev, ie_ev, ieK_t, ieK_f, un_ev, unK_ok, ex_ev, exK_ok, Bool.not_true, Bool.not_false, decide_true, decide_false, Nat.reduceSub, h, exK_exc]) badl, ret_eq_ev badl (by simp), no_bl]
    rfl
  simp only [mk1_ev, mk2_ev, mk3_ev, mk4_ev, sq_ev, set_ev, call_ev, args_ev, argK_ok, args_nil, argK2_ok, callK_ok, List.replicate, c_ev, setK_ok, set0_ev, set1_ev, set2_ev, set3_ev, set4_ev, set5_ev, set6_ev, set7_ev, set8_ev, set9_ev, sqK_nx, sqK_rt, if_ev, tb_ev, t_ev, tK_ok, tru_bl, nt_ev, ntK_ok, and_ev, or_ev, op_ev, opK_ok, opK2_ok, tbK_ok, ifK_t, ifK_f, nx_ev, rt_ev, rtK_ok, mkK_rt, mkK_nx, var0_ev, var1_ev, var2_ev, var3_ev, var4_ev, var5_ev, var6_ev, var7_ev, var8_ev, var9_ev, ixt0, ixt1, ixt2, eq_ss, ne_ss, eq_ii, ne_ii, lt_ii, le_ii, gt_ii, ge_ii, len_tup, av_ev, avK_ok, avK2_t, avK2_f, ov_ev, ovK_ok, ovK2_t, ovK2_f, aK_t, aK_f, oK_t, oK_f, tup_ev, ie_ev, ieK_t, ieK_f, un_ev, unK_ok, ex_ev, exK_ok, Bool.not_true, Bool.not_false, decide_true, decide_false, Nat.reduceSub, f__law_refused, d__law_refused, e]
theorem refused_l {z : Int} {k f b : W} {pre post : List W} {S : Store} (hk : Kd 4 z k) (h : ∀ x ∈ pre, Lt k x) (hf : f_is_letter 4 [k, f] S = .ok (.bl false) S) : f__law_refused [k, .tup (pre ++ f :: post), b] S = .ok (.bl true) (S ++ errC "BadLetter") := by
  refine refused_of ?_
  simp only [mk1_ev, mk2_ev, mk3_ev, mk4_ev, sq_ev, set_ev, call_ev, args_ev, argK_ok, args_nil, argK2_ok, callK_ok, List.replicate, c_ev, setK_ok, set0_ev, set1_ev, set2_ev, set3_ev, set4_ev, set5_ev, set6_ev, set7_ev, set8_ev, set9_ev, sqK_nx, sqK_rt, if_ev, tb_ev, t_ev, tK_ok, tru_bl, nt_ev, ntK_ok, and_ev, or_ev, op_ev, opK_ok, opK2_ok, tbK_ok, ifK_t, ifK_f, nx_ev, rt_ev, rtK_ok, mkK_rt, mkK_nx, var0_ev, var1_ev, var2_ev, var3_ev, var4_ev, var5_ev, var6_ev, var7_ev, var8_ev, var9_ev, ixt0, ixt1, ixt2, eq_ss, ne_ss, eq_ii, ne_ii, lt_ii, le_ii, gt_ii, ge_ii, len_tup, av_ev, avK_ok, avK2_t, avK2_f, ov_ev, ovK_ok, ovK2_t, ovK2_f, aK_t, aK_f, oK_t, oK_f, tup_ev, ie_ev, ieK_t, ieK_f, un_ev, unK_ok, ex_ev, exK_ok, Bool.not_true, Bool.not_false, decide_true, decide_false, Nat.reduceSub, f_words_compared, d_words_compared, checkw_f hk h hf, exK_exc, sqK_ex, mkK_ex]
theorem refused_r {z : Int} {k f : W} {xs pre post : List W} {S : Store} (hk : Kd 4 z k) (hx : ∀ x ∈ xs, Lt k x) (h : ∀ x ∈ pre, Lt k x) (hf : f_is_letter 4 [k, f] S = .ok (.bl false) S) : f__law_refused [k, .tup xs, .tup (pre ++ f :: post)] S = .ok (.bl true) (S ++ errC "BadLetter") := by
  refine refused_of ?_
  simp only [mk1_ev, mk2_ev, mk3_ev, mk4_ev, sq_ev, set_ev, call_ev, args_ev, argK_ok, args_nil, argK2_ok, callK_ok, List.replicate, c_ev, setK_ok, set0_ev, set1_ev, set2_ev, set3_ev, set4_ev, set5_ev, set6_ev, set7_ev, set8_ev, set9_ev, sqK_nx, sqK_rt, if_ev, tb_ev, t_ev, tK_ok, tru_bl, nt_ev, ntK_ok, and_ev, or_ev, op_ev, opK_ok, opK2_ok, tbK_ok, ifK_t, ifK_f, nx_ev, rt_ev, rtK_ok, mkK_rt, mkK_nx, var0_ev, var1_ev, var2_ev, var3_ev, var4_ev, var5_ev, var6_ev, var7_ev, var8_ev, var9_ev, ixt0, ixt1, ixt2, eq_ss, ne_ss, eq_ii, ne_ii, lt_ii, le_ii, gt_ii, ge_ii, len_tup, av_ev, avK_ok, avK2_t, avK2_f, ov_ev, ovK_ok, ovK2_t, ovK2_f, aK_t, aK_f, oK_t, oK_f, tup_ev, ie_ev, ieK_t, ieK_f, un_ev, unK_ok, ex_ev, exK_ok, Bool.not_true, Bool.not_false, decide_true, decide_false, Nat.reduceSub, f_words_compared, d_words_compared, checkw_t hk hx, checkw_f hk h hf, exK_exc, sqK_ex, mkK_ex]
end G
set_option maxHeartbeats 4000000
namespace G
open PySem L2 Fs
/-! ### the kind turned round -/
theorem Kd.same {n : Nat} {s s' : Int} {k : W} (h : Kd n s k) (h' : Kd n s' k) : s = s' := by
  obtain ⟨c, e⟩ := kinds_ok h []
  obtain ⟨c', e'⟩ := kinds_ok h' []
  rw [e] at e'
  injection e' with e1 _
  injection e1
def TnR (n : Nat) (k k' : W) : Prop := (∀ s, Kd n s k → Kd n s k') ∧ ∀ w, Lt k w → Lt k' w
theorem tn_all {n : Nat} : ∀ {ks ys : List W} {s : Int}, KdA n s ks → ys.length = ks.length → (∀ (i : Nat) (w y : W), ks[i]? = some w → ys[i]? = some y → TnR n w y) → KdA n s ys
  | [], ys, s, h, hl, _ => by
    cases h
    cases ys with
    | nil => exact .nil
    | cons _ _ => cases hl
  | k :: ks, ys, s, h, hl, hr => by
    cases ys with
    | nil => cases hl
    | cons y ys =>
      cases h with
      | cons h1 h2 =>
        exact .cons ((hr 0 k y rfl rfl).1 _ h1) (tn_all h2 (by simpa using hl) fun i w y' e1 e2 => hr (i + 1) w y' (by simpa using e1) (by simpa using e2))
theorem turned_ok : ∀ {n : Nat} {z : Int} {k : W}, Kd n z k → ∀ S, ∃ k' cs, f__law_turned n [k] S = .ok k' (S ++ cs) ∧ TnR n k k' := by
  intro n
  induction n with
  | zero => intro z k h; cases h
  | succ n ih =>
    intro z k h S
    have hs : ∀ {k' : W}, Kd (n + 1) z k' → (∀ s, Kd (n + 1) s k → Kd (n + 1) s k') := fun h' s hk => by
      rw [hk.same h]
      exact h'
    cases h with
    | @names _ ns a b c d =>
      refine ⟨.tup [strW "names", .tup (ns.reverse.map .str)], [], ?_, hs (.names (by simpa using a) (by simpa using b) (List.pairwise_reverse.mpr (List.Pairwise.imp Ne.symm c)) (fun x hx => d x (List.mem_reverse.mp hx))), fun w hw => ?_⟩
      · rw [List.append_nil, List.map_reverse]
        simp only [mk1_ev, mk2_ev, mk3_ev, mk4_ev, sq_ev, set_ev, call_ev, args_ev, argK_ok, args_nil, argK2_ok, callK_ok, List.replicate, c_ev, setK_ok, set0_ev, set1_ev, set2_ev, set3_ev, set4_ev, set5_ev, set6_ev, set7_ev, set8_ev, set9_ev, sqK_nx, sqK_rt, if_ev, tb_ev, t_ev, tK_ok, tru_bl, nt_ev, ntK_ok, and_ev, or_ev, op_ev, opK_ok, opK2_ok, tbK_ok, ifK_t, ifK_f, nx_ev, rt_ev, rtK_ok, mkK_rt, mkK_nx, var0_ev, var1_ev, var2_ev, var3_ev, var4_ev, var5_ev, var6_ev, var7_ev, var8_ev, var9_ev, ixt0, ixt1, ixt2, eq_ss, ne_ss, eq_ii, ne_ii, lt_ii, le_ii, gt_ii, ge_ii, len_tup, av_ev, avK_ok, avK2_t, avK2_f, ov_ev, ovK_ok, ovK2_t, ovK2_f, aK_t, aK_f, oK_t, oK_f, tup_ev, ie_ev, ieK_t, ieK_f, un_ev, unK_ok, ex_ev, exK_ok, Bool.not_true, Bool.not_false, decide_true, decide_false, Nat.reduceSub, f__law_turned, d__law_turned, back_t, tupK_ok (b2 _ _)]
      · obtain ⟨x, rfl, hx⟩ := hw.inv_names
        exact .name (List.mem_reverse.mpr hx)
    | kint =>
      refine ⟨_, [], ?_, hs .kint, fun w hw => hw⟩
      rw [List.append_nil]
      simp only [mk1_ev, mk2_ev, mk3_ev, mk4_ev, sq_ev, set_ev, call_ev, args_ev, argK_ok, args_nil, argK2_ok, callK_ok, List.replicate, c_ev, setK_ok, set0_ev, set1_ev, set2_ev, set3_ev, set4_ev, set5_ev, set6_ev, set7_ev, set8_ev, set9_ev, sqK_nx, sqK_rt, if_ev, tb_ev, t_ev, tK_ok, tru_bl, nt_ev, ntK_ok, and_ev, or_ev, op_ev, opK_ok, opK2_ok, tbK_ok, ifK_t, ifK_f, nx_ev, rt_ev, rtK_ok, mkK_rt, mkK_nx, var0_ev, var1_ev, var2_ev, var3_ev, var4_ev, var5_ev, var6_ev, var7_ev, var8_ev, var9_ev, ixt0, ixt1, ixt2, eq_ss, ne_ss, eq_ii, ne_ii, lt_ii, le_ii, gt_ii, ge_ii, len_tup, av_ev, avK_ok, avK2_t, avK2_f, ov_ev, ovK_ok, ovK2_t, ovK2_f, aK_t, aK_f, oK_t, oK_f, tup_ev, ie_ev, ieK_t, ieK_f, un_ev, unK_ok, ex_ev, exK_ok, Bool.not_true, Bool.not_false, decide_true, decide_false, Nat.reduceSub, f__law_turned, d__law_turned, sd "names" "integers", sd "names" "pair", sd "names" "either", sd "names" "maybe", sd "integers" "names", sd "integers" "pair", sd "integers" "either", sd "integers" "maybe", sd "pair" "names", sd "pair" "integers", sd "pair" "either", sd "pair" "maybe", sd "either" "names", sd "either" "integers", sd "either" "pair", sd "either" "maybe", sd "maybe" "names", sd "maybe" "integers", sd "maybe" "pair", sd "maybe" "either"]
    | @pair _ s s' a b h1 h2 =>
      obtain ⟨a', c1, e1, t1, u1⟩ := ih h1 S
      obtain ⟨b', c2, e2, t2, u2⟩ := ih h2 (S ++ c1)
      refine ⟨.tup [strW "pair", a', b'], c1 ++ c2, ?_, hs (.pair (t1 _ h1) (t2 _ h2)), fun w hw => ?_⟩
      · simp only [mk1_ev, mk2_ev, mk3_ev, mk4_ev, sq_ev, set_ev, call_ev, args_ev, argK_ok, args_nil, argK2_ok, callK_ok, List.replicate, c_ev, setK_ok, set0_ev, set1_ev, set2_ev, set3_ev, set4_ev, set5_ev, set6_ev, set7_ev, set8_ev, set9_ev, sqK_nx, sqK_rt, if_ev, tb_ev, t_ev, tK_ok, tru_bl, nt_ev, ntK_ok, and_ev, or_ev, op_ev, opK_ok, opK2_ok, tbK_ok, ifK_t, ifK_f, nx_ev, rt_ev, rtK_ok, mkK_rt, mkK_nx, var0_ev, var1_ev, var2_ev, var3_ev, var4_ev, var5_ev, var6_ev, var7_ev, var8_ev, var9_ev, ixt0, ixt1, ixt2, eq_ss, ne_ss, eq_ii, ne_ii, lt_ii, le_ii, gt_ii, ge_ii, len_tup, av_ev, avK_ok, avK2_t, avK2_f, ov_ev, ovK_ok, ovK2_t, ovK2_f, aK_t, aK_f, oK_t, oK_f, tup_ev, ie_ev, ieK_t, ieK_f, un_ev, unK_ok, ex_ev, exK_ok, Bool.not_true, Bool.not_false, decide_true, decide_false, Nat.reduceSub, f__law_turned, d__law_turned, sd "names" "integers", sd "names" "pair", sd "names" "either", sd "names" "maybe", sd "integers" "names", sd "integers" "pair", sd "integers" "either", sd "integers" "maybe", sd "pair" "names", sd "pair" "integers", sd "pair" "either", sd "pair" "maybe", sd "either" "names", sd "either" "integers", sd "either" "pair", sd "either" "maybe", sd "maybe" "names", sd "maybe" "integers", sd "maybe" "pair", sd "maybe" "either", e1, e2, tupK_ok (b3 _ _ _), List.append_assoc]
      · obtain ⟨x, y, rfl, hx, hy⟩ := hw.inv_pair
        exact .pair (u1 _ hx) (u2 _ hy)
    | @maybe _ s a h1 =>
      obtain ⟨a', c1, e1, t1, u1⟩ := ih h1 S
      refine ⟨.tup [strW "maybe", a'], c1, ?_, hs (.maybe (t1 _ h1)), fun w hw => ?_⟩
      · simp only [mk1_ev, mk2_ev, mk3_ev, mk4_ev, sq_ev, set_ev, call_ev, args_ev, argK_ok, args_nil, argK2_ok, callK_ok, List.replicate, c_ev, setK_ok, set0_ev, set1_ev, set2_ev, set3_ev, set4_ev, set5_ev, set6_ev, set7_ev, set8_ev, set9_ev, sqK_nx, sqK_rt, if_ev, tb_ev, t_ev, tK_ok, tru_bl, nt_ev, ntK_ok, and_ev, or_ev, op_ev, opK_ok, opK2_ok, tbK_ok, ifK_t, ifK_f, nx_ev, rt_ev, rtK_ok, mkK_rt, mkK_nx, var0_ev, var1_ev, var2_ev, var3_ev, var4_ev, var5_ev, var6_ev, var7_ev, var8_ev, var9_ev, ixt0, ixt1, ixt2, eq_ss, ne_ss, eq_ii, ne_ii, lt_ii, le_ii, gt_ii, ge_ii, len_tup, av_ev, avK_ok, avK2_t, avK2_f, ov_ev, ovK_ok, ovK2_t, ovK2_f, aK_t, aK_f, oK_t, oK_f, tup_ev, ie_ev, ieK_t, ieK_f, un_ev, unK_ok, ex_ev, exK_ok, Bool.not_true, Bool.not_false, decide_true, decide_false, Nat.reduceSub, f__law_turned, d__law_turned, sd "names" "integers", sd "names" "pair", sd "names" "either", sd "names" "maybe", sd "integers" "names", sd "integers" "pair", sd "integers" "either", sd "integers" "maybe", sd "pair" "names", sd "pair" "integers", sd "pair" "either", sd "pair" "maybe", sd "either" "names", sd "either" "integers", sd "either" "pair", sd "either" "maybe", sd "maybe" "names", sd "maybe" "integers", sd "maybe" "pair", sd "maybe" "either", e1, tupK_ok (b2 _ _)]
      · rcases hw.inv_maybe with rfl | ⟨x, rfl, hx⟩
        · exact .none
        · exact .some (u1 _ hx)
    | @either _ s ks h1 h2 h3 =>
      obtain ⟨ys, cs, e, hl, hr⟩ := lc_map (S1 := S) (ls := [some (W.tup [strW "either", .tup ks]), none]) (vs := [1]) (j := 1) (te := dCall (f__law_turned n) [dVar 1]) (st := stayOf (.tup ks) ks) (ws := ks) (R := fun w y => TnR n w y) (fun _ _ => trivial) (by omega) (fun w S2 hw => by
        obtain ⟨s', hk⟩ := h1.mem w hw
        obtain ⟨k', c1, e1, t1⟩ := ih hk S2
        refine ⟨k', c1, ?_, t1⟩
        simp [wipeW, e1])
      have hy : ys ≠ [] := fun q => by
        rw [q] at hl
        exact h2 (List.length_eq_zero_iff.mp hl.symm)
      refine ⟨.tup [strW "either", .tup ys], Cell.lst ys :: cs, ?_, hs (.either (tn_all h1 hl hr) hy (by omega)), fun w hw => ?_⟩
      · have ht : gTuple [.loc S.length] (S ++ Cell.lst ys :: cs) = .ok (.tup ys) (S ++ Cell.lst ys :: cs) := tuple_loc get_mid
        have sq : seqW S (.tup ks) = some ks := rfl
        simp only [mk1_ev, mk2_ev, mk3_ev, mk4_ev, sq_ev, set_ev, call_ev, args_ev, argK_ok, args_nil, argK2_ok, callK_ok, List.replicate, c_ev, setK_ok, set0_ev, set1_ev, set2_ev, set3_ev, set4_ev, set5_ev, set6_ev, set7_ev, set8_ev, set9_ev, sqK_nx, sqK_rt, if_ev, tb_ev, t_ev, tK_ok, tru_bl, nt_ev, ntK_ok, and_ev, or_ev, op_ev, opK_ok, opK2_ok, tbK_ok, ifK_t, ifK_f, nx_ev, rt_ev, rtK_ok, mkK_rt, mkK_nx, var0_ev, var1_ev, var2_ev, var3_ev, var4_ev, var5_ev, var6_ev, var7_ev, var8_ev, var9_ev, ixt0, ixt1, ixt2, eq_ss, ne_ss, eq_ii, ne_ii, lt_ii, le_ii, gt_ii, ge_ii, len_tup, av_ev, avK_ok, avK2_t, avK2_f, ov_ev, ovK_ok, ovK2_t, ovK2_f, aK_t, aK_f, oK_t, oK_f, tup_ev, ie_ev, ieK_t, ieK_f, un_ev, unK_ok, ex_ev, exK_ok, Bool.not_true, Bool.not_false, decide_true, decide_false, Nat.reduceSub, f__law_turned, d__law_turned, sd "names" "integers", sd "names" "pair", sd "names" "either", sd "names" "maybe", sd "integers" "names", sd "integers" "pair", sd "integers" "either", sd "integers" "maybe", sd "pair" "names", sd "pair" "integers", sd "pair" "either", sd "pair" "maybe", sd "either" "names", sd "either" "integers", sd "either" "pair", sd "either" "maybe", sd "maybe" "names", sd "maybe" "integers", sd "maybe" "pair", sd "maybe" "either", lc_ev, si_ev, siK_ok, sq, siK2_ok, e, ht, tupK_ok (b2 _ _)]
      · obtain ⟨i, a, x, rfl, i0, ia, hx⟩ := hw.inv_either
        have hi : i.toNat < ys.length := by rw [hl]; exact (List.getElem?_eq_some_iff.mp ia).1
        exact .case i0 (List.getElem?_eq_getElem hi) ((hr _ _ _ ia (List.getElem?_eq_getElem hi)).2 _ hx)
/-! ### a letter near by -/
theorem cut1 {p x y : W} {S : Store} : gSlice (.tup [p, x, y]) none (some 1) S = .ok (.tup [p]) S := rfl
theorem cut2 {p x y : W} {S : Store} : gSlice (.tup [p, x, y]) none (some 2) S = .ok (.tup [p, x]) S := rfl
theorem cut2' {p x y : W} {S : Store} : gSlice (.tup [p, x, y]) (some 2) none S = .ok (.tup [y]) S := rfl
theorem cut3' {p x y : W} {S : Store} : gSlice (.tup [p, x, y]) (some 3) none S = .ok (.tup []) S := rfl
theorem gd {n : Nat} {z : Int} {k : W} (h : Kd n z k) (hn : n ≤ 4) : Kd 4 z k := h.le hn
theorem near_ok {t s : Nat} : ∀ {n : Nat} {z : Int} {k : W}, n ≤ 4 → Kd n z k → ∀ {w : W}, Lt k w → ∀ {S : Store}, Tp S t s → LtP t s S k (f__law_near n [.loc t, k, w] S) := by
  intro n
  induction n with
  | zero => intro z k _ h; cases h
  | succ n ih =>
    intro z k hn h w hw S hT
    cases h with
    | @names _ ns a b c d =>
      obtain ⟨x0, rfl, hx0⟩ := hw.inv_names
      have hl : 1 ≤ (ns.length : Int) := by
        cases ns with
        | nil => exact absurd rfl a
        | cons x r => rw [List.length_cons]; omega
      obtain ⟨k1, S1, e1, T1, F1, l1, u1⟩ := draw_n (ns.length : Int) hT
      obtain ⟨w, d1, mm⟩ := atNat (xs := ns.map W.str) l1 (by simpa using u1)
      obtain ⟨x, hx, rfl⟩ := List.mem_map.mp mm
      refine ⟨.str x, S1, ?_, T1, F1, .name hx⟩
      simp only [mk1_ev, mk2_ev, mk3_ev, mk4_ev, sq_ev, set_ev, call_ev, args_ev, argK_ok, args_nil, argK2_ok, callK_ok, List.replicate, c_ev, setK_ok, set0_ev, set1_ev, set2_ev, set3_ev, set4_ev, set5_ev, set6_ev, set7_ev, set8_ev, set9_ev, sqK_nx, sqK_rt, if_ev, tb_ev, t_ev, tK_ok, tru_bl, nt_ev, ntK_ok, and_ev, or_ev, op_ev, opK_ok, opK2_ok, tbK_ok, ifK_t, ifK_f, nx_ev, rt_ev, rtK_ok, mkK_rt, mkK_nx, var0_ev, var1_ev, var2_ev, var3_ev, var4_ev, var5_ev, var6_ev, var7_ev, var8_ev, var9_ev, ixt0, ixt1, ixt2, eq_ss, ne_ss, eq_ii, ne_ii, lt_ii, le_ii, gt_ii, ge_ii, len_tup, av_ev, avK_ok, avK2_t, avK2_f, ov_ev, ovK_ok, ovK2_t, ovK2_f, aK_t, aK_f, oK_t, oK_f, tup_ev, ie_ev, ieK_t, ieK_f, un_ev, unK_ok, ex_ev, exK_ok, Bool.not_true, Bool.not_false, decide_true, decide_false, Nat.reduceSub, f__law_near, d__law_near, List.length_map, e1, ix_t d1]
    | kint =>
      obtain ⟨i, rfl⟩ := hw.inv_kint
      let L : List W := [.int (i + 1), .int (i - 1), .int (-i), .int (i + 12), .int 0]
      have T0 : Tp (S ++ [.lst L]) t s := hT.app
      obtain ⟨k1, S1, e1, T1, F1, l1, u1⟩ := draw_n 5 T0
      have q1 : S1[S.length]? = some (.lst L) := F1.get (by have := hT.lt; omega) (get_mid (cs := []))
      obtain ⟨w, d1, m1⟩ := ix_lit (k := k1) q1 l1 (by exact u1)
      have hw : ∃ j : Int, w = .int j := by
        simp only [L, List.mem_cons, List.mem_nil_iff, or_false] at m1
        rcases m1 with rfl | rfl | rfl | rfl | rfl <;> exact ⟨_, rfl⟩
      obtain ⟨j, rfl⟩ := hw
      have b5 : L.length ≤ 100 := by simp [L]
      simp only [L] at b5 e1 d1
      refine ⟨.int j, S1, ?_, T1, fr_app.trans F1, .kint j⟩
      simp only [mk1_ev, mk2_ev, mk3_ev, mk4_ev, sq_ev, set_ev, call_ev, args_ev, argK_ok, args_nil, argK2_ok, callK_ok, List.replicate, c_ev, setK_ok, set0_ev, set1_ev, set2_ev, set3_ev, set4_ev, set5_ev, set6_ev, set7_ev, set8_ev, set9_ev, sqK_nx, sqK_rt, if_ev, tb_ev, t_ev, tK_ok, tru_bl, nt_ev, ntK_ok, and_ev, or_ev, op_ev, opK_ok, opK2_ok, tbK_ok, ifK_t, ifK_f, nx_ev, rt_ev, rtK_ok, mkK_rt, mkK_nx, var0_ev, var1_ev, var2_ev, var3_ev, var4_ev, var5_ev, var6_ev, var7_ev, var8_ev, var9_ev, ixt0, ixt1, ixt2, eq_ss, ne_ss, eq_ii, ne_ii, lt_ii, le_ii, gt_ii, ge_ii, len_tup, av_ev, avK_ok, avK2_t, avK2_f, ov_ev, ovK_ok, ovK2_t, ovK2_f, aK_t, aK_f, oK_t, oK_f, tup_ev, ie_ev, ieK_t, ieK_f, un_ev, unK_ok, ex_ev, exK_ok, Bool.not_true, Bool.not_false, decide_true, decide_false, Nat.reduceSub, f__law_near, d__law_near, sd "names" "integers", sd "names" "pair", sd "names" "either", sd "names" "maybe", sd "integers" "names", sd "integers" "pair", sd "integers" "either", sd "integers" "maybe", sd "pair" "names", sd "pair" "integers", sd "pair" "either", sd "pair" "maybe", sd "either" "names", sd "either" "integers", sd "either" "pair", sd "either" "maybe", sd "maybe" "names", sd "maybe" "integers", sd "maybe" "pair", sd "maybe" "either", lst_ev, add_ii, sub_ii, neg_i, lstK_ok b5, e1, d1]
    | @pair _ s1 s2 a b h1 h2 =>
      obtain ⟨x, y, rfl, hx, hy⟩ := hw.inv_pair
      obtain ⟨k1, S1, e1, T1, F1, l1, u1⟩ := draw_n 2 hT
      have hk : k1 = 0 ∨ k1 = 1 := by omega
      have i11 : (1 : Int) + 1 = 2 := rfl
      have i21 : (2 : Int) + 1 = 3 := rfl
      have i10 : (1 : Int) + 0 = 1 := rfl
      rcases hk with rfl | rfl
      · obtain ⟨x', S2, e2, T2, F2, r2⟩ := ih (by omega) h1 hx T1
        refine ⟨.tup [strW "pair", x', y], S2, ?_, T2, F1.trans F2, .pair r2 hy⟩
        have c1 : ∀ S, gAdd (.tup [strW "pair"]) (.tup [x']) S = .ok (.tup [strW "pair", x']) S := fun S => cat_tt (by simp)
        have c2 : ∀ S, gAdd (.tup [strW "pair", x']) (.tup [y]) S = .ok (.tup [strW "pair", x', y]) S := fun S => cat_tt (by simp)
        simp only [mk1_ev, mk2_ev, mk3_ev, mk4_ev, sq_ev, set_ev, call_ev, args_ev, argK_ok, args_nil, argK2_ok, callK_ok, List.replicate, c_ev, setK_ok, set0_ev, set1_ev, set2_ev, set3_ev, set4_ev, set5_ev, set6_ev, set7_ev, set8_ev, set9_ev, sqK_nx, sqK_rt, if_ev, tb_ev, t_ev, tK_ok, tru_bl, nt_ev, ntK_ok, and_ev, or_ev, op_ev, opK_ok, opK2_ok, tbK_ok, ifK_t, ifK_f, nx_ev, rt_ev, rtK_ok, mkK_rt, mkK_nx, var0_ev, var1_ev, var2_ev, var3_ev, var4_ev, var5_ev, var6_ev, var7_ev, var8_ev, var9_ev, ixt0, ixt1, ixt2, eq_ss, ne_ss, eq_ii, ne_ii, lt_ii, le_ii, gt_ii, ge_ii, len_tup, av_ev, avK_ok, avK2_t, avK2_f, ov_ev, ovK_ok, ovK2_t, ovK2_f, aK_t, aK_f, oK_t, oK_f, tup_ev, ie_ev, ieK_t, ieK_f, un_ev, unK_ok, ex_ev, exK_ok, Bool.not_true, Bool.not_false, decide_true, decide_false, Nat.reduceSub, f__law_near, d__law_near, sd "names" "integers", sd "names" "pair", sd "names" "either", sd "names" "maybe", sd "integers" "names", sd "integers" "pair", sd "integers" "either", sd "integers" "maybe", sd "pair" "names", sd "pair" "integers", sd "pair" "either", sd "pair" "maybe", sd "either" "names", sd "either" "integers", sd "either" "pair", sd "either" "maybe", sd "maybe" "names", sd "maybe" "integers", sd "maybe" "pair", sd "maybe" "either", e1, add_ii, i10, i11, sl_ev, slK_ok, nop_ev, slK2_ok, part_ev, partK_ok, slK3_ok, cut1, cut2', e2, tupK_ok (b1 _), c1, c2]
      · obtain ⟨y', S2, e2, T2, F2, r2⟩ := ih (by omega) h2 hy T1
        refine ⟨.tup [strW "pair", x, y'], S2, ?_, T2, F1.trans F2, .pair hx r2⟩
        have c1 : ∀ S, gAdd (.tup [strW "pair", x]) (.tup [y']) S = .ok (.tup [strW "pair", x, y']) S := fun S => cat_tt (by simp)
        have c2 : ∀ S, gAdd (.tup [strW "pair", x, y']) (.tup []) S = .ok (.tup [strW "pair", x, y']) S := fun S => cat_tt (by simp)
        simp only [mk1_ev, mk2_ev, mk3_ev, mk4_ev, sq_ev, set_ev, call_ev, args_ev, argK_ok, args_nil, argK2_ok, callK_ok, List.replicate, c_ev, setK_ok, set0_ev, set1_ev, set2_ev, set3_ev, set4_ev, set5_ev, set6_ev, set7_ev, set8_ev, set9_ev, sqK_nx, sqK_rt, if_ev, tb_ev, t_ev, tK_ok, tru_bl, nt_ev, ntK_ok, and_ev, or_ev, op_ev, opK_ok, opK2_ok, tbK_ok, ifK_t, ifK_f, nx_ev, rt_ev, rtK_ok, mkK_rt, mkK_nx, var0_ev, var1_ev, var2_ev, var3_ev, var4_ev, var5_ev, var6_ev, var7_ev, var8_ev, var9_ev, ixt0, ixt1, ixt2, eq_ss, ne_ss, eq_ii, ne_ii, lt_ii, le_ii, gt_ii, ge_ii, len_tup, av_ev, avK_ok, avK2_t, avK2_f, ov_ev, ovK_ok, ovK2_t, ovK2_f, aK_t, aK_f, oK_t, oK_f, tup_ev, ie_ev, ieK_t, ieK_f, un_ev, unK_ok, ex_ev, exK_ok, Bool.not_true, Bool.not_false, decide_true, decide_false, Nat.reduceSub, f__law_near, d__law_near, sd "names" "integers", sd "names" "pair", sd "names" "either", sd "names" "maybe", sd "integers" "names", sd "integers" "pair", sd "integers" "either", sd "integers" "maybe", sd "pair" "names", sd "pair" "integers", sd "pair" "either", sd "pair" "maybe", sd "either" "names", sd "either" "integers", sd "either" "pair", sd "either" "maybe", sd "maybe" "names", sd "maybe" "integers", sd "maybe" "pair", sd "maybe" "either", e1, add_ii, i11, i21, sl_ev, slK_ok, nop_ev, slK2_ok, part_ev, partK_ok, slK3_ok, cut2, cut3', e2, tupK_ok (b1 _), c1, c2]
    | @either _ s1 ks h1 h2 h3 =>
      obtain ⟨i, a, x, rfl, i0, ia, hx⟩ := hw.inv_either
      have hl : 1 ≤ (ks.length : Int) := by
        have := (List.getElem?_eq_some_iff.mp ia).1
        omega
      obtain ⟨k1, S1, e1, T1, F1, l1, u1⟩ := draw_n (ks.length : Int) hT
      by_cases hk : k1 = i
      · subst hk
        obtain ⟨z', hz⟩ := h1.mem a (List.mem_of_getElem? ia)
        obtain ⟨x', S2, e2, T2, F2, r2⟩ := ih (by omega) hz hx T1
        refine ⟨_, S2, ?_, T2, F1.trans F2, .case i0 ia r2⟩
        simp only [mk1_ev, mk2_ev, mk3_ev, mk4_ev, sq_ev, set_ev, call_ev, args_ev, argK_ok, args_nil, argK2_ok, callK_ok, List.replicate, c_ev, setK_ok, set0_ev, set1_ev, set2_ev, set3_ev, set4_ev, set5_ev, set6_ev, set7_ev, set8_ev, set9_ev, sqK_nx, sqK_rt, if_ev, tb_ev, t_ev, tK_ok, tru_bl, nt_ev, ntK_ok, and_ev, or_ev, op_ev, opK_ok, opK2_ok, tbK_ok, ifK_t, ifK_f, nx_ev, rt_ev, rtK_ok, mkK_rt, mkK_nx, var0_ev, var1_ev, var2_ev, var3_ev, var4_ev, var5_ev, var6_ev, var7_ev, var8_ev, var9_ev, ixt0, ixt1, ixt2, eq_ss, ne_ss, eq_ii, ne_ii, lt_ii, le_ii, gt_ii, ge_ii, len_tup, av_ev, avK_ok, avK2_t, avK2_f, ov_ev, ovK_ok, ovK2_t, ovK2_f, aK_t, aK_f, oK_t, oK_f, tup_ev, ie_ev, ieK_t, ieK_f, un_ev, unK_ok, ex_ev, exK_ok, Bool.not_true, Bool.not_false, decide_true, decide_false, Nat.reduceSub, f__law_near, d__law_near, sd "names" "integers", sd "names" "pair", sd "names" "either", sd "names" "maybe", sd "integers" "names", sd "integers" "pair", sd "integers" "either", sd "integers" "maybe", sd "pair" "names", sd "pair" "integers", sd "pair" "either", sd "pair" "maybe", sd "either" "names", sd "either" "integers", sd "either" "pair", sd "either" "maybe", sd "maybe" "names", sd "maybe" "integers", sd "maybe" "pair", sd "maybe" "either", e1, ixAt i0 ia, e2, tupK_ok (b3 _ _ _)]
      · have hk' : decide (k1 = i) = false := decide_eq_false hk
        obtain ⟨a', d1, mm⟩ := atNat (xs := ks) l1 u1
        obtain ⟨z', hz⟩ := h1.mem a' mm
        obtain ⟨x', S2, e2, T2, F2, r2⟩ := letter_ok (m := 20) (q := .int 12) (by decide) (by decide) (gd hz (by omega)) T1
        have hg : ks[k1.toNat]? = some a' := by
          unfold L2.atI ixN at d1
          rw [if_pos l1, if_pos u1] at d1
          exact d1
        refine ⟨_, S2, ?_, T2, F1.trans F2, .case l1 hg r2⟩
        simp only [mk1_ev, mk2_ev, mk3_ev, mk4_ev, sq_ev, set_ev, call_ev, args_ev, argK_ok, args_nil, argK2_ok, callK_ok, List.replicate, c_ev, setK_ok, set0_ev, set1_ev, set2_ev, set3_ev, set4_ev, set5_ev, set6_ev, set7_ev, set8_ev, set9_ev, sqK_nx, sqK_rt, if_ev, tb_ev, t_ev, tK_ok, tru_bl, nt_ev, ntK_ok, and_ev, or_ev, op_ev, opK_ok, opK2_ok, tbK_ok, ifK_t, ifK_f, nx_ev, rt_ev, rtK_ok, mkK_rt, mkK_nx, var0_ev, var1_ev, var2_ev, var3_ev, var4_ev, var5_ev, var6_ev, var7_ev, var8_ev, var9_ev, ixt0, ixt1, ixt2, eq_ss, ne_ss, eq_ii, ne_ii, lt_ii, le_ii, gt_ii, ge_ii, len_tup, av_ev, avK_ok, avK2_t, avK2_f, ov_ev, ovK_ok, ovK2_t, ovK2_f, aK_t, aK_f, oK_t, oK_f, tup_ev, ie_ev, ieK_t, ieK_f, un_ev, unK_ok, ex_ev, exK_ok, Bool.not_true, Bool.not_false, decide_true, decide_false, Nat.reduceSub, f__law_near, d__law_near, sd "names" "integers", sd "names" "pair", sd "names" "either", sd "names" "maybe", sd "integers" "names", sd "integers" "pair", sd "integers" "either", sd "integers" "maybe", sd "pair" "names", sd "pair" "integers", sd "pair" "either", sd "pair" "maybe", sd "either" "names", sd "either" "integers", sd "either" "pair", sd "either" "maybe", sd "maybe" "names", sd "maybe" "integers", sd "maybe" "pair", sd "maybe" "either", e1, hk', ixAt l1 hg, tupK_ok (b2 _ _), e2, tupK_ok (b3 _ _ _)]
    | @maybe _ s1 a h1 =>
      rcases hw.inv_maybe with rfl | ⟨x, rfl, hx⟩
      · obtain ⟨x', S2, e2, T2, F2, r2⟩ := letter_ok (m := 20) (q := .int 12) (by decide) (by decide) (gd h1 (by omega)) hT
        refine ⟨_, S2, ?_, T2, F2, .some r2⟩
        simp only [mk1_ev, mk2_ev, mk3_ev, mk4_ev, sq_ev, set_ev, call_ev, args_ev, argK_ok, args_nil, argK2_ok, callK_ok, List.replicate, c_ev, setK_ok, set0_ev, set1_ev, set2_ev, set3_ev, set4_ev, set5_ev, set6_ev, set7_ev, set8_ev, set9_ev, sqK_nx, sqK_rt, if_ev, tb_ev, t_ev, tK_ok, tru_bl, nt_ev, ntK_ok, and_ev, or_ev, op_ev, opK_ok, opK2_ok, tbK_ok, ifK_t, ifK_f, nx_ev, rt_ev, rtK_ok, mkK_rt, mkK_nx, var0_ev, var1_ev, var2_ev, var3_ev, var4_ev, var5_ev, var6_ev, var7_ev, var8_ev, var9_ev, ixt0, ixt1, ixt2, eq_ss, ne_ss, eq_ii, ne_ii, lt_ii, le_ii, gt_ii, ge_ii, len_tup, av_ev, avK_ok, avK2_t, avK2_f, ov_ev, ovK_ok, ovK2_t, ovK2_f, aK_t, aK_f, oK_t, oK_f, tup_ev, ie_ev, ieK_t, ieK_f, un_ev, unK_ok, ex_ev, exK_ok, Bool.not_true, Bool.not_false, decide_true, decide_false, Nat.reduceSub, f__law_near, d__law_near, sd "names" "integers", sd "names" "pair", sd "names" "either", sd "names" "maybe", sd "integers" "names", sd "integers" "pair", sd "integers" "either", sd "integers" "maybe", sd "pair" "names", sd "pair" "integers", sd "pair" "either", sd "pair" "maybe", sd "either" "names", sd "either" "integers", sd "either" "pair", sd "either" "maybe", sd "maybe" "names", sd "maybe" "integers", sd "maybe" "pair", sd "maybe" "either", tupK_ok (b2 _ _), e2]
      · obtain ⟨k1, S1, e1, T1, F1, l1, u1⟩ := draw_n 4 hT
        by_cases hk : k1 = 0
        · subst hk
          refine ⟨_, S1, ?_, T1, F1, .none⟩
          simp only [mk1_ev, mk2_ev, mk3_ev, mk4_ev, sq_ev, set_ev, call_ev, args_ev, argK_ok, args_nil, argK2_ok, callK_ok, List.replicate, c_ev, setK_ok, set0_ev, set1_ev, set2_ev, set3_ev, set4_ev, set5_ev, set6_ev, set7_ev, set8_ev, set9_ev, sqK_nx, sqK_rt, if_ev, tb_ev, t_ev, tK_ok, tru_bl, nt_ev, ntK_ok, and_ev, or_ev, op_ev, opK_ok, opK2_ok, tbK_ok, ifK_t, ifK_f, nx_ev, rt_ev, rtK_ok, mkK_rt, mkK_nx, var0_ev, var1_ev, var2_ev, var3_ev, var4_ev, var5_ev, var6_ev, var7_ev, var8_ev, var9_ev, ixt0, ixt1, ixt2, eq_ss, ne_ss, eq_ii, ne_ii, lt_ii, le_ii, gt_ii, ge_ii, len_tup, av_ev, avK_ok, avK2_t, avK2_f, ov_ev, ovK_ok, ovK2_t, ovK2_f, aK_t, aK_f, oK_t, oK_f, tup_ev, ie_ev, ieK_t, ieK_f, un_ev, unK_ok, ex_ev, exK_ok, Bool.not_true, Bool.not_false, decide_true, decide_false, Nat.reduceSub, f__law_near, d__law_near, sd "names" "integers", sd "names" "pair", sd "names" "either", sd "names" "maybe", sd "integers" "names", sd "integers" "pair", sd "integers" "either", sd "integers" "maybe", sd "pair" "names", sd "pair" "integers", sd "pair" "either", sd "pair" "maybe", sd "either" "names", sd "either" "integers", sd "either" "pair", sd "either" "maybe", sd "maybe" "names", sd "maybe" "integers", sd "maybe" "pair", sd "maybe" "either", sd "some" "none", e1, tupK_ok (b1 _)]
        · have hk' : decide (k1 = 0) = false := decide_eq_false hk
          obtain ⟨x', S2, e2, T2, F2, r2⟩ := ih (by omega) h1 hx T1
          refine ⟨_, S2, ?_, T2, F1.trans F2, .some r2⟩
          simp only [mk1_ev, mk2_ev, mk3_ev, mk4_ev, sq_ev, set_ev, call_ev, args_ev, argK_ok, args_nil, argK2_ok, callK_ok, List.replicate, c_ev, setK_ok, set0_ev, set1_ev, set2_ev, set3_ev, set4_ev, set5_ev, set6_ev, set7_ev, set8_ev, set9_ev, sqK_nx, sqK_rt, if_ev, tb_ev, t_ev, tK_ok, tru_bl, nt_ev, ntK_ok, and_ev, or_ev, op_ev, opK_ok, opK2_ok, tbK_ok, ifK_t, ifK_f, nx_ev, rt_ev, rtK_ok, mkK_rt, mkK_nx, var0_ev, var1_ev, var2_ev, var3_ev, var4_ev, var5_ev, var6_ev, var7_ev, var8_ev, var9_ev, ixt0, ixt1, ixt2, eq_ss, ne_ss, eq_ii, ne_ii, lt_ii, le_ii, gt_ii, ge_ii, len_tup, av_ev, avK_ok, avK2_t, avK2_f, ov_ev, ovK_ok, ovK2_t, ovK2_f, aK_t, aK_f, oK_t, oK_f, tup_ev, ie_ev, ieK_t, ieK_f, un_ev, unK_ok, ex_ev, exK_ok, Bool.not_true, Bool.not_false, decide_true, decide_false, Nat.reduceSub, f__law_near, d__law_near, sd "names" "integers", sd "names" "pair", sd "names" "either", sd "names" "maybe", sd "integers" "names", sd "integers" "pair", sd "integers" "either", sd "integers" "maybe", sd "pair" "names", sd "pair" "integers", sd "pair" "either", sd "pair" "maybe", sd "either" "names", sd "either" "integers", sd "either" "pair", sd "either" "maybe", sd "maybe" "names", sd "maybe" "integers", sd "maybe" "pair", sd "maybe" "either", sd "some" "none", e1, hk', e2, tupK_ok (b2 _ _)]
end G
set_option maxHeartbeats 4000000
namespace G
open PySem L2 Fs
/-! ### what is no letter -/
def isKint (k : W) : Bool := match k with
  | .tup [.str h] => decide (h = Str.ofString "integers")
  | _ => false
def qs : Str := Str.ofString "q"
/-- the answer for a number, for the text q -/
theorem ask_int : ∀ {n : Nat} {z : Int} {k : W}, Kd n z k → ∃ b, ∀ n' S (i : Int), n ≤ n' → f_is_letter n' [k, .int i] S = .ok (.bl b) S ∧ f__law_is_letter n' [k, .int i] S = .ok (.bl b) S := by
  intro n z k h
  have isi : ∀ (i : Int) (S : Store), gIsi [.int i, .ty "tuple"] S = .ok (.bl false) S := fun _ _ => rfl
  have iss : ∀ (i : Int) (S : Store), gIsi [.int i, .ty "str"] S = .ok (.bl false) S := fun _ _ => rfl
  have wh : ∀ (i : Int) S, f__law_whole [.int i] S = .ok (.bl true) S := fun i S => whole_ok (n := 0) (.int i)
  have nm : ∀ (i : Int) S, f__is_number [.int i] S = .ok (.bl true) S := fun i S => isnum_ok (n := 0) (.int i)
  have get : ∀ {n' : Nat}, n ≤ n' → ∃ m, n' = m + 1 := fun {n'} hn => ⟨n' - 1, by
    cases n with
    | zero => cases h
    | succ n => omega⟩
  cases h with
  | @names n ns a b c d =>
    refine ⟨false, fun n' S i hn => ?_⟩
    obtain ⟨m, rfl⟩ := get hn
    have e : gIn (.int i) (.tup (ns.map .str)) S = .ok (.bl false) S := by
      obtain ⟨b, e, hb⟩ := in_names (S := S) (m := 0) (w := .int i) (ns := ns) (.int i) (by decide) d
      rw [hb rfl] at e
      exact e
    exact ⟨by simp only [mk1_ev, mk2_ev, mk3_ev, mk4_ev, sq_ev, set_ev, call_ev, args_ev, argK_ok, args_nil, argK2_ok, callK_ok, List.replicate, c_ev, setK_ok, set0_ev, set1_ev, set2_ev, set3_ev, set4_ev, set5_ev, set6_ev, set7_ev, set8_ev, set9_ev, sqK_nx, sqK_rt, if_ev, tb_ev, t_ev, tK_ok, tru_bl, nt_ev, ntK_ok, and_ev, or_ev, op_ev, opK_ok, opK2_ok, tbK_ok, ifK_t, ifK_f, nx_ev, rt_ev, rtK_ok, mkK_rt, mkK_nx, var0_ev, var1_ev, var2_ev, var3_ev, var4_ev, var5_ev, var6_ev, var7_ev, var8_ev, var9_ev, ixt0, ixt1, ixt2, eq_ss, ne_ss, eq_ii, ne_ii, lt_ii, le_ii, gt_ii, ge_ii, len_tup, av_ev, avK_ok, avK2_t, avK2_f, ov_ev, ovK_ok, ovK2_t, ovK2_f, aK_t, aK_f, oK_t, oK_f, tup_ev, ie_ev, ieK_t, ieK_f, un_ev, unK_ok, ex_ev, exK_ok, Bool.not_true, Bool.not_false, decide_true, decide_false, Nat.reduceSub, f_is_letter, d_is_letter, e], by simp only [mk1_ev, mk2_ev, mk3_ev, mk4_ev, sq_ev, set_ev, call_ev, args_ev, argK_ok, args_nil, argK2_ok, callK_ok, List.replicate, c_ev, setK_ok, set0_ev, set1_ev, set2_ev, set3_ev, set4_ev, set5_ev, set6_ev, set7_ev, set8_ev, set9_ev, sqK_nx, sqK_rt, if_ev, tb_ev, t_ev, tK_ok, tru_bl, nt_ev, ntK_ok, and_ev, or_ev, op_ev, opK_ok, opK2_ok, tbK_ok, ifK_t, ifK_f, nx_ev, rt_ev, rtK_ok, mkK_rt, mkK_nx, var0_ev, var1_ev, var2_ev, var3_ev, var4_ev, var5_ev, var6_ev, var7_ev, var8_ev, var9_ev, ixt0, ixt1, ixt2, eq_ss, ne_ss, eq_ii, ne_ii, lt_ii, le_ii, gt_ii, ge_ii, len_tup, av_ev, avK_ok, avK2_t, avK2_f, ov_ev, ovK_ok, ovK2_t, ovK2_f, aK_t, aK_f, oK_t, oK_f, tup_ev, ie_ev, ieK_t, ieK_f, un_ev, unK_ok, ex_ev, exK_ok, Bool.not_true, Bool.not_false, decide_true, decide_false, Nat.reduceSub, f__law_is_letter, d__law_is_letter, iss]⟩
  | kint =>
    refine ⟨true, fun n' S i hn => ?_⟩
    obtain ⟨m, rfl⟩ := get hn
    exact ⟨by simp only [mk1_ev, mk2_ev, mk3_ev, mk4_ev, sq_ev, set_ev, call_ev, args_ev, argK_ok, args_nil, argK2_ok, callK_ok, List.replicate, c_ev, setK_ok, set0_ev, set1_ev, set2_ev, set3_ev, set4_ev, set5_ev, set6_ev, set7_ev, set8_ev, set9_ev, sqK_nx, sqK_rt, if_ev, tb_ev, t_ev, tK_ok, tru_bl, nt_ev, ntK_ok, and_ev, or_ev, op_ev, opK_ok, opK2_ok, tbK_ok, ifK_t, ifK_f, nx_ev, rt_ev, rtK_ok, mkK_rt, mkK_nx, var0_ev, var1_ev, var2_ev, var3_ev, var4_ev, var5_ev, var6_ev, var7_ev, var8_ev, var9_ev, ixt0, ixt1, ixt2, eq_ss, ne_ss, eq_ii, ne_ii, lt_ii, le_ii, gt_ii, ge_ii, len_tup, av_ev, avK_ok, avK2_t, avK2_f, ov_ev, ovK_ok, ovK2_t, ovK2_f, aK_t, aK_f, oK_t, oK_f, tup_ev, ie_ev, ieK_t, ieK_f, un_ev, unK_ok, ex_ev, exK_ok, Bool.not_true, Bool.not_false, decide_true, decide_false, Nat.reduceSub, f_is_letter, d_is_letter, sd "names" "integers", sd "names" "pair", sd "names" "either", sd "names" "maybe", sd "integers" "names", sd "integers" "pair", sd "integers" "either", sd "integers" "maybe", sd "pair" "names", sd "pair" "integers", sd "pair" "either", sd "pair" "maybe", sd "either" "names", sd "either" "integers", sd "either" "pair", sd "either" "maybe", sd "maybe" "names", sd "maybe" "integers", sd "maybe" "pair", sd "maybe" "either", nm], by simp only [mk1_ev, mk2_ev, mk3_ev, mk4_ev, sq_ev, set_ev, call_ev, args_ev, argK_ok, args_nil, argK2_ok, callK_ok, List.replicate, c_ev, setK_ok, set0_ev, set1_ev, set2_ev, set3_ev, set4_ev, set5_ev, set6_ev, set7_ev, set8_ev, set9_ev, sqK_nx, sqK_rt, if_ev, tb_ev, t_ev, tK_ok, tru_bl, nt_ev, ntK_ok, and_ev, or_ev, op_ev, opK_ok, opK2_ok, tbK_ok, ifK_t, ifK_f, nx_ev, rt_ev, rtK_ok, mkK_rt, mkK_nx, var0_ev, var1_ev, var2_ev, var3_ev, var4_ev, var5_ev, var6_ev, var7_ev, var8_ev, var9_ev, ixt0, ixt1, ixt2, eq_ss, ne_ss, eq_ii, ne_ii, lt_ii, le_ii, gt_ii, ge_ii, len_tup, av_ev, avK_ok, avK2_t, avK2_f, ov_ev, ovK_ok, ovK2_t, ovK2_f, aK_t, aK_f, oK_t, oK_f, tup_ev, ie_ev, ieK_t, ieK_f, un_ev, unK_ok, ex_ev, exK_ok, Bool.not_true, Bool.not_false, decide_true, decide_false, Nat.reduceSub, f__law_is_letter, d__law_is_letter, sd "names" "integers", sd "names" "pair", sd "names" "either", sd "names" "maybe", sd "integers" "names", sd "integers" "pair", sd "integers" "either", sd "integers" "maybe", sd "pair" "names", sd "pair" "integers", sd "pair" "either", sd "pair" "maybe", sd "either" "names", sd "either" "integers", sd "either" "pair", sd "either" "maybe", sd "maybe" "names", sd "maybe" "integers", sd "maybe" "pair", sd "maybe" "either", wh]⟩
  | pair _ _ =>
    refine ⟨false, fun n' S i hn => ?_⟩
    obtain ⟨m, rfl⟩ := get hn
    exact ⟨by simp only [mk1_ev, mk2_ev, mk3_ev, mk4_ev, sq_ev, set_ev, call_ev, args_ev, argK_ok, args_nil, argK2_ok, callK_ok, List.replicate, c_ev, setK_ok, set0_ev, set1_ev, set2_ev, set3_ev, set4_ev, set5_ev, set6_ev, set7_ev, set8_ev, set9_ev, sqK_nx, sqK_rt, if_ev, tb_ev, t_ev, tK_ok, tru_bl, nt_ev, ntK_ok, and_ev, or_ev, op_ev, opK_ok, opK2_ok, tbK_ok, ifK_t, ifK_f, nx_ev, rt_ev, rtK_ok, mkK_rt, mkK_nx, var0_ev, var1_ev, var2_ev, var3_ev, var4_ev, var5_ev, var6_ev, var7_ev, var8_ev, var9_ev, ixt0, ixt1, ixt2, eq_ss, ne_ss, eq_ii, ne_ii, lt_ii, le_ii, gt_ii, ge_ii, len_tup, av_ev, avK_ok, avK2_t, avK2_f, ov_ev, ovK_ok, ovK2_t, ovK2_f, aK_t, aK_f, oK_t, oK_f, tup_ev, ie_ev, ieK_t, ieK_f, un_ev, unK_ok, ex_ev, exK_ok, Bool.not_true, Bool.not_false, decide_true, decide_false, Nat.reduceSub, f_is_letter, d_is_letter, sd "names" "integers", sd "names" "pair", sd "names" "either", sd "names" "maybe", sd "integers" "names", sd "integers" "pair", sd "integers" "either", sd "integers" "maybe", sd "pair" "names", sd "pair" "integers", sd "pair" "either", sd "pair" "maybe", sd "either" "names", sd "either" "integers", sd "either" "pair", sd "either" "maybe", sd "maybe" "names", sd "maybe" "integers", sd "maybe" "pair", sd "maybe" "either", isi], by simp only [mk1_ev, mk2_ev, mk3_ev, mk4_ev, sq_ev, set_ev, call_ev, args_ev, argK_ok, args_nil, argK2_ok, callK_ok, List.replicate, c_ev, setK_ok, set0_ev, set1_ev, set2_ev, set3_ev, set4_ev, set5_ev, set6_ev, set7_ev, set8_ev, set9_ev, sqK_nx, sqK_rt, if_ev, tb_ev, t_ev, tK_ok, tru_bl, nt_ev, ntK_ok, and_ev, or_ev, op_ev, opK_ok, opK2_ok, tbK_ok, ifK_t, ifK_f, nx_ev, rt_ev, rtK_ok, mkK_rt, mkK_nx, var0_ev, var1_ev, var2_ev, var3_ev, var4_ev, var5_ev, var6_ev, var7_ev, var8_ev, var9_ev, ixt0, ixt1, ixt2, eq_ss, ne_ss, eq_ii, ne_ii, lt_ii, le_ii, gt_ii, ge_ii, len_tup, av_ev, avK_ok, avK2_t, avK2_f, ov_ev, ovK_ok, ovK2_t, ovK2_f, aK_t, aK_f, oK_t, oK_f, tup_ev, ie_ev, ieK_t, ieK_f, un_ev, unK_ok, ex_ev, exK_ok, Bool.not_true, Bool.not_false, decide_true, decide_false, Nat.reduceSub, f__law_is_letter, d__law_is_letter, sd "names" "integers", sd "names" "pair", sd "names" "either", sd "names" "maybe", sd "integers" "names", sd "integers" "pair", sd "integers" "either", sd "integers" "maybe", sd "pair" "names", sd "pair" "integers", sd "pair" "either", sd "pair" "maybe", sd "either" "names", sd "either" "integers", sd "either" "pair", sd "either" "maybe", sd "maybe" "names", sd "maybe" "integers", sd "maybe" "pair", sd "maybe" "either", isi]⟩
  | either _ _ _ =>
    refine ⟨false, fun n' S i hn => ?_⟩
    obtain ⟨m, rfl⟩ := get hn
    exact ⟨by simp only [mk1_ev, mk2_ev, mk3_ev, mk4_ev, sq_ev, set_ev, call_ev, args_ev, argK_ok, args_nil, argK2_ok, callK_ok, List.replicate, c_ev, setK_ok, set0_ev, set1_ev, set2_ev, set3_ev, set4_ev, set5_ev, set6_ev, set7_ev, set8_ev, set9_ev, sqK_nx, sqK_rt, if_ev, tb_ev, t_ev, tK_ok, tru_bl, nt_ev, ntK_ok, and_ev, or_ev, op_ev, opK_ok, opK2_ok, tbK_ok, ifK_t, ifK_f, nx_ev, rt_ev, rtK_ok, mkK_rt, mkK_nx, var0_ev, var1_ev, var2_ev, var3_ev, var4_ev, var5_ev, var6_ev, var7_ev, var8_ev, var9_ev, ixt0, ixt1, ixt2, eq_ss, ne_ss, eq_ii, ne_ii, lt_ii, le_ii, gt_ii, ge_ii, len_tup, av_ev, avK_ok, avK2_t, avK2_f, ov_ev, ovK_ok, ovK2_t, ovK2_f, aK_t, aK_f, oK_t, oK_f, tup_ev, ie_ev, ieK_t, ieK_f, un_ev, unK_ok, ex_ev, exK_ok, Bool.not_true, Bool.not_false, decide_true, decide_false, Nat.reduceSub, f_is_letter, d_is_letter, sd "names" "integers", sd "names" "pair", sd "names" "either", sd "names" "maybe", sd "integers" "names", sd "integers" "pair", sd "integers" "either", sd "integers" "maybe", sd "pair" "names", sd "pair" "integers", sd "pair" "either", sd "pair" "maybe", sd "either" "names", sd "either" "integers", sd "either" "pair", sd "either" "maybe", sd "maybe" "names", sd "maybe" "integers", sd "maybe" "pair", sd "maybe" "either", isi], by simp only [mk1_ev, mk2_ev, mk3_ev, mk4_ev, sq_ev, set_ev, call_ev, args_ev, argK_ok, args_nil, argK2_ok, callK_ok, List.replicate, c_ev, setK_ok, set0_ev, set1_ev, set2_ev, set3_ev, set4_ev, set5_ev, set6_ev, set7_ev, set8_ev, set9_ev, sqK_nx, sqK_rt, if_ev, tb_ev, t_ev, tK_ok, tru_bl, nt_ev, ntK_ok, and_ev, or_ev, op_ev, opK_ok, opK2_ok, tbK_ok, ifK_t, ifK_f, nx_ev, rt_ev, rtK_ok, mkK_rt, mkK_nx, var0_ev, var1_ev, var2_ev, var3_ev, var4_ev, var5_ev, var6_ev, var7_ev, var8_ev, var9_ev, ixt0, ixt1, ixt2, eq_ss, ne_ss, eq_ii, ne_ii, lt_ii, le_ii, gt_ii, ge_ii, len_tup, av_ev, avK_ok, avK2_t, avK2_f, ov_ev, ovK_ok, ovK2_t, ovK2_f, aK_t, aK_f, oK_t, oK_f, tup_ev, ie_ev, ieK_t, ieK_f, un_ev, unK_ok, ex_ev, exK_ok, Bool.not_true, Bool.not_false, decide_true, decide_false, Nat.reduceSub, f__law_is_letter, d__law_is_letter, sd "names" "integers", sd "names" "pair", sd "names" "either", sd "names" "maybe", sd "integers" "names", sd "integers" "pair", sd "integers" "either", sd "integers" "maybe", sd "pair" "names", sd "pair" "integers", sd "pair" "either", sd "pair" "maybe", sd "either" "names", sd "either" "integers", sd "either" "pair", sd "either" "maybe", sd "maybe" "names", sd "maybe" "integers", sd "maybe" "pair", sd "maybe" "either", isi]⟩
  | maybe _ =>
    refine ⟨false, fun n' S i hn => ?_⟩
    obtain ⟨m, rfl⟩ := get hn
    exact ⟨by simp only [mk1_ev, mk2_ev, mk3_ev, mk4_ev, sq_ev, set_ev, call_ev, args_ev, argK_ok, args_nil, argK2_ok, callK_ok, List.replicate, c_ev, setK_ok, set0_ev, set1_ev, set2_ev, set3_ev, set4_ev, set5_ev, set6_ev, set7_ev, set8_ev, set9_ev, sqK_nx, sqK_rt, if_ev, tb_ev, t_ev, tK_ok, tru_bl, nt_ev, ntK_ok, and_ev, or_ev, op_ev, opK_ok, opK2_ok, tbK_ok, ifK_t, ifK_f, nx_ev, rt_ev, rtK_ok, mkK_rt, mkK_nx, var0_ev, var1_ev, var2_ev, var3_ev, var4_ev, var5_ev, var6_ev, var7_ev, var8_ev, var9_ev, ixt0, ixt1, ixt2, eq_ss, ne_ss, eq_ii, ne_ii, lt_ii, le_ii, gt_ii, ge_ii, len_tup, av_ev, avK_ok, avK2_t, avK2_f, ov_ev, ovK_ok, ovK2_t, ovK2_f, aK_t, aK_f, oK_t, oK_f, tup_ev, ie_ev, ieK_t, ieK_f, un_ev, unK_ok, ex_ev, exK_ok, Bool.not_true, Bool.not_false, decide_true, decide_false, Nat.reduceSub, f_is_letter, d_is_letter, sd "names" "integers", sd "names" "pair", sd "names" "either", sd "names" "maybe", sd "integers" "names", sd "integers" "pair", sd "integers" "either", sd "integers" "maybe", sd "pair" "names", sd "pair" "integers", sd "pair" "either", sd "pair" "maybe", sd "either" "names", sd "either" "integers", sd "either" "pair", sd "either" "maybe", sd "maybe" "names", sd "maybe" "integers", sd "maybe" "pair", sd "maybe" "either", isi], by simp only [mk1_ev, mk2_ev, mk3_ev, mk4_ev, sq_ev, set_ev, call_ev, args_ev, argK_ok, args_nil, argK2_ok, callK_ok, List.replicate, c_ev, setK_ok, set0_ev, set1_ev, set2_ev, set3_ev, set4_ev, set5_ev, set6_ev, set7_ev, set8_ev, set9_ev, sqK_nx, sqK_rt, if_ev, tb_ev, t_ev, tK_ok, tru_bl, nt_ev, ntK_ok, and_ev, or_ev, op_ev, opK_ok, opK2_ok, tbK_ok, ifK_t, ifK_f, nx_ev, rt_ev, rtK_ok, mkK_rt, mkK_nx, var0_ev, var1_ev, var2_ev, var3_ev, var4_ev, var5_ev, var6_ev, var7_ev, var8_ev, var9_ev, ixt0, ixt1, ixt2, eq_ss, ne_ss, eq_ii, ne_ii, lt_ii, le_ii, gt_ii, ge_ii, len_tup, av_ev, avK_ok, avK2_t, avK2_f, ov_ev, ovK_ok, ovK2_t, ovK2_f, aK_t, aK_f, oK_t, oK_f, tup_ev, ie_ev, ieK_t, ieK_f, un_ev, unK_ok, ex_ev, exK_ok, Bool.not_true, Bool.not_false, decide_true, decide_false, Nat.reduceSub, f__law_is_letter, d__law_is_letter, sd "names" "integers", sd "names" "pair", sd "names" "either", sd "names" "maybe", sd "integers" "names", sd "integers" "pair", sd "integers" "either", sd "integers" "maybe", sd "pair" "names", sd "pair" "integers", sd "pair" "either", sd "pair" "maybe", sd "either" "names", sd "either" "integers", sd "either" "pair", sd "either" "maybe", sd "maybe" "names", sd "maybe" "integers", sd "maybe" "pair", sd "maybe" "either", isi]⟩
theorem ask_q : ∀ {n : Nat} {z : Int} {k : W}, Kd n z k → ∃ b, ∀ n' S, n ≤ n' → f_is_letter n' [k, strW "q"] S = .ok (.bl b) S ∧ f__law_is_letter n' [k, strW "q"] S = .ok (.bl b) S := by
  intro n z k h
  have isi : ∀ (S : Store), gIsi [strW "q", .ty "tuple"] S = .ok (.bl false) S := fun _ => rfl
  have iss : ∀ (S : Store), gIsi [strW "q", .ty "str"] S = .ok (.bl true) S := fun _ => rfl
  have wh : ∀ S, f__law_whole [strW "q"] S = .ok (.bl false) S := fun S => whole_ok (n := 0) (.str (by decide +kernel))
  have nm : ∀ S, f__is_number [strW "q"] S = .ok (.bl false) S := fun S => isnum_ok (n := 0) (.str (by decide +kernel))
  have get : ∀ {n' : Nat}, n ≤ n' → ∃ m, n' = m + 1 := fun {n'} hn => ⟨n' - 1, by
    cases n with
    | zero => cases h
    | succ n => omega⟩
  cases h with
  | @names n ns a b c d =>
    refine ⟨decide (Str.ofString "q" ∈ ns), fun n' S hn => ?_⟩
    obtain ⟨m, rfl⟩ := get hn
    exact ⟨by simp only [mk1_ev, mk2_ev, mk3_ev, mk4_ev, sq_ev, set_ev, call_ev, args_ev, argK_ok, args_nil, argK2_ok, callK_ok, List.replicate, c_ev, setK_ok, set0_ev, set1_ev, set2_ev, set3_ev, set4_ev, set5_ev, set6_ev, set7_ev, set8_ev, set9_ev, sqK_nx, sqK_rt, if_ev, tb_ev, t_ev, tK_ok, tru_bl, nt_ev, ntK_ok, and_ev, or_ev, op_ev, opK_ok, opK2_ok, tbK_ok, ifK_t, ifK_f, nx_ev, rt_ev, rtK_ok, mkK_rt, mkK_nx, var0_ev, var1_ev, var2_ev, var3_ev, var4_ev, var5_ev, var6_ev, var7_ev, var8_ev, var9_ev, ixt0, ixt1, ixt2, eq_ss, ne_ss, eq_ii, ne_ii, lt_ii, le_ii, gt_ii, ge_ii, len_tup, av_ev, avK_ok, avK2_t, avK2_f, ov_ev, ovK_ok, ovK2_t, ovK2_f, aK_t, aK_f, oK_t, oK_f, tup_ev, ie_ev, ieK_t, ieK_f, un_ev, unK_ok, ex_ev, exK_ok, Bool.not_true, Bool.not_false, decide_true, decide_false, Nat.reduceSub, f_is_letter, d_is_letter, in_strsT], by simp only [mk1_ev, mk2_ev, mk3_ev, mk4_ev, sq_ev, set_ev, call_ev, args_ev, argK_ok, args_nil, argK2_ok, callK_ok, List.replicate, c_ev, setK_ok, set0_ev, set1_ev, set2_ev, set3_ev, set4_ev, set5_ev, set6_ev, set7_ev, set8_ev, set9_ev, sqK_nx, sqK_rt, if_ev, tb_ev, t_ev, tK_ok, tru_bl, nt_ev, ntK_ok, and_ev, or_ev, op_ev, opK_ok, opK2_ok, tbK_ok, ifK_t, ifK_f, nx_ev, rt_ev, rtK_ok, mkK_rt, mkK_nx, var0_ev, var1_ev, var2_ev, var3_ev, var4_ev, var5_ev, var6_ev, var7_ev, var8_ev, var9_ev, ixt0, ixt1, ixt2, eq_ss, ne_ss, eq_ii, ne_ii, lt_ii, le_ii, gt_ii, ge_ii, len_tup, av_ev, avK_ok, avK2_t, avK2_f, ov_ev, ovK_ok, ovK2_t, ovK2_f, aK_t, aK_f, oK_t, oK_f, tup_ev, ie_ev, ieK_t, ieK_f, un_ev, unK_ok, ex_ev, exK_ok, Bool.not_true, Bool.not_false, decide_true, decide_false, Nat.reduceSub, f__law_is_letter, d__law_is_letter, iss, in_strsT]⟩
  | kint =>
    refine ⟨false, fun n' S hn => ?_⟩
    obtain ⟨m, rfl⟩ := get hn
    exact ⟨by simp only [mk1_ev, mk2_ev, mk3_ev, mk4_ev, sq_ev, set_ev, call_ev, args_ev, argK_ok, args_nil, argK2_ok, callK_ok, List.replicate, c_ev, setK_ok, set0_ev, set1_ev, set2_ev, set3_ev, set4_ev, set5_ev, set6_ev, set7_ev, set8_ev, set9_ev, sqK_nx, sqK_rt, if_ev, tb_ev, t_ev, tK_ok, tru_bl, nt_ev, ntK_ok, and_ev, or_ev, op_ev, opK_ok, opK2_ok, tbK_ok, ifK_t, ifK_f, nx_ev, rt_ev, rtK_ok, mkK_rt, mkK_nx, var0_ev, var1_ev, var2_ev, var3_ev, var4_ev, var5_ev, var6_ev, var7_ev, var8_ev, var9_ev, ixt0, ixt1, ixt2, eq_ss, ne_ss, eq_ii, ne_ii, lt_ii, le_ii, gt_ii, ge_ii, len_tup, av_ev, avK_ok, avK2_t, avK2_f, ov_ev, ovK_ok, ovK2_t, ovK2_f, aK_t, aK_f, oK_t, oK_f, tup_ev, ie_ev, ieK_t, ieK_f, un_ev, unK_ok, ex_ev, exK_ok, Bool.not_true, Bool.not_false, decide_true, decide_false, Nat.reduceSub, f_is_letter, d_is_letter, sd "names" "integers", sd "names" "pair", sd "names" "either", sd "names" "maybe", sd "integers" "names", sd "integers" "pair", sd "integers" "either", sd "integers" "maybe", sd "pair" "names", sd "pair" "integers", sd "pair" "either", sd "pair" "maybe", sd "either" "names", sd "either" "integers", sd "either" "pair", sd "either" "maybe", sd "maybe" "names", sd "maybe" "integers", sd "maybe" "pair", sd "maybe" "either", nm], by simp only [mk1_ev, mk2_ev, mk3_ev, mk4_ev, sq_ev, set_ev, call_ev, args_ev, argK_ok, args_nil, argK2_ok, callK_ok, List.replicate, c_ev, setK_ok, set0_ev, set1_ev, set2_ev, set3_ev, set4_ev, set5_ev, set6_ev, set7_ev, set8_ev, set9_ev, sqK_nx, sqK_rt, if_ev, tb_ev, t_ev, tK_ok, tru_bl, nt_ev, ntK_ok, and_ev, or_ev, op_ev, opK_ok, opK2_ok, tbK_ok, ifK_t, ifK_f, nx_ev, rt_ev, rtK_ok, mkK_rt, mkK_nx, var0_ev, var1_ev, var2_ev, var3_ev, var4_ev, var5_ev, var6_ev, var7_ev, var8_ev, var9_ev, ixt0, ixt1, ixt2, eq_ss, ne_ss, eq_ii, ne_ii, lt_ii, le_ii, gt_ii, ge_ii, len_tup, av_ev, avK_ok, avK2_t, avK2_f, ov_ev, ovK_ok, ovK2_t, ovK2_f, aK_t, aK_f, oK_t, oK_f, tup_ev, ie_ev, ieK_t, ieK_f, un_ev, unK_ok, ex_ev, exK_ok, Bool.not_true, Bool.not_false, decide_true, decide_false, Nat.reduceSub, f__law_is_letter, d__law_is_letter, sd "names" "integers", sd "names" "pair", sd "names" "either", sd "names" "maybe", sd "integers" "names", sd "integers" "pair", sd "integers" "either", sd "integers" "maybe", sd "pair" "names", sd "pair" "integers", sd "pair" "either", sd "pair" "maybe", sd "either" "names", sd "either" "integers", sd "either" "pair", sd "either" "maybe", sd "maybe" "names", sd "maybe" "integers", sd "maybe" "pair", sd "maybe" "either", wh]⟩
  | pair _ _ =>
    refine ⟨false, fun n' S hn => ?_⟩
    obtain ⟨m, rfl⟩ := get hn
    exact ⟨by simp only [mk1_ev, mk2_ev, mk3_ev, mk4_ev, sq_ev, set_ev, call_ev, args_ev, argK_ok, args_nil, argK2_ok, callK_ok, List.replicate, c_ev, setK_ok, set0_ev, set1_ev, set2_ev, set3_ev, set4_ev, set5_ev, set6_ev, set7_ev, set8_ev, set9_ev, sqK_nx, sqK_rt, if_ev, tb_ev, t_ev, tK_ok, tru_bl, nt_ev, ntK_ok, and_ev, or_ev, op_ev, opK_ok, opK2_ok, tbK_ok, ifK_t, ifK_f, nx_ev, rt_ev, rtK_ok, mkK_rt, mkK_nx, var0_ev, var1_ev, var2_ev, var3_ev, var4_ev, var5_ev, var6_ev, var7_ev, var8_ev, var9_ev, ixt0, ixt1, ixt2, eq_ss, ne_ss, eq_ii, ne_ii, lt_ii, le_ii, gt_ii, ge_ii, len_tup, av_ev, avK_ok, avK2_t, avK2_f, ov_ev, ovK_ok, ovK2_t, ovK2_f, aK_t, aK_f, oK_t, oK_f, tup_ev, ie_ev, ieK_t, ieK_f, un_ev, unK_ok, ex_ev, exK_ok, Bool.not_true, Bool.not_false, decide_true, decide_false, Nat.reduceSub, f_is_letter, d_is_letter, sd "names" "integers", sd "names" "pair", sd "names" "either", sd "names" "maybe", sd "integers" "names", sd "integers" "pair", sd "integers" "either", sd "integers" "maybe", sd "pair" "names", sd "pair" "integers", sd "pair" "either", sd "pair" "maybe", sd "either" "names", sd "either" "integers", sd "either" "pair", sd "either" "maybe", sd "maybe" "names", sd "maybe" "integers", sd "maybe" "pair", sd "maybe" "either", isi], by simp only [mk1_ev, mk2_ev, mk3_ev, mk4_ev, sq_ev, set_ev, call_ev, args_ev, argK_ok, args_nil, argK2_ok, callK_ok, List.replicate, c_ev, setK_ok, set0_ev, set1_ev, set2_ev, set3_ev, set4_ev, set5_ev, set6_ev, set7_ev, set8_ev, set9_ev, sqK_nx, sqK_rt, if_ev, tb_ev, t_ev, tK_ok, tru_bl, nt_ev, ntK_ok, and_ev, or_ev, op_ev, opK_ok, opK2_ok, tbK_ok, ifK_t, ifK_f, nx_ev, rt_ev, rtK_ok, mkK_rt, mkK_nx, var0_ev, var1_ev, var2_ev, var3_ev, var4_ev, var5_ev, var6_ev, var7_ev, var8_ev, var9_ev, ixt0, ixt1, ixt2, eq_ss, ne_ss, eq_ii, ne_ii, lt_ii, le_ii, gt_ii, ge_ii, len_tup, av_ev, avK_ok, avK2_t, avK2_f, ov_ev, ovK_ok, ovK2_t, ovK2_f, aK_t, aK_f, oK_t, oK_f, tup_ev, ie_ev, ieK_t, ieK_f, un_ev, unK_ok, ex_ev, exK_ok, Bool.not_true, Bool.not_false, decide_true, decide_false, Nat.reduceSub, f__law_is_letter, d__law_is_letter, sd "names" "integers", sd "names" "pair", sd "names" "either", sd "names" "maybe", sd "integers" "names", sd "integers" "pair", sd "integers" "either", sd "integers" "maybe", sd "pair" "names", sd "pair" "integers", sd "pair" "either", sd "pair" "maybe", sd "either" "names", sd "either" "integers", sd "either" "pair", sd "either" "maybe", sd "maybe" "names", sd "maybe" "integers", sd "maybe" "pair", sd "maybe" "either", isi]⟩
  | either _ _ _ =>
    refine ⟨false, fun n' S hn => ?_⟩
    obtain ⟨m, rfl⟩ := get hn
    exact ⟨by simp only [mk1_ev, mk2_ev, mk3_ev, mk4_ev, sq_ev, set_ev, call_ev, args_ev, argK_ok, args_nil, argK2_ok, callK_ok, List.replicate, c_ev, setK_ok, set0_ev, set1_ev, set2_ev, set3_ev, set4_ev, set5_ev, set6_ev, set7_ev, set8_ev, set9_ev, sqK_nx, sqK_rt, if_ev, tb_ev, t_ev, tK_ok, tru_bl, nt_ev, ntK_ok, and_ev, or_ev, op_ev, opK_ok, opK2_ok, tbK_ok, ifK_t, ifK_f, nx_ev, rt_ev, rtK_ok, mkK_rt, mkK_nx, var0_ev, var1_ev, var2_ev, var3_ev, var4_ev, var5_ev, var6_ev, var7_ev, var8_ev, var9_ev, ixt0, ixt1, ixt2, eq_ss, ne_ss, eq_ii, ne_ii, lt_ii, le_ii, gt_ii, ge_ii, len_tup, av_ev, avK_ok, avK2_t, avK2_f, ov_ev, ovK_ok, ovK2_t, ovK2_f, aK_t, aK_f, oK_t, oK_f, tup_ev, ie_ev, ieK_t, ieK_f, un_ev, unK_ok, ex_ev, exK_ok, Bool.not_true, Bool.not_false, decide_true, decide_false, Nat.reduceSub, f_is_letter, d_is_letter, sd "names" "integers", sd "names" "pair", sd "names" "either", sd "names" "maybe", sd "integers" "names", sd "integers" "pair", sd "integers" "either", sd "integers" "maybe", sd "pair" "names", sd "pair" "integers", sd "pair" "either", sd "pair" "maybe", sd "either" "names", sd "either" "integers", sd "either" "pair", sd "either" "maybe", sd "maybe" "names", sd "maybe" "integers", sd "maybe" "pair", sd "maybe" "either", isi], by simp only [mk1_ev, mk2_ev, mk3_ev, mk4_ev, sq_ev, set_ev, call_ev, args_ev, argK_ok, args_nil, argK2_ok, callK_ok, List.replicate, c_ev, setK_ok, set0_ev, set1_ev, set2_ev, set3_ev, set4_ev, set5_ev, set6_ev, set7_ev, set8_ev, set9_ev, sqK_nx, sqK_rt, if_ev, tb_ev, t_ev, tK_ok, tru_bl, nt_ev, ntK_ok, and_ev, or_ev, op_ev, opK_ok, opK2_ok, tbK_ok, ifK_t, ifK_f, nx_ev, rt_ev, rtK_ok, mkK_rt, mkK_nx, var0_ev, var1_ev, var2_ev, var3_ev, var4_ev, var5_ev, var6_ev, var7_ev, var8_ev, var9_ev, ixt0, ixt1, ixt2, eq_ss, ne_ss, eq_ii, ne_ii, lt_ii, le_ii, gt_ii, ge_ii, len_tup, av_ev, avK_ok, avK2_t, avK2_f, ov_ev, ovK_ok, ovK2_t, ovK2_f, aK_t, aK_f, oK_t, oK_f, tup_ev, ie_ev, ieK_t, ieK_f, un_ev, unK_ok, ex_ev, exK_ok, Bool.not_true, Bool.not_false, decide_true, decide_false, Nat.reduceSub, f__law_is_letter, d__law_is_letter, sd "names" "integers", sd "names" "pair", sd "names" "either", sd "names" "maybe", sd "integers" "names", sd "integers" "pair", sd "integers" "either", sd "integers" "maybe", sd "pair" "names", sd "pair" "integers", sd "pair" "either", sd "pair" "maybe", sd "either" "names", sd "either" "integers", sd "either" "pair", sd "either" "maybe", sd "maybe" "names", sd "maybe" "integers", sd "maybe" "pair", sd "maybe" "either", isi]⟩
  | maybe _ =>
    refine ⟨false, fun n' S hn => ?_⟩
    obtain ⟨m, rfl⟩ := get hn
    exact ⟨by simp only [mk1_ev, mk2_ev, mk3_ev, mk4_ev, sq_ev, set_ev, call_ev, args_ev, argK_ok, args_nil, argK2_ok, callK_ok, List.replicate, c_ev, setK_ok, set0_ev, set1_ev, set2_ev, set3_ev, set4_ev, set5_ev, set6_ev, set7_ev, set8_ev, set9_ev, sqK_nx, sqK_rt, if_ev, tb_ev, t_ev, tK_ok, tru_bl, nt_ev, ntK_ok, and_ev, or_ev, op_ev, opK_ok, opK2_ok, tbK_ok, ifK_t, ifK_f, nx_ev, rt_ev, rtK_ok, mkK_rt, mkK_nx, var0_ev, var1_ev, var2_ev, var3_ev, var4_ev, var5_ev, var6_ev, var7_ev, var8_ev, var9_ev, ixt0, ixt1, ixt2, eq_ss, ne_ss, eq_ii, ne_ii, lt_ii, le_ii, gt_ii, ge_ii, len_tup, av_ev, avK_ok, avK2_t, avK2_f, ov_ev, ovK_ok, ovK2_t, ovK2_f, aK_t, aK_f, oK_t, oK_f, tup_ev, ie_ev, ieK_t, ieK_f, un_ev, unK_ok, ex_ev, exK_ok, Bool.not_true, Bool.not_false, decide_true, decide_false, Nat.reduceSub, f_is_letter, d_is_letter, sd "names" "integers", sd "names" "pair", sd "names" "either", sd "names" "maybe", sd "integers" "names", sd "integers" "pair", sd "integers" "either", sd "integers" "maybe", sd "pair" "names", sd "pair" "integers", sd "pair" "either", sd "pair" "maybe", sd "either" "names", sd "either" "integers", sd "either" "pair", sd "either" "maybe", sd "maybe" "names", sd "maybe" "integers", sd "maybe" "pair", sd "maybe" "either", isi], by simp only [mk1_ev, mk2_ev, mk3_ev, mk4_ev, sq_ev, set_ev, call_ev, args_ev, argK_ok, args_nil, argK2_ok, callK_ok, List.replicate, c_ev, setK_ok, set0_ev, set1_ev, set2_ev, set3_ev, set4_ev, set5_ev, set6_ev, set7_ev, set8_ev, set9_ev, sqK_nx, sqK_rt, if_ev, tb_ev, t_ev, tK_ok, tru_bl, nt_ev, ntK_ok, and_ev, or_ev, op_ev, opK_ok, opK2_ok, tbK_ok, ifK_t, ifK_f, nx_ev, rt_ev, rtK_ok, mkK_rt, mkK_nx, var0_ev, var1_ev, var2_ev, var3_ev, var4_ev, var5_ev, var6_ev, var7_ev, var8_ev, var9_ev, ixt0, ixt1, ixt2, eq_ss, ne_ss, eq_ii, ne_ii, lt_ii, le_ii, gt_ii, ge_ii, len_tup, av_ev, avK_ok, avK2_t, avK2_f, ov_ev, ovK_ok, ovK2_t, ovK2_f, aK_t, aK_f, oK_t, oK_f, tup_ev, ie_ev, ieK_t, ieK_f, un_ev, unK_ok, ex_ev, exK_ok, Bool.not_true, Bool.not_false, decide_true, decide_false, Nat.reduceSub, f__law_is_letter, d__law_is_letter, sd "names" "integers", sd "names" "pair", sd "names" "either", sd "names" "maybe", sd "integers" "names", sd "integers" "pair", sd "integers" "either", sd "integers" "maybe", sd "pair" "names", sd "pair" "integers", sd "pair" "either", sd "pair" "maybe", sd "either" "names", sd "either" "integers", sd "either" "pair", sd "either" "maybe", sd "maybe" "names", sd "maybe" "integers", sd "maybe" "pair", sd "maybe" "either", isi]⟩
def othW : List W := [.int 0, strW "q", .tup [strW "none"], .tup [strW "some", .int 1], .tup [strW "some", strW "q"], .tup [strW "case", .int 0, .int 1], .tup [strW "pair", .int 0, strW "q"]]
def isHd (k : W) (h : String) : Prop := ∃ r, k = .tup (strW h :: r)
theorem formv {h h' : String} {r : List W} {k : Int} {m : Nat} {S : Store} (hw : OkW (m + 1) (.tup (strW h' :: r))) (hm : m ≤ 60) (hh : PyData.strOk (Str.ofString h) = true) (hk : 1 ≤ k) :
    f__is_form [.tup (strW h' :: r), .str (Str.ofString h), .int k] S = .ok (.bl (decide (((((strW h' :: r).length : Nat)) : Int) = k) && decide (Str.ofString h' = Str.ofString h))) S := form_ok hw (by omega) hh hk
theorem okT {ws : List W} (h : ∀ w ∈ ws, OkW 0 w) : OkW 1 (.tup ws) := .tup h
theorem okS (x : String) (h : PyData.strOk (Str.ofString x) = true := by decide +kernel) : OkW 0 (strW x) := .str h
theorem t3 {n : Nat} {a b c : W} (h : OkW n a) (h' : OkW n b) (h'' : OkW n c) : OkW (n + 1) (.tup [a, b, c]) := .tup fun w hw => by
  rcases List.mem_cons.mp hw with rfl | hw
  · exact h
  · rcases List.mem_cons.mp hw with rfl | hw
    · exact h'
    · rcases List.mem_cons.mp hw with rfl | hw
      · exact h''
      · cases hw
theorem oth3 : OkW 1 (.tup [strW "none"]) := t1 (okS "none")
theorem oth4 : OkW 1 (.tup [strW "some", .int 1]) := t2 (okS "some") (.int 1)
theorem oth5 : OkW 1 (.tup [strW "some", strW "q"]) := t2 (okS "some") (okS "q")
theorem oth6 : OkW 1 (.tup [strW "case", .int 0, .int 1]) := t3 (okS "case") (.int 0) (.int 1)
theorem oth7 : OkW 1 (.tup [strW "pair", .int 0, strW "q"]) := t3 (okS "pair") (.int 0) (okS "q")
theorem lenC {w : W} {r : List W} : (((w :: r).length : Nat) : Int) = (r.length : Int) + 1 := by rw [List.length_cons]; omega
theorem get1 {n n' : Nat} {z : Int} {k : W} (h : Kd n z k) (hn : n ≤ n') : ∃ m, n' = m + 1 := ⟨n' - 1, by
  cases n with
  | zero => cases h
  | succ n => omega⟩
theorem nt_int {k : W} {h : String} {r : List W} {m : Nat} {S : Store} {w : W} (hw : gIsi [w, .ty "tuple"] S = .ok (.bl false) S) (d1 : decide (Str.ofString h = Str.ofString "names") = false) (d2 : decide (Str.ofString h = Str.ofString "integers") = false) :
    f_is_letter (m + 1) [.tup (strW h :: r), w] S = .ok (.bl false) S ∧ f__law_is_letter (m + 1) [.tup (strW h :: r), w] S = .ok (.bl false) S :=
  ⟨by simp only [mk1_ev, mk2_ev, mk3_ev, mk4_ev, sq_ev, set_ev, call_ev, args_ev, argK_ok, args_nil, argK2_ok, callK_ok, List.replicate, c_ev, setK_ok, set0_ev, set1_ev, set2_ev, set3_ev, set4_ev, set5_ev, set6_ev, set7_ev, set8_ev, set9_ev, sqK_nx, sqK_rt, if_ev, tb_ev, t_ev, tK_ok, tru_bl, nt_ev, ntK_ok, and_ev, or_ev, op_ev, opK_ok, opK2_ok, tbK_ok, ifK_t, ifK_f, nx_ev, rt_ev, rtK_ok, mkK_rt, mkK_nx, var0_ev, var1_ev, var2_ev, var3_ev, var4_ev, var5_ev, var6_ev, var7_ev, var8_ev, var9_ev, ixt0, ixt1, ixt2, eq_ss, ne_ss, eq_ii, ne_ii, lt_ii, le_ii, gt_ii, ge_ii, len_tup, av_ev, avK_ok, avK2_t, avK2_f, ov_ev, ovK_ok, ovK2_t, ovK2_f, aK_t, aK_f, oK_t, oK_f, tup_ev, ie_ev, ieK_t, ieK_f, un_ev, unK_ok, ex_ev, exK_ok, Bool.not_true, Bool.not_false, decide_true, decide_false, Nat.reduceSub, f_is_letter, d_is_letter, d1, d2, hw], by simp only [mk1_ev, mk2_ev, mk3_ev, mk4_ev, sq_ev, set_ev, call_ev, args_ev, argK_ok, args_nil, argK2_ok, callK_ok, List.replicate, c_ev, setK_ok, set0_ev, set1_ev, set2_ev, set3_ev, set4_ev, set5_ev, set6_ev, set7_ev, set8_ev, set9_ev, sqK_nx, sqK_rt, if_ev, tb_ev, t_ev, tK_ok, tru_bl, nt_ev, ntK_ok, and_ev, or_ev, op_ev, opK_ok, opK2_ok, tbK_ok, ifK_t, ifK_f, nx_ev, rt_ev, rtK_ok, mkK_rt, mkK_nx, var0_ev, var1_ev, var2_ev, var3_ev, var4_ev, var5_ev, var6_ev, var7_ev, var8_ev, var9_ev, ixt0, ixt1, ixt2, eq_ss, ne_ss, eq_ii, ne_ii, lt_ii, le_ii, gt_ii, ge_ii, len_tup, av_ev, avK_ok, avK2_t, avK2_f, ov_ev, ovK_ok, ovK2_t, ovK2_f, aK_t, aK_f, oK_t, oK_f, tup_ev, ie_ev, ieK_t, ieK_f, un_ev, unK_ok, ex_ev, exK_ok, Bool.not_true, Bool.not_false, decide_true, decide_false, Nat.reduceSub, f__law_is_letter, d__law_is_letter, d1, d2, hw]⟩
theorem issS (x : String) (S : Store) : gIsi [strW x, .ty "str"] S = .ok (.bl true) S := rfl
theorem in7 {w : W} (h : w ∈ othW) : w = .int 0 ∨ w = strW "q" ∨ w = .tup [strW "none"] ∨ w = .tup [strW "some", .int 1] ∨ w = .tup [strW "some", strW "q"] ∨ w = .tup [strW "case", .int 0, .int 1] ∨ w = .tup [strW "pair", .int 0, strW "q"] := by
  simpa only [othW, List.mem_cons, List.mem_nil_iff, or_false] using h
theorem dl1 {a : W} : decide ((([a].length : Nat) : Int) = 0) = false := rfl
theorem dl2 {a b : W} : decide ((([a, b].length : Nat) : Int) = 0) = false := rfl
theorem dl3 {a b c : W} : decide ((([a, b, c].length : Nat) : Int) = 0) = false := rfl
theorem d13 {a : W} : decide ((([a].length : Nat) : Int) = 3) = false := rfl
theorem d23 {a b : W} : decide ((([a, b].length : Nat) : Int) = 3) = false := rfl
theorem d33 {a b c : W} : decide ((([a, b, c].length : Nat) : Int) = 3) = true := rfl
theorem d12 {a : W} : decide ((([a].length : Nat) : Int) = 2) = false := rfl
theorem d22 {a b : W} : decide ((([a, b].length : Nat) : Int) = 2) = true := rfl
theorem d32 {a b c : W} : decide ((([a, b, c].length : Nat) : Int) = 2) = false := rfl
theorem d11 {a : W} : decide ((([a].length : Nat) : Int) = 1) = true := rfl
theorem oth_pair {n : Nat} {s s' : Int} {a b : W} (h1 : Kd n s a) (h2 : Kd n s' b) : ∀ w ∈ othW, ∃ c, ∀ n' S, n + 1 ≤ n' → f_is_letter n' [.tup [strW "pair", a, b], w] S = .ok (.bl c) S ∧ f__law_is_letter n' [.tup [strW "pair", a, b], w] S = .ok (.bl c) S := by
  intro w hw
  have hk := Kd.pair h1 h2
  rcases in7 hw with rfl | rfl | rfl | rfl | rfl | rfl | rfl
  · refine ⟨false, fun n' S hn => ?_⟩
    obtain ⟨m, rfl⟩ := get1 hk hn
    exact nt_int (k := a) rfl (sd _ _) (sd _ _)
  · refine ⟨false, fun n' S hn => ?_⟩
    obtain ⟨m, rfl⟩ := get1 hk hn
    exact nt_int (k := a) rfl (sd _ _) (sd _ _)
  · refine ⟨false, fun n' S hn => ?_⟩
    obtain ⟨m, rfl⟩ := get1 hk hn
    exact ⟨by simp only [mk1_ev, mk2_ev, mk3_ev, mk4_ev, sq_ev, set_ev, call_ev, args_ev, argK_ok, args_nil, argK2_ok, callK_ok, List.replicate, c_ev, setK_ok, set0_ev, set1_ev, set2_ev, set3_ev, set4_ev, set5_ev, set6_ev, set7_ev, set8_ev, set9_ev, sqK_nx, sqK_rt, if_ev, tb_ev, t_ev, tK_ok, tru_bl, nt_ev, ntK_ok, and_ev, or_ev, op_ev, opK_ok, opK2_ok, tbK_ok, ifK_t, ifK_f, nx_ev, rt_ev, rtK_ok, mkK_rt, mkK_nx, var0_ev, var1_ev, var2_ev, var3_ev, var4_ev, var5_ev, var6_ev, var7_ev, var8_ev, var9_ev, ixt0, ixt1, ixt2, eq_ss, ne_ss, eq_ii, ne_ii, lt_ii, le_ii, gt_ii, ge_ii, len_tup, av_ev, avK_ok, avK2_t, avK2_f, ov_ev, ovK_ok, ovK2_t, ovK2_f, aK_t, aK_f, oK_t, oK_f, tup_ev, ie_ev, ieK_t, ieK_f, un_ev, unK_ok, ex_ev, exK_ok, Bool.not_true, Bool.not_false, decide_true, decide_false, Nat.reduceSub, f_is_letter, d_is_letter, sd "names" "integers", sd "names" "pair", sd "names" "either", sd "names" "maybe", sd "integers" "names", sd "integers" "pair", sd "integers" "either", sd "integers" "maybe", sd "pair" "names", sd "pair" "integers", sd "pair" "either", sd "pair" "maybe", sd "either" "names", sd "either" "integers", sd "either" "pair", sd "either" "maybe", sd "maybe" "names", sd "maybe" "integers", sd "maybe" "pair", sd "maybe" "either", isiT, formv (k := 3) oth3 (by decide) okp (by decide), d13, Bool.false_and], by simp only [mk1_ev, mk2_ev, mk3_ev, mk4_ev, sq_ev, set_ev, call_ev, args_ev, argK_ok, args_nil, argK2_ok, callK_ok, List.replicate, c_ev, setK_ok, set0_ev, set1_ev, set2_ev, set3_ev, set4_ev, set5_ev, set6_ev, set7_ev, set8_ev, set9_ev, sqK_nx, sqK_rt, if_ev, tb_ev, t_ev, tK_ok, tru_bl, nt_ev, ntK_ok, and_ev, or_ev, op_ev, opK_ok, opK2_ok, tbK_ok, ifK_t, ifK_f, nx_ev, rt_ev, rtK_ok, mkK_rt, mkK_nx, var0_ev, var1_ev, var2_ev, var3_ev, var4_ev, var5_ev, var6_ev, var7_ev, var8_ev, var9_ev, ixt0, ixt1, ixt2, eq_ss, ne_ss, eq_ii, ne_ii, lt_ii, le_ii, gt_ii, ge_ii, len_tup, av_ev, avK_ok, avK2_t, avK2_f, ov_ev, ovK_ok, ovK2_t, ovK2_f, aK_t, aK_f, oK_t, oK_f, tup_ev, ie_ev, ieK_t, ieK_f, un_ev, unK_ok, ex_ev, exK_ok, Bool.not_true, Bool.not_false, decide_true, decide_false, Nat.reduceSub, f__law_is_letter, d__law_is_letter, sd "names" "integers", sd "names" "pair", sd "names" "either", sd "names" "maybe", sd "integers" "names", sd "integers" "pair", sd "integers" "either", sd "integers" "maybe", sd "pair" "names", sd "pair" "integers", sd "pair" "either", sd "pair" "maybe", sd "either" "names", sd "either" "integers", sd "either" "pair", sd "either" "maybe", sd "maybe" "names", sd "maybe" "integers", sd "maybe" "pair", sd "maybe" "either", isiT, issS, dl1, sd "none" "pair"]⟩
  · refine ⟨false, fun n' S hn => ?_⟩
    obtain ⟨m, rfl⟩ := get1 hk hn
    exact ⟨by simp only [mk1_ev, mk2_ev, mk3_ev, mk4_ev, sq_ev, set_ev, call_ev, args_ev, argK_ok, args_nil, argK2_ok, callK_ok, List.replicate, c_ev, setK_ok, set0_ev, set1_ev, set2_ev, set3_ev, set4_ev, set5_ev, set6_ev, set7_ev, set8_ev, set9_ev, sqK_nx, sqK_rt, if_ev, tb_ev, t_ev, tK_ok, tru_bl, nt_ev, ntK_ok, and_ev, or_ev, op_ev, opK_ok, opK2_ok, tbK_ok, ifK_t, ifK_f, nx_ev, rt_ev, rtK_ok, mkK_rt, mkK_nx, var0_ev, var1_ev, var2_ev, var3_ev, var4_ev, var5_ev, var6_ev, var7_ev, var8_ev, var9_ev, ixt0, ixt1, ixt2, eq_ss, ne_ss, eq_ii, ne_ii, lt_ii, le_ii, gt_ii, ge_ii, len_tup, av_ev, avK_ok, avK2_t, avK2_f, ov_ev, ovK_ok, ovK2_t, ovK2_f, aK_t, aK_f, oK_t, oK_f, tup_ev, ie_ev, ieK_t, ieK_f, un_ev, unK_ok, ex_ev, exK_ok, Bool.not_true, Bool.not_false, decide_true, decide_false, Nat.reduceSub, f_is_letter, d_is_letter, sd "names" "integers", sd "names" "pair", sd "names" "either", sd "names" "maybe", sd "integers" "names", sd "integers" "pair", sd "integers" "either", sd "integers" "maybe", sd "pair" "names", sd "pair" "integers", sd "pair" "either", sd "pair" "maybe", sd "either" "names", sd "either" "integers", sd "either" "pair", sd "either" "maybe", sd "maybe" "names", sd "maybe" "integers", sd "maybe" "pair", sd "maybe" "either", isiT, formv (k := 3) oth4 (by decide) okp (by decide), d23, Bool.false_and], by simp only [mk1_ev, mk2_ev, mk3_ev, mk4_ev, sq_ev, set_ev, call_ev, args_ev, argK_ok, args_nil, argK2_ok, callK_ok, List.replicate, c_ev, setK_ok, set0_ev, set1_ev, set2_ev, set3_ev, set4_ev, set5_ev, set6_ev, set7_ev, set8_ev, set9_ev, sqK_nx, sqK_rt, if_ev, tb_ev, t_ev, tK_ok, tru_bl, nt_ev, ntK_ok, and_ev, or_ev, op_ev, opK_ok, opK2_ok, tbK_ok, ifK_t, ifK_f, nx_ev, rt_ev, rtK_ok, mkK_rt, mkK_nx, var0_ev, var1_ev, var2_ev, var3_ev, var4_ev, var5_ev, var6_ev, var7_ev, var8_ev, var9_ev, ixt0, ixt1, ixt2, eq_ss, ne_ss, eq_ii, ne_ii, lt_ii, le_ii, gt_ii, ge_ii, len_tup, av_ev, avK_ok, avK2_t, avK2_f, ov_ev, ovK_ok, ovK2_t, ovK2_f, aK_t, aK_f, oK_t, oK_f, tup_ev, ie_ev, ieK_t, ieK_f, un_ev, unK_ok, ex_ev, exK_ok, Bool.not_true, Bool.not_false, decide_true, decide_false, Nat.reduceSub, f__law_is_letter, d__law_is_letter, sd "names" "integers", sd "names" "pair", sd "names" "either", sd "names" "maybe", sd "integers" "names", sd "integers" "pair", sd "integers" "either", sd "integers" "maybe", sd "pair" "names", sd "pair" "integers", sd "pair" "either", sd "pair" "maybe", sd "either" "names", sd "either" "integers", sd "either" "pair", sd "either" "maybe", sd "maybe" "names", sd "maybe" "integers", sd "maybe" "pair", sd "maybe" "either", isiT, issS, dl2, sd "some" "pair"]⟩
  · refine ⟨false, fun n' S hn => ?_⟩
    obtain ⟨m, rfl⟩ := get1 hk hn
    exact ⟨by simp only [mk1_ev, mk2_ev, mk3_ev, mk4_ev, sq_ev, set_ev, call_ev, args_ev, argK_ok, args_nil, argK2_ok, callK_ok, List.replicate, c_ev, setK_ok, set0_ev, set1_ev, set2_ev, set3_ev, set4_ev, set5_ev, set6_ev, set7_ev, set8_ev, set9_ev, sqK_nx, sqK_rt, if_ev, tb_ev, t_ev, tK_ok, tru_bl, nt_ev, ntK_ok, and_ev, or_ev, op_ev, opK_ok, opK2_ok, tbK_ok, ifK_t, ifK_f, nx_ev, rt_ev, rtK_ok, mkK_rt, mkK_nx, var0_ev, var1_ev, var2_ev, var3_ev, var4_ev, var5_ev, var6_ev, var7_ev, var8_ev, var9_ev, ixt0, ixt1, ixt2, eq_ss, ne_ss, eq_ii, ne_ii, lt_ii, le_ii, gt_ii, ge_ii, len_tup, av_ev, avK_ok, avK2_t, avK2_f, ov_ev, ovK_ok, ovK2_t, ovK2_f, aK_t, aK_f, oK_t, oK_f, tup_ev, ie_ev, ieK_t, ieK_f, un_ev, unK_ok, ex_ev, exK_ok, Bool.not_true, Bool.not_false, decide_true, decide_false, Nat.reduceSub, f_is_letter, d_is_letter, sd "names" "integers", sd "names" "pair", sd "names" "either", sd "names" "maybe", sd "integers" "names", sd "integers" "pair", sd "integers" "either", sd "integers" "maybe", sd "pair" "names", sd "pair" "integers", sd "pair" "either", sd "pair" "maybe", sd "either" "names", sd "either" "integers", sd "either" "pair", sd "either" "maybe", sd "maybe" "names", sd "maybe" "integers", sd "maybe" "pair", sd "maybe" "either", isiT, formv (k := 3) oth5 (by decide) okp (by decide), d23, Bool.false_and], by simp only [mk1_ev, mk2_ev, mk3_ev, mk4_ev, sq_ev, set_ev, call_ev, args_ev, argK_ok, args_nil, argK2_ok, callK_ok, List.replicate, c_ev, setK_ok, set0_ev, set1_ev, set2_ev, set3_ev, set4_ev, set5_ev, set6_ev, set7_ev, set8_ev, set9_ev, sqK_nx, sqK_rt, if_ev, tb_ev, t_ev, tK_ok, tru_bl, nt_ev, ntK_ok, and_ev, or_ev, op_ev, opK_ok, opK2_ok, tbK_ok, ifK_t, ifK_f, nx_ev, rt_ev, rtK_ok, mkK_rt, mkK_nx, var0_ev, var1_ev, var2_ev, var3_ev, var4_ev, var5_ev, var6_ev, var7_ev, var8_ev, var9_ev, ixt0, ixt1, ixt2, eq_ss, ne_ss, eq_ii, ne_ii, lt_ii, le_ii, gt_ii, ge_ii, len_tup, av_ev, avK_ok, avK2_t, avK2_f, ov_ev, ovK_ok, ovK2_t, ovK2_f, aK_t, aK_f, oK_t, oK_f, tup_ev, ie_ev, ieK_t, ieK_f, un_ev, unK_ok, ex_ev, exK_ok, Bool.not_true, Bool.not_false, decide_true, decide_false, Nat.reduceSub, f__law_is_letter, d__law_is_letter, sd "names" "integers", sd "names" "pair", sd "names" "either", sd "names" "maybe", sd "integers" "names", sd "integers" "pair", sd "integers" "either", sd "integers" "maybe", sd "pair" "names", sd "pair" "integers", sd "pair" "either", sd "pair" "maybe", sd "either" "names", sd "either" "integers", sd "either" "pair", sd "either" "maybe", sd "maybe" "names", sd "maybe" "integers", sd "maybe" "pair", sd "maybe" "either", isiT, issS, dl2, sd "some" "pair"]⟩
  · refine ⟨false, fun n' S hn => ?_⟩
    obtain ⟨m, rfl⟩ := get1 hk hn
    exact ⟨by simp only [mk1_ev, mk2_ev, mk3_ev, mk4_ev, sq_ev, set_ev, call_ev, args_ev, argK_ok, args_nil, argK2_ok, callK_ok, List.replicate, c_ev, setK_ok, set0_ev, set1_ev, set2_ev, set3_ev, set4_ev, set5_ev, set6_ev, set7_ev, set8_ev, set9_ev, sqK_nx, sqK_rt, if_ev, tb_ev, t_ev, tK_ok, tru_bl, nt_ev, ntK_ok, and_ev, or_ev, op_ev, opK_ok, opK2_ok, tbK_ok, ifK_t, ifK_f, nx_ev, rt_ev, rtK_ok, mkK_rt, mkK_nx, var0_ev, var1_ev, var2_ev, var3_ev, var4_ev, var5_ev, var6_ev, var7_ev, var8_ev, var9_ev, ixt0, ixt1, ixt2, eq_ss, ne_ss, eq_ii, ne_ii, lt_ii, le_ii, gt_ii, ge_ii, len_tup, av_ev, avK_ok, avK2_t, avK2_f, ov_ev, ovK_ok, ovK2_t, ovK2_f, aK_t, aK_f, oK_t, oK_f, tup_ev, ie_ev, ieK_t, ieK_f, un_ev, unK_ok, ex_ev, exK_ok, Bool.not_true, Bool.not_false, decide_true, decide_false, Nat.reduceSub, f_is_letter, d_is_letter, sd "names" "integers", sd "names" "pair", sd "names" "either", sd "names" "maybe", sd "integers" "names", sd "integers" "pair", sd "integers" "either", sd "integers" "maybe", sd "pair" "names", sd "pair" "integers", sd "pair" "either", sd "pair" "maybe", sd "either" "names", sd "either" "integers", sd "either" "pair", sd "either" "maybe", sd "maybe" "names", sd "maybe" "integers", sd "maybe" "pair", sd "maybe" "either", isiT, formv (k := 3) oth6 (by decide) okp (by decide), sd "case" "pair", Bool.and_false], by simp only [mk1_ev, mk2_ev, mk3_ev, mk4_ev, sq_ev, set_ev, call_ev, args_ev, argK_ok, args_nil, argK2_ok, callK_ok, List.replicate, c_ev, setK_ok, set0_ev, set1_ev, set2_ev, set3_ev, set4_ev, set5_ev, set6_ev, set7_ev, set8_ev, set9_ev, sqK_nx, sqK_rt, if_ev, tb_ev, t_ev, tK_ok, tru_bl, nt_ev, ntK_ok, and_ev, or_ev, op_ev, opK_ok, opK2_ok, tbK_ok, ifK_t, ifK_f, nx_ev, rt_ev, rtK_ok, mkK_rt, mkK_nx, var0_ev, var1_ev, var2_ev, var3_ev, var4_ev, var5_ev, var6_ev, var7_ev, var8_ev, var9_ev, ixt0, ixt1, ixt2, eq_ss, ne_ss, eq_ii, ne_ii, lt_ii, le_ii, gt_ii, ge_ii, len_tup, av_ev, avK_ok, avK2_t, avK2_f, ov_ev, ovK_ok, ovK2_t, ovK2_f, aK_t, aK_f, oK_t, oK_f, tup_ev, ie_ev, ieK_t, ieK_f, un_ev, unK_ok, ex_ev, exK_ok, Bool.not_true, Bool.not_false, decide_true, decide_false, Nat.reduceSub, f__law_is_letter, d__law_is_letter, sd "names" "integers", sd "names" "pair", sd "names" "either", sd "names" "maybe", sd "integers" "names", sd "integers" "pair", sd "integers" "either", sd "integers" "maybe", sd "pair" "names", sd "pair" "integers", sd "pair" "either", sd "pair" "maybe", sd "either" "names", sd "either" "integers", sd "either" "pair", sd "either" "maybe", sd "maybe" "names", sd "maybe" "integers", sd "maybe" "pair", sd "maybe" "either", isiT, issS, dl3, sd "case" "pair"]⟩
  · obtain ⟨c1, e1⟩ := ask_int h1
    obtain ⟨c2, e2⟩ := ask_q h2
    cases c1 with
    | false =>
      refine ⟨false, fun n' S hn => ?_⟩
      obtain ⟨m, rfl⟩ := get1 hk hn
      obtain ⟨x1, x2⟩ := e1 m S 0 (by omega)
      exact ⟨by simp only [mk1_ev, mk2_ev, mk3_ev, mk4_ev, sq_ev, set_ev, call_ev, args_ev, argK_ok, args_nil, argK2_ok, callK_ok, List.replicate, c_ev, setK_ok, set0_ev, set1_ev, set2_ev, set3_ev, set4_ev, set5_ev, set6_ev, set7_ev, set8_ev, set9_ev, sqK_nx, sqK_rt, if_ev, tb_ev, t_ev, tK_ok, tru_bl, nt_ev, ntK_ok, and_ev, or_ev, op_ev, opK_ok, opK2_ok, tbK_ok, ifK_t, ifK_f, nx_ev, rt_ev, rtK_ok, mkK_rt, mkK_nx, var0_ev, var1_ev, var2_ev, var3_ev, var4_ev, var5_ev, var6_ev, var7_ev, var8_ev, var9_ev, ixt0, ixt1, ixt2, eq_ss, ne_ss, eq_ii, ne_ii, lt_ii, le_ii, gt_ii, ge_ii, len_tup, av_ev, avK_ok, avK2_t, avK2_f, ov_ev, ovK_ok, ovK2_t, ovK2_f, aK_t, aK_f, oK_t, oK_f, tup_ev, ie_ev, ieK_t, ieK_f, un_ev, unK_ok, ex_ev, exK_ok, Bool.not_true, Bool.not_false, decide_true, decide_false, Nat.reduceSub, f_is_letter, d_is_letter, sd "names" "integers", sd "names" "pair", sd "names" "either", sd "names" "maybe", sd "integers" "names", sd "integers" "pair", sd "integers" "either", sd "integers" "maybe", sd "pair" "names", sd "pair" "integers", sd "pair" "either", sd "pair" "maybe", sd "either" "names", sd "either" "integers", sd "either" "pair", sd "either" "maybe", sd "maybe" "names", sd "maybe" "integers", sd "maybe" "pair", sd "maybe" "either", isiT, formv (k := 3) oth7 (by decide) okp (by decide), d33, Bool.and_true, x1], by simp only [mk1_ev, mk2_ev, mk3_ev, mk4_ev, sq_ev, set_ev, call_ev, args_ev, argK_ok, args_nil, argK2_ok, callK_ok, List.replicate, c_ev, setK_ok, set0_ev, set1_ev, set2_ev, set3_ev, set4_ev, set5_ev, set6_ev, set7_ev, set8_ev, set9_ev, sqK_nx, sqK_rt, if_ev, tb_ev, t_ev, tK_ok, tru_bl, nt_ev, ntK_ok, and_ev, or_ev, op_ev, opK_ok, opK2_ok, tbK_ok, ifK_t, ifK_f, nx_ev, rt_ev, rtK_ok, mkK_rt, mkK_nx, var0_ev, var1_ev, var2_ev, var3_ev, var4_ev, var5_ev, var6_ev, var7_ev, var8_ev, var9_ev, ixt0, ixt1, ixt2, eq_ss, ne_ss, eq_ii, ne_ii, lt_ii, le_ii, gt_ii, ge_ii, len_tup, av_ev, avK_ok, avK2_t, avK2_f, ov_ev, ovK_ok, ovK2_t, ovK2_f, aK_t, aK_f, oK_t, oK_f, tup_ev, ie_ev, ieK_t, ieK_f, un_ev, unK_ok, ex_ev, exK_ok, Bool.not_true, Bool.not_false, decide_true, decide_false, Nat.reduceSub, f__law_is_letter, d__law_is_letter, sd "names" "integers", sd "names" "pair", sd "names" "either", sd "names" "maybe", sd "integers" "names", sd "integers" "pair", sd "integers" "either", sd "integers" "maybe", sd "pair" "names", sd "pair" "integers", sd "pair" "either", sd "pair" "maybe", sd "either" "names", sd "either" "integers", sd "either" "pair", sd "either" "maybe", sd "maybe" "names", sd "maybe" "integers", sd "maybe" "pair", sd "maybe" "either", isiT, issS, dl3, d33, x2]⟩
    | true =>
      refine ⟨c2, fun n' S hn => ?_⟩
      obtain ⟨m, rfl⟩ := get1 hk hn
      obtain ⟨x1, x2⟩ := e1 m S 0 (by omega)
      obtain ⟨y1, y2⟩ := e2 m S (by omega)
      exact ⟨by simp only [mk1_ev, mk2_ev, mk3_ev, mk4_ev, sq_ev, set_ev, call_ev, args_ev, argK_ok, args_nil, argK2_ok, callK_ok, List.replicate, c_ev, setK_ok, set0_ev, set1_ev, set2_ev, set3_ev, set4_ev, set5_ev, set6_ev, set7_ev, set8_ev, set9_ev, sqK_nx, sqK_rt, if_ev, tb_ev, t_ev, tK_ok, tru_bl, nt_ev, ntK_ok, and_ev, or_ev, op_ev, opK_ok, opK2_ok, tbK_ok, ifK_t, ifK_f, nx_ev, rt_ev, rtK_ok, mkK_rt, mkK_nx, var0_ev, var1_ev, var2_ev, var3_ev, var4_ev, var5_ev, var6_ev, var7_ev, var8_ev, var9_ev, ixt0, ixt1, ixt2, eq_ss, ne_ss, eq_ii, ne_ii, lt_ii, le_ii, gt_ii, ge_ii, len_tup, av_ev, avK_ok, avK2_t, avK2_f, ov_ev, ovK_ok, ovK2_t, ovK2_f, aK_t, aK_f, oK_t, oK_f, tup_ev, ie_ev, ieK_t, ieK_f, un_ev, unK_ok, ex_ev, exK_ok, Bool.not_true, Bool.not_false, decide_true, decide_false, Nat.reduceSub, f_is_letter, d_is_letter, sd "names" "integers", sd "names" "pair", sd "names" "either", sd "names" "maybe", sd "integers" "names", sd "integers" "pair", sd "integers" "either", sd "integers" "maybe", sd "pair" "names", sd "pair" "integers", sd "pair" "either", sd "pair" "maybe", sd "either" "names", sd "either" "integers", sd "either" "pair", sd "either" "maybe", sd "maybe" "names", sd "maybe" "integers", sd "maybe" "pair", sd "maybe" "either", isiT, formv (k := 3) oth7 (by decide) okp (by decide), d33, Bool.and_true, x1, y1], by simp only [mk1_ev, mk2_ev, mk3_ev, mk4_ev, sq_ev, set_ev, call_ev, args_ev, argK_ok, args_nil, argK2_ok, callK_ok, List.replicate, c_ev, setK_ok, set0_ev, set1_ev, set2_ev, set3_ev, set4_ev, set5_ev, set6_ev, set7_ev, set8_ev, set9_ev, sqK_nx, sqK_rt, if_ev, tb_ev, t_ev, tK_ok, tru_bl, nt_ev, ntK_ok, and_ev, or_ev, op_ev, opK_ok, opK2_ok, tbK_ok, ifK_t, ifK_f, nx_ev, rt_ev, rtK_ok, mkK_rt, mkK_nx, var0_ev, var1_ev, var2_ev, var3_ev, var4_ev, var5_ev, var6_ev, var7_ev, var8_ev, var9_ev, ixt0, ixt1, ixt2, eq_ss, ne_ss, eq_ii, ne_ii, lt_ii, le_ii, gt_ii, ge_ii, len_tup, av_ev, avK_ok, avK2_t, avK2_f, ov_ev, ovK_ok, ovK2_t, ovK2_f, aK_t, aK_f, oK_t, oK_f, tup_ev, ie_ev, ieK_t, ieK_f, un_ev, unK_ok, ex_ev, exK_ok, Bool.not_true, Bool.not_false, decide_true, decide_false, Nat.reduceSub, f__law_is_letter, d__law_is_letter, sd "names" "integers", sd "names" "pair", sd "names" "either", sd "names" "maybe", sd "integers" "names", sd "integers" "pair", sd "integers" "either", sd "integers" "maybe", sd "pair" "names", sd "pair" "integers", sd "pair" "either", sd "pair" "maybe", sd "either" "names", sd "either" "integers", sd "either" "pair", sd "either" "maybe", sd "maybe" "names", sd "maybe" "integers", sd "maybe" "pair", sd "maybe" "either", isiT, issS, dl3, d33, x2, y2]⟩
theorem oth_either {n : Nat} {s : Int} {ks : List W} (h1 : KdA n s ks) (h2 : ks ≠ []) (h3 : ks.length ≤ 3) : ∀ w ∈ othW, ∃ c, ∀ n' S, n + 1 ≤ n' → f_is_letter n' [.tup [strW "either", .tup ks], w] S = .ok (.bl c) S ∧ f__law_is_letter n' [.tup [strW "either", .tup ks], w] S = .ok (.bl c) S := by
  intro w hw
  have hk := Kd.either h1 h2 h3
  rcases in7 hw with rfl | rfl | rfl | rfl | rfl | rfl | rfl
  · refine ⟨false, fun n' S hn => ?_⟩
    obtain ⟨m, rfl⟩ := get1 hk hn
    exact nt_int (k := .non) rfl (sd _ _) (sd _ _)
  · refine ⟨false, fun n' S hn => ?_⟩
    obtain ⟨m, rfl⟩ := get1 hk hn
    exact nt_int (k := .non) rfl (sd _ _) (sd _ _)
  · refine ⟨false, fun n' S hn => ?_⟩
    obtain ⟨m, rfl⟩ := get1 hk hn
    exact ⟨by simp only [mk1_ev, mk2_ev, mk3_ev, mk4_ev, sq_ev, set_ev, call_ev, args_ev, argK_ok, args_nil, argK2_ok, callK_ok, List.replicate, c_ev, setK_ok, set0_ev, set1_ev, set2_ev, set3_ev, set4_ev, set5_ev, set6_ev, set7_ev, set8_ev, set9_ev, sqK_nx, sqK_rt, if_ev, tb_ev, t_ev, tK_ok, tru_bl, nt_ev, ntK_ok, and_ev, or_ev, op_ev, opK_ok, opK2_ok, tbK_ok, ifK_t, ifK_f, nx_ev, rt_ev, rtK_ok, mkK_rt, mkK_nx, var0_ev, var1_ev, var2_ev, var3_ev, var4_ev, var5_ev, var6_ev, var7_ev, var8_ev, var9_ev, ixt0, ixt1, ixt2, eq_ss, ne_ss, eq_ii, ne_ii, lt_ii, le_ii, gt_ii, ge_ii, len_tup, av_ev, avK_ok, avK2_t, avK2_f, ov_ev, ovK_ok, ovK2_t, ovK2_f, aK_t, aK_f, oK_t, oK_f, tup_ev, ie_ev, ieK_t, ieK_f, un_ev, unK_ok, ex_ev, exK_ok, Bool.not_true, Bool.not_false, decide_true, decide_false, Nat.reduceSub, f_is_letter, d_is_letter, sd "names" "integers", sd "names" "pair", sd "names" "either", sd "names" "maybe", sd "integers" "names", sd "integers" "pair", sd "integers" "either", sd "integers" "maybe", sd "pair" "names", sd "pair" "integers", sd "pair" "either", sd "pair" "maybe", sd "either" "names", sd "either" "integers", sd "either" "pair", sd "either" "maybe", sd "maybe" "names", sd "maybe" "integers", sd "maybe" "pair", sd "maybe" "either", isiT, formv (k := 3) oth3 (by decide) okc (by decide), d13, Bool.false_and], by simp only [mk1_ev, mk2_ev, mk3_ev, mk4_ev, sq_ev, set_ev, call_ev, args_ev, argK_ok, args_nil, argK2_ok, callK_ok, List.replicate, c_ev, setK_ok, set0_ev, set1_ev, set2_ev, set3_ev, set4_ev, set5_ev, set6_ev, set7_ev, set8_ev, set9_ev, sqK_nx, sqK_rt, if_ev, tb_ev, t_ev, tK_ok, tru_bl, nt_ev, ntK_ok, and_ev, or_ev, op_ev, opK_ok, opK2_ok, tbK_ok, ifK_t, ifK_f, nx_ev, rt_ev, rtK_ok, mkK_rt, mkK_nx, var0_ev, var1_ev, var2_ev, var3_ev, var4_ev, var5_ev, var6_ev, var7_ev, var8_ev, var9_ev, ixt0, ixt1, ixt2, eq_ss, ne_ss, eq_ii, ne_ii, lt_ii, le_ii, gt_ii, ge_ii, len_tup, av_ev, avK_ok, avK2_t, avK2_f, ov_ev, ovK_ok, ovK2_t, ovK2_f, aK_t, aK_f, oK_t, oK_f, tup_ev, ie_ev, ieK_t, ieK_f, un_ev, unK_ok, ex_ev, exK_ok, Bool.not_true, Bool.not_false, decide_true, decide_false, Nat.reduceSub, f__law_is_letter, d__law_is_letter, sd "names" "integers", sd "names" "pair", sd "names" "either", sd "names" "maybe", sd "integers" "names", sd "integers" "pair", sd "integers" "either", sd "integers" "maybe", sd "pair" "names", sd "pair" "integers", sd "pair" "either", sd "pair" "maybe", sd "either" "names", sd "either" "integers", sd "either" "pair", sd "either" "maybe", sd "maybe" "names", sd "maybe" "integers", sd "maybe" "pair", sd "maybe" "either", isiT, issS, dl1, sd "none" "case"]⟩
  · refine ⟨false, fun n' S hn => ?_⟩
    obtain ⟨m, rfl⟩ := get1 hk hn
    exact ⟨by simp only [mk1_ev, mk2_ev, mk3_ev, mk4_ev, sq_ev, set_ev, call_ev, args_ev, argK_ok, args_nil, argK2_ok, callK_ok, List.replicate, c_ev, setK_ok, set0_ev, set1_ev, set2_ev, set3_ev, set4_ev, set5_ev, set6_ev, set7_ev, set8_ev, set9_ev, sqK_nx, sqK_rt, if_ev, tb_ev, t_ev, tK_ok, tru_bl, nt_ev, ntK_ok, and_ev, or_ev, op_ev, opK_ok, opK2_ok, tbK_ok, ifK_t, ifK_f, nx_ev, rt_ev, rtK_ok, mkK_rt, mkK_nx, var0_ev, var1_ev, var2_ev, var3_ev, var4_ev, var5_ev, var6_ev, var7_ev, var8_ev, var9_ev, ixt0, ixt1, ixt2, eq_ss, ne_ss, eq_ii, ne_ii, lt_ii, le_ii, gt_ii, ge_ii, len_tup, av_ev, avK_ok, avK2_t, avK2_f, ov_ev, ovK_ok, ovK2_t, ovK2_f, aK_t, aK_f, oK_t, oK_f, tup_ev, ie_ev, ieK_t, ieK_f, un_ev, unK_ok, ex_ev, exK_ok, Bool.not_true, Bool.not_false, decide_true, decide_false, Nat.reduceSub, f_is_letter, d_is_letter, sd "names" "integers", sd "names" "pair", sd "names" "either", sd "names" "maybe", sd "integers" "names", sd "integers" "pair", sd "integers" "either", sd "integers" "maybe", sd "pair" "names", sd "pair" "integers", sd "pair" "either", sd "pair" "maybe", sd "either" "names", sd "either" "integers", sd "either" "pair", sd "either" "maybe", sd "maybe" "names", sd "maybe" "integers", sd "maybe" "pair", sd "maybe" "either", isiT, formv (k := 3) oth4 (by decide) okc (by decide), d23, Bool.false_and], by simp only [mk1_ev, mk2_ev, mk3_ev, mk4_ev, sq_ev, set_ev, call_ev, args_ev, argK_ok, args_nil, argK2_ok, callK_ok, List.replicate, c_ev, setK_ok, set0_ev, set1_ev, set2_ev, set3_ev, set4_ev, set5_ev, set6_ev, set7_ev, set8_ev, set9_ev, sqK_nx, sqK_rt, if_ev, tb_ev, t_ev, tK_ok, tru_bl, nt_ev, ntK_ok, and_ev, or_ev, op_ev, opK_ok, opK2_ok, tbK_ok, ifK_t, ifK_f, nx_ev, rt_ev, rtK_ok, mkK_rt, mkK_nx, var0_ev, var1_ev, var2_ev, var3_ev, var4_ev, var5_ev, var6_ev, var7_ev, var8_ev, var9_ev, ixt0, ixt1, ixt2, eq_ss, ne_ss, eq_ii, ne_ii, lt_ii, le_ii, gt_ii, ge_ii, len_tup, av_ev, avK_ok, avK2_t, avK2_f, ov_ev, ovK_ok, ovK2_t, ovK2_f, aK_t, aK_f, oK_t, oK_f, tup_ev, ie_ev, ieK_t, ieK_f, un_ev, unK_ok, ex_ev, exK_ok, Bool.not_true, Bool.not_false, decide_true, decide_false, Nat.reduceSub, f__law_is_letter, d__law_is_letter, sd "names" "integers", sd "names" "pair", sd "names" "either", sd "names" "maybe", sd "integers" "names", sd "integers" "pair", sd "integers" "either", sd "integers" "maybe", sd "pair" "names", sd "pair" "integers", sd "pair" "either", sd "pair" "maybe", sd "either" "names", sd "either" "integers", sd "either" "pair", sd "either" "maybe", sd "maybe" "names", sd "maybe" "integers", sd "maybe" "pair", sd "maybe" "either", isiT, issS, dl2, sd "some" "case"]⟩
  · refine ⟨false, fun n' S hn => ?_⟩
    obtain ⟨m, rfl⟩ := get1 hk hn
    exact ⟨by simp only [mk1_ev, mk2_ev, mk3_ev, mk4_ev, sq_ev, set_ev, call_ev, args_ev, argK_ok, args_nil, argK2_ok, callK_ok, List.replicate, c_ev, setK_ok, set0_ev, set1_ev, set2_ev, set3_ev, set4_ev, set5_ev, set6_ev, set7_ev, set8_ev, set9_ev, sqK_nx, sqK_rt, if_ev, tb_ev, t_ev, tK_ok, tru_bl, nt_ev, ntK_ok, and_ev, or_ev, op_ev, opK_ok, opK2_ok, tbK_ok, ifK_t, ifK_f, nx_ev, rt_ev, rtK_ok, mkK_rt, mkK_nx, var0_ev, var1_ev, var2_ev, var3_ev, var4_ev, var5_ev, var6_ev, var7_ev, var8_ev, var9_ev, ixt0, ixt1, ixt2, eq_ss, ne_ss, eq_ii, ne_ii, lt_ii, le_ii, gt_ii, ge_ii, len_tup, av_ev, avK_ok, avK2_t, avK2_f, ov_ev, ovK_ok, ovK2_t, ovK2_f, aK_t, aK_f, oK_t, oK_f, tup_ev, ie_ev, ieK_t, ieK_f, un_ev, unK_ok, ex_ev, exK_ok, Bool.not_true, Bool.not_false, decide_true, decide_false, Nat.reduceSub, f_is_letter, d_is_letter, sd "names" "integers", sd "names" "pair", sd "names" "either", sd "names" "maybe", sd "integers" "names", sd "integers" "pair", sd "integers" "either", sd "integers" "maybe", sd "pair" "names", sd "pair" "integers", sd "pair" "either", sd "pair" "maybe", sd "either" "names", sd "either" "integers", sd "either" "pair", sd "either" "maybe", sd "maybe" "names", sd "maybe" "integers", sd "maybe" "pair", sd "maybe" "either", isiT, formv (k := 3) oth5 (by decide) okc (by decide), d23, Bool.false_and], by simp only [mk1_ev, mk2_ev, mk3_ev, mk4_ev, sq_ev, set_ev, call_ev, args_ev, argK_ok, args_nil, argK2_ok, callK_ok, List.replicate, c_ev, setK_ok, set0_ev, set1_ev, set2_ev, set3_ev, set4_ev, set5_ev, set6_ev, set7_ev, set8_ev, set9_ev, sqK_nx, sqK_rt, if_ev, tb_ev, t_ev, tK_ok, tru_bl, nt_ev, ntK_ok, and_ev, or_ev, op_ev, opK_ok, opK2_ok, tbK_ok, ifK_t, ifK_f, nx_ev, rt_ev, rtK_ok, mkK_rt, mkK_nx, var0_ev, var1_ev, var2_ev, var3_ev, var4_ev, var5_ev, var6_ev, var7_ev, var8_ev, var9_ev, ixt0, ixt1, ixt2, eq_ss, ne_ss, eq_ii, ne_ii, lt_ii, le_ii, gt_ii, ge_ii, len_tup, av_ev, avK_ok, avK2_t, avK2_f, ov_ev, ovK_ok, ovK2_t, ovK2_f, aK_t, aK_f, oK_t, oK_f, tup_ev, ie_ev, ieK_t, ieK_f, un_ev, unK_ok, ex_ev, exK_ok, Bool.not_true, Bool.not_false, decide_true, decide_false, Nat.reduceSub, f__law_is_letter, d__law_is_letter, sd "names" "integers", sd "names" "pair", sd "names" "either", sd "names" "maybe", sd "integers" "names", sd "integers" "pair", sd "integers" "either", sd "integers" "maybe", sd "pair" "names", sd "pair" "integers", sd "pair" "either", sd "pair" "maybe", sd "either" "names", sd "either" "integers", sd "either" "pair", sd "either" "maybe", sd "maybe" "names", sd "maybe" "integers", sd "maybe" "pair", sd "maybe" "either", isiT, issS, dl2, sd "some" "case"]⟩
  · obtain ⟨k0, r, rfl⟩ : ∃ k0 r, ks = k0 :: r := by
      cases ks with
      | nil => exact absurd rfl h2
      | cons a r => exact ⟨a, r, rfl⟩
    obtain ⟨z', hz⟩ := h1.mem k0 List.mem_cons_self
    obtain ⟨c1, e1⟩ := ask_int hz
    refine ⟨c1, fun n' S hn => ?_⟩
    obtain ⟨m, rfl⟩ := get1 hk hn
    obtain ⟨x1, x2⟩ := e1 m S 1 (by omega)
    have hca : f__is_case [.tup (k0 :: r), .int 0] S = .ok (.bl true) S := by
      rw [case_ok (n := 0) (.int 0)]
      show Res.ok (W.bl (decide ((0 : Int) ≤ 0) && decide ((0 : Int) < ((k0 :: r).length : Int)))) S = _
      rw [decide_eq_true (Int.le_refl _), decide_eq_true (by rw [List.length_cons]; omega)]
      rfl
    have wh : f__law_whole [.int 0] S = .ok (.bl true) S := whole_ok (n := 0) (.int 0)
    have n1 : decide ((0 : Int) < 0) = false := rfl
    have n2 : decide ((((k0 :: r).length : Nat) : Int) ≤ 0) = false := decide_eq_false (by rw [List.length_cons]; omega)
    exact ⟨by simp only [mk1_ev, mk2_ev, mk3_ev, mk4_ev, sq_ev, set_ev, call_ev, args_ev, argK_ok, args_nil, argK2_ok, callK_ok, List.replicate, c_ev, setK_ok, set0_ev, set1_ev, set2_ev, set3_ev, set4_ev, set5_ev, set6_ev, set7_ev, set8_ev, set9_ev, sqK_nx, sqK_rt, if_ev, tb_ev, t_ev, tK_ok, tru_bl, nt_ev, ntK_ok, and_ev, or_ev, op_ev, opK_ok, opK2_ok, tbK_ok, ifK_t, ifK_f, nx_ev, rt_ev, rtK_ok, mkK_rt, mkK_nx, var0_ev, var1_ev, var2_ev, var3_ev, var4_ev, var5_ev, var6_ev, var7_ev, var8_ev, var9_ev, ixt0, ixt1, ixt2, eq_ss, ne_ss, eq_ii, ne_ii, lt_ii, le_ii, gt_ii, ge_ii, len_tup, av_ev, avK_ok, avK2_t, avK2_f, ov_ev, ovK_ok, ovK2_t, ovK2_f, aK_t, aK_f, oK_t, oK_f, tup_ev, ie_ev, ieK_t, ieK_f, un_ev, unK_ok, ex_ev, exK_ok, Bool.not_true, Bool.not_false, decide_true, decide_false, Nat.reduceSub, f_is_letter, d_is_letter, sd "names" "integers", sd "names" "pair", sd "names" "either", sd "names" "maybe", sd "integers" "names", sd "integers" "pair", sd "integers" "either", sd "integers" "maybe", sd "pair" "names", sd "pair" "integers", sd "pair" "either", sd "pair" "maybe", sd "either" "names", sd "either" "integers", sd "either" "pair", sd "either" "maybe", sd "maybe" "names", sd "maybe" "integers", sd "maybe" "pair", sd "maybe" "either", isiT, formv (k := 3) oth6 (by decide) okc (by decide), d33, Bool.and_true, hca, x1], by simp only [mk1_ev, mk2_ev, mk3_ev, mk4_ev, sq_ev, set_ev, call_ev, args_ev, argK_ok, args_nil, argK2_ok, callK_ok, List.replicate, c_ev, setK_ok, set0_ev, set1_ev, set2_ev, set3_ev, set4_ev, set5_ev, set6_ev, set7_ev, set8_ev, set9_ev, sqK_nx, sqK_rt, if_ev, tb_ev, t_ev, tK_ok, tru_bl, nt_ev, ntK_ok, and_ev, or_ev, op_ev, opK_ok, opK2_ok, tbK_ok, ifK_t, ifK_f, nx_ev, rt_ev, rtK_ok, mkK_rt, mkK_nx, var0_ev, var1_ev, var2_ev, var3_ev, var4_ev, var5_ev, var6_ev, var7_ev, var8_ev, var9_ev, ixt0, ixt1, ixt2, eq_ss, ne_ss, eq_ii, ne_ii, lt_ii, le_ii, gt_ii, ge_ii, len_tup, av_ev, avK_ok, avK2_t, avK2_f, ov_ev, ovK_ok, ovK2_t, ovK2_f, aK_t, aK_f, oK_t, oK_f, tup_ev, ie_ev, ieK_t, ieK_f, un_ev, unK_ok, ex_ev, exK_ok, Bool.not_true, Bool.not_false, decide_true, decide_false, Nat.reduceSub, f__law_is_letter, d__law_is_letter, sd "names" "integers", sd "names" "pair", sd "names" "either", sd "names" "maybe", sd "integers" "names", sd "integers" "pair", sd "integers" "either", sd "integers" "maybe", sd "pair" "names", sd "pair" "integers", sd "pair" "either", sd "pair" "maybe", sd "either" "names", sd "either" "integers", sd "either" "pair", sd "either" "maybe", sd "maybe" "names", sd "maybe" "integers", sd "maybe" "pair", sd "maybe" "either", isiT, issS, dl3, d33, wh, n1, n2, x2]⟩
  · refine ⟨false, fun n' S hn => ?_⟩
    obtain ⟨m, rfl⟩ := get1 hk hn
    exact ⟨by simp only [mk1_ev, mk2_ev, mk3_ev, mk4_ev, sq_ev, set_ev, call_ev, args_ev, argK_ok, args_nil, argK2_ok, callK_ok, List.replicate, c_ev, setK_ok, set0_ev, set1_ev, set2_ev, set3_ev, set4_ev, set5_ev, set6_ev, set7_ev, set8_ev, set9_ev, sqK_nx, sqK_rt, if_ev, tb_ev, t_ev, tK_ok, tru_bl, nt_ev, ntK_ok, and_ev, or_ev, op_ev, opK_ok, opK2_ok, tbK_ok, ifK_t, ifK_f, nx_ev, rt_ev, rtK_ok, mkK_rt, mkK_nx, var0_ev, var1_ev, var2_ev, var3_ev, var4_ev, var5_ev, var6_ev, var7_ev, var8_ev, var9_ev, ixt0, ixt1, ixt2, eq_ss, ne_ss, eq_ii, ne_ii, lt_ii, le_ii, gt_ii, ge_ii, len_tup, av_ev, avK_ok, avK2_t, avK2_f, ov_ev, ovK_ok, ovK2_t, ovK2_f, aK_t, aK_f, oK_t, oK_f, tup_ev, ie_ev, ieK_t, ieK_f, un_ev, unK_ok, ex_ev, exK_ok, Bool.not_true, Bool.not_false, decide_true, decide_false, Nat.reduceSub, f_is_letter, d_is_letter, sd "names" "integers", sd "names" "pair", sd "names" "either", sd "names" "maybe", sd "integers" "names", sd "integers" "pair", sd "integers" "either", sd "integers" "maybe", sd "pair" "names", sd "pair" "integers", sd "pair" "either", sd "pair" "maybe", sd "either" "names", sd "either" "integers", sd "either" "pair", sd "either" "maybe", sd "maybe" "names", sd "maybe" "integers", sd "maybe" "pair", sd "maybe" "either", isiT, formv (k := 3) oth7 (by decide) okc (by decide), sd "pair" "case", Bool.and_false], by simp only [mk1_ev, mk2_ev, mk3_ev, mk4_ev, sq_ev, set_ev, call_ev, args_ev, argK_ok, args_nil, argK2_ok, callK_ok, List.replicate, c_ev, setK_ok, set0_ev, set1_ev, set2_ev, set3_ev, set4_ev, set5_ev, set6_ev, set7_ev, set8_ev, set9_ev, sqK_nx, sqK_rt, if_ev, tb_ev, t_ev, tK_ok, tru_bl, nt_ev, ntK_ok, and_ev, or_ev, op_ev, opK_ok, opK2_ok, tbK_ok, ifK_t, ifK_f, nx_ev, rt_ev, rtK_ok, mkK_rt, mkK_nx, var0_ev, var1_ev, var2_ev, var3_ev, var4_ev, var5_ev, var6_ev, var7_ev, var8_ev, var9_ev, ixt0, ixt1, ixt2, eq_ss, ne_ss, eq_ii, ne_ii, lt_ii, le_ii, gt_ii, ge_ii, len_tup, av_ev, avK_ok, avK2_t, avK2_f, ov_ev, ovK_ok, ovK2_t, ovK2_f, aK_t, aK_f, oK_t, oK_f, tup_ev, ie_ev, ieK_t, ieK_f, un_ev, unK_ok, ex_ev, exK_ok, Bool.not_true, Bool.not_false, decide_true, decide_false, Nat.reduceSub, f__law_is_letter, d__law_is_letter, sd "names" "integers", sd "names" "pair", sd "names" "either", sd "names" "maybe", sd "integers" "names", sd "integers" "pair", sd "integers" "either", sd "integers" "maybe", sd "pair" "names", sd "pair" "integers", sd "pair" "either", sd "pair" "maybe", sd "either" "names", sd "either" "integers", sd "either" "pair", sd "either" "maybe", sd "maybe" "names", sd "maybe" "integers", sd "maybe" "pair", sd "maybe" "either", isiT, issS, dl3, sd "pair" "case"]⟩
theorem oth_maybe {n : Nat} {s : Int} {a : W} (h1 : Kd n s a) : ∀ w ∈ othW, ∃ c, ∀ n' S, n + 1 ≤ n' → f_is_letter n' [.tup [strW "maybe", a], w] S = .ok (.bl c) S ∧ f__law_is_letter n' [.tup [strW "maybe", a], w] S = .ok (.bl c) S := by
  intro w hw
  have hk := Kd.maybe h1
  have hno : ∀ {ws : List W} {S : Store}, OkW 1 (.tup ws) → gEq (.tup ws) (.tup [strW "none"]) S = .ok (.bl (isNone ws)) S := fun h => none_ok h (by decide)
  have nn1 : isNone [strW "none"] = true := head_self "none" []
  have nn2 : ∀ a b, isNone [a, b] = false := fun _ _ => rfl
  have nn3 : ∀ a b c, isNone [a, b, c] = false := fun _ _ _ => rfl
  rcases in7 hw with rfl | rfl | rfl | rfl | rfl | rfl | rfl
  · refine ⟨false, fun n' S hn => ?_⟩
    obtain ⟨m, rfl⟩ := get1 hk hn
    exact nt_int (k := .non) rfl (sd _ _) (sd _ _)
  · refine ⟨false, fun n' S hn => ?_⟩
    obtain ⟨m, rfl⟩ := get1 hk hn
    exact nt_int (k := .non) rfl (sd _ _) (sd _ _)
  · refine ⟨true, fun n' S hn => ?_⟩
    obtain ⟨m, rfl⟩ := get1 hk hn
    exact ⟨by simp only [mk1_ev, mk2_ev, mk3_ev, mk4_ev, sq_ev, set_ev, call_ev, args_ev, argK_ok, args_nil, argK2_ok, callK_ok, List.replicate, c_ev, setK_ok, set0_ev, set1_ev, set2_ev, set3_ev, set4_ev, set5_ev, set6_ev, set7_ev, set8_ev, set9_ev, sqK_nx, sqK_rt, if_ev, tb_ev, t_ev, tK_ok, tru_bl, nt_ev, ntK_ok, and_ev, or_ev, op_ev, opK_ok, opK2_ok, tbK_ok, ifK_t, ifK_f, nx_ev, rt_ev, rtK_ok, mkK_rt, mkK_nx, var0_ev, var1_ev, var2_ev, var3_ev, var4_ev, var5_ev, var6_ev, var7_ev, var8_ev, var9_ev, ixt0, ixt1, ixt2, eq_ss, ne_ss, eq_ii, ne_ii, lt_ii, le_ii, gt_ii, ge_ii, len_tup, av_ev, avK_ok, avK2_t, avK2_f, ov_ev, ovK_ok, ovK2_t, ovK2_f, aK_t, aK_f, oK_t, oK_f, tup_ev, ie_ev, ieK_t, ieK_f, un_ev, unK_ok, ex_ev, exK_ok, Bool.not_true, Bool.not_false, decide_true, decide_false, Nat.reduceSub, f_is_letter, d_is_letter, sd "names" "integers", sd "names" "pair", sd "names" "either", sd "names" "maybe", sd "integers" "names", sd "integers" "pair", sd "integers" "either", sd "integers" "maybe", sd "pair" "names", sd "pair" "integers", sd "pair" "either", sd "pair" "maybe", sd "either" "names", sd "either" "integers", sd "either" "pair", sd "either" "maybe", sd "maybe" "names", sd "maybe" "integers", sd "maybe" "pair", sd "maybe" "either", isiT, tupK_ok (b1 _), hno oth3, nn1], by simp only [mk1_ev, mk2_ev, mk3_ev, mk4_ev, sq_ev, set_ev, call_ev, args_ev, argK_ok, args_nil, argK2_ok, callK_ok, List.replicate, c_ev, setK_ok, set0_ev, set1_ev, set2_ev, set3_ev, set4_ev, set5_ev, set6_ev, set7_ev, set8_ev, set9_ev, sqK_nx, sqK_rt, if_ev, tb_ev, t_ev, tK_ok, tru_bl, nt_ev, ntK_ok, and_ev, or_ev, op_ev, opK_ok, opK2_ok, tbK_ok, ifK_t, ifK_f, nx_ev, rt_ev, rtK_ok, mkK_rt, mkK_nx, var0_ev, var1_ev, var2_ev, var3_ev, var4_ev, var5_ev, var6_ev, var7_ev, var8_ev, var9_ev, ixt0, ixt1, ixt2, eq_ss, ne_ss, eq_ii, ne_ii, lt_ii, le_ii, gt_ii, ge_ii, len_tup, av_ev, avK_ok, avK2_t, avK2_f, ov_ev, ovK_ok, ovK2_t, ovK2_f, aK_t, aK_f, oK_t, oK_f, tup_ev, ie_ev, ieK_t, ieK_f, un_ev, unK_ok, ex_ev, exK_ok, Bool.not_true, Bool.not_false, decide_true, decide_false, Nat.reduceSub, f__law_is_letter, d__law_is_letter, sd "names" "integers", sd "names" "pair", sd "names" "either", sd "names" "maybe", sd "integers" "names", sd "integers" "pair", sd "integers" "either", sd "integers" "maybe", sd "pair" "names", sd "pair" "integers", sd "pair" "either", sd "pair" "maybe", sd "either" "names", sd "either" "integers", sd "either" "pair", sd "either" "maybe", sd "maybe" "names", sd "maybe" "integers", sd "maybe" "pair", sd "maybe" "either", isiT, issS, dl1, d11]⟩
  · obtain ⟨c1, e1⟩ := ask_int h1
    refine ⟨c1, fun n' S hn => ?_⟩
    obtain ⟨m, rfl⟩ := get1 hk hn
    obtain ⟨x1, x2⟩ := e1 m S 1 (by omega)
    exact ⟨by simp only [mk1_ev, mk2_ev, mk3_ev, mk4_ev, sq_ev, set_ev, call_ev, args_ev, argK_ok, args_nil, argK2_ok, callK_ok, List.replicate, c_ev, setK_ok, set0_ev, set1_ev, set2_ev, set3_ev, set4_ev, set5_ev, set6_ev, set7_ev, set8_ev, set9_ev, sqK_nx, sqK_rt, if_ev, tb_ev, t_ev, tK_ok, tru_bl, nt_ev, ntK_ok, and_ev, or_ev, op_ev, opK_ok, opK2_ok, tbK_ok, ifK_t, ifK_f, nx_ev, rt_ev, rtK_ok, mkK_rt, mkK_nx, var0_ev, var1_ev, var2_ev, var3_ev, var4_ev, var5_ev, var6_ev, var7_ev, var8_ev, var9_ev, ixt0, ixt1, ixt2, eq_ss, ne_ss, eq_ii, ne_ii, lt_ii, le_ii, gt_ii, ge_ii, len_tup, av_ev, avK_ok, avK2_t, avK2_f, ov_ev, ovK_ok, ovK2_t, ovK2_f, aK_t, aK_f, oK_t, oK_f, tup_ev, ie_ev, ieK_t, ieK_f, un_ev, unK_ok, ex_ev, exK_ok, Bool.not_true, Bool.not_false, decide_true, decide_false, Nat.reduceSub, f_is_letter, d_is_letter, sd "names" "integers", sd "names" "pair", sd "names" "either", sd "names" "maybe", sd "integers" "names", sd "integers" "pair", sd "integers" "either", sd "integers" "maybe", sd "pair" "names", sd "pair" "integers", sd "pair" "either", sd "pair" "maybe", sd "either" "names", sd "either" "integers", sd "either" "pair", sd "either" "maybe", sd "maybe" "names", sd "maybe" "integers", sd "maybe" "pair", sd "maybe" "either", isiT, tupK_ok (b1 _), hno oth4, nn2, formv (k := 2) oth4 (by decide) oks (by decide), d22, Bool.and_true, x1], by simp only [mk1_ev, mk2_ev, mk3_ev, mk4_ev, sq_ev, set_ev, call_ev, args_ev, argK_ok, args_nil, argK2_ok, callK_ok, List.replicate, c_ev, setK_ok, set0_ev, set1_ev, set2_ev, set3_ev, set4_ev, set5_ev, set6_ev, set7_ev, set8_ev, set9_ev, sqK_nx, sqK_rt, if_ev, tb_ev, t_ev, tK_ok, tru_bl, nt_ev, ntK_ok, and_ev, or_ev, op_ev, opK_ok, opK2_ok, tbK_ok, ifK_t, ifK_f, nx_ev, rt_ev, rtK_ok, mkK_rt, mkK_nx, var0_ev, var1_ev, var2_ev, var3_ev, var4_ev, var5_ev, var6_ev, var7_ev, var8_ev, var9_ev, ixt0, ixt1, ixt2, eq_ss, ne_ss, eq_ii, ne_ii, lt_ii, le_ii, gt_ii, ge_ii, len_tup, av_ev, avK_ok, avK2_t, avK2_f, ov_ev, ovK_ok, ovK2_t, ovK2_f, aK_t, aK_f, oK_t, oK_f, tup_ev, ie_ev, ieK_t, ieK_f, un_ev, unK_ok, ex_ev, exK_ok, Bool.not_true, Bool.not_false, decide_true, decide_false, Nat.reduceSub, f__law_is_letter, d__law_is_letter, sd "names" "integers", sd "names" "pair", sd "names" "either", sd "names" "maybe", sd "integers" "names", sd "integers" "pair", sd "integers" "either", sd "integers" "maybe", sd "pair" "names", sd "pair" "integers", sd "pair" "either", sd "pair" "maybe", sd "either" "names", sd "either" "integers", sd "either" "pair", sd "either" "maybe", sd "maybe" "names", sd "maybe" "integers", sd "maybe" "pair", sd "maybe" "either", isiT, issS, dl2, sd "some" "none", d22, x2]⟩
  · obtain ⟨c1, e1⟩ := ask_q h1
    refine ⟨c1, fun n' S hn => ?_⟩
    obtain ⟨m, rfl⟩ := get1 hk hn
    obtain ⟨x1, x2⟩ := e1 m S (by omega)
    exact ⟨by simp only [mk1_ev, mk2_ev, mk3_ev, mk4_ev, sq_ev, set_ev, call_ev, args_ev, argK_ok, args_nil, argK2_ok, callK_ok, List.replicate, c_ev, setK_ok, set0_ev, set1_ev, set2_ev, set3_ev, set4_ev, set5_ev, set6_ev, set7_ev, set8_ev, set9_ev, sqK_nx, sqK_rt, if_ev, tb_ev, t_ev, tK_ok, tru_bl, nt_ev, ntK_ok, and_ev, or_ev, op_ev, opK_ok, opK2_ok, tbK_ok, ifK_t, ifK_f, nx_ev, rt_ev, rtK_ok, mkK_rt, mkK_nx, var0_ev, var1_ev, var2_ev, var3_ev, var4_ev, var5_ev, var6_ev, var7_ev, var8_ev, var9_ev, ixt0, ixt1, ixt2, eq_ss, ne_ss, eq_ii, ne_ii, lt_ii, le_ii, gt_ii, ge_ii, len_tup, av_ev, avK_ok, avK2_t, avK2_f, ov_ev, ovK_ok, ovK2_t, ovK2_f, aK_t, aK_f, oK_t, oK_f, tup_ev, ie_ev, ieK_t, ieK_f, un_ev, unK_ok, ex_ev, exK_ok, Bool.not_true, Bool.not_false, decide_true, decide_false, Nat.reduceSub, f_is_letter, d_is_letter, sd "names" "integers", sd "names" "pair", sd "names" "either", sd "names" "maybe", sd "integers" "names", sd "integers" "pair", sd "integers" "either", sd "integers" "maybe", sd "pair" "names", sd "pair" "integers", sd "pair" "either", sd "pair" "maybe", sd "either" "names", sd "either" "integers", sd "either" "pair", sd "either" "maybe", sd "maybe" "names", sd "maybe" "integers", sd "maybe" "pair", sd "maybe" "either", isiT, tupK_ok (b1 _), hno oth5, nn2, formv (k := 2) oth5 (by decide) oks (by decide), d22, Bool.and_true, x1], by simp only [mk1_ev, mk2_ev, mk3_ev, mk4_ev, sq_ev, set_ev, call_ev, args_ev, argK_ok, args_nil, argK2_ok, callK_ok, List.replicate, c_ev, setK_ok, set0_ev, set1_ev, set2_ev, set3_ev, set4_ev, set5_ev, set6_ev, set7_ev, set8_ev, set9_ev, sqK_nx, sqK_rt, if_ev, tb_ev, t_ev, tK_ok, tru_bl, nt_ev, ntK_ok, and_ev, or_ev, op_ev, opK_ok, opK2_ok, tbK_ok, ifK_t, ifK_f, nx_ev, rt_ev, rtK_ok, mkK_rt, mkK_nx, var0_ev, var1_ev, var2_ev, var3_ev, var4_ev, var5_ev, var6_ev, var7_ev, var8_ev, var9_ev, ixt0, ixt1, ixt2, eq_ss, ne_ss, eq_ii, ne_ii, lt_ii, le_ii, gt_ii, ge_ii, len_tup, av_ev, avK_ok, avK2_t, avK2_f, ov_ev, ovK_ok, ovK2_t, ovK2_f, aK_t, aK_f, oK_t, oK_f, tup_ev, ie_ev, ieK_t, ieK_f, un_ev, unK_ok, ex_ev, exK_ok, Bool.not_true, Bool.not_false, decide_true, decide_false, Nat.reduceSub, f__law_is_letter, d__law_is_letter, sd "names" "integers", sd "names" "pair", sd "names" "either", sd "names" "maybe", sd "integers" "names", sd "integers" "pair", sd "integers" "either", sd "integers" "maybe", sd "pair" "names", sd "pair" "integers", sd "pair" "either", sd "pair" "maybe", sd "either" "names", sd "either" "integers", sd "either" "pair", sd "either" "maybe", sd "maybe" "names", sd "maybe" "integers", sd "maybe" "pair", sd "maybe" "either", isiT, issS, dl2, sd "some" "none", d22, x2]⟩
  · refine ⟨false, fun n' S hn => ?_⟩
    obtain ⟨m, rfl⟩ := get1 hk hn
    exact ⟨by simp only [mk1_ev, mk2_ev, mk3_ev, mk4_ev, sq_ev, set_ev, call_ev, args_ev, argK_ok, args_nil, argK2_ok, callK_ok, List.replicate, c_ev, setK_ok, set0_ev, set1_ev, set2_ev, set3_ev, set4_ev, set5_ev, set6_ev, set7_ev, set8_ev, set9_ev, sqK_nx, sqK_rt, if_ev, tb_ev, t_ev, tK_ok, tru_bl, nt_ev, ntK_ok, and_ev, or_ev, op_ev, opK_ok, opK2_ok, tbK_ok, ifK_t, ifK_f, nx_ev, rt_ev, rtK_ok, mkK_rt, mkK_nx, var0_ev, var1_ev, var2_ev, var3_ev, var4_ev, var5_ev, var6_ev, var7_ev, var8_ev, var9_ev, ixt0, ixt1, ixt2, eq_ss, ne_ss, eq_ii, ne_ii, lt_ii, le_ii, gt_ii, ge_ii, len_tup, av_ev, avK_ok, avK2_t, avK2_f, ov_ev, ovK_ok, ovK2_t, ovK2_f, aK_t, aK_f, oK_t, oK_f, tup_ev, ie_ev, ieK_t, ieK_f, un_ev, unK_ok, ex_ev, exK_ok, Bool.not_true, Bool.not_false, decide_true, decide_false, Nat.reduceSub, f_is_letter, d_is_letter, sd "names" "integers", sd "names" "pair", sd "names" "either", sd "names" "maybe", sd "integers" "names", sd "integers" "pair", sd "integers" "either", sd "integers" "maybe", sd "pair" "names", sd "pair" "integers", sd "pair" "either", sd "pair" "maybe", sd "either" "names", sd "either" "integers", sd "either" "pair", sd "either" "maybe", sd "maybe" "names", sd "maybe" "integers", sd "maybe" "pair", sd "maybe" "either", isiT, tupK_ok (b1 _), hno oth6, nn3, formv (k := 2) oth6 (by decide) oks (by decide), d32, Bool.false_and], by simp only [mk1_ev, mk2_ev, mk3_ev, mk4_ev, sq_ev, set_ev, call_ev, args_ev, argK_ok, args_nil, argK2_ok, callK_ok, List.replicate, c_ev, setK_ok, set0_ev, set1_ev, set2_ev, set3_ev, set4_ev, set5_ev, set6_ev, set7_ev, set8_ev, set9_ev, sqK_nx, sqK_rt, if_ev, tb_ev, t_ev, tK_ok, tru_bl, nt_ev, ntK_ok, and_ev, or_ev, op_ev, opK_ok, opK2_ok, tbK_ok, ifK_t, ifK_f, nx_ev, rt_ev, rtK_ok, mkK_rt, mkK_nx, var0_ev, var1_ev, var2_ev, var3_ev, var4_ev, var5_ev, var6_ev, var7_ev, var8_ev, var9_ev, ixt0, ixt1, ixt2, eq_ss, ne_ss, eq_ii, ne_ii, lt_ii, le_ii, gt_ii, ge_ii, len_tup, av_ev, avK_ok, avK2_t, avK2_f, ov_ev, ovK_ok, ovK2_t, ovK2_f, aK_t, aK_f, oK_t, oK_f, tup_ev, ie_ev, ieK_t, ieK_f, un_ev, unK_ok, ex_ev, exK_ok, Bool.not_true, Bool.not_false, decide_true, decide_false, Nat.reduceSub, f__law_is_letter, d__law_is_letter, sd "names" "integers", sd "names" "pair", sd "names" "either", sd "names" "maybe", sd "integers" "names", sd "integers" "pair", sd "integers" "either", sd "integers" "maybe", sd "pair" "names", sd "pair" "integers", sd "pair" "either", sd "pair" "maybe", sd "either" "names", sd "either" "integers", sd "either" "pair", sd "either" "maybe", sd "maybe" "names", sd "maybe" "integers", sd "maybe" "pair", sd "maybe" "either", isiT, issS, dl3, sd "case" "none", sd "case" "some"]⟩
  · refine ⟨false, fun n' S hn => ?_⟩
    obtain ⟨m, rfl⟩ := get1 hk hn
    exact ⟨by simp only [mk1_ev, mk2_ev, mk3_ev, mk4_ev, sq_ev, set_ev, call_ev, args_ev, argK_ok, args_nil, argK2_ok, callK_ok, List.replicate, c_ev, setK_ok, set0_ev, set1_ev, set2_ev, set3_ev, set4_ev, set5_ev, set6_ev, set7_ev, set8_ev, set9_ev, sqK_nx, sqK_rt, if_ev, tb_ev, t_ev, tK_ok, tru_bl, nt_ev, ntK_ok, and_ev, or_ev, op_ev, opK_ok, opK2_ok, tbK_ok, ifK_t, ifK_f, nx_ev, rt_ev, rtK_ok, mkK_rt, mkK_nx, var0_ev, var1_ev, var2_ev, var3_ev, var4_ev, var5_ev, var6_ev, var7_ev, var8_ev, var9_ev, ixt0, ixt1, ixt2, eq_ss, ne_ss, eq_ii, ne_ii, lt_ii, le_ii, gt_ii, ge_ii, len_tup, av_ev, avK_ok, avK2_t, avK2_f, ov_ev, ovK_ok, ovK2_t, ovK2_f, aK_t, aK_f, oK_t, oK_f, tup_ev, ie_ev, ieK_t, ieK_f, un_ev, unK_ok, ex_ev, exK_ok, Bool.not_true, Bool.not_false, decide_true, decide_false, Nat.reduceSub, f_is_letter, d_is_letter, sd "names" "integers", sd "names" "pair", sd "names" "either", sd "names" "maybe", sd "integers" "names", sd "integers" "pair", sd "integers" "either", sd "integers" "maybe", sd "pair" "names", sd "pair" "integers", sd "pair" "either", sd "pair" "maybe", sd "either" "names", sd "either" "integers", sd "either" "pair", sd "either" "maybe", sd "maybe" "names", sd "maybe" "integers", sd "maybe" "pair", sd "maybe" "either", isiT, tupK_ok (b1 _), hno oth7, nn3, formv (k := 2) oth7 (by decide) oks (by decide), d32, Bool.false_and], by simp only [mk1_ev, mk2_ev, mk3_ev, mk4_ev, sq_ev, set_ev, call_ev, args_ev, argK_ok, args_nil, argK2_ok, callK_ok, List.replicate, c_ev, setK_ok, set0_ev, set1_ev, set2_ev, set3_ev, set4_ev, set5_ev, set6_ev, set7_ev, set8_ev, set9_ev, sqK_nx, sqK_rt, if_ev, tb_ev, t_ev, tK_ok, tru_bl, nt_ev, ntK_ok, and_ev, or_ev, op_ev, opK_ok, opK2_ok, tbK_ok, ifK_t, ifK_f, nx_ev, rt_ev, rtK_ok, mkK_rt, mkK_nx, var0_ev, var1_ev, var2_ev, var3_ev, var4_ev, var5_ev, var6_ev, var7_ev, var8_ev, var9_ev, ixt0, ixt1, ixt2, eq_ss, ne_ss, eq_ii, ne_ii, lt_ii, le_ii, gt_ii, ge_ii, len_tup, av_ev, avK_ok, avK2_t, avK2_f, ov_ev, ovK_ok, ovK2_t, ovK2_f, aK_t, aK_f, oK_t, oK_f, tup_ev, ie_ev, ieK_t, ieK_f, un_ev, unK_ok, ex_ev, exK_ok, Bool.not_true, Bool.not_false, decide_true, decide_false, Nat.reduceSub, f__law_is_letter, d__law_is_letter, sd "names" "integers", sd "names" "pair", sd "names" "either", sd "names" "maybe", sd "integers" "names", sd "integers" "pair", sd "integers" "either", sd "integers" "maybe", sd "pair" "names", sd "pair" "integers", sd "pair" "either", sd "pair" "maybe", sd "either" "names", sd "either" "integers", sd "either" "pair", sd "either" "maybe", sd "maybe" "names", sd "maybe" "integers", sd "maybe" "pair", sd "maybe" "either", isiT, issS, dl3, sd "pair" "none", sd "pair" "some"]⟩
end G
set_option maxHeartbeats 4000000
namespace G
open PySem L2 Fs
/-! ### a list that is sifted -/
theorem lc_filter {vs : List Nat} {j : Nat} {tt : DT} {te : DE} {ls : Lo} {S1 : Store} {ws : List W} {st : Store → Prop} {p : W → Bool} (hst : ∀ acc, st (S1 ++ [.lst acc])) (hl : ws.length < 100000)
    (ht : ∀ w S, w ∈ ws → tt ((wipeW ls vs).set j (some w)) S = .ok (p w) S) (he : ∀ w S, w ∈ ws → te ((wipeW ls vs).set j (some w)) S = .ok w S) :
    lcK (dgName j) vs tt te ls (.ok ⟨ws, st⟩ S1) = .ok (.loc S1.length) (S1 ++ [.lst (ws.filter p)]) := by
  have key : ∀ (us : List W) (acc : List W), (∀ w ∈ us, w ∈ ws) → acc.length + us.length < 100000 → dLcLoop st (dgName j) tt te S1.length (wipeW ls vs) us (S1 ++ [.lst acc]) = .ok (.loc S1.length) (S1 ++ [.lst (acc ++ us.filter p)]) := by
    intro us
    induction us with
    | nil =>
      intro acc _ _
      rw [lcLoop_nil (hst _), List.filter_nil, List.append_nil]
    | cons u us ih =>
      intro acc hm hz
      have hu := hm u List.mem_cons_self
      have hm' : ∀ w ∈ us, w ∈ ws := fun w hw => hm w (List.mem_cons_of_mem _ hw)
      rw [List.length_cons] at hz
      cases e : p u with
      | true =>
        rw [lcLoop_cons (hst _) rfl (by rw [ht u _ hu, e]) (he u _ hu) (get_mid (cs := [])) (Nat.lt_of_lt_of_le (m := 100000) (by omega) (by decide)), set_mid, ih _ hm' (by rw [List.length_append, List.length_singleton]; omega), List.filter_cons_of_pos e, List.append_assoc]
        rfl
      | false =>
        rw [lcLoop_skip (hst _) rfl (by rw [ht u _ hu, e]), ih _ hm' (by omega), List.filter_cons_of_neg (by rw [e]; exact Bool.false_ne_true)]
  have := key ws [] (fun _ h => h) (by simpa using hl)
  rw [List.nil_append] at this
  exact this
theorem nodup_len {l : List Str} : ∀ {ns : List Str}, l.Nodup → (∀ x ∈ l, x ∈ ns) → l.length ≤ ns.length := by
  induction l with
  | nil => intro ns _ _; exact Nat.zero_le _
  | cons x l ih =>
    intro ns hd hm
    obtain ⟨h1, h2⟩ := List.nodup_cons.mp hd
    have hx := hm x List.mem_cons_self
    have := ih (ns := ns.erase x) h2 (fun y hy => (List.mem_erase_of_ne (fun e => h1 (by rw [← e]; exact hy))).mpr (hm y (List.mem_cons_of_mem _ hy)))
    rw [List.length_erase_of_mem hx] at this
    have : 1 ≤ ns.length := List.length_pos_of_mem hx
    rw [List.length_cons]
    omega
/-! ### a strange name -/
def sgs : List Nat := [112, 113, 114, 115, 116]
def sgS (c : Nat) : Str := ⟨#[c]⟩
theorem sgs_ok : ∀ c ∈ sgs, SOK 1 (sgS c) := by
  intro c hc
  simp only [sgs, List.mem_cons, List.mem_nil_iff, or_false] at hc
  rcases hc with rfl | rfl | rfl | rfl | rfl <;> exact ⟨by decide +kernel, by decide +kernel⟩
theorem signs_p : signsW (Str.ofString "pqrst") = sgs.map fun c => W.str (sgS c) := by
  unfold signsW
  rw [show (Str.ofString "pqrst").cps.toList = sgs by decide +kernel]
  rfl
theorem app_inj {x : Str} {c d : Nat} (h : x ++ sgS c = x ++ sgS d) : c = d := by
  have e : (x ++ sgS c).cps.toList = (x ++ sgS d).cps.toList := by rw [h]
  have e2 : ∀ c, (x ++ sgS c).cps.toList = x.cps.toList ++ [c] := fun c => by
    show (x.cps ++ #[c]).toList = _
    simp
  rw [e2, e2] at e
  simpa using e
theorem strange_ok {ns : List Str} (h1 : ns ≠ []) (h2 : ns.length ≤ 4) (h3 : ∀ x ∈ ns, SOK 6 x) (S : Store) : ∃ x cs, f__law_strange [.tup (ns.map .str)] S = .ok (.str x) (S ++ cs) ∧ x ∉ ns ∧ SOK 6 x := by
  obtain ⟨n0, r, rfl⟩ : ∃ n0 r, ns = n0 :: r := by
    cases ns with
    | nil => exact absurd rfl h1
    | cons a r => exact ⟨a, r, rfl⟩
  have hn0 := h3 n0 List.mem_cons_self
  obtain ⟨stem, es, hs⟩ : ∃ stem, (∀ S, gSlice (.str n0) none (some 5) S = .ok (.str stem) S) ∧ SOK 5 stem := by
    refine ⟨cutS n0 none (some 5), fun S => ?_, ?_, ?_⟩
    · show (if n0.length ≤ sizeLine then Res.ok (W.str (cutS n0 none (some 5))) S else .bad) = _
      exact if_pos (Nat.le_trans hn0.2 (by decide))
    · have h0 := hn0.1
      unfold PyData.strOk at h0 ⊢
      rw [← Array.all_toList, List.all_eq_true] at h0 ⊢
      intro c hc
      exact h0 c (List.mem_of_mem_drop (List.mem_of_mem_take (by simpa [cutS] using hc)))
    · show (((n0.cps.toList.drop (HT.sIx n0.length 0 none)).take (HT.sIx n0.length n0.length (some 5) - HT.sIx n0.length 0 none)).toArray).size ≤ 5
      rw [List.size_toArray, List.length_take, show HT.sIx n0.length n0.length (some 5) = min 5 n0.length from rfl]
      omega
  have hS6 : ∀ c ∈ sgs, SOK 6 (stem ++ sgS c) := fun c hc => hs.add (sgs_ok c hc)
  let f : W → W := fun w => match w with
    | .str z => .str (stem ++ z)
    | w => w
  have inner := fun (S1 : Store) (ls : Lo) (e0 : gIx (.tup ((n0 :: r).map .str)) (.int 0) S1 = .ok (.str n0) S1) => lc_map (S1 := S1) (ls := [some (.tup ((n0 :: r).map .str)), none, none]) (vs := [2]) (j := 2) (te := dOp gAdd (dSl (dOp gIx (dVar 0) (dC (.int 0))) dNoP (dPart (dC (.int 5)))) (dVar 2))
    (st := fun _ => True) (ws := signsW (Str.ofString "pqrst")) (R := fun w y => y = f w) (fun _ _ => trivial) (by rw [signs_p]; decide) (fun w S hw => by
      rw [signs_p] at hw
      obtain ⟨c, hc, rfl⟩ := List.mem_map.mp hw
      have ha : gAdd (.str stem) (.str (sgS c)) S = .ok (.str (stem ++ sgS c)) S := add_ss (by have := hs.2; have := (sgs_ok c hc).2; omega)
      refine ⟨_, [], ?_, rfl⟩
      rw [List.append_nil]
      show dOp gAdd (dSl (dOp gIx (dVar 0) (dC (.int 0))) dNoP (dPart (dC (.int 5)))) (dVar 2) [some (.tup ((n0 :: r).map .str)), none, some (.str (sgS c))] S = _
      simp only [mk1_ev, mk2_ev, mk3_ev, mk4_ev, sq_ev, set_ev, call_ev, args_ev, argK_ok, args_nil, argK2_ok, callK_ok, List.replicate, c_ev, setK_ok, set0_ev, set1_ev, set2_ev, set3_ev, set4_ev, set5_ev, set6_ev, set7_ev, set8_ev, set9_ev, sqK_nx, sqK_rt, if_ev, tb_ev, t_ev, tK_ok, tru_bl, nt_ev, ntK_ok, and_ev, or_ev, op_ev, opK_ok, opK2_ok, tbK_ok, ifK_t, ifK_f, nx_ev, rt_ev, rtK_ok, mkK_rt, mkK_nx, var0_ev, var1_ev, var2_ev, var3_ev, var4_ev, var5_ev, var6_ev, var7_ev, var8_ev, var9_ev, ixt0, ixt1, ixt2, eq_ss, ne_ss, eq_ii, ne_ii, lt_ii, le_ii, gt_ii, ge_ii, len_tup, av_ev, avK_ok, avK2_t, avK2_f, ov_ev, ovK_ok, ovK2_t, ovK2_f, aK_t, aK_f, oK_t, oK_f, tup_ev, ie_ev, ieK_t, ieK_f, un_ev, unK_ok, ex_ev, exK_ok, Bool.not_true, Bool.not_false, decide_true, decide_false, Nat.reduceSub, List.map_cons, sl_ev, slK_ok, nop_ev, slK2_ok, part_ev, partK_ok, slK3_ok, es, ha]
      rfl)
  obtain ⟨ys, cs, e, hl, hr⟩ := inner S [] (by rw [List.map_cons]; exact ixt0)
  have hys : ys = sgs.map fun c => W.str (stem ++ sgS c) := by
    apply List.ext_getElem?
    intro i
    by_cases hi : i < (signsW (Str.ofString "pqrst")).length
    · have h1 := List.getElem?_eq_getElem hi
      have h2 := List.getElem?_eq_getElem (show i < ys.length by omega)
      have h3 := hr i _ _ h1 h2
      rw [h2, h3]
      have : (signsW (Str.ofString "pqrst"))[i]? = (sgs.map fun c => W.str (sgS c))[i]? := by rw [signs_p]
      rw [h1, List.getElem?_map] at this
      rw [List.getElem?_map]
      cases q : sgs[i]? with
      | none => rw [q] at this; cases this
      | some c =>
        rw [q] at this
        injection this with this
        rw [this]
        rfl
    · rw [List.getElem?_eq_none (by omega), List.getElem?_eq_none (by rw [signs_p] at hi; simpa using hi)]
  have flt := lc_filter (S1 := S ++ Cell.lst ys :: cs) (ls := [some (.tup ((n0 :: r).map .str)), none, none]) (vs := [1]) (j := 1) (tt := dTB (dOp gNotIn (dVar 1) (dVar 0))) (te := dVar 1) (ws := ys) (st := stayOf (.loc S.length) ys) (p := fun w => match w with
      | .str x => !decide (x ∈ n0 :: r)
      | _ => false) (fun acc => by
        show ((S ++ Cell.lst ys :: cs) ++ [Cell.lst acc])[S.length]? = some (Cell.lst ys)
        rw [List.append_assoc]
        exact get_mid) (by rw [hys]; simp [sgs]) (fun w S2 hw => by
          rw [hys] at hw
          obtain ⟨c, hc, rfl⟩ := List.mem_map.mp hw
          have hq : gNotIn (.str (stem ++ sgS c)) (.tup ((n0 :: r).map .str)) S2 = .ok (.bl (!decide ((stem ++ sgS c) ∈ n0 :: r))) S2 := by
            show (if flatW (.str (stem ++ sgS c)) = true ∧ allFlat ((n0 :: r).map .str) = true then Res.ok (W.bl (true != inFl (.str (stem ++ sgS c)) ((n0 :: r).map .str))) S2 else _) = _
            rw [if_pos ⟨rfl, allFlat_strs _⟩, true_bne, in_strs]
          show dTB (dOp gNotIn (dVar 1) (dVar 0)) [some (.tup ((n0 :: r).map .str)), some (.str (stem ++ sgS c)), none] S2 = _
          simp only [mk1_ev, mk2_ev, mk3_ev, mk4_ev, sq_ev, set_ev, call_ev, args_ev, argK_ok, args_nil, argK2_ok, callK_ok, List.replicate, c_ev, setK_ok, set0_ev, set1_ev, set2_ev, set3_ev, set4_ev, set5_ev, set6_ev, set7_ev, set8_ev, set9_ev, sqK_nx, sqK_rt, if_ev, tb_ev, t_ev, tK_ok, tru_bl, nt_ev, ntK_ok, and_ev, or_ev, op_ev, opK_ok, opK2_ok, tbK_ok, ifK_t, ifK_f, nx_ev, rt_ev, rtK_ok, mkK_rt, mkK_nx, var0_ev, var1_ev, var2_ev, var3_ev, var4_ev, var5_ev, var6_ev, var7_ev, var8_ev, var9_ev, ixt0, ixt1, ixt2, eq_ss, ne_ss, eq_ii, ne_ii, lt_ii, le_ii, gt_ii, ge_ii, len_tup, av_ev, avK_ok, avK2_t, avK2_f, ov_ev, ovK_ok, ovK2_t, ovK2_f, aK_t, aK_f, oK_t, oK_f, tup_ev, ie_ev, ieK_t, ieK_f, un_ev, unK_ok, ex_ev, exK_ok, Bool.not_true, Bool.not_false, decide_true, decide_false, Nat.reduceSub, hq]) (fun w S2 _ => rfl)
  obtain ⟨c0, hc0, hc1⟩ : ∃ c ∈ sgs, (stem ++ sgS c) ∉ n0 :: r := by
    by_cases q : ∃ c ∈ sgs, (stem ++ sgS c) ∉ n0 :: r
    · exact q
    · exfalso
      have all : ∀ x ∈ sgs.map (fun c => stem ++ sgS c), x ∈ n0 :: r := fun x hx => by
        obtain ⟨c, hc, rfl⟩ := List.mem_map.mp hx
        exact Decidable.byContradiction fun z => q ⟨c, hc, z⟩
      have nd : (sgs.map fun c => stem ++ sgS c).Nodup := by
        unfold List.Nodup
        rw [List.pairwise_map]
        exact List.Pairwise.imp (fun h e => h (app_inj e)) (show sgs.Nodup by decide)
      have := nodup_len nd all
      rw [List.length_map] at this
      have : sgs.length = 5 := rfl
      omega
  obtain ⟨w0, fr, hfr⟩ : ∃ w0 fr, ys.filter (fun w => match w with
      | .str x => !decide (x ∈ n0 :: r)
      | _ => false) = w0 :: fr := by
    cases q : ys.filter (fun w => match w with
      | .str x => !decide (x ∈ n0 :: r)
      | _ => false) with
    | cons a b => exact ⟨a, b, rfl⟩
    | nil =>
      exfalso
      have hm : W.str (stem ++ sgS c0) ∈ ys := by rw [hys]; exact List.mem_map.mpr ⟨c0, hc0, rfl⟩
      have := List.filter_eq_nil_iff.mp q _ hm
      simp [hc1] at this
  have hw0 : w0 ∈ ys.filter (fun w => match w with
      | .str x => !decide (x ∈ n0 :: r)
      | _ => false) := by rw [hfr]; exact List.mem_cons_self
  obtain ⟨hm, hp⟩ := List.mem_filter.mp hw0
  rw [hys] at hm
  obtain ⟨c, hc, rfl⟩ := List.mem_map.mp hm
  refine ⟨stem ++ sgS c, (Cell.lst ys :: cs) ++ [.lst (W.str (stem ++ sgS c) :: fr)], ?_, fun z => ?_, hS6 c hc⟩
  · rw [hfr] at flt
    have sq : seqW (S ++ Cell.lst ys :: cs) (.loc S.length) = some ys := by
      rw [show seqW (S ++ Cell.lst ys :: cs) (.loc S.length) = lstW (S ++ Cell.lst ys :: cs) (.loc S.length) from rfl]
      exact lst_loc get_mid
    have ix : gIx (.loc (S ++ Cell.lst ys :: cs).length) (.int 0) ((S ++ Cell.lst ys :: cs) ++ [.lst (W.str (stem ++ sgS c) :: fr)]) = .ok (.str (stem ++ sgS c)) ((S ++ Cell.lst ys :: cs) ++ [.lst (W.str (stem ++ sgS c) :: fr)]) := ixl (get_mid (cs := [])) at0_ev
    rw [← List.append_assoc]
    simp only [mk1_ev, mk2_ev, mk3_ev, mk4_ev, sq_ev, set_ev, call_ev, args_ev, argK_ok, args_nil, argK2_ok, callK_ok, List.replicate, c_ev, setK_ok, set0_ev, set1_ev, set2_ev, set3_ev, set4_ev, set5_ev, set6_ev, set7_ev, set8_ev, set9_ev, sqK_nx, sqK_rt, if_ev, tb_ev, t_ev, tK_ok, tru_bl, nt_ev, ntK_ok, and_ev, or_ev, op_ev, opK_ok, opK2_ok, tbK_ok, ifK_t, ifK_f, nx_ev, rt_ev, rtK_ok, mkK_rt, mkK_nx, var0_ev, var1_ev, var2_ev, var3_ev, var4_ev, var5_ev, var6_ev, var7_ev, var8_ev, var9_ev, ixt0, ixt1, ixt2, eq_ss, ne_ss, eq_ii, ne_ii, lt_ii, le_ii, gt_ii, ge_ii, len_tup, av_ev, avK_ok, avK2_t, avK2_f, ov_ev, ovK_ok, ovK2_t, ovK2_f, aK_t, aK_f, oK_t, oK_f, tup_ev, ie_ev, ieK_t, ieK_f, un_ev, unK_ok, ex_ev, exK_ok, Bool.not_true, Bool.not_false, decide_true, decide_false, Nat.reduceSub, f__law_strange, d__law_strange, lc_ev, si_ev, st_ev, stK_ok, e, siK_ok, sq, siK2_ok, flt, ix]
  · have hp' : (!decide ((stem ++ sgS c) ∈ n0 :: r)) = true := hp
    rw [decide_eq_true z] at hp'
    cases hp'
/-! ### a letter of no kind -/
noncomputable def d_fblk (self : DF) : DS := (dSeq (dIf (dTB (dOp gEq (dOp gIx (dVar 1) (dC (.int 0))) (dC (.str (PySem.Str.ofString "pair"))))) (dSeq (dSet 4 (dOp gAdd (dC (.int 1)) (dCall f__law_draw [(dVar 0), (dC (.int 2))])))
      (dRet (dOp gAdd (dOp gAdd (dSl (dVar 2) dNoP (dPart (dVar 4))) (dTup [(dCall self [(dVar 0), (dOp gIx (dVar 1) (dVar 4)), (dOp gIx (dVar 2) (dVar 4))])])) (dSl (dVar 2) (dPart (dOp gAdd (dVar 4) (dC (.int 1)))) dNoP)))) dNx)
    (dSeq (dIf (dAndT (dTB (dOp gEq (dOp gIx (dVar 1) (dC (.int 0))) (dC (.str (PySem.Str.ofString "either"))))) (dAndT (dTB (dOp gEq (dVar 3) (dC (.int 1)))) (dTB (dOp gLt (dCall gLen [(dOp gIx (dVar 1) (dC (.int 1)))]) (dC (.int 3)))))) (dRet (dTup [(dC (.str (PySem.Str.ofString "case"))), (dCall gLen [(dOp gIx (dVar 1) (dC (.int 1)))]), (dOp gIx (dVar 2) (dC (.int 2)))])) dNx)
    (dSeq (dIf (dTB (dOp gEq (dOp gIx (dVar 1) (dC (.int 0))) (dC (.str (PySem.Str.ofString "either"))))) (dRet (dTup [(dC (.str (PySem.Str.ofString "case"))), (dOp gIx (dVar 2) (dC (.int 1))), (dCall self [(dVar 0), (dOp gIx (dOp gIx (dVar 1) (dC (.int 1))) (dOp gIx (dVar 2) (dC (.int 1)))), (dOp gIx (dVar 2) (dC (.int 2)))])])) dNx)
    (dIf (dAndT (dTB (dOp gEq (dOp gIx (dVar 1) (dC (.int 0))) (dC (.str (PySem.Str.ofString "maybe"))))) (dTB (dOp gEq (dOp gIx (dVar 2) (dC (.int 0))) (dC (.str (PySem.Str.ofString "some")))))) (dRet (dTup [(dC (.str (PySem.Str.ofString "some"))), (dCall self [(dVar 0), (dOp gIx (dVar 1) (dC (.int 1))), (dOp gIx (dVar 2) (dC (.int 1)))])])) dNx))))
noncomputable def d_fcnd : DT := (dAndT (dTB (dOp gGt (dVar 3) (dC (.int 0)))) (dTB (dOp gLt (dCall (f__law_kinds 4) [(dVar 1)]) (dC (.int 5)))))
noncomputable def d_ftail : DS := (dSeq (dIf (dTB (dOp gEq (dOp gIx (dVar 1) (dC (.int 0))) (dC (.str (PySem.Str.ofString "names"))))) (dRet (dOp gIx (dLst [(dCall f__law_strange [(dOp gIx (dVar 1) (dC (.int 1)))]), (dC (.int 0)), (dC (.int 1)), (dCall f__law_integer [(dVar 0), (dC (.int 20))])]) (dCall f__law_draw [(dVar 0), (dC (.int 4))]))) dNx)
  (dSeq (dIf (dTB (dOp gEq (dOp gIx (dVar 1) (dC (.int 0))) (dC (.str (PySem.Str.ofString "integers"))))) (dRet (dOp gIx (dLst [(dC (.str (PySem.Str.ofString "0"))), (dC (.str (PySem.Str.ofString "q"))), (dC (.str (PySem.Str.ofString "some")))]) (dCall f__law_draw [(dVar 0), (dC (.int 3))]))) dNx)
  (dSeq (dSet 5 (dLst [(dC (.int 0)), (dC (.str (PySem.Str.ofString "q"))), (dTup [(dC (.str (PySem.Str.ofString "none")))]), (dTup [(dC (.str (PySem.Str.ofString "some"))), (dC (.int 1))]), (dTup [(dC (.str (PySem.Str.ofString "some"))), (dC (.str (PySem.Str.ofString "q")))]), (dTup [(dC (.str (PySem.Str.ofString "case"))), (dC (.int 0)), (dC (.int 1))]), (dTup [(dC (.str (PySem.Str.ofString "pair"))), (dC (.int 0)), (dC (.str (PySem.Str.ofString "q")))])]))
  (dSeq (dSet 6 (dLc (dSeqI (dVar 5)) (dgName 7) [7] (dNotT (dT (dCall (f__law_is_letter 4) [(dVar 1), (dVar 7)]))) (dVar 7)))
  (dRet (dOp gIx (dVar 6) (dCall f__law_draw [(dVar 0), (dCall gLen [(dVar 6)])])))))))
theorem foreign_eq {self : DF} : d__law_foreign self = dSeq (dSet 3 (dCall f__law_draw [(dVar 0), (dC (.int 4))])) (dSeq (dIf d_fcnd (d_fblk self) dNx) d_ftail) := rfl
end G
set_option maxHeartbeats 4000000
namespace G
open PySem L2 Fs
/-! ### a letter of no kind, drawn -/
def FoQ (t s : Nat) (S : Store) (n : Nat) (k w : W) (S' : Store) : Prop := Tp S' t s ∧ Fr t S S' ∧ OkW (n + 1) w ∧ ∀ n' S, n ≤ n' → f_is_letter n' [k, w] S = .ok (.bl false) S
open Classical in
noncomputable def pNo (n : Nat) (k : W) : W → Bool := fun w => decide (∀ n' S, n ≤ n' → f__law_is_letter n' [k, w] S = .ok (.bl false) S)
theorem oth_ok {w : W} (h : w ∈ othW) : OkW 1 w := by
  rcases in7 h with rfl | rfl | rfl | rfl | rfl | rfl | rfl
  · exact .int 0
  · exact (okS "q").mono (Nat.zero_le _)
  · exact oth3
  · exact oth4
  · exact oth5
  · exact oth6
  · exact oth7
open Classical in
theorem pNo_t {n : Nat} {k w : W} {c : Bool} (h : ∀ n' S, n ≤ n' → f_is_letter n' [k, w] S = .ok (.bl c) S ∧ f__law_is_letter n' [k, w] S = .ok (.bl c) S) : pNo n k w = !c := by
  unfold pNo
  cases c with
  | false => exact decide_eq_true fun n' S hn => (h n' S hn).2
  | true =>
    refine decide_eq_false fun z => ?_
    have e1 := (h n [] (Nat.le_refl _)).2
    rw [z n [] (Nat.le_refl _)] at e1
    injection e1 with e1
    injection e1 with e1
    cases e1
theorem tail_oth {n t s : Nat} {h : String} {r : List W} {x s4 : Option W} {k1 : Option W} (hn : n ≤ 4) (d1 : decide (Str.ofString h = Str.ofString "names") = false) (d2 : decide (Str.ofString h = Str.ofString "integers") = false)
    (ho : ∀ w ∈ othW, ∃ c, ∀ n' S, n ≤ n' → f_is_letter n' [.tup (strW h :: r), w] S = .ok (.bl c) S ∧ f__law_is_letter n' [.tup (strW h :: r), w] S = .ok (.bl c) S) (h0 : ∀ n' S, n ≤ n' → f__law_is_letter n' [.tup (strW h :: r), .int 0] S = .ok (.bl false) S)
    {S : Store} (hT : Tp S t s) : ∃ w S', d_ftail [some (.loc t), some (.tup (strW h :: r)), x, k1, s4, none, none, none] S = .rt w S' ∧ FoQ t s S n (.tup (strW h :: r)) w S' := by
  have hp : ∀ w S2, w ∈ othW → dNotT (dT (dCall (f__law_is_letter 4) [(dVar 1), (dVar 7)])) [some (.loc t), some (.tup (strW h :: r)), x, k1, s4, some (.loc S.length), none, some w] S2 = .ok (pNo n (.tup (strW h :: r)) w) S2 := fun w S2 hw => by
    obtain ⟨c, hc⟩ := ho w hw
    have e := (hc 4 S2 hn).2
    rw [pNo_t hc]
    simp only [mk1_ev, mk2_ev, mk3_ev, mk4_ev, sq_ev, set_ev, call_ev, args_ev, argK_ok, args_nil, argK2_ok, callK_ok, List.replicate, c_ev, setK_ok, set0_ev, set1_ev, set2_ev, set3_ev, set4_ev, set5_ev, set6_ev, set7_ev, set8_ev, set9_ev, sqK_nx, sqK_rt, if_ev, tb_ev, t_ev, tK_ok, tru_bl, nt_ev, ntK_ok, and_ev, or_ev, op_ev, opK_ok, opK2_ok, tbK_ok, ifK_t, ifK_f, nx_ev, rt_ev, rtK_ok, mkK_rt, mkK_nx, var0_ev, var1_ev, var2_ev, var3_ev, var4_ev, var5_ev, var6_ev, var7_ev, var8_ev, var9_ev, ixt0, ixt1, ixt2, eq_ss, ne_ss, eq_ii, ne_ii, lt_ii, le_ii, gt_ii, ge_ii, len_tup, av_ev, avK_ok, avK2_t, avK2_f, ov_ev, ovK_ok, ovK2_t, ovK2_f, aK_t, aK_f, oK_t, oK_f, tup_ev, ie_ev, ieK_t, ieK_f, un_ev, unK_ok, ex_ev, exK_ok, Bool.not_true, Bool.not_false, decide_true, decide_false, Nat.reduceSub, e]
  have flt := lc_filter (S1 := S ++ [Cell.lst othW]) (ls := [some (.loc t), some (.tup (strW h :: r)), x, k1, s4, some (.loc S.length), none, none]) (vs := [7]) (j := 7) (tt := dNotT (dT (dCall (f__law_is_letter 4) [(dVar 1), (dVar 7)]))) (te := dVar 7) (ws := othW) (st := stayOf (.loc S.length) othW) (p := pNo n (.tup (strW h :: r)))
    (fun acc => by
      show ((S ++ [Cell.lst othW]) ++ [Cell.lst acc])[S.length]? = some (Cell.lst othW)
      rw [List.append_assoc]
      exact get_mid) (by decide) hp (fun w S2 _ => rfl)
  have e0 : pNo n (.tup (strW h :: r)) (.int 0) = true := by
    obtain ⟨c, hc⟩ := ho (.int 0) (by simp [othW])
    rw [pNo_t hc]
    cases c with
    | false => rfl
    | true =>
      have e1 := (hc n [] (Nat.le_refl _)).2
      rw [h0 n [] (Nat.le_refl _)] at e1
      exact absurd e1 (by simp)
  have hne : (othW.filter (pNo n (.tup (strW h :: r)))).length ≠ 0 := fun z => by
    have := List.filter_eq_nil_iff.mp (List.length_eq_zero_iff.mp z) (.int 0) (by simp [othW])
    exact this e0
  have hle : (othW.filter (pNo n (.tup (strW h :: r)))).length ≤ 7 := List.length_filter_le ..
  have T1 : Tp ((S ++ [Cell.lst othW]) ++ [.lst (othW.filter (pNo n (.tup (strW h :: r))))]) t s := hT.app.app
  obtain ⟨k2, S2, e2, T2, F2, l2, u2⟩ := draw_n (((othW.filter (pNo n (.tup (strW h :: r)))).length : Nat) : Int) T1
  have q2 : S2[(S ++ [Cell.lst othW]).length]? = some (.lst (othW.filter (pNo n (.tup (strW h :: r))))) := F2.get (by have := hT.lt; rw [List.length_append]; omega) (get_mid (cs := []))
  obtain ⟨w, d, hw⟩ := ix_lit (k := k2) q2 l2 u2
  obtain ⟨hm, hw2⟩ := List.mem_filter.mp hw
  refine ⟨w, S2, ?_, T2, (fr_app.trans fr_app).trans F2, (oth_ok hm).mono (by omega), ?_⟩
  · have sq : seqW (S ++ [Cell.lst othW]) (.loc S.length) = some othW := by
      rw [show seqW (S ++ [Cell.lst othW]) (.loc S.length) = lstW (S ++ [Cell.lst othW]) (.loc S.length) from rfl]
      exact lst_loc (get_mid (cs := []))
    have b7 : othW.length ≤ 100 := by decide
    have ln : gLen [.loc (S ++ [Cell.lst othW]).length] ((S ++ [Cell.lst othW]) ++ [.lst (othW.filter (pNo n (.tup (strW h :: r))))]) = .ok (.int (((othW.filter (pNo n (.tup (strW h :: r)))).length : Nat) : Int)) ((S ++ [Cell.lst othW]) ++ [.lst (othW.filter (pNo n (.tup (strW h :: r))))]) := len_loc (get_mid (cs := []))
    have mk5 : ∀ l4 : Option W, dLst [(dC (.int 0)), (dC (.str (PySem.Str.ofString "q"))), (dTup [(dC (.str (PySem.Str.ofString "none")))]), (dTup [(dC (.str (PySem.Str.ofString "some"))), (dC (.int 1))]), (dTup [(dC (.str (PySem.Str.ofString "some"))), (dC (.str (PySem.Str.ofString "q")))]), (dTup [(dC (.str (PySem.Str.ofString "case"))), (dC (.int 0)), (dC (.int 1))]), (dTup [(dC (.str (PySem.Str.ofString "pair"))), (dC (.int 0)), (dC (.str (PySem.Str.ofString "q")))])]
        [some (.loc t), some (.tup (strW h :: r)), x, k1, s4, none, none, none] S = .ok (.loc S.length) (S ++ [.lst othW]) := fun _ => by
      rw [lst_ev]
      simp only [mk1_ev, mk2_ev, mk3_ev, mk4_ev, sq_ev, set_ev, call_ev, args_ev, argK_ok, args_nil, argK2_ok, callK_ok, List.replicate, c_ev, setK_ok, set0_ev, set1_ev, set2_ev, set3_ev, set4_ev, set5_ev, set6_ev, set7_ev, set8_ev, set9_ev, sqK_nx, sqK_rt, if_ev, tb_ev, t_ev, tK_ok, tru_bl, nt_ev, ntK_ok, and_ev, or_ev, op_ev, opK_ok, opK2_ok, tbK_ok, ifK_t, ifK_f, nx_ev, rt_ev, rtK_ok, mkK_rt, mkK_nx, var0_ev, var1_ev, var2_ev, var3_ev, var4_ev, var5_ev, var6_ev, var7_ev, var8_ev, var9_ev, ixt0, ixt1, ixt2, eq_ss, ne_ss, eq_ii, ne_ii, lt_ii, le_ii, gt_ii, ge_ii, len_tup, av_ev, avK_ok, avK2_t, avK2_f, ov_ev, ovK_ok, ovK2_t, ovK2_f, aK_t, aK_f, oK_t, oK_f, tup_ev, ie_ev, ieK_t, ieK_f, un_ev, unK_ok, ex_ev, exK_ok, Bool.not_true, Bool.not_false, decide_true, decide_false, Nat.reduceSub, tupK_ok (b1 _), tupK_ok (b2 _ _), tupK_ok (b3 _ _ _)]
      exact lstK_ok b7
    unfold d_ftail
    rw [sq_ev]
    simp only [mk1_ev, mk2_ev, mk3_ev, mk4_ev, sq_ev, set_ev, call_ev, args_ev, argK_ok, args_nil, argK2_ok, callK_ok, List.replicate, c_ev, setK_ok, set0_ev, set1_ev, set2_ev, set3_ev, set4_ev, set5_ev, set6_ev, set7_ev, set8_ev, set9_ev, sqK_nx, sqK_rt, if_ev, tb_ev, t_ev, tK_ok, tru_bl, nt_ev, ntK_ok, and_ev, or_ev, op_ev, opK_ok, opK2_ok, tbK_ok, ifK_t, ifK_f, nx_ev, rt_ev, rtK_ok, mkK_rt, mkK_nx, var0_ev, var1_ev, var2_ev, var3_ev, var4_ev, var5_ev, var6_ev, var7_ev, var8_ev, var9_ev, ixt0, ixt1, ixt2, eq_ss, ne_ss, eq_ii, ne_ii, lt_ii, le_ii, gt_ii, ge_ii, len_tup, av_ev, avK_ok, avK2_t, avK2_f, ov_ev, ovK_ok, ovK2_t, ovK2_f, aK_t, aK_f, oK_t, oK_f, tup_ev, ie_ev, ieK_t, ieK_f, un_ev, unK_ok, ex_ev, exK_ok, Bool.not_true, Bool.not_false, decide_true, decide_false, Nat.reduceSub, d1, d2, mk5 none, lc_ev, si_ev, siK_ok, sq, siK2_ok, flt, ln, e2, d]
  · intro n' S3 hn'
    obtain ⟨c, hc⟩ := ho w hm
    rw [pNo_t hc] at hw2
    cases c with
    | true => cases hw2
    | false => exact (hc n' S3 hn').1

theorem cnd_ok {t s : Nat} {z k1 : Int} {k : W} {x s4 s5 s6 s7 : Option W} {S : Store} (hk : Kd 4 z k) (hT : Tp S t s) : ∃ b S', d_fcnd [some (.loc t), some k, x, some (.int k1), s4, s5, s6, s7] S = .ok b S' ∧ Tp S' t s ∧ Fr t S S' := by
  obtain ⟨cs, e⟩ := kinds_ok hk S
  cases h : decide ((0 : Int) < k1) with
  | false => exact ⟨false, S, by simp only [mk1_ev, mk2_ev, mk3_ev, mk4_ev, sq_ev, set_ev, call_ev, args_ev, argK_ok, args_nil, argK2_ok, callK_ok, List.replicate, c_ev, setK_ok, set0_ev, set1_ev, set2_ev, set3_ev, set4_ev, set5_ev, set6_ev, set7_ev, set8_ev, set9_ev, sqK_nx, sqK_rt, if_ev, tb_ev, t_ev, tK_ok, tru_bl, nt_ev, ntK_ok, and_ev, or_ev, op_ev, opK_ok, opK2_ok, tbK_ok, ifK_t, ifK_f, nx_ev, rt_ev, rtK_ok, mkK_rt, mkK_nx, var0_ev, var1_ev, var2_ev, var3_ev, var4_ev, var5_ev, var6_ev, var7_ev, var8_ev, var9_ev, ixt0, ixt1, ixt2, eq_ss, ne_ss, eq_ii, ne_ii, lt_ii, le_ii, gt_ii, ge_ii, len_tup, av_ev, avK_ok, avK2_t, avK2_f, ov_ev, ovK_ok, ovK2_t, ovK2_f, aK_t, aK_f, oK_t, oK_f, tup_ev, ie_ev, ieK_t, ieK_f, un_ev, unK_ok, ex_ev, exK_ok, Bool.not_true, Bool.not_false, decide_true, decide_false, Nat.reduceSub, d_fcnd, h], hT, Fr.refl _ _⟩
  | true => exact ⟨decide (z < 5), S ++ cs, by simp only [mk1_ev, mk2_ev, mk3_ev, mk4_ev, sq_ev, set_ev, call_ev, args_ev, argK_ok, args_nil, argK2_ok, callK_ok, List.replicate, c_ev, setK_ok, set0_ev, set1_ev, set2_ev, set3_ev, set4_ev, set5_ev, set6_ev, set7_ev, set8_ev, set9_ev, sqK_nx, sqK_rt, if_ev, tb_ev, t_ev, tK_ok, tru_bl, nt_ev, ntK_ok, and_ev, or_ev, op_ev, opK_ok, opK2_ok, tbK_ok, ifK_t, ifK_f, nx_ev, rt_ev, rtK_ok, mkK_rt, mkK_nx, var0_ev, var1_ev, var2_ev, var3_ev, var4_ev, var5_ev, var6_ev, var7_ev, var8_ev, var9_ev, ixt0, ixt1, ixt2, eq_ss, ne_ss, eq_ii, ne_ii, lt_ii, le_ii, gt_ii, ge_ii, len_tup, av_ev, avK_ok, avK2_t, avK2_f, ov_ev, ovK_ok, ovK2_t, ovK2_f, aK_t, aK_f, oK_t, oK_f, tup_ev, ie_ev, ieK_t, ieK_f, un_ev, unK_ok, ex_ev, exK_ok, Bool.not_true, Bool.not_false, decide_true, decide_false, Nat.reduceSub, d_fcnd, h, e], hT.app, fr_app⟩
def FoP (t s : Nat) (S : Store) (n : Nat) (k : W) (r : Res W) : Prop := ∃ w S', r = .ok w S' ∧ FoQ t s S n k w S'
theorem isK_no {x : W} {m : Nat} {S : Store} (hx : OkW m x) (h : isNum x = false) : f__is_number [x] S = .ok (.bl false) S := by rw [isnum_ok hx, h]
theorem foreign_ok {t s : Nat} : ∀ {n : Nat} {z : Int} {k : W}, n ≤ 4 → Kd n z k → ∀ {w : W}, Lt k w → ∀ {S : Store}, Tp S t s → FoP t s S n k (f__law_foreign n [.loc t, k, w] S) := by
  intro n
  induction n with
  | zero => intro z k _ h; cases h
  | succ n ih =>
    intro z k hn h w hw S hT
    obtain ⟨k1, S1, e1, T1, F1, l1, u1⟩ := draw_n 4 hT
    obtain ⟨b, S2, e2, T2, F2⟩ := cnd_ok (x := some w) (k1 := k1) (s4 := none) (s5 := none) (s6 := none) (s7 := none) (h.le hn) T1
    have hok := (hw.ok h).ok
    have F02 := F1.trans F2
    -- where the first block is passed, the tail answers
    have viaTail : (dIf d_fcnd (d_fblk (f__law_foreign n)) dNx) [some (.loc t), some k, some w, some (.int k1), none, none, none, none] S1 = .nx [some (.loc t), some k, some w, some (.int k1), none, none, none, none] S2 →
        (∃ w' S', d_ftail [some (.loc t), some k, some w, some (.int k1), none, none, none, none] S2 = .rt w' S' ∧ FoQ t s S2 (n + 1) k w' S') → FoP t s S (n + 1) k (f__law_foreign (n + 1) [.loc t, k, w] S) := by
      rintro h1 ⟨w', S', h2, q1, q2, q3⟩
      refine ⟨w', S', ?_, q1, F02.trans q2, q3⟩
      show mkF 8 3 (d__law_foreign (f__law_foreign n)) [.loc t, k, w] S = _
      rw [foreign_eq]
      have e0 : (dSet 3 (dCall f__law_draw [(dVar 0), (dC (.int 4))])) [some (.loc t), some k, some w, none, none, none, none, none] S = .nx [some (.loc t), some k, some w, some (.int k1), none, none, none, none] S1 := by simp only [mk1_ev, mk2_ev, mk3_ev, mk4_ev, sq_ev, set_ev, call_ev, args_ev, argK_ok, args_nil, argK2_ok, callK_ok, List.replicate, c_ev, setK_ok, set0_ev, set1_ev, set2_ev, set3_ev, set4_ev, set5_ev, set6_ev, set7_ev, set8_ev, set9_ev, sqK_nx, sqK_rt, if_ev, tb_ev, t_ev, tK_ok, tru_bl, nt_ev, ntK_ok, and_ev, or_ev, op_ev, opK_ok, opK2_ok, tbK_ok, ifK_t, ifK_f, nx_ev, rt_ev, rtK_ok, mkK_rt, mkK_nx, var0_ev, var1_ev, var2_ev, var3_ev, var4_ev, var5_ev, var6_ev, var7_ev, var8_ev, var9_ev, ixt0, ixt1, ixt2, eq_ss, ne_ss, eq_ii, ne_ii, lt_ii, le_ii, gt_ii, ge_ii, len_tup, av_ev, avK_ok, avK2_t, avK2_f, ov_ev, ovK_ok, ovK2_t, ovK2_f, aK_t, aK_f, oK_t, oK_f, tup_ev, ie_ev, ieK_t, ieK_f, un_ev, unK_ok, ex_ev, exK_ok, Bool.not_true, Bool.not_false, decide_true, decide_false, Nat.reduceSub, e1]
      rw [mk3_ev]
      show mkK (dSeq _ _ [some (.loc t), some k, some w, none, none, none, none, none] S) = _
      rw [sq_ev, e0, sqK_nx, sq_ev, h1, sqK_nx, h2, mkK_rt]
    have viaBlk : ∀ w' S', b = true → d_fblk (f__law_foreign n) [some (.loc t), some k, some w, some (.int k1), none, none, none, none] S2 = .rt w' S' → FoQ t s S2 (n + 1) k w' S' → FoP t s S (n + 1) k (f__law_foreign (n + 1) [.loc t, k, w] S) := by
      rintro w' S' rfl h1 ⟨q1, q2, q3⟩
      refine ⟨w', S', ?_, q1, F02.trans q2, q3⟩
      show mkF 8 3 (d__law_foreign (f__law_foreign n)) [.loc t, k, w] S = _
      rw [foreign_eq]
      have e0 : (dSet 3 (dCall f__law_draw [(dVar 0), (dC (.int 4))])) [some (.loc t), some k, some w, none, none, none, none, none] S = .nx [some (.loc t), some k, some w, some (.int k1), none, none, none, none] S1 := by simp only [mk1_ev, mk2_ev, mk3_ev, mk4_ev, sq_ev, set_ev, call_ev, args_ev, argK_ok, args_nil, argK2_ok, callK_ok, List.replicate, c_ev, setK_ok, set0_ev, set1_ev, set2_ev, set3_ev, set4_ev, set5_ev, set6_ev, set7_ev, set8_ev, set9_ev, sqK_nx, sqK_rt, if_ev, tb_ev, t_ev, tK_ok, tru_bl, nt_ev, ntK_ok, and_ev, or_ev, op_ev, opK_ok, opK2_ok, tbK_ok, ifK_t, ifK_f, nx_ev, rt_ev, rtK_ok, mkK_rt, mkK_nx, var0_ev, var1_ev, var2_ev, var3_ev, var4_ev, var5_ev, var6_ev, var7_ev, var8_ev, var9_ev, ixt0, ixt1, ixt2, eq_ss, ne_ss, eq_ii, ne_ii, lt_ii, le_ii, gt_ii, ge_ii, len_tup, av_ev, avK_ok, avK2_t, avK2_f, ov_ev, ovK_ok, ovK2_t, ovK2_f, aK_t, aK_f, oK_t, oK_f, tup_ev, ie_ev, ieK_t, ieK_f, un_ev, unK_ok, ex_ev, exK_ok, Bool.not_true, Bool.not_false, decide_true, decide_false, Nat.reduceSub, e1]
      rw [mk3_ev]
      show mkK (dSeq _ _ [some (.loc t), some k, some w, none, none, none, none, none] S) = _
      rw [sq_ev, e0, sqK_nx, sq_ev, if_ev, e2, ifK_t, h1, sqK_rt, mkK_rt]
    have passF : b = false → (dIf d_fcnd (d_fblk (f__law_foreign n)) dNx) [some (.loc t), some k, some w, some (.int k1), none, none, none, none] S1 = .nx [some (.loc t), some k, some w, some (.int k1), none, none, none, none] S2 := by
      rintro rfl
      rw [if_ev, e2, ifK_f, nx_ev]
    have passT : d_fblk (f__law_foreign n) [some (.loc t), some k, some w, some (.int k1), none, none, none, none] S2 = .nx [some (.loc t), some k, some w, some (.int k1), none, none, none, none] S2 → (dIf d_fcnd (d_fblk (f__law_foreign n)) dNx) [some (.loc t), some k, some w, some (.int k1), none, none, none, none] S1 = .nx [some (.loc t), some k, some w, some (.int k1), none, none, none, none] S2 := by
      intro h1
      cases b with
      | false => exact passF rfl
      | true => rw [if_ev, e2, ifK_t, h1]
    cases h with
    | @names _ ns a b' c d =>
      refine viaTail (passT (by simp only [mk1_ev, mk2_ev, mk3_ev, mk4_ev, sq_ev, set_ev, call_ev, args_ev, argK_ok, args_nil, argK2_ok, callK_ok, List.replicate, c_ev, setK_ok, set0_ev, set1_ev, set2_ev, set3_ev, set4_ev, set5_ev, set6_ev, set7_ev, set8_ev, set9_ev, sqK_nx, sqK_rt, if_ev, tb_ev, t_ev, tK_ok, tru_bl, nt_ev, ntK_ok, and_ev, or_ev, op_ev, opK_ok, opK2_ok, tbK_ok, ifK_t, ifK_f, nx_ev, rt_ev, rtK_ok, mkK_rt, mkK_nx, var0_ev, var1_ev, var2_ev, var3_ev, var4_ev, var5_ev, var6_ev, var7_ev, var8_ev, var9_ev, ixt0, ixt1, ixt2, eq_ss, ne_ss, eq_ii, ne_ii, lt_ii, le_ii, gt_ii, ge_ii, len_tup, av_ev, avK_ok, avK2_t, avK2_f, ov_ev, ovK_ok, ovK2_t, ovK2_f, aK_t, aK_f, oK_t, oK_f, tup_ev, ie_ev, ieK_t, ieK_f, un_ev, unK_ok, ex_ev, exK_ok, Bool.not_true, Bool.not_false, decide_true, decide_false, Nat.reduceSub, d_fblk, sd "names" "integers", sd "names" "pair", sd "names" "either", sd "names" "maybe", sd "integers" "names", sd "integers" "pair", sd "integers" "either", sd "integers" "maybe", sd "pair" "names", sd "pair" "integers", sd "pair" "either", sd "pair" "maybe", sd "either" "names", sd "either" "integers", sd "either" "pair", sd "either" "maybe", sd "maybe" "names", sd "maybe" "integers", sd "maybe" "pair", sd "maybe" "either"])) ?_
      obtain ⟨x, cs, ex, hx, ox⟩ := strange_ok a b' d S2
      obtain ⟨i, S3, e3, T3, F3⟩ := integer_ok (m := 20) (T2.app (cs := cs)) (by decide) (by decide)
      let L : List W := [.str x, .int 0, .int 1, .int i]
      obtain ⟨k2, S4, e4, T4, F4, l4, u4⟩ := draw_n 4 (T3.app (cs := [.lst L]))
      have q4 : S4[S3.length]? = some (.lst L) := F4.get (by have := T3.lt; omega) (get_mid (cs := []))
      obtain ⟨w', d4, m4⟩ := ix_lit (k := k2) q4 l4 (by exact u4)
      have b4 : L.length ≤ 100 := by simp [L]
      simp only [L] at b4 e4 d4
      refine ⟨w', S4, by simp only [mk1_ev, mk2_ev, mk3_ev, mk4_ev, sq_ev, set_ev, call_ev, args_ev, argK_ok, args_nil, argK2_ok, callK_ok, List.replicate, c_ev, setK_ok, set0_ev, set1_ev, set2_ev, set3_ev, set4_ev, set5_ev, set6_ev, set7_ev, set8_ev, set9_ev, sqK_nx, sqK_rt, if_ev, tb_ev, t_ev, tK_ok, tru_bl, nt_ev, ntK_ok, and_ev, or_ev, op_ev, opK_ok, opK2_ok, tbK_ok, ifK_t, ifK_f, nx_ev, rt_ev, rtK_ok, mkK_rt, mkK_nx, var0_ev, var1_ev, var2_ev, var3_ev, var4_ev, var5_ev, var6_ev, var7_ev, var8_ev, var9_ev, ixt0, ixt1, ixt2, eq_ss, ne_ss, eq_ii, ne_ii, lt_ii, le_ii, gt_ii, ge_ii, len_tup, av_ev, avK_ok, avK2_t, avK2_f, ov_ev, ovK_ok, ovK2_t, ovK2_f, aK_t, aK_f, oK_t, oK_f, tup_ev, ie_ev, ieK_t, ieK_f, un_ev, unK_ok, ex_ev, exK_ok, Bool.not_true, Bool.not_false, decide_true, decide_false, Nat.reduceSub, d_ftail, ex, e3, lst_ev, lstK_ok b4, e4, d4], T4, (fr_app.trans F3).trans (fr_app.trans F4), ?_, ?_⟩
      · simp only [L, List.mem_cons, List.mem_nil_iff, or_false] at m4
        rcases m4 with rfl | rfl | rfl | rfl
        · exact .str ox.1
        all_goals exact .int _
      · intro n' S5 hn'
        obtain ⟨m, rfl⟩ : ∃ m, n' = m + 1 := ⟨n' - 1, by omega⟩
        simp only [L, List.mem_cons, List.mem_nil_iff, or_false] at m4
        have hints : ∀ j : Int, f_is_letter (m + 1) [.tup [strW "names", .tup (ns.map .str)], .int j] S5 = .ok (.bl false) S5 := fun j => by
          obtain ⟨b, e, hb⟩ := in_names (S := S5) (m := 0) (w := .int j) (ns := ns) (.int j) (by decide) d
          rw [hb rfl] at e
          simp only [mk1_ev, mk2_ev, mk3_ev, mk4_ev, sq_ev, set_ev, call_ev, args_ev, argK_ok, args_nil, argK2_ok, callK_ok, List.replicate, c_ev, setK_ok, set0_ev, set1_ev, set2_ev, set3_ev, set4_ev, set5_ev, set6_ev, set7_ev, set8_ev, set9_ev, sqK_nx, sqK_rt, if_ev, tb_ev, t_ev, tK_ok, tru_bl, nt_ev, ntK_ok, and_ev, or_ev, op_ev, opK_ok, opK2_ok, tbK_ok, ifK_t, ifK_f, nx_ev, rt_ev, rtK_ok, mkK_rt, mkK_nx, var0_ev, var1_ev, var2_ev, var3_ev, var4_ev, var5_ev, var6_ev, var7_ev, var8_ev, var9_ev, ixt0, ixt1, ixt2, eq_ss, ne_ss, eq_ii, ne_ii, lt_ii, le_ii, gt_ii, ge_ii, len_tup, av_ev, avK_ok, avK2_t, avK2_f, ov_ev, ovK_ok, ovK2_t, ovK2_f, aK_t, aK_f, oK_t, oK_f, tup_ev, ie_ev, ieK_t, ieK_f, un_ev, unK_ok, ex_ev, exK_ok, Bool.not_true, Bool.not_false, decide_true, decide_false, Nat.reduceSub, f_is_letter, d_is_letter, e]
        rcases m4 with rfl | rfl | rfl | rfl
        · have hx' : decide (x ∈ ns) = false := decide_eq_false hx
          simp only [mk1_ev, mk2_ev, mk3_ev, mk4_ev, sq_ev, set_ev, call_ev, args_ev, argK_ok, args_nil, argK2_ok, callK_ok, List.replicate, c_ev, setK_ok, set0_ev, set1_ev, set2_ev, set3_ev, set4_ev, set5_ev, set6_ev, set7_ev, set8_ev, set9_ev, sqK_nx, sqK_rt, if_ev, tb_ev, t_ev, tK_ok, tru_bl, nt_ev, ntK_ok, and_ev, or_ev, op_ev, opK_ok, opK2_ok, tbK_ok, ifK_t, ifK_f, nx_ev, rt_ev, rtK_ok, mkK_rt, mkK_nx, var0_ev, var1_ev, var2_ev, var3_ev, var4_ev, var5_ev, var6_ev, var7_ev, var8_ev, var9_ev, ixt0, ixt1, ixt2, eq_ss, ne_ss, eq_ii, ne_ii, lt_ii, le_ii, gt_ii, ge_ii, len_tup, av_ev, avK_ok, avK2_t, avK2_f, ov_ev, ovK_ok, ovK2_t, ovK2_f, aK_t, aK_f, oK_t, oK_f, tup_ev, ie_ev, ieK_t, ieK_f, un_ev, unK_ok, ex_ev, exK_ok, Bool.not_true, Bool.not_false, decide_true, decide_false, Nat.reduceSub, f_is_letter, d_is_letter, in_strsT, hx']
        all_goals exact hints _
    | kint =>
      refine viaTail (passT (by simp only [mk1_ev, mk2_ev, mk3_ev, mk4_ev, sq_ev, set_ev, call_ev, args_ev, argK_ok, args_nil, argK2_ok, callK_ok, List.replicate, c_ev, setK_ok, set0_ev, set1_ev, set2_ev, set3_ev, set4_ev, set5_ev, set6_ev, set7_ev, set8_ev, set9_ev, sqK_nx, sqK_rt, if_ev, tb_ev, t_ev, tK_ok, tru_bl, nt_ev, ntK_ok, and_ev, or_ev, op_ev, opK_ok, opK2_ok, tbK_ok, ifK_t, ifK_f, nx_ev, rt_ev, rtK_ok, mkK_rt, mkK_nx, var0_ev, var1_ev, var2_ev, var3_ev, var4_ev, var5_ev, var6_ev, var7_ev, var8_ev, var9_ev, ixt0, ixt1, ixt2, eq_ss, ne_ss, eq_ii, ne_ii, lt_ii, le_ii, gt_ii, ge_ii, len_tup, av_ev, avK_ok, avK2_t, avK2_f, ov_ev, ovK_ok, ovK2_t, ovK2_f, aK_t, aK_f, oK_t, oK_f, tup_ev, ie_ev, ieK_t, ieK_f, un_ev, unK_ok, ex_ev, exK_ok, Bool.not_true, Bool.not_false, decide_true, decide_false, Nat.reduceSub, d_fblk, sd "names" "integers", sd "names" "pair", sd "names" "either", sd "names" "maybe", sd "integers" "names", sd "integers" "pair", sd "integers" "either", sd "integers" "maybe", sd "pair" "names", sd "pair" "integers", sd "pair" "either", sd "pair" "maybe", sd "either" "names", sd "either" "integers", sd "either" "pair", sd "either" "maybe", sd "maybe" "names", sd "maybe" "integers", sd "maybe" "pair", sd "maybe" "either"])) ?_
      let L : List W := [strW "0", strW "q", strW "some"]
      obtain ⟨k2, S4, e4, T4, F4, l4, u4⟩ := draw_n 3 (T2.app (cs := [.lst L]))
      have q4 : S4[S2.length]? = some (.lst L) := F4.get (by have := T2.lt; omega) (get_mid (cs := []))
      obtain ⟨w', d4, m4⟩ := ix_lit (k := k2) q4 l4 (by exact u4)
      have b4 : L.length ≤ 100 := by simp [L]
      simp only [L] at b4 e4 d4
      have ow : ∃ x, w' = strW x ∧ PyData.strOk (Str.ofString x) = true := by
        simp only [L, List.mem_cons, List.mem_nil_iff, or_false] at m4
        rcases m4 with rfl | rfl | rfl
        · exact ⟨_, rfl, by decide +kernel⟩
        · exact ⟨_, rfl, by decide +kernel⟩
        · exact ⟨_, rfl, by decide +kernel⟩
      obtain ⟨x, rfl, ox⟩ := ow
      refine ⟨_, S4, by simp only [mk1_ev, mk2_ev, mk3_ev, mk4_ev, sq_ev, set_ev, call_ev, args_ev, argK_ok, args_nil, argK2_ok, callK_ok, List.replicate, c_ev, setK_ok, set0_ev, set1_ev, set2_ev, set3_ev, set4_ev, set5_ev, set6_ev, set7_ev, set8_ev, set9_ev, sqK_nx, sqK_rt, if_ev, tb_ev, t_ev, tK_ok, tru_bl, nt_ev, ntK_ok, and_ev, or_ev, op_ev, opK_ok, opK2_ok, tbK_ok, ifK_t, ifK_f, nx_ev, rt_ev, rtK_ok, mkK_rt, mkK_nx, var0_ev, var1_ev, var2_ev, var3_ev, var4_ev, var5_ev, var6_ev, var7_ev, var8_ev, var9_ev, ixt0, ixt1, ixt2, eq_ss, ne_ss, eq_ii, ne_ii, lt_ii, le_ii, gt_ii, ge_ii, len_tup, av_ev, avK_ok, avK2_t, avK2_f, ov_ev, ovK_ok, ovK2_t, ovK2_f, aK_t, aK_f, oK_t, oK_f, tup_ev, ie_ev, ieK_t, ieK_f, un_ev, unK_ok, ex_ev, exK_ok, Bool.not_true, Bool.not_false, decide_true, decide_false, Nat.reduceSub, d_ftail, sd "names" "integers", sd "names" "pair", sd "names" "either", sd "names" "maybe", sd "integers" "names", sd "integers" "pair", sd "integers" "either", sd "integers" "maybe", sd "pair" "names", sd "pair" "integers", sd "pair" "either", sd "pair" "maybe", sd "either" "names", sd "either" "integers", sd "either" "pair", sd "either" "maybe", sd "maybe" "names", sd "maybe" "integers", sd "maybe" "pair", sd "maybe" "either", lst_ev, lstK_ok b4, e4, d4], T4, fr_app.trans F4, .str ox, ?_⟩
      intro n' S5 hn'
      obtain ⟨m, rfl⟩ : ∃ m, n' = m + 1 := ⟨n' - 1, by omega⟩
      have e := isK_no (S := S5) (okS x ox) rfl
      simp only [mk1_ev, mk2_ev, mk3_ev, mk4_ev, sq_ev, set_ev, call_ev, args_ev, argK_ok, args_nil, argK2_ok, callK_ok, List.replicate, c_ev, setK_ok, set0_ev, set1_ev, set2_ev, set3_ev, set4_ev, set5_ev, set6_ev, set7_ev, set8_ev, set9_ev, sqK_nx, sqK_rt, if_ev, tb_ev, t_ev, tK_ok, tru_bl, nt_ev, ntK_ok, and_ev, or_ev, op_ev, opK_ok, opK2_ok, tbK_ok, ifK_t, ifK_f, nx_ev, rt_ev, rtK_ok, mkK_rt, mkK_nx, var0_ev, var1_ev, var2_ev, var3_ev, var4_ev, var5_ev, var6_ev, var7_ev, var8_ev, var9_ev, ixt0, ixt1, ixt2, eq_ss, ne_ss, eq_ii, ne_ii, lt_ii, le_ii, gt_ii, ge_ii, len_tup, av_ev, avK_ok, avK2_t, avK2_f, ov_ev, ovK_ok, ovK2_t, ovK2_f, aK_t, aK_f, oK_t, oK_f, tup_ev, ie_ev, ieK_t, ieK_f, un_ev, unK_ok, ex_ev, exK_ok, Bool.not_true, Bool.not_false, decide_true, decide_false, Nat.reduceSub, f_is_letter, d_is_letter, sd "names" "integers", sd "names" "pair", sd "names" "either", sd "names" "maybe", sd "integers" "names", sd "integers" "pair", sd "integers" "either", sd "integers" "maybe", sd "pair" "names", sd "pair" "integers", sd "pair" "either", sd "pair" "maybe", sd "either" "names", sd "either" "integers", sd "either" "pair", sd "either" "maybe", sd "maybe" "names", sd "maybe" "integers", sd "maybe" "pair", sd "maybe" "either", e]
    | @pair _ s1 s2 a b' h1 h2 =>
      obtain ⟨x, y, rfl, hx, hy⟩ := hw.inv_pair
      cases b with
      | false => exact viaTail (passF rfl) (tail_oth hn (sd _ _) (sd _ _) (oth_pair h1 h2) (fun n' S hn' => by
          obtain ⟨m, rfl⟩ := get1 (Kd.pair h1 h2) hn'
          exact (nt_int (k := a) rfl (sd _ _) (sd _ _)).2) T2)
      | true =>
        obtain ⟨k2, S3, e3, T3, F3, l3, u3⟩ := draw_n 2 T2
        have hk : k2 = 0 ∨ k2 = 1 := by omega
        have i11 : (1 : Int) + 1 = 2 := rfl
        have i21 : (2 : Int) + 1 = 3 := rfl
        have i10 : (1 : Int) + 0 = 1 := rfl
        have ol : ∀ {p q : W}, OkW (n + 1) p → OkW (n + 1) q → OkW (n + 1 + 1) (.tup [strW "pair", p, q]) := fun hp hq => t3 ((okS "pair").mono (by omega)) hp hq
        have fo : ∀ {p q : W} (S : Store), OkW (n + 1 + 1) (.tup [strW "pair", p, q]) → f__is_form [.tup [strW "pair", p, q], .str (Str.ofString "pair"), .int 3] S = .ok (.bl true) S := fun {p q} S hp => by
          rw [form_ok hp (by omega) okp (by decide), head_self]
          rfl
        rcases hk with rfl | rfl
        · obtain ⟨x', S4, e4, T4, F4, o4, r4⟩ := ih (by omega) h1 hx T3
          have c1 : ∀ S, gAdd (.tup [strW "pair"]) (.tup [x']) S = .ok (.tup [strW "pair", x']) S := fun S => cat_tt (by simp)
          have c2 : ∀ S, gAdd (.tup [strW "pair", x']) (.tup [y]) S = .ok (.tup [strW "pair", x', y]) S := fun S => cat_tt (by simp)
          have oy : OkW (n + 1) y := ((hy.ok h2).ok).mono (by omega)
          refine viaBlk (.tup [strW "pair", x', y]) S4 rfl (by simp only [mk1_ev, mk2_ev, mk3_ev, mk4_ev, sq_ev, set_ev, call_ev, args_ev, argK_ok, args_nil, argK2_ok, callK_ok, List.replicate, c_ev, setK_ok, set0_ev, set1_ev, set2_ev, set3_ev, set4_ev, set5_ev, set6_ev, set7_ev, set8_ev, set9_ev, sqK_nx, sqK_rt, if_ev, tb_ev, t_ev, tK_ok, tru_bl, nt_ev, ntK_ok, and_ev, or_ev, op_ev, opK_ok, opK2_ok, tbK_ok, ifK_t, ifK_f, nx_ev, rt_ev, rtK_ok, mkK_rt, mkK_nx, var0_ev, var1_ev, var2_ev, var3_ev, var4_ev, var5_ev, var6_ev, var7_ev, var8_ev, var9_ev, ixt0, ixt1, ixt2, eq_ss, ne_ss, eq_ii, ne_ii, lt_ii, le_ii, gt_ii, ge_ii, len_tup, av_ev, avK_ok, avK2_t, avK2_f, ov_ev, ovK_ok, ovK2_t, ovK2_f, aK_t, aK_f, oK_t, oK_f, tup_ev, ie_ev, ieK_t, ieK_f, un_ev, unK_ok, ex_ev, exK_ok, Bool.not_true, Bool.not_false, decide_true, decide_false, Nat.reduceSub, d_fblk, sd "names" "integers", sd "names" "pair", sd "names" "either", sd "names" "maybe", sd "integers" "names", sd "integers" "pair", sd "integers" "either", sd "integers" "maybe", sd "pair" "names", sd "pair" "integers", sd "pair" "either", sd "pair" "maybe", sd "either" "names", sd "either" "integers", sd "either" "pair", sd "either" "maybe", sd "maybe" "names", sd "maybe" "integers", sd "maybe" "pair", sd "maybe" "either", e3, add_ii, i10, i11, sl_ev, slK_ok, nop_ev, slK2_ok, part_ev, partK_ok, slK3_ok, cut1, cut2', e4, tupK_ok (b1 _), c1, c2]) ⟨T4, F3.trans F4, ol o4 oy, fun n' S5 hn' => ?_⟩
          obtain ⟨m, rfl⟩ : ∃ m, n' = m + 1 := ⟨n' - 1, by omega⟩
          simp only [mk1_ev, mk2_ev, mk3_ev, mk4_ev, sq_ev, set_ev, call_ev, args_ev, argK_ok, args_nil, argK2_ok, callK_ok, List.replicate, c_ev, setK_ok, set0_ev, set1_ev, set2_ev, set3_ev, set4_ev, set5_ev, set6_ev, set7_ev, set8_ev, set9_ev, sqK_nx, sqK_rt, if_ev, tb_ev, t_ev, tK_ok, tru_bl, nt_ev, ntK_ok, and_ev, or_ev, op_ev, opK_ok, opK2_ok, tbK_ok, ifK_t, ifK_f, nx_ev, rt_ev, rtK_ok, mkK_rt, mkK_nx, var0_ev, var1_ev, var2_ev, var3_ev, var4_ev, var5_ev, var6_ev, var7_ev, var8_ev, var9_ev, ixt0, ixt1, ixt2, eq_ss, ne_ss, eq_ii, ne_ii, lt_ii, le_ii, gt_ii, ge_ii, len_tup, av_ev, avK_ok, avK2_t, avK2_f, ov_ev, ovK_ok, ovK2_t, ovK2_f, aK_t, aK_f, oK_t, oK_f, tup_ev, ie_ev, ieK_t, ieK_f, un_ev, unK_ok, ex_ev, exK_ok, Bool.not_true, Bool.not_false, decide_true, decide_false, Nat.reduceSub, f_is_letter, d_is_letter, sd "names" "integers", sd "names" "pair", sd "names" "either", sd "names" "maybe", sd "integers" "names", sd "integers" "pair", sd "integers" "either", sd "integers" "maybe", sd "pair" "names", sd "pair" "integers", sd "pair" "either", sd "pair" "maybe", sd "either" "names", sd "either" "integers", sd "either" "pair", sd "either" "maybe", sd "maybe" "names", sd "maybe" "integers", sd "maybe" "pair", sd "maybe" "either", isiT, fo S5 (ol o4 oy), r4 m S5 (by omega)]
        · obtain ⟨y', S4, e4, T4, F4, o4, r4⟩ := ih (by omega) h2 hy T3
          have c1 : ∀ S, gAdd (.tup [strW "pair", x]) (.tup [y']) S = .ok (.tup [strW "pair", x, y']) S := fun S => cat_tt (by simp)
          have c2 : ∀ S, gAdd (.tup [strW "pair", x, y']) (.tup []) S = .ok (.tup [strW "pair", x, y']) S := fun S => cat_tt (by simp)
          have ox : OkW (n + 1) x := ((hx.ok h1).ok).mono (by omega)
          refine viaBlk (.tup [strW "pair", x, y']) S4 rfl (by simp only [mk1_ev, mk2_ev, mk3_ev, mk4_ev, sq_ev, set_ev, call_ev, args_ev, argK_ok, args_nil, argK2_ok, callK_ok, List.replicate, c_ev, setK_ok, set0_ev, set1_ev, set2_ev, set3_ev, set4_ev, set5_ev, set6_ev, set7_ev, set8_ev, set9_ev, sqK_nx, sqK_rt, if_ev, tb_ev, t_ev, tK_ok, tru_bl, nt_ev, ntK_ok, and_ev, or_ev, op_ev, opK_ok, opK2_ok, tbK_ok, ifK_t, ifK_f, nx_ev, rt_ev, rtK_ok, mkK_rt, mkK_nx, var0_ev, var1_ev, var2_ev, var3_ev, var4_ev, var5_ev, var6_ev, var7_ev, var8_ev, var9_ev, ixt0, ixt1, ixt2, eq_ss, ne_ss, eq_ii, ne_ii, lt_ii, le_ii, gt_ii, ge_ii, len_tup, av_ev, avK_ok, avK2_t, avK2_f, ov_ev, ovK_ok, ovK2_t, ovK2_f, aK_t, aK_f, oK_t, oK_f, tup_ev, ie_ev, ieK_t, ieK_f, un_ev, unK_ok, ex_ev, exK_ok, Bool.not_true, Bool.not_false, decide_true, decide_false, Nat.reduceSub, d_fblk, sd "names" "integers", sd "names" "pair", sd "names" "either", sd "names" "maybe", sd "integers" "names", sd "integers" "pair", sd "integers" "either", sd "integers" "maybe", sd "pair" "names", sd "pair" "integers", sd "pair" "either", sd "pair" "maybe", sd "either" "names", sd "either" "integers", sd "either" "pair", sd "either" "maybe", sd "maybe" "names", sd "maybe" "integers", sd "maybe" "pair", sd "maybe" "either", e3, add_ii, i11, i21, sl_ev, slK_ok, nop_ev, slK2_ok, part_ev, partK_ok, slK3_ok, cut2, cut3', e4, tupK_ok (b1 _), c1, c2]) ⟨T4, F3.trans F4, ol ox o4, fun n' S5 hn' => ?_⟩
          obtain ⟨m, rfl⟩ : ∃ m, n' = m + 1 := ⟨n' - 1, by omega⟩
          simp only [mk1_ev, mk2_ev, mk3_ev, mk4_ev, sq_ev, set_ev, call_ev, args_ev, argK_ok, args_nil, argK2_ok, callK_ok, List.replicate, c_ev, setK_ok, set0_ev, set1_ev, set2_ev, set3_ev, set4_ev, set5_ev, set6_ev, set7_ev, set8_ev, set9_ev, sqK_nx, sqK_rt, if_ev, tb_ev, t_ev, tK_ok, tru_bl, nt_ev, ntK_ok, and_ev, or_ev, op_ev, opK_ok, opK2_ok, tbK_ok, ifK_t, ifK_f, nx_ev, rt_ev, rtK_ok, mkK_rt, mkK_nx, var0_ev, var1_ev, var2_ev, var3_ev, var4_ev, var5_ev, var6_ev, var7_ev, var8_ev, var9_ev, ixt0, ixt1, ixt2, eq_ss, ne_ss, eq_ii, ne_ii, lt_ii, le_ii, gt_ii, ge_ii, len_tup, av_ev, avK_ok, avK2_t, avK2_f, ov_ev, ovK_ok, ovK2_t, ovK2_f, aK_t, aK_f, oK_t, oK_f, tup_ev, ie_ev, ieK_t, ieK_f, un_ev, unK_ok, ex_ev, exK_ok, Bool.not_true, Bool.not_false, decide_true, decide_false, Nat.reduceSub, f_is_letter, d_is_letter, sd "names" "integers", sd "names" "pair", sd "names" "either", sd "names" "maybe", sd "integers" "names", sd "integers" "pair", sd "integers" "either", sd "integers" "maybe", sd "pair" "names", sd "pair" "integers", sd "pair" "either", sd "pair" "maybe", sd "either" "names", sd "either" "integers", sd "either" "pair", sd "either" "maybe", sd "maybe" "names", sd "maybe" "integers", sd "maybe" "pair", sd "maybe" "either", isiT, fo S5 (ol ox o4), isl_t (by omega) h1 hx (n' := m) (S := S5) (by omega), r4 m S5 (by omega)]
    | @either _ s1 ks h1 h2 h3 =>
      obtain ⟨i, a, x, rfl, i0, ia, hx⟩ := hw.inv_either
      have hl := (List.getElem?_eq_some_iff.mp ia).1
      have ol : ∀ {j : Int} {p : W}, OkW (n + 1) p → OkW (n + 1 + 1) (.tup [strW "case", .int j, p]) := fun hp => t3 ((okS "case").mono (by omega)) (.int _) hp
      have fo : ∀ {j : Int} {p : W} (S : Store), OkW (n + 1 + 1) (.tup [strW "case", .int j, p]) → f__is_form [.tup [strW "case", .int j, p], .str (Str.ofString "case"), .int 3] S = .ok (.bl true) S := fun {j p} S hp => by
        rw [form_ok hp (by omega) okc (by decide), head_self]
        rfl
      cases b with
      | false => exact viaTail (passF rfl) (tail_oth hn (sd _ _) (sd _ _) (oth_either h1 h2 h3) (fun n' S hn' => by
          obtain ⟨m, rfl⟩ := get1 (Kd.either h1 h2 h3) hn'
          exact (nt_int (k := .non) rfl (sd _ _) (sd _ _)).2) T2)
      | true =>
        obtain ⟨z', hz⟩ := h1.mem a (List.mem_of_getElem? ia)
        have inner : (decide (k1 = 1) && decide ((ks.length : Int) < 3)) = false → FoP t s S (n + 1) (.tup [strW "either", .tup ks]) (f__law_foreign (n + 1) [.loc t, .tup [strW "either", .tup ks], .tup [strW "case", .int i, x]] S) := fun hb => by
          obtain ⟨x', S4, e4, T4, F4, o4, r4⟩ := ih (by omega) hz hx T2
          have blk : d_fblk (f__law_foreign n) [some (.loc t), some (.tup [strW "either", .tup ks]), some (.tup [strW "case", .int i, x]), some (.int k1), none, none, none, none] S2 = .rt (.tup [strW "case", .int i, x']) S4 := by
            cases q1 : decide (k1 = 1) with
            | false => simp only [mk1_ev, mk2_ev, mk3_ev, mk4_ev, sq_ev, set_ev, call_ev, args_ev, argK_ok, args_nil, argK2_ok, callK_ok, List.replicate, c_ev, setK_ok, set0_ev, set1_ev, set2_ev, set3_ev, set4_ev, set5_ev, set6_ev, set7_ev, set8_ev, set9_ev, sqK_nx, sqK_rt, if_ev, tb_ev, t_ev, tK_ok, tru_bl, nt_ev, ntK_ok, and_ev, or_ev, op_ev, opK_ok, opK2_ok, tbK_ok, ifK_t, ifK_f, nx_ev, rt_ev, rtK_ok, mkK_rt, mkK_nx, var0_ev, var1_ev, var2_ev, var3_ev, var4_ev, var5_ev, var6_ev, var7_ev, var8_ev, var9_ev, ixt0, ixt1, ixt2, eq_ss, ne_ss, eq_ii, ne_ii, lt_ii, le_ii, gt_ii, ge_ii, len_tup, av_ev, avK_ok, avK2_t, avK2_f, ov_ev, ovK_ok, ovK2_t, ovK2_f, aK_t, aK_f, oK_t, oK_f, tup_ev, ie_ev, ieK_t, ieK_f, un_ev, unK_ok, ex_ev, exK_ok, Bool.not_true, Bool.not_false, decide_true, decide_false, Nat.reduceSub, d_fblk, sd "names" "integers", sd "names" "pair", sd "names" "either", sd "names" "maybe", sd "integers" "names", sd "integers" "pair", sd "integers" "either", sd "integers" "maybe", sd "pair" "names", sd "pair" "integers", sd "pair" "either", sd "pair" "maybe", sd "either" "names", sd "either" "integers", sd "either" "pair", sd "either" "maybe", sd "maybe" "names", sd "maybe" "integers", sd "maybe" "pair", sd "maybe" "either", q1, ixAt i0 ia, e4, tupK_ok (b3 _ _ _)]
            | true =>
              have q2 : decide ((ks.length : Int) < 3) = false := by rw [q1] at hb; exact hb
              simp only [mk1_ev, mk2_ev, mk3_ev, mk4_ev, sq_ev, set_ev, call_ev, args_ev, argK_ok, args_nil, argK2_ok, callK_ok, List.replicate, c_ev, setK_ok, set0_ev, set1_ev, set2_ev, set3_ev, set4_ev, set5_ev, set6_ev, set7_ev, set8_ev, set9_ev, sqK_nx, sqK_rt, if_ev, tb_ev, t_ev, tK_ok, tru_bl, nt_ev, ntK_ok, and_ev, or_ev, op_ev, opK_ok, opK2_ok, tbK_ok, ifK_t, ifK_f, nx_ev, rt_ev, rtK_ok, mkK_rt, mkK_nx, var0_ev, var1_ev, var2_ev, var3_ev, var4_ev, var5_ev, var6_ev, var7_ev, var8_ev, var9_ev, ixt0, ixt1, ixt2, eq_ss, ne_ss, eq_ii, ne_ii, lt_ii, le_ii, gt_ii, ge_ii, len_tup, av_ev, avK_ok, avK2_t, avK2_f, ov_ev, ovK_ok, ovK2_t, ovK2_f, aK_t, aK_f, oK_t, oK_f, tup_ev, ie_ev, ieK_t, ieK_f, un_ev, unK_ok, ex_ev, exK_ok, Bool.not_true, Bool.not_false, decide_true, decide_false, Nat.reduceSub, d_fblk, sd "names" "integers", sd "names" "pair", sd "names" "either", sd "names" "maybe", sd "integers" "names", sd "integers" "pair", sd "integers" "either", sd "integers" "maybe", sd "pair" "names", sd "pair" "integers", sd "pair" "either", sd "pair" "maybe", sd "either" "names", sd "either" "integers", sd "either" "pair", sd "either" "maybe", sd "maybe" "names", sd "maybe" "integers", sd "maybe" "pair", sd "maybe" "either", q1, q2, ixAt i0 ia, e4, tupK_ok (b3 _ _ _)]
          refine viaBlk _ S4 rfl blk ⟨T4, F4, ol o4, fun n' S5 hn' => ?_⟩
          obtain ⟨m, rfl⟩ : ∃ m, n' = m + 1 := ⟨n' - 1, by omega⟩
          have hca : f__is_case [.tup ks, .int i] S5 = .ok (.bl true) S5 := by
            rw [case_ok (n := 0) (.int i)]
            show Res.ok (W.bl (decide (0 ≤ i) && decide (i < (ks.length : Int)))) S5 = _
            rw [decide_eq_true i0, decide_eq_true (by omega)]
            rfl
          simp only [mk1_ev, mk2_ev, mk3_ev, mk4_ev, sq_ev, set_ev, call_ev, args_ev, argK_ok, args_nil, argK2_ok, callK_ok, List.replicate, c_ev, setK_ok, set0_ev, set1_ev, set2_ev, set3_ev, set4_ev, set5_ev, set6_ev, set7_ev, set8_ev, set9_ev, sqK_nx, sqK_rt, if_ev, tb_ev, t_ev, tK_ok, tru_bl, nt_ev, ntK_ok, and_ev, or_ev, op_ev, opK_ok, opK2_ok, tbK_ok, ifK_t, ifK_f, nx_ev, rt_ev, rtK_ok, mkK_rt, mkK_nx, var0_ev, var1_ev, var2_ev, var3_ev, var4_ev, var5_ev, var6_ev, var7_ev, var8_ev, var9_ev, ixt0, ixt1, ixt2, eq_ss, ne_ss, eq_ii, ne_ii, lt_ii, le_ii, gt_ii, ge_ii, len_tup, av_ev, avK_ok, avK2_t, avK2_f, ov_ev, ovK_ok, ovK2_t, ovK2_f, aK_t, aK_f, oK_t, oK_f, tup_ev, ie_ev, ieK_t, ieK_f, un_ev, unK_ok, ex_ev, exK_ok, Bool.not_true, Bool.not_false, decide_true, decide_false, Nat.reduceSub, f_is_letter, d_is_letter, sd "names" "integers", sd "names" "pair", sd "names" "either", sd "names" "maybe", sd "integers" "names", sd "integers" "pair", sd "integers" "either", sd "integers" "maybe", sd "pair" "names", sd "pair" "integers", sd "pair" "either", sd "pair" "maybe", sd "either" "names", sd "either" "integers", sd "either" "pair", sd "either" "maybe", sd "maybe" "names", sd "maybe" "integers", sd "maybe" "pair", sd "maybe" "either", isiT, fo S5 (ol o4), hca, ixAt i0 ia, r4 m S5 (by omega)]
        cases q1 : decide (k1 = 1) with
        | false => exact inner (by rw [q1]; rfl)
        | true =>
          cases q2 : decide ((ks.length : Int) < 3) with
          | false => exact inner (by rw [q1, q2]; rfl)
          | true =>
            have ox : OkW (n + 1) x := ((hx.ok hz).ok).mono (by omega)
            refine viaBlk (.tup [strW "case", .int (ks.length : Int), x]) S2 rfl (by simp only [mk1_ev, mk2_ev, mk3_ev, mk4_ev, sq_ev, set_ev, call_ev, args_ev, argK_ok, args_nil, argK2_ok, callK_ok, List.replicate, c_ev, setK_ok, set0_ev, set1_ev, set2_ev, set3_ev, set4_ev, set5_ev, set6_ev, set7_ev, set8_ev, set9_ev, sqK_nx, sqK_rt, if_ev, tb_ev, t_ev, tK_ok, tru_bl, nt_ev, ntK_ok, and_ev, or_ev, op_ev, opK_ok, opK2_ok, tbK_ok, ifK_t, ifK_f, nx_ev, rt_ev, rtK_ok, mkK_rt, mkK_nx, var0_ev, var1_ev, var2_ev, var3_ev, var4_ev, var5_ev, var6_ev, var7_ev, var8_ev, var9_ev, ixt0, ixt1, ixt2, eq_ss, ne_ss, eq_ii, ne_ii, lt_ii, le_ii, gt_ii, ge_ii, len_tup, av_ev, avK_ok, avK2_t, avK2_f, ov_ev, ovK_ok, ovK2_t, ovK2_f, aK_t, aK_f, oK_t, oK_f, tup_ev, ie_ev, ieK_t, ieK_f, un_ev, unK_ok, ex_ev, exK_ok, Bool.not_true, Bool.not_false, decide_true, decide_false, Nat.reduceSub, d_fblk, sd "names" "integers", sd "names" "pair", sd "names" "either", sd "names" "maybe", sd "integers" "names", sd "integers" "pair", sd "integers" "either", sd "integers" "maybe", sd "pair" "names", sd "pair" "integers", sd "pair" "either", sd "pair" "maybe", sd "either" "names", sd "either" "integers", sd "either" "pair", sd "either" "maybe", sd "maybe" "names", sd "maybe" "integers", sd "maybe" "pair", sd "maybe" "either", q1, q2, tupK_ok (b3 _ _ _)]) ⟨T2, Fr.refl _ _, ol ox, fun n' S5 hn' => ?_⟩
            obtain ⟨m, rfl⟩ : ∃ m, n' = m + 1 := ⟨n' - 1, by omega⟩
            have hca : f__is_case [.tup ks, .int (ks.length : Int)] S5 = .ok (.bl false) S5 := by
              rw [case_ok (n := 0) (.int _)]
              show Res.ok (W.bl (decide (0 ≤ (ks.length : Int)) && decide ((ks.length : Int) < (ks.length : Int)))) S5 = _
              rw [decide_eq_false (Int.lt_irrefl _), Bool.and_false]
            simp only [mk1_ev, mk2_ev, mk3_ev, mk4_ev, sq_ev, set_ev, call_ev, args_ev, argK_ok, args_nil, argK2_ok, callK_ok, List.replicate, c_ev, setK_ok, set0_ev, set1_ev, set2_ev, set3_ev, set4_ev, set5_ev, set6_ev, set7_ev, set8_ev, set9_ev, sqK_nx, sqK_rt, if_ev, tb_ev, t_ev, tK_ok, tru_bl, nt_ev, ntK_ok, and_ev, or_ev, op_ev, opK_ok, opK2_ok, tbK_ok, ifK_t, ifK_f, nx_ev, rt_ev, rtK_ok, mkK_rt, mkK_nx, var0_ev, var1_ev, var2_ev, var3_ev, var4_ev, var5_ev, var6_ev, var7_ev, var8_ev, var9_ev, ixt0, ixt1, ixt2, eq_ss, ne_ss, eq_ii, ne_ii, lt_ii, le_ii, gt_ii, ge_ii, len_tup, av_ev, avK_ok, avK2_t, avK2_f, ov_ev, ovK_ok, ovK2_t, ovK2_f, aK_t, aK_f, oK_t, oK_f, tup_ev, ie_ev, ieK_t, ieK_f, un_ev, unK_ok, ex_ev, exK_ok, Bool.not_true, Bool.not_false, decide_true, decide_false, Nat.reduceSub, f_is_letter, d_is_letter, sd "names" "integers", sd "names" "pair", sd "names" "either", sd "names" "maybe", sd "integers" "names", sd "integers" "pair", sd "integers" "either", sd "integers" "maybe", sd "pair" "names", sd "pair" "integers", sd "pair" "either", sd "pair" "maybe", sd "either" "names", sd "either" "integers", sd "either" "pair", sd "either" "maybe", sd "maybe" "names", sd "maybe" "integers", sd "maybe" "pair", sd "maybe" "either", isiT, fo S5 (ol ox), hca]
    | @maybe _ s1 a h1 =>
      have tl := tail_oth (t := t) (s := s) (x := some w) (s4 := none) (k1 := some (.int k1)) hn (sd _ _) (sd _ _) (oth_maybe h1) (fun n' S hn' => by
          obtain ⟨m, rfl⟩ := get1 (Kd.maybe h1) hn'
          exact (nt_int (k := .non) rfl (sd _ _) (sd _ _)).2) T2
      rcases hw.inv_maybe with rfl | ⟨x, rfl, hx⟩
      · exact viaTail (passT (by simp only [mk1_ev, mk2_ev, mk3_ev, mk4_ev, sq_ev, set_ev, call_ev, args_ev, argK_ok, args_nil, argK2_ok, callK_ok, List.replicate, c_ev, setK_ok, set0_ev, set1_ev, set2_ev, set3_ev, set4_ev, set5_ev, set6_ev, set7_ev, set8_ev, set9_ev, sqK_nx, sqK_rt, if_ev, tb_ev, t_ev, tK_ok, tru_bl, nt_ev, ntK_ok, and_ev, or_ev, op_ev, opK_ok, opK2_ok, tbK_ok, ifK_t, ifK_f, nx_ev, rt_ev, rtK_ok, mkK_rt, mkK_nx, var0_ev, var1_ev, var2_ev, var3_ev, var4_ev, var5_ev, var6_ev, var7_ev, var8_ev, var9_ev, ixt0, ixt1, ixt2, eq_ss, ne_ss, eq_ii, ne_ii, lt_ii, le_ii, gt_ii, ge_ii, len_tup, av_ev, avK_ok, avK2_t, avK2_f, ov_ev, ovK_ok, ovK2_t, ovK2_f, aK_t, aK_f, oK_t, oK_f, tup_ev, ie_ev, ieK_t, ieK_f, un_ev, unK_ok, ex_ev, exK_ok, Bool.not_true, Bool.not_false, decide_true, decide_false, Nat.reduceSub, d_fblk, sd "names" "integers", sd "names" "pair", sd "names" "either", sd "names" "maybe", sd "integers" "names", sd "integers" "pair", sd "integers" "either", sd "integers" "maybe", sd "pair" "names", sd "pair" "integers", sd "pair" "either", sd "pair" "maybe", sd "either" "names", sd "either" "integers", sd "either" "pair", sd "either" "maybe", sd "maybe" "names", sd "maybe" "integers", sd "maybe" "pair", sd "maybe" "either", sd "none" "some"])) tl
      · cases b with
        | false => exact viaTail (passF rfl) tl
        | true =>
          obtain ⟨x', S4, e4, T4, F4, o4, r4⟩ := ih (by omega) h1 hx T2
          have ol : OkW (n + 1 + 1) (.tup [strW "some", x']) := t2 ((okS "some").mono (by omega)) o4
          refine viaBlk (.tup [strW "some", x']) S4 rfl (by simp only [mk1_ev, mk2_ev, mk3_ev, mk4_ev, sq_ev, set_ev, call_ev, args_ev, argK_ok, args_nil, argK2_ok, callK_ok, List.replicate, c_ev, setK_ok, set0_ev, set1_ev, set2_ev, set3_ev, set4_ev, set5_ev, set6_ev, set7_ev, set8_ev, set9_ev, sqK_nx, sqK_rt, if_ev, tb_ev, t_ev, tK_ok, tru_bl, nt_ev, ntK_ok, and_ev, or_ev, op_ev, opK_ok, opK2_ok, tbK_ok, ifK_t, ifK_f, nx_ev, rt_ev, rtK_ok, mkK_rt, mkK_nx, var0_ev, var1_ev, var2_ev, var3_ev, var4_ev, var5_ev, var6_ev, var7_ev, var8_ev, var9_ev, ixt0, ixt1, ixt2, eq_ss, ne_ss, eq_ii, ne_ii, lt_ii, le_ii, gt_ii, ge_ii, len_tup, av_ev, avK_ok, avK2_t, avK2_f, ov_ev, ovK_ok, ovK2_t, ovK2_f, aK_t, aK_f, oK_t, oK_f, tup_ev, ie_ev, ieK_t, ieK_f, un_ev, unK_ok, ex_ev, exK_ok, Bool.not_true, Bool.not_false, decide_true, decide_false, Nat.reduceSub, d_fblk, sd "names" "integers", sd "names" "pair", sd "names" "either", sd "names" "maybe", sd "integers" "names", sd "integers" "pair", sd "integers" "either", sd "integers" "maybe", sd "pair" "names", sd "pair" "integers", sd "pair" "either", sd "pair" "maybe", sd "either" "names", sd "either" "integers", sd "either" "pair", sd "either" "maybe", sd "maybe" "names", sd "maybe" "integers", sd "maybe" "pair", sd "maybe" "either", e4, tupK_ok (b2 _ _)]) ⟨T4, F4, ol, fun n' S5 hn' => ?_⟩
          obtain ⟨m, rfl⟩ : ∃ m, n' = m + 1 := ⟨n' - 1, by omega⟩
          have hno := none_ok (S := S5) ol (by omega)
          rw [show isNone [strW "some", x'] = false from rfl] at hno
          have fo : f__is_form [.tup [strW "some", x'], .str (Str.ofString "some"), .int 2] S5 = .ok (.bl true) S5 := by
            rw [form_ok ol (by omega) oks (by decide), head_self]
            rfl
          simp only [mk1_ev, mk2_ev, mk3_ev, mk4_ev, sq_ev, set_ev, call_ev, args_ev, argK_ok, args_nil, argK2_ok, callK_ok, List.replicate, c_ev, setK_ok, set0_ev, set1_ev, set2_ev, set3_ev, set4_ev, set5_ev, set6_ev, set7_ev, set8_ev, set9_ev, sqK_nx, sqK_rt, if_ev, tb_ev, t_ev, tK_ok, tru_bl, nt_ev, ntK_ok, and_ev, or_ev, op_ev, opK_ok, opK2_ok, tbK_ok, ifK_t, ifK_f, nx_ev, rt_ev, rtK_ok, mkK_rt, mkK_nx, var0_ev, var1_ev, var2_ev, var3_ev, var4_ev, var5_ev, var6_ev, var7_ev, var8_ev, var9_ev, ixt0, ixt1, ixt2, eq_ss, ne_ss, eq_ii, ne_ii, lt_ii, le_ii, gt_ii, ge_ii, len_tup, av_ev, avK_ok, avK2_t, avK2_f, ov_ev, ovK_ok, ovK2_t, ovK2_f, aK_t, aK_f, oK_t, oK_f, tup_ev, ie_ev, ieK_t, ieK_f, un_ev, unK_ok, ex_ev, exK_ok, Bool.not_true, Bool.not_false, decide_true, decide_false, Nat.reduceSub, f_is_letter, d_is_letter, sd "names" "integers", sd "names" "pair", sd "names" "either", sd "names" "maybe", sd "integers" "names", sd "integers" "pair", sd "integers" "either", sd "integers" "maybe", sd "pair" "names", sd "pair" "integers", sd "pair" "either", sd "pair" "maybe", sd "either" "names", sd "either" "integers", sd "either" "pair", sd "either" "maybe", sd "maybe" "names", sd "maybe" "integers", sd "maybe" "pair", sd "maybe" "either", isiT, tupK_ok (b1 _), hno, fo, r4 m S5 (by omega)]
end G
set_option maxHeartbeats 4000000
namespace G
open PySem L2 Fs
theorem seq_loc {S : Store} {n : Nat} {ws : List W} (h : S[n]? = some (.lst ws)) : seqW S (.loc n) = some ws := lst_loc h
/-! ### words, drawn -/
def WoP (t s : Nat) (S : Store) (k : W) (r : Res W) : Prop := ∃ xs S', r = .ok (.tup xs) S' ∧ Tp S' t s ∧ Fr t S S' ∧ LtW k xs
theorem word_ok {t s : Nat} {z : Int} {k : W} {S : Store} (hk : Kd 4 z k) (hT : Tp S t s) : WoP t s S k (f__law_word [.loc t, k, .tup [.int 20, .int 12], .int 8] S) := by
  obtain ⟨n, S1, e1, T1, F1, l1, u1⟩ := draw_n 9 hT
  have q9 : (8 : Int) + 1 = 9 := rfl
  have rl : (rngW 0 n.toNat).length ≤ 8 := by rw [rngW_len]; omega
  have key := lcLoop_inv (st := fun _ => True) (g := dgName 4) (tt := dYes) (te := dCall (f__law_letter 4) [(dVar 0), (dVar 1), (dVar 2)]) (ls := wipeW [some (.loc t), some k, some (.tup [.int 20, .int 12]), some (.int 8), none] [4]) (D := S1.length)
    (fun i acc S' => Tp S' t s ∧ Fr t S1 S' ∧ S'[S1.length]? = some (.lst acc) ∧ (∀ x ∈ acc, Lt k x) ∧ acc.length = i) (fun _ _ _ _ => trivial) (rngW 0 n.toNat) 0
    (fun i w acc S' ew h => by
      obtain ⟨T, F, hD, hL, hl⟩ := h
      refine ⟨[some (.loc t), some k, some (.tup [.int 20, .int 12]), some (.int 8), some w], true, S', rfl, rfl, fun z => (by cases z), fun _ => ?_⟩
      obtain ⟨x, S2, e2, T2, F2, hx⟩ := letter_ok (m := 20) (q := .int 12) (by decide) (by decide) hk T
      have lt := T1.lt
      have nT : S1.length ≠ t := by omega
      have nS : S1.length ≠ s := by omega
      have hD2 : S2[S1.length]? = some (.lst acc) := F2.get nT hD
      have hi : i < 8 := by
        have := (List.getElem?_eq_some_iff.mp ew).1
        omega
      refine ⟨x, S2, by simp only [mk1_ev, mk2_ev, mk3_ev, mk4_ev, sq_ev, set_ev, call_ev, args_ev, argK_ok, args_nil, argK2_ok, callK_ok, List.replicate, c_ev, setK_ok, set0_ev, set1_ev, set2_ev, set3_ev, set4_ev, set5_ev, set6_ev, set7_ev, set8_ev, set9_ev, sqK_nx, sqK_rt, if_ev, tb_ev, t_ev, tK_ok, tru_bl, nt_ev, ntK_ok, and_ev, or_ev, op_ev, opK_ok, opK2_ok, tbK_ok, ifK_t, ifK_f, nx_ev, rt_ev, rtK_ok, mkK_rt, mkK_nx, var0_ev, var1_ev, var2_ev, var3_ev, var4_ev, var5_ev, var6_ev, var7_ev, var8_ev, var9_ev, ixt0, ixt1, ixt2, eq_ss, ne_ss, eq_ii, ne_ii, lt_ii, le_ii, gt_ii, ge_ii, len_tup, av_ev, avK_ok, avK2_t, avK2_f, ov_ev, ovK_ok, ovK2_t, ovK2_f, aK_t, aK_f, oK_t, oK_f, tup_ev, ie_ev, ieK_t, ieK_f, un_ev, unK_ok, ex_ev, exK_ok, Bool.not_true, Bool.not_false, decide_true, decide_false, Nat.reduceSub, e2], hD2, by omega, T2.other nT nS, (F.trans F2).put (Nat.le_refl _), get_set hD2, fun y hy => ?_, by rw [List.length_append, List.length_singleton, hl]⟩
      rcases List.mem_append.mp hy with hy | hy
      · exact hL y hy
      · rw [List.mem_singleton.mp hy]
        exact hx) [] (S1 ++ [.lst []]) ⟨T1.app, fr_app, get_mid (cs := []), (fun _ h => nomatch h), rfl⟩
  obtain ⟨xs, S2, e2, T2, F2, hD, hL, hl⟩ := key
  refine ⟨xs, S2, ?_, T2, F1.trans F2, hL, by omega⟩
  have r1 : r1K (.ok (.int n) S1) = .ok ⟨rngW 0 n.toNat, fun _ => True⟩ S1 := r1K_ok ⟨by omega, by omega⟩
  have lk : lcK (dgName 4) [4] dYes (dCall (f__law_letter 4) [(dVar 0), (dVar 1), (dVar 2)]) [some (.loc t), some k, some (.tup [.int 20, .int 12]), some (.int 8), none] (.ok ⟨rngW 0 n.toNat, fun _ => True⟩ S1) = .ok (.loc S1.length) S2 := e2
  have tp : gTuple [.loc S1.length] S2 = .ok (.tup xs) S2 := tuple_loc hD
  simp only [mk1_ev, mk2_ev, mk3_ev, mk4_ev, sq_ev, set_ev, call_ev, args_ev, argK_ok, args_nil, argK2_ok, callK_ok, List.replicate, c_ev, setK_ok, set0_ev, set1_ev, set2_ev, set3_ev, set4_ev, set5_ev, set6_ev, set7_ev, set8_ev, set9_ev, sqK_nx, sqK_rt, if_ev, tb_ev, t_ev, tK_ok, tru_bl, nt_ev, ntK_ok, and_ev, or_ev, op_ev, opK_ok, opK2_ok, tbK_ok, ifK_t, ifK_f, nx_ev, rt_ev, rtK_ok, mkK_rt, mkK_nx, var0_ev, var1_ev, var2_ev, var3_ev, var4_ev, var5_ev, var6_ev, var7_ev, var8_ev, var9_ev, ixt0, ixt1, ixt2, eq_ss, ne_ss, eq_ii, ne_ii, lt_ii, le_ii, gt_ii, ge_ii, len_tup, av_ev, avK_ok, avK2_t, avK2_f, ov_ev, ovK_ok, ovK2_t, ovK2_f, aK_t, aK_f, oK_t, oK_f, tup_ev, ie_ev, ieK_t, ieK_f, un_ev, unK_ok, ex_ev, exK_ok, Bool.not_true, Bool.not_false, decide_true, decide_false, Nat.reduceSub, f__law_word, d__law_word, mk_ev, lc_ev, r1_ev, add_ii, q9, e1, r1, lk, tp]
theorem cut_take {ws : List W} {k : Int} (h0 : 0 ≤ k) : cutW ws none (some k) = ws.take k.toNat := by
  unfold cutW
  rw [show HT.sIx ws.length 0 none = 0 from rfl, List.drop_zero, Nat.sub_zero]
  rw [show HT.sIx ws.length ws.length (some k) = min k.toNat ws.length by
    show (if k < 0 then _ else min k.toNat ws.length) = _
    rw [if_neg (by omega)]]
  by_cases h : k.toNat ≤ ws.length
  · rw [Nat.min_eq_left h]
  · rw [Nat.min_eq_right (by omega), List.take_of_length_le (Nat.le_refl _), List.take_of_length_le (by omega)]
theorem cut_drop {ws : List W} {k : Int} (h0 : 0 ≤ k) : cutW ws (some k) none = ws.drop k.toNat := by
  unfold cutW
  rw [show HT.sIx ws.length ws.length none = ws.length from rfl]
  rw [show HT.sIx ws.length 0 (some k) = min k.toNat ws.length by
    show (if k < 0 then _ else min k.toNat ws.length) = _
    rw [if_neg (by omega)]]
  by_cases h : k.toNat ≤ ws.length
  · rw [Nat.min_eq_left h, List.take_of_length_le (by rw [List.length_drop]; omega)]
  · rw [Nat.min_eq_right (by omega), List.drop_of_length_le (Nat.le_refl _), List.drop_of_length_le (by omega), List.take_nil]
theorem sl_take {ws : List W} {k : Int} {S : Store} (h0 : 0 ≤ k) : gSlice (.tup ws) none (some k) S = .ok (.tup (ws.take k.toNat)) S := by rw [slice_t, cut_take h0]
theorem sl_drop {ws : List W} {k : Int} {S : Store} (h0 : 0 ≤ k) : gSlice (.tup ws) (some k) none S = .ok (.tup (ws.drop k.toNat)) S := by rw [slice_t, cut_drop h0]
theorem mem_take {α : Type} {ws : List α} {n : Nat} {P : α → Prop} (h : ∀ x ∈ ws, P x) : ∀ x ∈ ws.take n, P x := fun x hx => h x (List.mem_of_mem_take hx)
theorem mem_drop {α : Type} {ws : List α} {n : Nat} {P : α → Prop} (h : ∀ x ∈ ws, P x) : ∀ x ∈ ws.drop n, P x := fun x hx => h x (List.mem_of_mem_drop hx)
theorem mem_app {α : Type} {xs ys : List α} {P : α → Prop} (h : ∀ x ∈ xs, P x) (h' : ∀ x ∈ ys, P x) : ∀ x ∈ xs ++ ys, P x := fun x hx => by
  rcases List.mem_append.mp hx with hx | hx
  · exact h x hx
  · exact h' x hx
theorem mem_one {α : Type} {y : α} {P : α → Prop} (h : P y) : ∀ x ∈ [y], P x := fun x hx => by rw [List.mem_singleton.mp hx]; exact h
theorem changed_ok {t s : Nat} {z : Int} {k : W} {xs : List W} {S : Store} (hk : Kd 4 z k) (hx : LtW k xs) (hT : Tp S t s) : WoP t s S k (f__law_changed [.loc t, k, .tup xs] S) := by
  obtain ⟨c, S1, e1, T1, F1, l1, u1⟩ := draw_n 6 hT
  by_cases h0 : c = 0 ∨ xs = []
  · obtain ⟨ys, S2, e2, T2, F2, hy⟩ := word_ok hk T1
    refine ⟨ys, S2, ?_, T2, F1.trans F2, hy⟩
    by_cases hc : c = 0
    · have hc' : decide (c = 0) = true := decide_eq_true hc
      simp only [mk1_ev, mk2_ev, mk3_ev, mk4_ev, sq_ev, set_ev, call_ev, args_ev, argK_ok, args_nil, argK2_ok, callK_ok, List.replicate, c_ev, setK_ok, set0_ev, set1_ev, set2_ev, set3_ev, set4_ev, set5_ev, set6_ev, set7_ev, set8_ev, set9_ev, sqK_nx, sqK_rt, if_ev, tb_ev, t_ev, tK_ok, tru_bl, nt_ev, ntK_ok, and_ev, or_ev, op_ev, opK_ok, opK2_ok, tbK_ok, ifK_t, ifK_f, nx_ev, rt_ev, rtK_ok, mkK_rt, mkK_nx, var0_ev, var1_ev, var2_ev, var3_ev, var4_ev, var5_ev, var6_ev, var7_ev, var8_ev, var9_ev, ixt0, ixt1, ixt2, eq_ss, ne_ss, eq_ii, ne_ii, lt_ii, le_ii, gt_ii, ge_ii, len_tup, av_ev, avK_ok, avK2_t, avK2_f, ov_ev, ovK_ok, ovK2_t, ovK2_f, aK_t, aK_f, oK_t, oK_f, tup_ev, ie_ev, ieK_t, ieK_f, un_ev, unK_ok, ex_ev, exK_ok, Bool.not_true, Bool.not_false, decide_true, decide_false, Nat.reduceSub, f__law_changed, d__law_changed, e1, hc', tupK_ok (b2 _ _), e2]
    · have hc' : decide (c = 0) = false := decide_eq_false hc
      have hl : decide (((xs.length : Nat) : Int) = 0) = true := decide_eq_true (by
        rcases h0 with h0 | h0
        · exact absurd h0 hc
        · rw [h0]; rfl)
      simp only [mk1_ev, mk2_ev, mk3_ev, mk4_ev, sq_ev, set_ev, call_ev, args_ev, argK_ok, args_nil, argK2_ok, callK_ok, List.replicate, c_ev, setK_ok, set0_ev, set1_ev, set2_ev, set3_ev, set4_ev, set5_ev, set6_ev, set7_ev, set8_ev, set9_ev, sqK_nx, sqK_rt, if_ev, tb_ev, t_ev, tK_ok, tru_bl, nt_ev, ntK_ok, and_ev, or_ev, op_ev, opK_ok, opK2_ok, tbK_ok, ifK_t, ifK_f, nx_ev, rt_ev, rtK_ok, mkK_rt, mkK_nx, var0_ev, var1_ev, var2_ev, var3_ev, var4_ev, var5_ev, var6_ev, var7_ev, var8_ev, var9_ev, ixt0, ixt1, ixt2, eq_ss, ne_ss, eq_ii, ne_ii, lt_ii, le_ii, gt_ii, ge_ii, len_tup, av_ev, avK_ok, avK2_t, avK2_f, ov_ev, ovK_ok, ovK2_t, ovK2_f, aK_t, aK_f, oK_t, oK_f, tup_ev, ie_ev, ieK_t, ieK_f, un_ev, unK_ok, ex_ev, exK_ok, Bool.not_true, Bool.not_false, decide_true, decide_false, Nat.reduceSub, f__law_changed, d__law_changed, e1, hc', hl, tupK_ok (b2 _ _), e2]
  · have hc : decide (c = 0) = false := decide_eq_false fun q => h0 (.inl q)
    have hne : xs ≠ [] := fun q => h0 (.inr q)
    have hlp : 1 ≤ (xs.length : Int) := by
      cases xs with
      | nil => exact absurd rfl hne
      | cons x r => rw [List.length_cons]; omega
    have hl : decide (((xs.length : Nat) : Int) = 0) = false := decide_eq_false (by omega)
    have x8 := hx.2
    obtain ⟨i, S2, e2, T2, F2, l2, u2⟩ := draw_n (xs.length : Int) T1
    have F02 := F1.trans F2
    by_cases h1 : c = 1
    · have h1' : decide (c = 1) = true := decide_eq_true h1
      refine ⟨xs.take i.toNat, S2, ?_, T2, F02, mem_take hx.1, by rw [List.length_take]; omega⟩
      simp only [mk1_ev, mk2_ev, mk3_ev, mk4_ev, sq_ev, set_ev, call_ev, args_ev, argK_ok, args_nil, argK2_ok, callK_ok, List.replicate, c_ev, setK_ok, set0_ev, set1_ev, set2_ev, set3_ev, set4_ev, set5_ev, set6_ev, set7_ev, set8_ev, set9_ev, sqK_nx, sqK_rt, if_ev, tb_ev, t_ev, tK_ok, tru_bl, nt_ev, ntK_ok, and_ev, or_ev, op_ev, opK_ok, opK2_ok, tbK_ok, ifK_t, ifK_f, nx_ev, rt_ev, rtK_ok, mkK_rt, mkK_nx, var0_ev, var1_ev, var2_ev, var3_ev, var4_ev, var5_ev, var6_ev, var7_ev, var8_ev, var9_ev, ixt0, ixt1, ixt2, eq_ss, ne_ss, eq_ii, ne_ii, lt_ii, le_ii, gt_ii, ge_ii, len_tup, av_ev, avK_ok, avK2_t, avK2_f, ov_ev, ovK_ok, ovK2_t, ovK2_f, aK_t, aK_f, oK_t, oK_f, tup_ev, ie_ev, ieK_t, ieK_f, un_ev, unK_ok, ex_ev, exK_ok, Bool.not_true, Bool.not_false, decide_true, decide_false, Nat.reduceSub, f__law_changed, d__law_changed, e1, hc, hl, e2, h1', sl_ev, slK_ok, nop_ev, slK2_ok, part_ev, partK_ok, slK3_ok, sl_take l2]
    · have h1' : decide (c = 1) = false := decide_eq_false h1
      have tl : (xs.take i.toNat).length ≤ 8 := by rw [List.length_take]; omega
      have dl : ∀ j : Nat, (xs.drop j).length ≤ 8 := fun j => by rw [List.length_drop]; omega
      by_cases h2 : c = 2 ∧ (xs.length : Int) < 8
      · have h2' : decide (c = 2) = true := decide_eq_true h2.1
        have h2'' : decide (((xs.length : Nat) : Int) < 8) = true := decide_eq_true h2.2
        obtain ⟨x, S3, e3, T3, F3, rx⟩ := letter_ok (m := 20) (q := .int 12) (by decide) (by decide) hk T2
        have c1 : ∀ S, gAdd (.tup (xs.take i.toNat)) (.tup [x]) S = .ok (.tup (xs.take i.toNat ++ [x])) S := fun S => cat_tt (by simp only [List.length_singleton]; omega)
        have c2 : ∀ S, gAdd (.tup (xs.take i.toNat ++ [x])) (.tup (xs.drop i.toNat)) S = .ok (.tup ((xs.take i.toNat ++ [x]) ++ xs.drop i.toNat)) S := fun S => cat_tt (by have := dl i.toNat; simp only [List.length_append, List.length_singleton]; omega)
        refine ⟨(xs.take i.toNat ++ [x]) ++ xs.drop i.toNat, S3, ?_, T3, F02.trans F3, mem_app (mem_app (mem_take hx.1) (mem_one rx)) (mem_drop hx.1), ?_⟩
        · simp only [mk1_ev, mk2_ev, mk3_ev, mk4_ev, sq_ev, set_ev, call_ev, args_ev, argK_ok, args_nil, argK2_ok, callK_ok, List.replicate, c_ev, setK_ok, set0_ev, set1_ev, set2_ev, set3_ev, set4_ev, set5_ev, set6_ev, set7_ev, set8_ev, set9_ev, sqK_nx, sqK_rt, if_ev, tb_ev, t_ev, tK_ok, tru_bl, nt_ev, ntK_ok, and_ev, or_ev, op_ev, opK_ok, opK2_ok, tbK_ok, ifK_t, ifK_f, nx_ev, rt_ev, rtK_ok, mkK_rt, mkK_nx, var0_ev, var1_ev, var2_ev, var3_ev, var4_ev, var5_ev, var6_ev, var7_ev, var8_ev, var9_ev, ixt0, ixt1, ixt2, eq_ss, ne_ss, eq_ii, ne_ii, lt_ii, le_ii, gt_ii, ge_ii, len_tup, av_ev, avK_ok, avK2_t, avK2_f, ov_ev, ovK_ok, ovK2_t, ovK2_f, aK_t, aK_f, oK_t, oK_f, tup_ev, ie_ev, ieK_t, ieK_f, un_ev, unK_ok, ex_ev, exK_ok, Bool.not_true, Bool.not_false, decide_true, decide_false, Nat.reduceSub, f__law_changed, d__law_changed, e1, hc, hl, e2, h1', h2', h2'', sl_ev, slK_ok, nop_ev, slK2_ok, part_ev, partK_ok, slK3_ok, sl_take l2, sl_drop l2, tupK_ok (b2 _ _), tupK_ok (b1 _), e3, c1, c2]
        · simp only [List.length_append, List.length_singleton, List.length_take, List.length_drop]
          omega
      · have skip : ∀ {m : DS} {S : Store}, dIf (dAndT (dTB (dOp gEq (dVar 3) (dC (.int 2)))) (dTB (dOp gLt (dCall gLen [(dVar 2)]) (dC (.int 8))))) m dNx [some (.loc t), some k, some (.tup xs), some (.int c), some (.int i)] S = .nx [some (.loc t), some k, some (.tup xs), some (.int c), some (.int i)] S := fun {m S} => by
          by_cases q : c = 2
          · have q' : decide (c = 2) = true := decide_eq_true q
            have q'' : decide (((xs.length : Nat) : Int) < 8) = false := decide_eq_false fun w => h2 ⟨q, w⟩
            simp only [mk1_ev, mk2_ev, mk3_ev, mk4_ev, sq_ev, set_ev, call_ev, args_ev, argK_ok, args_nil, argK2_ok, callK_ok, List.replicate, c_ev, setK_ok, set0_ev, set1_ev, set2_ev, set3_ev, set4_ev, set5_ev, set6_ev, set7_ev, set8_ev, set9_ev, sqK_nx, sqK_rt, if_ev, tb_ev, t_ev, tK_ok, tru_bl, nt_ev, ntK_ok, and_ev, or_ev, op_ev, opK_ok, opK2_ok, tbK_ok, ifK_t, ifK_f, nx_ev, rt_ev, rtK_ok, mkK_rt, mkK_nx, var0_ev, var1_ev, var2_ev, var3_ev, var4_ev, var5_ev, var6_ev, var7_ev, var8_ev, var9_ev, ixt0, ixt1, ixt2, eq_ss, ne_ss, eq_ii, ne_ii, lt_ii, le_ii, gt_ii, ge_ii, len_tup, av_ev, avK_ok, avK2_t, avK2_f, ov_ev, ovK_ok, ovK2_t, ovK2_f, aK_t, aK_f, oK_t, oK_f, tup_ev, ie_ev, ieK_t, ieK_f, un_ev, unK_ok, ex_ev, exK_ok, Bool.not_true, Bool.not_false, decide_true, decide_false, Nat.reduceSub, q', q'']
          · have q' : decide (c = 2) = false := decide_eq_false q
            simp only [mk1_ev, mk2_ev, mk3_ev, mk4_ev, sq_ev, set_ev, call_ev, args_ev, argK_ok, args_nil, argK2_ok, callK_ok, List.replicate, c_ev, setK_ok, set0_ev, set1_ev, set2_ev, set3_ev, set4_ev, set5_ev, set6_ev, set7_ev, set8_ev, set9_ev, sqK_nx, sqK_rt, if_ev, tb_ev, t_ev, tK_ok, tru_bl, nt_ev, ntK_ok, and_ev, or_ev, op_ev, opK_ok, opK2_ok, tbK_ok, ifK_t, ifK_f, nx_ev, rt_ev, rtK_ok, mkK_rt, mkK_nx, var0_ev, var1_ev, var2_ev, var3_ev, var4_ev, var5_ev, var6_ev, var7_ev, var8_ev, var9_ev, ixt0, ixt1, ixt2, eq_ss, ne_ss, eq_ii, ne_ii, lt_ii, le_ii, gt_ii, ge_ii, len_tup, av_ev, avK_ok, avK2_t, avK2_f, ov_ev, ovK_ok, ovK2_t, ovK2_f, aK_t, aK_f, oK_t, oK_f, tup_ev, ie_ev, ieK_t, ieK_f, un_ev, unK_ok, ex_ev, exK_ok, Bool.not_true, Bool.not_false, decide_true, decide_false, Nat.reduceSub, q']
        have pre : ∀ {m : DS} {S' : Store} {ys : List W}, m [some (.loc t), some k, some (.tup xs), some (.int c), some (.int i)] S2 = .rt (.tup ys) S' →
            ∀ {A : DS}, dSeq (dIf (dAndT (dTB (dOp gEq (dVar 3) (dC (.int 2)))) (dTB (dOp gLt (dCall gLen [(dVar 2)]) (dC (.int 8))))) A dNx) m [some (.loc t), some k, some (.tup xs), some (.int c), some (.int i)] S2 = .rt (.tup ys) S' := fun {m S' ys} h {A} => by rw [sq_ev, skip, sqK_nx, h]
        by_cases h3 : c = 3
        · have h3' : decide (c = 3) = true := decide_eq_true h3
          have h2' : decide (c = 2) = false := decide_eq_false (by omega)
          have c1 : ∀ S, gAdd (.tup (xs.drop i.toNat)) (.tup (xs.take i.toNat)) S = .ok (.tup (xs.drop i.toNat ++ xs.take i.toNat)) S := fun S => cat_tt (by have := dl i.toNat; omega)
          refine ⟨xs.drop i.toNat ++ xs.take i.toNat, S2, ?_, T2, F02, mem_app (mem_drop hx.1) (mem_take hx.1), by simp only [List.length_append, List.length_take, List.length_drop]; omega⟩
          simp only [mk1_ev, mk2_ev, mk3_ev, mk4_ev, sq_ev, set_ev, call_ev, args_ev, argK_ok, args_nil, argK2_ok, callK_ok, List.replicate, c_ev, setK_ok, set0_ev, set1_ev, set2_ev, set3_ev, set4_ev, set5_ev, set6_ev, set7_ev, set8_ev, set9_ev, sqK_nx, sqK_rt, if_ev, tb_ev, t_ev, tK_ok, tru_bl, nt_ev, ntK_ok, and_ev, or_ev, op_ev, opK_ok, opK2_ok, tbK_ok, ifK_t, ifK_f, nx_ev, rt_ev, rtK_ok, mkK_rt, mkK_nx, var0_ev, var1_ev, var2_ev, var3_ev, var4_ev, var5_ev, var6_ev, var7_ev, var8_ev, var9_ev, ixt0, ixt1, ixt2, eq_ss, ne_ss, eq_ii, ne_ii, lt_ii, le_ii, gt_ii, ge_ii, len_tup, av_ev, avK_ok, avK2_t, avK2_f, ov_ev, ovK_ok, ovK2_t, ovK2_f, aK_t, aK_f, oK_t, oK_f, tup_ev, ie_ev, ieK_t, ieK_f, un_ev, unK_ok, ex_ev, exK_ok, Bool.not_true, Bool.not_false, decide_true, decide_false, Nat.reduceSub, f__law_changed, d__law_changed, e1, hc, hl, e2, h1', h2', h3', sl_ev, slK_ok, nop_ev, slK2_ok, part_ev, partK_ok, slK3_ok, sl_take l2, sl_drop l2, c1]
        · have h3' : decide (c = 3) = false := decide_eq_false h3
          obtain ⟨y, d1, mm⟩ := atNat (xs := xs) l2 u2
          obtain ⟨x, S3, e3, T3, F3, rx⟩ := near_ok (by decide) hk (hx.1 y mm) T2
          have c1 : ∀ S, gAdd (.tup (xs.take i.toNat)) (.tup [x]) S = .ok (.tup (xs.take i.toNat ++ [x])) S := fun S => cat_tt (by simp only [List.length_singleton]; omega)
          have c2 : ∀ S, gAdd (.tup (xs.take i.toNat ++ [x])) (.tup (xs.drop (i + 1).toNat)) S = .ok (.tup ((xs.take i.toNat ++ [x]) ++ xs.drop (i + 1).toNat)) S := fun S => cat_tt (by have := dl (i + 1).toNat; simp only [List.length_append, List.length_singleton]; omega)
          have l3 : 0 ≤ i + 1 := by omega
          refine ⟨(xs.take i.toNat ++ [x]) ++ xs.drop (i + 1).toNat, S3, ?_, T3, F02.trans F3, mem_app (mem_app (mem_take hx.1) (mem_one rx)) (mem_drop hx.1), ?_⟩
          · by_cases q : c = 2
            · have q' : decide (c = 2) = true := decide_eq_true q
              have q'' : decide (((xs.length : Nat) : Int) < 8) = false := decide_eq_false fun w => h2 ⟨q, w⟩
              simp only [mk1_ev, mk2_ev, mk3_ev, mk4_ev, sq_ev, set_ev, call_ev, args_ev, argK_ok, args_nil, argK2_ok, callK_ok, List.replicate, c_ev, setK_ok, set0_ev, set1_ev, set2_ev, set3_ev, set4_ev, set5_ev, set6_ev, set7_ev, set8_ev, set9_ev, sqK_nx, sqK_rt, if_ev, tb_ev, t_ev, tK_ok, tru_bl, nt_ev, ntK_ok, and_ev, or_ev, op_ev, opK_ok, opK2_ok, tbK_ok, ifK_t, ifK_f, nx_ev, rt_ev, rtK_ok, mkK_rt, mkK_nx, var0_ev, var1_ev, var2_ev, var3_ev, var4_ev, var5_ev, var6_ev, var7_ev, var8_ev, var9_ev, ixt0, ixt1, ixt2, eq_ss, ne_ss, eq_ii, ne_ii, lt_ii, le_ii, gt_ii, ge_ii, len_tup, av_ev, avK_ok, avK2_t, avK2_f, ov_ev, ovK_ok, ovK2_t, ovK2_f, aK_t, aK_f, oK_t, oK_f, tup_ev, ie_ev, ieK_t, ieK_f, un_ev, unK_ok, ex_ev, exK_ok, Bool.not_true, Bool.not_false, decide_true, decide_false, Nat.reduceSub, f__law_changed, d__law_changed, e1, hc, hl, e2, h1', q', q'', h3', sl_ev, slK_ok, nop_ev, slK2_ok, part_ev, partK_ok, slK3_ok, sl_take l2, add_ii, sl_drop l3, ix_t d1, tupK_ok (b1 _), e3, c1, c2]
            · have q' : decide (c = 2) = false := decide_eq_false q
              simp only [mk1_ev, mk2_ev, mk3_ev, mk4_ev, sq_ev, set_ev, call_ev, args_ev, argK_ok, args_nil, argK2_ok, callK_ok, List.replicate, c_ev, setK_ok, set0_ev, set1_ev, set2_ev, set3_ev, set4_ev, set5_ev, set6_ev, set7_ev, set8_ev, set9_ev, sqK_nx, sqK_rt, if_ev, tb_ev, t_ev, tK_ok, tru_bl, nt_ev, ntK_ok, and_ev, or_ev, op_ev, opK_ok, opK2_ok, tbK_ok, ifK_t, ifK_f, nx_ev, rt_ev, rtK_ok, mkK_rt, mkK_nx, var0_ev, var1_ev, var2_ev, var3_ev, var4_ev, var5_ev, var6_ev, var7_ev, var8_ev, var9_ev, ixt0, ixt1, ixt2, eq_ss, ne_ss, eq_ii, ne_ii, lt_ii, le_ii, gt_ii, ge_ii, len_tup, av_ev, avK_ok, avK2_t, avK2_f, ov_ev, ovK_ok, ovK2_t, ovK2_f, aK_t, aK_f, oK_t, oK_f, tup_ev, ie_ev, ieK_t, ieK_f, un_ev, unK_ok, ex_ev, exK_ok, Bool.not_true, Bool.not_false, decide_true, decide_false, Nat.reduceSub, f__law_changed, d__law_changed, e1, hc, hl, e2, h1', q', h3', sl_ev, slK_ok, nop_ev, slK2_ok, part_ev, partK_ok, slK3_ok, sl_take l2, add_ii, sl_drop l3, ix_t d1, tupK_ok (b1 _), e3, c1, c2]
          · simp only [List.length_append, List.length_singleton, List.length_take, List.length_drop]
            omega
end G
set_option maxHeartbeats 4000000
namespace G
open PySem L2 Fs
noncomputable def d_inner : DS := dIf (dNotT (dT (dCall f__law_answers [(dVar 6), (dOp gIx (dVar 7) (dC (.int 0))), (dOp gIx (dVar 7) (dC (.int 1)))]))) (dRet (dC (.bl false))) dNx
noncomputable def d_outer : DS := dFor (dSeqI (dLst [(dTup [(dVar 3), (dVar 4)]), (dTup [(dVar 4), (dVar 3)]), (dTup [(dVar 3), (dVar 5)])])) (dgName 7) d_inner
theorem pair_turn {z : Int} {k : W} {a b : List W} {S : Store} {x0 x1 x2 x3 x4 x5 x8 x9 x10 : Option W} (hk : Kd 4 z k) (ha : LtW k a) (hb : LtW k b) :
    ∃ cs, d_inner [x0, x1, x2, x3, x4, x5, some k, some (.tup [.tup a, .tup b]), x8, x9, x10] S = .nx [x0, x1, x2, x3, x4, x5, some k, some (.tup [.tup a, .tup b]), x8, x9, x10] (S ++ cs) := by
  obtain ⟨cs, e⟩ := answers_ok (S := S) hk ha hb
  exact ⟨cs, by simp only [mk1_ev, mk2_ev, mk3_ev, mk4_ev, sq_ev, set_ev, call_ev, args_ev, argK_ok, args_nil, argK2_ok, callK_ok, List.replicate, c_ev, setK_ok, set0_ev, set1_ev, set2_ev, set3_ev, set4_ev, set5_ev, set6_ev, set7_ev, set8_ev, set9_ev, sqK_nx, sqK_rt, if_ev, tb_ev, t_ev, tK_ok, tru_bl, nt_ev, ntK_ok, and_ev, or_ev, op_ev, opK_ok, opK2_ok, tbK_ok, ifK_t, ifK_f, nx_ev, rt_ev, rtK_ok, mkK_rt, mkK_nx, var0_ev, var1_ev, var2_ev, var3_ev, var4_ev, var5_ev, var6_ev, var7_ev, var8_ev, var9_ev, ixt0, ixt1, ixt2, eq_ss, ne_ss, eq_ii, ne_ii, lt_ii, le_ii, gt_ii, ge_ii, len_tup, av_ev, avK_ok, avK2_t, avK2_f, ov_ev, ovK_ok, ovK2_t, ovK2_f, aK_t, aK_f, oK_t, oK_f, tup_ev, ie_ev, ieK_t, ieK_f, un_ev, unK_ok, ex_ev, exK_ok, Bool.not_true, Bool.not_false, decide_true, decide_false, Nat.reduceSub, d_inner, e]⟩
theorem kind_turn {z : Int} {k : W} {a b c : List W} {S : Store} {x0 x1 x2 x7 x8 x9 x10 : Option W} (hk : Kd 4 z k) (ha : LtW k a) (hb : LtW k b) (hc : LtW k c) :
    ∃ y7 cs, d_outer [x0, x1, x2, some (.tup a), some (.tup b), some (.tup c), some k, x7, x8, x9, x10] S = .nx [x0, x1, x2, some (.tup a), some (.tup b), some (.tup c), some k, y7, x8, x9, x10] (S ++ cs) := by
  let L : List W := [.tup [.tup a, .tup b], .tup [.tup b, .tup a], .tup [.tup a, .tup c]]
  have loop := loop_inv (st := stayOf (.loc S.length) L) (gg := dgName 7) (m := d_inner)
    (fun i ls S' => ∃ y7 cs, ls = [x0, x1, x2, some (.tup a), some (.tup b), some (.tup c), some k, y7, x8, x9, x10] ∧ S' = S ++ .lst L :: cs)
    (fun i ls S' h => by
      obtain ⟨y7, cs, _, rfl⟩ := h
      exact get_mid) L 0
    (fun i w ls S' ew h => by
      obtain ⟨y7, cs, rfl, rfl⟩ := h
      have hw : ∃ p q, w = .tup [.tup p, .tup q] ∧ LtW k p ∧ LtW k q := by
        have := List.mem_of_getElem? ew
        simp only [L, List.mem_cons, List.mem_nil_iff, or_false] at this
        rcases this with rfl | rfl | rfl
        · exact ⟨_, _, rfl, ha, hb⟩
        · exact ⟨_, _, rfl, hb, ha⟩
        · exact ⟨_, _, rfl, ha, hc⟩
      obtain ⟨p, q, rfl, hp, hq⟩ := hw
      obtain ⟨cs', e⟩ := pair_turn (S := S ++ .lst L :: cs) (x0 := x0) (x1 := x1) (x2 := x2) (x3 := some (.tup a)) (x4 := some (.tup b)) (x5 := some (.tup c)) (x8 := x8) (x9 := x9) (x10 := x10) hk hp hq
      exact ⟨_, _, _, rfl, .inl e, ⟨_, cs ++ cs', rfl, by rw [List.append_assoc]; rfl⟩⟩)
    [x0, x1, x2, some (.tup a), some (.tup b), some (.tup c), some k, x7, x8, x9, x10] (S ++ [.lst L]) ⟨_, [], rfl, rfl⟩
  obtain ⟨ls, S', e, y7, cs, rfl, rfl⟩ := loop
  refine ⟨y7, Cell.lst L :: cs, ?_⟩
  unfold d_outer
  have b3' : L.length ≤ 100 := by simp [L]
  simp only [L] at b3' e ⊢
  simp only [mk1_ev, mk2_ev, mk3_ev, mk4_ev, sq_ev, set_ev, call_ev, args_ev, argK_ok, args_nil, argK2_ok, callK_ok, List.replicate, c_ev, setK_ok, set0_ev, set1_ev, set2_ev, set3_ev, set4_ev, set5_ev, set6_ev, set7_ev, set8_ev, set9_ev, sqK_nx, sqK_rt, if_ev, tb_ev, t_ev, tK_ok, tru_bl, nt_ev, ntK_ok, and_ev, or_ev, op_ev, opK_ok, opK2_ok, tbK_ok, ifK_t, ifK_f, nx_ev, rt_ev, rtK_ok, mkK_rt, mkK_nx, var0_ev, var1_ev, var2_ev, var3_ev, var4_ev, var5_ev, var6_ev, var7_ev, var8_ev, var9_ev, ixt0, ixt1, ixt2, eq_ss, ne_ss, eq_ii, ne_ii, lt_ii, le_ii, gt_ii, ge_ii, len_tup, av_ev, avK_ok, avK2_t, avK2_f, ov_ev, ovK_ok, ovK2_t, ovK2_f, aK_t, aK_f, oK_t, oK_f, tup_ev, ie_ev, ieK_t, ieK_f, un_ev, unK_ok, ex_ev, exK_ok, Bool.not_true, Bool.not_false, decide_true, decide_false, Nat.reduceSub, for_ev, si_ev, lst_ev, tupK_ok (b2 _ _), lstK_ok b3', siK_ok, seq_loc (get_mid (cs := [])), siK2_ok, forK_ok]
  exact e
theorem law_true (ns : List Int) (hn : ns.length ≤ 63) : ∃ S, f_law [.rol (ns.map W.int)] [] = .ok (.bl true) S := by
  obtain ⟨S0, e0, T0, l0⟩ := tape_ok ns
  obtain ⟨k, z, S1, e1, T1, F1, hk3, _⟩ := kind_ok (n := 4) (d := 3) (m := 6) (by decide) (by decide) (by decide) (by decide) (by decide) T0
  have hk : Kd 4 z k := hk3.le (by decide)
  have e1' : f__law_kind 4 [.loc 1, .int 3, .int 6] S0 = .ok k S1 := e1
  obtain ⟨a, S2, e2, T2, F2, ha⟩ := word_ok hk T1
  obtain ⟨b, S3, e3, T3, F3, hb⟩ := changed_ok hk ha T2
  obtain ⟨c, S4, e4, T4, F4, hc⟩ := changed_ok hk hb T3
  obtain ⟨k', cs, e5, hT, hL⟩ := turned_ok hk S4
  have hk' : Kd 4 z k' := hT _ hk
  have lw : ∀ {xs : List W}, LtW k xs → LtW k' xs := fun h => ⟨fun x hx => hL x (h.1 x hx), h.2⟩
  have T5 : Tp ((S4 ++ cs) ++ [.lst [k, k', k]]) 1 0 := T4.app.app
  obtain ⟨X0, hX0⟩ : ∃ X : Option W, X = some (.rol (ns.map W.int)) := ⟨_, rfl⟩
  have loop := loop_inv (st := stayOf (.loc (S4 ++ cs).length) [k, k', k]) (gg := dgName 6) (m := d_outer)
    (fun i ls S' => ∃ x6 x7 ds, ls = [X0, some (.loc 1), some k, some (.tup a), some (.tup b), some (.tup c), x6, x7, none, none, none] ∧ S' = (S4 ++ cs) ++ .lst [k, k', k] :: ds)
    (fun i ls S' h => by
      obtain ⟨x6, x7, ds, _, rfl⟩ := h
      exact get_mid) [k, k', k] 0
    (fun i w ls S' ew h => by
      obtain ⟨x6, x7, ds, rfl, rfl⟩ := h
      have hw : ∃ z, Kd 4 z w ∧ LtW w a ∧ LtW w b ∧ LtW w c := by
        have := List.mem_of_getElem? ew
        simp only [List.mem_cons, List.mem_nil_iff, or_false] at this
        rcases this with rfl | rfl | rfl
        · exact ⟨_, hk, ha, hb, hc⟩
        · exact ⟨_, hk', lw ha, lw hb, lw hc⟩
        · exact ⟨_, hk, ha, hb, hc⟩
      obtain ⟨z', hw, wa, wb, wc⟩ := hw
      obtain ⟨y7, ds', e⟩ := kind_turn (S := (S4 ++ cs) ++ .lst [k, k', k] :: ds) (x0 := X0) (x1 := some (.loc 1)) (x2 := some k) (x7 := x7) (x8 := none) (x9 := none) (x10 := none) hw wa wb wc
      exact ⟨_, _, _, rfl, .inl e, ⟨_, _, ds ++ ds', rfl, by rw [List.append_assoc]; rfl⟩⟩)
    [X0, some (.loc 1), some k, some (.tup a), some (.tup b), some (.tup c), none, none, none, none, none] ((S4 ++ cs) ++ [.lst [k, k', k]]) ⟨none, none, [], rfl, rfl⟩
  obtain ⟨ls, S6, e6, x6, x7, ds, rfl, rfl⟩ := loop
  have T6 : Tp ((S4 ++ cs) ++ .lst [k, k', k] :: ds) 1 0 := T4.app.app
  obtain ⟨l, S7, e7, T7, F7, hl⟩ := letter_ok (m := 20) (q := .int 12) (by decide) (by decide) hk T6
  obtain ⟨i, S8, e8, T8, F8, l8, u8⟩ := draw_n 7 T7
  obtain ⟨f, S9, e9, T9, F9, of, hf⟩ := foreign_ok (by decide) hk hl T8
  have hfl : ∀ S, f_is_letter 4 [k, f] S = .ok (.bl false) S := fun S => hf 4 S (by decide)
  have a8 := ha.2
  have c1 : ∀ S, gAdd (.tup (a.take i.toNat)) (.tup [f]) S = .ok (.tup (a.take i.toNat ++ [f])) S := fun S => cat_tt (by rw [List.length_take, List.length_singleton]; omega)
  have c2 : ∀ S, gAdd (.tup (a.take i.toNat ++ [f])) (.tup (a.drop (i + 1).toNat)) S = .ok (.tup (a.take i.toNat ++ f :: a.drop (i + 1).toNat)) S := fun S => by
    rw [cat_tt (by simp only [List.length_append, List.length_singleton, List.length_take, List.length_drop]; omega), List.append_assoc]
    rfl
  have hp : ∀ x ∈ a.take i.toNat, Lt k x := mem_take ha.1
  have l9 : 0 ≤ i + 1 := by omega
  have r1 := refused_l (b := .tup b) (post := a.drop (i + 1).toNat) (S := S9) hk hp (hfl _)
  obtain ⟨g1, e10⟩ := answers_ok (S := S9 ++ errC "BadLetter") hk hb hc
  have r2 := refused_r (post := a.drop (i + 1).toNat) (S := (S9 ++ errC "BadLetter") ++ g1) hk hb.1 hp (hfl _)
  obtain ⟨g2, e11⟩ := answers_ok (S := ((S9 ++ errC "BadLetter") ++ g1) ++ errC "BadLetter") hk hb hb
  refine ⟨(((S9 ++ errC "BadLetter") ++ g1) ++ errC "BadLetter") ++ g2, ?_⟩
  have eLoop : (dFor (dSeqI (dLst [(dVar 2), (dCall (f__law_turned 4) [(dVar 2)]), (dVar 2)])) (dgName 6) d_outer) [X0, some (.loc 1), some k, some (.tup a), some (.tup b), some (.tup c), none, none, none, none, none] S4 = .nx [X0, some (.loc 1), some k, some (.tup a), some (.tup b), some (.tup c), x6, x7, none, none, none] ((S4 ++ cs) ++ .lst [k, k', k] :: ds) := by
    simp only [mk1_ev, mk2_ev, mk3_ev, mk4_ev, sq_ev, set_ev, call_ev, args_ev, argK_ok, args_nil, argK2_ok, callK_ok, List.replicate, c_ev, setK_ok, set0_ev, set1_ev, set2_ev, set3_ev, set4_ev, set5_ev, set6_ev, set7_ev, set8_ev, set9_ev, sqK_nx, sqK_rt, if_ev, tb_ev, t_ev, tK_ok, tru_bl, nt_ev, ntK_ok, and_ev, or_ev, op_ev, opK_ok, opK2_ok, tbK_ok, ifK_t, ifK_f, nx_ev, rt_ev, rtK_ok, mkK_rt, mkK_nx, var0_ev, var1_ev, var2_ev, var3_ev, var4_ev, var5_ev, var6_ev, var7_ev, var8_ev, var9_ev, ixt0, ixt1, ixt2, eq_ss, ne_ss, eq_ii, ne_ii, lt_ii, le_ii, gt_ii, ge_ii, len_tup, av_ev, avK_ok, avK2_t, avK2_f, ov_ev, ovK_ok, ovK2_t, ovK2_f, aK_t, aK_f, oK_t, oK_f, tup_ev, ie_ev, ieK_t, ieK_f, un_ev, unK_ok, ex_ev, exK_ok, Bool.not_true, Bool.not_false, decide_true, decide_false, Nat.reduceSub, for_ev, si_ev, lst_ev, e5, lstK_ok (b3 _ _ _), siK_ok, seq_loc (get_mid (cs := [])), siK2_ok, forK_ok]
    exact e6
  show mkF 11 1 d_law [.rol (ns.map W.int)] [] = _
  unfold d_law
  rw [mk1_ev]
  simp only [List.replicate, Nat.reduceSub]
  rw [sq_ev, show (dSet 1 (dCall f__law_tape [(dVar 0)])) [some (.rol (ns.map W.int)), none, none, none, none, none, none, none, none, none, none] [] = .nx [X0, some (.loc 1), none, none, none, none, none, none, none, none, none] S0 by simp only [mk1_ev, mk2_ev, mk3_ev, mk4_ev, sq_ev, set_ev, call_ev, args_ev, argK_ok, args_nil, argK2_ok, callK_ok, List.replicate, c_ev, setK_ok, set0_ev, set1_ev, set2_ev, set3_ev, set4_ev, set5_ev, set6_ev, set7_ev, set8_ev, set9_ev, sqK_nx, sqK_rt, if_ev, tb_ev, t_ev, tK_ok, tru_bl, nt_ev, ntK_ok, and_ev, or_ev, op_ev, opK_ok, opK2_ok, tbK_ok, ifK_t, ifK_f, nx_ev, rt_ev, rtK_ok, mkK_rt, mkK_nx, var0_ev, var1_ev, var2_ev, var3_ev, var4_ev, var5_ev, var6_ev, var7_ev, var8_ev, var9_ev, ixt0, ixt1, ixt2, eq_ss, ne_ss, eq_ii, ne_ii, lt_ii, le_ii, gt_ii, ge_ii, len_tup, av_ev, avK_ok, avK2_t, avK2_f, ov_ev, ovK_ok, ovK2_t, ovK2_f, aK_t, aK_f, oK_t, oK_f, tup_ev, ie_ev, ieK_t, ieK_f, un_ev, unK_ok, ex_ev, exK_ok, Bool.not_true, Bool.not_false, decide_true, decide_false, Nat.reduceSub, e0, hX0], sqK_nx]
  rw [sq_ev, show (dSet 2 (dCall (f__law_kind 4) [(dVar 1), (dC (.int 3)), (dC (.int 6))])) [X0, some (.loc 1), none, none, none, none, none, none, none, none, none] S0 = .nx [X0, some (.loc 1), some k, none, none, none, none, none, none, none, none] S1 by simp only [mk1_ev, mk2_ev, mk3_ev, mk4_ev, sq_ev, set_ev, call_ev, args_ev, argK_ok, args_nil, argK2_ok, callK_ok, List.replicate, c_ev, setK_ok, set0_ev, set1_ev, set2_ev, set3_ev, set4_ev, set5_ev, set6_ev, set7_ev, set8_ev, set9_ev, sqK_nx, sqK_rt, if_ev, tb_ev, t_ev, tK_ok, tru_bl, nt_ev, ntK_ok, and_ev, or_ev, op_ev, opK_ok, opK2_ok, tbK_ok, ifK_t, ifK_f, nx_ev, rt_ev, rtK_ok, mkK_rt, mkK_nx, var0_ev, var1_ev, var2_ev, var3_ev, var4_ev, var5_ev, var6_ev, var7_ev, var8_ev, var9_ev, ixt0, ixt1, ixt2, eq_ss, ne_ss, eq_ii, ne_ii, lt_ii, le_ii, gt_ii, ge_ii, len_tup, av_ev, avK_ok, avK2_t, avK2_f, ov_ev, ovK_ok, ovK2_t, ovK2_f, aK_t, aK_f, oK_t, oK_f, tup_ev, ie_ev, ieK_t, ieK_f, un_ev, unK_ok, ex_ev, exK_ok, Bool.not_true, Bool.not_false, decide_true, decide_false, Nat.reduceSub, e1'], sqK_nx]
  rw [sq_ev, show (dSet 3 (dCall f__law_word [(dVar 1), (dVar 2), (dTup [(dC (.int 20)), (dC (.int 12))]), (dC (.int 8))])) [X0, some (.loc 1), some k, none, none, none, none, none, none, none, none] S1 = .nx [X0, some (.loc 1), some k, some (.tup a), none, none, none, none, none, none, none] S2 by simp only [mk1_ev, mk2_ev, mk3_ev, mk4_ev, sq_ev, set_ev, call_ev, args_ev, argK_ok, args_nil, argK2_ok, callK_ok, List.replicate, c_ev, setK_ok, set0_ev, set1_ev, set2_ev, set3_ev, set4_ev, set5_ev, set6_ev, set7_ev, set8_ev, set9_ev, sqK_nx, sqK_rt, if_ev, tb_ev, t_ev, tK_ok, tru_bl, nt_ev, ntK_ok, and_ev, or_ev, op_ev, opK_ok, opK2_ok, tbK_ok, ifK_t, ifK_f, nx_ev, rt_ev, rtK_ok, mkK_rt, mkK_nx, var0_ev, var1_ev, var2_ev, var3_ev, var4_ev, var5_ev, var6_ev, var7_ev, var8_ev, var9_ev, ixt0, ixt1, ixt2, eq_ss, ne_ss, eq_ii, ne_ii, lt_ii, le_ii, gt_ii, ge_ii, len_tup, av_ev, avK_ok, avK2_t, avK2_f, ov_ev, ovK_ok, ovK2_t, ovK2_f, aK_t, aK_f, oK_t, oK_f, tup_ev, ie_ev, ieK_t, ieK_f, un_ev, unK_ok, ex_ev, exK_ok, Bool.not_true, Bool.not_false, decide_true, decide_false, Nat.reduceSub, tupK_ok (b2 _ _), e2], sqK_nx]
  rw [sq_ev, show (dSet 4 (dCall f__law_changed [(dVar 1), (dVar 2), (dVar 3)])) [X0, some (.loc 1), some k, some (.tup a), none, none, none, none, none, none, none] S2 = .nx [X0, some (.loc 1), some k, some (.tup a), some (.tup b), none, none, none, none, none, none] S3 by simp only [mk1_ev, mk2_ev, mk3_ev, mk4_ev, sq_ev, set_ev, call_ev, args_ev, argK_ok, args_nil, argK2_ok, callK_ok, List.replicate, c_ev, setK_ok, set0_ev, set1_ev, set2_ev, set3_ev, set4_ev, set5_ev, set6_ev, set7_ev, set8_ev, set9_ev, sqK_nx, sqK_rt, if_ev, tb_ev, t_ev, tK_ok, tru_bl, nt_ev, ntK_ok, and_ev, or_ev, op_ev, opK_ok, opK2_ok, tbK_ok, ifK_t, ifK_f, nx_ev, rt_ev, rtK_ok, mkK_rt, mkK_nx, var0_ev, var1_ev, var2_ev, var3_ev, var4_ev, var5_ev, var6_ev, var7_ev, var8_ev, var9_ev, ixt0, ixt1, ixt2, eq_ss, ne_ss, eq_ii, ne_ii, lt_ii, le_ii, gt_ii, ge_ii, len_tup, av_ev, avK_ok, avK2_t, avK2_f, ov_ev, ovK_ok, ovK2_t, ovK2_f, aK_t, aK_f, oK_t, oK_f, tup_ev, ie_ev, ieK_t, ieK_f, un_ev, unK_ok, ex_ev, exK_ok, Bool.not_true, Bool.not_false, decide_true, decide_false, Nat.reduceSub, e3], sqK_nx]
  rw [sq_ev, show (dSet 5 (dCall f__law_changed [(dVar 1), (dVar 2), (dVar 4)])) [X0, some (.loc 1), some k, some (.tup a), some (.tup b), none, none, none, none, none, none] S3 = .nx [X0, some (.loc 1), some k, some (.tup a), some (.tup b), some (.tup c), none, none, none, none, none] S4 by simp only [mk1_ev, mk2_ev, mk3_ev, mk4_ev, sq_ev, set_ev, call_ev, args_ev, argK_ok, args_nil, argK2_ok, callK_ok, List.replicate, c_ev, setK_ok, set0_ev, set1_ev, set2_ev, set3_ev, set4_ev, set5_ev, set6_ev, set7_ev, set8_ev, set9_ev, sqK_nx, sqK_rt, if_ev, tb_ev, t_ev, tK_ok, tru_bl, nt_ev, ntK_ok, and_ev, or_ev, op_ev, opK_ok, opK2_ok, tbK_ok, ifK_t, ifK_f, nx_ev, rt_ev, rtK_ok, mkK_rt, mkK_nx, var0_ev, var1_ev, var2_ev, var3_ev, var4_ev, var5_ev, var6_ev, var7_ev, var8_ev, var9_ev, ixt0, ixt1, ixt2, eq_ss, ne_ss, eq_ii, ne_ii, lt_ii, le_ii, gt_ii, ge_ii, len_tup, av_ev, avK_ok, avK2_t, avK2_f, ov_ev, ovK_ok, ovK2_t, ovK2_f, aK_t, aK_f, oK_t, oK_f, tup_ev, ie_ev, ieK_t, ieK_f, un_ev, unK_ok, ex_ev, exK_ok, Bool.not_true, Bool.not_false, decide_true, decide_false, Nat.reduceSub, e4], sqK_nx]
  rw [sq_ev]
  refine (congrArg (fun r => mkK (sqK _ r)) eLoop).trans ?_
  show mkK (sqK _ (.nx _ _)) = _
  rw [sqK_nx]
  rw [sq_ev, show (dSet 8 (dCall (f__law_letter 4) [(dVar 1), (dVar 2), (dTup [(dC (.int 20)), (dC (.int 12))])])) [X0, some (.loc 1), some k, some (.tup a), some (.tup b), some (.tup c), x6, x7, none, none, none] ((S4 ++ cs) ++ .lst [k, k', k] :: ds) = .nx [X0, some (.loc 1), some k, some (.tup a), some (.tup b), some (.tup c), x6, x7, some l, none, none] S7 by simp only [mk1_ev, mk2_ev, mk3_ev, mk4_ev, sq_ev, set_ev, call_ev, args_ev, argK_ok, args_nil, argK2_ok, callK_ok, List.replicate, c_ev, setK_ok, set0_ev, set1_ev, set2_ev, set3_ev, set4_ev, set5_ev, set6_ev, set7_ev, set8_ev, set9_ev, sqK_nx, sqK_rt, if_ev, tb_ev, t_ev, tK_ok, tru_bl, nt_ev, ntK_ok, and_ev, or_ev, op_ev, opK_ok, opK2_ok, tbK_ok, ifK_t, ifK_f, nx_ev, rt_ev, rtK_ok, mkK_rt, mkK_nx, var0_ev, var1_ev, var2_ev, var3_ev, var4_ev, var5_ev, var6_ev, var7_ev, var8_ev, var9_ev, ixt0, ixt1, ixt2, eq_ss, ne_ss, eq_ii, ne_ii, lt_ii, le_ii, gt_ii, ge_ii, len_tup, av_ev, avK_ok, avK2_t, avK2_f, ov_ev, ovK_ok, ovK2_t, ovK2_f, aK_t, aK_f, oK_t, oK_f, tup_ev, ie_ev, ieK_t, ieK_f, un_ev, unK_ok, ex_ev, exK_ok, Bool.not_true, Bool.not_false, decide_true, decide_false, Nat.reduceSub, tupK_ok (b2 _ _), e7], sqK_nx]
  rw [sq_ev, show (dSet 9 (dCall f__law_draw [(dVar 1), (dC (.int 7))])) [X0, some (.loc 1), some k, some (.tup a), some (.tup b), some (.tup c), x6, x7, some l, none, none] S7 = .nx [X0, some (.loc 1), some k, some (.tup a), some (.tup b), some (.tup c), x6, x7, some l, some (.int i), none] S8 by simp only [mk1_ev, mk2_ev, mk3_ev, mk4_ev, sq_ev, set_ev, call_ev, args_ev, argK_ok, args_nil, argK2_ok, callK_ok, List.replicate, c_ev, setK_ok, set0_ev, set1_ev, set2_ev, set3_ev, set4_ev, set5_ev, set6_ev, set7_ev, set8_ev, set9_ev, sqK_nx, sqK_rt, if_ev, tb_ev, t_ev, tK_ok, tru_bl, nt_ev, ntK_ok, and_ev, or_ev, op_ev, opK_ok, opK2_ok, tbK_ok, ifK_t, ifK_f, nx_ev, rt_ev, rtK_ok, mkK_rt, mkK_nx, var0_ev, var1_ev, var2_ev, var3_ev, var4_ev, var5_ev, var6_ev, var7_ev, var8_ev, var9_ev, ixt0, ixt1, ixt2, eq_ss, ne_ss, eq_ii, ne_ii, lt_ii, le_ii, gt_ii, ge_ii, len_tup, av_ev, avK_ok, avK2_t, avK2_f, ov_ev, ovK_ok, ovK2_t, ovK2_f, aK_t, aK_f, oK_t, oK_f, tup_ev, ie_ev, ieK_t, ieK_f, un_ev, unK_ok, ex_ev, exK_ok, Bool.not_true, Bool.not_false, decide_true, decide_false, Nat.reduceSub, e8], sqK_nx]
  rw [sq_ev, show (dSet 10 (dOp gAdd (dOp gAdd (dSl (dVar 3) dNoP (dPart (dVar 9))) (dTup [(dCall (f__law_foreign 4) [(dVar 1), (dVar 2), (dVar 8)])])) (dSl (dVar 3) (dPart (dOp gAdd (dVar 9) (dC (.int 1)))) dNoP))) [X0, some (.loc 1), some k, some (.tup a), some (.tup b), some (.tup c), x6, x7, some l, some (.int i), none] S8 = .nx [X0, some (.loc 1), some k, some (.tup a), some (.tup b), some (.tup c), x6, x7, some l, some (.int i), some (.tup (a.take i.toNat ++ f :: a.drop (i + 1).toNat))] S9 by
    have v10 : ∀ {x0 x1 x2 x3 x4 x5 x6 x7 x8 x9 : Option W} {y : Option W} {w : W}, List.set [x0, x1, x2, x3, x4, x5, x6, x7, x8, x9, y] 10 (some w) = [x0, x1, x2, x3, x4, x5, x6, x7, x8, x9, some w] := rfl
    simp only [mk1_ev, mk2_ev, mk3_ev, mk4_ev, sq_ev, set_ev, call_ev, args_ev, argK_ok, args_nil, argK2_ok, callK_ok, List.replicate, c_ev, setK_ok, set0_ev, set1_ev, set2_ev, set3_ev, set4_ev, set5_ev, set6_ev, set7_ev, set8_ev, set9_ev, sqK_nx, sqK_rt, if_ev, tb_ev, t_ev, tK_ok, tru_bl, nt_ev, ntK_ok, and_ev, or_ev, op_ev, opK_ok, opK2_ok, tbK_ok, ifK_t, ifK_f, nx_ev, rt_ev, rtK_ok, mkK_rt, mkK_nx, var0_ev, var1_ev, var2_ev, var3_ev, var4_ev, var5_ev, var6_ev, var7_ev, var8_ev, var9_ev, ixt0, ixt1, ixt2, eq_ss, ne_ss, eq_ii, ne_ii, lt_ii, le_ii, gt_ii, ge_ii, len_tup, av_ev, avK_ok, avK2_t, avK2_f, ov_ev, ovK_ok, ovK2_t, ovK2_f, aK_t, aK_f, oK_t, oK_f, tup_ev, ie_ev, ieK_t, ieK_f, un_ev, unK_ok, ex_ev, exK_ok, Bool.not_true, Bool.not_false, decide_true, decide_false, Nat.reduceSub, sl_ev, slK_ok, nop_ev, slK2_ok, part_ev, partK_ok, slK3_ok, sl_take l8, e9, tupK_ok (b1 _), c1, add_ii, sl_drop l9, c2, v10], sqK_nx]
  have v10 : ∀ {x0 x1 x2 x3 x4 x5 x6 x7 x8 x9 : Option W} {w : W} {S : Store}, dVar 10 [x0, x1, x2, x3, x4, x5, x6, x7, x8, x9, some w] S = .ok w S := rfl
  simp only [mk1_ev, mk2_ev, mk3_ev, mk4_ev, sq_ev, set_ev, call_ev, args_ev, argK_ok, args_nil, argK2_ok, callK_ok, List.replicate, c_ev, setK_ok, set0_ev, set1_ev, set2_ev, set3_ev, set4_ev, set5_ev, set6_ev, set7_ev, set8_ev, set9_ev, sqK_nx, sqK_rt, if_ev, tb_ev, t_ev, tK_ok, tru_bl, nt_ev, ntK_ok, and_ev, or_ev, op_ev, opK_ok, opK2_ok, tbK_ok, ifK_t, ifK_f, nx_ev, rt_ev, rtK_ok, mkK_rt, mkK_nx, var0_ev, var1_ev, var2_ev, var3_ev, var4_ev, var5_ev, var6_ev, var7_ev, var8_ev, var9_ev, ixt0, ixt1, ixt2, eq_ss, ne_ss, eq_ii, ne_ii, lt_ii, le_ii, gt_ii, ge_ii, len_tup, av_ev, avK_ok, avK2_t, avK2_f, ov_ev, ovK_ok, ovK2_t, ovK2_f, aK_t, aK_f, oK_t, oK_f, tup_ev, ie_ev, ieK_t, ieK_f, un_ev, unK_ok, ex_ev, exK_ok, Bool.not_true, Bool.not_false, decide_true, decide_false, Nat.reduceSub, v10, r1, e10, r2, e11]
end G
set_option maxHeartbeats 0
namespace G
open PySem L2 Fs
def h__is_number : He.DefD := ⟨("_is_number", none), "_is_number", "_is_number", defArgs s__is_number, defBody s__is_number, defScope s__is_number, [], []⟩
def h__is_form : He.DefD := ⟨("_is_form", none), "_is_form", "_is_form", defArgs s__is_form, defBody s__is_form, defScope s__is_form, [], []⟩
def h__is_case : He.DefD := ⟨("_is_case", none), "_is_case", "_is_case", defArgs s__is_case, defBody s__is_case, defScope s__is_case, [], []⟩
def h_is_letter : He.DefD := ⟨("is_letter", none), "is_letter", "is_letter", defArgs s_is_letter, defBody s_is_letter, defScope s_is_letter, [], []⟩
def h_check_letter : He.DefD := ⟨("check_letter", none), "check_letter", "check_letter", defArgs s_check_letter, defBody s_check_letter, defScope s_check_letter, [], []⟩
def h_check_word : He.DefD := ⟨("check_word", none), "check_word", "check_word", defArgs s_check_word, defBody s_check_word, defScope s_check_word, [], []⟩
def h_integer_rank : He.DefD := ⟨("integer_rank", none), "integer_rank", "integer_rank", defArgs s_integer_rank, defBody s_integer_rank, defScope s_integer_rank, [], []⟩
def h_rank : He.DefD := ⟨("rank", none), "rank", "rank", defArgs s_rank, defBody s_rank, defScope s_rank, [], []⟩
def h__order : He.DefD := ⟨("_order", none), "_order", "_order", defArgs s__order, defBody s__order, defScope s__order, [], []⟩
def h__word_rank : He.DefD := ⟨("_word_rank", none), "_word_rank", "_word_rank", defArgs s__word_rank, defBody s__word_rank, defScope s__word_rank, [], []⟩
def h_words_compared : He.DefD := ⟨("words_compared", none), "words_compared", "words_compared", defArgs s_words_compared, defBody s_words_compared, defScope s_words_compared, [], []⟩
def h__law_tape : He.DefD := ⟨("_law_tape", none), "_law_tape", "_law_tape", defArgs s__law_tape, defBody s__law_tape, defScope s__law_tape, [], []⟩
def h__law_draw : He.DefD := ⟨("_law_draw", none), "_law_draw", "_law_draw", defArgs s__law_draw, defBody s__law_draw, defScope s__law_draw, [], []⟩
def h__law_whole : He.DefD := ⟨("_law_whole", none), "_law_whole", "_law_whole", defArgs s__law_whole, defBody s__law_whole, defScope s__law_whole, [], []⟩
def h__law_names : He.DefD := ⟨("_law_names", none), "_law_names", "_law_names", defArgs s__law_names, defBody s__law_names, defScope s__law_names, [], []⟩
def h__law_strange : He.DefD := ⟨("_law_strange", none), "_law_strange", "_law_strange", defArgs s__law_strange, defBody s__law_strange, defScope s__law_strange, [], []⟩
def h__law_kinds : He.DefD := ⟨("_law_kinds", none), "_law_kinds", "_law_kinds", defArgs s__law_kinds, defBody s__law_kinds, defScope s__law_kinds, [], []⟩
def h__law_kind : He.DefD := ⟨("_law_kind", none), "_law_kind", "_law_kind", defArgs s__law_kind, defBody s__law_kind, defScope s__law_kind, [], []⟩
def h__law_integer : He.DefD := ⟨("_law_integer", none), "_law_integer", "_law_integer", defArgs s__law_integer, defBody s__law_integer, defScope s__law_integer, [], []⟩
def h__law_letter : He.DefD := ⟨("_law_letter", none), "_law_letter", "_law_letter", defArgs s__law_letter, defBody s__law_letter, defScope s__law_letter, [], []⟩
def h__law_word : He.DefD := ⟨("_law_word", none), "_law_word", "_law_word", defArgs s__law_word, defBody s__law_word, defScope s__law_word, [], []⟩
def h__law_key : He.DefD := ⟨("_law_key", none), "_law_key", "_law_key", defArgs s__law_key, defBody s__law_key, defScope s__law_key, [], []⟩
def h__law_word_key : He.DefD := ⟨("_law_word_key", none), "_law_word_key", "_law_word_key", defArgs s__law_word_key, defBody s__law_word_key, defScope s__law_word_key, [], []⟩
def h__law_is_letter : He.DefD := ⟨("_law_is_letter", none), "_law_is_letter", "_law_is_letter", defArgs s__law_is_letter, defBody s__law_is_letter, defScope s__law_is_letter, [], []⟩
def h__law_error : He.DefD := ⟨("_law_error", none), "_law_error", "_law_error", defArgs s__law_error, defBody s__law_error, defScope s__law_error, [], []⟩
def h__law_turned : He.DefD := ⟨("_law_turned", none), "_law_turned", "_law_turned", defArgs s__law_turned, defBody s__law_turned, defScope s__law_turned, [], []⟩
def h__law_near : He.DefD := ⟨("_law_near", none), "_law_near", "_law_near", defArgs s__law_near, defBody s__law_near, defScope s__law_near, [], []⟩
def h__law_foreign : He.DefD := ⟨("_law_foreign", none), "_law_foreign", "_law_foreign", defArgs s__law_foreign, defBody s__law_foreign, defScope s__law_foreign, [], []⟩
def h__law_refused : He.DefD := ⟨("_law_refused", none), "_law_refused", "_law_refused", defArgs s__law_refused, defBody s__law_refused, defScope s__law_refused, [], []⟩
def h__law_answers : He.DefD := ⟨("_law_answers", none), "_law_answers", "_law_answers", defArgs s__law_answers, defBody s__law_answers, defScope s__law_answers, [], []⟩
def h__law_changed : He.DefD := ⟨("_law_changed", none), "_law_changed", "_law_changed", defArgs s__law_changed, defBody s__law_changed, defScope s__law_changed, [], []⟩
def h_law : He.DefD := ⟨("law", none), "law", "law", defArgs s_law, defBody s_law, defScope s_law, [], []⟩
def hfn : List He.DefD := [h__is_number, h__is_form, h__is_case, h_is_letter, h_check_letter, h_check_word, h_integer_rank, h_rank, h__order, h__word_rank, h_words_compared, h__law_tape, h__law_draw, h__law_whole, h__law_names, h__law_strange, h__law_kinds, h__law_kind, h__law_integer, h__law_letter, h__law_word, h__law_key, h__law_word_key, h__law_is_letter, h__law_error, h__law_turned, h__law_near, h__law_foreign, h__law_refused, h__law_answers, h__law_changed, h_law]
def hfal : List He.Fa := [.glo "_is_number", .glo "_is_form", .glo "_is_case", .glo "is_letter", .glo "check_letter", .glo "check_word", .glo "integer_rank", .glo "rank", .glo "_order", .glo "_word_rank", .glo "words_compared", .glo "_law_tape", .glo "_law_draw", .glo "_law_whole", .glo "_law_names", .glo "_law_strange", .glo "_law_kinds", .glo "_law_kind", .glo "_law_integer", .glo "_law_letter", .glo "_law_word", .glo "_law_key", .glo "_law_word_key", .glo "_law_is_letter", .glo "_law_error", .glo "_law_turned", .glo "_law_near", .glo "_law_foreign", .glo "_law_refused", .glo "_law_answers", .glo "_law_changed", .glo "law", .free "ValueError", .free "abs", .free "bool", .free "int", .free "isinstance", .free "len", .free "list", .free "max", .free "min", .free "range", .free "str", .free "sum", .free "tuple", .glo "GuardError", .glo "BadLetter", .glo "BadCondition", .glo "BadTerm", .glo "OtherKinds", .glo "Unread", .glo "NotPlain", .glo "NotSingle", .glo "TooMany", .glo "UnknownName", .glo "TooLarge", .glo "WrongUse", .glo "InUse", .glo "Circle", .glo "NothingToUndo", .exc "BadLetter"]
abbrev R : PySem.W.OpenRow := PySem.W.OpenLaw.row PySem.Challenge.rw_guardwords_k02_order_of_words
abbrev exB : PySem.W.Frag → Bool := fun K => errB K errNs "GuardError"
abbrev hk : PySem.W.Hook := He.hookX 5 hfal hfn [] [] exB
def ob (s : PySem.W.SharedT) : He.AlX := He.obsX 5 hfal hfn [] [] exB (HandSHeadRun.getT s)
theorem ob_eq (s : PySem.W.SharedT) : ob s = hk.obs s.abs := He.obsX_eq (HandSHeadRun.getT_eq s)
def loose : List PySem.Str := [("GuardError" : PySem.Str), ("BadLetter" : PySem.Str), ("BadCondition" : PySem.Str), ("BadTerm" : PySem.Str), ("OtherKinds" : PySem.Str), ("Unread" : PySem.Str), ("NotPlain" : PySem.Str), ("NotSingle" : PySem.Str), ("TooMany" : PySem.Str), ("UnknownName" : PySem.Str), ("TooLarge" : PySem.Str), ("WrongUse" : PySem.Str), ("InUse" : PySem.Str), ("Circle" : PySem.Str), ("NothingToUndo" : PySem.Str), ("is_letter" : PySem.Str), ("_is_number" : PySem.Str), ("_is_form" : PySem.Str), ("_is_case" : PySem.Str), ("check_letter" : PySem.Str), ("check_word" : PySem.Str), ("integer_rank" : PySem.Str), ("rank" : PySem.Str), ("words_compared" : PySem.Str), ("_word_rank" : PySem.Str), ("_order" : PySem.Str), ("_law_tape" : PySem.Str), ("_law_draw" : PySem.Str), ("_law_whole" : PySem.Str), ("_law_names" : PySem.Str), ("_law_strange" : PySem.Str), ("_law_kinds" : PySem.Str), ("_law_kind" : PySem.Str), ("_law_integer" : PySem.Str), ("_law_letter" : PySem.Str), ("_law_word" : PySem.Str), ("_law_key" : PySem.Str), ("_law_word_key" : PySem.Str), ("_law_is_letter" : PySem.Str), ("_law_error" : PySem.Str), ("_law_turned" : PySem.Str), ("_law_near" : PySem.Str), ("_law_foreign" : PySem.Str), ("_law_refused" : PySem.Str), ("_law_answers" : PySem.Str), ("_law_changed" : PySem.Str)]
theorem run (w : World) : HandSHeadRun.RunEq R (PySem.W.view R.prog [49]) hk ob 8000 loose w := by
  intro os
  kernel_rfl
theorem facts {P : Program} {w : World} {K : PySem.W.Frag} {h : Heap} {mg : Str → Option Value} {f : Addr} (X : K.In h) (Gn : h.Ns mainGlobals mg) (hfa : mg ("law" : Str) = some (.ref f)) (c : He.SaysD hfal hfn K) (cx : exB K = true) :
    ∃ fd : FuncData, (∀ (s : Shared) (v : Value), BindsTo s fd ⟨[v], []⟩ [("script", v)]) ∧ ∀ base : Heap, K.In base → base.Ns mainGlobals mg → FnOk P w K mg base CX0 12 f fd ["script"] (Fs.spLaw K) := by
  obtain ⟨fd__is_number, F__is_number⟩ := c.def_ 0 (d := h__is_number) rfl
  obtain ⟨fd__is_form, F__is_form⟩ := c.def_ 1 (d := h__is_form) rfl
  obtain ⟨fd__is_case, F__is_case⟩ := c.def_ 2 (d := h__is_case) rfl
  obtain ⟨fd_is_letter, F_is_letter⟩ := c.def_ 3 (d := h_is_letter) rfl
  obtain ⟨fd_check_letter, F_check_letter⟩ := c.def_ 4 (d := h_check_letter) rfl
  obtain ⟨fd_check_word, F_check_word⟩ := c.def_ 5 (d := h_check_word) rfl
  obtain ⟨fd_integer_rank, F_integer_rank⟩ := c.def_ 6 (d := h_integer_rank) rfl
  obtain ⟨fd_rank, F_rank⟩ := c.def_ 7 (d := h_rank) rfl
  obtain ⟨fd__order, F__order⟩ := c.def_ 8 (d := h__order) rfl
  obtain ⟨fd__word_rank, F__word_rank⟩ := c.def_ 9 (d := h__word_rank) rfl
  obtain ⟨fd_words_compared, F_words_compared⟩ := c.def_ 10 (d := h_words_compared) rfl
  obtain ⟨fd__law_tape, F__law_tape⟩ := c.def_ 11 (d := h__law_tape) rfl
  obtain ⟨fd__law_draw, F__law_draw⟩ := c.def_ 12 (d := h__law_draw) rfl
  obtain ⟨fd__law_whole, F__law_whole⟩ := c.def_ 13 (d := h__law_whole) rfl
  obtain ⟨fd__law_names, F__law_names⟩ := c.def_ 14 (d := h__law_names) rfl
  obtain ⟨fd__law_strange, F__law_strange⟩ := c.def_ 15 (d := h__law_strange) rfl
  obtain ⟨fd__law_kinds, F__law_kinds⟩ := c.def_ 16 (d := h__law_kinds) rfl
  obtain ⟨fd__law_kind, F__law_kind⟩ := c.def_ 17 (d := h__law_kind) rfl
  obtain ⟨fd__law_integer, F__law_integer⟩ := c.def_ 18 (d := h__law_integer) rfl
  obtain ⟨fd__law_letter, F__law_letter⟩ := c.def_ 19 (d := h__law_letter) rfl
  obtain ⟨fd__law_word, F__law_word⟩ := c.def_ 20 (d := h__law_word) rfl
  obtain ⟨fd__law_key, F__law_key⟩ := c.def_ 21 (d := h__law_key) rfl
  obtain ⟨fd__law_word_key, F__law_word_key⟩ := c.def_ 22 (d := h__law_word_key) rfl
  obtain ⟨fd__law_is_letter, F__law_is_letter⟩ := c.def_ 23 (d := h__law_is_letter) rfl
  obtain ⟨fd__law_error, F__law_error⟩ := c.def_ 24 (d := h__law_error) rfl
  obtain ⟨fd__law_turned, F__law_turned⟩ := c.def_ 25 (d := h__law_turned) rfl
  obtain ⟨fd__law_near, F__law_near⟩ := c.def_ 26 (d := h__law_near) rfl
  obtain ⟨fd__law_foreign, F__law_foreign⟩ := c.def_ 27 (d := h__law_foreign) rfl
  obtain ⟨fd__law_refused, F__law_refused⟩ := c.def_ 28 (d := h__law_refused) rfl
  obtain ⟨fd__law_answers, F__law_answers⟩ := c.def_ 29 (d := h__law_answers) rfl
  obtain ⟨fd__law_changed, F__law_changed⟩ := c.def_ 30 (d := h__law_changed) rfl
  obtain ⟨fd_law, F_law⟩ := c.def_ 31 (d := h_law) rfl
  have g_GuardError := He.glo_ok X Gn (c.fact 45 (f := .glo "GuardError") rfl)
  have g_BadLetter := He.glo_ok X Gn (c.fact 46 (f := .glo "BadLetter") rfl)
  have g_BadCondition := He.glo_ok X Gn (c.fact 47 (f := .glo "BadCondition") rfl)
  have g_BadTerm := He.glo_ok X Gn (c.fact 48 (f := .glo "BadTerm") rfl)
  have g_OtherKinds := He.glo_ok X Gn (c.fact 49 (f := .glo "OtherKinds") rfl)
  have g_Unread := He.glo_ok X Gn (c.fact 50 (f := .glo "Unread") rfl)
  have g_NotPlain := He.glo_ok X Gn (c.fact 51 (f := .glo "NotPlain") rfl)
  have g_NotSingle := He.glo_ok X Gn (c.fact 52 (f := .glo "NotSingle") rfl)
  have g_TooMany := He.glo_ok X Gn (c.fact 53 (f := .glo "TooMany") rfl)
  have g_UnknownName := He.glo_ok X Gn (c.fact 54 (f := .glo "UnknownName") rfl)
  have g_TooLarge := He.glo_ok X Gn (c.fact 55 (f := .glo "TooLarge") rfl)
  have g_WrongUse := He.glo_ok X Gn (c.fact 56 (f := .glo "WrongUse") rfl)
  have g_InUse := He.glo_ok X Gn (c.fact 57 (f := .glo "InUse") rfl)
  have g_Circle := He.glo_ok X Gn (c.fact 58 (f := .glo "Circle") rfl)
  have g_NothingToUndo := He.glo_ok X Gn (c.fact 59 (f := .glo "NothingToUndo") rfl)
  have T : Facts K mg := {
    d__is_number := ⟨_, _, F__is_number, He.glo_ok X Gn (c.fact 0 (f := .glo "_is_number") rfl)⟩
    d__is_form := ⟨_, _, F__is_form, He.glo_ok X Gn (c.fact 1 (f := .glo "_is_form") rfl)⟩
    d__is_case := ⟨_, _, F__is_case, He.glo_ok X Gn (c.fact 2 (f := .glo "_is_case") rfl)⟩
    d_is_letter := ⟨_, _, F_is_letter, He.glo_ok X Gn (c.fact 3 (f := .glo "is_letter") rfl)⟩
    d_check_letter := ⟨_, _, F_check_letter, He.glo_ok X Gn (c.fact 4 (f := .glo "check_letter") rfl)⟩
    d_check_word := ⟨_, _, F_check_word, He.glo_ok X Gn (c.fact 5 (f := .glo "check_word") rfl)⟩
    d_integer_rank := ⟨_, _, F_integer_rank, He.glo_ok X Gn (c.fact 6 (f := .glo "integer_rank") rfl)⟩
    d_rank := ⟨_, _, F_rank, He.glo_ok X Gn (c.fact 7 (f := .glo "rank") rfl)⟩
    d__order := ⟨_, _, F__order, He.glo_ok X Gn (c.fact 8 (f := .glo "_order") rfl)⟩
    d__word_rank := ⟨_, _, F__word_rank, He.glo_ok X Gn (c.fact 9 (f := .glo "_word_rank") rfl)⟩
    d_words_compared := ⟨_, _, F_words_compared, He.glo_ok X Gn (c.fact 10 (f := .glo "words_compared") rfl)⟩
    d__law_tape := ⟨_, _, F__law_tape, He.glo_ok X Gn (c.fact 11 (f := .glo "_law_tape") rfl)⟩
    d__law_draw := ⟨_, _, F__law_draw, He.glo_ok X Gn (c.fact 12 (f := .glo "_law_draw") rfl)⟩
    d__law_whole := ⟨_, _, F__law_whole, He.glo_ok X Gn (c.fact 13 (f := .glo "_law_whole") rfl)⟩
    d__law_names := ⟨_, _, F__law_names, He.glo_ok X Gn (c.fact 14 (f := .glo "_law_names") rfl)⟩
    d__law_strange := ⟨_, _, F__law_strange, He.glo_ok X Gn (c.fact 15 (f := .glo "_law_strange") rfl)⟩
    d__law_kinds := ⟨_, _, F__law_kinds, He.glo_ok X Gn (c.fact 16 (f := .glo "_law_kinds") rfl)⟩
    d__law_kind := ⟨_, _, F__law_kind, He.glo_ok X Gn (c.fact 17 (f := .glo "_law_kind") rfl)⟩
    d__law_integer := ⟨_, _, F__law_integer, He.glo_ok X Gn (c.fact 18 (f := .glo "_law_integer") rfl)⟩
    d__law_letter := ⟨_, _, F__law_letter, He.glo_ok X Gn (c.fact 19 (f := .glo "_law_letter") rfl)⟩
    d__law_word := ⟨_, _, F__law_word, He.glo_ok X Gn (c.fact 20 (f := .glo "_law_word") rfl)⟩
    d__law_key := ⟨_, _, F__law_key, He.glo_ok X Gn (c.fact 21 (f := .glo "_law_key") rfl)⟩
    d__law_word_key := ⟨_, _, F__law_word_key, He.glo_ok X Gn (c.fact 22 (f := .glo "_law_word_key") rfl)⟩
    d__law_is_letter := ⟨_, _, F__law_is_letter, He.glo_ok X Gn (c.fact 23 (f := .glo "_law_is_letter") rfl)⟩
    d__law_error := ⟨_, _, F__law_error, He.glo_ok X Gn (c.fact 24 (f := .glo "_law_error") rfl)⟩
    d__law_turned := ⟨_, _, F__law_turned, He.glo_ok X Gn (c.fact 25 (f := .glo "_law_turned") rfl)⟩
    d__law_near := ⟨_, _, F__law_near, He.glo_ok X Gn (c.fact 26 (f := .glo "_law_near") rfl)⟩
    d__law_foreign := ⟨_, _, F__law_foreign, He.glo_ok X Gn (c.fact 27 (f := .glo "_law_foreign") rfl)⟩
    d__law_refused := ⟨_, _, F__law_refused, He.glo_ok X Gn (c.fact 28 (f := .glo "_law_refused") rfl)⟩
    d__law_answers := ⟨_, _, F__law_answers, He.glo_ok X Gn (c.fact 29 (f := .glo "_law_answers") rfl)⟩
    d__law_changed := ⟨_, _, F__law_changed, He.glo_ok X Gn (c.fact 30 (f := .glo "_law_changed") rfl)⟩
    d_law := ⟨_, _, F_law, He.glo_ok X Gn (c.fact 31 (f := .glo "law") rfl)⟩
    m_ValueError := He.free_ok X Gn (c.fact 32 (f := .free "ValueError") rfl)
    m_abs := He.free_ok X Gn (c.fact 33 (f := .free "abs") rfl)
    m_bool := He.free_ok X Gn (c.fact 34 (f := .free "bool") rfl)
    m_int := He.free_ok X Gn (c.fact 35 (f := .free "int") rfl)
    m_isinstance := He.free_ok X Gn (c.fact 36 (f := .free "isinstance") rfl)
    m_len := He.free_ok X Gn (c.fact 37 (f := .free "len") rfl)
    m_list := He.free_ok X Gn (c.fact 38 (f := .free "list") rfl)
    m_max := He.free_ok X Gn (c.fact 39 (f := .free "max") rfl)
    m_min := He.free_ok X Gn (c.fact 40 (f := .free "min") rfl)
    m_range := He.free_ok X Gn (c.fact 41 (f := .free "range") rfl)
    m_str := He.free_ok X Gn (c.fact 42 (f := .free "str") rfl)
    m_sum := He.free_ok X Gn (c.fact 43 (f := .free "sum") rfl)
    m_tuple := He.free_ok X Gn (c.fact 44 (f := .free "tuple") rfl)
    r_BadLetter := err1_of g_BadLetter (c.fact 60 (f := .exc "BadLetter") rfl)
    errs := errT_of (by simp only [errNs, List.forall_mem_cons, List.forall_mem_nil, and_true]; exact ⟨g_BadLetter, g_BadCondition, g_BadTerm, g_OtherKinds, g_Unread, g_NotPlain, g_NotSingle, g_TooMany, g_UnknownName, g_TooLarge, g_WrongUse, g_InUse, g_Circle, g_NothingToUndo, fun _ h => nomatch h⟩) g_GuardError cx
  }
  have e := hfa.symm.trans (He.glo_ok X Gn (c.fact 31 (f := .glo "law") rfl))
  cases e
  exact law_fin (ok_law (P := P) (w := w) T) (He.glo_ok X Gn (c.fact 31 (f := .glo "law") rfl)) law_true
end G
open PySem PySem.W PySem.Calls PyProof.Rows
theorem PySem.Challenge.cw_guardwords_k02_order_of_words_holds : PySem.Challenge.rw_guardwords_k02_order_of_words.Holds := by
  w_on; o_law
  refine HandSHeadRun.head_any (r := OpenLaw.row PySem.Challenge.rw_guardwords_k02_order_of_words) (q := view (OpenLaw.row PySem.Challenge.rw_guardwords_k02_order_of_words).prog [49]) (H := G.hk) (ob := G.ob) (M := 8000) (loose := G.loose) (d := HandSHeadRun.topDef (OpenLaw.row PySem.Challenge.rw_guardwords_k02_order_of_words).prog 49) (kwd := []) G.ob_eq
    (by kernel_rfl) (fun s => by kernel_rfl) G.run (by kernel_rfl) (by kernel_rfl) (by kernel_rfl) (by rfl) (by first | assumption | decide +kernel) (by decide +kernel) ⟨rfl, rfl, rfl, rfl, rfl, by decide +kernel⟩ ?hw ?hc
  case hw => w_witness2
  case hc =>
    refine L2.walk_ofE (l := PySem.Challenge.rw_guardwords_k02_order_of_words) (n := 63) (k := 12) (x := "script") (CX := L2.CX0) rfl (by decide) (by kernel_rfl) ⟨rfl, by decide, by decide⟩ ?F (fun _ _ _ _ z => z)
    intro w mg fa h Y Gn hmg0
    obtain ⟨K, KX, c⟩ := Y
    have hmg : mg ("law" : PySem.Str) = some (.ref fa) := by
      have e : (HandSHeadRun.topDef (OpenLaw.row PySem.Challenge.rw_guardwords_k02_order_of_words).prog 49).name = ("law" : PySem.Str) := by kernel_rfl
      rw [← e]
      exact hmg0
    obtain ⟨fd, hb, hF⟩ := G.facts (P := (PySem.Challenge.rw_guardwords_k02_order_of_words).prog) (w := w) KX Gn hmg c.t.d c.more
    exact ⟨K, fd, Fs.spLaw K, KX, hb, fun H a ns hl o hS => ⟨a, ns, rfl, Fs.RoL.of_only o hS, hl, fun _ => rfl⟩, hF⟩

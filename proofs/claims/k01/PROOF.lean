import PyProof.Rows.All
import Wide.All
import OpenK.AllK
import Wide.FinOn
import HandS.ForMost
import HandS.Wide
import HandS.Exc
import HandS.ExcInit
import HandS.IsInst
import HandS.Codes
import HandS.Style
import HandS.Deep
import HandS.WideBits
import HandS.Walk
import HandS.RaiseMore
import HandS.ExcIs
import KE.KExcIs
import HandS.ExcValue
import PyProof.ReprRoads
import PyProof.ReprLen
import HandS.Ends
import PySem.Challenge.RW_owedrebuilds_k01_errors_made
set_option Elab.async false
set_option linter.all false
set_option maxRecDepth 100000
set_option maxHeartbeats 4000000
/-! What a value is worth: data of any depth, told apart from the objects that a def still changes. -/
namespace DL
open PySem L2

inductive Da where
  | non | bl (b : Bool) | int (i : Int) | str (x : Str) | ty (n : String) | cls (a : Addr)
  | tup (ds : List Da) | lst (ds : List Da) | scr (ns : List Int)
  | dct (kvs : List (Str × Da))
  | exc (C : Addr) (fs : List (Str × Da))
  | obj (C : Addr) (fs : List (Str × Da))

def Ex (H H' : Hp) : Prop := ∀ a o, H a = some o → H' a = some o
theorem Ex.refl (H : Hp) : Ex H H := fun _ _ h => h
theorem Ex.trans {H H1 H2 : Hp} (a : Ex H H1) (b : Ex H1 H2) : Ex H H2 := fun x o h => b x o (a x o h)
theorem Ex.rd {H H' : Hp} {a : Addr} {u : HO} (e : Ex H H') (h : Rd H a u) : Rd H' a u := by
  rcases h with h | ⟨o, h⟩
  · exact Or.inl (e a _ h)
  · exact Or.inr ⟨o, e a _ h⟩
theorem Ex.l {K : PySem.W.Frag} {H H' : Hp} {a : Addr} {xs : List V} (e : Ex H H') (h : SqL K H a xs) : SqL K H' a xs := by
  rcases h with h | h
  · exact Or.inl (e.rd h)
  · exact Or.inr h
theorem Ex.t {K : PySem.W.Frag} {H H' : Hp} {a : Addr} {xs : List V} (e : Ex H H') (h : SqT K H a xs) : SqT K H' a xs := by
  rcases h with h | h
  · exact Or.inl (e.rd h)
  · exact Or.inr h
theorem Ex.gone {H H' : Hp} {p : Addr} (e : Ex H H') (h : H' p = none) : H p = none := by
  cases h1 : H p with
  | none => rfl
  | some o =>
    rw [e p o h1] at h
    cases h
theorem Ex.new {H : Hp} {p : Addr} {o : HO} (h : H p = none) : Ex H (upd H p o) := fun a u e => by
  rw [upd_ne (ne_of_none e h)]
  exact e

mutual
inductive Rep (K : PySem.W.Frag) (I : Hp) : V → Da → Prop
  | non : Rep K I .non .non
  | bl (b : Bool) : Rep K I (.bl b) (.bl b)
  | int (i : Int) : Rep K I (.int i) (.int i)
  | str (x : Str) : Rep K I (.str x) (.str x)
  | ty (n : String) : Rep K I (.ty n) (.ty n)
  | cls (a : Addr) : Rep K I (.ref a) (.cls a)
  | tup {a : Addr} {xs : List V} {ds : List Da} : SqT K I a xs → RepL K I xs ds → Rep K I (.ref a) (.tup ds)
  | lst {a : Addr} {xs : List V} {ds : List Da} : I a = some (.lst xs) → RepL K I xs ds → Rep K I (.ref a) (.lst ds)
  | scr {a : Addr} {ns : List Int} : SqL K I a (ns.map V.int) → Rep K I (.ref a) (.scr ns)
  | dct {a : Addr} {kvs : List (Key × V)} {ds : List (Str × Da)} : I a = some (.dK kvs) → RepK K I kvs ds → Rep K I (.ref a) (.dct ds)
  | exc {a C d : Addr} {fs : List (Str × V)} {ds : List (Str × Da)} : I a = some (exo a C (some d)) → I d = some (exd d fs) → RepF K I fs ds → Rep K I (.ref a) (.exc C ds)
  | exc0 {a C : Addr} : I a = some (exo a C none) → Rep K I (.ref a) (.exc C [])
  | obj {a C dx : Addr} {fs : List (Str × V)} {ds : List (Str × Da)} : I a = some (.ins C dx fs) → RepF K I fs ds → Rep K I (.ref a) (.obj C ds)
inductive RepL (K : PySem.W.Frag) (I : Hp) : List V → List Da → Prop
  | nil : RepL K I [] []
  | cons {v : V} {vs : List V} {d : Da} {ds : List Da} : Rep K I v d → RepL K I vs ds → RepL K I (v :: vs) (d :: ds)
inductive RepF (K : PySem.W.Frag) (I : Hp) : List (Str × V) → List (Str × Da) → Prop
  | nil : RepF K I [] []
  | cons {f : Str} {v : V} {vs : List (Str × V)} {d : Da} {ds : List (Str × Da)} : Rep K I v d → RepF K I vs ds → RepF K I ((f, v) :: vs) ((f, d) :: ds)
inductive RepK (K : PySem.W.Frag) (I : Hp) : List (Key × V) → List (Str × Da) → Prop
  | nil : RepK K I [] []
  | cons {f : Str} {v : V} {vs : List (Key × V)} {d : Da} {ds : List (Str × Da)} : Rep K I v d → RepK K I vs ds → RepK K I ((.inr f, v) :: vs) ((f, d) :: ds)
end

mutual
theorem Rep.mono {K : PySem.W.Frag} {I I' : Hp} (e : Ex I I') : ∀ {v : V} {d : Da}, Rep K I v d → Rep K I' v d
  | _, _, .non => .non
  | _, _, .bl b => .bl b
  | _, _, .int b => .int b
  | _, _, .str b => .str b
  | _, _, .ty b => .ty b
  | _, _, .cls b => .cls b
  | _, _, .tup h r => .tup (e.t h) (r.mono e)
  | _, _, .lst h r => .lst (e _ _ h) (r.mono e)
  | _, _, .scr h => .scr (e.l h)
  | _, _, .dct h r => .dct (e _ _ h) (r.mono e)
  | _, _, .exc h h2 r => .exc (e _ _ h) (e _ _ h2) (r.mono e)
  | _, _, .exc0 h => .exc0 (e _ _ h)
  | _, _, .obj h r => .obj (e _ _ h) (r.mono e)
theorem RepL.mono {K : PySem.W.Frag} {I I' : Hp} (e : Ex I I') : ∀ {v : List V} {d : List Da}, RepL K I v d → RepL K I' v d
  | _, _, .nil => .nil
  | _, _, .cons h t => .cons (h.mono e) (t.mono e)
theorem RepF.mono {K : PySem.W.Frag} {I I' : Hp} (e : Ex I I') : ∀ {v : List (Str × V)} {d : List (Str × Da)}, RepF K I v d → RepF K I' v d
  | _, _, .nil => .nil
  | _, _, .cons h t => .cons (h.mono e) (t.mono e)
theorem RepK.mono {K : PySem.W.Frag} {I I' : Hp} (e : Ex I I') : ∀ {v : List (Key × V)} {d : List (Str × Da)}, RepK K I v d → RepK K I' v d
  | _, _, .nil => .nil
  | _, _, .cons h t => .cons (h.mono e) (t.mono e)
end
/-- worth that no object bears -/
def flat : Da → Bool
  | .non => true | .bl _ => true | .int _ => true | .str _ => true | .ty _ => true | .cls _ => true
  | _ => false
theorem Rep.flat {K : PySem.W.Frag} {I I' : Hp} {v : V} {d : Da} (h : Rep K I v d) (f : flat d = true) : Rep K I' v d := by
  cases h <;> first | (constructor; done) | cases f
end DL
namespace DL
open PySem L2

/-! ### what a piece of code may do to the heaps: I data, H all that is tracked, F what may change -/
structure Step (F : List Addr) (I H I' H' : Hp) : Prop where
  ii : Ex I I'
  keep : ∀ a o, H a = some o → a ∉ F → H' a = some o
  own : ∀ a, H a ≠ none → I a = none → I' a = none
  alive : ∀ a, H a ≠ none → H' a ≠ none
theorem Step.refl (F : List Addr) (I H : Hp) : Step F I H I H := ⟨Ex.refl I, fun _ _ h _ => h, fun _ _ h => h, fun _ h => h⟩
theorem Step.trans {F F1 : List Addr} {I H I1 H1 I2 H2 : Hp} (a : Step F I H I1 H1) (b : Step F1 I1 H1 I2 H2) (hF : ∀ x ∈ F1, x ∈ F ∨ H x = none) : Step F I H I2 H2 where
  ii := a.ii.trans b.ii
  keep := fun x o h n => b.keep x o (a.keep x o h n) fun z => by
    rcases hF x z with q | q
    · exact n q
    · rw [h] at q; cases q
  own := fun x h n => b.own x (a.alive x h) (a.own x h n)
  alive := fun x h => b.alive x (a.alive x h)
theorem Step.wide {F G : List Addr} {I H I' H' : Hp} (a : Step F I H I' H') (h : ∀ x ∈ F, x ∈ G) : Step G I H I' H' :=
  ⟨a.ii, fun x o q n => a.keep x o q fun z => n (h x z), a.own, a.alive⟩
theorem Step.gone {F : List Addr} {I H I' H' : Hp} (a : Step F I H I' H') {p : Addr} (h : H' p = none) : H p = none := by
  cases q : H p with
  | none => rfl
  | some o => exact absurd h (a.alive p (by rw [q]; simp))
/-- a new object that is data | that is still changed -/
theorem Step.new {F : List Addr} {I H : Hp} {p : Addr} {o : HO} (hp : H p = none) (e : Ex I H) : Step F I H (upd I p o) (upd H p o) where
  ii := Ex.new (e.gone hp)
  keep := fun a u h _ => by rw [upd_ne (ne_of_none h hp)]; exact h
  own := fun a h n => by
    have : a ≠ p := fun z => h (by rw [z]; exact hp)
    rw [upd_ne this]; exact n
  alive := fun a h => by
    have : a ≠ p := fun z => h (by rw [z]; exact hp)
    rw [upd_ne this]; exact h
theorem Step.fresh {F : List Addr} {I H : Hp} {p : Addr} {o : HO} (hp : H p = none) : Step F I H I (upd H p o) where
  ii := Ex.refl I
  keep := fun a u h _ => by rw [upd_ne (ne_of_none h hp)]; exact h
  own := fun a h n => n
  alive := fun a h => by
    have : a ≠ p := fun z => h (by rw [z]; exact hp)
    rw [upd_ne this]; exact h
theorem Step.put {F : List Addr} {I H : Hp} {p : Addr} {o : HO} (hp : p ∈ F) (hh : H p ≠ none) : Step F I H I (upd H p o) where
  ii := Ex.refl I
  keep := fun a u h n => by rw [upd_ne (fun z => n (by rw [z]; exact hp))]; exact h
  own := fun a h n => n
  alive := fun a h => by
    by_cases z : a = p
    · rw [z, upd_same]; simp
    · rw [upd_ne z]; exact h

/-! ### what still changes -/
inductive MK where
  | pool (c : Nat)
  | ml (ds : List Da)
  | md (kvs : List (Str × Da))
  | ins (C dx : Addr) (fs : List (Str × Da))
  | exn (C : Addr) (d : Option Addr) (fs : List (Str × Da))
  | mo (refs : List (Str × Addr))
/-- a dict whose values are objects that still change -/
def refsK (refs : List (Str × Addr)) : List (Key × V) := refs.map fun p => (Sum.inr p.1, V.ref p.2)
/-- the draws' pool: its three numbers; c bounds how often it was drawn from -/
def PoolAt (H : Hp) (a : Addr) (c : Nat) : Prop :=
  ∃ d m k : Int, H a = some (.lst [.int d, .int m, .int k]) ∧ 0 ≤ d ∧ 0 ≤ m ∧ m < 2 ^ 95 ∧ 0 ≤ k ∧ k ≤ c
def MOk (K : PySem.W.Frag) (I H : Hp) (F : List Addr) (a : Addr) : MK → Prop
  | .pool c => F = [a] ∧ PoolAt H a c
  | .ml ds => F = [a] ∧ ∃ xs, H a = some (.lst xs) ∧ RepL K I xs ds
  | .md ds => F = [a] ∧ ∃ xs, H a = some (.dK xs) ∧ RepK K I xs ds
  | .ins C dx fs => F = [a, dx] ∧ ∃ xs, H a = some (.ins C dx xs) ∧ RepF K I xs fs ∧ H dx = some (.own a)
  | .exn C none fs => F = [a] ∧ fs = [] ∧ H a = some (exo a C none)
  | .exn C (some dx) fs => F = [a, dx] ∧ ∃ xs, H a = some (exo a C (some dx)) ∧ H dx = some (exd dx xs) ∧ RepF K I xs fs
  | .mo refs => F = [a] ∧ H a = some (.dK (refsK refs))
theorem MOk.mono {K : PySem.W.Frag} {I H I' H' : Hp} {F : List Addr} {a : Addr} {k : MK} (e : Ex I I') (h : ∀ x ∈ F, H' x = H x) (q : MOk K I H F a k) : MOk K I' H' F a k := by
  cases k with
  | pool c =>
    obtain ⟨rfl, d, m, k, h1, r⟩ := q
    exact ⟨rfl, d, m, k, (h a (by simp)).trans h1, r⟩
  | ml ds =>
    obtain ⟨rfl, xs, h1, r⟩ := q
    exact ⟨rfl, xs, (h a (by simp)).trans h1, r.mono e⟩
  | md ds =>
    obtain ⟨rfl, xs, h1, r⟩ := q
    exact ⟨rfl, xs, (h a (by simp)).trans h1, r.mono e⟩
  | ins C dx fs =>
    obtain ⟨rfl, xs, h1, r, h2⟩ := q
    exact ⟨rfl, xs, (h a (by simp)).trans h1, r.mono e, (h dx (by simp)).trans h2⟩
  | exn C d fs =>
    cases d with
    | none =>
      obtain ⟨rfl, z, h1⟩ := q
      exact ⟨rfl, z, (h a (by simp)).trans h1⟩
    | some dx =>
      obtain ⟨rfl, xs, h1, h2, r⟩ := q
      exact ⟨rfl, xs, (h a (by simp)).trans h1, (h dx (by simp)).trans h2, r.mono e⟩
  | mo refs =>
    obtain ⟨rfl, h1⟩ := q
    exact ⟨rfl, (h a (by simp)).trans h1⟩
theorem MOk.mem {K : PySem.W.Frag} {I H : Hp} {F : List Addr} {a : Addr} {k : MK} (q : MOk K I H F a k) : a ∈ F := by
  cases k with
  | pool c => obtain ⟨rfl, _⟩ := q; simp
  | ml ds => obtain ⟨rfl, _⟩ := q; simp
  | md ds => obtain ⟨rfl, _⟩ := q; simp
  | ins C dx fs => obtain ⟨rfl, _⟩ := q; simp
  | exn C d fs =>
    cases d with
    | none => obtain ⟨rfl, _⟩ := q; simp
    | some dx => obtain ⟨rfl, _⟩ := q; simp
  | mo refs => obtain ⟨rfl, _⟩ := q; simp
theorem MOk.live {K : PySem.W.Frag} {I H : Hp} {F : List Addr} {a : Addr} {k : MK} (q : MOk K I H F a k) : ∀ x ∈ F, H x ≠ none := by
  cases k with
  | pool c =>
    obtain ⟨rfl, _, _, _, h, _⟩ := q
    intro x hx
    have : x = a := by simpa using hx
    rw [this, h]; simp
  | ml ds =>
    obtain ⟨rfl, _, h, _⟩ := q
    intro x hx
    have : x = a := by simpa using hx
    rw [this, h]; simp
  | md ds =>
    obtain ⟨rfl, _, h, _⟩ := q
    intro x hx
    have : x = a := by simpa using hx
    rw [this, h]; simp
  | ins C dx fs =>
    obtain ⟨rfl, xs, h1, _, h2⟩ := q
    intro x hx
    rcases (by simpa using hx : x = a ∨ x = dx) with z | z
    · rw [z, h1]; simp
    · rw [z, h2]; simp
  | exn C d fs =>
    cases d with
    | none =>
      obtain ⟨rfl, _, h⟩ := q
      intro x hx
      have : x = a := by simpa using hx
      rw [this, h]; simp
    | some dx =>
      obtain ⟨rfl, xs, h1, h2, _⟩ := q
      intro x hx
      rcases (by simpa using hx : x = a ∨ x = dx) with z | z
      · rw [z, h1]; simp
      · rw [z, h2]; simp
  | mo refs =>
    obtain ⟨rfl, h⟩ := q
    intro x hx
    have : x = a := by simpa using hx
    rw [this, h]; simp
/-- address, what it is, whether it is the def's own (it may become data) -/
abbrev Mu := List (Addr × MK × Bool)
/-- Lc: the addresses that are the def's own -/
inductive MuOk (K : PySem.W.Frag) (Lc : Addr → Prop) (I H : Hp) : List Addr → Mu → Prop
  | nil : MuOk K Lc I H [] []
  | cons {F G : List Addr} {a : Addr} {k : MK} {fl : Bool} {μ : Mu} : MOk K I H F a k → (∀ x ∈ F, I x = none) → (∀ x ∈ F, x ∉ G) → F.Nodup → (fl = true → ∀ x ∈ F, Lc x) → MuOk K Lc I H G μ → MuOk K Lc I H (F ++ G) ((a, k, fl) :: μ)
theorem MuOk.mono {K : PySem.W.Frag} {Lc Lc' : Addr → Prop} {I H I' H' : Hp} {F : List Addr} {μ : Mu} (e : Ex I I') (h : ∀ x ∈ F, H' x = H x) (hn : ∀ x ∈ F, I' x = none) (hl : ∀ x ∈ F, Lc x → Lc' x) (q : MuOk K Lc I H F μ) : MuOk K Lc' I' H' F μ := by
  induction q with
  | nil => exact .nil
  | cons m n d nd l q ih =>
    exact .cons (m.mono e fun x hx => h x (List.mem_append_left _ hx)) (fun x hx => hn x (List.mem_append_left _ hx)) d nd (fun z x hx => hl x (List.mem_append_left _ hx) (l z x hx))
      (ih (fun x hx => h x (List.mem_append_right _ hx)) (fun x hx => hn x (List.mem_append_right _ hx)) fun x hx => hl x (List.mem_append_right _ hx))
theorem MuOk.live {K : PySem.W.Frag} {Lc : Addr → Prop} {I H : Hp} {F : List Addr} {μ : Mu} (q : MuOk K Lc I H F μ) : ∀ x ∈ F, I x = none ∧ H x ≠ none := by
  induction q with
  | nil => intro x hx; cases hx
  | cons m n d nd l q ih =>
    intro x hx
    rcases List.mem_append.mp hx with z | z
    · exact ⟨n x z, m.live x z⟩
    · exact ih x z
theorem MuOk.nodup {K : PySem.W.Frag} {Lc : Addr → Prop} {I H : Hp} {F : List Addr} {μ : Mu} (q : MuOk K Lc I H F μ) : F.Nodup := by
  induction q with
  | nil => exact List.nodup_nil
  | cons m n d nd l q ih => exact List.nodup_append.mpr ⟨nd, ih, fun x hx y hy e => d x hx (e ▸ hy)⟩

/-! ### slots -/
inductive SK where
  | any | dat (d : Da) | own (a : Addr)
def SOk (K : PySem.W.Frag) (I : Hp) : Option V → SK → Prop
  | _, .any => True
  | some v, .dat d => Rep K I v d
  | some v, .own a => v = .ref a
  | none, _ => False
theorem SOk.mono {K : PySem.W.Frag} {I I' : Hp} (e : Ex I I') {o : Option V} {k : SK} (h : SOk K I o k) : SOk K I' o k := by
  cases k with
  | any => cases o <;> trivial
  | dat d =>
    cases o with
    | none => exact h
    | some v => exact Rep.mono e h
  | own a =>
    cases o with
    | none => exact h
    | some v => exact h
inductive SlOk (K : PySem.W.Frag) (I : Hp) : St → List SK → Prop
  | nil : SlOk K I [] []
  | cons {o : Option V} {k : SK} {σ : St} {δ : List SK} : SOk K I o k → SlOk K I σ δ → SlOk K I (o :: σ) (k :: δ)
theorem SlOk.mono {K : PySem.W.Frag} {I I' : Hp} (e : Ex I I') {σ : St} {δ : List SK} (h : SlOk K I σ δ) : SlOk K I' σ δ := by
  induction h with
  | nil => exact .nil
  | cons h t ih => exact .cons (h.mono e) ih
theorem SlOk.length {K : PySem.W.Frag} {I : Hp} {σ : St} {δ : List SK} (h : SlOk K I σ δ) : σ.length = δ.length := by
  induction h with
  | nil => rfl
  | cons _ _ ih => simp [ih]
theorem SlOk.set {K : PySem.W.Frag} {I : Hp} {σ : St} {δ : List SK} (h : SlOk K I σ δ) {o : Option V} {k : SK} (q : SOk K I o k) : ∀ i : Nat, SlOk K I (σ.set i o) (δ.set i k) := by
  induction h with
  | nil => intro i; exact .nil
  | cons h t ih =>
    intro i
    cases i with
    | zero => exact .cons q t
    | succ i => exact .cons h (ih i)
theorem SlOk.get {K : PySem.W.Frag} {I : Hp} {σ : St} {δ : List SK} (h : SlOk K I σ δ) : ∀ {i : Nat} {k : SK}, δ[i]? = some k → ∃ o, σ[i]? = some o ∧ SOk K I o k := by
  induction h with
  | nil => intro i k e; simp at e
  | cons h t ih =>
    intro i k e
    cases i with
    | zero =>
      simp only [List.getElem?_cons_zero, Option.some.injEq] at e
      subst e
      exact ⟨_, rfl, h⟩
    | succ i => exact ih (by simpa using e)
/-- names forgotten -/
def wipeD (δ : List SK) : List Nat → List SK
  | [] => δ
  | v :: vs => (wipeD δ vs).set v .any
theorem SlOk.wipe {K : PySem.W.Frag} {I : Hp} {σ : St} {δ : List SK} (h : SlOk K I σ δ) : ∀ vs : List Nat, SlOk K I (L2.wipe σ vs) (wipeD δ vs)
  | [] => h
  | v :: vs => (SlOk.wipe h vs).set (k := .any) (o := none) trivial v

/-! ### the state -/
structure Sta (K : PySem.W.Frag) (Lc : Addr → Prop) (I H : Hp) (σ : St) (δ : List SK) (μ : Mu) (F : List Addr) : Prop where
  ih : Ex I H
  lc : ∀ a, H a = none → Lc a
  sl : SlOk K I σ δ
  mu : MuOk K Lc I H F μ
end DL
namespace DL
open PySem L2

theorem MuOk.at {K : PySem.W.Frag} {Lc : Addr → Prop} {I H : Hp} {F : List Addr} {μ : Mu} (q : MuOk K Lc I H F μ) : ∀ {i : Nat} {a : Addr} {k : MK} {fl : Bool}, μ[i]? = some (a, k, fl) →
    ∃ Fi, MOk K I H Fi a k ∧ (∀ x ∈ Fi, x ∈ F) ∧ (fl = true → ∀ x ∈ Fi, Lc x) ∧ ∀ (k' : MK) (I' H' : Hp), Ex I I' → (∀ x ∈ F, x ∉ Fi → H' x = H x) → (∀ x ∈ F, I' x = none) → MOk K I' H' Fi a k' → MuOk K Lc I' H' F (μ.set i (a, k', fl)) := by
  induction q with
  | nil => intro i a k fl e; simp at e
  | @cons F1 G a1 k1 fl1 μ1 m n d nd l q ih =>
    intro i a k fl e
    cases i with
    | zero =>
      simp only [List.getElem?_cons_zero, Option.some.injEq, Prod.mk.injEq] at e
      obtain ⟨rfl, rfl, rfl⟩ := e
      refine ⟨F1, m, fun x hx => List.mem_append_left _ hx, l, fun k' I' H' e h hn m' => ?_⟩
      exact .cons m' (fun x hx => hn x (List.mem_append_left _ hx)) d nd l (q.mono e (fun x hx => h x (List.mem_append_right _ hx) fun z => d x z hx) (fun x hx => hn x (List.mem_append_right _ hx)) fun _ _ z => z)
    | succ i =>
      obtain ⟨Fi, m1, s1, l1, r1⟩ := ih (by simpa using e)
      refine ⟨Fi, m1, fun x hx => List.mem_append_right _ (s1 x hx), l1, fun k' I' H' e h hn m' => ?_⟩
      exact .cons (m.mono e fun x hx => h x (List.mem_append_left _ hx) fun z => d x hx (s1 x z)) (fun x hx => hn x (List.mem_append_left _ hx)) d nd l
        (r1 k' I' H' e (fun x hx => h x (List.mem_append_right _ hx)) (fun x hx => hn x (List.mem_append_right _ hx)) m')

/-! ### readings over the worth -/
def Post (K : PySem.W.Frag) (Lc : Addr → Prop) (σ : St) (δ : List SK) (F : List Addr) (I H : Hp) (Q : SK → Mu → Prop) (QQ : VK) : Prop :=
  ∀ v I' H' r μ' F', Step F I H I' H' → (∀ x ∈ F', x ∈ F ∨ H x = none) → Sta K Lc I' H' σ δ μ' F' → SOk K I' (some v) r → Q r μ' → QQ v H'
def PostA (K : PySem.W.Frag) (Lc : Addr → Prop) (σ : St) (δ : List SK) (F : List Addr) (I H : Hp) (Q : List SK → Mu → Prop) (QQ : List V → Hp → Prop) : Prop :=
  ∀ (vs : List V) I' H' rs μ' F', Step F I H I' H' → (∀ x ∈ F', x ∈ F ∨ H x = none) → Sta K Lc I' H' σ δ μ' F' → SlOk K I' (vs.map some) rs → Q rs μ' → QQ vs H'
def PostT (K : PySem.W.Frag) (Lc : Addr → Prop) (σ : St) (δ : List SK) (F : List Addr) (I H : Hp) (Q : Bool → Mu → Prop) (QQ : Bool → Hp → Prop) : Prop :=
  ∀ b I' H' μ' F', Step F I H I' H' → (∀ x ∈ F', x ∈ F ∨ H x = none) → Sta K Lc I' H' σ δ μ' F' → Q b μ' → QQ b H'
/-- an expression's reading te, from slots of the worth δ and what is changed μ: Q of the result's worth and of what is changed behind it -/
def RD (K : PySem.W.Frag) (te : TE) (δ : List SK) (μ : Mu) (Q : SK → Mu → Prop) : Prop :=
  ∀ Lc I H σ F, Sta K Lc I H σ δ μ F → ∀ QQ : VK, Post K Lc σ δ F I H Q QQ → te σ H QQ
def RA (K : PySem.W.Frag) (ta : TA) (δ : List SK) (μ : Mu) (Q : List SK → Mu → Prop) : Prop :=
  ∀ Lc I H σ F, Sta K Lc I H σ δ μ F → ∀ QQ : List V → Hp → Prop, PostA K Lc σ δ F I H Q QQ → ta σ H QQ
def RT (K : PySem.W.Frag) (tt : TT) (δ : List SK) (μ : Mu) (Q : Bool → Mu → Prop) : Prop :=
  ∀ Lc I H σ F, Sta K Lc I H σ δ μ F → ∀ QQ : Bool → Hp → Prop, PostT K Lc σ δ F I H Q QQ → tt σ H QQ
/-- by values -/
def RR (K : PySem.W.Frag) (r : R2) (x y : SK) (δ : List SK) (μ : Mu) (Q : SK → Mu → Prop) : Prop :=
  ∀ Lc I H σ F, Sta K Lc I H σ δ μ F → ∀ v w, SOk K I (some v) x → SOk K I (some w) y → ∀ QQ : VK, Post K Lc σ δ F I H Q QQ → r v w H QQ
def RU (K : PySem.W.Frag) (r : V → Hp → VK → Prop) (x : SK) (δ : List SK) (μ : Mu) (Q : SK → Mu → Prop) : Prop :=
  ∀ Lc I H σ F, Sta K Lc I H σ δ μ F → ∀ v, SOk K I (some v) x → ∀ QQ : VK, Post K Lc σ δ F I H Q QQ → r v H QQ
def RC (K : PySem.W.Frag) (r : List V → Hp → VK → Prop) (xs : List SK) (δ : List SK) (μ : Mu) (Q : SK → Mu → Prop) : Prop :=
  ∀ Lc I H σ F, Sta K Lc I H σ δ μ F → ∀ vs : List V, SlOk K I (vs.map some) xs → ∀ QQ : VK, Post K Lc σ δ F I H Q QQ → r vs H QQ
theorem sub_trans {F F1 F2 : List Addr} {I H I1 H1 : Hp} (st : Step F I H I1 H1) (a : ∀ x ∈ F1, x ∈ F ∨ H x = none) (b : ∀ x ∈ F2, x ∈ F1 ∨ H1 x = none) : ∀ x ∈ F2, x ∈ F ∨ H x = none := fun x hx => by
  rcases b x hx with z | z
  · exact a x z
  · exact .inr (st.gone z)
section
variable {K : PySem.W.Frag} {Lc : Addr → Prop} {σ : St} {δ : List SK} {F F1 : List Addr} {I H I1 H1 : Hp} {μ μ' : Mu}
theorem Post.on {Q : SK → Mu → Prop} {QQ : VK} (p : Post K Lc σ δ F I H Q QQ) (st : Step F I H I1 H1) (hF : ∀ x ∈ F1, x ∈ F ∨ H x = none) : Post K Lc σ δ F1 I1 H1 Q QQ :=
  fun v I' H' r μ' F' s f a b q => p v I' H' r μ' F' (st.trans s hF) (sub_trans st hF f) a b q
theorem PostA.on {Q : List SK → Mu → Prop} {QQ : List V → Hp → Prop} (p : PostA K Lc σ δ F I H Q QQ) (st : Step F I H I1 H1) (hF : ∀ x ∈ F1, x ∈ F ∨ H x = none) : PostA K Lc σ δ F1 I1 H1 Q QQ :=
  fun v I' H' r μ' F' s f a b q => p v I' H' r μ' F' (st.trans s hF) (sub_trans st hF f) a b q
theorem PostT.on {Q : Bool → Mu → Prop} {QQ : Bool → Hp → Prop} (p : PostT K Lc σ δ F I H Q QQ) (st : Step F I H I1 H1) (hF : ∀ x ∈ F1, x ∈ F ∨ H x = none) : PostT K Lc σ δ F1 I1 H1 Q QQ :=
  fun v I' H' μ' F' s f a q => p v I' H' μ' F' (st.trans s hF) (sub_trans st hF f) a q
/-- here and now -/
theorem Post.now {Q : SK → Mu → Prop} {QQ : VK} {v : V} {r : SK} (p : Post K Lc σ δ F I H Q QQ) (s : Sta K Lc I H σ δ μ F) (ok : SOk K I (some v) r) (q : Q r μ) : QQ v H :=
  p v I H r μ F (Step.refl F I H) (fun x hx => .inl hx) s ok q
theorem PostT.now {Q : Bool → Mu → Prop} {QQ : Bool → Hp → Prop} {b : Bool} (p : PostT K Lc σ δ F I H Q QQ) (s : Sta K Lc I H σ δ μ F) (q : Q b μ) : QQ b H :=
  p b I H μ F (Step.refl F I H) (fun x hx => .inl hx) s q
/-- a new object that is data -/
theorem Sta.newD {p : Addr} {o : HO} (s : Sta K Lc I H σ δ μ F) (hp : H p = none) : Sta K Lc (upd I p o) (upd H p o) σ δ μ F where
  ih := fun a u h => by
    by_cases z : a = p
    · rw [z, upd_same] at h ⊢; exact h
    · rw [upd_ne z] at h ⊢; exact s.ih a u h
  lc := fun a h => s.lc a (by
    by_cases z : a = p
    · rw [z]; exact hp
    · rw [upd_ne z] at h; exact h)
  sl := s.sl.mono (Ex.new (s.ih.gone hp))
  mu := by
    have hne : ∀ x ∈ F, x ≠ p := fun x hx z => (s.mu.live x hx).2 (by rw [z]; exact hp)
    exact s.mu.mono (Ex.new (s.ih.gone hp)) (fun x hx => upd_ne (hne x hx)) (fun x hx => by rw [upd_ne (hne x hx)]; exact (s.mu.live x hx).1) fun _ _ z => z
/-- a new object that is the def's own -/
theorem Sta.newO {p : Addr} {o : HO} {k : MK} (s : Sta K Lc I H σ δ μ F) (hp : H p = none) (m : MOk K I (upd H p o) [p] p k) : Sta K Lc I (upd H p o) σ δ ((p, k, true) :: μ) (p :: F) where
  ih := fun a u h => by
    have z : a ≠ p := fun z => by
      have := s.ih.gone hp
      rw [← z, h] at this; cases this
    rw [upd_ne z]; exact s.ih a u h
  lc := fun a h => s.lc a (by
    by_cases z : a = p
    · rw [z]; exact hp
    · rw [upd_ne z] at h; exact h)
  sl := s.sl
  mu := by
    have hne : ∀ x ∈ F, x ≠ p := fun x hx z => (s.mu.live x hx).2 (by rw [z]; exact hp)
    refine MuOk.cons (F := [p]) m ?_ ?_ (by simp) ?_ (s.mu.mono (Ex.refl I) (fun x hx => upd_ne (hne x hx)) (fun x hx => (s.mu.live x hx).1) fun _ _ z => z)
    · intro x hx
      have : x = p := by simpa using hx
      rw [this]; exact s.ih.gone hp
    · intro x hx z
      have : x = p := by simpa using hx
      exact hne x z this
    · intro _ x hx
      have : x = p := by simpa using hx
      rw [this]; exact s.lc p hp
end

/-! ### rules: names, constants -/
section
variable {K : PySem.W.Frag} {δ : List SK} {μ : Mu} {Q : SK → Mu → Prop} {QA : List SK → Mu → Prop} {QT : Bool → Mu → Prop} {te ta tb : TE} {tt tu : TT} {tr : TA}
theorem rd_mono {Q' : SK → Mu → Prop} (h : RD K te δ μ Q) (q : ∀ r μ, Q r μ → Q' r μ) : RD K te δ μ Q' := fun Lc I H σ F s QQ p =>
  h Lc I H σ F s QQ fun v I' H' r μ' F' a b c d e => p v I' H' r μ' F' a b c d (q _ _ e)
theorem rd_varD {i : Nat} {d : Da} (h : δ[i]? = some (.dat d)) (q : Q (.dat d) μ) : RD K (tVar i) δ μ Q := fun Lc I H σ F s QQ p => by
  obtain ⟨o, e, k⟩ := s.sl.get h
  cases o with
  | none => exact k.elim
  | some v => exact ⟨v, e, p.now s k q⟩
theorem rd_varO {i : Nat} {a : Addr} (h : δ[i]? = some (.own a)) (q : Q (.own a) μ) : RD K (tVar i) δ μ Q := fun Lc I H σ F s QQ p => by
  obtain ⟨o, e, k⟩ := s.sl.get h
  cases o with
  | none => exact k.elim
  | some v => exact ⟨v, e, p.now s k q⟩
theorem rd_int {i : Int} (q : Q (.dat (.int i)) μ) : RD K (tC (.int i)) δ μ Q := fun Lc I H σ F s QQ p => p.now (v := .int i) (r := .dat (.int i)) s (.int i) q
theorem rd_bl {i : Bool} (q : Q (.dat (.bl i)) μ) : RD K (tC (.bl i)) δ μ Q := fun Lc I H σ F s QQ p => p.now (v := .bl i) (r := .dat (.bl i)) s (.bl i) q
theorem rd_non (q : Q (.dat .non) μ) : RD K (tC .non) δ μ Q := fun Lc I H σ F s QQ p => p.now (v := .non) (r := .dat .non) s .non q
theorem rd_str {x : Str} (q : Q (.dat (.str x)) μ) : RD K (tC (.str x)) δ μ Q := fun Lc I H σ F s QQ p => p.now (v := .str x) (r := .dat (.str x)) s (.str x) q
theorem rd_ty {x : String} (q : Q (.dat (.ty x)) μ) : RD K (tC (.ty x)) δ μ Q := fun Lc I H σ F s QQ p => p.now (v := .ty x) (r := .dat (.ty x)) s (.ty x) q
theorem rd_cls {x : Addr} (q : Q (.dat (.cls x)) μ) : RD K (tC (.ref x)) δ μ Q := fun Lc I H σ F s QQ p => p.now (v := .ref x) (r := .dat (.cls x)) s (.cls x) q
theorem rd_op {r : R2} (h : RD K ta δ μ fun x μ1 => RD K tb δ μ1 fun y μ2 => RR K r x y δ μ2 Q) : RD K (tOp r ta tb) δ μ Q := fun Lc I H σ F s QQ p =>
  h Lc I H σ F s _ fun v I1 H1 x μ1 F1 st1 f1 s1 ok1 q1 => q1 Lc I1 H1 σ F1 s1 _ fun w I2 H2 y μ2 F2 st2 f2 s2 ok2 q2 =>
    q2 Lc I2 H2 σ F2 s2 v w (ok1.mono st2.ii) ok2 QQ (p.on (st1.trans st2 f1) (sub_trans st1 f1 f2))
theorem rd_un {r : V → Hp → VK → Prop} (h : RD K ta δ μ fun x μ1 => RU K r x δ μ1 Q) : RD K (tUn r ta) δ μ Q := fun Lc I H σ F s QQ p =>
  h Lc I H σ F s _ fun v I1 H1 x μ1 F1 st1 f1 s1 ok1 q1 => q1 Lc I1 H1 σ F1 s1 v ok1 QQ (p.on st1 f1)
theorem rd_cb {r : List V → Hp → VK → Prop} (h : RA K tr δ μ fun xs μ1 => RC K r xs δ μ1 Q) : RD K (tCB r tr) δ μ Q := fun Lc I H σ F s QQ p =>
  h Lc I H σ F s _ fun vs I1 H1 xs μ1 F1 st1 f1 s1 ok1 q1 => q1 Lc I1 H1 σ F1 s1 vs ok1 QQ (p.on st1 f1)
theorem ra_nil (q : QA [] μ) : RA K tNil δ μ QA := fun Lc I H σ F s QQ p => p [] I H [] μ F (Step.refl F I H) (fun x hx => .inl hx) s .nil q
theorem ra_cons (h : RD K te δ μ fun x μ1 => RA K tr δ μ1 fun xs μ2 => QA (x :: xs) μ2) : RA K (tCons te tr) δ μ QA := fun Lc I H σ F s QQ p =>
  h Lc I H σ F s _ fun v I1 H1 x μ1 F1 st1 f1 s1 ok1 q1 => q1 Lc I1 H1 σ F1 s1 _ fun vs I2 H2 xs μ2 F2 st2 f2 s2 ok2 q2 =>
    p (v :: vs) I2 H2 (x :: xs) μ2 F2 (st1.trans st2 f1) (sub_trans st1 f1 f2) s2 (.cons (ok1.mono st2.ii) ok2) q2
theorem rd_if {c : TT} (h : RT K c δ μ fun b μ1 => (b = true → RD K ta δ μ1 Q) ∧ (b = false → RD K tb δ μ1 Q)) : RD K (tIf c ta tb) δ μ Q := fun Lc I H σ F s QQ p =>
  h Lc I H σ F s _ fun b I1 H1 μ1 F1 st1 f1 s1 q1 => by
    cases b with
    | true => exact q1.1 rfl Lc I1 H1 σ F1 s1 QQ (p.on st1 f1)
    | false => exact q1.2 rfl Lc I1 H1 σ F1 s1 QQ (p.on st1 f1)
theorem rt_b (h : RD K te δ μ fun x μ1 => ∃ b, x = .dat (.bl b) ∧ QT b μ1) : RT K (tB te) δ μ QT := fun Lc I H σ F s QQ p =>
  h Lc I H σ F s _ fun v I1 H1 x μ1 F1 st1 f1 s1 ok1 ⟨b, e, q1⟩ => by
    subst e
    cases ok1
    exact ⟨b, rfl, p b I1 H1 μ1 F1 st1 f1 s1 q1⟩
theorem rt_test (h : RD K te δ μ fun x μ1 => ∃ b, x = .dat (.bl b) ∧ QT b μ1) : RT K (tTest te) δ μ QT := fun Lc I H σ F s QQ p =>
  h Lc I H σ F s _ fun v I1 H1 x μ1 F1 st1 f1 s1 ok1 ⟨b, e, q1⟩ => by
    subst e
    cases ok1
    exact ⟨b, rfl, p b I1 H1 μ1 F1 st1 f1 s1 q1⟩
theorem rt_and (h : RT K tt δ μ fun b μ1 => (b = true → RT K tu δ μ1 QT) ∧ (b = false → QT false μ1)) : RT K (tAnd tt tu) δ μ QT := fun Lc I H σ F s QQ p =>
  h Lc I H σ F s _ fun b I1 H1 μ1 F1 st1 f1 s1 q1 => by
    cases b with
    | true => exact q1.1 rfl Lc I1 H1 σ F1 s1 QQ (p.on st1 f1)
    | false => exact p false I1 H1 μ1 F1 st1 f1 s1 (q1.2 rfl)
theorem rt_or (h : RT K tt δ μ fun b μ1 => (b = true → QT true μ1) ∧ (b = false → RT K tu δ μ1 QT)) : RT K (tOr tt tu) δ μ QT := fun Lc I H σ F s QQ p =>
  h Lc I H σ F s _ fun b I1 H1 μ1 F1 st1 f1 s1 q1 => by
    cases b with
    | true => exact p true I1 H1 μ1 F1 st1 f1 s1 (q1.1 rfl)
    | false => exact q1.2 rfl Lc I1 H1 σ F1 s1 QQ (p.on st1 f1)
theorem rt_not (h : RT K tt δ μ fun b μ1 => QT (!b) μ1) : RT K (tNot tt) δ μ QT := fun Lc I H σ F s QQ p =>
  h Lc I H σ F s _ fun b I1 H1 μ1 F1 st1 f1 s1 q1 => p (!b) I1 H1 μ1 F1 st1 f1 s1 q1
theorem rd_andV (h : RD K ta δ μ fun x μ1 => ∃ b, x = .dat (.bl b) ∧ (b = true → RD K tb δ μ1 Q) ∧ (b = false → Q (.dat (.bl false)) μ1)) : RD K (tAndV ta tb) δ μ Q := fun Lc I H σ F s QQ p =>
  h Lc I H σ F s _ fun v I1 H1 x μ1 F1 st1 f1 s1 ok1 ⟨b, e, q1, q2⟩ => by
    subst e
    cases ok1
    refine ⟨b, rfl, ?_⟩
    cases b with
    | true => exact q1 rfl Lc I1 H1 σ F1 s1 QQ (p.on st1 f1)
    | false => exact p (.bl false) I1 H1 (.dat (.bl false)) μ1 F1 st1 f1 s1 (Rep.bl false) (q2 rfl)
theorem rd_orV (h : RD K ta δ μ fun x μ1 => ∃ b, x = .dat (.bl b) ∧ (b = true → Q (.dat (.bl true)) μ1) ∧ (b = false → RD K tb δ μ1 Q)) : RD K (tOrV ta tb) δ μ Q := fun Lc I H σ F s QQ p =>
  h Lc I H σ F s _ fun v I1 H1 x μ1 F1 st1 f1 s1 ok1 ⟨b, e, q1, q2⟩ => by
    subst e
    cases ok1
    refine ⟨b, rfl, ?_⟩
    cases b with
    | true => exact p (.bl true) I1 H1 (.dat (.bl true)) μ1 F1 st1 f1 s1 (Rep.bl true) (q1 rfl)
    | false => exact q2 rfl Lc I1 H1 σ F1 s1 QQ (p.on st1 f1)
theorem rd_notV (h : RD K ta δ μ fun x μ1 => ∃ b, x = .dat (.bl b) ∧ Q (.dat (.bl (!b))) μ1) : RD K (tNotV ta) δ μ Q := fun Lc I H σ F s QQ p =>
  h Lc I H σ F s _ fun v I1 H1 x μ1 F1 st1 f1 s1 ok1 ⟨b, e, q1⟩ => by
    subst e
    cases ok1
    exact ⟨b, rfl, p (.bl (!b)) I1 H1 (.dat (.bl (!b))) μ1 F1 st1 f1 s1 (Rep.bl _) q1⟩
/-- all of them data -/
def dats (ds : List Da) : List SK := ds.map .dat
theorem repl_of {I : Hp} : ∀ {vs : List V} {ds : List Da}, SlOk K I (vs.map some) (dats ds) → RepL K I vs ds
  | [], [], _ => .nil
  | [], d :: ds, h => by cases h
  | v :: vs, [], h => by cases h
  | v :: vs, d :: ds, h => by
    cases h with
    | cons a b => exact .cons a (repl_of b)
theorem repl_len {I : Hp} : ∀ {vs : List V} {ds : List Da}, RepL K I vs ds → vs.length = ds.length
  | _, _, .nil => rfl
  | _, _, .cons _ t => by simp [repl_len t]
/-- a new tuple, a new list of data -/
theorem rd_tup (h : RA K tr δ μ fun xs μ1 => ∃ ds, xs = dats ds ∧ ds.length ≤ 100000 ∧ Q (.dat (.tup ds)) μ1) : RD K (tTup tr) δ μ Q := fun Lc I H σ F s QQ p =>
  h Lc I H σ F s _ fun vs I1 H1 xs μ1 F1 st1 f1 s1 ok1 ⟨ds, e, hl, q1⟩ => by
    subst e
    have r := repl_of ok1
    refine ⟨Nat.le_trans (by rw [repl_len r]; exact hl) (by decide : 100000 ≤ sizeLine), fun a ha => ?_⟩
    exact p (.ref a) (upd I1 a (.tup vs)) (upd H1 a (.tup vs)) (.dat (.tup ds)) μ1 F1 (st1.trans (Step.new ha s1.ih) f1) f1 (s1.newD ha) (Rep.tup (SqT.of upd_same) (r.mono (Ex.new (s1.ih.gone ha)))) q1
theorem rd_lst (h : RA K tr δ μ fun xs μ1 => ∃ ds, xs = dats ds ∧ ds.length ≤ 100000 ∧ Q (.dat (.lst ds)) μ1) : RD K (tLst tr) δ μ Q := fun Lc I H σ F s QQ p =>
  h Lc I H σ F s _ fun vs I1 H1 xs μ1 F1 st1 f1 s1 ok1 ⟨ds, e, hl, q1⟩ => by
    subst e
    have r := repl_of ok1
    refine ⟨Nat.le_trans (by rw [repl_len r]; exact hl) (by decide : 100000 ≤ sizeLine), fun a ha => ?_⟩
    exact p (.ref a) (upd I1 a (.lst vs)) (upd H1 a (.lst vs)) (.dat (.lst ds)) μ1 F1 (st1.trans (Step.new ha s1.ih) f1) f1 (s1.newD ha) (Rep.lst upd_same (r.mono (Ex.new (s1.ih.gone ha)))) q1
/-- a new list that is to be filled -/
theorem rd_lstO (h : RA K tr δ μ fun xs μ1 => ∃ ds, xs = dats ds ∧ ds.length ≤ 100000 ∧ ∀ a, Q (.own a) ((a, .ml ds, true) :: μ1)) : RD K (tLst tr) δ μ Q := fun Lc I H σ F s QQ p =>
  h Lc I H σ F s _ fun vs I1 H1 xs μ1 F1 st1 f1 s1 ok1 ⟨ds, e, hl, q1⟩ => by
    subst e
    have r := repl_of ok1
    refine ⟨Nat.le_trans (by rw [repl_len r]; exact hl) (by decide : 100000 ≤ sizeLine), fun a ha => ?_⟩
    refine p (.ref a) I1 (upd H1 a (.lst vs)) (.own a) ((a, .ml ds, true) :: μ1) (a :: F1) (st1.trans (Step.fresh ha) f1) (fun x hx => ?_) (s1.newO ha ⟨rfl, vs, upd_same, r⟩) rfl (q1 a)
    rcases List.mem_cons.mp hx with z | z
    · rw [z]; exact .inr (st1.gone ha)
    · exact f1 x z
end
end DL
namespace DL
open PySem L2

/-! ### statements -/
structure DE where
  nx : List SK → Mu → Prop
  rt : SK → Mu → Prop
  bk : List SK → Mu → Prop := fun _ _ => False
  ct : List SK → Mu → Prop := fun _ _ => False
/-- where a def stands: its entry's heaps, what it may change; Ib: the data at some moment before -/
structure At (K : PySem.W.Frag) (I0 H0 : Hp) (F0 : List Addr) (Ib I H : Hp) (σ : St) (δ : List SK) (μ : Mu) (F : List Addr) : Prop where
  st : Step F0 I0 H0 I H
  sub : ∀ x ∈ F, x ∈ F0 ∨ H0 x = none
  s : Sta K (fun a => H0 a = none) I H σ δ μ F
  ib : Ex Ib I
structure EOk (K : PySem.W.Frag) (I0 H0 : Hp) (F0 : List Addr) (Ib : Hp) (E : DE) (D : Ends) : Prop where
  nx : ∀ I H σ δ μ F, At K I0 H0 F0 Ib I H σ δ μ F → E.nx δ μ → D.nx σ H
  rt : ∀ v r I H σ δ μ F, At K I0 H0 F0 Ib I H σ δ μ F → SOk K I (some v) r → E.rt r μ → D.rt v H
  bk : ∀ I H σ δ μ F, At K I0 H0 F0 Ib I H σ δ μ F → E.bk δ μ → D.bk σ H
  ct : ∀ I H σ δ μ F, At K I0 H0 F0 Ib I H σ δ μ F → E.ct δ μ → D.ct σ H
def RS (K : PySem.W.Frag) (ts : TS) (δ : List SK) (μ : Mu) (E : DE) : Prop :=
  ∀ I0 H0 F0 Ib I H σ F, At K I0 H0 F0 Ib I H σ δ μ F → ∀ D : Ends, EOk K I0 H0 F0 Ib E D → ts D σ H
section
variable {K : PySem.W.Frag} {I0 H0 Ib I H I' H' : Hp} {F0 F F' : List Addr} {σ : St} {δ : List SK} {μ μ' : Mu} {E : DE} {D : Ends} {te ta tb : TE} {tt : TT} {t u : TS}
theorem At.on (a : At K I0 H0 F0 Ib I H σ δ μ F) (st : Step F I H I' H') (f : ∀ x ∈ F', x ∈ F ∨ H x = none) (s : Sta K (fun a => H0 a = none) I' H' σ δ μ' F') : At K I0 H0 F0 Ib I' H' σ δ μ' F' :=
  ⟨a.st.trans st a.sub, sub_trans a.st a.sub f, s, a.ib.trans st.ii⟩
theorem At.weak {Ic : Hp} (a : At K I0 H0 F0 Ib I H σ δ μ F) (e : Ex Ic Ib) : At K I0 H0 F0 Ic I H σ δ μ F := ⟨a.st, a.sub, a.s, e.trans a.ib⟩
theorem Sta.set {Lc : Addr → Prop} (s : Sta K Lc I H σ δ μ F) {o : Option V} {r : SK} (ok : SOk K I o r) (i : Nat) : Sta K Lc I H (σ.set i o) (δ.set i r) μ F := ⟨s.ih, s.lc, s.sl.set ok i, s.mu⟩
theorem rs_seq (h : RS K t δ μ { E with nx := fun δ' μ' => RS K u δ' μ' E }) : RS K (tSeq t u) δ μ E := fun I0 H0 F0 Ib I H σ F a D e =>
  h I0 H0 F0 Ib I H σ F a _ ⟨fun I1 H1 σ1 δ1 μ1 F1 a1 q1 => q1 I0 H0 F0 Ib I1 H1 σ1 F1 a1 D e, e.rt, e.bk, e.ct⟩
theorem rs_next (q : E.nx δ μ) : RS K tNext δ μ E := fun I0 H0 F0 Ib I H σ F a D e => e.nx I H σ δ μ F a q
theorem rs_break (q : E.bk δ μ) : RS K tBreak δ μ E := fun I0 H0 F0 Ib I H σ F a D e => e.bk I H σ δ μ F a q
theorem rs_cont (q : E.ct δ μ) : RS K tCont δ μ E := fun I0 H0 F0 Ib I H σ F a D e => e.ct I H σ δ μ F a q
theorem rs_set {i : Nat} (h : RD K te δ μ fun r μ1 => E.nx (δ.set i r) μ1) : RS K (tAsg te (gName i)) δ μ E := fun I0 H0 F0 Ib I H σ F a D e =>
  h _ I H σ F a.s _ fun v I1 H1 r μ1 F1 st f s1 ok q => e.nx I1 H1 (σ.set i (some v)) (δ.set i r) μ1 F1 ⟨a.st.trans st a.sub, sub_trans a.st a.sub f, s1.set ok i, a.ib.trans st.ii⟩ q
theorem rs_ret (h : RD K te δ μ fun r μ1 => E.rt r μ1) : RS K (tRet te) δ μ E := fun I0 H0 F0 Ib I H σ F a D e =>
  h _ I H σ F a.s _ fun v I1 H1 r μ1 F1 st f s1 ok q => e.rt v r I1 H1 σ δ μ1 F1 (a.on st f s1) ok q
theorem rs_retN (q : E.rt (.dat .non) μ) : RS K tRetN δ μ E := fun I0 H0 F0 Ib I H σ F a D e => e.rt .non (.dat .non) I H σ δ μ F a Rep.non q
theorem rs_drop (h : RD K te δ μ fun r μ1 => E.nx δ μ1) : RS K (tDrop te) δ μ E := fun I0 H0 F0 Ib I H σ F a D e =>
  h _ I H σ F a.s _ fun v I1 H1 r μ1 F1 st f s1 ok q => e.nx I1 H1 σ δ μ1 F1 (a.on st f s1) q
theorem rs_if (h : RT K tt δ μ fun b μ1 => (b = true → RS K t δ μ1 E) ∧ (b = false → RS K u δ μ1 E)) : RS K (tIfS tt t u) δ μ E := fun I0 H0 F0 Ib I H σ F a D e =>
  h _ I H σ F a.s _ fun b I1 H1 μ1 F1 st f s1 q => by
    cases b with
    | true => exact q.1 rfl I0 H0 F0 Ib I1 H1 σ F1 (a.on st f s1) D e
    | false => exact q.2 rfl I0 H0 F0 Ib I1 H1 σ F1 (a.on st f s1) D e
theorem rs_mono {E' : DE} (h : RS K t δ μ E') (nx : ∀ δ μ, E'.nx δ μ → E.nx δ μ) (rt : ∀ r μ, E'.rt r μ → E.rt r μ) (bk : ∀ δ μ, E'.bk δ μ → E.bk δ μ) (ct : ∀ δ μ, E'.ct δ μ → E.ct δ μ) : RS K t δ μ E :=
  fun I0 H0 F0 Ib I H σ F a D e => h I0 H0 F0 Ib I H σ F a D ⟨fun I H σ δ μ F a q => e.nx I H σ δ μ F a (nx _ _ q), fun v r I H σ δ μ F a ok q => e.rt v r I H σ δ μ F a ok (rt _ _ q), fun I H σ δ μ F a q => e.bk I H σ δ μ F a (bk _ _ q), fun I H σ δ μ F a q => e.ct I H σ δ μ F a (ct _ _ q)⟩

/-! ### targets -/
def RG (K : PySem.W.Frag) (g : TG) (r : SK) (δ : List SK) (Q : List SK → Prop) : Prop :=
  ∀ Lc I H σ μ F, Sta K Lc I H σ δ μ F → ∀ v, SOk K I (some v) r → ∀ QQ : St → Hp → Prop, (∀ σ' δ', Sta K Lc I H σ' δ' μ F → Q δ' → QQ σ' H) → g v σ H QQ
def RGs (K : PySem.W.Frag) (g : TGs) (ds : List Da) (δ : List SK) (Q : List SK → Prop) : Prop :=
  ∀ Lc I H σ μ F, Sta K Lc I H σ δ μ F → ∀ vs, RepL K I vs ds → ∀ QQ : St → Hp → Prop, (∀ σ' δ', Sta K Lc I H σ' δ' μ F → Q δ' → QQ σ' H) → g vs σ H QQ
theorem rg_name {i : Nat} {r : SK} {Q : List SK → Prop} (q : Q (δ.set i r)) : RG K (gName i) r δ Q := fun Lc I H σ μ F s v ok QQ p => p _ _ (s.set ok i) q
theorem rgs_nil {Q : List SK → Prop} (q : Q δ) : RGs K gNil [] δ Q := fun Lc I H σ μ F s vs ok QQ p => by
  cases ok
  exact ⟨rfl, p σ δ s q⟩
theorem rgs_cons {g : TG} {gs : TGs} {d : Da} {ds : List Da} {Q : List SK → Prop} (h : RG K g (.dat d) δ fun δ1 => RGs K gs ds δ1 Q) : RGs K (gCons g gs) (d :: ds) δ Q := fun Lc I H σ μ F s vs ok QQ p => by
  cases ok with
  | cons a b => exact ⟨_, _, rfl, h Lc I H σ μ F s _ a _ fun σ1 δ1 s1 q1 => q1 Lc I H σ1 μ F s1 _ b QQ p⟩
theorem rg_tup {n : Nat} {gs : TGs} {ds : List Da} {Q : List SK → Prop} (hl : ds.length = n) (h : RGs K gs ds δ Q) : RG K (gTup K n gs) (.dat (.tup ds)) δ Q := fun Lc I H σ μ F s v ok QQ p => by
  cases ok with
  | tup hs hr => exact ⟨_, _, rfl, s.ih.t hs, (repl_len hr).trans hl, h Lc I H σ μ F s _ hr QQ p⟩
/-- a target of any form -/
theorem rs_asg {g : TG} (h : RD K te δ μ fun r μ1 => RG K g r δ fun δ1 => E.nx δ1 μ1) : RS K (tAsg te g) δ μ E := fun I0 H0 F0 Ib I H σ F a D e =>
  h _ I H σ F a.s _ fun v I1 H1 r μ1 F1 st f s1 ok q => q _ I1 H1 σ μ1 F1 s1 v ok _ fun σ2 δ2 s2 q2 => e.nx I1 H1 σ2 δ2 μ1 F1 ⟨a.st.trans st a.sub, sub_trans a.st a.sub f, s2, a.ib.trans st.ii⟩ q2

/-! ### what is still changed: lists that grow, that become data -/
theorem MuOk.erase {Lc : Addr → Prop} (q : MuOk K Lc I H F μ) : ∀ {i : Nat} {a : Addr} {k : MK} {fl : Bool}, μ[i]? = some (a, k, fl) → ∃ Fi G, MOk K I H Fi a k ∧ (∀ x ∈ Fi, x ∈ F) ∧ (fl = true → ∀ x ∈ Fi, Lc x) ∧ MuOk K Lc I H G (μ.eraseIdx i) ∧ (∀ x ∈ G, x ∈ F) ∧ (∀ x ∈ Fi, x ∉ G) := by
  induction q with
  | nil => intro i a k fl e; simp at e
  | @cons F1 G1 a1 k1 fl1 μ1 m n d nd l q ih =>
    intro i a k fl e
    cases i with
    | zero =>
      simp only [List.getElem?_cons_zero, Option.some.injEq, Prod.mk.injEq] at e
      obtain ⟨rfl, rfl, rfl⟩ := e
      exact ⟨F1, G1, m, fun x hx => List.mem_append_left _ hx, l, q, fun x hx => List.mem_append_right _ hx, d⟩
    | succ i =>
      obtain ⟨Fi, G, m1, s1, l1, q1, g1, d1⟩ := ih (by simpa using e)
      refine ⟨Fi, F1 ++ G, m1, fun x hx => List.mem_append_right _ (s1 x hx), l1, .cons m n (fun x hx z => d x hx (g1 x z)) nd l q1, fun x hx => ?_, fun x hx z => ?_⟩
      · rcases List.mem_append.mp hx with z | z
        · exact List.mem_append_left _ z
        · exact List.mem_append_right _ (g1 x z)
      · rcases List.mem_append.mp z with y | y
        · exact d x y (s1 x hx)
        · exact d1 x hx y
/-- a list of the def's own becomes data -/
theorem At.freeze (a : At K I0 H0 F0 Ib I H σ δ μ F) {i : Nat} {l : Addr} {ds : List Da} (h : μ[i]? = some (l, .ml ds, true)) : ∃ I' F', At K I0 H0 F0 Ib I' H σ δ (μ.eraseIdx i) F' ∧ Ex I I' ∧ Rep K I' (.ref l) (.lst ds) := by
  obtain ⟨Fi, G, m, s1, l1, q, g, d⟩ := a.s.mu.erase h
  obtain ⟨rfl, xs, hx, r⟩ := m
  have hlI : I l = none := (a.s.mu.live l (s1 l (by simp))).1
  have hl0 : H0 l = none := l1 rfl l (by simp)
  have e : Ex I (upd I l (.lst xs)) := Ex.new hlI
  refine ⟨upd I l (.lst xs), G, ⟨⟨a.st.ii.trans e, a.st.keep, fun x hx hn => ?_, a.st.alive⟩, fun x hx => a.sub x (g x hx), ⟨fun b u hb => ?_, a.s.lc, a.s.sl.mono e, ?_⟩, a.ib.trans e⟩, e, Rep.lst upd_same (r.mono e)⟩
  · have : x ≠ l := fun z => hx (by rw [z]; exact hl0)
    rw [upd_ne this]; exact a.st.own x hx hn
  · by_cases z : b = l
    · rw [z, upd_same] at hb
      rw [z, hx]; exact hb
    · rw [upd_ne z] at hb; exact a.s.ih b u hb
  · refine q.mono e (fun _ _ => rfl) (fun x hx => ?_) fun _ _ z => z
    have : x ≠ l := fun z => d l (by simp) (z ▸ hx)
    rw [upd_ne this]; exact (q.live x hx).1
theorem set_get {α : Type} : ∀ {xs : List α} {i : Nat} {x : α}, xs[i]? = some x → xs.set i x = xs
  | [], _, _, e => by simp at e
  | a :: r, 0, x, e => by
    simp only [List.getElem?_cons_zero, Option.some.injEq] at e
    subst e; rfl
  | a :: r, i + 1, x, e => by
    have := set_get (xs := r) (i := i) (x := x) (by simpa using e)
    simp [this]
theorem rs_freeze {i j : Nat} {l : Addr} {ds : List Da} (h : RS K t (δ.set j (.dat (.lst ds))) (μ.eraseIdx i) E) (hi : μ[i]? = some (l, .ml ds, true)) (hj : δ[j]? = some (.own l)) : RS K t δ μ E := fun I0 H0 F0 Ib I H σ F a D e => by
  obtain ⟨I', F', a', ex, r⟩ := a.freeze hi
  obtain ⟨o, ho, ok⟩ := a.s.sl.get hj
  cases o with
  | none => exact ok.elim
  | some v =>
    have ok' : v = .ref l := ok
    subst ok'
    have hs : σ.set j (some (.ref l)) = σ := set_get ho
    refine h I0 H0 F0 Ib I' H σ F' ⟨a'.st, a'.sub, ?_, a'.ib⟩ D e
    have := a'.s.set (o := some (.ref l)) (r := .dat (.lst ds)) r j
    rw [hs] at this
    exact this
/-- return of a list of the def's own -/
theorem rs_retF (h : RD K te δ μ fun r μ1 => ∃ l i ds, r = .own l ∧ μ1[i]? = some (l, MK.ml ds, true) ∧ E.rt (.dat (.lst ds)) (μ1.eraseIdx i)) : RS K (tRet te) δ μ E := fun I0 H0 F0 Ib I H σ F a D e =>
  h _ I H σ F a.s _ fun v I1 H1 r μ1 F1 st f s1 ok ⟨l, i, ds, er, hi, q⟩ => by
    subst er
    have ok' : v = .ref l := ok
    subst ok'
    obtain ⟨I', F', a', ex, r⟩ := (a.on st f s1).freeze hi
    exact e.rt (.ref l) (.dat (.lst ds)) I' H1 σ δ _ F' a' r q
theorem repl_app {I : Hp} {v : V} {d : Da} (h : Rep K I v d) : ∀ {vs : List V} {ds : List Da}, RepL K I vs ds → RepL K I (vs ++ [v]) (ds ++ [d])
  | _, _, .nil => .cons h .nil
  | _, _, .cons a b => .cons a (repl_app h b)
/-- x.append(e) -/
theorem rs_app {i : Nat} {l : Addr} (hi : δ[i]? = some (.own l)) (h0 : ∃ (j : Nat) (ds : List Da) (fl : Bool), μ[j]? = some (l, MK.ml ds, fl))
    (h : RD K te δ μ fun r μ1 => ∃ (d : Da) (j : Nat) (ds : List Da) (fl : Bool), r = .dat d ∧ μ1[j]? = some (l, MK.ml ds, fl) ∧ ds.length < 100000 ∧ E.nx δ (μ1.set j (l, MK.ml (ds ++ [d]), fl))) :
    RS K (tDrop (tBM K "list" rAppend (tVar i) (tCons te tNil))) δ μ E := fun I0 H0 F0 Ib I H σ F a D e => by
  obtain ⟨j0, ds0, fl0, h0⟩ := h0
  obtain ⟨o, ho, ok⟩ := a.s.sl.get hi
  cases o with
  | none => exact ok.elim
  | some v =>
    have ok' : v = .ref l := ok
    subst ok'
    obtain ⟨Fi0, m0, _⟩ := a.s.mu.at h0
    obtain ⟨_, xs0, hx0, _⟩ := m0
    refine ⟨.ref l, ho, .inl ⟨rfl, xs0, SqL.of hx0⟩, ?_⟩
    refine h _ I H σ F a.s _ fun w I1 H1 r μ1 F1 st f s1 ok1 ⟨d, j, ds, fl, er, hj, hl, q⟩ => ?_
    subst er
    obtain ⟨Fi, m, sF, lF, mk⟩ := s1.mu.at hj
    obtain ⟨rfl, xs, hx, r⟩ := m
    have hlF : l ∈ F1 := sF l (by simp)
    refine ⟨l, xs, w, rfl, rfl, hx, Nat.lt_of_lt_of_le (by rw [repl_len r]; exact hl) (by decide : 100000 ≤ sizeLine), ?_⟩
    have st2 : Step F1 I1 H1 I1 (upd H1 l (.lst (xs ++ [w]))) := Step.put hlF (by rw [hx]; simp)
    refine e.nx I1 _ σ δ _ F1 ((a.on st f s1).on st2 (fun x hx => .inl hx) ⟨fun b u hb => ?_, fun b hb => s1.lc b ?_, s1.sl, ?_⟩) q
    · have : b ≠ l := fun z => by
        have := (s1.mu.live l hlF).1
        rw [← z, hb] at this; cases this
      rw [upd_ne this]; exact s1.ih b u hb
    · by_cases z : b = l
      · rw [z, upd_same] at hb; cases hb
      · rw [upd_ne z] at hb; exact hb
    · exact mk _ I1 _ (Ex.refl I1) (fun x hx hn => upd_ne fun z => hn (by simp [z])) (fun x hx => (s1.mu.live x hx).1) ⟨rfl, _, upd_same, repl_app ok1 r⟩
end

/-! ### reading a list: data, or one that is still changed -/
inductive IsL (μ : Mu) : SK → List Da → Prop
  | dat (ds : List Da) : IsL μ (.dat (.lst ds)) ds
  | own {l : Addr} {i : Nat} {ds : List Da} {fl : Bool} : μ[i]? = some (l, .ml ds, fl) → IsL μ (.own l) ds
theorem IsL.sq {K : PySem.W.Frag} {Lc : Addr → Prop} {I H : Hp} {σ : St} {δ : List SK} {μ : Mu} {F : List Addr} (s : Sta K Lc I H σ δ μ F) {v : V} {r : SK} {ds : List Da} (h : IsL μ r ds) (ok : SOk K I (some v) r) : ∃ a xs, v = .ref a ∧ SqL K H a xs ∧ RepL K I xs ds := by
  cases h with
  | dat =>
    cases ok with
    | lst hs hr => exact ⟨_, _, rfl, SqL.of (s.ih _ _ hs), hr⟩
  | own h =>
    have ok' : v = .ref _ := ok
    obtain ⟨Fi, m, _⟩ := s.mu.at h
    obtain ⟨_, xs, hx, r⟩ := m
    exact ⟨_, xs, ok', SqL.of hx, r⟩
theorem repl_get {K : PySem.W.Frag} {I : Hp} : ∀ {vs : List V} {ds : List Da} {i : Nat} {v : V}, RepL K I vs ds → vs[i]? = some v → ∃ d, ds[i]? = some d ∧ Rep K I v d
  | _, _, _, _, .nil, e => by simp at e
  | _, _, 0, v, .cons a b, e => by
    simp only [List.getElem?_cons_zero, Option.some.injEq] at e
    subst e
    exact ⟨_, rfl, a⟩
  | _, _, i + 1, v, .cons a b, e => repl_get (i := i) b (by simpa using e)
theorem repl_get' {K : PySem.W.Frag} {I : Hp} : ∀ {vs : List V} {ds : List Da} {i : Nat} {d : Da}, RepL K I vs ds → ds[i]? = some d → ∃ v, vs[i]? = some v ∧ Rep K I v d
  | _, _, _, _, .nil, e => by simp at e
  | _, _, 0, v, .cons a b, e => by
    simp only [List.getElem?_cons_zero, Option.some.injEq] at e
    subst e
    exact ⟨_, rfl, a⟩
  | _, _, i + 1, v, .cons a b, e => repl_get' (i := i) b (by simpa using e)

/-! ### loops -/
section
variable {K : PySem.W.Frag} {δ : List SK} {μ : Mu} {E : DE} {te tl : TE} {ta : TA} {tb : TS} {g : TG}
/-- over data that is a list -/
theorem rs_forL (h : RD K tl δ μ fun r μ1 => ∃ ds, r = .dat (.lst ds) ∧ ∃ Pv : Nat → List SK → Mu → Prop, Pv 0 δ μ1 ∧
      (∀ i d δ' μ', ds[i]? = some d → Pv i δ' μ' → RG K g (.dat d) δ' fun δ2 => RS K tb δ2 μ' { E with nx := Pv (i + 1), ct := Pv (i + 1), bk := E.nx }) ∧ (∀ δ' μ', Pv ds.length δ' μ' → E.nx δ' μ')) :
    RS K (tFor (iList K tl) g tb) δ μ E := fun I0 H0 F0 Ib I H σ F a D e =>
  h _ I H σ F a.s _ fun v I1 H1 r μ1 F1 st f s1 ok ⟨ds, er, Pv, p0, ps, pd⟩ => by
    subst er
    cases ok with
    | lst hs hr =>
      rename_i ad xs
      have e1 : Ex Ib I1 := a.ib.trans st.ii
      have a1 := a.on st f s1
      refine ⟨ad, rfl, ⟨xs, SqL.of (s1.ih _ _ hs)⟩, for_list (K := K) (a := ad) (xs := xs) (fun i σ2 H2 => ∃ I2 δ2 μ2 F2, At K I0 H0 F0 I1 I2 H2 σ2 δ2 μ2 F2 ∧ Pv i δ2 μ2) ⟨I1, δ, μ1, F1, ⟨a1.st, a1.sub, a1.s, Ex.refl _⟩, p0⟩ ?_ ?_ ?_⟩
      · rintro i σ2 H2 _ ⟨I2, δ2, μ2, F2, a2, _⟩
        exact SqL.of (a2.s.ih _ _ (a2.ib _ _ hs))
      · rintro i x σ2 H2 hx ⟨I2, δ2, μ2, F2, a2, p⟩
        obtain ⟨d, hd, rd⟩ := repl_get hr hx
        refine ps i d δ2 μ2 hd p _ I2 H2 σ2 μ2 F2 a2.s x (Rep.mono a2.ib rd) _ fun σ3 δ3 s3 q3 => ?_
        exact q3 I0 H0 F0 I1 I2 H2 σ3 F2 ⟨a2.st, a2.sub, s3, a2.ib⟩ _ ⟨fun I4 H4 σ4 δ4 μ4 F4 a4 q4 => ⟨I4, δ4, μ4, F4, a4, q4⟩, fun v r I4 H4 σ4 δ4 μ4 F4 a4 ok4 q4 => e.rt v r I4 H4 σ4 δ4 μ4 F4 (a4.weak e1) ok4 q4,
          fun I4 H4 σ4 δ4 μ4 F4 a4 q4 => e.nx I4 H4 σ4 δ4 μ4 F4 (a4.weak e1) q4, fun I4 H4 σ4 δ4 μ4 F4 a4 q4 => ⟨I4, δ4, μ4, F4, a4, q4⟩⟩
      · rintro σ2 H2 ⟨I2, δ2, μ2, F2, a2, p⟩
        rw [repl_len hr] at p
        exact e.nx I2 H2 σ2 δ2 μ2 F2 (a2.weak e1) (pd δ2 μ2 p)
/-- over data that is a tuple -/
theorem rs_forU (h : RD K tl δ μ fun r μ1 => ∃ ds, r = .dat (.tup ds) ∧ ∃ Pv : Nat → List SK → Mu → Prop, Pv 0 δ μ1 ∧
      (∀ i d δ' μ', ds[i]? = some d → Pv i δ' μ' → RG K g (.dat d) δ' fun δ2 => RS K tb δ2 μ' { E with nx := Pv (i + 1), ct := Pv (i + 1), bk := E.nx }) ∧ (∀ δ' μ', Pv ds.length δ' μ' → E.nx δ' μ')) :
    RS K (tFor (iTup K tl) g tb) δ μ E := fun I0 H0 F0 Ib I H σ F a D e =>
  h _ I H σ F a.s _ fun v I1 H1 r μ1 F1 st f s1 ok ⟨ds, er, Pv, p0, ps, pd⟩ => by
    subst er
    cases ok with
    | tup hs hr =>
      rename_i ad xs
      have e1 : Ex Ib I1 := a.ib.trans st.ii
      have a1 := a.on st f s1
      refine ⟨ad, rfl, ⟨xs, s1.ih.t hs⟩, for_tup (K := K) (a := ad) (xs := xs) (fun i σ2 H2 => ∃ I2 δ2 μ2 F2, At K I0 H0 F0 I1 I2 H2 σ2 δ2 μ2 F2 ∧ Pv i δ2 μ2) ⟨I1, δ, μ1, F1, ⟨a1.st, a1.sub, a1.s, Ex.refl _⟩, p0⟩ ?_ ?_ ?_⟩
      · rintro i σ2 H2 _ ⟨I2, δ2, μ2, F2, a2, _⟩
        exact a2.s.ih.t (a2.ib.t hs)
      · rintro i x σ2 H2 hx ⟨I2, δ2, μ2, F2, a2, p⟩
        obtain ⟨d, hd, rd⟩ := repl_get hr hx
        refine ps i d δ2 μ2 hd p _ I2 H2 σ2 μ2 F2 a2.s x (Rep.mono a2.ib rd) _ fun σ3 δ3 s3 q3 => ?_
        exact q3 I0 H0 F0 I1 I2 H2 σ3 F2 ⟨a2.st, a2.sub, s3, a2.ib⟩ _ ⟨fun I4 H4 σ4 δ4 μ4 F4 a4 q4 => ⟨I4, δ4, μ4, F4, a4, q4⟩, fun v r I4 H4 σ4 δ4 μ4 F4 a4 ok4 q4 => e.rt v r I4 H4 σ4 δ4 μ4 F4 (a4.weak e1) ok4 q4,
          fun I4 H4 σ4 δ4 μ4 F4 a4 q4 => e.nx I4 H4 σ4 δ4 μ4 F4 (a4.weak e1) q4, fun I4 H4 σ4 δ4 μ4 F4 a4 q4 => ⟨I4, δ4, μ4, F4, a4, q4⟩⟩
      · rintro σ2 H2 ⟨I2, δ2, μ2, F2, a2, p⟩
        rw [repl_len hr] at p
        exact e.nx I2 H2 σ2 δ2 μ2 F2 (a2.weak e1) (pd δ2 μ2 p)
/-- over range(n) -/
theorem rs_forR (h : RA K ta δ μ fun rs μ1 => ∃ n : Nat, rs = [.dat (.int n)] ∧ n ≤ 1000000 ∧ ∃ Pv : Nat → List SK → Mu → Prop, Pv 0 δ μ1 ∧
      (∀ i δ' μ', i < n → Pv i δ' μ' → RG K g (.dat (.int (i : Nat))) δ' fun δ2 => RS K tb δ2 μ' { E with nx := Pv (i + 1), ct := Pv (i + 1), bk := E.nx }) ∧ (∀ δ' μ', Pv n δ' μ' → E.nx δ' μ')) :
    RS K (tFor (iRng1 ta) g tb) δ μ E := fun I0 H0 F0 Ib I H σ F a D e =>
  h _ I H σ F a.s _ fun vs I1 H1 rs μ1 F1 st f s1 ok ⟨n, er, hn, Pv, p0, ps, pd⟩ => by
    subst er
    obtain ⟨rfl⟩ : vs = [.int n] := by
      cases vs with
      | nil => cases ok
      | cons v r =>
        cases ok with
        | cons x y =>
          cases r with
          | nil => cases x; rfl
          | cons _ _ => cases y
    have a1 := a.on st f s1
    have e1 : Ex Ib I1 := a.ib.trans st.ii
    refine ⟨n, rfl, by omega, by omega, ?_⟩
    rw [Int.toNat_natCast]
    refine for_range (lo := 0) (n := n) (fun i σ2 H2 => ∃ I2 δ2 μ2 F2, At K I0 H0 F0 I1 I2 H2 σ2 δ2 μ2 F2 ∧ Pv i δ2 μ2) ⟨I1, δ, μ1, F1, ⟨a1.st, a1.sub, a1.s, Ex.refl _⟩, p0⟩ ?_ ?_
    · rintro i σ2 H2 hi ⟨I2, δ2, μ2, F2, a2, p⟩
      rw [Int.zero_add]
      refine ps i δ2 μ2 hi p _ I2 H2 σ2 μ2 F2 a2.s (.int i) (Rep.int _) _ fun σ3 δ3 s3 q3 => ?_
      exact q3 I0 H0 F0 I1 I2 H2 σ3 F2 ⟨a2.st, a2.sub, s3, a2.ib⟩ _ ⟨fun I4 H4 σ4 δ4 μ4 F4 a4 q4 => ⟨I4, δ4, μ4, F4, a4, q4⟩, fun v r I4 H4 σ4 δ4 μ4 F4 a4 ok4 q4 => e.rt v r I4 H4 σ4 δ4 μ4 F4 (a4.weak e1) ok4 q4,
        fun I4 H4 σ4 δ4 μ4 F4 a4 q4 => e.nx I4 H4 σ4 δ4 μ4 F4 (a4.weak e1) q4, fun I4 H4 σ4 δ4 μ4 F4 a4 q4 => ⟨I4, δ4, μ4, F4, a4, q4⟩⟩
    · rintro σ2 H2 ⟨I2, δ2, μ2, F2, a2, p⟩
      exact e.nx I2 H2 σ2 δ2 μ2 F2 (a2.weak e1) (pd δ2 μ2 p)
end
end DL
namespace DL
open PySem L2

/-! ### comprehensions -/
/-- the target's names are the comprehension's own -/
def TgIn (g : TG) (vs : List Nat) : Prop := ∀ v σ H QQ, g v σ H QQ → g v σ H fun σ' H' => L2.wipe σ' vs = L2.wipe σ vs ∧ QQ σ' H'
def TgsIn (g : TGs) (vs : List Nat) : Prop := ∀ xs σ H QQ, g xs σ H QQ → g xs σ H fun σ' H' => L2.wipe σ' vs = L2.wipe σ vs ∧ QQ σ' H'
theorem wipe_set {o : Option V} {i : Nat} : ∀ {vs : List Nat} (σ : St), i ∈ vs → L2.wipe (σ.set i o) vs = L2.wipe σ vs
  | [], σ, h => by cases h
  | v :: vs, σ, h => by
    show (L2.wipe (σ.set i o) vs).set v none = (L2.wipe σ vs).set v none
    by_cases hm : i ∈ vs
    · rw [wipe_set σ hm]
    · have hv : i = v := by
        rcases List.mem_cons.mp h with z | z
        · exact z
        · exact absurd z hm
      subst hv
      have comm : ∀ (ws : List Nat), i ∉ ws → L2.wipe (σ.set i o) ws = (L2.wipe σ ws).set i o := by
        intro ws
        induction ws with
        | nil => intro _; rfl
        | cons w ws ih =>
          intro hn
          show (L2.wipe (σ.set i o) ws).set w none = ((L2.wipe σ ws).set w none).set i o
          rw [ih fun z => hn (List.mem_cons_of_mem _ z), List.set_comm _ _ fun z => hn (by rw [z]; exact List.mem_cons_self)]
      rw [comm vs hm, List.set_set]
theorem tgIn_name {i : Nat} {vs : List Nat} (h : i ∈ vs) : TgIn (gName i) vs := fun v σ H QQ q => ⟨wipe_set σ h, q⟩
theorem tgsIn_nil {vs : List Nat} : TgsIn gNil vs := fun xs σ H QQ ⟨e, q⟩ => ⟨e, rfl, q⟩
theorem tgsIn_cons {g : TG} {gs : TGs} {vs : List Nat} (gm : ∀ v σ H (Q Q' : St → Hp → Prop), (∀ σ' H', Q σ' H' → Q' σ' H') → g v σ H Q → g v σ H Q') (h1 : TgIn g vs) (h2 : TgsIn gs vs) : TgsIn (gCons g gs) vs := fun xs σ H QQ q => by
  obtain ⟨v, r, e, q⟩ := q
  refine ⟨v, r, e, gm v σ H _ _ ?_ (h1 v σ H _ q)⟩
  rintro σ' H' ⟨w, q2⟩
  have q3 := h2 r σ' H' QQ q2
  rw [w] at q3
  exact q3
theorem gm_name {i : Nat} : ∀ v σ H (Q Q' : St → Hp → Prop), (∀ σ' H', Q σ' H' → Q' σ' H') → gName i v σ H Q → gName i v σ H Q' := fun v σ H Q Q' h q => h _ _ q
theorem tgIn_tup {K : PySem.W.Frag} {n : Nat} {gs : TGs} {vs : List Nat} (h : TgsIn gs vs) : TgIn (gTup K n gs) vs := fun v σ H QQ ⟨a, xs, e, hq, hl, q⟩ => ⟨a, xs, e, hq, hl, h xs σ H QQ q⟩
theorem wipe_wipe (σ : St) (vs : List Nat) : L2.wipe (L2.wipe σ vs) vs = L2.wipe σ vs := by
  have all : ∀ ws : List Nat, (∀ x ∈ ws, x ∈ vs) → L2.wipe (L2.wipe σ ws) vs = L2.wipe σ vs := by
    intro ws
    induction ws with
    | nil => intro _; rfl
    | cons w ws ih =>
      intro h
      show L2.wipe ((L2.wipe σ ws).set w none) vs = _
      rw [wipe_set _ (h w List.mem_cons_self), ih fun x hx => h x (List.mem_cons_of_mem _ hx)]
  exact all vs fun _ h => h
section
variable {K : PySem.W.Frag} {δ : List SK} {μ : Mu} {Q : SK → Mu → Prop} {te tl : TE} {ta : TA} {tt : TT} {g : TG} {vs : List Nat}
/-- the state of a comprehension between two turns -/
structure LcAt (K : PySem.W.Frag) (Lc : Addr → Prop) (I1 H1 : Hp) (σ : St) (δ : List SK) (F1 : List Addr) (L : Addr) (Pv : List Da → Mu → Prop) (H : Hp) : Prop where
  w : ∃ I μ F acc accV, Step F1 I1 H1 I H ∧ (∀ x ∈ F, x ∈ F1 ∨ H1 x = none) ∧ Sta K Lc I H σ δ μ F ∧ H L = some (.lst accV) ∧ RepL K I accV acc ∧ L ∉ F ∧ I L = none ∧ Pv acc μ
theorem lc_start {Lc : Addr → Prop} {I1 H1 : Hp} {σ : St} {F1 : List Addr} {L : Addr} {Pv : List Da → Mu → Prop} (s1 : Sta K Lc I1 H1 σ δ μ F1) (hL : H1 L = none) (p0 : Pv [] μ) : LcAt K Lc I1 H1 σ δ F1 L Pv (upd H1 L (.lst [])) := by
  have hne : ∀ x ∈ F1, x ≠ L := fun x hx z => (s1.mu.live x hx).2 (by rw [z]; exact hL)
  refine ⟨I1, μ, F1, [], [], Step.fresh hL, fun x hx => .inl hx, ⟨fun a u h => ?_, fun a h => s1.lc a ?_, s1.sl, s1.mu.mono (Ex.refl I1) (fun x hx => upd_ne (hne x hx)) (fun x hx => (s1.mu.live x hx).1) fun _ _ z => z⟩, upd_same, .nil, fun hx => hne L hx rfl, s1.ih.gone hL, p0⟩
  · have z : a ≠ L := fun z => by
      have := s1.ih.gone hL
      rw [← z, h] at this; cases this
    rw [upd_ne z]; exact s1.ih a u h
  · by_cases z : a = L
    · rw [z]; exact hL
    · rw [upd_ne z] at h; exact h
theorem lc_end {Lc : Addr → Prop} {I1 H1 H : Hp} {σ : St} {F1 : List Addr} {L : Addr} {Pv : List Da → Mu → Prop} {QQ : VK} (s1 : Sta K Lc I1 H1 σ δ μ F1) (hL : H1 L = none) (p : Post K Lc σ δ F1 I1 H1 Q QQ) (h : LcAt K Lc I1 H1 σ δ F1 L Pv H) (q : ∀ acc μ', Pv acc μ' → Q (.dat (.lst acc)) μ') : QQ (.ref L) H := by
  obtain ⟨I, μ', F, acc, accV, st, f, s, hH, r, hF, hI, pv⟩ := h
  have e : Ex I (upd I L (.lst accV)) := Ex.new hI
  refine p (.ref L) (upd I L (.lst accV)) H (.dat (.lst acc)) μ' F ⟨st.ii.trans e, st.keep, fun x hx hn => ?_, st.alive⟩ f ⟨fun b u hb => ?_, s.lc, s.sl.mono e, s.mu.mono e (fun _ _ => rfl) (fun x hx => ?_) fun _ _ z => z⟩ (Rep.lst upd_same (r.mono e)) (q acc μ' pv)
  · have : x ≠ L := fun z => hx (by rw [z]; exact hL)
    rw [upd_ne this]; exact st.own x hx hn
  · by_cases z : b = L
    · rw [z, upd_same] at hb
      rw [z, hH]; exact hb
    · rw [upd_ne z] at hb; exact s.ih b u hb
  · have : x ≠ L := fun z => hF (z ▸ hx)
    rw [upd_ne this]; exact (s.mu.live x hx).1
/-- one turn: target, test, element -/
def LcTurn (K : PySem.W.Frag) (g : TG) (tt : TT) (te : TE) (vs : List Nat) (δ : List SK) (d : Da) (acc : List Da) (μ : Mu) (Nx : List Da → Mu → Prop) : Prop :=
  RG K g (.dat d) (wipeD δ vs) fun δ2 => RT K tt δ2 μ fun b μ2 => (b = true → RD K te δ2 μ2 fun y μ3 => ∃ d', y = .dat d' ∧ acc.length < 100000 ∧ Nx (acc ++ [d']) μ3) ∧ (b = false → Nx acc μ2)
theorem lc_turn {Lc : Addr → Prop} {I1 H1 : Hp} {σ : St} {F1 : List Addr} {L : Addr} {Pv Nx : List Da → Mu → Prop} {x : V} {d : Da} {H : Hp} (tg : TgIn g vs) (hL : H1 L = none) (h : LcAt K Lc I1 H1 σ δ F1 L Pv H) (rx : Rep K I1 x d)
    (t : ∀ acc μ, Pv acc μ → LcTurn K g tt te vs δ d acc μ Nx) :
    g x (L2.wipe σ vs) H fun σ2 H2 => L2.wipe σ2 vs = L2.wipe σ vs ∧ tt σ2 H2 fun b H3 =>
      if b = true then te σ2 H3 fun y H4 => ∃ acc, H4 L = some (.lst acc) ∧ acc.length < sizeLine ∧ LcAt K Lc I1 H1 σ δ F1 L Nx (upd H4 L (.lst (acc ++ [y]))) else LcAt K Lc I1 H1 σ δ F1 L Nx H3 := by
  obtain ⟨I, μ', F, acc, accV, st, f, s, hH, r, hF, hI, pv⟩ := h
  have sw : Sta K Lc I H (L2.wipe σ vs) (wipeD δ vs) μ' F := ⟨s.ih, s.lc, s.sl.wipe vs, s.mu⟩
  have key := tg x (L2.wipe σ vs) H (fun σ2 H2 => tt σ2 H2 fun b H3 =>
      if b = true then te σ2 H3 fun y H4 => ∃ acc, H4 L = some (.lst acc) ∧ acc.length < sizeLine ∧ LcAt K Lc I1 H1 σ δ F1 L Nx (upd H4 L (.lst (acc ++ [y]))) else LcAt K Lc I1 H1 σ δ F1 L Nx H3) ?_
  · rw [wipe_wipe] at key
    exact key
  refine t acc μ' pv Lc I H (L2.wipe σ vs) μ' F sw x (Rep.mono st.ii rx) _ fun σ2 δ2 s2 q2 => ?_
  refine q2 Lc I H σ2 F s2 _ fun b I3 H3 μ3 F3 st3 f3 s3 q3 => ?_
  have keepL : ∀ {I4 H4 : Hp} {F4 : List Addr}, Step F I H I4 H4 → H4 L = some (.lst accV) ∧ I4 L = none := fun {I4 H4 F4} z => ⟨z.keep L _ hH hF, z.own L (by rw [hH]; simp) hI⟩
  have notin : ∀ {F4 : List Addr}, (∀ x ∈ F4, x ∈ F ∨ H x = none) → L ∉ F4 := fun {F4} z hx => by
    rcases z L hx with y | y
    · exact hF y
    · rw [hH] at y; cases y
  cases b with
  | false =>
    show LcAt K Lc I1 H1 σ δ F1 L Nx H3
    obtain ⟨k1, k2⟩ := keepL (F4 := F3) st3
    exact ⟨I3, μ3, F3, acc, accV, st.trans st3 f, sub_trans st f f3, ⟨s3.ih, s3.lc, s.sl.mono st3.ii, s3.mu⟩, k1, r.mono st3.ii, notin f3, k2, q3.2 rfl⟩
  | true =>
    show te σ2 H3 _
    refine q3.1 rfl Lc I3 H3 σ2 F3 s3 _ fun y I4 H4 ry μ4 F4 st4 f4 s4 ok4 ⟨d', e4, hl, nx⟩ => ?_
    subst e4
    have stA : Step F I H I4 H4 := st3.trans st4 f3
    have fA := sub_trans st3 f3 f4
    obtain ⟨k1, k2⟩ := keepL (F4 := F4) stA
    refine ⟨accV, k1, Nat.lt_of_lt_of_le (by rw [repl_len r]; exact hl) (by decide : 100000 ≤ sizeLine), ?_⟩
    have hn4 : L ∉ F4 := notin fA
    have stB : Step F1 I1 H1 I4 (upd H4 L (.lst (accV ++ [y]))) := by
      have z := st.trans stA f
      refine ⟨z.ii, fun a o ha hn => ?_, z.own, fun a ha => ?_⟩
      · rw [upd_ne (ne_of_none ha hL)]; exact z.keep a o ha hn
      · by_cases w : a = L
        · rw [w, upd_same]; simp
        · rw [upd_ne w]; exact z.alive a ha
    refine ⟨I4, μ4, F4, acc ++ [d'], accV ++ [y], stB, sub_trans st f fA, ⟨fun a u h => ?_, fun a h => s4.lc a ?_, s.sl.mono stA.ii, s4.mu.mono (Ex.refl _) (fun x hx => upd_ne fun z => hn4 (z ▸ hx)) (fun x hx => (s4.mu.live x hx).1) fun _ _ z => z⟩, upd_same, repl_app ok4 (r.mono stA.ii), hn4, k2, nx⟩
    · have z : a ≠ L := fun z => by rw [z, k2] at h; cases h
      rw [upd_ne z]; exact s4.ih a u h
    · by_cases z : a = L
      · rw [z, upd_same] at h; cases h
      · rw [upd_ne z] at h; exact h
/-- [e for t in a list if ..] -/
theorem rd_lcL (tg : TgIn g vs) (h : RD K tl δ μ fun r μ1 => ∃ ds, r = .dat (.lst ds) ∧ ∃ Pv : Nat → List Da → Mu → Prop, Pv 0 [] μ1 ∧
      (∀ i d acc μ', ds[i]? = some d → Pv i acc μ' → LcTurn K g tt te vs δ d acc μ' (Pv (i + 1))) ∧ (∀ acc μ', Pv ds.length acc μ' → Q (.dat (.lst acc)) μ')) :
    RD K (tLc (iList K tl) g tt te vs) δ μ Q := fun Lc I H σ F s QQ p =>
  h Lc I H σ F s _ fun v I1 H1 r μ1 F1 st f s1 ok ⟨ds, er, Pv, p0, ps, pd⟩ => by
    subst er
    cases ok with
    | lst hs hr =>
      rename_i ad xs
      refine ⟨ad, rfl, ⟨xs, SqL.of (s1.ih _ _ hs)⟩, fun L hL => lc_list (K := K) (a := ad) (xs := xs) (fun i H2 => LcAt K Lc I1 H1 σ δ F1 L (Pv i) H2) (lc_start s1 hL p0) ?_ ?_ ?_⟩
      · rintro i H2 _ ⟨I2, μ2, F2, acc, accV, st2, f2, s2, _⟩
        exact SqL.of (s2.ih _ _ (st2.ii _ _ hs))
      · intro i x H2 hx a2
        obtain ⟨d, hd, rd⟩ := repl_get hr hx
        exact lc_turn tg hL a2 rd fun acc μ' pv => ps i d acc μ' hd pv
      · intro H2 a2
        rw [repl_len hr] at a2
        exact lc_end s1 hL (p.on st f) a2 pd
theorem rd_lcU (tg : TgIn g vs) (h : RD K tl δ μ fun r μ1 => ∃ ds, r = .dat (.tup ds) ∧ ∃ Pv : Nat → List Da → Mu → Prop, Pv 0 [] μ1 ∧
      (∀ i d acc μ', ds[i]? = some d → Pv i acc μ' → LcTurn K g tt te vs δ d acc μ' (Pv (i + 1))) ∧ (∀ acc μ', Pv ds.length acc μ' → Q (.dat (.lst acc)) μ')) :
    RD K (tLc (iTup K tl) g tt te vs) δ μ Q := fun Lc I H σ F s QQ p =>
  h Lc I H σ F s _ fun v I1 H1 r μ1 F1 st f s1 ok ⟨ds, er, Pv, p0, ps, pd⟩ => by
    subst er
    cases ok with
    | tup hs hr =>
      rename_i ad xs
      refine ⟨ad, rfl, ⟨xs, s1.ih.t hs⟩, fun L hL => lc_tup (K := K) (a := ad) (xs := xs) (fun i H2 => LcAt K Lc I1 H1 σ δ F1 L (Pv i) H2) (lc_start s1 hL p0) ?_ ?_ ?_⟩
      · rintro i H2 _ ⟨I2, μ2, F2, acc, accV, st2, f2, s2, _⟩
        exact s2.ih.t (st2.ii.t hs)
      · intro i x H2 hx a2
        obtain ⟨d, hd, rd⟩ := repl_get hr hx
        exact lc_turn tg hL a2 rd fun acc μ' pv => ps i d acc μ' hd pv
      · intro H2 a2
        rw [repl_len hr] at a2
        exact lc_end s1 hL (p.on st f) a2 pd
theorem vals1 {I : Hp} {vs : List V} {k : SK} (h : SlOk K I (vs.map some) [k]) : ∃ v, vs = [v] ∧ SOk K I (some v) k := by
  cases vs with
  | nil => cases h
  | cons v r =>
    cases h with
    | cons x y =>
      cases r with
      | nil => exact ⟨v, rfl, x⟩
      | cons _ _ => cases y
theorem vals2 {I : Hp} {vs : List V} {k l : SK} (h : SlOk K I (vs.map some) [k, l]) : ∃ v w, vs = [v, w] ∧ SOk K I (some v) k ∧ SOk K I (some w) l := by
  cases vs with
  | nil => cases h
  | cons v r =>
    cases h with
    | cons x y =>
      obtain ⟨w, e, z⟩ := vals1 y
      exact ⟨v, w, by rw [e], x, z⟩
/-- [e for t in range(n) if ..] -/
theorem rd_lcR (tg : TgIn g vs) (h : RA K ta δ μ fun rs μ1 => ∃ n : Nat, rs = [.dat (.int n)] ∧ n ≤ 1000000 ∧ ∃ Pv : Nat → List Da → Mu → Prop, Pv 0 [] μ1 ∧
      (∀ i acc μ', i < n → Pv i acc μ' → LcTurn K g tt te vs δ (.int (i : Nat)) acc μ' (Pv (i + 1))) ∧ (∀ acc μ', Pv n acc μ' → Q (.dat (.lst acc)) μ')) :
    RD K (tLc (iRng1 ta) g tt te vs) δ μ Q := fun Lc I H σ F s QQ p =>
  h Lc I H σ F s _ fun vs I1 H1 rs μ1 F1 st f s1 ok ⟨n, er, hn, Pv, p0, ps, pd⟩ => by
    subst er
    obtain ⟨v, rfl, ov⟩ := vals1 ok
    cases ov
    refine ⟨n, rfl, by omega, by omega, fun L hL => ?_⟩
    rw [Int.toNat_natCast]
    refine lc_range (lo := 0) (n := n) (fun i H2 => LcAt K Lc I1 H1 σ δ F1 L (Pv i) H2) (lc_start s1 hL p0) ?_ ?_
    · intro i H2 hi a2
      rw [Int.zero_add]
      exact lc_turn tg hL a2 (Rep.int _) fun acc μ' pv => ps i acc μ' hi pv
    · intro H2 a2
      exact lc_end s1 hL (p.on st f) a2 pd
end
end DL
namespace DL
open PySem L2
open PyProof.Rows (envOfC)

/-! ### promises -/
abbrev CA := List Da → (Da → Prop) → Prop
abbrev CP := List Da → Nat → (Da → Nat → Prop) → Prop
/-- from data to data -/
def spA (K : PySem.W.Frag) (n : Nat) (C : CA) : Sp := fun vs H Q _ => vs.length = n ∧ ∃ I ds R, Ex I H ∧ RepL K I vs ds ∧ C ds R ∧ ∀ v I' H' d, Step [] I H I' H' → Ex I' H' → Rep K I' v d → R d → Q v H'
/-- from the pool and data to data; the pool is drawn from -/
def spP (K : PySem.W.Frag) (n : Nat) (C : CP) : Sp := fun vs H Q _ => vs.length = n + 1 ∧ ∃ I p ws ds c R, vs = .ref p :: ws ∧ Ex I H ∧ I p = none ∧ PoolAt H p c ∧ RepL K I ws ds ∧ C ds c R ∧
  ∀ v I' H' d c', Step [p] I H I' H' → Ex I' H' → PoolAt H' p c' → Rep K I' v d → R d c' → Q v H'
/-- from data to a new pool -/
def spN (K : PySem.W.Frag) (n : Nat) (C : List Da → Prop) : Sp := fun vs H Q _ => vs.length = n ∧ ∃ I ds, Ex I H ∧ RepL K I vs ds ∧ C ds ∧ ∀ p H', H p = none → PoolAt H' p 0 → (∀ a o, H a = some o → H' a = some o) → Q (.ref p) H'
/-- __init__ of an instance -/
def spI (K : PySem.W.Frag) (n : Nat) (Cl : Addr) (C : List Da → (List (Str × Da) → Prop) → Prop) : Sp := fun vs H Q _ => vs.length = n + 1 ∧ ∃ I a dx ws ds R, vs = .ref a :: ws ∧ Ex I H ∧ I a = none ∧ I dx = none ∧ dx ≠ a ∧ H a = some (.ins Cl dx []) ∧ H dx = some (.own a) ∧ RepL K I ws ds ∧ C ds R ∧
  ∀ I' H' fs fds, Step [a, dx] I H I' H' → Ex I' H' → H' a = some (.ins Cl dx fs) → H' dx = some (.own a) → RepF K I' fs fds → R fds → Q .non H'

section
variable {K : PySem.W.Frag} {δ : List SK} {μ : Mu} {Q : SK → Mu → Prop} {te ta : TE} {tr : TA} {E : XK} {n : Nat}
theorem Sta.grow {Lc : Addr → Prop} {I H I' H' : Hp} {σ : St} {F G : List Addr} (s : Sta K Lc I H σ δ μ F) (st : Step G I H I' H') (hG : ∀ x ∈ G, x ∉ F) (e : Ex I' H') : Sta K Lc I' H' σ δ μ F where
  ih := e
  lc := fun a h => s.lc a (st.gone h)
  sl := s.sl.mono st.ii
  mu := s.mu.mono st.ii (fun x hx => by
      have hl := s.mu.live x hx
      cases q : H x with
      | none => exact absurd q hl.2
      | some o => exact st.keep x o q fun z => hG x z hx) (fun x hx => st.own x (s.mu.live x hx).2 (s.mu.live x hx).1) fun _ _ z => z
/-- f(..), data to data -/
theorem rd_callA {C : CA} (h : RA K tr δ μ fun rs μ1 => ∃ ds, rs = dats ds ∧ ds.length = n ∧ C ds fun d => Q (.dat d) μ1) : RD K (tCall (spA K n C) [] E tr) δ μ Q := fun Lc I H σ F s QQ p =>
  h Lc I H σ F s _ fun vs I1 H1 rs μ1 F1 st f s1 ok ⟨ds, er, hl, c⟩ => by
    subst er
    have r := repl_of ok
    refine ⟨by rw [List.append_nil, repl_len r]; exact hl, I1, ds, _, s1.ih, by rw [List.append_nil]; exact r, c, fun v I2 H2 d st2 e2 rv q => ?_⟩
    exact p v I2 H2 (.dat d) μ1 F1 (st.trans (st2.wide (G := F1) fun x hx => nomatch hx) f) f (s1.grow st2 (fun x hx => nomatch hx) e2) rv q
/-- arguments that are data, or lists that are still changed -/
inductive ArgsD (μ : Mu) : List SK → List Da → Prop
  | nil : ArgsD μ [] []
  | dat {d : Da} {ks : List SK} {ds : List Da} : ArgsD μ ks ds → ArgsD μ (.dat d :: ks) (d :: ds)
  | own {l : Addr} {i : Nat} {xs : List Da} {fl : Bool} {ks : List SK} {ds : List Da} : μ[i]? = some (l, MK.ml xs, fl) → ArgsD μ ks ds → ArgsD μ (.own l :: ks) (.lst xs :: ds)
open Classical in
/-- what is still changed seen as data, but for G -/
noncomputable def lend (F G : List Addr) (I H : Hp) : Hp := fun a => if a ∈ F ∧ a ∉ G then H a else I a
theorem lend_ex {F G : List Addr} {I H : Hp} (e : Ex I H) : Ex I (lend F G I H) := fun a o h => by
  unfold lend
  by_cases c : a ∈ F ∧ a ∉ G
  · rw [if_pos c]; exact e a o h
  · rw [if_neg c]; exact h
theorem lend_ih {F G : List Addr} {I H : Hp} (e : Ex I H) : Ex (lend F G I H) H := fun a o h => by
  unfold lend at h
  by_cases c : a ∈ F ∧ a ∉ G
  · rw [if_pos c] at h; exact h
  · rw [if_neg c] at h; exact e a o h
theorem args_rep {Lc : Addr → Prop} {I H : Hp} {σ : St} {F G : List Addr} (s : Sta K Lc I H σ δ μ F) (hG : ∀ (i : Nat) l xs fl, μ[i]? = some (l, MK.ml xs, fl) → l ∉ G) : ∀ {ks : List SK} {ds : List Da}, ArgsD μ ks ds → ∀ {vs : List V}, SlOk K I (vs.map some) ks → RepL K (lend F G I H) vs ds
  | _, _, .nil, vs, h => by
    cases vs with
    | nil => exact .nil
    | cons _ _ => cases h
  | _, _, .dat a, vs, h => by
    cases vs with
    | nil => cases h
    | cons v r =>
      cases h with
      | cons x y => exact .cons (Rep.mono (lend_ex s.ih) x) (args_rep s hG a y)
  | _, _, .own hm a, vs, h => by
    cases vs with
    | nil => cases h
    | cons v r =>
      cases h with
      | cons x y =>
        have x' : v = .ref _ := x
        subst x'
        obtain ⟨Fi, m, sF, _⟩ := s.mu.at hm
        obtain ⟨rfl, xs, hx, rx⟩ := m
        refine .cons (Rep.lst ?_ (rx.mono (lend_ex s.ih))) (args_rep s hG a y)
        unfold lend
        rw [if_pos ⟨sF _ (by simp), hG _ _ _ _ hm⟩]
        exact hx
/-- f(..) whose answer no object bears; lists that are still changed may be handed in -/
theorem rd_callB {C : CA} (h : RA K tr δ μ fun rs μ1 => ∃ ds, ArgsD μ1 rs ds ∧ ds.length = n ∧ C ds fun d => flat d = true ∧ Q (.dat d) μ1) : RD K (tCall (spA K n C) [] E tr) δ μ Q := fun Lc I H σ F s QQ p =>
  h Lc I H σ F s _ fun vs I1 H1 rs μ1 F1 st f s1 ok ⟨ds, ar, hl, c⟩ => by
    have r := args_rep (G := []) s1 (fun _ _ _ _ _ z => nomatch z) ar ok
    refine ⟨by rw [List.append_nil, repl_len r]; exact hl, lend F1 [] I1 H1, ds, _, lend_ih s1.ih, by rw [List.append_nil]; exact r, c, fun v I2 H2 d st2 e2 rv q => ?_⟩
    have st3 : Step [] I1 H1 I1 H2 := ⟨Ex.refl _, st2.keep, fun _ _ z => z, st2.alive⟩
    exact p v I1 H2 (.dat d) μ1 F1 (st.trans (st3.wide (G := F1) fun x hx => nomatch hx) f) f (s1.grow st3 (fun x hx => nomatch hx) fun a o ha => st2.keep a o (s1.ih a o ha) (by simp)) (Rep.flat rv q.1) q.2
/-- f(pool, ..) -/
theorem pool_after {Lc : Addr → Prop} {I H I' H' : Hp} {σ : St} {F : List Addr} {i : Nat} {a : Addr} {c c' : Nat} {fl : Bool} (s : Sta K Lc I H σ δ μ F) (hi : μ[i]? = some (a, MK.pool c, fl)) (st : Step [a] I H I' H') (e : Ex I' H') (hp : PoolAt H' a c') :
    Sta K Lc I' H' σ δ (μ.set i (a, MK.pool c', fl)) F ∧ a ∈ F := by
  obtain ⟨Fi, m, sF, _, mk⟩ := s.mu.at hi
  obtain ⟨rfl, _⟩ := m
  refine ⟨⟨e, fun b h => s.lc b (st.gone h), s.sl.mono st.ii, mk _ I' H' st.ii (fun x hx hn => ?_) (fun x hx => st.own x (s.mu.live x hx).2 (s.mu.live x hx).1) ⟨rfl, hp⟩⟩, sF a (by simp)⟩
  have hl := s.mu.live x hx
  cases q : H x with
  | none => exact absurd q hl.2
  | some o => exact st.keep x o q hn
theorem rd_callP {C : CP} (h : RA K tr δ μ fun rs μ1 => ∃ (a : Addr) (ds : List Da) (i c : Nat) (fl : Bool), rs = .own a :: dats ds ∧ μ1[i]? = some (a, MK.pool c, fl) ∧ ds.length = n ∧ C ds c fun d c' => Q (.dat d) (μ1.set i (a, MK.pool c', fl))) : RD K (tCall (spP K n C) [] E tr) δ μ Q := fun Lc I H σ F s QQ p =>
  h Lc I H σ F s _ fun vs I1 H1 rs μ1 F1 st f s1 ok ⟨a, ds, i, c, fl, er, hi, hl, cc⟩ => by
    subst er
    cases vs with
    | nil => cases ok
    | cons v ws =>
      cases ok with
      | cons x y =>
        have x' : v = .ref a := x
        subst x'
        have r := repl_of y
        obtain ⟨Fi, m, sF, _⟩ := s1.mu.at hi
        obtain ⟨rfl, hp⟩ := m
        refine ⟨by rw [List.append_nil, List.length_cons, repl_len r, hl], I1, a, ws, ds, c, _, by rw [List.append_nil], s1.ih, (s1.mu.live a (sF a (by simp))).1, hp, r, cc, fun v I2 H2 d c' st2 e2 hp2 rv q => ?_⟩
        obtain ⟨s2, ha⟩ := pool_after s1 hi st2 e2 hp2
        exact p v I2 H2 (.dat d) _ F1 (st.trans (st2.wide (G := F1) fun x hx => by
          have : x = a := by simpa using hx
          rw [this]; exact ha) f) f s2 rv q
theorem rd_callPB {C : CP} (h : RA K tr δ μ fun rs μ1 => ∃ (a : Addr) (ks : List SK) (ds : List Da) (i c : Nat) (fl : Bool), rs = .own a :: ks ∧ ArgsD μ1 ks ds ∧ μ1[i]? = some (a, MK.pool c, fl) ∧ ds.length = n ∧ C ds c fun d c' => flat d = true ∧ Q (.dat d) (μ1.set i (a, MK.pool c', fl))) : RD K (tCall (spP K n C) [] E tr) δ μ Q := fun Lc I H σ F s QQ p =>
  h Lc I H σ F s _ fun vs I1 H1 rs μ1 F1 st f s1 ok ⟨a, ks, ds, i, c, fl, er, ar, hi, hl, cc⟩ => by
    subst er
    cases vs with
    | nil => cases ok
    | cons v ws =>
      cases ok with
      | cons x y =>
        have x' : v = .ref a := x
        subst x'
        obtain ⟨Fi, m, sF, _⟩ := s1.mu.at hi
        obtain ⟨rfl, hp⟩ := m
        have hg : ∀ (j : Nat) l xs fl', μ1[j]? = some (l, MK.ml xs, fl') → l ∉ [a] := fun j l xs fl' hj z => by
          have e : l = a := by simpa using z
          subst e
          have nd := s1.mu.nodup
          have uniq : ∀ {μ : Mu} {G : List Addr} {Lc : Addr → Prop} {i j : Nat} {k k' : MK} {b b' : Bool}, MuOk K Lc I1 H1 G μ → μ[i]? = some (l, k, b) → μ[j]? = some (l, k', b') → i = j := by
            intro μ G Lc i j k k' b b' q
            induction q generalizing i j with
            | nil => intro e; simp at e
            | @cons F2 G2 a2 k2 fl2 μ2 m n d nd l2 q ih =>
              intro e1 e2
              cases i with
              | zero =>
                cases j with
                | zero => rfl
                | succ j =>
                  simp only [List.getElem?_cons_zero, Option.some.injEq, Prod.mk.injEq] at e1
                  obtain ⟨rfl, rfl, rfl⟩ := e1
                  obtain ⟨Fj, mj, sj, _⟩ := q.at (i := j) (by simpa using e2)
                  exact absurd (sj _ mj.mem) (d _ m.mem)
              | succ i =>
                cases j with
                | zero =>
                  simp only [List.getElem?_cons_zero, Option.some.injEq, Prod.mk.injEq] at e2
                  obtain ⟨rfl, rfl, rfl⟩ := e2
                  obtain ⟨Fj, mj, sj, _⟩ := q.at (i := i) (by simpa using e1)
                  exact absurd (sj _ mj.mem) (d _ m.mem)
                | succ j => rw [ih (i := i) (j := j) (by simpa using e1) (by simpa using e2)]
          have := uniq s1.mu hi hj
          subst this
          rw [hi] at hj
          simp at hj
        have r := args_rep (G := [a]) s1 hg ar y
        have hIa : lend F1 [a] I1 H1 a = none := by
          unfold lend
          rw [if_neg (fun z => z.2 (by simp))]
          exact (s1.mu.live a (sF a (by simp))).1
        refine ⟨by rw [List.append_nil, List.length_cons, repl_len r, hl], lend F1 [a] I1 H1, a, ws, ds, c, _, by rw [List.append_nil], lend_ih s1.ih, hIa, hp, r, cc, fun v I2 H2 d c' st2 e2 hp2 rv q => ?_⟩
        have st3 : Step [a] I1 H1 I1 H2 := ⟨Ex.refl _, st2.keep, fun _ _ z => z, st2.alive⟩
        have e3 : Ex I1 H2 := fun b o hb => st2.keep b o (s1.ih b o hb) fun z => by
          have e : b = a := by simpa using z
          rw [e, (s1.mu.live a (sF a (by simp))).1] at hb
          cases hb
        obtain ⟨s2, ha⟩ := pool_after s1 hi st3 e3 hp2
        exact p v I1 H2 (.dat d) _ F1 (st.trans (st3.wide (G := F1) fun x hx => by
          have : x = a := by simpa using hx
          rw [this]; exact ha) f) f s2 (Rep.flat rv q.1) q.2
/-- a new pool -/
theorem rd_callN {C : List Da → Prop} (h : RA K tr δ μ fun rs μ1 => ∃ ds, rs = dats ds ∧ ds.length = n ∧ C ds ∧ ∀ a, Q (.own a) ((a, MK.pool 0, true) :: μ1)) : RD K (tCall (spN K n C) [] E tr) δ μ Q := fun Lc I H σ F s QQ p =>
  h Lc I H σ F s _ fun vs I1 H1 rs μ1 F1 st f s1 ok ⟨ds, er, hl, c, q⟩ => by
    subst er
    have r := repl_of ok
    refine ⟨by rw [List.append_nil, repl_len r]; exact hl, I1, ds, s1.ih, by rw [List.append_nil]; exact r, c, fun a H2 ha hp kp => ?_⟩
    have hne : ∀ x ∈ F1, x ≠ a := fun x hx z => (s1.mu.live x hx).2 (by rw [z]; exact ha)
    have st2 : Step F1 I1 H1 I1 H2 := ⟨Ex.refl _, fun b o hb _ => kp b o hb, fun _ _ z => z, fun b hb z => by
      cases q : H1 b with
      | none => exact hb q
      | some o => rw [kp b o q] at z; cases z⟩
    refine p (.ref a) I1 H2 (.own a) _ (a :: F1) (st.trans st2 f) (fun x hx => ?_) ⟨fun b o hb => kp b o (s1.ih b o hb), fun b hb => s1.lc b (st2.gone hb), s1.sl, ?_⟩ rfl (q a)
    · rcases List.mem_cons.mp hx with z | z
      · rw [z]; exact .inr (st.gone ha)
      · exact f x z
    · refine MuOk.cons (F := [a]) ⟨rfl, hp⟩ ?_ ?_ (by simp) ?_ (s1.mu.mono (Ex.refl _) (fun x hx => ?_) (fun x hx => (s1.mu.live x hx).1) fun _ _ z => z)
      · intro x hx
        have : x = a := by simpa using hx
        rw [this]; exact s1.ih.gone ha
      · intro x hx z
        have : x = a := by simpa using hx
        exact hne x z this
      · intro _ x hx
        have : x = a := by simpa using hx
        rw [this]; exact s1.lc a ha
      · cases q : H1 x with
        | none => exact absurd q (s1.mu.live x hx).2
        | some o => exact kp x o q

/-! ### instances -/
theorem repF_lookup {I : Hp} {f : Str} {d : Da} : ∀ {fs : List (Str × V)} {ds : List (Str × Da)}, RepF K I fs ds → ds.lookup f = some d → ∃ v, fs.lookup f = some v ∧ Rep K I v d
  | _, _, .nil, e => by simp at e
  | _, _, .cons (f := g) r t, e => by
    by_cases h : f = g
    · subst h
      simp only [List.lookup, beq_self_eq_true, Option.some.injEq] at e ⊢
      subst e
      exact ⟨_, rfl, r⟩
    · have hb : (f == g) = false := by simpa using h
      simp only [List.lookup, hb] at e ⊢
      exact repF_lookup t e
theorem repF_none {I : Hp} {f : Str} : ∀ {fs : List (Str × V)} {ds : List (Str × Da)}, RepF K I fs ds → ds.lookup f = none → fs.lookup f = none
  | _, _, .nil, e => rfl
  | _, _, .cons (f := g) r t, e => by
    by_cases h : f = g
    · subst h
      simp [List.lookup] at e
    · have hb : (f == g) = false := by simpa using h
      simp only [List.lookup, hb] at e ⊢
      exact repF_none t e
/-- e.f -/
theorem rd_fld {f : Str} (h : RD K ta δ μ fun r μ1 => ∃ (Cl : Addr) (fs : List (Str × Da)) (d : Da), r = .dat (.obj Cl fs) ∧ Cls K Cl ∧ NoAttr K Cl f ∧ fs.lookup f = some d ∧ Q (.dat d) μ1) : RD K (tFld K ta f) δ μ Q := fun Lc I H σ F s QQ p =>
  h Lc I H σ F s _ fun v I1 H1 r μ1 F1 st f1 s1 ok ⟨Cl, fs, d, er, c, na, hl, q⟩ => by
    subst er
    cases ok with
    | obj ho hf =>
      obtain ⟨w, hw, rw'⟩ := repF_lookup hf hl
      exact ⟨_, Cl, _, _, w, rfl, s1.ih _ _ ho, c, na, hw, p w I1 H1 (.dat d) μ1 F1 st f1 s1 rw' q⟩
/-- o.m(..) -/
theorem rd_methA {Cl : Addr} {m : Str} {C : CA} (h : RD K ta δ μ fun r μ1 => ∃ fs, r = .dat (.obj Cl fs) ∧ fs.lookup m = none ∧ RA K tr δ μ1 fun rs μ2 => ∃ ds, rs = dats ds ∧ ds.length = n ∧ C (.obj Cl fs :: ds) fun d => Q (.dat d) μ2) : RD K (tMeth Cl m (spA K (n + 1) C) [] E ta tr) δ μ Q := fun Lc I H σ F s QQ p =>
  h Lc I H σ F s _ fun v I1 H1 r μ1 F1 st f s1 ok ⟨fs, er, hn, ha⟩ => by
    subst er
    cases ok with
    | obj ho hf =>
      refine ⟨_, _, _, rfl, s1.ih _ _ ho, repF_none hf hn, ?_⟩
      refine ha Lc I1 H1 σ F1 s1 _ fun vs I2 H2 rs μ2 F2 st2 f2 s2 ok2 ⟨ds, er, hl, c⟩ => ?_
      subst er
      have r := repl_of ok2
      have ro := Rep.mono st2.ii (Rep.obj ho hf)
      refine ⟨by rw [List.append_nil, List.length_cons, repl_len r, hl], I2, _, _, s2.ih, by rw [List.append_nil]; exact .cons ro r, c, fun v I3 H3 d st3 e3 rv q => ?_⟩
      exact p v I3 H3 (.dat d) μ2 F2 ((st.trans st2 f).trans (st3.wide (G := F2) fun x hx => nomatch hx) (sub_trans st f f2)) (sub_trans st f f2) (s2.grow st3 (fun x hx => nomatch hx) e3) rv q
/-- C(..) -/
theorem rd_make {Cl : Addr} {C : List Da → (List (Str × Da) → Prop) → Prop} (h : RA K tr δ μ fun rs μ1 => ∃ ds, rs = dats ds ∧ ds.length = n ∧ C ds fun fs => Q (.dat (.obj Cl fs)) μ1) : RD K (tMake Cl (spI K n Cl C) [] E tr) δ μ Q := fun Lc I H σ F s QQ p =>
  h Lc I H σ F s _ fun vs I1 H1 rs μ1 F1 st f s1 ok ⟨ds, er, hl, c⟩ => by
    subst er
    have r := repl_of ok
    intro x dx hx hdx hne
    have nx : upd (upd H1 dx (.own x)) x (.ins Cl dx []) dx = some (.own x) := by rw [upd_ne hne, upd_same]
    have e0 : Ex I1 (upd (upd H1 dx (.own x)) x (.ins Cl dx [])) := fun a o h => by
      have h1 := s1.ih a o h
      rw [upd_ne (ne_of_none h1 hx), upd_ne (ne_of_none h1 hdx)]
      exact h1
    refine ⟨by rw [List.append_nil, List.length_cons, repl_len r, hl], I1, x, dx, vs, ds, _, by rw [List.append_nil], e0, s1.ih.gone hx, s1.ih.gone hdx, hne, upd_same, nx, r, c, fun I2 H2 fs fds st2 e2 h1 h2 rf q => ⟨rfl, ?_⟩⟩
    have kp : ∀ a o, H1 a = some o → H2 a = some o := fun a o ha => st2.keep a o (by rw [upd_ne (ne_of_none ha hx), upd_ne (ne_of_none ha hdx)]; exact ha) (by
      simp only [List.mem_cons, List.not_mem_nil, or_false, not_or]
      exact ⟨ne_of_none ha hx, ne_of_none ha hdx⟩)
    have hIx : I2 x = none := st2.own x (by rw [upd_same]; simp) (s1.ih.gone hx)
    have e3 : Ex I2 (upd I2 x (.ins Cl dx fs)) := Ex.new hIx
    have own3 : ∀ a, H1 a ≠ none → I1 a = none → upd I2 x (.ins Cl dx fs) a = none := fun a ha hn => by
      have : a ≠ x := fun z => ha (by rw [z]; exact hx)
      rw [upd_ne this]
      refine st2.own a ?_ hn
      cases q : H1 a with
      | none => exact absurd q ha
      | some o => rw [upd_ne (ne_of_none q hx), upd_ne (ne_of_none q hdx), q]; simp
    have st3 : Step [] I1 H1 (upd I2 x (.ins Cl dx fs)) H2 := ⟨st2.ii.trans e3, fun a o ha _ => kp a o ha, own3, fun a ha z => by
      cases q : H1 a with
      | none => exact ha q
      | some o => rw [kp a o q] at z; cases z⟩
    have ih3 : Ex (upd I2 x (.ins Cl dx fs)) H2 := fun b o hb => by
      by_cases z : b = x
      · rw [z, upd_same] at hb
        rw [z, h1]; exact hb
      · rw [upd_ne z] at hb; exact e2 b o hb
    exact p (.ref x) _ H2 (.dat (.obj Cl fds)) μ1 F1 (st.trans (st3.wide (G := F1) fun x hx => nomatch hx) f) f (s1.grow st3 (fun x hx => nomatch hx) ih3) (Rep.obj upd_same (rf.mono e3)) q
end

/-! ### the defs -/
def startD (N : List Str) (ks : List SK) : List SK := ks ++ List.replicate (N.length - ks.length) .any
theorem slok_any {K : PySem.W.Frag} {I : Hp} : ∀ n : Nat, SlOk K I (List.replicate n none) (List.replicate n .any)
  | 0 => .nil
  | n + 1 => .cons trivial (slok_any n)
theorem slok_app {K : PySem.W.Frag} {I : Hp} {σ σ' : St} {δ δ' : List SK} (h : SlOk K I σ δ) (h' : SlOk K I σ' δ') : SlOk K I (σ ++ σ') (δ ++ δ') := by
  induction h with
  | nil => exact h'
  | cons a b ih => exact .cons a ih
theorem slok_dats {K : PySem.W.Frag} {I : Hp} : ∀ {vs : List V} {ds : List Da}, RepL K I vs ds → SlOk K I (vs.map some) (dats ds)
  | _, _, .nil => .nil
  | _, _, .cons a b => .cons a (slok_dats b)
theorem slok_start {K : PySem.W.Frag} {I : Hp} {N : List Str} {vs : List V} {ks : List SK} (h : SlOk K I (vs.map some) ks) : SlOk K I (L2.start N vs) (startD N ks) := by
  have hl : vs.length = ks.length := by simpa using h.length
  unfold L2.start startD
  rw [hl]
  exact slok_app h (slok_any _)
end DL
/-! Promises of defs that are kept where nothing shows itself at the moment (no guard stands): what repr asks. -/
namespace DL
open PySem L2
open PyProof.Rows (envOfC)

structure RmG (k : Nat) (A : Around) : Prop where
  r : Room k A
  g : A.guards = some []
theorem RmG.mono {j k : Nat} {A : Around} (h : RmG k A) (le : j ≤ k) : RmG j A := { r := h.r.mono le, g := h.g }
theorem RmG.deeper {k : Nat} {A : Around} (h : RmG (k + 1) A) (env : Env) : RmG k (A.deeper env) := { r := h.r.deeper env, g := h.g }
theorem RmG.make {k : Nat} {A : Around} (h : RmG (k + 1) A) (C : Addr) (us : List Value) (kw : List (Str × Value)) : RmG k (A.under (.builtin "type.__call__" ⟨.ref C :: us, kw⟩)) where
  r := h.r.make C us kw
  g := by
    have z := h.g
    first
      | (simpa [Around.under, pushGuards, Code.guards, Code.isGuard, guardIds] using z)
      | exact z

structure FnG (P : Program) (w : World) (K : PySem.W.Frag) (mg : Str → Option Value) (base : Heap) (CX : CXT) (k : Nat) (f : Addr) (fd : FuncData) (ps : List Str) (sp : Sp) : Prop where
  len : ∀ vs H Q E, sp vs H Q E → vs.length = ps.length
  go : ∀ (A : Around) (outer : List Env) (s : Shared) (H : Hp) (args : Args) (us : List Value) (vs : List V) (Q : VK) (E : XK), RmG k A → Env0 P w K mg base A outer s H → BindsTo s fd args (ps.zip us) → Vals vs us → sp vs H Q E →
    codeAny (model P w) A (.call (.ref f) args) (CR CX outer P w H s Q E) s
theorem FnG.of {P : Program} {w : World} {K : PySem.W.Frag} {mg : Str → Option Value} {base : Heap} {CX : CXT} {k : Nat} {f : Addr} {fd : FuncData} {ps : List Str} {sp : Sp} (F : FnOk P w K mg base CX k f fd ps sp) : FnG P w K mg base CX k f fd ps sp :=
  { len := F.len, go := fun A outer s H args us vs Q E hr => F.run A outer s H args us vs Q E hr.r }

section
variable {X : Cx} {CX : CXT} {k j : Nat} {f C : Addr} {fd : FuncData} {ps : List Str} {sp : Sp} {E : XK} {x m : Str} {p pos apos : Pos} {e o : Expr} {es : List Expr} {ta : TE} {t : TA}
theorem goG {pins : List (Addr × Obj)} {σ : St} {H : Hp} {s : Shared} {Q : VK} {us : List Value} {vs : List V} (F : FnG X.prog X.w X.K X.mg X.base CX k f fd ps sp) (hr : RmG k X.A) (hb : Binds X.K fd ps []) (hx : Passes CX X E)
    (I : Inv X pins σ H s) (r : Vals vs us) (h : sp vs H Q E) : wpAny (model X.prog X.w) X.A (call (.ref f) us) (EP X pins σ Q) X.xe s := by
  have hl : us.length = ps.length := r.length.symm.trans (F.len _ _ _ _ h)
  have hb' : BindsTo s fd ⟨us, []⟩ (ps.zip us) := by
    have z := hb s us I.kIn (by rw [List.append_nil]; exact hl)
    rw [List.append_nil] at z
    exact z
  refine wpAny_call (codeAny_mono (F.go X.A X.stack s H ⟨us, []⟩ us vs Q E hr I.env0 hb' r h) ?_)
  intro res s' hq
  match res, hq with
  | .error er, hq => exact hx pins σ H s er s' I hq
  | .ok (.ret u), hq => exact I.after hq
  | .ok .next, hq => exact hq.elim
  | .ok .brk, hq => exact hq.elim
  | .ok .cont, hq => exact hq.elim

/-- a def that may be called by its name -/
structure CalG (P : Program) (w : World) (K : PySem.W.Frag) (mg : Str → Option Value) (base : Heap) (CX : CXT) (k : Nat) (x : Str) (sp : Sp) : Prop where
  ex : ∃ (f : Addr) (fd : FuncData) (ps : List Str), FnG P w K mg base CX k f fd ps sp ∧ mg x = some (.ref f) ∧ PySem.W.keepIn K (.ref f) = true ∧ Binds K fd ps []
theorem pe_cg (c : CalG X.prog X.w X.K X.mg X.base CX k x sp) (hr : RmG j X.A) (hk : k ≤ j) (hx : Passes CX X E) (hg : Gl X x) (ha : PA X (e :: es) t) (hdb : (x == ("__debug__" : Str)) = false := by decide)
    (he : starEach (e :: es) X.env = (false, eval e X.env) :: starEach es X.env := by rfl) (hpl : (backTo pos (starEach es X.env)).any (·.1) = false := by rfl) : PE X (.Call (.Name x p) (e :: es) [] pos) (tCall sp [] E t) := by
  obtain ⟨f, fd, ps, F, hm, kp, b⟩ := c.ex
  refine ⟨fun pins s σ H Q I h => wpAny_Call_Name_kw (ld_glob I hg hm ?_ hdb)⟩
  refine PySem.W.callWith_K (h₀ := X.base) I.ok.mod.kin kp (thn (ha.run pos pins s σ H _ I h) ?_) he hpl
  rintro us s1 ⟨vs, H1, I1, r, q⟩
  rw [List.append_nil] at q
  exact ⟨I1.kIn, goG F (hr.mono hk) b hx I1 r q⟩
/-- a method of the class at C -/
structure MetG (P : Program) (w : World) (K : PySem.W.Frag) (mg : Str → Option Value) (base : Heap) (CX : CXT) (k : Nat) (C : Addr) (m : Str) (sp : Sp) : Prop where
  ex : ∃ (f : Addr) (fd : FuncData) (ps : List Str), Cls K C ∧ Meth K C m f ∧ FnG P w K mg base CX k f fd ps sp ∧ Binds K fd ps []
theorem pe_mg {pl : Sem Bool} (c : MetG X.prog X.w X.K X.mg X.base CX k C m sp) (hr : RmG j X.A) (hk : k ≤ j) (hx : Passes CX X E) (he : PE X o ta) (ha : PA X (e :: es) t)
    (hst : starEach (e :: es) X.env = (false, eval e X.env) :: starEach es X.env := by rfl) (hpl : (backTo pos (starEach es X.env)).any (·.1) = false := by rfl)
    (ht : eval (.Call (.Attribute o m apos) (e :: es) [] pos) X.env = (do let ov ← eval o X.env; standAt apos.atName; let (f, first) ← holding [ov] (getMethod ov m pl); callWith pos f first (backTo pos (starEach (e :: es) X.env)) (backToKw pos (keywordEach [] X.env))) := by rfl) :
    PE X (.Call (.Attribute o m apos) (e :: es) [] pos) (tMeth C m sp [] E ta t) := by
  obtain ⟨f, fd, ps, cl, me, F, b⟩ := c.ex
  refine ⟨fun pins s σ H Q I h => PySem.W.methodCall_KW (pl := pl) (thn (he.run pins s σ H _ I h) ?_) ht⟩
  rintro u s1 ⟨y, H1, I1, ry, a, dx, fs, ey, ea, l, q⟩
  subst ey
  cases (show u = Value.ref a from ry)
  refine getmeth_ok I1 ea cl me l (PySem.W.callWith_K (first := [.ref a]) (h₀ := X.base) I.ok.mod.kin me.kp (thn (ha.run pos pins s1 σ H1 _ I1 q) ?_) hst hpl)
  rintro us s2 ⟨vs, H2, I2, r, q2⟩
  rw [List.append_nil] at q2
  exact ⟨I2.kIn, goG (us := .ref a :: us) (vs := .ref a :: vs) F (hr.mono hk) b hx I2 (.cons rfl r) q2⟩
theorem pe_mg0 {pl : Sem Bool} (c : MetG X.prog X.w X.K X.mg X.base CX k C m sp) (hr : RmG j X.A) (hk : k ≤ j) (hx : Passes CX X E) (he : PE X o ta)
    (ht : eval (.Call (.Attribute o m apos) [] [] pos) X.env = (do let ov ← eval o X.env; standAt apos.atName; let (f, first) ← holding [ov] (getMethod ov m pl); callWith pos f first (backTo pos (starEach [] X.env)) (backToKw pos (keywordEach [] X.env))) := by rfl) :
    PE X (.Call (.Attribute o m apos) [] [] pos) (tMeth C m sp [] E ta tNil) := by
  obtain ⟨f, fd, ps, cl, me, F, b⟩ := c.ex
  refine ⟨fun pins s σ H Q I h => PySem.W.methodCall_KW (pl := pl) (thn (he.run pins s σ H _ I h) ?_) ht⟩
  rintro u s1 ⟨y, H1, I1, ry, a, dx, fs, ey, ea, l, q⟩
  subst ey
  cases (show u = Value.ref a from ry)
  refine getmeth_ok I1 ea cl me l (PySem.W.callWith_K0 (first := [.ref a]) I1.kIn me.kp (goG (us := [.ref a]) (vs := [.ref a]) F (hr.mono hk) b hx I1 (.cons rfl .nil) ?_))
  have q' : sp (V.ref a :: ([] ++ [])) H1 Q E := q
  exact q'
/-- a class that may be made -/
structure MakG (P : Program) (w : World) (K : PySem.W.Frag) (mg : Str → Option Value) (base : Heap) (CX : CXT) (k : Nat) (x : Str) (C : Addr) (sp : Sp) : Prop where
  ex : ∃ (f : Addr) (fd : FuncData) (ps : List Str), Mk K C f ∧ FnG P w K mg base CX k f fd ps sp ∧ mg x = some (.ref C) ∧ Binds K fd ps []
theorem makeG {pins : List (Addr × Obj)} {σ : St} {H : Hp} {s : Shared} {Q : VK} {us : List Value} {vs : List V} (M : Mk X.K C f) (F : FnG X.prog X.w X.K X.mg X.base CX k f fd ps sp) (hr : RmG (k + 1) X.A) (hb : Binds X.K fd ps []) (hx : Passes CX X E) (I : Inv X pins σ H s) (r : Vals vs us)
    (h : ∀ y dx, H y = none → H dx = none → dx ≠ y → sp (.ref y :: vs) (upd (upd H dx (.own y)) y (.ins C dx [])) (fun v H2 => v = .non ∧ Q (.ref y) H2) E) : wpAny (model X.prog X.w) X.A (call (.ref C) us) (EP X pins σ Q) X.xe s := by
  have q := h (s.heap.objs.size + 1) s.heap.objs.size (I.hok.fresh (Nat.le_succ _)) (I.hok.fresh (Nat.le_refl _)) (Nat.ne_of_lt (Nat.lt_succ_self s.heap.objs.size))
  have J := Inv.made (C := C) I
  have hl : (Value.ref (s.heap.objs.size + 1) :: us).length = ps.length := by
    rw [← F.len _ _ _ _ q, List.length_cons, List.length_cons, r.length]
  have hb' := hb _ (Value.ref (s.heap.objs.size + 1) :: us) J.kIn (by rw [List.append_nil]; exact hl)
  rw [List.append_nil] at hb'
  refine wpAny_call (make_map (f := f) I.kIn M.makes M.init (beq_iff_eq.mp M.fn) (codeAny_mono (F.go _ X.stack _ _ ⟨Value.ref (s.heap.objs.size + 1) :: us, []⟩ (Value.ref (s.heap.objs.size + 1) :: us) _ _ E (hr.make C us []) (J.env0.make C us []) hb' (.cons (show RelV (V.ref (s.heap.objs.size + 1)) (Value.ref (s.heap.objs.size + 1)) from rfl) r) q) ?_))
  intro res s' hq
  match res, hq with
  | .error er, hq => exact hx pins σ _ _ er s' J hq
  | .ok (.ret u), hq =>
    obtain ⟨v, H', I3, rv, ev, q3⟩ := J.after hq
    subst ev
    exact ⟨rv, ⟨V.ref (s.heap.objs.size + 1), H', I3, rfl, q3⟩⟩
  | .ok .next, hq => exact hq.elim
  | .ok .brk, hq => exact hq.elim
  | .ok .cont, hq => exact hq.elim
theorem pe_mkg (c : MakG X.prog X.w X.K X.mg X.base CX k x C sp) (hr : RmG j X.A) (hk : k + 1 ≤ j) (hx : Passes CX X E) (hg : Gl X x) (ha : PA X (e :: es) t) (hdb : (x == ("__debug__" : Str)) = false := by decide)
    (he : starEach (e :: es) X.env = (false, eval e X.env) :: starEach es X.env := by rfl) (hpl : (backTo pos (starEach es X.env)).any (·.1) = false := by rfl) : PE X (.Call (.Name x p) (e :: es) [] pos) (tMake C sp [] E t) := by
  obtain ⟨f, fd, ps, M, F, hm, b⟩ := c.ex
  refine ⟨fun pins s σ H Q I h => wpAny_Call_Name_kw (ld_glob I hg hm ?_ hdb)⟩
  refine PySem.W.callWith_K (h₀ := X.base) I.ok.mod.kin M.kp (thn (ha.run pos pins s σ H _ I h) ?_) he hpl
  rintro us s1 ⟨vs, H1, I1, r, q⟩
  refine ⟨I1.kIn, makeG M F (hr.mono hk) b hx I1 r fun y dx n1 n2 ne => ?_⟩
  have z := q y dx n1 n2 ne
  rw [List.append_nil] at z
  exact z
end

/-- the rule for a def, by its body -/
theorem fng_of {CX : CXT} {P : Program} {w : World} {K : PySem.W.Frag} {mg : Str → Option Value} {base : Heap} {k : Nat} {x qual : Str} {st : Stmt} {f : Addr} {fd : FuncData} {N ps : List Str} {sp : Sp} (F : Fun K x qual st f fd) (S : FnScope N ps (defScope st)) (len : ∀ vs H Q E, sp vs H Q E → vs.length = ps.length)
    (hbody : ∀ (cdv : Value) (A : Around) (outer : List Env) (s : Shared) (H : Hp) (vs : List V) (Q : VK) (E : XK), RmG k (A.deeper (envOfC qual (defScope st) s.heap.objs.size f cdv)) → sp vs H Q E →
      ∃ t, PSs (cxOf CX P w K mg base N qual (defScope st) f cdv A outer s H E) (defBody st) t ∧ t { nx := fun _ H' => Q .non H', rt := Q } (L2.start N vs) H) : FnG P w K mg base CX (k + 1) f fd ps sp := by
  obtain ⟨oc, od, kV, doc, pm, an, cdv, ct, osl, rfl, lk, hcd⟩ := F.ex
  refine { len := len, go := fun A outer s H args us vs Q E hr e0 hb r hsp => ?_ }
  have hl := len _ _ _ _ hsp
  have keepB : ∀ b o, base.get? b = some o → s.heap.get? b = some o := fun b o e => (e0.bs b o e).1
  have KX : K.In s.heap := e0.mod.kin.keeps keepB
  have lim : s.heap.NoLimit := e0.mod.nolimit.keeps keepB
  refine codeAny_call_function hr.r.depth (KX _ _ lk) rfl S.co S.gen rfl (PySem.W.codeRec_of KX hcd) (hb _ _ _ _ (wpAny_newFunctionEnv_cells S.kind ?_ ?_))
  · rintro ⟨n, v⟩ hy
    have q := S.par n (List.of_mem_zip hy).1
    exact q.imp id fun z => ⟨z, PySem.W.cellsFrom_some _ _ _ (.inl z)⟩
  · intro env he s1 y
    subst he
    refine ⟨lim.keeps y.toInCall.keep, codeAny_func ?_⟩
    obtain ⟨t, ht, hq⟩ := hbody cdv A outer s H vs Q E (hr.deeper _) hsp
    have I := inv_start (CX := CX) (E := E) S hr.r.hd e0 hl r y
    refine wpAny_mono (ht.run [] s1 _ H _ I hq) ?_ fun _ _ z => z
    intro fl s' hs
    have fin : ∀ {σ' : St} {H' : Hp} {v : V} {u : Value}, Inv (cxOf CX P w K mg base N qual (defScope st) f cdv A outer s H E) [] σ' H' s' → RelV v u → Q v H' → CE outer P w H s Q u s' :=
      fun {_ H' v _} J rv q => ⟨v, H', J.os, J.bare, J.base, J.hok, rv, q⟩
    match fl, hs with
    | .ret u, hs => obtain ⟨v, σ', H', J, rv, q⟩ := hs; exact fin J rv q
    | .next, hs => obtain ⟨σ', H', J, q⟩ := hs; exact fin (v := V.non) (u := Value.none) J rfl q
    | .brk, hs => obtain ⟨_, _, _, q⟩ := hs; exact q.elim
    | .cont, hs => obtain ⟨_, _, _, q⟩ := hs; exact q.elim
end DL
namespace DL
open PySem L2
open PyProof.Rows (envOfC)
section
variable {P : Program} {w : World} {K : PySem.W.Frag} {mg : Str → Option Value} {base : Heap} {x qual : Str} {st : Stmt} {f : Addr} {fd : FuncData} {N ps : List Str} {k n : Nat}
theorem fn_A {C : CA} (F : Fun K x qual st f fd) (S : FnScope N ps (defScope st)) (hn : ps.length = n)
    (body : ∀ (cdv : Value) (A : Around) (outer : List Env) (s : Shared) (H : Hp) (E : XK), RmG k (A.deeper (envOfC qual (defScope st) s.heap.objs.size f cdv)) →
      ∃ t, PSs (cxOf CX0 P w K mg base N qual (defScope st) f cdv A outer s H E).nox (defBody st) t ∧ ∀ ds R, ds.length = n → C ds R → RS K t (startD N (dats ds)) [] { nx := fun _ _ => R .non, rt := fun r _ => ∃ d, r = .dat d ∧ R d }) :
    FnG P w K mg base CX0 (k + 1) f fd ps (spA K n C) := by
  refine fng_of F S (fun vs H Q E h => h.1.trans hn.symm) fun cdv A outer s H vs Q E hr h => ?_
  obtain ⟨hl, I, ds, R, e, r, c, q⟩ := h
  obtain ⟨t, ht, hb⟩ := body cdv A outer s H E hr
  refine ⟨t, ht.nox, hb ds R ((repl_len r).symm.trans hl) c I H [] I I H _ [] { st := Step.refl _ _ _, sub := fun x hx => (nomatch hx), s := ⟨e, fun _ z => z, slok_start (slok_dats r), .nil⟩, ib := Ex.refl _ } _ ⟨fun I1 H1 σ1 δ1 μ1 F1 a qr => ?_, fun v r I1 H1 σ1 δ1 μ1 F1 a ok qr => ?_, fun _ _ _ _ _ _ _ z => z.elim, fun _ _ _ _ _ _ _ z => z.elim⟩⟩
  · exact q .non I1 H1 .non a.st a.s.ih .non qr
  · obtain ⟨d, er, hR⟩ := qr
    subst er
    exact q v I1 H1 d a.st a.s.ih ok hR
theorem fn_P {C : CP} (F : Fun K x qual st f fd) (S : FnScope N ps (defScope st)) (hn : ps.length = n + 1)
    (body : ∀ (cdv : Value) (A : Around) (outer : List Env) (s : Shared) (H : Hp) (E : XK), RmG k (A.deeper (envOfC qual (defScope st) s.heap.objs.size f cdv)) →
      ∃ t, PSs (cxOf CX0 P w K mg base N qual (defScope st) f cdv A outer s H E).nox (defBody st) t ∧ ∀ (p : Addr) ds c R, ds.length = n → C ds c R →
        RS K t (startD N (.own p :: dats ds)) [(p, MK.pool c, false)] { nx := fun _ _ => False, rt := fun r μ' => ∃ (d : Da) (j c' c'' : Nat), r = .dat d ∧ μ'[j]? = some (p, MK.pool c', false) ∧ c' ≤ c'' ∧ R d c'' }) :
    FnG P w K mg base CX0 (k + 1) f fd ps (spP K n C) := by
  refine fng_of F S (fun vs H Q E h => h.1.trans hn.symm) fun cdv A outer s H vs Q E hr h => ?_
  obtain ⟨hl, I, p, ws, ds, c, R, rfl, e, hI, hp, r, cc, q⟩ := h
  obtain ⟨t, ht, hb⟩ := body cdv A outer s H E hr
  have hl' : ds.length = n := by rw [← repl_len r]; simpa using hl
  refine ⟨t, ht.nox, hb p ds c R hl' cc I H [p] I I H _ [p] ⟨Step.refl _ _ _, fun x hx => .inl hx, ⟨e, fun _ z => z, slok_start (vs := .ref p :: ws) (.cons rfl (slok_dats r)), ?_⟩, Ex.refl _⟩ _ ⟨fun I1 H1 σ1 δ1 μ1 F1 a qr => qr.elim, fun v r I1 H1 σ1 δ1 μ1 F1 a ok qr => ?_, fun _ _ _ _ _ _ _ z => z.elim, fun _ _ _ _ _ _ _ z => z.elim⟩⟩
  · refine MuOk.cons (F := [p]) (G := []) ⟨rfl, hp⟩ ?_ (fun _ _ z => nomatch z) (by simp) (fun z => nomatch z) .nil
    intro x hx
    have : x = p := by simpa using hx
    rw [this]; exact hI
  · obtain ⟨d, j, c', c'', er, hj, hle, hR⟩ := qr
    subst er
    obtain ⟨Fi, m, _⟩ := a.s.mu.at hj
    obtain ⟨_, d0, m0, k0, hp', h1, h2, h3, h4, h5⟩ := m
    exact q v I1 H1 d c'' a.st a.s.ih ⟨d0, m0, k0, hp', h1, h2, h3, h4, by omega⟩ ok hR
/-- __init__ -/
theorem fn_I {Cl : Addr} {C : List Da → (List (Str × Da) → Prop) → Prop} (F : Fun K x qual st f fd) (S : FnScope N ps (defScope st)) (hn : ps.length = n + 1)
    (body : ∀ (cdv : Value) (A : Around) (outer : List Env) (s : Shared) (H : Hp) (E : XK), RmG k (A.deeper (envOfC qual (defScope st) s.heap.objs.size f cdv)) →
      ∃ t, PSs (cxOf CX0 P w K mg base N qual (defScope st) f cdv A outer s H E).nox (defBody st) t ∧ ∀ (p dx : Addr) ds R, ds.length = n → C ds R →
        RS K t (startD N (.own p :: dats ds)) [(p, MK.ins Cl dx [], false)] { nx := fun _ μ' => ∃ (fs : List (Str × Da)) (j : Nat), μ'[j]? = some (p, MK.ins Cl dx fs, false) ∧ R fs, rt := fun _ _ => False }) :
    FnG P w K mg base CX0 (k + 1) f fd ps (spI K n Cl C) := by
  refine fng_of F S (fun vs H Q E h => h.1.trans hn.symm) fun cdv A outer s H vs Q E hr h => ?_
  obtain ⟨hl, I, p, dx, ws, ds, R, rfl, e, hI, hIx, hne, hp, hd, r, cc, q⟩ := h
  obtain ⟨t, ht, hb⟩ := body cdv A outer s H E hr
  have hl' : ds.length = n := by rw [← repl_len r]; simpa using hl
  refine ⟨t, ht.nox, hb p dx ds R hl' cc I H [p, dx] I I H _ [p, dx] ⟨Step.refl _ _ _, fun x hx => .inl hx, ⟨e, fun _ z => z, slok_start (vs := .ref p :: ws) (.cons rfl (slok_dats r)), ?_⟩, Ex.refl _⟩ _ ⟨fun I1 H1 σ1 δ1 μ1 F1 a qr => ?_, fun v r I1 H1 σ1 δ1 μ1 F1 a ok qr => qr.elim, fun _ _ _ _ _ _ _ z => z.elim, fun _ _ _ _ _ _ _ z => z.elim⟩⟩
  · refine MuOk.cons (F := [p, dx]) (G := []) ⟨rfl, [], hp, .nil, hd⟩ ?_ (fun _ _ z => nomatch z) ?_ (fun z => nomatch z) .nil
    · intro x hx
      rcases (by simpa using hx : x = p ∨ x = dx) with z | z
      · rw [z]; exact hI
      · rw [z]; exact hIx
    · simp only [List.nodup_cons, List.mem_cons, List.not_mem_nil, or_false, not_false_eq_true, List.nodup_nil, and_true]
      exact fun z => hne z.symm
  · obtain ⟨fs, j, hj, hR⟩ := qr
    obtain ⟨Fi, m, _⟩ := a.s.mu.at hj
    obtain ⟨_, xs, h1, rf, h2⟩ := m
    exact q I1 H1 xs fs a.st a.s.ih h1 h2 rf hR
end

/-- a def of the module: where it stands, what its name means, how arguments bind -/
def DefAt (K : PySem.W.Frag) (mg : Str → Option Value) (x : Str) (st : Stmt) (ps : List Str) : Prop := ∃ (f : Addr) (fd : FuncData), Fun K x x st f fd ∧ mg x = some (.ref f) ∧ Binds K fd ps []
/-- a method of the class at C -/
def MethAt (K : PySem.W.Frag) (C : Addr) (m qual : Str) (st : Stmt) (ps : List Str) : Prop := ∃ (f : Addr) (fd : FuncData), Fun K m qual st f fd ∧ Meth K C m f ∧ Binds K fd ps []
def InitAt (K : PySem.W.Frag) (mg : Str → Option Value) (x : Str) (C : Addr) (qual : Str) (st : Stmt) (ps : List Str) : Prop := ∃ (f : Addr) (fd : FuncData), Fun K "__init__" qual st f fd ∧ Mk K C f ∧ mg x = some (.ref C) ∧ Binds K fd ps []
section
variable {P : Program} {w : World} {K : PySem.W.Frag} {mg : Str → Option Value} {base : Heap} {x qual m : Str} {C : Addr} {st : Stmt} {ps : List Str} {k : Nat} {sp : Sp} {CX : CXT}
theorem DefAt.cal (d : DefAt K mg x st ps) (h : ∀ {f fd}, Fun K x x st f fd → FnG P w K mg base CX k f fd ps sp) : CalG P w K mg base CX k x sp := by
  obtain ⟨f, fd, F, hm, b⟩ := d
  exact ⟨f, fd, ps, h F, hm, F.kp, b⟩
theorem MethAt.met (c : Cls K C) (d : MethAt K C m qual st ps) (h : ∀ {f fd}, Fun K m qual st f fd → FnG P w K mg base CX k f fd ps sp) : MetG P w K mg base CX k C m sp := by
  obtain ⟨f, fd, F, hm, b⟩ := d
  exact ⟨f, fd, ps, c, hm, h F, b⟩
theorem InitAt.mak (d : InitAt K mg x C qual st ps) (h : ∀ {f fd}, Fun K "__init__" qual st f fd → FnG P w K mg base CX k f fd ps sp) : MakG P w K mg base CX k x C sp := by
  obtain ⟨f, fd, F, M, hm, b⟩ := d
  exact ⟨f, fd, ps, M, h F, hm, b⟩
end
end DL
namespace DL
open PySem L2

/-! ### data that == tells apart -/
mutual
def py : Da → PyData
  | .non => .none | .bl b => .bool b | .int i => .int i | .str x => .str x
  | .tup ds => .tuple (pyL ds) | .lst ds => .list (pyL ds)
  | _ => .none
def pyL : List Da → List PyData
  | [] => []
  | d :: ds => py d :: pyL ds
end
mutual
def plain : Da → Bool
  | .non => true | .bl _ => true | .int _ => true | .str x => PyData.strOk x
  | .tup ds => plainL ds | .lst ds => plainL ds
  | _ => false
def plainL : List Da → Bool
  | [] => true
  | d :: ds => plain d && plainL ds
end
mutual
theorem rep_dp {K : PySem.W.Frag} {I H : Hp} (e : Ex I H) : ∀ {v : V} {d : Da}, Rep K I v d → plain d = true → Dp K H v (py d)
  | _, _, .non, _ => .non
  | _, _, .bl b, _ => .bl b
  | _, _, .int b, _ => .int b
  | _, _, .str b, _ => .str b
  | _, _, .ty _, h => nomatch h
  | _, _, .cls _, h => nomatch h
  | _, _, .tup h r, p => .tup (e.t h) (repl_dp e r p)
  | _, _, .lst h r, p => .lst (SqL.of (e _ _ h)) (repl_dp e r p)
  | _, _, .scr _, h => nomatch h
  | _, _, .dct _ _, h => nomatch h
  | _, _, .exc _ _ _, h => nomatch h
  | _, _, .exc0 _, h => nomatch h
  | _, _, .obj _ _, h => nomatch h
theorem repl_dp {K : PySem.W.Frag} {I H : Hp} (e : Ex I H) : ∀ {v : List V} {d : List Da}, RepL K I v d → plainL d = true → DpAll K H v (pyL d)
  | _, _, .nil, _ => .nil
  | _, _, .cons a b, p => by
    have p' := Bool.and_eq_true_iff.mp p
    exact .cons (rep_dp e a p'.1) (repl_dp e b p'.2)
end
mutual
theorem plain_lay : ∀ d : Da, plain d = true → (py d).canLay0 = true
  | .non, _ => rfl
  | .bl _, _ => rfl
  | .int _, _ => rfl
  | .str _, h => h
  | .tup ds, h => by
    show PyData.canLayAll0 (pyL ds) = true
    exact plainL_lay ds h
  | .lst ds, h => by
    show PyData.canLayAll0 (pyL ds) = true
    exact plainL_lay ds h
theorem plainL_lay : ∀ ds : List Da, plainL ds = true → PyData.canLayAll0 (pyL ds) = true
  | [], _ => rfl
  | d :: ds, h => by
    have h' := Bool.and_eq_true_iff.mp h
    show ((py d).canLay0 && PyData.canLayAll0 (pyL ds)) = true
    rw [plain_lay d h'.1, plainL_lay ds h'.2]; rfl
end
def shp (d : Da) : Bool := plain d && decide ((py d).depth ≤ 64)
theorem shp_shaped {d : Da} (h : shp d = true) : SeqAt.shaped (py d) = true := by
  have h' := Bool.and_eq_true_iff.mp h
  unfold SeqAt.shaped
  rw [plain_lay d h'.1, h'.2]; rfl
theorem shp_plain {d : Da} (h : shp d = true) : plain d = true := (Bool.and_eq_true_iff.mp h).1

/-! ### the operators, whatever stands on their sides -/
def rStrAdd : R2 := fun x y H Q => ∃ i j, x = .str i ∧ y = .str j ∧ i.length + j.length ≤ sizeLine ∧ Q (.str (i ++ j)) H
def rAddI : R2 := rI0 fun i j => .int (i + j)
def rADD (K : PySem.W.Frag) : R2 := fun x y H Q => rAddI x y H Q ∨ (rStrAdd x y H Q ∨ (rCat x y H Q ∨ rCatT K x y H Q))
theorem opADD {X : Cx} : OpR X (binaryOp .Add) (rADD X.K) := OpR.or op_add (OpR.or op_add_str (OpR.or op_cat op_catT))
def CPowB (i j : Int) : Prop := 0 ≤ j ∧ (Builtin.Int.intBits i : Int) * j ≤ 2 ^ 27
def rPOW : R2 := rI CPowB fun i j => .int (i ^ j.toNat)
theorem opPOW {X : Cx} : OpR X (binaryOp .Pow) rPOW := opI fun _ _ _ _ _ _ _ hc q => PyProof.Rows.pow_int hc.1 hc.2 q
def rMULI : R2 := rI CMulX fun i j => .int (i * j)
def rMUL : R2 := fun x y H Q => rMULI x y H Q ∨ rRep x y H Q
theorem opMUL {X : Cx} : OpR X (binaryOp .Mult) rMUL := OpR.or op_mulX op_rep
def rSUB : R2 := rI0 fun i j => .int (i - j)
theorem opSUB {X : Cx} : OpR X (binaryOp .Sub) rSUB := op_sub
def rMOD : R2 := rI (fun _ j => 0 < j) fun i j => .int (i % j)
theorem opMOD {X : Cx} : OpR X (binaryOp .Mod) rMOD := op_mod
def rFDV : R2 := rI CDivW fun i j => .int (i / j)
theorem opFDV {X : Cx} : OpR X (binaryOp .FloorDiv) rFDV := op_fdivW
def rEQ (K : PySem.W.Frag) : R2 := fun x y H Q => rEq x y H Q ∨ rEqD K x y H Q
def rNE (K : PySem.W.Frag) : R2 := fun x y H Q => rNe x y H Q ∨ rNeD K x y H Q
theorem opEQ {X : Cx} (hu : X.A.units + 64 < cLine) : OpR X (compareOp .Eq) (rEQ X.K) := OpR.or op_eq (op_eqD hu)
theorem opNE {X : Cx} (hu : X.A.units + 64 < cLine) : OpR X (compareOp .NotEq) (rNE X.K) := OpR.or op_ne (op_neD hu)
def rLTI : R2 := rI0 fun i j => .bl (decide (i < j))
def rLEI : R2 := rI0 fun i j => .bl (decide (i ≤ j))
def rGTI : R2 := rI0 fun i j => .bl (decide (j < i))
def rGEI : R2 := rI0 fun i j => .bl (decide (j ≤ i))
theorem opLT {X : Cx} : OpR X (compareOp .Lt) rLTI := op_lt
theorem opLE {X : Cx} : OpR X (compareOp .LtE) rLEI := op_le
theorem opGT {X : Cx} : OpR X (compareOp .Gt) rGTI := op_gt
theorem opGE {X : Cx} : OpR X (compareOp .GtE) rGEI := op_ge
def rISN : R2 := fun x y H Q => y = .non ∧ Q (.bl (decide (x = .non))) H
def rNON : R2 := fun x y H Q => y = .non ∧ Q (.bl (!decide (x = .non))) H
theorem opISN {X : Cx} : OpR X (compareOp .Is) rISN := op_isN
theorem opNON {X : Cx} : OpR X (compareOp .IsNot) rNON := op_notN
def rSgn : R2 := fun x y H Q => ∃ (c : Nat) (z : Str), x = .str ⟨#[c]⟩ ∧ y = .str z ∧ Q (.bl (decide (c ∈ z.cps.toList))) H
def rDIn : R2 := fun y x H Q => ∃ a o, x = .ref a ∧ DGet H a y o ∧ Q (.bl o.isSome) H
def rDNin : R2 := fun y x H Q => ∃ a o, x = .ref a ∧ DGet H a y o ∧ Q (.bl (!o.isSome)) H
theorem op_din {X : Cx} (hu : X.A.units + 64 < cLine) : OpR X (compareOp .In) rDIn := by
  rintro pins s σ H y x v u Q I ry rx ⟨a, o, rfl, g, q⟩
  cases (show u = Value.ref a from rx)
  exact d_in (by omega) I g ry fun s' J => ⟨.bl o.isSome, H, J, rfl, q⟩
theorem op_dnin {X : Cx} (hu : X.A.units + 64 < cLine) : OpR X (compareOp .NotIn) rDNin := by
  rintro pins s σ H y x v u Q I ry rx ⟨a, o, rfl, g, q⟩
  cases (show u = Value.ref a from rx)
  exact d_notIn (by omega) I g ry fun s' J => ⟨.bl (!o.isSome), H, J, rfl, q⟩
def rNSgn : R2 := fun x y H Q => ∃ (c : Nat) (z : Str), x = .str ⟨#[c]⟩ ∧ y = .str z ∧ Q (.bl (!decide (c ∈ z.cps.toList))) H
def rIN (K : PySem.W.Frag) : R2 := fun x y H Q => rIn K false x y H Q ∨ (rSgn x y H Q ∨ (rDIn x y H Q ∨ rInD K x y H Q))
def rNIN (K : PySem.W.Frag) : R2 := fun x y H Q => rIn K true x y H Q ∨ (rNSgn x y H Q ∨ (rDNin x y H Q ∨ rNotInD K x y H Q))
theorem opIN {X : Cx} (hu : X.A.units + 65 < cLine) : OpR X (compareOp .In) (rIN X.K) := OpR.or op_in_seq (OpR.or op_in_sign (OpR.or (op_din (by omega)) (op_inD hu)))
theorem opNIN {X : Cx} (hu : X.A.units + 65 < cLine) : OpR X (compareOp .NotIn) (rNIN X.K) := OpR.or op_notIn_seq (OpR.or op_notIn_sign (OpR.or (op_dnin (by omega)) (op_notInD hu)))
/-- subscripts -/
def rDIx : R2 := fun x y H Q => ∃ a v, x = .ref a ∧ DGet H a y (some v) ∧ Q v H
theorem ix_dict {X : Cx} (hu : X.A.units + 64 < cLine) : IxR X rDIx := by
  rintro value slice pins s σ H x y v u Q I rx ry ⟨a, z, rfl, g, q⟩ hs
  cases (show v = Value.ref a from rx)
  have hT := dict_typeIs I g
  have go : wpAny (model X.prog X.w) X.A (getItem (.ref a) u) (EP X pins σ Q) X.xe s := d_getItem (by omega) I g ry fun w' s3 I3 rw' => ⟨z, H, I3, rw', q⟩
  exact PyProof.Rows.tail_any hT PySem.F.slot_dict_getitem.lookup go hs
def rIX (K : PySem.W.Frag) : R2 := fun x y H Q => rIx K x y H Q ∨ rDIx x y H Q
theorem ixANY {X : Cx} (hu : X.A.units + 64 < cLine) : IxR X (rIX X.K) := IxR.or ix_seq (ix_dict hu)
end DL
namespace DL
open PySem L2
section
variable {K : PySem.W.Frag} {δ : List SK} {μ : Mu} {Q : SK → Mu → Prop} {QT : Bool → Mu → Prop} {r r' : R2} {x y : SK}
theorem rr_or1 (h : RR K r x y δ μ Q) : RR K (fun x y H Q => r x y H Q ∨ r' x y H Q) x y δ μ Q := fun Lc I H σ F s v w a b QQ p => .inl (h Lc I H σ F s v w a b QQ p)
theorem rr_or2 (h : RR K r' x y δ μ Q) : RR K (fun x y H Q => r x y H Q ∨ r' x y H Q) x y δ μ Q := fun Lc I H σ F s v w a b QQ p => .inr (h Lc I H σ F s v w a b QQ p)
theorem rr_I0 {g : Int → Int → Int} {i j : Int} (q : Q (.dat (.int (g i j))) μ) : RR K (rI0 fun i j => .int (g i j)) (.dat (.int i)) (.dat (.int j)) δ μ Q := fun Lc I H σ F s v w a b QQ p => by
  cases a
  cases b
  exact ⟨i, j, rfl, rfl, p.now (v := .int (g i j)) (r := .dat (.int (g i j))) s (Rep.int _) q⟩
theorem rr_B0 {g : Int → Int → Bool} {i j : Int} (q : Q (.dat (.bl (g i j))) μ) : RR K (rI0 fun i j => .bl (g i j)) (.dat (.int i)) (.dat (.int j)) δ μ Q := fun Lc I H σ F s v w a b QQ p => by
  cases a
  cases b
  exact ⟨i, j, rfl, rfl, p.now (v := .bl (g i j)) (r := .dat (.bl (g i j))) s (Rep.bl _) q⟩
theorem rr_I {C : Int → Int → Prop} {g : Int → Int → Int} {i j : Int} (hc : C i j) (q : Q (.dat (.int (g i j))) μ) : RR K (rI C fun i j => .int (g i j)) (.dat (.int i)) (.dat (.int j)) δ μ Q := fun Lc I H σ F s v w a b QQ p => by
  cases a
  cases b
  exact ⟨i, j, rfl, rfl, hc, p.now (v := .int (g i j)) (r := .dat (.int (g i j))) s (Rep.int _) q⟩
-- +
theorem add_i {i j : Int} (q : Q (.dat (.int (i + j))) μ) : RR K (rADD K) (.dat (.int i)) (.dat (.int j)) δ μ Q := rr_or1 (rr_I0 (g := fun i j => i + j) q)
theorem add_s {a b : Str} (hl : a.length + b.length ≤ 1000000) (q : Q (.dat (.str (a ++ b))) μ) : RR K (rADD K) (.dat (.str a)) (.dat (.str b)) δ μ Q := rr_or2 (rr_or1 fun Lc I H σ F s v w x y QQ p => by
  cases x
  cases y
  exact ⟨a, b, rfl, rfl, Nat.le_trans hl (by decide), p.now (v := .str (a ++ b)) (r := .dat (.str (a ++ b))) s (Rep.str _) q⟩)
theorem repl_cat {I : Hp} : ∀ {vs : List V} {ds : List Da} {ws : List V} {es : List Da}, RepL K I vs ds → RepL K I ws es → RepL K I (vs ++ ws) (ds ++ es)
  | _, _, _, _, .nil, h => h
  | _, _, _, _, .cons a b, h => .cons a (repl_cat b h)
/-- + of two lists (data, or still changed) makes data -/
theorem IsL.at_ {Lc : Addr → Prop} {I H : Hp} {σ : St} {F : List Addr} (s : Sta K Lc I H σ δ μ F) {v : V} {r : SK} {ds : List Da} (h : IsL μ r ds) (ok : SOk K I (some v) r) : ∃ a xs, v = .ref a ∧ H a = some (.lst xs) ∧ RepL K I xs ds := by
  cases h with
  | dat =>
    cases ok with
    | lst hs hr => exact ⟨_, _, rfl, s.ih _ _ hs, hr⟩
  | own h =>
    have ok' : v = .ref _ := ok
    obtain ⟨Fi, m, _⟩ := s.mu.at h
    obtain ⟨_, xs, hx, r⟩ := m
    exact ⟨_, xs, ok', hx, r⟩
theorem add_l {ds es : List Da} (hx : IsL μ x ds) (hy : IsL μ y es) (hl : ds.length + es.length ≤ 1000000) (q : Q (.dat (.lst (ds ++ es))) μ) : RR K (rADD K) x y δ μ Q := rr_or2 (rr_or2 (rr_or1 fun Lc I H σ F s v w ox oy QQ p => by
  obtain ⟨a, xs, rfl, ha, ra⟩ := hx.at_ s ox
  obtain ⟨b, ys, rfl, hb, rb⟩ := hy.at_ s oy
  refine ⟨a, b, xs, ys, rfl, rfl, ha, hb, Nat.le_trans (by rw [repl_len ra, repl_len rb]; exact hl) (by decide), fun c hc => ?_⟩
  exact p (.ref c) (upd I c (.lst (xs ++ ys))) (upd H c (.lst (xs ++ ys))) (.dat (.lst (ds ++ es))) μ F (Step.new hc s.ih) (fun x hx => .inl hx) (s.newD hc) (Rep.lst upd_same (repl_cat (ra.mono (Ex.new (s.ih.gone hc))) (rb.mono (Ex.new (s.ih.gone hc))))) q))
theorem add_t {ds es : List Da} (h0 : ds ≠ []) (he : es ≠ []) (hl : ds.length + es.length ≤ 1000000) (q : Q (.dat (.tup (ds ++ es))) μ) : RR K (rADD K) (.dat (.tup ds)) (.dat (.tup es)) δ μ Q := rr_or2 (rr_or2 (rr_or2 fun Lc I H σ F s v w ox oy QQ p => by
  cases ox with
  | tup h1 r1 =>
    cases oy with
    | tup h2 r2 =>
      rename_i a xs b ys
      have n1 : xs ≠ [] := fun z => by subst z; cases r1; exact h0 rfl
      have n2 : ys ≠ [] := fun z => by subst z; cases r2; exact he rfl
      refine ⟨a, b, xs, ys, rfl, rfl, s.ih.t h1, s.ih.t h2, n1, Nat.le_trans (by rw [repl_len r1, repl_len r2]; exact hl) (by decide), fun z => absurd z n2, fun _ c hc => ?_⟩
      exact p (.ref c) (upd I c (.tup (xs ++ ys))) (upd H c (.tup (xs ++ ys))) (.dat (.tup (ds ++ es))) μ F (Step.new hc s.ih) (fun x hx => .inl hx) (s.newD hc) (Rep.tup (SqT.of upd_same) (repl_cat (r1.mono (Ex.new (s.ih.gone hc))) (r2.mono (Ex.new (s.ih.gone hc))))) q))
theorem sub_i {i j : Int} (q : Q (.dat (.int (i - j))) μ) : RR K rSUB (.dat (.int i)) (.dat (.int j)) δ μ Q := rr_I0 (g := fun i j => i - j) q
theorem mul_i {i j : Int} (hc : CMulX i j) (q : Q (.dat (.int (i * j))) μ) : RR K rMUL (.dat (.int i)) (.dat (.int j)) δ μ Q := rr_or1 (rr_I (g := fun i j => i * j) hc q)
theorem mod_i {i j : Int} (hc : 0 < j) (q : Q (.dat (.int (i % j))) μ) : RR K rMOD (.dat (.int i)) (.dat (.int j)) δ μ Q := rr_I (C := fun _ j => 0 < j) (g := fun i j => i % j) hc q
theorem fdv_i {i j : Int} (hc : CDivW i j) (q : Q (.dat (.int (i / j))) μ) : RR K rFDV (.dat (.int i)) (.dat (.int j)) δ μ Q := rr_I (g := fun i j => i / j) hc q
theorem pow_i {i j : Int} (hc : CPowB i j) (q : Q (.dat (.int (i ^ j.toNat))) μ) : RR K rPOW (.dat (.int i)) (.dat (.int j)) δ μ Q := rr_I (g := fun i j => i ^ j.toNat) hc q
theorem lt_i {i j : Int} (q : Q (.dat (.bl (decide (i < j)))) μ) : RR K rLTI (.dat (.int i)) (.dat (.int j)) δ μ Q := rr_B0 (g := fun i j => decide (i < j)) q
theorem le_i {i j : Int} (q : Q (.dat (.bl (decide (i ≤ j)))) μ) : RR K rLEI (.dat (.int i)) (.dat (.int j)) δ μ Q := rr_B0 (g := fun i j => decide (i ≤ j)) q
theorem gt_i {i j : Int} (q : Q (.dat (.bl (decide (j < i)))) μ) : RR K rGTI (.dat (.int i)) (.dat (.int j)) δ μ Q := rr_B0 (g := fun i j => decide (j < i)) q
theorem ge_i {i j : Int} (q : Q (.dat (.bl (decide (j ≤ i)))) μ) : RR K rGEI (.dat (.int i)) (.dat (.int j)) δ μ Q := rr_B0 (g := fun i j => decide (j ≤ i)) q
-- == and !=
theorem eq_sc {d e : Da} {v w : V} (hs : scal v w = true) (h1 : ∀ I u, Rep K I u d → u = v) (h2 : ∀ I u, Rep K I u e → u = w) (q : Q (.dat (.bl (decide (v = w)))) μ) : RR K (rEQ K) (.dat d) (.dat e) δ μ Q := rr_or1 fun Lc I H σ F s v' w' a b QQ p => by
  cases h1 _ _ a
  cases h2 _ _ b
  exact ⟨hs, p.now (v := .bl _) (r := .dat (.bl _)) s (Rep.bl _) q⟩
theorem ne_sc {d e : Da} {v w : V} (hs : scal v w = true) (h1 : ∀ I u, Rep K I u d → u = v) (h2 : ∀ I u, Rep K I u e → u = w) (q : Q (.dat (.bl (!decide (v = w)))) μ) : RR K (rNE K) (.dat d) (.dat e) δ μ Q := rr_or1 fun Lc I H σ F s v' w' a b QQ p => by
  cases h1 _ _ a
  cases h2 _ _ b
  exact ⟨hs, p.now (v := .bl _) (r := .dat (.bl _)) s (Rep.bl _) q⟩
theorem un_int {i : Int} : ∀ I u, Rep K I u (.int i) → u = .int i := fun _ _ h => by cases h; rfl
theorem un_str {i : Str} : ∀ I u, Rep K I u (.str i) → u = .str i := fun _ _ h => by cases h; rfl
theorem un_bl {i : Bool} : ∀ I u, Rep K I u (.bl i) → u = .bl i := fun _ _ h => by cases h; rfl
theorem un_non : ∀ I u, Rep K I u .non → u = .non := fun _ _ h => by cases h; rfl
theorem eq_i {i j : Int} (q : Q (.dat (.bl (decide (i = j)))) μ) : RR K (rEQ K) (.dat (.int i)) (.dat (.int j)) δ μ Q := eq_sc rfl un_int un_int (by
  have e : decide (V.int i = V.int j) = decide (i = j) := by simp
  rw [e]; exact q)
theorem ne_i {i j : Int} (q : Q (.dat (.bl (!decide (i = j)))) μ) : RR K (rNE K) (.dat (.int i)) (.dat (.int j)) δ μ Q := ne_sc rfl un_int un_int (by
  have e : decide (V.int i = V.int j) = decide (i = j) := by simp
  rw [e]; exact q)
theorem eq_s {i j : Str} (q : Q (.dat (.bl (decide (i = j)))) μ) : RR K (rEQ K) (.dat (.str i)) (.dat (.str j)) δ μ Q := eq_sc rfl un_str un_str (by
  have e : decide (V.str i = V.str j) = decide (i = j) := by simp
  rw [e]; exact q)
theorem ne_s {i j : Str} (q : Q (.dat (.bl (!decide (i = j)))) μ) : RR K (rNE K) (.dat (.str i)) (.dat (.str j)) δ μ Q := ne_sc rfl un_str un_str (by
  have e : decide (V.str i = V.str j) = decide (i = j) := by simp
  rw [e]; exact q)
theorem eq_sn {i : Str} (q : Q (.dat (.bl false)) μ) : RR K (rEQ K) (.dat (.str i)) (.dat .non) δ μ Q := eq_sc rfl un_str un_non q
theorem eq_ns {i : Str} (q : Q (.dat (.bl false)) μ) : RR K (rEQ K) (.dat .non) (.dat (.str i)) δ μ Q := eq_sc rfl un_non un_str q
theorem eq_nn (q : Q (.dat (.bl true)) μ) : RR K (rEQ K) (.dat .non) (.dat .non) δ μ Q := eq_sc rfl un_non un_non (by simpa using q)
theorem ne_sn {i : Str} (q : Q (.dat (.bl true)) μ) : RR K (rNE K) (.dat (.str i)) (.dat .non) δ μ Q := ne_sc rfl un_str un_non q
theorem ne_ns {i : Str} (q : Q (.dat (.bl true)) μ) : RR K (rNE K) (.dat .non) (.dat (.str i)) δ μ Q := ne_sc rfl un_non un_str q
theorem ne_nn (q : Q (.dat (.bl false)) μ) : RR K (rNE K) (.dat .non) (.dat .non) δ μ Q := ne_sc rfl un_non un_non (by simpa using q)
theorem eq_b {i j : Bool} (q : Q (.dat (.bl (decide (i = j)))) μ) : RR K (rEQ K) (.dat (.bl i)) (.dat (.bl j)) δ μ Q := eq_sc rfl un_bl un_bl (by
  have e : decide (V.bl i = V.bl j) = decide (i = j) := by simp
  rw [e]; exact q)
theorem ne_b {i j : Bool} (q : Q (.dat (.bl (!decide (i = j)))) μ) : RR K (rNE K) (.dat (.bl i)) (.dat (.bl j)) δ μ Q := ne_sc rfl un_bl un_bl (by
  have e : decide (V.bl i = V.bl j) = decide (i = j) := by simp
  rw [e]; exact q)
/-- two of any form -/
theorem eq_d {d e : Da} (hd : shp d = true) (he : shp e = true) (q : Q (.dat (.bl (PyData.eqv (py d) (py e)))) μ) : RR K (rEQ K) (.dat d) (.dat e) δ μ Q := rr_or2 fun Lc I H σ F s v w a b QQ p =>
  ⟨py d, py e, rep_dp s.ih a (shp_plain hd), rep_dp s.ih b (shp_plain he), shp_shaped hd, shp_shaped he, p.now (v := .bl _) (r := .dat (.bl _)) s (Rep.bl _) q⟩
theorem ne_d {d e : Da} (hd : shp d = true) (he : shp e = true) (q : Q (.dat (.bl (!PyData.eqv (py d) (py e)))) μ) : RR K (rNE K) (.dat d) (.dat e) δ μ Q := rr_or2 fun Lc I H σ F s v w a b QQ p =>
  ⟨py d, py e, rep_dp s.ih a (shp_plain hd), rep_dp s.ih b (shp_plain he), shp_shaped hd, shp_shaped he, p.now (v := .bl _) (r := .dat (.bl _)) s (Rep.bl _) q⟩
/-- the same data -/
theorem eq_dd {d : Da} (hd : shp d = true) (q : Q (.dat (.bl true)) μ) : RR K (rEQ K) (.dat d) (.dat d) δ μ Q := eq_d hd hd (by rw [SeqAt.eqv_refl _ (plain_lay d (shp_plain hd))]; exact q)
theorem ne_dd {d : Da} (hd : shp d = true) (q : Q (.dat (.bl false)) μ) : RR K (rNE K) (.dat d) (.dat d) δ μ Q := ne_d hd hd (by rw [SeqAt.eqv_refl _ (plain_lay d (shp_plain hd))]; exact q)
-- is None
def isNon : Da → Bool
  | .non => true
  | _ => false
theorem is_n {d : Da} (q : Q (.dat (.bl (isNon d))) μ) : RR K rISN (.dat d) (.dat .non) δ μ Q := fun Lc I H σ F s v w a b QQ p => by
  cases b
  refine ⟨rfl, ?_⟩
  have e : decide (v = V.non) = isNon d := by cases a <;> simp [isNon]
  rw [e]
  exact p.now (v := .bl _) (r := .dat (.bl _)) s (Rep.bl _) q
theorem not_n {d : Da} (q : Q (.dat (.bl (!isNon d))) μ) : RR K rNON (.dat d) (.dat .non) δ μ Q := fun Lc I H σ F s v w a b QQ p => by
  cases b
  refine ⟨rfl, ?_⟩
  have e : (!decide (v = V.non)) = (!isNon d) := by cases a <;> simp [isNon]
  rw [e]
  exact p.now (v := .bl _) (r := .dat (.bl _)) s (Rep.bl _) q
-- in: a text in a list or tuple of texts; a sign in a text
def txts (l : List Str) : List Da := l.map .str
theorem repl_strs {I : Hp} : ∀ {l : List Str} {vs : List V}, RepL K I vs (txts l) → vs = l.map V.str
  | [], vs, h => by cases h; rfl
  | z :: l, vs, h => by
    cases h with
    | cons a b => cases a; rw [repl_strs b]; rfl
theorem inV_strs (z : Str) (l : List Str) : inV (.str z) (l.map V.str) = decide (z ∈ l) := by
  induction l with
  | nil => rfl
  | cons a l ih =>
    have e : inV (.str z) ((a :: l).map V.str) = (eqV (.str a) (.str z) || inV (.str z) (l.map V.str)) := rfl
    rw [e, ih]
    have e2 : eqV (.str a) (.str z) = decide (a = z) := by
      show (a == z) = decide (a = z)
      exact Bool.beq_eq_decide_eq a z
    rw [e2]
    by_cases h : a = z
    · subst h; simp
    · have h' : ¬ z = a := fun q => h q.symm
      simp [h, h']
theorem all_strs (l : List Str) : (l.map V.str).all flatV = true := by
  rw [List.all_map, List.all_eq_true]
  intro z _; rfl
theorem in_strs {z : Str} {l : List Str} {ds : List Da} (hd : ds = txts l) (hy : IsL μ y ds) (q : Q (.dat (.bl (decide (z ∈ l)))) μ) : RR K (rIN K) (.dat (.str z)) y δ μ Q := rr_or1 fun Lc I H σ F s v w a b QQ p => by
  cases a
  obtain ⟨ad, xs, rfl, hx, r⟩ := hy.sq s b
  rw [hd] at r
  cases repl_strs r
  refine ⟨ad, _, rfl, .inl hx, rfl, all_strs l, ?_⟩
  show QQ (.bl (inV (.str z) (l.map V.str))) H
  rw [inV_strs]
  exact p.now (v := .bl _) (r := .dat (.bl _)) s (Rep.bl _) q
theorem nin_strs {z : Str} {l : List Str} {ds : List Da} (hd : ds = txts l) (hy : IsL μ y ds) (q : Q (.dat (.bl (!decide (z ∈ l)))) μ) : RR K (rNIN K) (.dat (.str z)) y δ μ Q := rr_or1 fun Lc I H σ F s v w a b QQ p => by
  cases a
  obtain ⟨ad, xs, rfl, hx, r⟩ := hy.sq s b
  rw [hd] at r
  cases repl_strs r
  refine ⟨ad, _, rfl, .inl hx, rfl, all_strs l, ?_⟩
  show QQ (.bl (!inV (.str z) (l.map V.str))) H
  rw [inV_strs]
  exact p.now (v := .bl _) (r := .dat (.bl _)) s (Rep.bl _) q
theorem in_tup {z : Str} {l : List Str} {ds : List Da} (hd : ds = txts l) (q : Q (.dat (.bl (decide (z ∈ l)))) μ) : RR K (rIN K) (.dat (.str z)) (.dat (.tup ds)) δ μ Q := rr_or1 fun Lc I H σ F s v w a b QQ p => by
  cases a
  cases b with
  | tup hx r =>
    rw [hd] at r
    cases repl_strs r
    refine ⟨_, _, rfl, .inr (s.ih.t hx), rfl, all_strs l, ?_⟩
    show QQ (.bl (inV (.str z) (l.map V.str))) H
    rw [inV_strs]
    exact p.now (v := .bl _) (r := .dat (.bl _)) s (Rep.bl _) q
theorem in_sgn {c : Nat} {z : Str} (q : Q (.dat (.bl (decide (c ∈ z.cps.toList)))) μ) : RR K (rIN K) (.dat (.str ⟨#[c]⟩)) (.dat (.str z)) δ μ Q := rr_or2 (rr_or1 fun Lc I H σ F s v w a b QQ p => by
  cases a
  cases b
  exact ⟨c, z, rfl, rfl, p.now (v := .bl _) (r := .dat (.bl _)) s (Rep.bl _) q⟩)
theorem in_d {d : Da} {ds : List Da} (hd : shp d = true) (he : shp (.lst ds) = true) (q : Q (.dat (.bl ((pyL ds).any fun z => PyData.eqv z (py d)))) μ) : RR K (rIN K) (.dat d) (.dat (.lst ds)) δ μ Q := rr_or2 (rr_or2 (rr_or2 fun Lc I H σ F s v w a b QQ p =>
  ⟨py d, pyL ds, rep_dp s.ih a (shp_plain hd), rep_dp s.ih b (shp_plain he), shp_shaped hd, shp_shaped he, p.now (v := .bl _) (r := .dat (.bl _)) s (Rep.bl _) q⟩))
-- dicts with text keys
theorem repK_val {I : Hp} {z : Str} : ∀ {kvs : List (Key × V)} {ds : List (Str × Da)}, RepK K I kvs ds → (valV kvs (Sum.inr z : Key)).isSome = (ds.lookup z).isSome
  | _, _, .nil => rfl
  | _, _, .cons (f := g) r t => by
    have ih := repK_val (z := z) t
    by_cases h : g = z
    · subst h
      simp [valV, List.lookup]
    · have h1 : ¬ (Sum.inr g : Key) = Sum.inr z := fun q => h (Sum.inr.inj q)
      have h2 : (z == g) = false := by simpa using fun q : z = g => h q.symm
      simp only [List.lookup, h2]
      rw [← ih]
      simp [valV, h1]
theorem repK_get {I : Hp} {z : Str} {d : Da} : ∀ {kvs : List (Key × V)} {ds : List (Str × Da)}, RepK K I kvs ds → ds.lookup z = some d → ∃ v, valV kvs (Sum.inr z : Key) = some v ∧ Rep K I v d
  | _, _, .nil, e => by simp at e
  | _, _, .cons (f := g) r t, e => by
    by_cases h : g = z
    · subst h
      simp only [List.lookup, beq_self_eq_true, Option.some.injEq] at e
      subst e
      exact ⟨_, by simp [valV], r⟩
    · have h1 : ¬ (Sum.inr g : Key) = Sum.inr z := fun q => h (Sum.inr.inj q)
      have h2 : (z == g) = false := by simpa using fun q : z = g => h q.symm
      simp only [List.lookup, h2] at e
      obtain ⟨v, hv, rv⟩ := repK_get t e
      exact ⟨v, by simpa [valV, h1] using hv, rv⟩
theorem in_dct {z : Str} {ds : List (Str × Da)} (q : Q (.dat (.bl (ds.lookup z).isSome)) μ) : RR K (rIN K) (.dat (.str z)) (.dat (.dct ds)) δ μ Q := rr_or2 (rr_or2 (rr_or1 fun Lc I H σ F s v w a b QQ p => by
  cases a
  cases b with
  | dct h r =>
    refine ⟨_, _, rfl, DGet.k (k := Sum.inr z) (s.ih _ _ h), ?_⟩
    rw [repK_val r]
    exact p.now (v := .bl _) (r := .dat (.bl _)) s (Rep.bl _) q))
theorem nin_dct {z : Str} {ds : List (Str × Da)} (q : Q (.dat (.bl (!(ds.lookup z).isSome))) μ) : RR K (rNIN K) (.dat (.str z)) (.dat (.dct ds)) δ μ Q := rr_or2 (rr_or2 (rr_or1 fun Lc I H σ F s v w a b QQ p => by
  cases a
  cases b with
  | dct h r =>
    refine ⟨_, _, rfl, DGet.k (k := Sum.inr z) (s.ih _ _ h), ?_⟩
    rw [repK_val r]
    exact p.now (v := .bl _) (r := .dat (.bl _)) s (Rep.bl _) q))
-- subscripts
theorem ix_l {ds : List Da} {i : Int} {d : Da} (hx : IsL μ x ds) (h : atI ds i = some d) (q : Q (.dat d) μ) : RR K (rIX K) x (.dat (.int i)) δ μ Q := rr_or1 (rr_or1 fun Lc I H σ F s v w a b QQ p => by
  cases b
  obtain ⟨ad, xs, rfl, hs, r⟩ := hx.sq s a
  obtain ⟨w, hw, rw'⟩ : ∃ w, atI xs i = some w ∧ Rep K I w d := by
    unfold atI at h ⊢
    rw [repl_len r]
    cases e : ixN ds.length i with
    | none => rw [e] at h; cases h
    | some j =>
      rw [e] at h
      exact repl_get' r h
  exact ⟨ad, xs, i, w, rfl, rfl, hs, hw, p.now (v := w) (r := .dat d) s rw' q⟩)
theorem ix_t {ds : List Da} {i : Int} {d : Da} (h : atI ds i = some d) (q : Q (.dat d) μ) : RR K (rIX K) (.dat (.tup ds)) (.dat (.int i)) δ μ Q := rr_or1 (rr_or2 (rr_or1 fun Lc I H σ F s v w a b QQ p => by
  cases b
  cases a with
  | tup hs r =>
    rename_i ad xs
    obtain ⟨w, hw, rw'⟩ : ∃ w, atI xs i = some w ∧ Rep K I w d := by
      unfold atI at h ⊢
      rw [repl_len r]
      cases e : ixN ds.length i with
      | none => rw [e] at h; cases h
      | some j =>
        rw [e] at h
        exact repl_get' r h
    exact ⟨ad, xs, i, w, rfl, rfl, s.ih.t hs, hw, p.now (v := w) (r := .dat d) s rw' q⟩))
theorem ix_s {z : Str} {i : Int} {c : Nat} (hl : z.length ≤ 1000000) (h : atI z.cps.toList i = some c) (q : Q (.dat (.str ⟨#[c]⟩)) μ) : RR K (rIX K) (.dat (.str z)) (.dat (.int i)) δ μ Q := rr_or1 (rr_or2 (rr_or2 fun Lc I H σ F s v w a b QQ p => by
  cases a
  cases b
  exact ⟨z, i, c, rfl, rfl, Nat.le_trans hl (by decide), h, p.now (v := .str _) (r := .dat (.str _)) s (Rep.str _) q⟩))
theorem ix_dct {z : Str} {ds : List (Str × Da)} {d : Da} (h : ds.lookup z = some d) (q : Q (.dat d) μ) : RR K (rIX K) (.dat (.dct ds)) (.dat (.str z)) δ μ Q := rr_or2 fun Lc I H σ F s v w a b QQ p => by
  cases b
  cases a with
  | dct hd r =>
    obtain ⟨w, hw, rw'⟩ := repK_get r h
    exact ⟨_, w, rfl, by
      have z := DGet.k (k := (Sum.inr z : Key)) (s.ih _ _ hd)
      rw [hw] at z
      exact z, p.now (v := w) (r := .dat d) s rw' q⟩
end
end DL
namespace DL
open PySem L2
section
variable {K : PySem.W.Frag} {δ : List SK} {μ : Mu} {Q : SK → Mu → Prop} {QT : Bool → Mu → Prop} {r r' : List V → Hp → VK → Prop} {xs : List SK} {x y : SK} {te ta tb tc : TE}
theorem rc_or1 (h : RC K r xs δ μ Q) : RC K (fun xs H Q => r xs H Q ∨ r' xs H Q) xs δ μ Q := fun Lc I H σ F s vs a QQ p => .inl (h Lc I H σ F s vs a QQ p)
theorem rc_or2 (h : RC K r' xs δ μ Q) : RC K (fun xs H Q => r xs H Q ∨ r' xs H Q) xs δ μ Q := fun Lc I H σ F s vs a QQ p => .inr (h Lc I H σ F s vs a QQ p)
-- len
def rLenX (K : PySem.W.Frag) : List V → Hp → VK → Prop := fun xs H Q => ∃ x n, xs = [x] ∧ LenV K x H n ∧ Q (.int n) H
def rLenD : List V → Hp → VK → Prop := fun xs H Q => ∃ a kvs, xs = [V.ref a] ∧ H a = some (.dK kvs) ∧ Q (.int kvs.length) H
def rLEN (K : PySem.W.Frag) : List V → Hp → VK → Prop := fun xs H Q => rLenX K xs H Q ∨ rLenD xs H Q
theorem cLEN {X : Cx} : CallR X (.builtin "len") (rLEN X.K) := CallR.or call_len call_lenD
theorem len_l {ds : List Da} (hx : IsL μ x ds) (q : Q (.dat (.int ds.length)) μ) : RC K (rLEN K) [x] δ μ Q := rc_or1 fun Lc I H σ F s vs a QQ p => by
  obtain ⟨v, rfl, ov⟩ := vals1 a
  obtain ⟨ad, ys, rfl, hs, rr⟩ := hx.sq s ov
  refine ⟨.ref ad, ys.length, rfl, .inl ⟨ys, hs, rfl⟩, ?_⟩
  rw [repl_len rr]
  exact p.now (v := .int _) (r := .dat (.int _)) s (Rep.int _) q
theorem len_t {ds : List Da} (q : Q (.dat (.int ds.length)) μ) : RC K (rLEN K) [.dat (.tup ds)] δ μ Q := rc_or1 fun Lc I H σ F s vs a QQ p => by
  obtain ⟨v, rfl, ov⟩ := vals1 a
  cases ov with
  | tup hs rr =>
    refine ⟨_, _, rfl, .inr ⟨_, s.ih.t hs, rfl⟩, ?_⟩
    rw [repl_len rr]
    exact p.now (v := .int _) (r := .dat (.int _)) s (Rep.int _) q
theorem len_s {z : Str} (hl : z.length ≤ 1000000) (q : Q (.dat (.int z.length)) μ) : RC K (rLEN K) [.dat (.str z)] δ μ Q := rc_or1 fun Lc I H σ F s vs a QQ p => by
  obtain ⟨v, rfl, ov⟩ := vals1 a
  cases ov
  exact ⟨_, z.length, rfl, ⟨Nat.le_trans hl (by decide), rfl⟩, p.now (v := .int _) (r := .dat (.int _)) s (Rep.int _) q⟩
theorem len_scr {ns : List Int} (q : Q (.dat (.int ns.length)) μ) : RC K (rLEN K) [.dat (.scr ns)] δ μ Q := rc_or1 fun Lc I H σ F s vs a QQ p => by
  obtain ⟨v, rfl, ov⟩ := vals1 a
  cases ov with
  | scr hs =>
    refine ⟨_, _, rfl, .inl ⟨_, s.ih.l hs, rfl⟩, ?_⟩
    rw [List.length_map]
    exact p.now (v := .int _) (r := .dat (.int _)) s (Rep.int _) q
theorem repK_len {I : Hp} : ∀ {kvs : List (Key × V)} {ds : List (Str × Da)}, RepK K I kvs ds → kvs.length = ds.length
  | _, _, .nil => rfl
  | _, _, .cons _ t => by simp [repK_len t]
theorem len_d {ds : List (Str × Da)} (q : Q (.dat (.int ds.length)) μ) : RC K (rLEN K) [.dat (.dct ds)] δ μ Q := rc_or2 fun Lc I H σ F s vs a QQ p => by
  obtain ⟨v, rfl, ov⟩ := vals1 a
  cases ov with
  | dct hs rr =>
    refine ⟨_, _, rfl, s.ih _ _ hs, ?_⟩
    rw [repK_len rr]
    exact p.now (v := .int _) (r := .dat (.int _)) s (Rep.int _) q
-- int, abs, max, min
def rINT : List V → Hp → VK → Prop := fun xs H Q => (∃ i, xs = [.int i] ∧ Q (.int i) H) ∨ ∃ k, xs = [.bl k] ∧ Q (.int (if k then 1 else 0)) H
theorem cINT {X : Cx} : CallR X (.type "int") rINT := call_int1
theorem int_i {i : Int} (q : Q (.dat (.int i)) μ) : RC K rINT [.dat (.int i)] δ μ Q := fun Lc I H σ F s vs a QQ p => by
  obtain ⟨v, rfl, ov⟩ := vals1 a
  cases ov
  exact .inl ⟨i, rfl, p.now (v := .int i) (r := .dat (.int i)) s (Rep.int _) q⟩
def rABS : List V → Hp → VK → Prop := fun xs H Q => ∃ i, xs = [.int i] ∧ Q (.int (if i < 0 then -i else i)) H
theorem cABS {X : Cx} : CallR X (.builtin "abs") rABS := call_abs
theorem abs_i {i : Int} (q : Q (.dat (.int (if i < 0 then -i else i))) μ) : RC K rABS [.dat (.int i)] δ μ Q := fun Lc I H σ F s vs a QQ p => by
  obtain ⟨v, rfl, ov⟩ := vals1 a
  cases ov
  exact ⟨i, rfl, p.now (v := .int _) (r := .dat (.int _)) s (Rep.int _) q⟩
def rMAX : List V → Hp → VK → Prop := fun xs H Q => ∃ i j, xs = [.int i, .int j] ∧ Q (.int (if j > i then j else i)) H
def rMIN : List V → Hp → VK → Prop := fun xs H Q => ∃ i j, xs = [.int i, .int j] ∧ Q (.int (if j < i then j else i)) H
theorem cMAX {X : Cx} (hc : X.calm = true) : CallR X (.builtin "max") rMAX := call_max2 hc
theorem cMIN {X : Cx} (hc : X.calm = true) : CallR X (.builtin "min") rMIN := call_min2 hc
theorem max_i {i j : Int} (q : Q (.dat (.int (if j > i then j else i))) μ) : RC K rMAX [.dat (.int i), .dat (.int j)] δ μ Q := fun Lc I H σ F s vs a QQ p => by
  obtain ⟨v, w, rfl, ov, ow⟩ := vals2 a
  cases ov
  cases ow
  exact ⟨i, j, rfl, p.now (v := .int _) (r := .dat (.int _)) s (Rep.int _) q⟩
theorem min_i {i j : Int} (q : Q (.dat (.int (if j < i then j else i))) μ) : RC K rMIN [.dat (.int i), .dat (.int j)] δ μ Q := fun Lc I H σ F s vs a QQ p => by
  obtain ⟨v, w, rfl, ov, ow⟩ := vals2 a
  cases ov
  cases ow
  exact ⟨i, j, rfl, p.now (v := .int _) (r := .dat (.int _)) s (Rep.int _) q⟩
-- all, any of truths
def bls (l : List Bool) : List Da := l.map .bl
theorem repl_bls {I : Hp} : ∀ {l : List Bool} {vs : List V}, RepL K I vs (bls l) → vs = l.map V.bl
  | [], vs, h => by cases h; rfl
  | z :: l, vs, h => by
    cases h with
    | cons a b => cases a; rw [repl_bls b]; rfl
theorem cALL {X : Cx} (hc : X.calm = true) : CallR X (.builtin "all") (rAll X.K) := cr_all hc
theorem cANY {X : Cx} (hc : X.calm = true) : CallR X (.builtin "any") (rAny X.K) := cr_any hc
theorem all_b {l : List Bool} {ds : List Da} (hd : ds = bls l) (q : Q (.dat (.bl (l.all id))) μ) : RC K (rAll K) [.dat (.lst ds)] δ μ Q := fun Lc I H σ F s vs a QQ p => by
  obtain ⟨v, rfl, ov⟩ := vals1 a
  cases ov with
  | lst hs rr =>
    rw [hd] at rr
    cases repl_bls rr
    exact ⟨_, l, rfl, SqL.of (s.ih _ _ hs), p.now (v := .bl _) (r := .dat (.bl _)) s (Rep.bl _) q⟩
theorem any_b {l : List Bool} {ds : List Da} (hd : ds = bls l) (q : Q (.dat (.bl (l.any id))) μ) : RC K (rAny K) [.dat (.lst ds)] δ μ Q := fun Lc I H σ F s vs a QQ p => by
  obtain ⟨v, rfl, ov⟩ := vals1 a
  cases ov with
  | lst hs rr =>
    rw [hd] at rr
    cases repl_bls rr
    exact ⟨_, l, rfl, SqL.of (s.ih _ _ hs), p.now (v := .bl _) (r := .dat (.bl _)) s (Rep.bl _) q⟩
-- tuple(xs), list(xs)
def rTUP (K : PySem.W.Frag) : List V → Hp → VK → Prop := fun xs H Q => ∃ p ys, xs = [.ref p] ∧ ((SqL K H p ys ∧ ∀ l, H l = none → Q (.ref l) (upd H l (.tup ys))) ∨ (SqT K H p ys ∧ Q (.ref p) H))
theorem cTUP {X : Cx} : CallR X (.type "tuple") (rTUP X.K) := call_tuple_of
theorem tup_l {ds : List Da} (hx : IsL μ x ds) (hn : ∀ l, x ≠ .own l) (q : Q (.dat (.tup ds)) μ) : RC K (rTUP K) [x] δ μ Q := fun Lc I H σ F s vs a QQ p => by
  obtain ⟨v, rfl, ov⟩ := vals1 a
  obtain ⟨ad, ys, rfl, hs, rr⟩ := hx.sq s ov
  refine ⟨ad, ys, rfl, .inl ⟨hs, fun c hc => ?_⟩⟩
  exact p (.ref c) (upd I c (.tup ys)) (upd H c (.tup ys)) (.dat (.tup ds)) μ F (Step.new hc s.ih) (fun x hx => .inl hx) (s.newD hc) (Rep.tup (SqT.of upd_same) (rr.mono (Ex.new (s.ih.gone hc)))) q
def rLST (K : PySem.W.Frag) : List V → Hp → VK → Prop := fun xs H Q => ∃ p ys, xs = [.ref p] ∧ (SqL K H p ys ∨ SqT K H p ys) ∧ ∀ l, H l = none → Q (.ref l) (upd H l (.lst ys))
theorem cLST {X : Cx} : CallR X (.type "list") (rLST X.K) := call_list_of
theorem lst_l {ds : List Da} (hx : IsL μ x ds) (q : Q (.dat (.lst ds)) μ) : RC K (rLST K) [x] δ μ Q := fun Lc I H σ F s vs a QQ p => by
  obtain ⟨v, rfl, ov⟩ := vals1 a
  obtain ⟨ad, ys, rfl, hs, rr⟩ := hx.sq s ov
  refine ⟨ad, ys, rfl, .inl hs, fun c hc => ?_⟩
  exact p (.ref c) (upd I c (.lst ys)) (upd H c (.lst ys)) (.dat (.lst ds)) μ F (Step.new hc s.ih) (fun x hx => .inl hx) (s.newD hc) (Rep.lst upd_same (rr.mono (Ex.new (s.ih.gone hc)))) q
theorem lst_t {ds : List Da} (q : Q (.dat (.lst ds)) μ) : RC K (rLST K) [.dat (.tup ds)] δ μ Q := fun Lc I H σ F s vs a QQ p => by
  obtain ⟨v, rfl, ov⟩ := vals1 a
  cases ov with
  | tup hs rr =>
    refine ⟨_, _, rfl, .inr (s.ih.t hs), fun c hc => ?_⟩
    exact p (.ref c) (upd I c (.lst _)) (upd H c (.lst _)) (.dat (.lst ds)) μ F (Step.new hc s.ih) (fun x hx => .inl hx) (s.newD hc) (Rep.lst upd_same (rr.mono (Ex.new (s.ih.gone hc)))) q
-- isinstance
def tyN : Da → Option String
  | .non => some "NoneType" | .bl _ => some "bool" | .int _ => some "int" | .str _ => some "str" | .tup _ => some "tuple" | .lst _ => some "list" | .dct _ => some "dict" | _ => none
theorem rep_ty {I H : Hp} {v : V} {d : Da} {n : String} (h : Rep K I v d) (e : Ex I H) (hn : tyN d = some n) : TyX K H v (.type n) := by
  cases h with
  | non => cases hn; exact .base .non
  | bl b => cases hn; exact .base (.bl _)
  | int i => cases hn; exact .base (.int _)
  | str x => cases hn; exact .base (.str _)
  | ty _ => cases hn
  | cls _ => cases hn
  | tup h _ =>
    cases hn
    rcases h with (h | ⟨o, h⟩) | ⟨o, its, k, h, hc, _⟩
    · exact .base (.tup (e _ _ h))
    · exact .fTuple (e _ _ h)
    · exact .kTuple h hc
  | lst h _ => cases hn; exact .base (.lst (e _ _ h))
  | scr _ => cases hn
  | dct h _ => cases hn; exact .base (.dK (e _ _ h))
  | exc _ _ _ => cases hn
  | exc0 _ => cases hn
  | obj _ _ => cases hn
theorem cISI {X : Cx} : CallR X (.builtin "isinstance") (rIsi X.K) := call_isi
theorem isi_ty {d : Da} {n T : String} {b : Bool} (hn : tyN d = some n) (hb : kitB n T = some b) (q : Q (.dat (.bl b)) μ) : RC K (rIsi K) [.dat d, .dat (.ty T)] δ μ Q := fun Lc I H σ F s vs a QQ p => by
  obtain ⟨v, w, rfl, ov, ow⟩ := vals2 a
  cases ow
  exact ⟨v, .ty T, .type n, .type T, b, rfl, .ty T, rep_ty ov s.ih hn, kit_ty hb, p.now (v := .bl _) (r := .dat (.bl _)) s (Rep.bl _) q⟩
-- str(x) of a text
def rSTR : List V → Hp → VK → Prop := fun xs H Q => ∃ a, xs = [.str a] ∧ Q (.str a) H
theorem cSTR {X : Cx} : CallR X (.type "str") rSTR := SkE.call_str_str
theorem str_s {z : Str} (q : Q (.dat (.str z)) μ) : RC K rSTR [.dat (.str z)] δ μ Q := fun Lc I H σ F s vs a QQ p => by
  obtain ⟨v, rfl, ov⟩ := vals1 a
  cases ov
  exact ⟨z, rfl, p.now (v := .str _) (r := .dat (.str _)) s (Rep.str _) q⟩
-- minus
theorem rd_neg (h : RD K te δ μ fun x μ1 => ∃ i : Int, x = .dat (.int i) ∧ Q (.dat (.int (-i))) μ1) : RD K (tUn (rU fun i => .int (-i)) te) δ μ Q := fun Lc I H σ F s QQ p =>
  h Lc I H σ F s _ fun v I1 H1 r μ1 F1 st f s1 ok ⟨i, e, q⟩ => by
    subst e
    cases ok
    exact ⟨i, rfl, p (.int (-i)) I1 H1 (.dat (.int (-i))) μ1 F1 st f s1 (Rep.int _) q⟩
-- two comparisons in a row
theorem rd_chain {r r' : R2} (h : RD K ta δ μ fun x μ1 => RD K tb δ μ1 fun y μ2 => RR K r x y δ μ2 fun z μ3 => ∃ b, z = .dat (.bl b) ∧ (b = true → RD K tc δ μ3 fun w μ4 => RR K r' y w δ μ4 Q) ∧ (b = false → Q (.dat (.bl false)) μ3)) : RD K (tChain r r' ta tb tc) δ μ Q := fun Lc I H σ F s QQ p =>
  h Lc I H σ F s _ fun v I1 H1 x μ1 F1 st1 f1 s1 ok1 q1 => q1 Lc I1 H1 σ F1 s1 _ fun w I2 H2 y μ2 F2 st2 f2 s2 ok2 q2 =>
    q2 Lc I2 H2 σ F2 s2 v w (ok1.mono st2.ii) ok2 _ fun z I3 H3 kz μ3 F3 st3 f3 s3 ok3 ⟨b, ez, q3, q4⟩ => by
      subst ez
      cases ok3
      have stA := st1.trans st2 f1
      have fA := sub_trans st1 f1 f2
      have stB := stA.trans st3 fA
      have fB := sub_trans stA fA f3
      refine ⟨b, rfl, ?_⟩
      cases b with
      | false => exact p (.bl false) I3 H3 (.dat (.bl false)) μ3 F3 stB fB s3 (Rep.bl _) (q4 rfl)
      | true =>
        refine q3 rfl Lc I3 H3 σ F3 s3 _ fun u I4 H4 kw μ4 F4 st4 f4 s4 ok4 q5 => ?_
        exact q5 Lc I4 H4 σ F4 s4 w u (ok2.mono (st3.ii.trans st4.ii)) ok4 QQ (p.on (stB.trans st4 fB) (sub_trans stB fB f4))
-- slices
def RO (K : PySem.W.Frag) (to : TO) (δ : List SK) (μ : Mu) (Q : Option Int → Mu → Prop) : Prop :=
  ∀ Lc I H σ F, Sta K Lc I H σ δ μ F → ∀ QQ : Option Int → Hp → Prop, (∀ o I' H' μ' F', Step F I H I' H' → (∀ x ∈ F', x ∈ F ∨ H x = none) → Sta K Lc I' H' σ δ μ' F' → Q o μ' → QQ o H') → to σ H QQ
theorem ro_no {QO : Option Int → Mu → Prop} (q : QO none μ) : RO K tNoPart δ μ QO := fun Lc I H σ F s QQ p => p none I H μ F (Step.refl F I H) (fun x hx => .inl hx) s q
theorem ro_at {QO : Option Int → Mu → Prop} (h : RD K te δ μ fun x μ1 => ∃ i : Int, x = .dat (.int i) ∧ QO (some i) μ1) : RO K (tPart te) δ μ QO := fun Lc I H σ F s QQ p =>
  h Lc I H σ F s _ fun v I1 H1 r μ1 F1 st f s1 ok ⟨i, e, q⟩ => by
    subst e
    cases ok
    exact ⟨i, rfl, p (some i) I1 H1 μ1 F1 st f s1 q⟩
def rSL (K : PySem.W.Frag) : V → Option Int → Option Int → Hp → VK → Prop := fun x lo hi H Q => rSlL K x lo hi H Q ∨ rSlS x lo hi H Q
theorem slANY {X : Cx} : SlR X (rSL X.K) := SlR.or sl_list sl_str
def cutD (ds : List Da) (lo hi : Option Int) : List Da := (ds.drop (HT.sIx ds.length 0 lo)).take (HT.sIx ds.length ds.length hi - HT.sIx ds.length 0 lo)
theorem repl_drop {I : Hp} : ∀ {vs : List V} {ds : List Da} (n : Nat), RepL K I vs ds → RepL K I (vs.drop n) (ds.drop n)
  | _, _, 0, h => h
  | _, _, _ + 1, .nil => .nil
  | _, _, n + 1, .cons _ t => repl_drop n t
theorem repl_take {I : Hp} : ∀ {vs : List V} {ds : List Da} (n : Nat), RepL K I vs ds → RepL K I (vs.take n) (ds.take n)
  | _, _, 0, _ => .nil
  | _, _, _ + 1, .nil => .nil
  | _, _, n + 1, .cons a t => .cons a (repl_take n t)
theorem rd_slL {tl th : TO} {ds : List Da} (h : RD K te δ μ fun x μ1 => ∃ ds, IsL μ1 x ds ∧ (∀ l, x ≠ .own l) ∧ RO K tl δ μ1 fun lo μ2 => RO K th δ μ2 fun hi μ3 => Q (.dat (.lst (cutD ds lo hi))) μ3) : RD K (tSl (rSL K) te tl th) δ μ Q := fun Lc I H σ F s QQ p =>
  h Lc I H σ F s _ fun v I1 H1 x μ1 F1 st1 f1 s1 ok1 ⟨ds, hx, hn, q1⟩ => by
    cases hx with
    | own _ => exact absurd rfl (hn _)
    | dat =>
      cases ok1 with
      | lst hs rr =>
        rename_i ad xs
        refine q1 Lc I1 H1 σ F1 s1 _ fun lo I2 H2 μ2 F2 st2 f2 s2 q2 => q2 Lc I2 H2 σ F2 s2 _ fun hi I3 H3 μ3 F3 st3 f3 s3 q3 => .inl ⟨ad, xs, rfl, SqL.of (s3.ih _ _ (st3.ii _ _ (st2.ii _ _ hs))), fun c hc => ?_⟩
        have stA := st1.trans st2 f1
        have fA := sub_trans st1 f1 f2
        have stB := stA.trans st3 fA
        have fB := sub_trans stA fA f3
        have rc : RepL K I3 (cutV xs lo hi) (cutD ds lo hi) := by
          unfold cutV cutD
          rw [repl_len rr]
          exact repl_take _ (repl_drop _ (rr.mono (st2.ii.trans st3.ii)))
        exact p (.ref c) (upd I3 c (.lst _)) (upd H3 c (.lst _)) (.dat (.lst (cutD ds lo hi))) μ3 F3 (stB.trans (Step.new hc s3.ih) fB) fB (s3.newD hc) (Rep.lst upd_same (rc.mono (Ex.new (s3.ih.gone hc)))) q3
theorem rd_slS {tl th : TO} (h : RD K te δ μ fun x μ1 => ∃ z : Str, x = .dat (.str z) ∧ z.length ≤ 1000000 ∧ RO K tl δ μ1 fun lo μ2 => RO K th δ μ2 fun hi μ3 => Q (.dat (.str (cutS z lo hi))) μ3) : RD K (tSl (rSL K) te tl th) δ μ Q := fun Lc I H σ F s QQ p =>
  h Lc I H σ F s _ fun v I1 H1 x μ1 F1 st1 f1 s1 ok1 ⟨z, e, hl, q1⟩ => by
    subst e
    cases ok1
    refine q1 Lc I1 H1 σ F1 s1 _ fun lo I2 H2 μ2 F2 st2 f2 s2 q2 => q2 Lc I2 H2 σ F2 s2 _ fun hi I3 H3 μ3 F3 st3 f3 s3 q3 => .inr ⟨z, rfl, Nat.le_trans hl (by decide), ?_⟩
    have stA := st1.trans st2 f1
    have fA := sub_trans st1 f1 f2
    exact p (.str _) I3 H3 (.dat (.str _)) μ3 F3 (stA.trans st3 fA) (sub_trans stA fA f3) s3 (Rep.str _) q3
-- sep.join(xs), text.split(sep)
theorem rd_join {to ta : TE} (h : RD K to δ μ fun x μ1 => ∃ a : Str, x = .dat (.str a) ∧ RD K ta δ μ1 fun y μ2 => ∃ (l : List Str) (ds : List Da), ds = txts l ∧ IsL μ2 y ds ∧ (l.map (·.length)).sum + l.length * a.length ≤ 1000000 ∧ Q (.dat (.str (Txt.join a l))) μ2) :
    RD K (tM1 (fun x xs H Q => ∃ a p, ∃ ys : List Str, x = .str a ∧ xs = [.ref p] ∧ (SqL K H p (ys.map V.str) ∨ SqT K H p (ys.map V.str)) ∧ (ys.map (·.length)).sum + ys.length * a.length ≤ 16777216 ∧ Q (.str (Txt.join a ys)) H) to ta) δ μ Q := fun Lc I H σ F s QQ p =>
  h Lc I H σ F s _ fun v I1 H1 x μ1 F1 st1 f1 s1 ok1 ⟨a, e, q1⟩ => by
    subst e
    cases ok1
    refine ⟨⟨a, rfl⟩, q1 Lc I1 H1 σ F1 s1 _ fun w I2 H2 y μ2 F2 st2 f2 s2 ok2 ⟨l, ds, hd, hy, hl, q2⟩ => ?_⟩
    obtain ⟨ad, ys, rfl, hs, rr⟩ := hy.sq s2 ok2
    rw [hd] at rr
    cases repl_strs rr
    exact ⟨a, ad, l, rfl, rfl, .inl hs, by omega, p (.str _) I2 H2 (.dat (.str _)) μ2 F2 (st1.trans st2 f1) (sub_trans st1 f1 f2) s2 (Rep.str _) q2⟩
theorem repl_of_txts {I : Hp} : ∀ l : List Str, RepL K I (l.map V.str) (txts l)
  | [] => .nil
  | z :: l => .cons (.str z) (repl_of_txts l)
theorem rd_split {to ta : TE} (h : RD K to δ μ fun x μ1 => ∃ a : Str, x = .dat (.str a) ∧ RD K ta δ μ1 fun y μ2 => ∃ b : Str, y = .dat (.str b) ∧ (b.length == 0) = false ∧ a.length ≤ 1000000 ∧ Q (.dat (.lst (txts (Txt.split a b)))) μ2) :
    RD K (tM1 (fun x xs H Q => ∃ a b, x = .str a ∧ xs = [.str b] ∧ (b.length == 0) = false ∧ a.length + 2 ≤ sizeLine ∧ rNewStrs (Txt.split a b) H Q) to ta) δ μ Q := fun Lc I H σ F s QQ p =>
  h Lc I H σ F s _ fun v I1 H1 x μ1 F1 st1 f1 s1 ok1 ⟨a, e, q1⟩ => by
    subst e
    cases ok1
    refine ⟨⟨a, rfl⟩, q1 Lc I1 H1 σ F1 s1 _ fun w I2 H2 y μ2 F2 st2 f2 s2 ok2 ⟨b, ey, hb, hl, q2⟩ => ?_⟩
    subst ey
    cases ok2
    refine ⟨a, b, rfl, rfl, hb, Nat.le_trans (by omega : a.length + 2 ≤ 1000002) (by decide), fun c hc => ?_⟩
    exact p (.ref c) (upd I2 c (.lst _)) (upd H2 c (.lst _)) (.dat (.lst (txts _))) μ2 F2 ((st1.trans st2 f1).trans (Step.new hc s2.ih) (sub_trans st1 f1 f2)) (sub_trans st1 f1 f2) (s2.newD hc) (Rep.lst upd_same (repl_of_txts _)) q2
end

/-! ### a, b = x, y -/
section
variable {K : PySem.W.Frag} {δ : List SK} {μ : Mu} {E : DE} {ta : TA}
theorem rs_par {i j : Nat} (h : RA K ta δ μ fun rs μ1 => ∃ x y, rs = [x, y] ∧ E.nx ((δ.set i x).set j y) μ1) : RS K (tPar i j ta) δ μ E := fun I0 H0 F0 Ib I H σ F a D e =>
  h _ I H σ F a.s _ fun vs I1 H1 rs μ1 F1 st f s1 ok ⟨x, y, er, q⟩ => by
    subst er
    obtain ⟨v, w, rfl, ov, ow⟩ := vals2 ok
    exact ⟨v, w, rfl, e.nx I1 H1 _ _ μ1 F1 ⟨a.st.trans st a.sub, sub_trans a.st a.sub f, (s1.set ov i).set ow j, a.ib.trans st.ii⟩ q⟩
theorem rs_par3 {i j l : Nat} (h : RA K ta δ μ fun rs μ1 => ∃ x y z, rs = [x, y, z] ∧ E.nx (((δ.set i x).set j y).set l z) μ1) : RS K (tPar3 i j l ta) δ μ E := fun I0 H0 F0 Ib I H σ F a D e =>
  h _ I H σ F a.s _ fun vs I1 H1 rs μ1 F1 st f s1 ok ⟨x, y, z, er, q⟩ => by
    subst er
    obtain ⟨u, v, w, rfl, ou, ov, ow⟩ : ∃ u v w, vs = [u, v, w] ∧ SOk K I1 (some u) x ∧ SOk K I1 (some v) y ∧ SOk K I1 (some w) z := by
      cases vs with
      | nil => cases ok
      | cons u r =>
        cases ok with
        | cons a b =>
          obtain ⟨v, w, e, o1, o2⟩ := vals2 b
          exact ⟨u, v, w, by rw [e], a, o1, o2⟩
    exact ⟨u, v, w, rfl, e.nx I1 H1 _ _ μ1 F1 ⟨a.st.trans st a.sub, sub_trans a.st a.sub f, ((s1.set ou i).set ov j).set ow l, a.ib.trans st.ii⟩ q⟩
end
end DL
namespace DL
open PySem L2
open PyProof.Rows (envOfC)
/-- all of them data -/
def unD : List SK → Option (List Da)
  | [] => some []
  | .dat d :: r => (unD r).map (d :: ·)
  | _ :: _ => none
theorem unD_dats : ∀ {ks : List SK} {ds : List Da}, unD ks = some ds → ks = dats ds
  | [], ds, h => by cases h; rfl
  | .dat d :: r, ds, h => by
    cases e : unD r with
    | none => simp [unD, e] at h
    | some es =>
      simp only [unD, e, Option.map_some, Option.some.injEq] at h
      subst h
      rw [unD_dats e]; rfl
  | .any :: _, _, h => nomatch h
  | .own _ :: _, _, h => nomatch h
section
variable {K : PySem.W.Frag} {δ : List SK} {μ : Mu} {Q : SK → Mu → Prop} {te ta tl : TE} {tr : TA} {E : XK} {n : Nat} {g : TG} {tt : TT} {vs : List Nat} {x : SK}
theorem call_a {C : CA} (h : RA K tr δ μ fun rs μ1 => ∃ ds, unD rs = some ds ∧ ds.length = n ∧ C ds fun d => Q (.dat d) μ1) : RD K (tCall (spA K n C) [] E tr) δ μ Q := rd_callA fun Lc I H σ F s QQ p => h Lc I H σ F s QQ fun vs I' H' rs μ' F' a b c d ⟨ds, e, l, q⟩ => p vs I' H' rs μ' F' a b c d ⟨ds, unD_dats e, l, q⟩
theorem call_p {C : CP} (h : RA K tr δ μ fun rs μ1 => ∃ (a : Addr) (ks : List SK) (ds : List Da) (i c : Nat) (fl : Bool), rs = .own a :: ks ∧ unD ks = some ds ∧ μ1[i]? = some (a, MK.pool c, fl) ∧ ds.length = n ∧ C ds c fun d c' => Q (.dat d) (μ1.set i (a, MK.pool c', fl))) : RD K (tCall (spP K n C) [] E tr) δ μ Q :=
  rd_callP fun Lc I H σ F s QQ p => h Lc I H σ F s QQ fun vs I' H' rs μ' F' a b c d ⟨ad, ks, ds, i, cc, fl, e, u, hi, l, q⟩ => p vs I' H' rs μ' F' a b c d ⟨ad, ds, i, cc, fl, by rw [e, unD_dats u], hi, l, q⟩
theorem call_n {C : List Da → Prop} (h : RA K tr δ μ fun rs μ1 => ∃ ds, unD rs = some ds ∧ ds.length = n ∧ C ds ∧ ∀ a, Q (.own a) ((a, MK.pool 0, true) :: μ1)) : RD K (tCall (spN K n C) [] E tr) δ μ Q := rd_callN fun Lc I H σ F s QQ p => h Lc I H σ F s QQ fun vs I' H' rs μ' F' a b c d ⟨ds, e, l, q⟩ => p vs I' H' rs μ' F' a b c d ⟨ds, unD_dats e, l, q⟩
theorem meth_a {Cl : Addr} {m : Str} {C : CA} (h : RD K ta δ μ fun r μ1 => ∃ fs, r = .dat (.obj Cl fs) ∧ fs.lookup m = none ∧ RA K tr δ μ1 fun rs μ2 => ∃ ds, unD rs = some ds ∧ ds.length = n ∧ C (.obj Cl fs :: ds) fun d => Q (.dat d) μ2) : RD K (tMeth Cl m (spA K (n + 1) C) [] E ta tr) δ μ Q :=
  rd_methA fun Lc I H σ F s QQ p => h Lc I H σ F s QQ fun v I' H' r μ' F' a b c d ⟨fs, e, l, q⟩ => p v I' H' r μ' F' a b c d ⟨fs, e, l, fun Lc I H σ F s QQ p => q Lc I H σ F s QQ fun vs I' H' rs μ' F' a b c d ⟨ds, e, l, q⟩ => p vs I' H' rs μ' F' a b c d ⟨ds, unD_dats e, l, q⟩⟩
theorem make_a {Cl : Addr} {C : List Da → (List (Str × Da) → Prop) → Prop} (h : RA K tr δ μ fun rs μ1 => ∃ ds, unD rs = some ds ∧ ds.length = n ∧ C ds fun fs => Q (.dat (.obj Cl fs)) μ1) : RD K (tMake Cl (spI K n Cl C) [] E tr) δ μ Q := rd_make fun Lc I H σ F s QQ p => h Lc I H σ F s QQ fun vs I' H' rs μ' F' a b c d ⟨ds, e, l, q⟩ => p vs I' H' rs μ' F' a b c d ⟨ds, unD_dats e, l, q⟩
theorem tup_d (h : RA K tr δ μ fun xs μ1 => ∃ ds, unD xs = some ds ∧ ds.length ≤ 100000 ∧ Q (.dat (.tup ds)) μ1) : RD K (tTup tr) δ μ Q := rd_tup fun Lc I H σ F s QQ p => h Lc I H σ F s QQ fun vs I' H' rs μ' F' a b c d ⟨ds, e, l, q⟩ => p vs I' H' rs μ' F' a b c d ⟨ds, unD_dats e, l, q⟩
theorem lst_d (h : RA K tr δ μ fun xs μ1 => ∃ ds, unD xs = some ds ∧ ds.length ≤ 100000 ∧ Q (.dat (.lst ds)) μ1) : RD K (tLst tr) δ μ Q := rd_lst fun Lc I H σ F s QQ p => h Lc I H σ F s QQ fun vs I' H' rs μ' F' a b c d ⟨ds, e, l, q⟩ => p vs I' H' rs μ' F' a b c d ⟨ds, unD_dats e, l, q⟩
theorem lst_o (q : ∀ a, Q (.own a) ((a, MK.ml [], true) :: μ)) : RD K (tLst tNil) δ μ Q := rd_lstO (ra_nil ⟨[], rfl, by decide, q⟩)

/-! ### the pool, seen within -/
theorem ix_p0 {a : Addr} {i c : Nat} {fl : Bool} (hi : μ[i]? = some (a, MK.pool c, fl)) (q : ∀ d : Int, 0 ≤ d → Q (.dat (.int d)) μ) : RR K (rIX K) (.own a) (.dat (.int 0)) δ μ Q := rr_or1 (rr_or1 fun Lc I H σ F s v w ox oy QQ p => by
  have ex : v = .ref a := ox
  subst ex
  cases oy
  obtain ⟨Fi, m, _⟩ := s.mu.at hi
  obtain ⟨_, d, m, k, h, h1, h2, h3, h4, h5⟩ := m
  exact ⟨a, _, 0, .int d, rfl, rfl, SqL.of h, rfl, p.now (v := .int d) (r := .dat (.int d)) s (Rep.int _) (q d h1)⟩)
theorem ix_p1 {a : Addr} {i c : Nat} {fl : Bool} (hi : μ[i]? = some (a, MK.pool c, fl)) (q : ∀ d : Int, 0 ≤ d → d < 2 ^ 95 → Q (.dat (.int d)) μ) : RR K (rIX K) (.own a) (.dat (.int 1)) δ μ Q := rr_or1 (rr_or1 fun Lc I H σ F s v w ox oy QQ p => by
  have ex : v = .ref a := ox
  subst ex
  cases oy
  obtain ⟨Fi, m, _⟩ := s.mu.at hi
  obtain ⟨_, d, m, k, h, h1, h2, h3, h4, h5⟩ := m
  exact ⟨a, _, 1, .int m, rfl, rfl, SqL.of h, rfl, p.now (v := .int m) (r := .dat (.int m)) s (Rep.int _) (q m h2 h3)⟩)
theorem ix_p2 {a : Addr} {i c : Nat} {fl : Bool} (hi : μ[i]? = some (a, MK.pool c, fl)) (q : ∀ d : Int, 0 ≤ d → d ≤ c → Q (.dat (.int d)) μ) : RR K (rIX K) (.own a) (.dat (.int 2)) δ μ Q := rr_or1 (rr_or1 fun Lc I H σ F s v w ox oy QQ p => by
  have ex : v = .ref a := ox
  subst ex
  cases oy
  obtain ⟨Fi, m, _⟩ := s.mu.at hi
  obtain ⟨_, d, m, k, h, h1, h2, h3, h4, h5⟩ := m
  exact ⟨a, _, 2, .int k, rfl, rfl, SqL.of h, rfl, p.now (v := .int k) (r := .dat (.int k)) s (Rep.int _) (q k h4 h5)⟩)
theorem ix_scr {ns : List Int} {i n : Int} (h : atI ns i = some n) (q : Q (.dat (.int n)) μ) : RR K (rIX K) (.dat (.scr ns)) (.dat (.int i)) δ μ Q := rr_or1 (rr_or1 fun Lc I H σ F s v w ox oy QQ p => by
  cases oy
  cases ox with
  | scr hs =>
    refine ⟨_, _, i, .int n, rfl, rfl, s.ih.l hs, ?_, p.now (v := .int n) (r := .dat (.int n)) s (Rep.int _) q⟩
    unfold atI at h ⊢
    rw [List.length_map]
    cases e : ixN ns.length i with
    | none => rw [e] at h; cases h
    | some j =>
      rw [e] at h
      have h' : ns[j]? = some n := h
      show (ns.map V.int)[j]? = some (V.int n)
      rw [List.getElem?_map, h']; rfl)
theorem put_after {Lc : Addr → Prop} {I H : Hp} {σ : St} {F : List Addr} {i : Nat} {a : Addr} {k k' : MK} {fl : Bool} {o : HO} (s : Sta K Lc I H σ δ μ F) (hi : μ[i]? = some (a, k, fl)) (h1 : ∀ {Fi : List Addr}, MOk K I H Fi a k → MOk K I (upd H a o) Fi a k') :
    Sta K Lc I (upd H a o) σ δ (μ.set i (a, k', fl)) F ∧ Step F I H I (upd H a o) := by
  obtain ⟨Fi, m, sF, lF, mk⟩ := s.mu.at hi
  have ha : a ∈ F := sF a m.mem
  have hl := s.mu.live a ha
  refine ⟨⟨fun b u hb => ?_, fun b hb => s.lc b ?_, s.sl, mk _ I _ (Ex.refl I) (fun x hx hn => upd_ne fun z => hn (by rw [z]; exact m.mem)) (fun x hx => (s.mu.live x hx).1) (h1 m)⟩, Step.put ha hl.2⟩
  · have : b ≠ a := fun z => by rw [z, hl.1] at hb; cases hb
    rw [upd_ne this]; exact s.ih b u hb
  · by_cases z : b = a
    · rw [z, upd_same] at hb; cases hb
    · rw [upd_ne z] at hb; exact hb
/-- pool[0] = e -/
theorem rs_p0 {E : DE} {i j c : Nat} (c' : Nat) {a : Addr} {fl : Bool} (h : RD K te δ μ fun r μ1 => ∃ v : Int, r = .dat (.int v) ∧ 0 ≤ v ∧ c ≤ c' ∧ δ[i]? = some (.own a) ∧ μ1[j]? = some (a, MK.pool c, fl) ∧ E.nx δ (μ1.set j (a, MK.pool c', fl))) : RS K (tAsg te (gSub (tVar i) (tC (.int 0)) rSetL)) δ μ E := fun I0 H0 F0 Ib I H σ F at_ D e =>
  h _ I H σ F at_.s _ fun w I1 H1 r μ1 F1 st f s1 ok ⟨v, er, hv, hc, hd, hj, q⟩ => by
    subst er
    cases ok
    obtain ⟨o, ho, oo⟩ := s1.sl.get hd
    cases o with
    | none => exact oo.elim
    | some u =>
      have eu : u = .ref a := oo
      subst eu
      obtain ⟨Fi, m, _⟩ := s1.mu.at hj
      obtain ⟨_, d, m, k, hH, h1, h2, h3, h4, h5⟩ := id m
      refine ⟨.ref a, ho, a, _, 0, 0, rfl, rfl, hH, rfl, ?_⟩
      obtain ⟨s2, st2⟩ := put_after (o := .lst [.int v, .int m, .int k]) (k' := MK.pool c') s1 hj fun {Fi} m' => ⟨m'.1, v, m, k, upd_same, hv, h2, h3, h4, by omega⟩
      exact e.nx I1 _ σ δ _ F1 ((at_.on st f s1).on st2 (fun x hx => .inl hx) s2) q
/-- pool[2] = e -/
theorem rs_p2 {E : DE} {i j c : Nat} (c' : Nat) {a : Addr} {fl : Bool} (h : RD K te δ μ fun r μ1 => ∃ v : Int, r = .dat (.int v) ∧ 0 ≤ v ∧ v ≤ c' ∧ δ[i]? = some (.own a) ∧ μ1[j]? = some (a, MK.pool c, fl) ∧ E.nx δ (μ1.set j (a, MK.pool c', fl))) : RS K (tAsg te (gSub (tVar i) (tC (.int 2)) rSetL)) δ μ E := fun I0 H0 F0 Ib I H σ F at_ D e =>
  h _ I H σ F at_.s _ fun w I1 H1 r μ1 F1 st f s1 ok ⟨v, er, hv, hc, hd, hj, q⟩ => by
    subst er
    cases ok
    obtain ⟨o, ho, oo⟩ := s1.sl.get hd
    cases o with
    | none => exact oo.elim
    | some u =>
      have eu : u = .ref a := oo
      subst eu
      obtain ⟨Fi, m, _⟩ := s1.mu.at hj
      obtain ⟨_, d, m, k, hH, h1, h2, h3, h4, h5⟩ := id m
      refine ⟨.ref a, ho, a, _, 2, 2, rfl, rfl, hH, rfl, ?_⟩
      obtain ⟨s2, st2⟩ := put_after (o := .lst [.int d, .int m, .int v]) (k' := MK.pool c') s1 hj fun {Fi} m' => ⟨m'.1, d, m, v, upd_same, h1, h2, h3, hv, hc⟩
      exact e.nx I1 _ σ δ _ F1 ((at_.on st f s1).on st2 (fun x hx => .inl hx) s2) q
/-- a new list of three numbers that is a pool -/
theorem lst_p (h : RA K tr δ μ fun xs μ1 => ∃ d m : Int, unD xs = some [.int d, .int m, .int 0] ∧ 0 ≤ d ∧ 0 ≤ m ∧ m < 2 ^ 95 ∧ ∀ a, Q (.own a) ((a, MK.pool 0, true) :: μ1)) : RD K (tLst tr) δ μ Q := fun Lc I H σ F s QQ p =>
  h Lc I H σ F s _ fun vs I1 H1 xs μ1 F1 st f s1 ok ⟨d, m, hu, h1, h2, h3, q⟩ => by
    have e := unD_dats hu
    subst e
    have r := repl_of ok
    have ev : vs = [.int d, .int m, .int 0] := by
      cases r with
      | cons a b =>
        cases a
        cases b with
        | cons a b =>
          cases a
          cases b with
          | cons a b => cases a; cases b; rfl
    subst ev
    refine ⟨by show 3 ≤ sizeLine; decide, fun a ha => ?_⟩
    refine p (.ref a) I1 (upd H1 a (.lst _)) (.own a) ((a, MK.pool 0, true) :: μ1) (a :: F1) (st.trans (Step.fresh ha) f) (fun x hx => ?_) (s1.newO ha ⟨rfl, d, m, 0, upd_same, h1, h2, h3, Int.le_refl 0, Int.le_refl 0⟩) rfl (q a)
    rcases List.mem_cons.mp hx with z | z
    · rw [z]; exact .inr (st.gone ha)
    · exact f x z

/-! ### a comprehension whose turns change nothing -/
theorem lc_o (tg : TgIn g vs) (h : RD K tl δ μ fun r μ1 => ∃ ds, IsL μ1 r ds ∧ ∃ Pv : Nat → List Da → Prop, Pv 0 [] ∧
      (∀ i d acc, ds[i]? = some d → Pv i acc → LcTurn K g tt te vs δ d acc [] fun acc' μ' => μ' = [] ∧ Pv (i + 1) acc') ∧ (∀ acc, Pv ds.length acc → Q (.dat (.lst acc)) μ1)) :
    RD K (tLc (iList K tl) g tt te vs) δ μ Q := fun Lc I H σ F s QQ p =>
  h Lc I H σ F s _ fun v I1 H1 r μ1 F1 st f s1 ok ⟨ds, hx, Pv, p0, ps, pd⟩ => by
    obtain ⟨ad, xs, rfl, hH, hr⟩ := hx.at_ s1 ok
    have s0 : Sta K Lc I1 H1 σ δ [] [] := ⟨s1.ih, s1.lc, s1.sl, .nil⟩
    refine ⟨ad, rfl, ⟨xs, SqL.of hH⟩, fun L hL => lc_list (K := K) (a := ad) (xs := xs) (fun i H2 => LcAt K Lc I1 H1 σ δ [] L (fun acc μ' => μ' = [] ∧ Pv i acc) H2) (lc_start s0 hL ⟨rfl, p0⟩) ?_ ?_ ?_⟩
    · rintro i H2 _ ⟨I2, μ2, F2, acc, accV, st2, _⟩
      exact SqL.of (st2.keep _ _ hH (by simp))
    · intro i y H2 hy a2
      obtain ⟨d, hd, rd⟩ := repl_get hr hy
      refine lc_turn tg hL a2 rd fun acc μ' pv => ?_
      obtain ⟨e, pv⟩ := pv
      subst e
      exact ps i d acc hd pv
    · intro H2 a2
      have a3 : LcAt K Lc I1 H1 σ δ [] L (fun acc μ' => μ' = [] ∧ Pv ds.length acc) H2 := by rw [← repl_len hr]; exact a2
      have p1 := p.on st f
      refine lc_end (Q := fun r μ' => μ' = [] ∧ Q r μ1) s0 hL (fun w I3 H3 r3 μ3 F3 st3 f3 s3 ok3 q3 => ?_) a3 fun acc μ' pv => ⟨pv.1, pd acc pv.2⟩
      exact p1 w I3 H3 r3 μ1 F1 (st3.wide (fun x hx => nomatch hx)) (fun x hx => .inl hx) (s1.grow st3 (fun x hx => nomatch hx) s3.ih) ok3 q3.2
/-- over a text, sign by sign -/
theorem lc_s (tg : TgIn g vs) (h : RD K tl δ μ fun r μ1 => ∃ z : Str, r = .dat (.str z) ∧ ∃ Pv : Nat → List Da → Mu → Prop, Pv 0 [] μ1 ∧
      (∀ i c acc μ', z.cps[i]? = some c → Pv i acc μ' → LcTurn K g tt te vs δ (.str ⟨#[c]⟩) acc μ' (Pv (i + 1))) ∧ (∀ acc μ', Pv z.cps.size acc μ' → Q (.dat (.lst acc)) μ')) :
    RD K (tLc (iStr tl) g tt te vs) δ μ Q := fun Lc I H σ F s QQ p =>
  h Lc I H σ F s _ fun v I1 H1 r μ1 F1 st f s1 ok ⟨z, er, Pv, p0, ps, pd⟩ => by
    subst er
    cases ok
    refine ⟨z, rfl, fun L hL => lc_it (walk_str (z := z)) (fun i H2 => LcAt K Lc I1 H1 σ δ F1 L (Pv i) H2) (lc_start s1 hL p0) (fun _ _ _ _ => trivial) ?_ ?_⟩
    · rintro i y H2 H3 hi a2 ⟨rfl, c, hc, rfl⟩
      exact lc_turn tg hL a2 (Rep.str _) fun acc μ' pv => ps i c acc μ' hc pv
    · intro H2 a2
      exact lc_end s1 hL (p.on st f) a2 pd
end
section
variable {P : Program} {w : World} {K : PySem.W.Frag} {mg : Str → Option Value} {base : Heap} {x qual : Str} {st : Stmt} {f : Addr} {fd : FuncData} {N ps : List Str} {k n : Nat}
/-- a def that makes a pool -/
theorem fn_N {C : List Da → Prop} (F : Fun K x qual st f fd) (S : FnScope N ps (defScope st)) (hn : ps.length = n)
    (body : ∀ (cdv : Value) (A : Around) (outer : List Env) (s : Shared) (H : Hp) (E : XK), RmG k (A.deeper (envOfC qual (defScope st) s.heap.objs.size f cdv)) →
      ∃ t, PSs (cxOf CX0 P w K mg base N qual (defScope st) f cdv A outer s H E).nox (defBody st) t ∧ ∀ ds, ds.length = n → C ds → RS K t (startD N (dats ds)) [] { nx := fun _ _ => False, rt := fun r μ' => ∃ (a : Addr) (i : Nat), r = .own a ∧ μ'[i]? = some (a, MK.pool 0, true) }) :
    FnG P w K mg base CX0 (k + 1) f fd ps (spN K n C) := by
  refine fng_of F S (fun vs H Q E h => h.1.trans hn.symm) fun cdv A outer s H vs Q E hr h => ?_
  obtain ⟨hl, I, ds, e, r, c, q⟩ := h
  obtain ⟨t, ht, hb⟩ := body cdv A outer s H E hr
  refine ⟨t, ht.nox, hb ds ((repl_len r).symm.trans hl) c I H [] I I H _ [] { st := Step.refl _ _ _, sub := fun x hx => (nomatch hx), s := ⟨e, fun _ z => z, slok_start (slok_dats r), .nil⟩, ib := Ex.refl _ } _ ⟨fun I1 H1 σ1 δ1 μ1 F1 a qr => qr.elim, fun v r I1 H1 σ1 δ1 μ1 F1 a ok qr => ?_, fun _ _ _ _ _ _ _ z => z.elim, fun _ _ _ _ _ _ _ z => z.elim⟩⟩
  obtain ⟨p, i, er, hi⟩ := qr
  subst er
  have ev : v = .ref p := ok
  subst ev
  obtain ⟨Fi, m, sF, lF, _⟩ := a.s.mu.at hi
  obtain ⟨rfl, hp⟩ := m
  exact q p H1 (lF rfl p (by simp)) hp fun b o hb => a.st.keep b o hb (by simp)
end
end DL
/-! Exceptions of own classes as values: made (by position, by keyword), their fields read, asked for their class. -/
namespace PySem
namespace HandSPX
open PySem.W PySem.Calls PyProof.Rows
section
variable {prog : Program} {w : World} {A : Around} {E : Value → Shared → Prop} {R : Result → Shared → Prop} {h : Heap} {g : Array GenState} {d : Drawn} {t : Nat} {os : OsState}
variable {nm q : Str} {C N : Addr} {bs bm bmB : List Value} {hdct : Bool} {sn : List Str} {sub : List Value} {ab : Bool} {col : Option Bool} {dd : Option Addr} {k0 k1 k2 k3 k5 : Option Value} {B newId initId : String}
theorem kw_new_check {M : Model} (F : ExcBaseFacts B newId initId bmB) (hT : ∀ X : String, bm.contains (.type X) = bmB.contains (.type X)) {rest : List Value} {kw : List (Str × Value)} {Q : Unit → Shared → Prop}
    (hC : h.get? C = some (excClassObj nm q C N bs bm hdct sn sub ab col dd k0 k1 k2 k3 k5 newId)) (hq : Q () ⟨h, g, d, t, os⟩) :
    wpAny M A (checkBuiltinCall newId ⟨.ref C :: rest, kw⟩) Q E ⟨h, g, d, t, os⟩ := by
  have hin : (Value.ref C :: bm).contains (.type B) = true := by rw [List.contains_cons, hT, F.hasB, Bool.or_true]
  have hst := F.noStar
  simp only [checkBuiltinCall, F.newKind, F.newSplit, F.newRow]
  repeat (first | refine wpAny_loadPart_at hC ?_ | (refine wpAny_isSubtype_exc hC ?_; rw [hin]) | refine wpAny_staticBase_exc hC ?_ | refine wpAny_madeBy_exc hC ?_ | simp only [bne_self_eq_false, Bool.false_eq_true, if_false] | wp_step)
  exact hq
theorem kw_new (F : ExcBaseFacts B newId initId bmB) (hT : ∀ X : String, bm.contains (.type X) = bmB.contains (.type X)) {rest : List Value} {kw : List (Str × Value)}
    (hC : h.get? C = some (excClassObj nm q C N bs bm hdct sn sub ab col dd k0 k1 k2 k3 k5 newId)) (hrest : rest.length ≤ sizeLine)
    (hq : R (.ok (.ret (.ref (h.objs.size + 1)))) ⟨(h.push (W.kdv_tup rest)).push (excO C h.objs.size), g, d, t, os⟩) :
    codeAny (model prog w) A (.builtin newId ⟨.ref C :: rest, kw⟩) R ⟨h, g, d, t, os⟩ := by
  have he := F.ends
  have c1 : (Value.ref C :: bm).contains (.type B) = true := by rw [List.contains_cons, hT, F.hasB, Bool.or_true]
  have c2 : (Value.ref C :: bm).contains (.type "AttributeError") = false := by rw [List.contains_cons, hT, F.noAttr]; rfl
  have c3 : (Value.ref C :: bm).contains (.type "NameError") = false := by rw [List.contains_cons, hT, F.noName]; rfl
  refine codeAny_builtinAt F.entry ?_
  unfold Builtin.«BaseException.__new__»
  refine wpAt_bind ?_
  show wpAt _ _ _ (stack >>= _) _ _ _
  refine wpAt_bind (wpAt_stack fun p below => wpAt_of_wpAny ?_)
  wp_walk
  refine wpAt_of_wpAny ?_
  rw [F.owner]
  repeat (first | with_reducible refine wpAny_madeHere_exc F.canon hC ?_ | with_reducible refine wpAny_loadPart_at hC ?_ | (with_reducible refine wpAny_isSubtype_exc hC ?_; first | rw [c1] | rw [c2] | rw [c3]) | wp_step)
  show R _ _
  rw [Heap.size_push]
  exact hq
theorem kw_type_call (F : ExcBaseFacts B newId initId bmB) (hT : ∀ X : String, bm.contains (.type X) = bmB.contains (.type X)) {rest : List Value} {kw : List (Str × Value)} {fI : Addr} {Q : Fin → Shared → Prop}
    (hC : h.get? C = some (excClassObj nm q C N bs bm hdct sn sub ab col dd k0 k1 k2 k3 k5 newId)) (hrest : rest.length ≤ sizeLine)
    (hi : W.Looks (model prog w) h (typeLookup (.ref C) "__init__") (some (.ref fI))) (hb : ∀ self, W.Looks (model prog w) h (bindSpecial (.ref fI) self) (.ref fI, [self]))
    (hq : codeAny (model prog w) A (.call (.ref fI) ⟨.ref (h.objs.size + 1) :: rest, kw⟩)
      (fun r s' => match r with | .ok (.ret v) => v = .none ∧ Q (.done (.ret (.ref (h.objs.size + 1)))) s' | .ok _ => False | .error e => E e s') ⟨(h.push (W.kdv_tup rest)).push (excO C h.objs.size), g, d, t, os⟩) :
    wpAny (model prog w) A (Builtin.«type.__call__» ⟨.ref C :: rest, kw⟩) Q E ⟨h, g, d, t, os⟩ := by
  repeat (first | with_reducible refine wpAny_loadPart_at hC ?_ | with_reducible refine wpAny_madeBy_exc hC ?_ | wp_step)
  refine codeAny_call_builtin_code (Code.quiet_builtin _ F.quiet) (kw_new_check F hT hC ?_)
  refine kw_new F hT hC hrest ?_
  show wpAny _ _ _ _ _ _
  have kp : ∀ b o, h.get? b = some o → ((h.push (W.kdv_tup rest)).push (excO C h.objs.size)).get? b = some o := fun b o e => Heap.get?_push_of_some _ (Heap.get?_push_of_some _ e)
  have hC2 := kp _ _ hC
  have hat : ((h.push (W.kdv_tup rest)).push (excO C h.objs.size)).get? (h.objs.size + 1) = some (excO C h.objs.size) := by heap_get
  have cC : (Value.ref C :: bm).contains (.ref C) = true := by simp
  have i1 := hi.keeps kp
  have b1 := (hb (.ref (h.objs.size + 1))).keeps kp
  unfold isInstance
  repeat (first | with_reducible refine wpAny_loadPart_at hat ?_ | (with_reducible refine wpAny_isSubtype_exc hC2 ?_; rw [cC]) | wp_step)
  show wpAny _ _ (typeLookup (.ref C) _) _ _ _
  refine i1.at (wpAny_holding (wpAny_bind (b1.at (wpAny_bind (wpAny_call (codeAny_mono hq fun r s' z => ?_))))))
  rcases r with e | (v | _ | _ | _) <;> first | exact z | exact z.elim | skip
  obtain ⟨rfl, z⟩ := z
  first
    | exact wpAny_pure (wpAny_pure z)
    | (wp_walk; exact z)
theorem kw_call (F : ExcBaseFacts B newId initId bmB) (hT : ∀ X : String, bm.contains (.type X) = bmB.contains (.type X)) {rest : List Value} {kw : List (Str × Value)} {fI : Addr}
    (hC : h.get? C = some (excClassObj nm q C N bs bm hdct sn sub ab col dd k0 k1 k2 k3 k5 newId)) (hrest : rest.length ≤ sizeLine)
    (hi : W.Looks (model prog w) h (typeLookup (.ref C) "__init__") (some (.ref fI))) (hb : ∀ self, W.Looks (model prog w) h (bindSpecial (.ref fI) self) (.ref fI, [self]))
    (hq : codeAny (model prog w) (A.under (.builtin "type.__call__" ⟨.ref C :: rest, kw⟩)) (.call (.ref fI) ⟨.ref (h.objs.size + 1) :: rest, kw⟩) (W.InitBack (h.objs.size + 1) R) ⟨(h.push (W.kdv_tup rest)).push (excO C h.objs.size), g, d, t, os⟩) :
    codeAny (model prog w) A (.call (.ref C) ⟨rest, kw⟩) R ⟨h, g, d, t, os⟩ := by
  have z1 := tc_lookup
  have z2 := tc_bind (.ref C)
  have hTy : (⟨h, g, d, t, os⟩ : Shared).TypeIs (.ref C) "type" := ⟨_, hC, rfl⟩
  refine codeAny_of_tree ?_
  show wpAny _ _ (callAny (.ref C) _) _ _ _
  repeat (any_goals (first | assumption | with_reducible refine wpAny_loadPart_at hC ?_ | wp_step))
  refine ⟨rfl, codeAny_call_builtin_at (Code.quiet_builtin _ (by decide +kernel)) entry_typeCall (wpAny_check_type_call_sub hC (kw_type_call F hT hC hrest hi hb ?_))⟩
  refine codeAny_mono hq fun r s' z => ?_
  rcases r with e | (v | _ | _ | _) <;> exact z
end
end HandSPX
end PySem
/-! Exceptions of own classes as values: readings and rules. -/
namespace DL
open PySem L2
open PyProof.Rows (envOfC)

/-- what the written part says of an own exception class; O: the class under it -/
structure XCls (K : PySem.W.Frag) (O C : Addr) : Prop where
  ox : OexC K C
  cl : (PySem.W.clsIn K C).isSome = true
  hd : PySem.W.hasDictIn K C = true
  ga : PySem.W.findIn K (.ref C) "__getattribute__" = some (some (.builtin "BaseException.__getattribute__"))
  gt : PySem.W.findIn K (.ref C) "__getattr__" = some none
  ca : PySem.W.findIn K (.ref C) "__class__" = some (some (.builtin "object.__class__"))
  ng : PySem.W.specialIn K (.builtin "object.__class__") "__get__" = some (some (.builtin "getset_descriptor.__get__"))
  tk : PySem.W.takesIn K (.builtin "object.__class__") = some true
  mo : PySem.W.mroIn K C (.type "object") = some true
  mro : ∃ cd, PySem.W.clsIn K C = some cd ∧ cd.mro = [.ref C, .ref O, .type "ValueError", .type "Exception", .type "BaseException", .type "object"]
theorem XCls.kit {K : PySem.W.Frag} {O C D : Addr} (x : XCls K O C) (h : (PySem.W.clsIn K D).isSome = true) (ht : PySem.W.typeIn K (.ref D) = some (.type "type")) : PySem.W.kitOne K (.ref C) (.ref D) = some (decide (D = C) || decide (D = O)) := by
  obtain ⟨cd, hc, hm⟩ := x.mro
  unfold PySem.W.kitOne
  by_cases e : D = C
  · subst e; simp
  · have hb : (Value.ref C == Value.ref D) = false := by
      refine Bool.eq_false_iff.mpr fun q => ?_
      exact e (Value.ref.inj (beq_iff_eq.mp q)).symm
    rw [hb, if_neg Bool.false_ne_true]
    have h2 : (PySem.W.typeIn K (.ref D) == some (Value.type "type")) = true := by rw [ht]; exact beq_iff_eq.mpr rfl
    show (if ((PySem.W.clsIn K D).isSome && PySem.W.typeIn K (.ref D) == some (.type "type")) = true then PySem.W.mroIn K C (.ref D) else none) = _
    rw [h, h2, if_pos (by rfl)]
    unfold PySem.W.mroIn
    rw [hc, Option.bind_some, hm, if_neg (by simp)]
    have key : ([Value.ref C, .ref O, .type "ValueError", .type "Exception", .type "BaseException", .type "object"].contains (Value.ref D)) = (decide (D = C) || decide (D = O)) := by
      rw [Bool.eq_iff_iff]
      simp [e]
    rw [key]
theorem XCls.kitV {K : PySem.W.Frag} {O C : Addr} (x : XCls K O C) : PySem.W.kitOne K (.ref C) (.type "ValueError") = some true := by
  obtain ⟨cd, hc, hm⟩ := x.mro
  unfold PySem.W.kitOne
  have hb : (Value.ref C == Value.type "ValueError") = false := by
    refine Bool.eq_false_iff.mpr fun q => ?_
    have := beq_iff_eq.mp q
    cases this
  rw [hb, if_neg Bool.false_ne_true]
  show (if PySem.W.kitMeta "ValueError" = true then PySem.W.mroIn K C (.type "ValueError") else none) = _
  rw [if_pos (by decide +kernel)]
  unfold PySem.W.mroIn
  rw [hc, Option.bind_some, hm, if_neg (by simp)]
  simp

/-- positions picked -/
def pick {α : Type} (ix : List Nat) (l : List α) : List α := ix.filterMap fun i => l[i]?
theorem repl_pick {K : PySem.W.Frag} {I : Hp} {vs : List V} {ds : List Da} (h : RepL K I vs ds) : ∀ ix : List Nat, RepL K I (pick ix vs) (pick ix ds)
  | [] => .nil
  | i :: r => by
    have t := repl_pick h r
    unfold pick at t ⊢
    cases e : vs[i]? with
    | none =>
      have e2 : ds[i]? = none := by
        rw [List.getElem?_eq_none_iff] at e ⊢
        rw [← repl_len h]; exact e
      rw [List.filterMap_cons, List.filterMap_cons, e, e2]; exact t
    | some v =>
      obtain ⟨d, e2, r2⟩ := repl_get h e
      rw [List.filterMap_cons, List.filterMap_cons, e, e2]
      exact .cons r2 t
theorem vals_get : ∀ {vs : List V} {us : List Value}, Vals vs us → ∀ i : Nat, (vs[i]? = none ∧ us[i]? = none) ∨ ∃ v u, vs[i]? = some v ∧ us[i]? = some u ∧ RelV v u
  | _, _, .nil, i => .inl ⟨by simp, by simp⟩
  | _, _, .cons a b, 0 => .inr ⟨_, _, rfl, rfl, a⟩
  | _, _, .cons a b, i + 1 => by simpa using vals_get b i
theorem vals_pick {vs : List V} {us : List Value} (h : Vals vs us) : ∀ ix : List Nat, Vals (pick ix vs) (pick ix us)
  | [] => .nil
  | i :: r => by
    have t := vals_pick h r
    unfold pick at t ⊢
    rcases vals_get h i with ⟨e1, e2⟩ | ⟨v, u, e1, e2, rv⟩
    · rw [List.filterMap_cons, List.filterMap_cons, e1, e2]; exact t
    · rw [List.filterMap_cons, List.filterMap_cons, e1, e2]; exact .cons rv t

/-- how an __init__ binds: n positional values, keywords named ks -/
def KBx (fd : FuncData) (ps : List Str) (n : Nat) (ks : List Str) (ix : List Nat) : Prop :=
  ∀ (u : Value) (us ws : List Value), us.length = n → ws.length = ks.length → bindArgs fd ⟨u :: us, ks.zip ws⟩ = pure (ps.zip (u :: pick ix (us ++ ws)))
/-- the promise of an __init__ of an exception class -/
def spX (K : PySem.W.Frag) (n : Nat) (C : Addr) (Cn : List Da → (List (Str × Da) → Prop) → Prop) : Sp := fun vs H Q _ => vs.length = n + 1 ∧ ∃ I a ws ds R, vs = .ref a :: ws ∧ Ex I H ∧ I a = none ∧ H a = some (exo a C none) ∧ RepL K I ws ds ∧ Cn ds R ∧
  ∀ I' H' dx fs fds, Step [a] I H I' H' → Ex I' H' → H' a = some (exo a C (some dx)) → H' dx = some (exd dx fs) → dx ≠ a → I' dx = none → H dx = none → RepF K I' fs fds → R fds → Q .non H'
/-- C(e, .., k = v, ..) -/
def tMkX (C : Addr) (n m : Nat) (ix : List Nat) (sp : Sp) (t tk : TA) : TE := fun σ H Q => t σ H fun vs H1 => tk σ H1 fun zs H2 => vs.length = n ∧ zs.length = m ∧ (pick ix (vs ++ zs)).length ≤ 1000 ∧
  ∀ a, H2 a = none → sp (.ref a :: pick ix (vs ++ zs)) (upd H2 a (exo a C none)) (fun v H3 => v = .non ∧ Q (.ref a) H3) E0
/-- an exception class that may be made -/
structure XG (P : Program) (w : World) (K : PySem.W.Frag) (mg : Str → Option Value) (base : Heap) (k : Nat) (x qual : Str) (st : Stmt) (C : Addr) (ps : List Str) (sp : Sp) : Prop where
  ex : ∃ (f : Addr) (fd : FuncData), OexC K C ∧ PySem.W.findIn K (.ref C) "__init__" = some (some (.ref f)) ∧ PySem.W.typeIn K (.ref f) = some (.type "function") ∧ FnG P w K mg base CX0 k f fd ps sp ∧ mg x = some (.ref C) ∧
    ∃ (kV doc pm : Value) (an : Option Addr) (cdv ct : Value), fd = PySem.W.fnOf "__init__" qual (defArgs st) (defBody st) (defScope st) .none kV doc pm an cdv ct
/-- .. for any such function object -/
def KBxs (qual : Str) (st : Stmt) (ps : List Str) (n : Nat) (ks : List Str) (ix : List Nat) : Prop :=
  ∀ (kV doc pm : Value) (an : Option Addr) (cdv ct : Value), KBx (PySem.W.fnOf "__init__" qual (defArgs st) (defBody st) (defScope st) .none kV doc pm an cdv ct) ps n ks ix
section
variable {X : Cx} {k j n : Nat} {f C : Addr} {fd : FuncData} {ps ks : List Str} {ix : List Nat} {sp : Sp} {x qual : Str} {st : Stmt} {p pos : Pos} {e : Expr} {es : List Expr} {kws : List Keyword} {t tk : TA}
theorem makeX {pins : List (Addr × Obj)} {σ : St} {H : Hp} {s : Shared} {Q : VK} {us ws : List Value} {vs zs : List V} (c : XG X.prog X.w X.K X.mg X.base k x qual st C ps sp) (hr : RmG (k + 1) X.A) (hb : KBxs qual st ps n ks ix) (hx : Passes CX0 X E0) (I : Inv X pins σ H s)
    (r : Vals vs us) (rz : Vals zs ws) (l1 : vs.length = n) (l2 : zs.length = ks.length) (lp : (pick ix (vs ++ zs)).length ≤ 1000) (lu : us.length ≤ sizeLine)
    (h : ∀ a, H a = none → sp (.ref a :: pick ix (vs ++ zs)) (upd H a (exo a C none)) (fun v H3 => v = .non ∧ Q (.ref a) H3) E0) :
    wpAny (model X.prog X.w) X.A (call (.ref C) us (ks.zip ws)) (EP X pins σ Q) X.xe s := by
  obtain ⟨fI, fd, T, iC, tI, F1, hm, kV, doc, pm, an, cdv, ct, rfl⟩ := c.ex
  obtain ⟨nm, q, N, bs, bm, sn, sub, ab, col, dd, k0, k1, k2, k3, k5, hC, hbm⟩ := T.cls
  obtain ⟨hp, g, dr, tk, os⟩ := s
  have hsz : hp.objs.size ≤ hp.objs.size + 1 := Nat.le_succ _
  have hn : H (hp.objs.size + 1) = none := I.hok.fresh hsz
  have hq := h (hp.objs.size + 1) hn
  have kk : ∀ b o, hp.get? b = some o → ((hp.push (PySem.W.kdv_tup us)).push (PySem.HandSPX.excO C hp.objs.size)).get? b = some o := fun b o e => Heap.get?_push_of_some _ (Heap.get?_push_of_some _ e)
  have hget : ((hp.push (PySem.W.kdv_tup us)).push (PySem.HandSPX.excO C hp.objs.size)).get? (hp.objs.size + 1) = some (PySem.HandSPX.excO C hp.objs.size) := by heap_get
  have I2 : Inv X pins σ (upd H (hp.objs.size + 1) (exo (hp.objs.size + 1) C none)) ⟨(hp.push (PySem.W.kdv_tup us)).push (PySem.HandSPX.excO C hp.objs.size), g, dr, tk, os⟩ :=
    I.laid (t' := tk) (a := hp.objs.size + 1) (o := exo (hp.objs.size + 1) C none) (h' := (hp.push (PySem.W.kdv_tup us)).push (PySem.HandSPX.excO C hp.objs.size)) kk hsz (exo_ok hget)
  have rr : Vals (vs ++ zs) (us ++ ws) := r.append rz
  have r2 : Vals (V.ref (hp.objs.size + 1) :: pick ix (vs ++ zs)) (Value.ref (hp.objs.size + 1) :: pick ix (us ++ ws)) := .cons rfl (vals_pick rr ix)
  have hbt := BindsTo.of_eq (s := (⟨(hp.push (PySem.W.kdv_tup us)).push (PySem.HandSPX.excO C hp.objs.size), g, dr, tk, os⟩ : Shared)) (hb kV doc pm an cdv ct (Value.ref (hp.objs.size + 1)) us ws (r.length.symm.trans l1) (rz.length.symm.trans l2))
  refine wpAny_call (PySem.HandSPX.kw_call F.excBase_ValueError (fun Y => PySem.HandSPX.refsVE_contains Y bm hbm) (I.kIn _ _ hC) lu (PySem.W.looks_findIn I.kIn iC) (fun self => PySem.W.bind_fn I.kIn self tI)
    (codeAny_mono (F1.go _ X.stack _ _ ⟨Value.ref (hp.objs.size + 1) :: us, ks.zip ws⟩ (Value.ref (hp.objs.size + 1) :: pick ix (us ++ ws)) _ _ E0 (hr.make C us (ks.zip ws)) (I2.env0.make C us (ks.zip ws)) hbt r2 hq) fun r s' hq' => ?_))
  match r, hq' with
  | .error er, hq' => exact hx pins σ _ _ er s' I2 hq'
  | .ok (.ret u), hq' =>
    obtain ⟨v, H', I3, rv, ev, q3⟩ := I2.after hq'
    subst ev
    exact ⟨rv, ⟨V.ref (hp.objs.size + 1), H', I3, rfl, q3⟩⟩
  | .ok .next, hq' => exact hq'.elim
  | .ok .brk, hq' => exact hq'.elim
  | .ok .cont, hq' => exact hq'.elim
theorem pe_mkx (c : XG X.prog X.w X.K X.mg X.base k x qual st C ps sp) (hr : RmG j X.A) (hk : k + 1 ≤ j) (hx : Passes CX0 X E0) (hb : KBxs qual st ps n ks ix) (hg : Gl X x) (ha : PA X (e :: es) t) (hkw : PK X kws tk) (hn : n ≤ 100 := by decide)
    (hall : (backToKw pos (keywordEach kws X.env)).all (·.1.isSome) = true := by rfl) (hks : (backToKw pos (keywordEach kws X.env)).filterMap (·.1) = ks := by rfl)
    (hdb : (x == ("__debug__" : Str)) = false := by decide) (he : starEach (e :: es) X.env = (false, eval e X.env) :: starEach es X.env := by rfl)
    (hpl : ((backTo pos (starEach (e :: es) X.env)).any (·.1) || (backToKw pos (keywordEach kws X.env)).any (·.1.isNone)) = false := by rfl) :
    PE X (.Call (.Name x p) (e :: es) kws pos) (tMkX C n ks.length ix sp t tk) := by
  obtain ⟨f, fd, T, _, _, _, hm, _⟩ := id c.ex
  refine ⟨fun pins s σ H Q I h => ?_⟩
  refine wpAny_Call_Name_kw (ld_glob I hg hm ?_ hdb)
  refine PySem.W.callWith_KW (h₀ := X.base) I.ok.mod.kin T.kC hall (thn (ha.run pos pins s σ H _ I h) fun us s1 ⟨vs, H1, I1, r, q⟩ => ?_) hpl he
  refine thn (hkw.run pos pins s1 σ H1 _ I1 q) fun ws s2 ⟨zs, H2, I2, rz, l1, l2, l3, q2⟩ => ⟨I2.kIn, ?_⟩
  rw [hks]
  exact makeX c (hr.mono hk) hb hx I2 r rz l1 l2 l3 (by show us.length ≤ sizeLine; rw [← r.length, l1, sizeLine_eq]; omega) q2
theorem pe_mkx0 (c : XG X.prog X.w X.K X.mg X.base k x qual st C ps sp) (hr : RmG j X.A) (hk : k + 1 ≤ j) (hx : Passes CX0 X E0) (hb : KBxs qual st ps 0 ks ix) (hg : Gl X x) (hkw : PK X kws tk)
    (hall : (backToKw pos (keywordEach kws X.env)).all (·.1.isSome) = true := by rfl) (hks : (backToKw pos (keywordEach kws X.env)).filterMap (·.1) = ks := by rfl)
    (hdb : (x == ("__debug__" : Str)) = false := by decide)
    (hpl : ((backTo pos (starEach [] X.env)).any (·.1) || (backToKw pos (keywordEach kws X.env)).any (·.1.isNone)) = false := by rfl) :
    PE X (.Call (.Name x p) [] kws pos) (tMkX C 0 ks.length ix sp tNil tk) := by
  obtain ⟨f, fd, T, _, _, _, hm, _⟩ := id c.ex
  refine ⟨fun pins s σ H Q I h => ?_⟩
  refine wpAny_Call_Name_kw (ld_glob I hg hm ?_ hdb)
  refine PySem.W.callWith_KW0 (h₀ := X.base) I.ok.mod.kin T.kC hall ?_ hpl
  refine thn (hkw.run pos pins s σ H _ I h) fun ws s2 ⟨zs, H2, I2, rz, l1, l2, l3, q2⟩ => ⟨I2.kIn, ?_⟩
  rw [hks]
  exact makeX (us := []) (vs := []) c (hr.mono hk) hb hx I2 .nil rz l1 l2 l3 (Nat.zero_le _) q2
end
end DL
namespace DL
open PySem L2
open PyProof.Rows (envOfC)
/-! ### reading an exception's field, its class -/
def tFldX (K : PySem.W.Frag) (O : Addr) (ta : TE) (f : Str) : TE := fun σ H Q => ta σ H fun x H1 => ∃ (a C d : Addr) (fs : List (Str × V)) (v : V), x = .ref a ∧ XCls K O C ∧ PySem.W.findIn K (.ref C) f = some none ∧ H1 a = some (exo a C (some d)) ∧ H1 d = some (exd d fs) ∧ fs.lookup f = some v ∧ Q v H1
theorem exd_look {P : Program} {w : World} {H : Hp} {h : Heap} {dx : Addr} {fs : List (Str × V)} {f : Str} {v : V} (hok : HOk P w H h) (he : H dx = some (exd dx fs)) (hl : fs.lookup f = some v) : ∃ (o : Obj) (u : Value), h.get? dx = some o ∧ PySem.W.lookIn f o = some (some u) ∧ RelV v u := by
  obtain ⟨mA, hns, rel⟩ := exd_at hok he
  have q := rel f
  rw [hl] at q
  cases hm : mA f with
  | none => rw [hm] at q; exact q.elim
  | some u =>
    rw [hm] at q
    obtain ⟨o, ho, hk⟩ := lookIn_ns hns
    exact ⟨o, u, ho, by rw [hk, hm], q⟩
theorem exd_obj {P : Program} {w : World} {H : Hp} {h : Heap} {dx : Addr} {fs : List (Str × V)} (hok : HOk P w H h) (he : H dx = some (exd dx fs)) : ∃ (o : Obj), h.get? dx = some o := by
  obtain ⟨mA, ⟨o, es, ep, ho, hr⟩, rel⟩ := exd_at hok he
  exact ⟨o, ho⟩
/-- isinstance(e, C), e an exception of an own class -/
def rIsX (K : PySem.W.Frag) (O : Addr) : List V → Hp → VK → Prop := fun xs H Q => ∃ (a C : Addr) (od : Option Addr) (c : V) (cv : Value) (b : Bool), xs = [.ref a, c] ∧ XCls K O C ∧ H a = some (exo a C od) ∧ (∀ d, od = some d → ∃ fs, H d = some (exd d fs)) ∧ (∀ u, RelV c u → u = cv) ∧ PySem.W.kitOne K (.ref C) cv = some b ∧ Q (.bl b) H
theorem call_isx {X : Cx} {O : Addr} : CallR X (.builtin "isinstance") (rIsX X.K O) := by
  intro pins s σ H xs us Q I r h
  obtain ⟨a, C, od, c, cv, b, rfl, xc, ea, ed, hcv, e, q⟩ := h
  cases r with
  | cons rx rr =>
    cases rr with
    | cons rt rr =>
      cases rr
      cases rx
      have ec := hcv _ rt
      subst ec
      obtain ⟨t1, ho⟩ := exo_at I.hok ea
      cases od with
      | none =>
        exact PySem.W.kia_one (PySem.W.kitx_exc (ox := { cls := .ref C, dict := none, data := .fields #[.ref t1, .none, .none, .none, .bool false, .none] }) (od := none) xc.cl xc.ga xc.gt xc.ox.exC xc.ca xc.ng xc.tk xc.mo) I.kIn ⟨ho, rfl, rfl, trivial⟩ e (fun z => nomatch z) fun tk => ⟨.bl b, H, I.kept (t' := tk) fun _ _ z => z, rfl, q⟩
      | some d =>
        obtain ⟨fs, hd⟩ := ed d rfl
        obtain ⟨oD, hD⟩ := exd_obj I.hok hd
        exact PySem.W.kia_one (PySem.W.kitx_exc (ox := { cls := .ref C, dict := some d, data := .fields #[.ref t1, .none, .none, .none, .bool false, .none] }) (od := some oD) xc.cl xc.ga xc.gt xc.ox.exC xc.ca xc.ng xc.tk xc.mo) I.kIn ⟨ho, rfl, rfl, hD⟩ e (fun z => nomatch z) fun tk => ⟨.bl b, H, I.kept (t' := tk) fun _ _ z => z, rfl, q⟩
section
variable {X : Cx} {e : Expr} {f : Str} {pos : Pos} {ta : TE} {O : Addr}
theorem pe_fldx (he : PE X e ta) (hb : attributeBase e f X.env (eval e X.env) = eval e X.env) : PE X (.Attribute e f pos) (tFldX X.K O ta f) := by
  refine ⟨fun pins s σ H Q I h => ?_⟩
  refine attr_of hb (thn (he.run pins s σ H _ I h) fun u s1 ⟨x, H1, I1, rx, a, C, d, fs, v, ex, xc, hno, ea, ed, l, q⟩ => ?_)
  subst ex
  obtain rfl : u = Value.ref a := rx
  obtain ⟨t1, ho⟩ := exo_at I1.hok ea
  obtain ⟨oD, uv, hD, hlk, rv⟩ := exd_look I1.hok ed l
  refine PySem.HandSPX.exc_get I1.kIn (ox := { cls := .ref C, dict := some d, data := .fields #[.ref t1, .none, .none, .none, .bool false, .none] }) (od := some oD) ⟨ho, rfl, rfl, hD⟩ xc.ga xc.gt xc.ox.exC (PySem.W.findObj_own xc.hd hno rfl hlk) (handed_of rv) ?_
  exact ⟨v, H1, I1.tok _, rv, q⟩
/-- C(), an own exception class without own __init__ -/
def tMk0 (C : Addr) : TE := fun σ H Q => ∀ a, H a = none → Q (.ref a) (upd H a (exo a C none))
theorem pe_mk0 {C : Addr} {bmB : List Value} {B newId initId : String} {x : Str} {p pos : Pos} (F : PySem.ExcBaseFacts B newId initId bmB) (q : PySem.W.excIn X.K C bmB newId = true) (gC : X.mg x = some (.ref C)) (kC : PySem.W.keepIn X.K (.ref C) = true) (hg : Gl X x)
    (hdb : (x == ("__debug__" : Str)) = false := by decide) : PE X (.Call (.Name x p) [] [] pos) (tMk0 C) := by
  refine ⟨fun pins s σ H Q I h => ?_⟩
  refine wpAny_Call_Name_kw (ld_glob I hg gC ?_ hdb)
  refine PySem.W.callWith_K0 (first := []) I.kIn kC ?_
  obtain ⟨bm, N, nm, qn, bs, hdct, sn, sub, ab, col, dd, k0, k1, k2, k3, k5, mN, hC, hN, hni, T⟩ := exc_obj I.kIn q
  refine PySem.wpAny_call_exc_subT F T hC hN hni (fun h' a hm => ?_) (Nat.zero_le _)
  have hn : H a = none := I.hok.gone hm.new
  obtain ⟨t, ht, _, _⟩ := hm.there
  exact ⟨.ref a, upd H a (exo a C none), I.laidN hm.keeps hm.new hn (exo_ok ht), rfl, h a hn⟩
end

/-! ### over the worth -/
section
variable {K : PySem.W.Frag} {δ : List SK} {μ : Mu} {Q : SK → Mu → Prop} {te ta tl : TE} {tr tk : TA} {E : DE} {n m : Nat} {C O : Addr} {ix : List Nat}
theorem rd_fldx {f : Str} (h : RD K ta δ μ fun r μ1 => ∃ (C : Addr) (fs : List (Str × Da)) (d : Da), r = .dat (.exc C fs) ∧ XCls K O C ∧ PySem.W.findIn K (.ref C) f = some none ∧ fs.lookup f = some d ∧ Q (.dat d) μ1) : RD K (tFldX K O ta f) δ μ Q := fun Lc I H σ F s QQ p =>
  h Lc I H σ F s _ fun v I1 H1 r μ1 F1 st f1 s1 ok ⟨C, fs, d, er, xc, hno, hl, q⟩ => by
    subst er
    cases ok with
    | exc h1 h2 rf =>
      obtain ⟨w, hw, rw'⟩ := repF_lookup rf hl
      exact ⟨_, C, _, _, w, rfl, xc, hno, s1.ih _ _ h1, s1.ih _ _ h2, hw, p w I1 H1 (.dat d) μ1 F1 st f1 s1 rw' q⟩
    | exc0 h1 => simp at hl
theorem isx_cls {D : Addr} {fs : List (Str × Da)} {b : Bool} (xc : XCls K O C) (e : PySem.W.kitOne K (.ref C) (.ref D) = some b) (q : Q (.dat (.bl b)) μ) : RC K (rIsX K O) [.dat (.exc C fs), .dat (.cls D)] δ μ Q := fun Lc I H σ F s vs a QQ p => by
  cases vs with
  | nil => cases a
  | cons v ws =>
    cases a with
    | cons x y =>
      cases ws with
      | nil => cases y
      | cons w zs =>
        cases y with
        | cons y z =>
          cases zs with
          | cons _ _ => cases z
          | nil =>
            cases y
            cases x with
            | exc h1 h2 rf => exact ⟨_, C, some _, _, .ref D, b, rfl, xc, s.ih _ _ h1, fun d hd => (by cases hd; exact ⟨_, s.ih _ _ h2⟩), fun u hu => hu, e, p.now (v := .bl b) (r := .dat (.bl b)) s (Rep.bl b) q⟩
            | exc0 h1 => exact ⟨_, C, none, _, .ref D, b, rfl, xc, s.ih _ _ h1, fun d hd => (nomatch hd), fun u hu => hu, e, p.now (v := .bl b) (r := .dat (.bl b)) s (Rep.bl b) q⟩
theorem isx_ty {D : String} {fs : List (Str × Da)} {b : Bool} (xc : XCls K O C) (e : PySem.W.kitOne K (.ref C) (.type D) = some b) (q : Q (.dat (.bl b)) μ) : RC K (rIsX K O) [.dat (.exc C fs), .dat (.ty D)] δ μ Q := fun Lc I H σ F s vs a QQ p => by
  cases vs with
  | nil => cases a
  | cons v ws =>
    cases a with
    | cons x y =>
      cases ws with
      | nil => cases y
      | cons w zs =>
        cases y with
        | cons y z =>
          cases zs with
          | cons _ _ => cases z
          | nil =>
            cases y
            cases x with
            | exc h1 h2 rf => exact ⟨_, C, some _, _, .type D, b, rfl, xc, s.ih _ _ h1, fun d hd => (by cases hd; exact ⟨_, s.ih _ _ h2⟩), fun u hu => hu, e, p.now (v := .bl b) (r := .dat (.bl b)) s (Rep.bl b) q⟩
            | exc0 h1 => exact ⟨_, C, none, _, .type D, b, rfl, xc, s.ih _ _ h1, fun d hd => (nomatch hd), fun u hu => hu, e, p.now (v := .bl b) (r := .dat (.bl b)) s (Rep.bl b) q⟩
theorem rd_mk0 (q : Q (.dat (.exc C [])) μ) : RD K (tMk0 C) δ μ Q := fun Lc I H σ F s QQ p a ha =>
  p (.ref a) (upd I a (exo a C none)) (upd H a (exo a C none)) (.dat (.exc C [])) μ F (Step.new ha s.ih) (fun x hx => .inl hx) (s.newD ha) (Rep.exc0 upd_same) q
theorem rd_mkx {Cn : List Da → (List (Str × Da) → Prop) → Prop} (hix : ix.length ≤ 100) (h : RA K tr δ μ fun rs μ1 => ∃ ds, unD rs = some ds ∧ ds.length = n ∧ RA K tk δ μ1 fun rs2 μ2 => ∃ es, unD rs2 = some es ∧ es.length = m ∧ (pick ix (ds ++ es)).length = ix.length ∧ Cn (pick ix (ds ++ es)) fun fs => Q (.dat (.exc C fs)) μ2) :
    RD K (tMkX C n m ix (spX K ix.length C Cn) tr tk) δ μ Q := fun Lc I H σ F s QQ p =>
  h Lc I H σ F s _ fun vs I1 H1 rs μ1 F1 st f s1 ok ⟨ds, e1, hl, h2⟩ => h2 Lc I1 H1 σ F1 s1 _ fun zs I2 H2 rs2 μ2 F2 st2 f2 s2 ok2 ⟨es, e2, hl2, hp, c⟩ => by
    have e1' := unD_dats e1
    have e2' := unD_dats e2
    subst e1'
    subst e2'
    have r1 := repl_of ok
    have r2 := repl_of ok2
    have rapp : ∀ {vs ws : List V} {ds es : List Da}, RepL K I2 vs ds → RepL K I2 ws es → RepL K I2 (vs ++ ws) (ds ++ es) := by
      intro vs ws ds es a b
      induction vs generalizing ds with
      | nil => cases a; exact b
      | cons v vs ih => cases a with | cons x y => exact .cons x (ih y)
    have rp := repl_pick (rapp (r1.mono st2.ii) r2) ix
    have stA := st.trans st2 f
    have fA := sub_trans st f f2
    have hpl : (pick ix (vs ++ zs)).length = ix.length := (repl_len rp).trans hp
    refine ⟨by rw [repl_len r1]; exact hl, by rw [repl_len r2]; exact hl2, by omega, fun a ha => ?_⟩
    have e0 : Ex I2 (upd H2 a (exo a C none)) := s2.ih.trans (Ex.new ha)
    refine ⟨by rw [List.length_cons, hpl], I2, a, _, _, _, rfl, e0, s2.ih.gone ha, upd_same, rp, c, fun I3 H3 dx fs fds st3 e3 h1 h2 hne hdI hdH rf q => ⟨rfl, ?_⟩⟩
    have kp : ∀ b o, H2 b = some o → H3 b = some o := fun b o hb => st3.keep b o (by rw [upd_ne (ne_of_none hb ha)]; exact hb) (by
      simp only [List.mem_cons, List.not_mem_nil, or_false]
      exact ne_of_none hb ha)
    have hIa : I3 a = none := st3.own a (by rw [upd_same]; simp) (s2.ih.gone ha)
    have hd2 : H2 dx = none := by rw [upd_ne hne] at hdH; exact hdH
    have x1 : Ex I3 (upd I3 dx (exd dx fs)) := Ex.new hdI
    have hIa' : upd I3 dx (exd dx fs) a = none := by rw [upd_ne hne.symm]; exact hIa
    have x2 : Ex (upd I3 dx (exd dx fs)) (upd (upd I3 dx (exd dx fs)) a (exo a C (some dx))) := Ex.new hIa'
    have st4 : Step [] I2 H2 (upd (upd I3 dx (exd dx fs)) a (exo a C (some dx))) H3 := ⟨st3.ii.trans (x1.trans x2), fun b o hb _ => kp b o hb, fun b hb hn => by
        have n1 : b ≠ a := fun z => hb (by rw [z]; exact ha)
        have n2 : b ≠ dx := fun z => hb (by rw [z]; exact hd2)
        rw [upd_ne n1, upd_ne n2]
        refine st3.own b ?_ hn
        rw [upd_ne n1]; exact hb, fun b hb z => by
        cases q : H2 b with
        | none => exact hb q
        | some o => rw [kp b o q] at z; cases z⟩
    have ih4 : Ex (upd (upd I3 dx (exd dx fs)) a (exo a C (some dx))) H3 := fun b o hb => by
      by_cases z : b = a
      · rw [z, upd_same] at hb
        rw [z, h1]; exact hb
      · rw [upd_ne z] at hb
        by_cases z2 : b = dx
        · rw [z2, upd_same] at hb
          rw [z2, h2]; exact hb
        · rw [upd_ne z2] at hb; exact e3 b o hb
    exact p (.ref a) _ H3 (.dat (.exc C fds)) μ2 F2 (stA.trans (st4.wide (G := F2) fun x hx => nomatch hx) fA) fA (s2.grow st4 (fun x hx => nomatch hx) ih4) (Rep.exc upd_same (by rw [upd_ne hne, upd_same]) (rf.mono (x1.trans x2))) q
/-- self.f = e, the first | a further one -/
theorem rs_ost1 {f : Str} {i : Nat} {a : Addr} (h : RD K te δ μ fun r μ1 => ∃ d : Da, r = .dat d ∧ μ1 = [(a, MK.exn C none [], false)] ∧ δ[i]? = some (.own a) ∧ OexC K C ∧ PySem.W.findIn K (.ref C) f = some none ∧ ∀ dx, E.nx δ [(a, MK.exn C (some dx) [(f, d)], false)]) :
    RS K (tOst K f (tVar i) te) δ μ E := fun I0 H0 F0 Ib I H σ F at_ D e =>
  h _ I H σ F at_.s _ fun w I1 H1 r μ1 F1 st fF s1 ok ⟨d, er, em, hd, ox, hno, q⟩ => by
    subst er
    subst em
    obtain ⟨o, ho, oo⟩ := s1.sl.get hd
    cases o with
    | none => exact oo.elim
    | some u =>
      have eu : u = .ref a := oo
      subst eu
      refine ⟨.ref a, ho, a, C, rfl, ox, hno, ?_⟩
      have mu := s1.mu
      cases mu with
      | cons m n dj nd l r =>
        cases r
        obtain ⟨rfl, _, hH⟩ := m
        refine .inl ⟨hH, fun dx hdx hne => ?_⟩
        have hIa : I1 a = none := n a (by simp)
        have hIx : I1 dx = none := s1.ih.gone hdx
        have kp : ∀ b o, b ≠ a → H1 b = some o → upd (upd H1 dx (exd dx [(f, w)])) a (exo a C (some dx)) b = some o := fun b o hb q => by rw [upd_ne hb, upd_ne (ne_of_none q hdx)]; exact q
        have st2 : Step ([a] ++ []) I1 H1 I1 (upd (upd H1 dx (exd dx [(f, w)])) a (exo a C (some dx))) := ⟨Ex.refl _, fun b o hb hn => kp b o (fun z => hn (by simp [z])) hb, fun _ _ z => z, fun b hb => by
          by_cases z : b = a
          · rw [z, upd_same]; simp
          · cases q : H1 b with
            | none => exact absurd q hb
            | some o => rw [kp b o z q]; simp⟩
        have at2 : At K I0 H0 F0 Ib I1 (upd (upd H1 dx (exd dx [(f, w)])) a (exo a C (some dx))) σ δ [(a, MK.exn C (some dx) [(f, d)], false)] ([a, dx] ++ []) := by
          refine (at_.on st fF s1).on st2 (fun x hx => ?_) ⟨fun b u hb => ?_, fun b hb => s1.lc b ?_, s1.sl, ?_⟩
          · rcases (by simpa using hx : x = a ∨ x = dx) with z | z
            · exact .inl (by simp [z])
            · exact .inr (by rw [z]; exact hdx)
          · exact kp b u (fun z => by rw [z, hIa] at hb; cases hb) (s1.ih b u hb)
          · cases q : H1 b with
            | none => rfl
            | some o =>
              by_cases z : b = a
              · rw [z, upd_same] at hb; cases hb
              · rw [kp b o z q] at hb; cases hb
          · refine MuOk.cons (F := [a, dx]) (G := []) ⟨rfl, [(f, w)], upd_same, ?_, .cons ok .nil⟩ ?_ (fun _ _ z => nomatch z) ?_ (fun z => nomatch z) .nil
            · rw [upd_ne hne, upd_same]
            · intro x hx
              rcases (by simpa using hx : x = a ∨ x = dx) with z | z
              · rw [z]; exact hIa
              · rw [z]; exact hIx
            · simp only [List.nodup_cons, List.mem_cons, List.not_mem_nil, or_false, not_false_eq_true, List.nodup_nil, and_true]
              exact fun z => hne z.symm
        exact e.nx I1 _ σ δ _ _ at2 (q dx)
theorem rs_ost2 {f : Str} {i : Nat} {a dx : Addr} {fs : List (Str × Da)} (h : RD K te δ μ fun r μ1 => ∃ d : Da, r = .dat d ∧ μ1 = [(a, MK.exn C (some dx) fs, false)] ∧ δ[i]? = some (.own a) ∧ OexC K C ∧ PySem.W.findIn K (.ref C) f = some none ∧ fs.length ≤ 900 ∧ E.nx δ [(a, MK.exn C (some dx) ((f, d) :: fs), false)]) :
    RS K (tOst K f (tVar i) te) δ μ E := fun I0 H0 F0 Ib I H σ F at_ D e =>
  h _ I H σ F at_.s _ fun w I1 H1 r μ1 F1 st fF s1 ok ⟨d, er, em, hd, ox, hno, hl, q⟩ => by
    subst er
    subst em
    obtain ⟨o, ho, oo⟩ := s1.sl.get hd
    cases o with
    | none => exact oo.elim
    | some u =>
      have eu : u = .ref a := oo
      subst eu
      refine ⟨.ref a, ho, a, C, rfl, ox, hno, ?_⟩
      have mu := s1.mu
      cases mu with
      | cons m n dj nd l r =>
        cases r
        obtain ⟨rfl, xs, hH, hX, rf⟩ := m
        have ne : dx ≠ a := fun z => by
          have := (List.nodup_cons.mp nd).1
          simp [z] at this
        have lenF : ∀ {xs : List (Str × V)} {ds : List (Str × Da)}, RepF K I1 xs ds → xs.length = ds.length := by
          intro xs ds r
          induction xs generalizing ds with
          | nil => cases r; rfl
          | cons x xs ih => cases r with | cons a b => simp [ih b]
        refine .inr ⟨dx, xs, hH, hX, by rw [lenF rf]; exact hl, ?_⟩
        have hIx : I1 dx = none := n dx (by simp)
        have st2 : Step ([a, dx] ++ []) I1 H1 I1 (upd H1 dx (exd dx ((f, w) :: xs))) := Step.put (by simp) (by rw [hX]; simp)
        refine e.nx I1 _ σ δ _ ([a, dx] ++ []) ((at_.on st fF s1).on st2 (fun x hx => .inl hx) ⟨fun b u hb => ?_, fun b hb => s1.lc b ?_, s1.sl, ?_⟩) q
        · have : b ≠ dx := fun z => by rw [z, hIx] at hb; cases hb
          rw [upd_ne this]; exact s1.ih b u hb
        · by_cases z : b = dx
          · rw [z, upd_same] at hb; cases hb
          · rw [upd_ne z] at hb; exact hb
        · refine MuOk.cons (F := [a, dx]) (G := []) ⟨rfl, (f, w) :: xs, ?_, upd_same, .cons ok rf⟩ n (fun _ _ z => nomatch z) nd (fun z => nomatch z) .nil
          rw [upd_ne ne.symm]; exact hH
end
section
variable {P : Program} {w : World} {K : PySem.W.Frag} {mg : Str → Option Value} {base : Heap} {x qual : Str} {st : Stmt} {f : Addr} {fd : FuncData} {N ps : List Str} {k n : Nat}
theorem fn_X {Cl : Addr} {C : List Da → (List (Str × Da) → Prop) → Prop} (F : Fun K x qual st f fd) (S : FnScope N ps (defScope st)) (hn : ps.length = n + 1)
    (body : ∀ (cdv : Value) (A : Around) (outer : List Env) (s : Shared) (H : Hp) (E : XK), RmG k (A.deeper (envOfC qual (defScope st) s.heap.objs.size f cdv)) →
      ∃ t, PSs (cxOf CX0 P w K mg base N qual (defScope st) f cdv A outer s H E).nox (defBody st) t ∧ ∀ (p : Addr) ds R, ds.length = n → C ds R →
        RS K t (startD N (.own p :: dats ds)) [(p, MK.exn Cl none [], false)] { nx := fun _ μ' => ∃ (dx : Addr) (fs : List (Str × Da)), μ' = [(p, MK.exn Cl (some dx) fs, false)] ∧ R fs, rt := fun _ _ => False }) :
    FnG P w K mg base CX0 (k + 1) f fd ps (spX K n Cl C) := by
  refine fng_of F S (fun vs H Q E h => h.1.trans hn.symm) fun cdv A outer s H vs Q E hr h => ?_
  obtain ⟨hl, I, p, ws, ds, R, rfl, e, hI, hp, r, cc, q⟩ := h
  obtain ⟨t, ht, hb⟩ := body cdv A outer s H E hr
  have hl' : ds.length = n := by rw [← repl_len r]; simpa using hl
  refine ⟨t, ht.nox, hb p ds R hl' cc I H [p] I I H _ ([p] ++ []) ⟨Step.refl _ _ _, fun x hx => .inl (by simpa using hx), ⟨e, fun _ z => z, slok_start (vs := .ref p :: ws) (.cons rfl (slok_dats r)), ?_⟩, Ex.refl _⟩ _ ⟨fun I1 H1 σ1 δ1 μ1 F1 a qr => ?_, fun v r I1 H1 σ1 δ1 μ1 F1 a ok qr => qr.elim, fun _ _ _ _ _ _ _ z => z.elim, fun _ _ _ _ _ _ _ z => z.elim⟩⟩
  · refine MuOk.cons (F := [p]) (G := []) ⟨rfl, rfl, hp⟩ ?_ (fun _ _ z => nomatch z) (by simp) (fun z => nomatch z) .nil
    intro x hx
    have : x = p := by simpa using hx
    rw [this]; exact hI
  · obtain ⟨dx, fs, em, hR⟩ := qr
    subst em
    have mu := a.s.mu
    cases mu with
    | cons m nn dj nd l r2 =>
      cases r2
      obtain ⟨rfl, xs, hH, hX, rf⟩ := m
      have ne : dx ≠ p := fun z => by
        have := (List.nodup_cons.mp nd).1
        simp [z] at this
      have hdx : H dx = none := by
        rcases a.sub dx (by simp) with z | z
        · exact absurd (by simpa using z) ne
        · exact z
      exact q I1 H1 dx xs fs a.st a.s.ih hH hX ne (nn dx (by simp)) hdx rf hR
end
end DL
namespace DL
open PySem L2
/-- an exception class of the module: where its __init__ stands -/
def XAt (K : PySem.W.Frag) (mg : Str → Option Value) (x : Str) (C : Addr) (qual : Str) (st : Stmt) : Prop := ∃ (f : Addr) (fd : FuncData), Fun K "__init__" qual st f fd ∧ OexC K C ∧ PySem.W.findIn K (.ref C) "__init__" = some (some (.ref f)) ∧ PySem.W.typeIn K (.ref f) = some (.type "function") ∧ mg x = some (.ref C)
theorem XAt.xg {P : Program} {w : World} {K : PySem.W.Frag} {mg : Str → Option Value} {base : Heap} {x qual : Str} {C : Addr} {st : Stmt} {ps : List Str} {k : Nat} {sp : Sp} (d : XAt K mg x C qual st) (h : ∀ {f fd}, Fun K "__init__" qual st f fd → FnG P w K mg base CX0 k f fd ps sp) : XG P w K mg base k x qual st C ps sp := by
  obtain ⟨f, fd, F, T, i, t, hm⟩ := d
  obtain ⟨oc, od, kV, doc, pm, an, cdv, ct, osl, e, _⟩ := F.ex
  exact ⟨f, fd, T, i, t, h F, hm, kV, doc, pm, an, cdv, ct, e⟩
end DL
namespace DL
open PySem L2
/-! ### repr of data -/
def rREPR (K : PySem.W.Frag) : List V → Hp → VK → Prop := fun xs H Q => ∃ (a : Addr) (d : PyData), xs = [.ref a] ∧ Dp K H (.ref a) d ∧ d.showable = true ∧ d.hasDict = false ∧ d.shown.length ≤ sizeLine ∧ d.depth ≤ 60 ∧ Q (.str d.shown) H
theorem cREPR {X : Cx} (hg : X.A.guards = some []) (hu : X.A.units + 65 < cLine) : CallR X (.builtin "repr") (rREPR X.K) := by
  intro pins s σ H xs us Q I r h
  obtain ⟨a, d, rfl, hd, h1, h2, h3, h4, q⟩ := h
  cases r with
  | cons rx rr =>
    cases rr
    cases (show _ = Value.ref a from rx)
    obtain ⟨as, rd⟩ := Dp.reads I d (.ref a) (.ref a) hd rfl
    exact PySem.repr_of_reads' rd h1 (PyData.noDict_hsm h2) hg (by omega) (fun _ _ z => z) (fun h' u tk k => ⟨.str d.shown, H, I.kept (t' := tk) k, ⟨u, rfl⟩, q⟩) h3
/-- data whose repr is told -/
structure Shw (d : Da) : Prop where
  p : plain d = true
  s : (py d).showable = true
  l : (py d).shown.length ≤ sizeLine
  d : (py d).depth ≤ 60
section
variable {K : PySem.W.Frag} {δ : List SK} {μ : Mu} {Q : SK → Mu → Prop}
theorem rp_t {ds : List Da} (h : Shw (.tup ds)) (q : Q (.dat (.str (py (.tup ds)).shown)) μ) : RC K (rREPR K) [.dat (.tup ds)] δ μ Q := fun Lc I H σ F s vs a QQ p => by
  cases vs with
  | nil => cases a
  | cons v ws =>
    cases a with
    | cons x y =>
      cases ws with
      | cons _ _ => cases y
      | nil =>
        have dp := rep_dp s.ih x h.p
        cases x with
        | tup hs hr =>
          exact ⟨_, _, rfl, dp, h.s, PyData.hasDict_of_canLay _ (plain_lay _ h.p), h.l, h.d, p.now (v := .str _) (r := .dat (.str _)) s (Rep.str _) q⟩
end
section
variable {K : PySem.W.Frag} {δ : List SK} {μ : Mu} {QT : Bool → Mu → Prop}
theorem rt_yes (q : QT true μ) : RT K tYes δ μ QT := fun Lc I H σ F s QQ p => p.now s q
end
/-! ### small data -/
/-- whole numbers and texts that are short, the truth values, None -/
def gp : Da → Bool
  | .non => true | .bl _ => true | .int i => decide (i.natAbs ≤ 10 ^ 40) | .str x => decide (x.cps.size ≤ 10) && PyData.strOk x
  | _ => false
/-- .. or tuples of at most 3 of them -/
def gv : Da → Bool
  | .tup ds => ds.all gp && decide (ds.length ≤ 3)
  | d => gp d
theorem gp_ints : ∀ {d : Da}, gp d = true → plain d = true ∧ (py d).intsShort 60 = true ∧ (py d).showable = true ∧ (py d).weight ≤ 200 ∧ (py d).depth = 0 := by
  intro d h
  cases d with
  | non => exact ⟨rfl, rfl, rfl, by decide, rfl⟩
  | bl b => exact ⟨rfl, rfl, rfl, Nat.zero_le _, rfl⟩
  | int i =>
    have h' : i.natAbs ≤ 10 ^ 40 := by simpa [gp] using h
    have hl : i.natAbs < 2 ^ 135 := Nat.lt_of_le_of_lt h' (by decide)
    have hlog : i.natAbs.log2 < 135 ∨ i.natAbs = 0 := by
      by_cases z : i.natAbs = 0
      · exact .inr z
      · exact .inl ((Nat.log2_lt z).mpr hl)
    refine ⟨rfl, ?_, ?_, ?_, rfl⟩
    · have e := int_text_length_le10 (k := 41) (a := i) (by decide) (Nat.lt_of_le_of_lt h' (by decide))
      show decide ((Str.ofString (toString i)).length ≤ 60) = true
      rw [ofString_length]
      exact decide_eq_true (Nat.le_trans e (by decide))
    · show decide (i.natAbs.log2 < 1920) = true
      refine decide_eq_true ?_
      rcases hlog with z | z
      · omega
      · rw [z]; decide
    · show (if i == 0 then 0 else i.natAbs.log2 + 1) ≤ 200
      split
      · exact Nat.zero_le _
      · rename_i z
        have : i.natAbs ≠ 0 := fun y => z (by simpa using y)
        rcases hlog with y | y
        · omega
        · exact absurd y this
  | str x =>
    have h' : x.cps.size ≤ 10 ∧ PyData.strOk x = true := by simpa [gp] using h
    exact ⟨h'.2, rfl, rfl, by show x.cps.size ≤ 200; omega, rfl⟩
  | _ => cases h
theorem gpL_ints : ∀ {ds : List Da}, ds.all gp = true → plainL ds = true ∧ PyData.intsShortAll 60 (pyL ds) = true ∧ PyData.showableAll (pyL ds) = true ∧ PyData.weightAll (pyL ds) ≤ 201 * ds.length ∧ PyData.depthAll (pyL ds) = 0
  | [], _ => ⟨rfl, rfl, rfl, by decide, rfl⟩
  | d :: ds, h => by
    have h' : gp d = true ∧ ds.all gp = true := by simpa using h
    obtain ⟨a1, a2, a3, a4, a5⟩ := gp_ints h'.1
    obtain ⟨b1, b2, b3, b4, b5⟩ := gpL_ints h'.2
    refine ⟨?_, ?_, ?_, ?_, ?_⟩
    · show (plain d && plainL ds) = true; rw [a1, b1]; rfl
    · show ((py d).intsShort 60 && PyData.intsShortAll 60 (pyL ds)) = true; rw [a2, b2]; rfl
    · show ((py d).showable && PyData.showableAll (pyL ds)) = true; rw [a3, b3]; rfl
    · show (py d).weight + 1 + PyData.weightAll (pyL ds) ≤ 201 * (ds.length + 1); omega
    · show max (py d).depth (PyData.depthAll (pyL ds)) = 0; rw [a5, b5]; rfl
theorem gv_ints {d : Da} (h : gv d = true) : plain d = true ∧ (py d).intsShort 60 = true ∧ (py d).showable = true ∧ (py d).weight ≤ 700 ∧ (py d).depth ≤ 1 := by
  by_cases t : ∃ ds, d = .tup ds
  · obtain ⟨ds, rfl⟩ := t
    have h' : ds.all gp = true ∧ ds.length ≤ 3 := by simpa [gv] using h
    obtain ⟨b1, b2, b3, b4, b5⟩ := gpL_ints h'.1
    exact ⟨b1, b2, b3, by show PyData.weightAll (pyL ds) ≤ 700; omega, by show PyData.depthAll (pyL ds) + 1 ≤ 1; omega⟩
  · have hg : gp d = true := by
      cases d <;> first | exact h | exact absurd ⟨_, rfl⟩ t
    obtain ⟨a1, a2, a3, a4, a5⟩ := gp_ints hg
    exact ⟨a1, a2, a3, by omega, by omega⟩
theorem gvL_ints : ∀ {ds : List Da}, (∀ d ∈ ds, gv d = true) → plainL ds = true ∧ PyData.intsShortAll 60 (pyL ds) = true ∧ PyData.showableAll (pyL ds) = true ∧ PyData.weightAll (pyL ds) ≤ 701 * ds.length ∧ PyData.depthAll (pyL ds) ≤ 1
  | [], _ => ⟨rfl, rfl, rfl, by decide, by decide⟩
  | d :: ds, h => by
    obtain ⟨a1, a2, a3, a4, a5⟩ := gv_ints (h d (by simp))
    obtain ⟨b1, b2, b3, b4, b5⟩ := gvL_ints fun x hx => h x (List.mem_cons_of_mem _ hx)
    refine ⟨?_, ?_, ?_, ?_, ?_⟩
    · show (plain d && plainL ds) = true; rw [a1, b1]; rfl
    · show ((py d).intsShort 60 && PyData.intsShortAll 60 (pyL ds)) = true; rw [a2, b2]; rfl
    · show ((py d).showable && PyData.showableAll (pyL ds)) = true; rw [a3, b3]; rfl
    · show (py d).weight + 1 + PyData.weightAll (pyL ds) ≤ 701 * (ds.length + 1); omega
    · show max (py d).depth (PyData.depthAll (pyL ds)) ≤ 1; omega
theorem shw_of {ds : List Da} (h : ∀ d ∈ ds, gv d = true) (hl : ds.length ≤ 3) : Shw (.tup ds) := by
  obtain ⟨b1, b2, b3, b4, b5⟩ := gvL_ints h
  refine ⟨b1, b3, ?_, by show PyData.depthAll (pyL ds) + 1 ≤ 60; omega⟩
  have q := PyData.shown_le 60 (by decide) (py (.tup ds)) (PyData.leavesShort_of_canLay0 60 _ (plain_lay (.tup ds) b1) b2)
  have w : (py (.tup ds)).weight ≤ 2200 := by show PyData.weightAll (pyL ds) ≤ 2200; omega
  have w2 : 62 * (py (.tup ds)).weight ≤ 62 * 2200 := Nat.mul_le_mul_left _ w
  rw [sizeLine_eq]
  omega
end DL
namespace DL
open PySem L2
theorem mk_x {K : PySem.W.Frag} {δ : List SK} {μ : Mu} {Q : SK → Mu → Prop} {tr tk : TA} {n m N : Nat} {C : Addr} {ix : List Nat} {Cn : List Da → (List (Str × Da) → Prop) → Prop} (hN : ix.length = N) (hix : N ≤ 100) (h : RA K tr δ μ fun rs μ1 => ∃ ds, unD rs = some ds ∧ ds.length = n ∧ RA K tk δ μ1 fun rs2 μ2 => ∃ es, unD rs2 = some es ∧ es.length = m ∧ (pick ix (ds ++ es)).length = ix.length ∧ Cn (pick ix (ds ++ es)) fun fs => Q (.dat (.exc C fs)) μ2) :
    RD K (tMkX C n m ix (spX K N C Cn) tr tk) δ μ Q := by
  subst hN
  exact rd_mkx hix h
end DL
namespace DL
open PySem L2 PySem.Spec PyProof.Rows
/-! ### the end: a law whose def keeps a promise from the script to True -/
def cScr : CA := fun ds R => ∃ ns : List Int, ds = [.scr ns] ∧ R (.bl true)
/-- what is tracked when the law begins: the script, or nothing where it is the module's own -/
theorem seen {P : Program} {w : World} {K : PySem.W.Frag} {a : Addr} {s : Shared} {vs : List Value} {ns : List Int} (kin : K.In s.heap) (at_ : s.heap.get? a = some { cls := .type "list", data := .seq vs.toArray }) (whole : IntsAre vs ns) (len : ns.length ≤ sizeLine) :
    ∃ H : Hp, SqL K H a (ns.map V.int) ∧ HOk P w H s.heap ∧ ∀ b u, H b = some u → b = a ∧ K.lookup a = none ∧ ∃ o xs, u = .frz o (.lst xs) := by
  have rel := vals_ints whole
  cases look : K.lookup a with
  | some o =>
    have e := kin a o look
    rw [at_] at e
    cases e
    exact ⟨fun _ => none, Or.inr ⟨_, vs.toArray, _, look, rfl, rfl, rfl, by rw [List.size_toArray, whole.length]; exact len, by simpa using rel⟩, (fun b u z => nomatch (show (none : Option HO) = some u from z)), (fun b u z => nomatch (show (none : Option HO) = some u from z))⟩
  | none =>
    have key : ∀ b u, (fun c : Addr => if c = a then some (HO.frz { cls := .type "list", data := .seq vs.toArray } (.lst (ns.map V.int))) else none) b = some u → b = a ∧ u = HO.frz { cls := .type "list", data := .seq vs.toArray } (.lst (ns.map V.int)) := by
      intro b u z
      by_cases hb : b = a
      · exact ⟨hb, (Option.some.inj ((if_pos hb).symm.trans z)).symm⟩
      · exact nomatch (if_neg hb).symm.trans z
    refine ⟨fun c => if c = a then some (.frz { cls := .type "list", data := .seq vs.toArray } (.lst (ns.map V.int))) else none, Or.inl (Or.inr ⟨{ cls := .type "list", data := .seq vs.toArray }, if_pos rfl⟩), fun b u z => ?_, fun b u z => ?_⟩
    · obtain ⟨rfl, rfl⟩ := key b u z
      exact ⟨at_, by rw [List.length_map]; exact len, vs, _, rel, at_⟩
    · obtain ⟨rfl, rfl⟩ := key b u z
      exact ⟨rfl, rfl, _, _, rfl⟩
theorem law_g {P : Program} {w : World} {K : PySem.W.Frag} {mg mb : Str → Option Value} {k : Nat} {fa a : Addr} {fd : FuncData} {x : Str} {s : Shared} {vs : List Value} {ns : List Int} (kin : K.In s.heap) (gl : s.heap.Ns mainGlobals mg) (bl : s.heap.Ns builtinsNs mb)
    (boot : ∀ x : Str, x ≠ "__name__" → mb x = bootBuiltins x) (lim : s.heap.NoLimit) (gens : s.gens = #[]) (at_ : s.heap.get? a = some { cls := .type "list", data := .seq vs.toArray }) (whole : IntsAre vs ns) (len : ns.length ≤ sizeLine) (room : RmG k callerA)
    (F : ∀ base : Heap, K.In base → base.Ns mainGlobals mg → FnG P w K mg base CX0 k fa fd [x] (spA K 1 cScr)) (bind : ∀ (s : Shared) (u : Value), BindsTo s fd ⟨[u], []⟩ [(x, u)]) :
    codeAny (model P w) callerA (.call (.ref fa) ⟨[.ref a], []⟩) (fun r s' => r = .ok (.ret (.bool true)) ∧ OldK s.heap s'.heap ∧ s'.os = s.os ∧ AllBare s'.gens) s := by
  obtain ⟨H, hS, hok, hH⟩ := seen (P := P) (w := w) kin at_ whole len
  -- what is not tracked stays in the base
  have free : ∀ {b : Addr} {o : Obj}, s.heap.get? b = some o → H b = none → (hidT s.heap H).get? b = some o := fun e n => hidT_get e n
  have bare : ∀ {b : Addr} {o : Obj} {es : Array DictEntry} {ep : Nat}, s.heap.get? b = some o → o.data = .dict es ep → H b = none := by
    intro b o es ep e d
    cases q : H b with
    | none => rfl
    | some u =>
      obtain ⟨rfl, _⟩ := hH b u q
      rw [at_] at e
      cases e
      have d' : Data.seq vs.toArray _ = Data.dict es ep := d
      cases d'
  have ns' : ∀ {b : Addr} {m : Str → Option Value}, s.heap.Ns b m → (hidT s.heap H).Ns b m := by
    rintro b m ⟨o, es, ep, e, d, r⟩
    exact ⟨o, es, ep, free e (bare e d), d, r⟩
  have kb : K.In (hidT s.heap H) := by
    intro b o e
    refine free (kin b o e) ?_
    cases q : H b with
    | none => rfl
    | some u =>
      obtain ⟨rfl, no, _⟩ := hH b u q
      rw [no] at e
      cases e
  have md : Mod K mg (hidT s.heap H) := by
    refine ⟨kb, ns' gl, ⟨mb, ns' bl, boot⟩, ?_⟩
    obtain ⟨mc, h1, h2⟩ := lim
    exact ⟨mc, ns' h1, h2⟩
  have env : Env0 P w K mg (hidT s.heap H) callerA [] s H := by
    refine ⟨rfl, md, ?_, Nat.le_of_eq (hidT_size _ _), trivial, ?_, hok, AllBare.of_eq gens⟩
    · exact fun b o e => of_hidT e
    · intro b hb
      exact nomatch hb
  have pr : spA K 1 cScr [.ref a] H (fun v _ => v = .bl true) fun _ _ _ => False := by
    refine ⟨rfl, H, [.scr ns], fun d => d = .bl true, Ex.refl H, .cons (Rep.scr hS) .nil, ⟨ns, rfl, rfl⟩, ?_⟩
    intro v I' H' d _ _ rv ed
    subst ed
    cases rv
    rfl
  refine codeAny_mono ((F _ kb (ns' gl)).go callerA [] s H ⟨[.ref a], []⟩ [.ref a] [.ref a] _ _ room env (bind s (.ref a)) (.cons rfl .nil) pr) ?_
  intro r s' h
  match r, h with
  | .error e, h => exact h.elim
  | .ok .next, h => exact h.elim
  | .ok .brk, h => exact h.elim
  | .ok .cont, h => exact h.elim
  | .ok (.ret u), h =>
    obtain ⟨v, H', os, bg, un, _, rv, ev⟩ := h
    have ev' : v = .bl true := ev
    subst ev'
    obtain rfl : u = Value.bool true := rv
    refine ⟨rfl, ?_, os, bg⟩
    refine OldK.of_keep fun b o e => ?_
    cases q : H b with
    | none =>
      refine un.keep b o e q ?_ ?_
      · intro z
        exact nomatch (show b ∈ ([] : List Addr) from z)
      · simp
    | some y =>
      obtain ⟨rfl, _, ob, xs, rfl⟩ := hH b y q
      have z2 := un.frzs b ob _ q
      obtain ⟨e1, _⟩ := hok b _ q
      obtain ⟨e2, _⟩ := (by assumption : HOk P w H' s'.heap) b _ z2
      rw [e] at e1
      cases e1
      exact e2
theorem walk_g {l : PySem.W.OpenLaw} {n k : Nat} {q : Program} {loose : List Str} {XP : (Str → Option Value) → Heap → Prop} {YP : World → Heap → Prop} {d : DefRec} {K : Params → PySem.W.Frag} {x : Str}
    (most : l.most = some n) (small : n ≤ sizeLine) (nod : d.params.defaults = []) (room : RmG k callerA) (kin : ∀ (w : World) (h : Heap), YP w h → (K w.params).In h)
    (F : ∀ (w : World) (mg : Str → Option Value) (fa : Addr) (h : Heap), (K w.params).In h → h.Ns mainGlobals mg → mg d.name = some (.ref fa) → ∃ fd : FuncData, (∀ (s : Shared) (u : Value), BindsTo s fd ⟨[u], []⟩ [(x, u)]) ∧
        ∀ base : Heap, (K w.params).In base → base.Ns mainGlobals mg → FnG l.prog w (K w.params) mg base CX0 k fa fd [x] (spA (K w.params) 1 cScr)) :
    PySem.W.WalkO q loose XP YP l.row.toRowW d [] (fun f vs => PySem.call f vs) := by
  refine Att.attach_call most nod ?_
  intro w s0 s1 mg mb fa o pm cd doc a vs ns G Y ho hd hcd hmg hobj hints hlen hg
  have kx := kin w _ Y
  obtain ⟨fd, hb, hF⟩ := F w mg fa _ kx G.T.g hmg
  exact law_g kx G.T.g G.T.b G.T.builtins G.T.nolimit hg hobj hints (Nat.le_trans hlen small) room hF hb
end DL
namespace DL
open PySem L2 PySem.Spec PyProof.Rows
/-! ### what stands behind the top -/
section
variable {K : PySem.W.Frag} {h : Heap} {mg : Str → Option Value} {x qual : Str} {st : Stmt} {ps : List Str} {f C O : Addr} {oc kV doc pm cd ct : Value} {od an : Option Addr} {sl : Array (Option Value)}
theorem mk_def (X : K.In h) (G : h.Ns mainGlobals mg) (a : PySem.W.nsIn K mainGlobals x = some (some (.ref f)))
    (l : K.lookup f = some ⟨oc, od, .func (PySem.W.fnOf x x (defArgs st) (defBody st) (defScope st) .none kV doc pm an cd ct), sl⟩) (c : PySem.W.codeIn K cd x = true) (k : PySem.W.keepIn K (.ref f) = true)
    (b : ∀ (kV doc pm : Value) (an : Option Addr) (cdv ct : Value) (us : List Value), us.length = ps.length → bindArgs (PySem.W.fnOf x x (defArgs st) (defBody st) (defScope st) .none kV doc pm an cdv ct) ⟨us, []⟩ = pure (ps.zip us)) : DefAt K mg x st ps :=
  ⟨f, _, fun_mk l c k, PySem.W.mg_of X G a, .all (b kV doc pm an cd ct)⟩
theorem mk_law (X : K.In h) (G : h.Ns mainGlobals mg) (hfa : mg x = some (.ref C)) (a : PySem.W.nsIn K mainGlobals x = some (some (.ref f)))
    (l : K.lookup f = some ⟨oc, od, .func (PySem.W.fnOf x x (defArgs st) (defBody st) (defScope st) .none kV doc pm an cd ct), sl⟩) (c : PySem.W.codeIn K cd x = true) (k : PySem.W.keepIn K (.ref f) = true) :
    Fun K x x st C (PySem.W.fnOf x x (defArgs st) (defBody st) (defScope st) .none kV doc pm an cd ct) := by
  have e := hfa.symm.trans (PySem.W.mg_of X G a)
  cases e
  exact fun_mk l c k
theorem mk_none (X : K.In h) (G : h.Ns mainGlobals mg) (e : PySem.W.nsIn K mainGlobals x = some none) : mg x = none := PySem.W.mg_none_of X G e
theorem mk_some (X : K.In h) (G : h.Ns mainGlobals mg) (e : PySem.W.nsIn K mainGlobals x = some (some (.ref C))) : mg x = some (.ref C) := PySem.W.mg_of X G e
theorem mk_na (X : K.In h) (e : PySem.W.findIn K (.ref C) x = some none) : PySem.W.findIn K (.ref C) x = some none := e
abbrev veBm (O : Addr) : List Value := [.ref O, .type "ValueError", .type "Exception", .type "BaseException", .type "object"]
theorem mk_xcls {nm q : Str} {N : Addr} {bs : List Value} {sn : List Str} {sub : List Value} {ab : Bool} {col : Option Bool} {dd : Option Addr} {k0 k1 k2 k3 k5 : Option Value} (X : K.In h) (l : K.lookup C = some (excClassObj nm q C N bs (veBm O) true sn sub ab col dd k0 k1 k2 k3 k5 "ValueError.__new__"))
    (sa : PySem.W.findIn K (.ref C) "__setattr__" = some (some (.builtin "object.__setattr__"))) (kc : PySem.W.keepIn K (.ref C) = true)
    (ga : PySem.W.findIn K (.ref C) "__getattribute__" = some (some (.builtin "BaseException.__getattribute__"))) (gt : PySem.W.findIn K (.ref C) "__getattr__" = some none) (ca : PySem.W.findIn K (.ref C) "__class__" = some (some (.builtin "object.__class__")))
    (ng : PySem.W.specialIn K (.builtin "object.__class__") "__get__" = some (some (.builtin "getset_descriptor.__get__"))) (tk : PySem.W.takesIn K (.builtin "object.__class__") = some true) : XCls K O C := by
  have hc : PySem.W.clsIn K C = some { name := nm, bases := bs, mro := .ref C :: veBm O, ns := N, qualname := q, hasDict := true, slotNames := sn, subclasses := sub, abstract := ab, collection := col, hasDel := false } := by
    unfold PySem.W.clsIn
    rw [l]
  have mr : ∀ v : Value, PySem.W.mroIn K C v = some ((Value.ref C :: veBm O).contains v) := fun v => by
    unfold PySem.W.mroIn
    rw [hc, Option.bind_some, if_neg (by simp)]
  have ty : PySem.W.typeIn K (.ref C) = some (.type "type") := by
    show (K.lookup C).map (·.cls) = _
    rw [l]; rfl
  have e1 : (Value.ref C :: veBm O).contains (.type "BaseException") = true := by simp
  have e2 : (Value.ref C :: veBm O).contains (.type "object") = true := by simp
  refine ⟨⟨⟨nm, q, N, bs, veBm O, sn, sub, ab, col, dd, k0, k1, k2, k3, k5, l, ?_⟩, sa, ?_, ty, kc⟩, by rw [hc]; rfl, ?_, ga, gt, ca, ng, tk, by rw [mr, e2], _, hc, rfl⟩
  · show ((veBm O).tail == PySem.HandSPX.veTail) = true
    exact beq_self_eq_true _
  · show PySem.W.mroIn K C (.type "BaseException") = _
    rw [mr, e1]
  · unfold PySem.W.hasDictIn
    rw [hc]; rfl
theorem mk_xat (X : K.In h) (G : h.Ns mainGlobals mg) (xc : XCls K O C) (a : PySem.W.nsIn K mainGlobals x = some (some (.ref C))) (i : PySem.W.findIn K (.ref C) "__init__" = some (some (.ref f))) (t : PySem.W.typeIn K (.ref f) = some (.type "function"))
    (l : K.lookup f = some ⟨oc, od, .func (PySem.W.fnOf "__init__" qual (defArgs st) (defBody st) (defScope st) .none kV doc pm an cd ct), sl⟩) (c : PySem.W.codeIn K cd qual = true) (k : PySem.W.keepIn K (.ref f) = true) : XAt K mg x C qual st :=
  ⟨f, _, fun_mk l c k, xc.ox, i, t, PySem.W.mg_of X G a⟩
theorem allQ {α : Type} {P : α → Prop} {y : α} {l : List α} (h : P y) (t : ∀ x ∈ l, P x) : ∀ x ∈ y :: l, P x := fun x hx => by
  rcases List.mem_cons.mp hx with z | z
  · rw [z]; exact h
  · exact t x z
theorem allQn {α : Type} {P : α → Prop} : ∀ x ∈ ([] : List α), P x := fun _ h => nomatch h
end
end DL
namespace DL
open PySem L2 PySem.Spec PyProof.Rows
section
variable {K : PySem.W.Frag} {h : Heap} {C : Addr} {bm : List Value} {z : String}
theorem mk_sp (X : K.In h) (e : PySem.W.specialIn K (.builtin "object.__class__") "__get__" = some (some (.builtin "getset_descriptor.__get__"))) : PySem.W.specialIn K (.builtin "object.__class__") "__get__" = some (some (.builtin "getset_descriptor.__get__")) := e
theorem mk_tk (X : K.In h) (e : PySem.W.takesIn K (.builtin "object.__class__") = some true) : PySem.W.takesIn K (.builtin "object.__class__") = some true := e
theorem mk_oc (X : K.In h) (e : PySem.W.isClsIn K C = true) : (PySem.W.clsIn K C).isSome = true := e
theorem mk_ot (X : K.In h) (e : PySem.W.typeIn K (.ref C) = some (.type "type")) : PySem.W.typeIn K (.ref C) = some (.type "type") := e
theorem mk_kp (X : K.In h) (e : PySem.W.keepIn K (.ref C) = true) : PySem.W.keepIn K (.ref C) = true := e
theorem mk_ex (X : K.In h) (e : PySem.W.excIn K C bm z = true) : PySem.W.excIn K C bm z = true := e
end
end DL
namespace DL
open PySem L2 PySem.Spec PyProof.Rows
theorem mk_fin {P : Program} {w : World} {K : PySem.W.Frag} {mg : Str → Option Value} {k : Nat} {f : Addr} {fd : FuncData} {x y : Str} {st : Stmt} (F : Fun K x x st f fd) (hb : ∀ (s : Shared) (u : Value), BindsTo s fd ⟨[u], []⟩ [(y, u)])
    (h : ∀ base : Heap, K.In base → base.Ns mainGlobals mg → FnG P w K mg base CX0 k f fd [y] (spA K 1 cScr)) : ∃ fd : FuncData, (∀ (s : Shared) (u : Value), BindsTo s fd ⟨[u], []⟩ [(y, u)]) ∧ ∀ base : Heap, K.In base → base.Ns mainGlobals mg → FnG P w K mg base CX0 k f fd [y] (spA K 1 cScr) := ⟨fd, hb, h⟩
end DL
namespace DL
open PySem L2
open PyProof.Rows (envOfC)
theorem powB_ok {i j : Int} {a : Nat} (h : i.natAbs < 2 ^ a) (hj : (a : Int) * j ≤ 2 ^ 27 := by decide) (h0 : 0 ≤ j := by decide) : (Builtin.Int.intBits i : Int) * j ≤ 2 ^ 27 := by
  have hb : Builtin.Int.intBits i ≤ a := by
    unfold Builtin.Int.intBits
    split
    · omega
    · rename_i hz
      have hi : i.natAbs ≠ 0 := by
        intro z
        apply hz
        simp only [Int.natAbs_eq_zero] at z
        simp [z]
      have := (Nat.log2_lt hi).mpr h
      omega
  exact Int.le_trans (Int.mul_le_mul_of_nonneg_right (by omega) h0) hj
theorem RmG.u65 {k : Nat} {A : Around} (h : RmG k A) : A.units + 65 < cLine := by
  have := h.r.un
  omega
/-- a side condition -/
local macro_rules | `(tactic| walk_at "side") => `(tactic| first | rfl | assumption | omega | decide | (simp only [Str.length]; omega))
/-- one step of a reading -/
local macro_rules | `(tactic| walk_at "dl1") => `(tactic| with_reducible first
  | refine rs_seq ?_
  | refine rs_set ?_
  | refine rs_ret ?_
  | refine rs_retN ?_
  | refine rs_next ?_
  | refine rs_if ?_
  | refine rs_par ?_
  | refine rs_par3 ?_
  | refine rd_int ?_
  | refine rd_str ?_
  | refine rd_bl ?_
  | refine rd_non ?_
  | refine rd_ty ?_
  | refine rd_cls ?_
  | refine rd_op ?_
  | refine rd_cb ?_
  | refine rd_if ?_
  | refine rd_neg ?_
  | refine rd_chain ?_
  | refine rd_andV ?_
  | refine rd_orV ?_
  | refine rd_notV ?_
  | refine ra_cons ?_
  | refine ra_nil ?_
  | refine rt_test ?_
  | refine rt_yes ?_
  | refine rt_b ?_
  | refine rt_and ?_
  | refine rt_or ?_
  | refine rt_not ?_
  | refine rg_name ?_
  | refine rgs_nil ?_
  | refine rgs_cons ?_
  | refine call_a ?_
  | refine call_p ?_
  | refine call_n ?_
  | refine tup_d ?_
  | refine mk_x rfl (Nat.le_of_ble_eq_true rfl) ?_
  | refine rd_mk0 ?_
  | refine meth_a ?_
  | refine make_a ?_
  | refine rd_join ?_
  | refine rd_split ?_
  | refine add_i ?_
  | refine sub_i ?_
  | refine mod_i (by walk_at "side") ?_
  | refine lt_i ?_
  | refine le_i ?_
  | refine gt_i ?_
  | refine ge_i ?_
  | refine eq_i ?_
  | refine ne_i ?_
  | refine eq_s ?_
  | refine ne_s ?_
  | refine eq_sn ?_
  | refine eq_ns ?_
  | refine eq_nn ?_
  | refine ne_sn ?_
  | refine ne_ns ?_
  | refine ne_nn ?_
  | refine eq_b ?_
  | refine ne_b ?_
  | refine is_n ?_
  | refine not_n ?_
  | refine in_dct ?_
  | refine nin_dct ?_
  | refine int_i ?_
  | refine abs_i ?_
  | refine max_i ?_
  | refine min_i ?_
  | refine len_t ?_
  | refine len_d ?_
  | refine len_scr ?_
  | refine len_l (IsL.dat _) ?_
  | refine str_s ?_)
/-- names, by their slots -/
local macro_rules | `(tactic| walk_at "dlv") => `(tactic| first
  | refine rd_varD (i := _) rfl ?_
  | refine rd_varO (i := _) rfl ?_)
/-- at the entry: the slots written out -/
local macro_rules | `(tactic| walk_at "dl0") => `(tactic| (dsimp only [cxOf, Cx.nox, Cx.wish]; simp only [startD, dats, List.map_cons, List.map_nil, List.cons_append, List.nil_append, List.length_cons, List.length_nil, Nat.reduceAdd, Nat.reduceSub, List.replicate_succ, List.replicate_zero, List.replicate]))
/-- what a rule asks besides, where it is plain -/
local macro_rules | `(tactic| walk_at "dlx") => `(tactic| first
  | refine ⟨(fun (hz : false = true) => nomatch hz), fun _ => ?_⟩
  | refine ⟨fun _ => ?_, fun (hz : true = false) => nomatch hz⟩
  | refine ⟨Nat.le_of_ble_eq_true rfl, ?_⟩
  | (with_reducible refine ⟨_, rfl, ?_⟩)
  | refine ⟨_, rfl, rfl, ?_⟩
  | refine ⟨_, rfl, Nat.le_of_ble_eq_true rfl, ?_⟩
  | (with_reducible refine ⟨_, _, rfl, ?_⟩)
  | (with_reducible refine ⟨_, _, _, rfl, ?_⟩)
  | refine ⟨_, _, _, 0, _, _, rfl, rfl, rfl, rfl, ?_⟩
  | refine ⟨_, _, _, 1, _, _, rfl, rfl, rfl, rfl, ?_⟩
  | refine ⟨_, _, _, 2, _, _, rfl, rfl, rfl, rfl, ?_⟩
  | refine ⟨_, _, _, 3, _, _, rfl, rfl, rfl, rfl, ?_⟩)
/-- as far as it goes by itself -/
local macro_rules | `(tactic| walk_at "dl") => `(tactic| (repeat (first | walk_at "dl1" | walk_at "dlv" | walk_at "dlx"); try dsimp only [wipeD, List.set_cons_zero, List.set_cons_succ]))
local macro_rules | `(tactic| walk_at "dlk") => `(tactic| (repeat (first | walk_at "dl1" | walk_at "dlv" | (with_reducible refine lst_d ?_) | (with_reducible refine rd_fldx ?_) | (refine add_l (IsL.dat _) (IsL.dat _) (Nat.le_of_ble_eq_true rfl) ?_) | (refine ⟨_, _, _, rfl, by assumption, by assumption, rfl, ?_⟩) | (refine ⟨rfl, rfl, _, rfl, by assumption, ?_⟩) | (refine ⟨rfl, rfl, _, _, rfl, by assumption, by assumption, ?_⟩) | (refine ⟨rfl, rfl, _, _, _, rfl, by assumption, by assumption, by assumption, ?_⟩) | (refine ⟨_, rfl, rfl, rfl, _, rfl, by assumption, ?_⟩) | (refine ⟨_, rfl, rfl, rfl, _, _, rfl, by assumption, by assumption, ?_⟩) | (refine ⟨_, rfl, rfl, rfl, _, _, _, rfl, by assumption, by assumption, by assumption, ?_⟩) | (refine ⟨(rfl : List.length _ = _), ?_⟩) | walk_at "dlx"); try dsimp only [wipeD, List.set_cons_zero, List.set_cons_succ]))
def topR (i : Nat) : Stmt := PySem.Challenge.pw_owedrebuilds_k01_errors_made.main.body.getD i (.Pass ⟨0, 0, 0, 0⟩)
/-- a draw: some number below many -/
def cDraw : CP := fun ds c R => ∃ m : Int, ds = [.int m] ∧ 1 ≤ m ∧ m < 2 ^ 200 ∧ c < 2 ^ 60 ∧ ∀ n : Int, 0 ≤ n → n < m → R (.int n) (c + 1)
abbrev st__law_draw : Stmt := topR 29
abbrev N__law_draw : List Str := ["_law_pool_here", "_law_many", "_law_digit", "_law_step", "_law_mixed"]
theorem sc__law_draw : FnScope N__law_draw ["_law_pool_here", "_law_many"] (defScope st__law_draw) := ⟨rfl, rfl, rfl, by decide +kernel, rfl, by decide +kernel, by decide +kernel⟩
abbrev sp__law_draw (K : PySem.W.Frag) : Sp := spP K 1 cDraw
theorem ok__law_draw {P : Program} {w : World} {K : PySem.W.Frag} {mg : Str → Option Value} {base : Heap} (d : DefAt K mg "_law_draw" st__law_draw ["_law_pool_here", "_law_many"]) (n_int : mg "int" = none)  : CalG P w K mg base CX0 1 "_law_draw" (sp__law_draw K) := by
  refine DefAt.cal d fun {f fd} F => fn_P (n := 1) F sc__law_draw rfl fun cdv A outer s H E hr => ?_
  have hu := hr.r.units
  have hv := hr.u65
  refine ⟨_, (pss_cons (ps_if (pt_cmpR opGT (pe_ix (ixANY hu) (pv 0) pe_int (fun _ _ => rfl)) pe_int (nomark _)) (pss_cons (ps_set (i := 2) sc__law_draw.nd rfl (Or.inl rfl) (pe_op opMOD (pe_callTy cINT rfl n_int (by decide +kernel) (pa_cons (pe_ix (ixANY hu) (pv 0) pe_int (fun _ _ => rfl)) pa_nil)) (pv 1)))
      (pss_cons (ps_asg (pe_op opFDV (pe_ix (ixANY hu) (pv 0) pe_int (fun _ _ => rfl)) (pv 1)) (pg_sub (pv 0) pe_int set_list))
      (pss_one (ps_ret (pv 2))))) pss_nil)
      (pss_cons (ps_asg (pe_op opADD (pe_ix (ixANY hu) (pv 0) pe_int (fun _ _ => rfl)) pe_int) (pg_sub (pv 0) pe_int set_list))
      (pss_cons (ps_set (i := 3) sc__law_draw.nd rfl (Or.inl rfl) (pe_op opADD (pe_ix (ixANY hu) (pv 0) pe_int (fun _ _ => rfl)) (pe_op opMUL pe_int (pe_ix (ixANY hu) (pv 0) pe_int (fun _ _ => rfl)))))
      (pss_cons (ps_set (i := 4) sc__law_draw.nd rfl (Or.inl rfl) (pe_op opMOD (pe_callTy cINT rfl n_int (by decide +kernel) (pa_cons (pe_op opADD (pe_op opPOW (pv 3) pe_int) (pe_ix (ixANY hu) (pv 0) pe_int (fun _ _ => rfl))) pa_nil)) pe_int))
      (pss_cons (ps_set (i := 4) sc__law_draw.nd rfl (Or.inl rfl) (pe_op opMOD (pe_callTy cINT rfl n_int (by decide +kernel) (pa_cons (pe_op opPOW (pe_op opADD (pv 4) (pe_op opMUL pe_int (pe_ix (ixANY hu) (pv 0) pe_int (fun _ _ => rfl)))) pe_int) pa_nil)) pe_int))
      (pss_one (ps_ret (pe_op opMOD (pe_callTy cINT rfl n_int (by decide +kernel) (pa_cons (pe_op opFDV (pv 4) pe_int) pa_nil)) (pv 1))))))))), ?_⟩
  rintro p ds c R hl ⟨m, rfl, h1, h2, hc, hR⟩
  walk_at "dl0"
  walk_at "dl"
  refine ix_p0 (i := 0) rfl fun d0 hd0 => ?_
  walk_at "dl"
  refine ⟨fun hb => ?_, fun hb => ?_⟩
  · walk_at "dl"
    refine ix_p0 (i := 0) rfl fun d1 hd1 => ?_
    walk_at "dl"
    refine rs_p0 (c + 1) (a := p) (j := 0) (c := c) (fl := false) ?_
    walk_at "dl"
    refine ix_p0 (i := 0) rfl fun d2 hd2 => ?_
    walk_at "dl"
    refine fdv_i (wide_div (b := 200) (by omega) (by omega) (by decide) (by decide)) ?_
    refine ⟨_, rfl, Int.ediv_nonneg hd2 (by omega), by omega, rfl, rfl, ?_⟩
    walk_at "dl"
    exact ⟨_, 0, c + 1, c + 1, rfl, rfl, Nat.le_refl _, hR _ (Int.emod_nonneg _ (by omega)) (Int.emod_lt_of_pos _ (by omega))⟩
  · walk_at "dl"
    refine rs_p2 (c + 1) (a := p) (j := 0) (c := c) (fl := false) ?_
    walk_at "dl"
    refine ix_p2 (i := 0) rfl fun k0 hk0 hk1 => ?_
    walk_at "dl"
    refine ⟨by omega, by omega, rfl, rfl, ?_⟩
    walk_at "dl"
    refine ix_p1 (i := 0) rfl fun m1 hm1 hm2 => ?_
    walk_at "dl"
    refine ix_p2 (i := 0) rfl fun k1 hk2 hk3 => ?_
    refine mul_i (mulx_ok (a := 40) (b := 70) (by decide) (by omega) (by decide)) ?_
    walk_at "dl"
    have b1 : (m1 + 982451653 * k1).natAbs < 2 ^ 100 := by omega
    refine pow_i ⟨by decide, powB_ok b1 (by decide)⟩ ?_
    walk_at "dl"
    refine ix_p2 (i := 0) rfl fun k2 hk4 hk5 => ?_
    walk_at "dl"
    refine ix_p2 (i := 0) rfl fun k3 hk6 hk7 => ?_
    refine mul_i (mulx_ok (a := 40) (b := 70) (by decide) (by omega) (by decide)) ?_
    walk_at "dl"
    generalize hz : (((m1 + 982451653 * k1) ^ Int.toNat 3 + k2) % 162259276829213363391578010288127 : Int) = z
    have z0 : 0 ≤ z := by rw [← hz]; exact Int.emod_nonneg _ (by decide)
    have z1 : z < 162259276829213363391578010288127 := by rw [← hz]; exact Int.emod_lt_of_pos _ (by decide)
    have b2 : (z + 32452867 * k3).natAbs < 2 ^ 110 := by omega
    refine pow_i ⟨by decide, powB_ok b2 (by decide)⟩ ?_
    walk_at "dl"
    refine fdv_i (wide_div (b := 20) (by decide) (by decide) (by decide) (by decide)) ?_
    walk_at "dl"
    exact ⟨_, 0, c + 1, c + 1, rfl, rfl, Nat.le_refl _, hR _ (Int.emod_nonneg _ (by omega)) (Int.emod_lt_of_pos _ (by omega))⟩

def cPool : List Da → Prop := fun ds => ∃ (ns : List Int) (i : Int), ds = [.scr ns, .int i] ∧ 0 ≤ i ∧ i ≤ 100
theorem atI_some {α : Type} {xs : List α} {i : Int} (h0 : 0 ≤ i) (h1 : i < xs.length) : ∃ x, atI xs i = some x ∧ x ∈ xs := by
  have hj : ixN xs.length i = some i.toNat := by
    unfold ixN
    simp only [h0, if_true]
    first
      | (rw [if_pos (by omega)])
      | (split <;> first | rfl | omega)
  unfold atI
  rw [hj]
  have hl : i.toNat < xs.length := by omega
  exact ⟨xs[i.toNat], by simp [hl], List.getElem_mem hl⟩
abbrev st__law_pool : Stmt := topR 28
abbrev N__law_pool : List Str := ["_law_script", "_law_place", "_law_number", "_law_digits"]
theorem sc__law_pool : FnScope N__law_pool ["_law_script", "_law_place"] (defScope st__law_pool) := ⟨rfl, rfl, rfl, by decide +kernel, rfl, by decide +kernel, by decide +kernel⟩
abbrev sp__law_pool (K : PySem.W.Frag) : Sp := spN K 2 cPool
theorem ok__law_pool {P : Program} {w : World} {K : PySem.W.Frag} {mg : Str → Option Value} {base : Heap} (d : DefAt K mg "_law_pool" st__law_pool ["_law_script", "_law_place"]) (n_abs : mg "abs" = none) (n_int : mg "int" = none) (n_len : mg "len" = none)  : CalG P w K mg base CX0 1 "_law_pool" (sp__law_pool K) := by
  refine DefAt.cal d fun {f fd} F => fn_N (n := 2) F sc__law_pool rfl fun cdv A outer s H E hr => ?_
  have hu := hr.r.units
  have hv := hr.u65
  refine ⟨_, (pss_cons (ps_set (i := 2) sc__law_pool.nd rfl (Or.inl rfl) (pe_ifExp (pt_cmpR opLT (pv 1) (pe_callB cLEN rfl n_len (by decide +kernel) (pa_cons (pv 0) pa_nil)) (nomark _)) (pe_ix (ixANY hu) (pv 0) (pv 1) (fun _ _ => rfl)) pe_int))
      (pss_cons (ps_set (i := 3) sc__law_pool.nd rfl (Or.inl rfl) (pe_ifExp (pt_cmpR opGE (pe_callB cABS rfl n_abs (by decide +kernel) (pa_cons (pv 2) pa_nil)) (pe_op opPOW pe_int pe_int) (nomark _)) (pe_callB cABS rfl n_abs (by decide +kernel) (pa_cons (pv 2) pa_nil)) pe_int))
      (pss_one (ps_ret (pe_lst (pa_cons (pv 3) (pa_cons (pe_op opADD (pe_op opADD (pe_op opMUL (pe_op opMOD (pe_callTy cINT rfl n_int (by decide +kernel) (pa_cons (pv 2) pa_nil)) pe_int) pe_int) (pe_op opMUL pe_int (pv 1))) pe_int) (pa_cons pe_int pa_nil)))))))), ?_⟩
  rintro ds hl ⟨ns, i, rfl, h0, h1⟩
  walk_at "dl0"
  walk_at "dl"
  refine ⟨fun hb => ?_, fun hb => ?_⟩
  · have hb' : i < (ns.length : Int) := by simpa using hb
    walk_at "dl"
    obtain ⟨n, hn, -⟩ := atI_some h0 hb'
    refine ix_scr hn ?_
    clear hn
    walk_at "dl"
    refine pow_i ⟨by decide, powB_ok (a := 4) (by decide) (by decide)⟩ ?_
    walk_at "dl"
    refine ⟨fun hc => ?_, fun hc => ?_⟩
    all_goals (
      walk_at "dl"
      refine lst_p ?_
      walk_at "dl"
      generalize hz : (n : Int) % 618970019642690137449562111 = z
      have z0 : 0 ≤ z := by rw [← hz]; exact Int.emod_nonneg _ (by decide)
      have z1 : z < 618970019642690137449562111 := by rw [← hz]; exact Int.emod_lt_of_pos _ (by decide)
      refine mul_i (mulx_ok (a := 100) (b := 10) (by omega) (by decide) (by decide)) ?_
      walk_at "dl"
      refine mul_i (mulx_ok (a := 20) (b := 20) (by decide) (by omega) (by decide)) ?_
      walk_at "dl"
      refine ⟨?_, by omega, by omega, fun a => ⟨a, 0, rfl, rfl⟩⟩
      first
        | decide
        | (split <;> omega))
  · walk_at "dl"
    refine pow_i ⟨by decide, powB_ok (a := 4) (by decide) (by decide)⟩ ?_
    walk_at "dl"
    refine lst_p ?_
    walk_at "dl"
    generalize hz : (0 : Int) % 618970019642690137449562111 = z
    have z0 : 0 ≤ z := by rw [← hz]; exact Int.emod_nonneg _ (by decide)
    have z1 : z < 618970019642690137449562111 := by rw [← hz]; exact Int.emod_lt_of_pos _ (by decide)
    refine mul_i (mulx_ok (a := 100) (b := 10) (by omega) (by decide) (by decide)) ?_
    walk_at "dl"
    refine mul_i (mulx_ok (a := 20) (b := 20) (by decide) (by omega) (by decide)) ?_
    walk_at "dl"
    refine ⟨by decide, by omega, by omega, fun a => ⟨a, 0, rfl, rfl⟩⟩

/-- one of a list -/
def cOf : CP := fun ds c R => ∃ l : List Da, ds = [.lst l] ∧ l ≠ [] ∧ l.length ≤ 1000 ∧ c < 2 ^ 60 ∧ ∀ d ∈ l, R d (c + 1)
abbrev st__law_of : Stmt := topR 30
abbrev N__law_of : List Str := ["_law_pool_here", "_law_some"]
theorem sc__law_of : FnScope N__law_of ["_law_pool_here", "_law_some"] (defScope st__law_of) := ⟨rfl, rfl, rfl, by decide +kernel, rfl, by decide +kernel, by decide +kernel⟩
abbrev sp__law_of (K : PySem.W.Frag) : Sp := spP K 1 cOf
theorem ok__law_of {P : Program} {w : World} {K : PySem.W.Frag} {mg : Str → Option Value} {base : Heap} (d : DefAt K mg "_law_of" st__law_of ["_law_pool_here", "_law_some"]) (n_len : mg "len" = none) (c__law_draw : CalG P w K mg base CX0 1 "_law_draw" (sp__law_draw K)) : CalG P w K mg base CX0 2 "_law_of" (sp__law_of K) := by
  refine DefAt.cal d fun {f fd} F => fn_P (n := 1) F sc__law_of rfl fun cdv A outer s H E hr => ?_
  have hu := hr.r.units
  have hv := hr.u65
  refine ⟨_, (pss_one (ps_ret (pe_ix (ixANY hu) (pv 1) (pe_cg c__law_draw hr (by decide) pass0 rfl (pa_cons (pv 0) (pa_cons (pe_callB cLEN rfl n_len (by decide +kernel) (pa_cons (pv 1) pa_nil)) pa_nil))) (fun _ _ => rfl)))), ?_⟩
  rintro p ds c R hl ⟨l, rfl, h1, h2, hc, hR⟩
  walk_at "dl0"
  walk_at "dl"
  have hl0 : 0 < l.length := by
    cases l with
    | nil => exact absurd rfl h1
    | cons _ _ => exact Nat.succ_pos _
  refine ⟨_, rfl, by omega, by omega, hc, fun n n0 n1 => ?_⟩
  obtain ⟨d, hd, hm⟩ := atI_some n0 n1
  refine ix_l (IsL.dat _) hd ?_
  exact ⟨_, 0, c + 1, c + 1, rfl, rfl, Nat.le_refl _, hR d hm⟩

/-- a number, a short text, a truth value, None -/
def cPlain : CP := fun ds c R => ds = [] ∧ c < 2 ^ 50 ∧ ∀ d, gp d = true → R d (c + 10)
theorem joinL_nil (n : Nat) : ∀ ps : List (List Nat), (∀ q ∈ ps, q.length ≤ 1 ∧ ∀ c ∈ q, c < 0x110000) → (TL.joinL [] ps).length ≤ ps.length ∧ ∀ c ∈ TL.joinL [] ps, c < 0x110000
  | [], _ => ⟨Nat.le_refl _, fun c hc => nomatch hc⟩
  | [q], h => ⟨(h q (by simp)).1, (h q (by simp)).2⟩
  | q :: r :: t, h => by
    obtain ⟨h1, h2⟩ := h q (by simp)
    obtain ⟨h3, h4⟩ := joinL_nil n (r :: t) fun x hx => h x (List.mem_cons_of_mem _ hx)
    show (q ++ ([] ++ TL.joinL [] (r :: t))).length ≤ _ ∧ ∀ c ∈ q ++ ([] ++ TL.joinL [] (r :: t)), c < 0x110000
    rw [List.nil_append]
    refine ⟨by simp only [List.length_append, List.length_cons] at *; omega, fun c hc => ?_⟩
    rcases List.mem_append.mp hc with z | z
    · exact h2 c z
    · exact h4 c z
/-- one sign -/
def sign (x : Str) : Prop := ∃ c, x = ⟨#[c]⟩ ∧ c < 0x110000
theorem join_small {l : List Str} (h : ∀ x ∈ l, sign x) : (Txt.join "" l).cps.size ≤ l.length ∧ PyData.strOk (Txt.join "" l) = true := by
  rw [TL.join_eq]
  have e : (Str.join "" l).cps.toList = TL.joinL [] (l.map TL.tl) := TL.tl_join "" l
  obtain ⟨h1, h2⟩ := joinL_nil 0 (l.map TL.tl) fun q hq => by
    obtain ⟨x, hx, rfl⟩ := List.mem_map.mp hq
    obtain ⟨c, rfl, hc⟩ := h x hx
    exact ⟨Nat.le_refl 1, fun d hd => by
      have : d = c := by simpa [TL.tl] using hd
      rw [this]; exact hc⟩
  rw [← e, List.length_map] at h1
  rw [← e] at h2
  refine ⟨by simpa using h1, ?_⟩
  unfold PyData.strOk
  rw [Array.all_eq_true_iff_forall_mem]
  intro c hc
  exact decide_eq_true (h2 c (Array.mem_toList_iff.mpr hc))
theorem sum_sign : ∀ {l : List Str}, (∀ x ∈ l, sign x) → (l.map (·.length)).sum = l.length
  | [], _ => rfl
  | x :: l, h => by
    obtain ⟨c, rfl, _⟩ := h x (by simp)
    have ih := sum_sign (l := l) fun y hy => h y (List.mem_cons_of_mem _ hy)
    simp only [List.map_cons, List.sum_cons, List.length_cons, ih]
    show 1 + l.length = l.length + 1
    omega
abbrev st__law_plain : Stmt := topR 31
abbrev N__law_plain : List Str := ["_law_pool_here", "_law_choice", "_law_signs", "_law_k"]
theorem sc__law_plain : FnScope N__law_plain ["_law_pool_here"] (defScope st__law_plain) := ⟨rfl, rfl, rfl, by decide +kernel, rfl, by decide +kernel, by decide +kernel⟩
abbrev sp__law_plain (K : PySem.W.Frag) : Sp := spP K 0 cPlain
theorem ok__law_plain {P : Program} {w : World} {K : PySem.W.Frag} {mg : Str → Option Value} {base : Heap} (d : DefAt K mg "_law_plain" st__law_plain ["_law_pool_here"]) (n_len : mg "len" = none) (n_range : mg "range" = none) (c__law_draw : CalG P w K mg base CX0 1 "_law_draw" (sp__law_draw K)) (c__law_of : CalG P w K mg base CX0 2 "_law_of" (sp__law_of K)) : CalG P w K mg base CX0 3 "_law_plain" (sp__law_plain K) := by
  refine DefAt.cal d fun {f fd} F => fn_P (n := 0) F sc__law_plain rfl fun cdv A outer s H E hr => ?_
  have hu := hr.r.units
  have hv := hr.u65
  refine ⟨_, (pss_cons (ps_set (i := 1) sc__law_plain.nd rfl (Or.inl rfl) (pe_cg c__law_draw hr (by decide) pass0 rfl (pa_cons (pv 0) (pa_cons pe_int pa_nil))))
      (pss_cons (ps_if (pt_cmpR (opEQ hu) (pv 1) pe_int (nomark _)) (pss_one (ps_ret (pe_op opADD (pe_op opSUB (pe_cg c__law_draw hr (by decide) pass0 rfl (pa_cons (pv 0) (pa_cons (pe_op opSUB (pe_op opMUL pe_int (pe_op opPOW pe_int pe_int)) pe_int) pa_nil))) (pe_op opPOW pe_int pe_int)) pe_int))) pss_nil)
      (pss_cons (ps_if (pt_cmpR (opEQ hu) (pv 1) pe_int (nomark _)) (pss_cons (ps_set (i := 2) sc__law_plain.nd rfl (Or.inr rfl) pe_str)
      (pss_one (ps_ret (pe_join pe_str (pe_lc (own := [("_law_k", 3)]) (g := gName 3) (tt := tYes) (te := tOp (rIX K) (tVar 2) (tCall (sp__law_draw K) [] E0 (tCons (tVar 0) (tCons (tCB (rLEN K) (tCons (tVar 2) (tNil))) (tNil))))) rfl sc__law_plain.nd (pi_range1 rfl n_range (pa_cons (pe_cg c__law_draw hr (by decide) pass0 rfl (pa_cons (pv 0) (pa_cons pe_int pa_nil))) pa_nil)) (blkOk_by (N := N__law_plain) (sc := defScope st__law_plain) (by decide +kernel)) (fun _ _ _ _ _ => (pg_name (i := 3) sc__law_plain.nd rfl (Or.inl rfl))) (fun _ _ _ _ _ => pts_nil) (fun _ _ _ _ _ => (pe_ix (ixANY hu) (pv 2) (pe_cg c__law_draw hr (by decide) pass0 rfl (pa_cons (pv 0) (pa_cons (pe_callB cLEN rfl n_len (by decide +kernel) (pa_cons (pv 2) pa_nil)) pa_nil))) (fun _ _ => rfl)))))))) pss_nil)
      (pss_one (ps_ret (pe_cg c__law_of hr (by decide) pass0 rfl (pa_cons (pv 0) (pa_cons (pe_lst (pa_cons pe_int (pa_cons pe_int (pa_cons (pe_un un_neg pe_int) (pa_cons pe_bl (pa_cons pe_bl (pa_cons pe_non pa_nil))))))) pa_nil)))))))), ?_⟩
  rintro p ds c R hl ⟨rfl, hc, hR⟩
  walk_at "dl0"
  walk_at "dl"
  refine ⟨_, rfl, by decide, by decide, by omega, fun n n0 n1 => ?_⟩
  walk_at "dl"
  refine ⟨fun hb => ?_, fun hb => ?_⟩
  · walk_at "dl"
    refine pow_i ⟨by decide, powB_ok (a := 4) (by decide) (by decide)⟩ ?_
    refine mul_i (mulx_ok (a := 10) (b := 140) (by decide) (by decide) (by decide)) ?_
    walk_at "dl"
    refine ⟨_, rfl, by decide, by decide, by omega, fun z z0 z1 => ?_⟩
    walk_at "dl"
    refine pow_i ⟨by decide, powB_ok (a := 4) (by decide) (by decide)⟩ ?_
    walk_at "dl"
    refine ⟨_, 0, _, _, rfl, rfl, ?_, hR _ (decide_eq_true ?_)⟩
    · omega
    · have e1 : (2 * 10 ^ (40 : Int).toNat - 1 : Int) = 2 * 10 ^ 40 - 1 := by decide
      have e2 : (10 ^ (40 : Int).toNat : Int) = 10 ^ 40 := by decide
      rw [e1] at z1
      rw [e2]
      omega
  · walk_at "dl"
    refine ⟨fun hb2 => ?_, fun hb2 => ?_⟩
    · walk_at "dl"
      refine rd_lcR (tgIn_name (by decide)) ?_
      walk_at "dl"
      refine ⟨_, rfl, by decide, by decide, by omega, fun z z0 z1 => ?_⟩
      walk_at "dl"
      refine ⟨z.toNat, by rw [Int.toNat_of_nonneg z0], by omega, fun i acc μ' => ∃ l, acc = txts l ∧ l.length = i ∧ (∀ x ∈ l, sign x) ∧ ∃ c', μ' = [(p, MK.pool c', false)] ∧ c' ≤ c + 2 + i, ⟨[], rfl, rfl, (fun _ h => nomatch h), _, rfl, by omega⟩, ?_, ?_⟩
      · rintro i acc μ' hi ⟨l, rfl, hll, hs, c', rfl, hc'⟩
        refine rg_name ?_
        walk_at "dl"
        refine len_s (by decide) ?_
        walk_at "dl"
        refine ⟨_, rfl, by decide, by decide, by omega, fun y y0 y1 => ?_⟩
        obtain ⟨cp, hcp, hcm⟩ := atI_some (xs := (" !#&()*+,-./0123456789:;<=>?@ABCXYZ[]^_abcdefghijklmnopqrstuvwxyz{|}~" : Str).cps.toList) y0 y1
        refine ix_s (by decide) hcp ?_
        refine ⟨_, rfl, by simp only [txts, List.length_map]; omega, l ++ [⟨#[cp]⟩], by simp [txts], by simp [hll], fun x hx => ?_, _, rfl, by omega⟩
        rcases List.mem_append.mp hx with h | h
        · exact hs x h
        · have : x = ⟨#[cp]⟩ := by simpa using h
          exact ⟨cp, this, (by decide +kernel : ∀ q ∈ (" !#&()*+,-./0123456789:;<=>?@ABCXYZ[]^_abcdefghijklmnopqrstuvwxyz{|}~" : Str).cps.toList, q < 0x110000) cp hcm⟩
      · rintro acc μ' ⟨l, rfl, hll, hs, c', rfl, hc'⟩
        obtain ⟨j1, j2⟩ := join_small hs
        refine ⟨l, _, rfl, IsL.dat _, ?_, _, 0, c', c + 10, rfl, rfl, by omega, hR _ ?_⟩
        · rw [sum_sign hs]
          show l.length + l.length * 0 ≤ 1000000
          omega
        · show (decide ((Txt.join "" l).cps.size ≤ 10) && PyData.strOk (Txt.join "" l)) = true
          rw [j2, Bool.and_true]
          exact decide_eq_true (by omega)
    · walk_at "dl"
      refine lst_d ?_
      walk_at "dl"
      refine ⟨_, rfl, by simp, by simp, by omega, fun d hd => ?_⟩
      refine ⟨d, 0, _, _, rfl, rfl, by omega, hR d ?_⟩
      have hall : ∀ x ∈ [Da.int 0, Da.int 1, Da.int (-1), Da.bl true, Da.bl false, Da.non], gp x = true := by decide
      exact hall d hd

/-- such a value, or a tuple of them -/
def cValue : CP := fun ds c R => ds = [] ∧ c < 2 ^ 40 ∧ ∀ d, gv d = true → R d (c + 100)
theorem gp_gv {d : Da} (h : gp d = true) : gv d = true := by
  cases d <;> first | exact h | cases h
abbrev st__law_value : Stmt := topR 32
abbrev N__law_value : List Str := ["_law_pool_here", "_law_k"]
theorem sc__law_value : FnScope N__law_value ["_law_pool_here"] (defScope st__law_value) := ⟨rfl, rfl, rfl, by decide +kernel, rfl, by decide +kernel, by decide +kernel⟩
abbrev sp__law_value (K : PySem.W.Frag) : Sp := spP K 0 cValue
theorem ok__law_value {P : Program} {w : World} {K : PySem.W.Frag} {mg : Str → Option Value} {base : Heap} (d : DefAt K mg "_law_value" st__law_value ["_law_pool_here"]) (n_range : mg "range" = none) (n_tuple : mg "tuple" = none) (c__law_draw : CalG P w K mg base CX0 1 "_law_draw" (sp__law_draw K)) (c__law_plain : CalG P w K mg base CX0 3 "_law_plain" (sp__law_plain K)) : CalG P w K mg base CX0 4 "_law_value" (sp__law_value K) := by
  refine DefAt.cal d fun {f fd} F => fn_P (n := 0) F sc__law_value rfl fun cdv A outer s H E hr => ?_
  have hu := hr.r.units
  have hv := hr.u65
  refine ⟨_, (pss_cons (ps_if (pt_cmpR (opEQ hu) (pe_cg c__law_draw hr (by decide) pass0 rfl (pa_cons (pv 0) (pa_cons pe_int pa_nil))) pe_int (nomark _)) (pss_one (ps_ret (pe_callTy cTUP rfl n_tuple (by decide +kernel) (pa_cons (pe_lc (own := [("_law_k", 1)]) (g := gName 1) (tt := tYes) (te := tCall (sp__law_plain K) [] E0 (tCons (tVar 0) (tNil))) rfl sc__law_value.nd (pi_range1 rfl n_range (pa_cons (pe_cg c__law_draw hr (by decide) pass0 rfl (pa_cons (pv 0) (pa_cons pe_int pa_nil))) pa_nil)) (blkOk_by (N := N__law_value) (sc := defScope st__law_value) (by decide +kernel)) (fun _ _ _ _ _ => (pg_name (i := 1) sc__law_value.nd rfl (Or.inl rfl))) (fun _ _ _ _ _ => pts_nil) (fun _ _ _ _ _ => (pe_cg c__law_plain hr (by decide) pass0 rfl (pa_cons (pv 0) pa_nil)))) pa_nil)))) pss_nil)
      (pss_one (ps_ret (pe_cg c__law_plain hr (by decide) pass0 rfl (pa_cons (pv 0) pa_nil))))), ?_⟩
  rintro p ds c R hl ⟨rfl, hc, hR⟩
  walk_at "dl0"
  walk_at "dl"
  refine ⟨_, rfl, by decide, by decide, by omega, fun n n0 n1 => ?_⟩
  walk_at "dl"
  refine ⟨fun hb => ?_, fun hb => ?_⟩
  · walk_at "dl"
    refine rd_lcR (tgIn_name (by decide)) ?_
    walk_at "dl"
    refine ⟨_, rfl, by decide, by decide, by omega, fun z z0 z1 => ?_⟩
    walk_at "dl"
    refine ⟨z.toNat, by rw [Int.toNat_of_nonneg z0], by omega, fun i acc μ' => acc.length = i ∧ acc.all gp = true ∧ ∃ c', μ' = [(p, MK.pool c', false)] ∧ c' ≤ c + 2 + 10 * i, ⟨rfl, rfl, _, rfl, by omega⟩, ?_, ?_⟩
    · rintro i acc μ' hi ⟨hll, hs, c', rfl, hc'⟩
      refine rg_name ?_
      walk_at "dl"
      refine ⟨rfl, by omega, fun d hd => ?_⟩
      refine ⟨_, rfl, by omega, by simp [hll], by simp [hs, hd], _, rfl, by omega⟩
    · rintro acc μ' ⟨hll, hs, c', rfl, hc'⟩
      walk_at "dl"
      refine tup_l (IsL.dat _) (fun _ => nofun) ?_
      refine ⟨_, 0, _, _, rfl, rfl, ?_, hR _ ?_⟩
      · omega
      · show (acc.all gp && decide (acc.length ≤ 3)) = true
        rw [hs, Bool.true_and]
        exact decide_eq_true (by omega)
  · walk_at "dl"
    refine ⟨rfl, by omega, fun d hd => ?_⟩
    exact ⟨d, 0, _, _, rfl, rfl, by omega, hR d (gp_gv hd)⟩

/-- copied: what is copied is worth the same -/
def cCop0 : CA := fun ds R => ∃ d, ds = [d] ∧ gp d = true ∧ R d
theorem gp_ty {d : Da} (h : gp d = true) : ∃ n, tyN d = some n ∧ kitB n "list" = some false ∧ kitB n "tuple" = some false ∧ kitB n "dict" = some false := by
  cases d <;> first
    | exact ⟨_, rfl, by decide +kernel, by decide +kernel, by decide +kernel⟩
    | cases h
def cCop1 : CA := fun ds R => ∃ d, ds = [d] ∧ gv d = true ∧ R d
abbrev st_copied0 : Stmt := topR 1
abbrev N_copied0 : List Str := ["thing", "part", "name"]
theorem sc_copied0 : FnScope N_copied0 ["thing"] (defScope st_copied0) := ⟨rfl, rfl, rfl, by decide +kernel, rfl, by decide +kernel, by decide +kernel⟩
abbrev sp_copied0 (K : PySem.W.Frag) : Sp := spA K 1 cCop0
theorem ok_copied0 {P : Program} {w : World} {K : PySem.W.Frag} {mg : Str → Option Value} {base : Heap} (d : DefAt K mg "copied" st_copied0 ["thing"]) (n_dict : mg "dict" = none) (n_isinstance : mg "isinstance" = none) (n_list : mg "list" = none) (n_tuple : mg "tuple" = none)  : CalG P w K mg base CX0 1 "copied" (sp_copied0 K) := by
  refine DefAt.cal d fun {f fd} F => fn_A (n := 1) F sc_copied0 rfl fun cdv A outer s H E hr => ?_
  have hu := hr.r.units
  have hv := hr.u65
  refine ⟨_, (pss_cons (ps_if (pt_val (pe_callB cISI rfl n_isinstance (by decide +kernel) (pa_cons (pv 0) (pa_cons (pe_bltn (v := V.ty "list") (u := Value.type "list") rfl n_list (by decide +kernel) rfl) pa_nil)))) pss_never pss_nil)
      (pss_cons (ps_if (pt_val (pe_callB cISI rfl n_isinstance (by decide +kernel) (pa_cons (pv 0) (pa_cons (pe_bltn (v := V.ty "tuple") (u := Value.type "tuple") rfl n_tuple (by decide +kernel) rfl) pa_nil)))) pss_never pss_nil)
      (pss_cons (ps_if (pt_val (pe_callB cISI rfl n_isinstance (by decide +kernel) (pa_cons (pv 0) (pa_cons (pe_bltn (v := V.ty "dict") (u := Value.type "dict") rfl n_dict (by decide +kernel) rfl) pa_nil)))) pss_never pss_nil)
      (pss_one (ps_ret (pv 0)))))), ?_⟩
  rintro ds R hl ⟨d0, rfl, hg, hR⟩
  obtain ⟨n, hn, k1, k2, k3⟩ := gp_ty hg
  walk_at "dl0"
  walk_at "dl"
  refine isi_ty hn k1 ?_
  walk_at "dl"
  refine isi_ty hn k2 ?_
  walk_at "dl"
  refine isi_ty hn k3 ?_
  walk_at "dl"
  exact hR
abbrev st_copied1 : Stmt := topR 1
abbrev N_copied1 : List Str := ["thing", "part", "name"]
theorem sc_copied1 : FnScope N_copied1 ["thing"] (defScope st_copied1) := ⟨rfl, rfl, rfl, by decide +kernel, rfl, by decide +kernel, by decide +kernel⟩
abbrev sp_copied1 (K : PySem.W.Frag) : Sp := spA K 1 cCop1
theorem ok_copied1 {P : Program} {w : World} {K : PySem.W.Frag} {mg : Str → Option Value} {base : Heap} (d : DefAt K mg "copied" st_copied1 ["thing"]) (n_dict : mg "dict" = none) (n_isinstance : mg "isinstance" = none) (n_list : mg "list" = none) (n_tuple : mg "tuple" = none) (c_copied : CalG P w K mg base CX0 1 "copied" (sp_copied0 K)) : CalG P w K mg base CX0 2 "copied" (sp_copied1 K) := by
  refine DefAt.cal d fun {f fd} F => fn_A (n := 1) F sc_copied1 rfl fun cdv A outer s H E hr => ?_
  have hu := hr.r.units
  have hv := hr.u65
  refine ⟨_, (pss_cons (ps_if (pt_val (pe_callB cISI rfl n_isinstance (by decide +kernel) (pa_cons (pv 0) (pa_cons (pe_bltn (v := V.ty "list") (u := Value.type "list") rfl n_list (by decide +kernel) rfl) pa_nil)))) pss_never pss_nil)
      (pss_cons (ps_if (pt_val (pe_callB cISI rfl n_isinstance (by decide +kernel) (pa_cons (pv 0) (pa_cons (pe_bltn (v := V.ty "tuple") (u := Value.type "tuple") rfl n_tuple (by decide +kernel) rfl) pa_nil)))) (pss_one (ps_ret (pe_callTy cTUP rfl n_tuple (by decide +kernel) (pa_cons (pe_lc (own := [("part", 1)]) (g := gName 1) (tt := tYes) (te := tCall (sp_copied0 K) [] E0 (tCons (tVar 1) (tNil))) rfl sc_copied1.nd (pi_tup (pv 0)) (blkOk_by (N := N_copied1) (sc := defScope st_copied1) (by decide +kernel)) (fun _ _ _ _ _ => (pg_name (i := 1) sc_copied1.nd rfl (Or.inl rfl))) (fun _ _ _ _ _ => pts_nil) (fun _ _ _ _ _ => (pe_cg c_copied hr (by decide) pass0 rfl (pa_cons (pv 1) pa_nil)))) pa_nil)))) pss_nil)
      (pss_cons (ps_if (pt_val (pe_callB cISI rfl n_isinstance (by decide +kernel) (pa_cons (pv 0) (pa_cons (pe_bltn (v := V.ty "dict") (u := Value.type "dict") rfl n_dict (by decide +kernel) rfl) pa_nil)))) pss_never pss_nil)
      (pss_one (ps_ret (pv 0)))))), ?_⟩
  rintro ds R hl ⟨d0, rfl, hg, hR⟩
  by_cases ht : ∃ l, d0 = .tup l
  · obtain ⟨l, rfl⟩ := ht
    have hg' : l.all gp = true ∧ l.length ≤ 3 := by simpa [gv] using hg
    walk_at "dl0"
    walk_at "dl"
    refine isi_ty (n := "tuple") (b := false) rfl (by decide +kernel) ?_
    walk_at "dl"
    refine isi_ty (n := "tuple") (b := true) rfl (by decide +kernel) ?_
    walk_at "dl"
    refine rd_lcU (tgIn_name (by decide)) ?_
    walk_at "dl"
    refine ⟨fun i acc μ' => acc = l.take i ∧ μ' = [], ⟨rfl, rfl⟩, ?_, ?_⟩
    · rintro i e acc μ' he ⟨rfl, rfl⟩
      refine rg_name ?_
      walk_at "dl"
      have hm : e ∈ l := List.mem_of_getElem? he
      have hgl : gp e = true := List.all_eq_true.mp hg'.1 e hm
      have hi : i < l.length := (List.getElem?_eq_some_iff.mp he).1
      refine ⟨rfl, _, rfl, hgl, _, rfl, by rw [List.length_take]; omega, ?_, rfl⟩
      rw [List.take_add_one, he]; rfl
    · rintro acc μ' ⟨rfl, rfl⟩
      walk_at "dl"
      refine tup_l (IsL.dat _) (fun _ => nofun) ?_
      rw [List.take_length]
      exact ⟨_, rfl, hR⟩
  · have hg1 : gp d0 = true := by
      cases d0 <;> first | exact hg | exact absurd ⟨_, rfl⟩ ht
    obtain ⟨n, hn, k1, k2, k3⟩ := gp_ty hg1
    walk_at "dl0"
    walk_at "dl"
    refine isi_ty hn k1 ?_
    walk_at "dl"
    refine isi_ty hn k2 ?_
    walk_at "dl"
    refine isi_ty hn k3 ?_
    walk_at "dl"
    exact hR
abbrev st_BadSchema___init__ : Stmt := inClass (topR 4) 0
abbrev N_BadSchema___init__ : List Str := ["self", "at"]
theorem sc_BadSchema___init__ : FnScope N_BadSchema___init__ ["self", "at"] (defScope st_BadSchema___init__) := ⟨rfl, rfl, rfl, by decide +kernel, rfl, by decide +kernel, by decide +kernel⟩
abbrev sp_BadSchema___init__ (K : PySem.W.Frag) (C : Addr) : Sp := spX K 1 C (fun ds R => ∃ a, ds = [a] ∧ gv a = true ∧ R [("at", a)])
theorem ok_BadSchema___init__ {C : Addr} {P : Program} {w : World} {K : PySem.W.Frag} {mg : Str → Option Value} {base : Heap} (d : XAt K mg "BadSchema" C "BadSchema.__init__" st_BadSchema___init__) (ox : OexC K C) (na_at : PySem.W.findIn K (.ref C) "at" = some none) (c_copied : CalG P w K mg base CX0 2 "copied" (sp_copied1 K)) : XG P w K mg base 3 "BadSchema" "BadSchema.__init__" st_BadSchema___init__ C ["self", "at"] (sp_BadSchema___init__ K C) := by
  refine XAt.xg d fun {f fd} F => fn_X (n := 1) F sc_BadSchema___init__ rfl fun cdv A outer s H E hr => ?_
  have hu := hr.r.units
  have hv := hr.u65
  refine ⟨_, (pss_one (ps_ost (pv 0) (pe_cg c_copied hr (by decide) pass0 rfl (pa_cons (pv 1) pa_nil)))), ?_⟩
  rintro p ds R hl ⟨a, rfl, ga, hR⟩
  walk_at "dl0"
  refine rs_ost1 (a := p) (C := C) ?_
  walk_at "dl"
  refine ⟨rfl, _, rfl, ga, _, rfl, rfl, rfl, ox, na_at, ?_⟩
  intro dx
  exact ⟨dx, _, rfl, hR⟩
abbrev st_BadStore___init__ : Stmt := inClass (topR 5) 0
abbrev N_BadStore___init__ : List Str := ["self", "at"]
theorem sc_BadStore___init__ : FnScope N_BadStore___init__ ["self", "at"] (defScope st_BadStore___init__) := ⟨rfl, rfl, rfl, by decide +kernel, rfl, by decide +kernel, by decide +kernel⟩
abbrev sp_BadStore___init__ (K : PySem.W.Frag) (C : Addr) : Sp := spX K 1 C (fun ds R => ∃ a, ds = [a] ∧ gv a = true ∧ R [("at", a)])
theorem ok_BadStore___init__ {C : Addr} {P : Program} {w : World} {K : PySem.W.Frag} {mg : Str → Option Value} {base : Heap} (d : XAt K mg "BadStore" C "BadStore.__init__" st_BadStore___init__) (ox : OexC K C) (na_at : PySem.W.findIn K (.ref C) "at" = some none) (c_copied : CalG P w K mg base CX0 2 "copied" (sp_copied1 K)) : XG P w K mg base 3 "BadStore" "BadStore.__init__" st_BadStore___init__ C ["self", "at"] (sp_BadStore___init__ K C) := by
  refine XAt.xg d fun {f fd} F => fn_X (n := 1) F sc_BadStore___init__ rfl fun cdv A outer s H E hr => ?_
  have hu := hr.r.units
  have hv := hr.u65
  refine ⟨_, (pss_one (ps_ost (pv 0) (pe_cg c_copied hr (by decide) pass0 rfl (pa_cons (pv 1) pa_nil)))), ?_⟩
  rintro p ds R hl ⟨a, rfl, ga, hR⟩
  walk_at "dl0"
  refine rs_ost1 (a := p) (C := C) ?_
  walk_at "dl"
  refine ⟨rfl, _, rfl, ga, _, rfl, rfl, rfl, ox, na_at, ?_⟩
  intro dx
  exact ⟨dx, _, rfl, hR⟩
abbrev st_BadDeed___init__ : Stmt := inClass (topR 6) 0
abbrev N_BadDeed___init__ : List Str := ["self", "deed"]
theorem sc_BadDeed___init__ : FnScope N_BadDeed___init__ ["self", "deed"] (defScope st_BadDeed___init__) := ⟨rfl, rfl, rfl, by decide +kernel, rfl, by decide +kernel, by decide +kernel⟩
abbrev sp_BadDeed___init__ (K : PySem.W.Frag) (C : Addr) : Sp := spX K 1 C (fun ds R => ∃ a, ds = [a] ∧ gv a = true ∧ R [("deed", a)])
theorem ok_BadDeed___init__ {C : Addr} {P : Program} {w : World} {K : PySem.W.Frag} {mg : Str → Option Value} {base : Heap} (d : XAt K mg "BadDeed" C "BadDeed.__init__" st_BadDeed___init__) (ox : OexC K C) (na_deed : PySem.W.findIn K (.ref C) "deed" = some none) (c_copied : CalG P w K mg base CX0 2 "copied" (sp_copied1 K)) : XG P w K mg base 3 "BadDeed" "BadDeed.__init__" st_BadDeed___init__ C ["self", "deed"] (sp_BadDeed___init__ K C) := by
  refine XAt.xg d fun {f fd} F => fn_X (n := 1) F sc_BadDeed___init__ rfl fun cdv A outer s H E hr => ?_
  have hu := hr.r.units
  have hv := hr.u65
  refine ⟨_, (pss_one (ps_ost (pv 0) (pe_cg c_copied hr (by decide) pass0 rfl (pa_cons (pv 1) pa_nil)))), ?_⟩
  rintro p ds R hl ⟨a, rfl, ga, hR⟩
  walk_at "dl0"
  refine rs_ost1 (a := p) (C := C) ?_
  walk_at "dl"
  refine ⟨rfl, _, rfl, ga, _, rfl, rfl, rfl, ox, na_deed, ?_⟩
  intro dx
  exact ⟨dx, _, rfl, hR⟩
abbrev st_NoTable___init__ : Stmt := inClass (topR 7) 0
abbrev N_NoTable___init__ : List Str := ["self", "table"]
theorem sc_NoTable___init__ : FnScope N_NoTable___init__ ["self", "table"] (defScope st_NoTable___init__) := ⟨rfl, rfl, rfl, by decide +kernel, rfl, by decide +kernel, by decide +kernel⟩
abbrev sp_NoTable___init__ (K : PySem.W.Frag) (C : Addr) : Sp := spX K 1 C (fun ds R => ∃ a, ds = [a] ∧ gv a = true ∧ R [("table", a)])
theorem ok_NoTable___init__ {C : Addr} {P : Program} {w : World} {K : PySem.W.Frag} {mg : Str → Option Value} {base : Heap} (d : XAt K mg "NoTable" C "NoTable.__init__" st_NoTable___init__) (ox : OexC K C) (na_table : PySem.W.findIn K (.ref C) "table" = some none) (c_copied : CalG P w K mg base CX0 2 "copied" (sp_copied1 K)) : XG P w K mg base 3 "NoTable" "NoTable.__init__" st_NoTable___init__ C ["self", "table"] (sp_NoTable___init__ K C) := by
  refine XAt.xg d fun {f fd} F => fn_X (n := 1) F sc_NoTable___init__ rfl fun cdv A outer s H E hr => ?_
  have hu := hr.r.units
  have hv := hr.u65
  refine ⟨_, (pss_one (ps_ost (pv 0) (pe_cg c_copied hr (by decide) pass0 rfl (pa_cons (pv 1) pa_nil)))), ?_⟩
  rintro p ds R hl ⟨a, rfl, ga, hR⟩
  walk_at "dl0"
  refine rs_ost1 (a := p) (C := C) ?_
  walk_at "dl"
  refine ⟨rfl, _, rfl, ga, _, rfl, rfl, rfl, ox, na_table, ?_⟩
  intro dx
  exact ⟨dx, _, rfl, hR⟩
abbrev st_NoColumn___init__ : Stmt := inClass (topR 8) 0
abbrev N_NoColumn___init__ : List Str := ["self", "table", "column"]
theorem sc_NoColumn___init__ : FnScope N_NoColumn___init__ ["self", "table", "column"] (defScope st_NoColumn___init__) := ⟨rfl, rfl, rfl, by decide +kernel, rfl, by decide +kernel, by decide +kernel⟩
abbrev sp_NoColumn___init__ (K : PySem.W.Frag) (C : Addr) : Sp := spX K 2 C (fun ds R => ∃ a b, ds = [a, b] ∧ gv a = true ∧ gv b = true ∧ R [("column", b), ("table", a)])
theorem ok_NoColumn___init__ {C : Addr} {P : Program} {w : World} {K : PySem.W.Frag} {mg : Str → Option Value} {base : Heap} (d : XAt K mg "NoColumn" C "NoColumn.__init__" st_NoColumn___init__) (ox : OexC K C) (na_table : PySem.W.findIn K (.ref C) "table" = some none) (na_column : PySem.W.findIn K (.ref C) "column" = some none) (c_copied : CalG P w K mg base CX0 2 "copied" (sp_copied1 K)) : XG P w K mg base 3 "NoColumn" "NoColumn.__init__" st_NoColumn___init__ C ["self", "table", "column"] (sp_NoColumn___init__ K C) := by
  refine XAt.xg d fun {f fd} F => fn_X (n := 2) F sc_NoColumn___init__ rfl fun cdv A outer s H E hr => ?_
  have hu := hr.r.units
  have hv := hr.u65
  refine ⟨_, (pss_cons (ps_ost (pv 0) (pe_cg c_copied hr (by decide) pass0 rfl (pa_cons (pv 1) pa_nil)))
      (pss_one (ps_ost (pv 0) (pe_cg c_copied hr (by decide) pass0 rfl (pa_cons (pv 2) pa_nil))))), ?_⟩
  rintro p ds R hl ⟨a, b, rfl, ga, gb, hR⟩
  walk_at "dl0"
  refine rs_seq ?_
  refine rs_ost1 (a := p) (C := C) ?_
  walk_at "dl"
  refine ⟨rfl, _, rfl, ga, _, rfl, rfl, rfl, ox, na_table, ?_⟩
  intro dx
  refine rs_ost2 (a := p) (C := C) (dx := dx) (fs := [("table", a)]) ?_
  walk_at "dl"
  refine ⟨rfl, _, rfl, gb, _, rfl, rfl, rfl, ox, na_column, Nat.le_of_ble_eq_true rfl, ?_⟩
  exact ⟨dx, _, rfl, hR⟩
abbrev st_NoRow___init__ : Stmt := inClass (topR 9) 0
abbrev N_NoRow___init__ : List Str := ["self", "table", "key"]
theorem sc_NoRow___init__ : FnScope N_NoRow___init__ ["self", "table", "key"] (defScope st_NoRow___init__) := ⟨rfl, rfl, rfl, by decide +kernel, rfl, by decide +kernel, by decide +kernel⟩
abbrev sp_NoRow___init__ (K : PySem.W.Frag) (C : Addr) : Sp := spX K 2 C (fun ds R => ∃ a b, ds = [a, b] ∧ gv a = true ∧ gv b = true ∧ R [("key", b), ("table", a)])
theorem ok_NoRow___init__ {C : Addr} {P : Program} {w : World} {K : PySem.W.Frag} {mg : Str → Option Value} {base : Heap} (d : XAt K mg "NoRow" C "NoRow.__init__" st_NoRow___init__) (ox : OexC K C) (na_table : PySem.W.findIn K (.ref C) "table" = some none) (na_key : PySem.W.findIn K (.ref C) "key" = some none) (c_copied : CalG P w K mg base CX0 2 "copied" (sp_copied1 K)) : XG P w K mg base 3 "NoRow" "NoRow.__init__" st_NoRow___init__ C ["self", "table", "key"] (sp_NoRow___init__ K C) := by
  refine XAt.xg d fun {f fd} F => fn_X (n := 2) F sc_NoRow___init__ rfl fun cdv A outer s H E hr => ?_
  have hu := hr.r.units
  have hv := hr.u65
  refine ⟨_, (pss_cons (ps_ost (pv 0) (pe_cg c_copied hr (by decide) pass0 rfl (pa_cons (pv 1) pa_nil)))
      (pss_one (ps_ost (pv 0) (pe_cg c_copied hr (by decide) pass0 rfl (pa_cons (pv 2) pa_nil))))), ?_⟩
  rintro p ds R hl ⟨a, b, rfl, ga, gb, hR⟩
  walk_at "dl0"
  refine rs_seq ?_
  refine rs_ost1 (a := p) (C := C) ?_
  walk_at "dl"
  refine ⟨rfl, _, rfl, ga, _, rfl, rfl, rfl, ox, na_table, ?_⟩
  intro dx
  refine rs_ost2 (a := p) (C := C) (dx := dx) (fs := [("table", a)]) ?_
  walk_at "dl"
  refine ⟨rfl, _, rfl, gb, _, rfl, rfl, rfl, ox, na_key, Nat.le_of_ble_eq_true rfl, ?_⟩
  exact ⟨dx, _, rfl, hR⟩
abbrev st_Taken___init__ : Stmt := inClass (topR 10) 0
abbrev N_Taken___init__ : List Str := ["self", "table", "key"]
theorem sc_Taken___init__ : FnScope N_Taken___init__ ["self", "table", "key"] (defScope st_Taken___init__) := ⟨rfl, rfl, rfl, by decide +kernel, rfl, by decide +kernel, by decide +kernel⟩
abbrev sp_Taken___init__ (K : PySem.W.Frag) (C : Addr) : Sp := spX K 2 C (fun ds R => ∃ a b, ds = [a, b] ∧ gv a = true ∧ gv b = true ∧ R [("key", b), ("table", a)])
theorem ok_Taken___init__ {C : Addr} {P : Program} {w : World} {K : PySem.W.Frag} {mg : Str → Option Value} {base : Heap} (d : XAt K mg "Taken" C "Taken.__init__" st_Taken___init__) (ox : OexC K C) (na_table : PySem.W.findIn K (.ref C) "table" = some none) (na_key : PySem.W.findIn K (.ref C) "key" = some none) (c_copied : CalG P w K mg base CX0 2 "copied" (sp_copied1 K)) : XG P w K mg base 3 "Taken" "Taken.__init__" st_Taken___init__ C ["self", "table", "key"] (sp_Taken___init__ K C) := by
  refine XAt.xg d fun {f fd} F => fn_X (n := 2) F sc_Taken___init__ rfl fun cdv A outer s H E hr => ?_
  have hu := hr.r.units
  have hv := hr.u65
  refine ⟨_, (pss_cons (ps_ost (pv 0) (pe_cg c_copied hr (by decide) pass0 rfl (pa_cons (pv 1) pa_nil)))
      (pss_one (ps_ost (pv 0) (pe_cg c_copied hr (by decide) pass0 rfl (pa_cons (pv 2) pa_nil))))), ?_⟩
  rintro p ds R hl ⟨a, b, rfl, ga, gb, hR⟩
  walk_at "dl0"
  refine rs_seq ?_
  refine rs_ost1 (a := p) (C := C) ?_
  walk_at "dl"
  refine ⟨rfl, _, rfl, ga, _, rfl, rfl, rfl, ox, na_table, ?_⟩
  intro dx
  refine rs_ost2 (a := p) (C := C) (dx := dx) (fs := [("table", a)]) ?_
  walk_at "dl"
  refine ⟨rfl, _, rfl, gb, _, rfl, rfl, rfl, ox, na_key, Nat.le_of_ble_eq_true rfl, ?_⟩
  exact ⟨dx, _, rfl, hR⟩
abbrev st_BadCell___init__ : Stmt := inClass (topR 11) 0
abbrev N_BadCell___init__ : List Str := ["self", "table", "column", "cell"]
theorem sc_BadCell___init__ : FnScope N_BadCell___init__ ["self", "table", "column", "cell"] (defScope st_BadCell___init__) := ⟨rfl, rfl, rfl, by decide +kernel, rfl, by decide +kernel, by decide +kernel⟩
abbrev sp_BadCell___init__ (K : PySem.W.Frag) (C : Addr) : Sp := spX K 3 C (fun ds R => ∃ a b c, ds = [a, b, c] ∧ gv a = true ∧ gv b = true ∧ gv c = true ∧ R [("cell", c), ("column", b), ("table", a)])
theorem ok_BadCell___init__ {C : Addr} {P : Program} {w : World} {K : PySem.W.Frag} {mg : Str → Option Value} {base : Heap} (d : XAt K mg "BadCell" C "BadCell.__init__" st_BadCell___init__) (ox : OexC K C) (na_table : PySem.W.findIn K (.ref C) "table" = some none) (na_column : PySem.W.findIn K (.ref C) "column" = some none) (na_cell : PySem.W.findIn K (.ref C) "cell" = some none) (c_copied : CalG P w K mg base CX0 2 "copied" (sp_copied1 K)) : XG P w K mg base 3 "BadCell" "BadCell.__init__" st_BadCell___init__ C ["self", "table", "column", "cell"] (sp_BadCell___init__ K C) := by
  refine XAt.xg d fun {f fd} F => fn_X (n := 3) F sc_BadCell___init__ rfl fun cdv A outer s H E hr => ?_
  have hu := hr.r.units
  have hv := hr.u65
  refine ⟨_, (pss_cons (ps_ost (pv 0) (pe_cg c_copied hr (by decide) pass0 rfl (pa_cons (pv 1) pa_nil)))
      (pss_cons (ps_ost (pv 0) (pe_cg c_copied hr (by decide) pass0 rfl (pa_cons (pv 2) pa_nil)))
      (pss_one (ps_ost (pv 0) (pe_cg c_copied hr (by decide) pass0 rfl (pa_cons (pv 3) pa_nil)))))), ?_⟩
  rintro p ds R hl ⟨a, b, c, rfl, ga, gb, gc, hR⟩
  walk_at "dl0"
  refine rs_seq ?_
  refine rs_ost1 (a := p) (C := C) ?_
  walk_at "dl"
  refine ⟨rfl, _, rfl, ga, _, rfl, rfl, rfl, ox, na_table, ?_⟩
  intro dx
  refine rs_seq ?_
  refine rs_ost2 (a := p) (C := C) (dx := dx) (fs := [("table", a)]) ?_
  walk_at "dl"
  refine ⟨rfl, _, rfl, gb, _, rfl, rfl, rfl, ox, na_column, Nat.le_of_ble_eq_true rfl, ?_⟩
  refine rs_ost2 (a := p) (C := C) (dx := dx) (fs := [("column", b), ("table", a)]) ?_
  walk_at "dl"
  refine ⟨rfl, _, rfl, gc, _, rfl, rfl, rfl, ox, na_cell, Nat.le_of_ble_eq_true rfl, ?_⟩
  exact ⟨dx, _, rfl, hR⟩
abbrev st_Held___init__ : Stmt := inClass (topR 12) 0
abbrev N_Held___init__ : List Str := ["self", "table", "key"]
theorem sc_Held___init__ : FnScope N_Held___init__ ["self", "table", "key"] (defScope st_Held___init__) := ⟨rfl, rfl, rfl, by decide +kernel, rfl, by decide +kernel, by decide +kernel⟩
abbrev sp_Held___init__ (K : PySem.W.Frag) (C : Addr) : Sp := spX K 2 C (fun ds R => ∃ a b, ds = [a, b] ∧ gv a = true ∧ gv b = true ∧ R [("key", b), ("table", a)])
theorem ok_Held___init__ {C : Addr} {P : Program} {w : World} {K : PySem.W.Frag} {mg : Str → Option Value} {base : Heap} (d : XAt K mg "Held" C "Held.__init__" st_Held___init__) (ox : OexC K C) (na_table : PySem.W.findIn K (.ref C) "table" = some none) (na_key : PySem.W.findIn K (.ref C) "key" = some none) (c_copied : CalG P w K mg base CX0 2 "copied" (sp_copied1 K)) : XG P w K mg base 3 "Held" "Held.__init__" st_Held___init__ C ["self", "table", "key"] (sp_Held___init__ K C) := by
  refine XAt.xg d fun {f fd} F => fn_X (n := 2) F sc_Held___init__ rfl fun cdv A outer s H E hr => ?_
  have hu := hr.r.units
  have hv := hr.u65
  refine ⟨_, (pss_cons (ps_ost (pv 0) (pe_cg c_copied hr (by decide) pass0 rfl (pa_cons (pv 1) pa_nil)))
      (pss_one (ps_ost (pv 0) (pe_cg c_copied hr (by decide) pass0 rfl (pa_cons (pv 2) pa_nil))))), ?_⟩
  rintro p ds R hl ⟨a, b, rfl, ga, gb, hR⟩
  walk_at "dl0"
  refine rs_seq ?_
  refine rs_ost1 (a := p) (C := C) ?_
  walk_at "dl"
  refine ⟨rfl, _, rfl, ga, _, rfl, rfl, rfl, ox, na_table, ?_⟩
  intro dx
  refine rs_ost2 (a := p) (C := C) (dx := dx) (fs := [("table", a)]) ?_
  walk_at "dl"
  refine ⟨rfl, _, rfl, gb, _, rfl, rfl, rfl, ox, na_key, Nat.le_of_ble_eq_true rfl, ?_⟩
  exact ⟨dx, _, rfl, hR⟩
abbrev st_NotBulk___init__ : Stmt := inClass (topR 13) 0
abbrev N_NotBulk___init__ : List Str := ["self", "table", "column"]
theorem sc_NotBulk___init__ : FnScope N_NotBulk___init__ ["self", "table", "column"] (defScope st_NotBulk___init__) := ⟨rfl, rfl, rfl, by decide +kernel, rfl, by decide +kernel, by decide +kernel⟩
abbrev sp_NotBulk___init__ (K : PySem.W.Frag) (C : Addr) : Sp := spX K 2 C (fun ds R => ∃ a b, ds = [a, b] ∧ gv a = true ∧ gv b = true ∧ R [("column", b), ("table", a)])
theorem ok_NotBulk___init__ {C : Addr} {P : Program} {w : World} {K : PySem.W.Frag} {mg : Str → Option Value} {base : Heap} (d : XAt K mg "NotBulk" C "NotBulk.__init__" st_NotBulk___init__) (ox : OexC K C) (na_table : PySem.W.findIn K (.ref C) "table" = some none) (na_column : PySem.W.findIn K (.ref C) "column" = some none) (c_copied : CalG P w K mg base CX0 2 "copied" (sp_copied1 K)) : XG P w K mg base 3 "NotBulk" "NotBulk.__init__" st_NotBulk___init__ C ["self", "table", "column"] (sp_NotBulk___init__ K C) := by
  refine XAt.xg d fun {f fd} F => fn_X (n := 2) F sc_NotBulk___init__ rfl fun cdv A outer s H E hr => ?_
  have hu := hr.r.units
  have hv := hr.u65
  refine ⟨_, (pss_cons (ps_ost (pv 0) (pe_cg c_copied hr (by decide) pass0 rfl (pa_cons (pv 1) pa_nil)))
      (pss_one (ps_ost (pv 0) (pe_cg c_copied hr (by decide) pass0 rfl (pa_cons (pv 2) pa_nil))))), ?_⟩
  rintro p ds R hl ⟨a, b, rfl, ga, gb, hR⟩
  walk_at "dl0"
  refine rs_seq ?_
  refine rs_ost1 (a := p) (C := C) ?_
  walk_at "dl"
  refine ⟨rfl, _, rfl, ga, _, rfl, rfl, rfl, ox, na_table, ?_⟩
  intro dx
  refine rs_ost2 (a := p) (C := C) (dx := dx) (fs := [("table", a)]) ?_
  walk_at "dl"
  refine ⟨rfl, _, rfl, gb, _, rfl, rfl, rfl, ox, na_column, Nat.le_of_ble_eq_true rfl, ?_⟩
  exact ⟨dx, _, rfl, hR⟩
abbrev st_TooMany___init__ : Stmt := inClass (topR 14) 0
abbrev N_TooMany___init__ : List Str := ["self", "what"]
theorem sc_TooMany___init__ : FnScope N_TooMany___init__ ["self", "what"] (defScope st_TooMany___init__) := ⟨rfl, rfl, rfl, by decide +kernel, rfl, by decide +kernel, by decide +kernel⟩
abbrev sp_TooMany___init__ (K : PySem.W.Frag) (C : Addr) : Sp := spX K 1 C (fun ds R => ∃ a, ds = [a] ∧ gv a = true ∧ R [("what", a)])
theorem ok_TooMany___init__ {C : Addr} {P : Program} {w : World} {K : PySem.W.Frag} {mg : Str → Option Value} {base : Heap} (d : XAt K mg "TooMany" C "TooMany.__init__" st_TooMany___init__) (ox : OexC K C) (na_what : PySem.W.findIn K (.ref C) "what" = some none) (c_copied : CalG P w K mg base CX0 2 "copied" (sp_copied1 K)) : XG P w K mg base 3 "TooMany" "TooMany.__init__" st_TooMany___init__ C ["self", "what"] (sp_TooMany___init__ K C) := by
  refine XAt.xg d fun {f fd} F => fn_X (n := 1) F sc_TooMany___init__ rfl fun cdv A outer s H E hr => ?_
  have hu := hr.r.units
  have hv := hr.u65
  refine ⟨_, (pss_one (ps_ost (pv 0) (pe_cg c_copied hr (by decide) pass0 rfl (pa_cons (pv 1) pa_nil)))), ?_⟩
  rintro p ds R hl ⟨a, rfl, ga, hR⟩
  walk_at "dl0"
  refine rs_ost1 (a := p) (C := C) ?_
  walk_at "dl"
  refine ⟨rfl, _, rfl, ga, _, rfl, rfl, rfl, ox, na_what, ?_⟩
  intro dx
  exact ⟨dx, _, rfl, hR⟩
abbrev st_BadWay___init__ : Stmt := inClass (topR 15) 0
abbrev N_BadWay___init__ : List Str := ["self", "at"]
theorem sc_BadWay___init__ : FnScope N_BadWay___init__ ["self", "at"] (defScope st_BadWay___init__) := ⟨rfl, rfl, rfl, by decide +kernel, rfl, by decide +kernel, by decide +kernel⟩
abbrev sp_BadWay___init__ (K : PySem.W.Frag) (C : Addr) : Sp := spX K 1 C (fun ds R => ∃ a, ds = [a] ∧ gv a = true ∧ R [("at", a)])
theorem ok_BadWay___init__ {C : Addr} {P : Program} {w : World} {K : PySem.W.Frag} {mg : Str → Option Value} {base : Heap} (d : XAt K mg "BadWay" C "BadWay.__init__" st_BadWay___init__) (ox : OexC K C) (na_at : PySem.W.findIn K (.ref C) "at" = some none) (c_copied : CalG P w K mg base CX0 2 "copied" (sp_copied1 K)) : XG P w K mg base 3 "BadWay" "BadWay.__init__" st_BadWay___init__ C ["self", "at"] (sp_BadWay___init__ K C) := by
  refine XAt.xg d fun {f fd} F => fn_X (n := 1) F sc_BadWay___init__ rfl fun cdv A outer s H E hr => ?_
  have hu := hr.r.units
  have hv := hr.u65
  refine ⟨_, (pss_one (ps_ost (pv 0) (pe_cg c_copied hr (by decide) pass0 rfl (pa_cons (pv 1) pa_nil)))), ?_⟩
  rintro p ds R hl ⟨a, rfl, ga, hR⟩
  walk_at "dl0"
  refine rs_ost1 (a := p) (C := C) ?_
  walk_at "dl"
  refine ⟨rfl, _, rfl, ga, _, rfl, rfl, rfl, ox, na_at, ?_⟩
  intro dx
  exact ⟨dx, _, rfl, hR⟩
abbrev st_Mismatch___init__ : Stmt := inClass (topR 16) 0
abbrev N_Mismatch___init__ : List Str := ["self", "first", "second"]
theorem sc_Mismatch___init__ : FnScope N_Mismatch___init__ ["self", "first", "second"] (defScope st_Mismatch___init__) := ⟨rfl, rfl, rfl, by decide +kernel, rfl, by decide +kernel, by decide +kernel⟩
abbrev sp_Mismatch___init__ (K : PySem.W.Frag) (C : Addr) : Sp := spX K 2 C (fun ds R => ∃ a b, ds = [a, b] ∧ gv a = true ∧ gv b = true ∧ R [("second", b), ("first", a)])
theorem ok_Mismatch___init__ {C : Addr} {P : Program} {w : World} {K : PySem.W.Frag} {mg : Str → Option Value} {base : Heap} (d : XAt K mg "Mismatch" C "Mismatch.__init__" st_Mismatch___init__) (ox : OexC K C) (na_first : PySem.W.findIn K (.ref C) "first" = some none) (na_second : PySem.W.findIn K (.ref C) "second" = some none) (c_copied : CalG P w K mg base CX0 2 "copied" (sp_copied1 K)) : XG P w K mg base 3 "Mismatch" "Mismatch.__init__" st_Mismatch___init__ C ["self", "first", "second"] (sp_Mismatch___init__ K C) := by
  refine XAt.xg d fun {f fd} F => fn_X (n := 2) F sc_Mismatch___init__ rfl fun cdv A outer s H E hr => ?_
  have hu := hr.r.units
  have hv := hr.u65
  refine ⟨_, (pss_cons (ps_ost (pv 0) (pe_cg c_copied hr (by decide) pass0 rfl (pa_cons (pv 1) pa_nil)))
      (pss_one (ps_ost (pv 0) (pe_cg c_copied hr (by decide) pass0 rfl (pa_cons (pv 2) pa_nil))))), ?_⟩
  rintro p ds R hl ⟨a, b, rfl, ga, gb, hR⟩
  walk_at "dl0"
  refine rs_seq ?_
  refine rs_ost1 (a := p) (C := C) ?_
  walk_at "dl"
  refine ⟨rfl, _, rfl, ga, _, rfl, rfl, rfl, ox, na_first, ?_⟩
  intro dx
  refine rs_ost2 (a := p) (C := C) (dx := dx) (fs := [("first", a)]) ?_
  walk_at "dl"
  refine ⟨rfl, _, rfl, gb, _, rfl, rfl, rfl, ox, na_second, Nat.le_of_ble_eq_true rfl, ?_⟩
  exact ⟨dx, _, rfl, hR⟩
abbrev st_BadDocument___init__ : Stmt := inClass (topR 17) 0
abbrev N_BadDocument___init__ : List Str := ["self", "at"]
theorem sc_BadDocument___init__ : FnScope N_BadDocument___init__ ["self", "at"] (defScope st_BadDocument___init__) := ⟨rfl, rfl, rfl, by decide +kernel, rfl, by decide +kernel, by decide +kernel⟩
abbrev sp_BadDocument___init__ (K : PySem.W.Frag) (C : Addr) : Sp := spX K 1 C (fun ds R => ∃ a, ds = [a] ∧ gv a = true ∧ R [("at", a)])
theorem ok_BadDocument___init__ {C : Addr} {P : Program} {w : World} {K : PySem.W.Frag} {mg : Str → Option Value} {base : Heap} (d : XAt K mg "BadDocument" C "BadDocument.__init__" st_BadDocument___init__) (ox : OexC K C) (na_at : PySem.W.findIn K (.ref C) "at" = some none) (c_copied : CalG P w K mg base CX0 2 "copied" (sp_copied1 K)) : XG P w K mg base 3 "BadDocument" "BadDocument.__init__" st_BadDocument___init__ C ["self", "at"] (sp_BadDocument___init__ K C) := by
  refine XAt.xg d fun {f fd} F => fn_X (n := 1) F sc_BadDocument___init__ rfl fun cdv A outer s H E hr => ?_
  have hu := hr.r.units
  have hv := hr.u65
  refine ⟨_, (pss_one (ps_ost (pv 0) (pe_cg c_copied hr (by decide) pass0 rfl (pa_cons (pv 1) pa_nil)))), ?_⟩
  rintro p ds R hl ⟨a, rfl, ga, hR⟩
  walk_at "dl0"
  refine rs_ost1 (a := p) (C := C) ?_
  walk_at "dl"
  refine ⟨rfl, _, rfl, ga, _, rfl, rfl, rfl, ox, na_at, ?_⟩
  intro dx
  exact ⟨dx, _, rfl, hR⟩
abbrev st_BadHook___init__ : Stmt := inClass (topR 18) 0
abbrev N_BadHook___init__ : List Str := ["self", "what"]
theorem sc_BadHook___init__ : FnScope N_BadHook___init__ ["self", "what"] (defScope st_BadHook___init__) := ⟨rfl, rfl, rfl, by decide +kernel, rfl, by decide +kernel, by decide +kernel⟩
abbrev sp_BadHook___init__ (K : PySem.W.Frag) (C : Addr) : Sp := spX K 1 C (fun ds R => ∃ a, ds = [a] ∧ gv a = true ∧ R [("what", a)])
theorem ok_BadHook___init__ {C : Addr} {P : Program} {w : World} {K : PySem.W.Frag} {mg : Str → Option Value} {base : Heap} (d : XAt K mg "BadHook" C "BadHook.__init__" st_BadHook___init__) (ox : OexC K C) (na_what : PySem.W.findIn K (.ref C) "what" = some none) (c_copied : CalG P w K mg base CX0 2 "copied" (sp_copied1 K)) : XG P w K mg base 3 "BadHook" "BadHook.__init__" st_BadHook___init__ C ["self", "what"] (sp_BadHook___init__ K C) := by
  refine XAt.xg d fun {f fd} F => fn_X (n := 1) F sc_BadHook___init__ rfl fun cdv A outer s H E hr => ?_
  have hu := hr.r.units
  have hv := hr.u65
  refine ⟨_, (pss_one (ps_ost (pv 0) (pe_cg c_copied hr (by decide) pass0 rfl (pa_cons (pv 1) pa_nil)))), ?_⟩
  rintro p ds R hl ⟨a, rfl, ga, hR⟩
  walk_at "dl0"
  refine rs_ost1 (a := p) (C := C) ?_
  walk_at "dl"
  refine ⟨rfl, _, rfl, ga, _, rfl, rfl, rfl, ox, na_what, ?_⟩
  intro dx
  exact ⟨dx, _, rfl, hR⟩
abbrev st_BadBook___init__ : Stmt := inClass (topR 19) 0
abbrev N_BadBook___init__ : List Str := ["self", "what", "at"]
theorem sc_BadBook___init__ : FnScope N_BadBook___init__ ["self", "what", "at"] (defScope st_BadBook___init__) := ⟨rfl, rfl, rfl, by decide +kernel, rfl, by decide +kernel, by decide +kernel⟩
abbrev sp_BadBook___init__ (K : PySem.W.Frag) (C : Addr) : Sp := spX K 2 C (fun ds R => ∃ a b, ds = [a, b] ∧ gv a = true ∧ gv b = true ∧ R [("at", b), ("what", a)])
theorem ok_BadBook___init__ {C : Addr} {P : Program} {w : World} {K : PySem.W.Frag} {mg : Str → Option Value} {base : Heap} (d : XAt K mg "BadBook" C "BadBook.__init__" st_BadBook___init__) (ox : OexC K C) (na_what : PySem.W.findIn K (.ref C) "what" = some none) (na_at : PySem.W.findIn K (.ref C) "at" = some none) (c_copied : CalG P w K mg base CX0 2 "copied" (sp_copied1 K)) : XG P w K mg base 3 "BadBook" "BadBook.__init__" st_BadBook___init__ C ["self", "what", "at"] (sp_BadBook___init__ K C) := by
  refine XAt.xg d fun {f fd} F => fn_X (n := 2) F sc_BadBook___init__ rfl fun cdv A outer s H E hr => ?_
  have hu := hr.r.units
  have hv := hr.u65
  refine ⟨_, (pss_cons (ps_ost (pv 0) (pe_cg c_copied hr (by decide) pass0 rfl (pa_cons (pv 1) pa_nil)))
      (pss_one (ps_ost (pv 0) (pe_cg c_copied hr (by decide) pass0 rfl (pa_cons (pv 2) pa_nil))))), ?_⟩
  rintro p ds R hl ⟨a, b, rfl, ga, gb, hR⟩
  walk_at "dl0"
  refine rs_seq ?_
  refine rs_ost1 (a := p) (C := C) ?_
  walk_at "dl"
  refine ⟨rfl, _, rfl, ga, _, rfl, rfl, rfl, ox, na_what, ?_⟩
  intro dx
  refine rs_ost2 (a := p) (C := C) (dx := dx) (fs := [("what", a)]) ?_
  walk_at "dl"
  refine ⟨rfl, _, rfl, gb, _, rfl, rfl, rfl, ox, na_at, Nat.le_of_ble_eq_true rfl, ?_⟩
  exact ⟨dx, _, rfl, hR⟩
abbrev st_Crooked___init__ : Stmt := inClass (topR 20) 0
abbrev N_Crooked___init__ : List Str := ["self", "where"]
theorem sc_Crooked___init__ : FnScope N_Crooked___init__ ["self", "where"] (defScope st_Crooked___init__) := ⟨rfl, rfl, rfl, by decide +kernel, rfl, by decide +kernel, by decide +kernel⟩
abbrev sp_Crooked___init__ (K : PySem.W.Frag) (C : Addr) : Sp := spX K 1 C (fun ds R => ∃ a, ds = [a] ∧ gv a = true ∧ R [("where", a)])
theorem ok_Crooked___init__ {C : Addr} {P : Program} {w : World} {K : PySem.W.Frag} {mg : Str → Option Value} {base : Heap} (d : XAt K mg "Crooked" C "Crooked.__init__" st_Crooked___init__) (ox : OexC K C) (na_where : PySem.W.findIn K (.ref C) "where" = some none) (c_copied : CalG P w K mg base CX0 2 "copied" (sp_copied1 K)) : XG P w K mg base 3 "Crooked" "Crooked.__init__" st_Crooked___init__ C ["self", "where"] (sp_Crooked___init__ K C) := by
  refine XAt.xg d fun {f fd} F => fn_X (n := 1) F sc_Crooked___init__ rfl fun cdv A outer s H E hr => ?_
  have hu := hr.r.units
  have hv := hr.u65
  refine ⟨_, (pss_one (ps_ost (pv 0) (pe_cg c_copied hr (by decide) pass0 rfl (pa_cons (pv 1) pa_nil)))), ?_⟩
  rintro p ds R hl ⟨a, rfl, ga, hR⟩
  walk_at "dl0"
  refine rs_ost1 (a := p) (C := C) ?_
  walk_at "dl"
  refine ⟨rfl, _, rfl, ga, _, rfl, rfl, rfl, ox, na_where, ?_⟩
  intro dx
  exact ⟨dx, _, rfl, hR⟩
abbrev st_BadLine___init__ : Stmt := inClass (topR 21) 0
abbrev N_BadLine___init__ : List Str := ["self", "at"]
theorem sc_BadLine___init__ : FnScope N_BadLine___init__ ["self", "at"] (defScope st_BadLine___init__) := ⟨rfl, rfl, rfl, by decide +kernel, rfl, by decide +kernel, by decide +kernel⟩
abbrev sp_BadLine___init__ (K : PySem.W.Frag) (C : Addr) : Sp := spX K 1 C (fun ds R => ∃ a, ds = [a] ∧ gv a = true ∧ R [("at", a)])
theorem ok_BadLine___init__ {C : Addr} {P : Program} {w : World} {K : PySem.W.Frag} {mg : Str → Option Value} {base : Heap} (d : XAt K mg "BadLine" C "BadLine.__init__" st_BadLine___init__) (ox : OexC K C) (na_at : PySem.W.findIn K (.ref C) "at" = some none) (c_copied : CalG P w K mg base CX0 2 "copied" (sp_copied1 K)) : XG P w K mg base 3 "BadLine" "BadLine.__init__" st_BadLine___init__ C ["self", "at"] (sp_BadLine___init__ K C) := by
  refine XAt.xg d fun {f fd} F => fn_X (n := 1) F sc_BadLine___init__ rfl fun cdv A outer s H E hr => ?_
  have hu := hr.r.units
  have hv := hr.u65
  refine ⟨_, (pss_one (ps_ost (pv 0) (pe_cg c_copied hr (by decide) pass0 rfl (pa_cons (pv 1) pa_nil)))), ?_⟩
  rintro p ds R hl ⟨a, rfl, ga, hR⟩
  walk_at "dl0"
  refine rs_ost1 (a := p) (C := C) ?_
  walk_at "dl"
  refine ⟨rfl, _, rfl, ga, _, rfl, rfl, rfl, ox, na_at, ?_⟩
  intro dx
  exact ⟨dx, _, rfl, hR⟩
abbrev st_NoDocument___init__ : Stmt := inClass (topR 22) 0
abbrev N_NoDocument___init__ : List Str := ["self", "name", "key"]
theorem sc_NoDocument___init__ : FnScope N_NoDocument___init__ ["self", "name", "key"] (defScope st_NoDocument___init__) := ⟨rfl, rfl, rfl, by decide +kernel, rfl, by decide +kernel, by decide +kernel⟩
abbrev sp_NoDocument___init__ (K : PySem.W.Frag) (C : Addr) : Sp := spX K 2 C (fun ds R => ∃ a b, ds = [a, b] ∧ gv a = true ∧ gv b = true ∧ R [("key", b), ("name", a)])
theorem ok_NoDocument___init__ {C : Addr} {P : Program} {w : World} {K : PySem.W.Frag} {mg : Str → Option Value} {base : Heap} (d : XAt K mg "NoDocument" C "NoDocument.__init__" st_NoDocument___init__) (ox : OexC K C) (na_name : PySem.W.findIn K (.ref C) "name" = some none) (na_key : PySem.W.findIn K (.ref C) "key" = some none) (c_copied : CalG P w K mg base CX0 2 "copied" (sp_copied1 K)) : XG P w K mg base 3 "NoDocument" "NoDocument.__init__" st_NoDocument___init__ C ["self", "name", "key"] (sp_NoDocument___init__ K C) := by
  refine XAt.xg d fun {f fd} F => fn_X (n := 2) F sc_NoDocument___init__ rfl fun cdv A outer s H E hr => ?_
  have hu := hr.r.units
  have hv := hr.u65
  refine ⟨_, (pss_cons (ps_ost (pv 0) (pe_cg c_copied hr (by decide) pass0 rfl (pa_cons (pv 1) pa_nil)))
      (pss_one (ps_ost (pv 0) (pe_cg c_copied hr (by decide) pass0 rfl (pa_cons (pv 2) pa_nil))))), ?_⟩
  rintro p ds R hl ⟨a, b, rfl, ga, gb, hR⟩
  walk_at "dl0"
  refine rs_seq ?_
  refine rs_ost1 (a := p) (C := C) ?_
  walk_at "dl"
  refine ⟨rfl, _, rfl, ga, _, rfl, rfl, rfl, ox, na_name, ?_⟩
  intro dx
  refine rs_ost2 (a := p) (C := C) (dx := dx) (fs := [("name", a)]) ?_
  walk_at "dl"
  refine ⟨rfl, _, rfl, gb, _, rfl, rfl, rfl, ox, na_key, Nat.le_of_ble_eq_true rfl, ?_⟩
  exact ⟨dx, _, rfl, hR⟩
abbrev st_TooLong___init__ : Stmt := inClass (topR 23) 0
abbrev N_TooLong___init__ : List Str := ["self", "name", "key", "most"]
theorem sc_TooLong___init__ : FnScope N_TooLong___init__ ["self", "name", "key", "most"] (defScope st_TooLong___init__) := ⟨rfl, rfl, rfl, by decide +kernel, rfl, by decide +kernel, by decide +kernel⟩
abbrev sp_TooLong___init__ (K : PySem.W.Frag) (C : Addr) : Sp := spX K 3 C (fun ds R => ∃ a b c, ds = [a, b, c] ∧ gv a = true ∧ gv b = true ∧ gv c = true ∧ R [("most", c), ("key", b), ("name", a)])
theorem ok_TooLong___init__ {C : Addr} {P : Program} {w : World} {K : PySem.W.Frag} {mg : Str → Option Value} {base : Heap} (d : XAt K mg "TooLong" C "TooLong.__init__" st_TooLong___init__) (ox : OexC K C) (na_name : PySem.W.findIn K (.ref C) "name" = some none) (na_key : PySem.W.findIn K (.ref C) "key" = some none) (na_most : PySem.W.findIn K (.ref C) "most" = some none) (c_copied : CalG P w K mg base CX0 2 "copied" (sp_copied1 K)) : XG P w K mg base 3 "TooLong" "TooLong.__init__" st_TooLong___init__ C ["self", "name", "key", "most"] (sp_TooLong___init__ K C) := by
  refine XAt.xg d fun {f fd} F => fn_X (n := 3) F sc_TooLong___init__ rfl fun cdv A outer s H E hr => ?_
  have hu := hr.r.units
  have hv := hr.u65
  refine ⟨_, (pss_cons (ps_ost (pv 0) (pe_cg c_copied hr (by decide) pass0 rfl (pa_cons (pv 1) pa_nil)))
      (pss_cons (ps_ost (pv 0) (pe_cg c_copied hr (by decide) pass0 rfl (pa_cons (pv 2) pa_nil)))
      (pss_one (ps_ost (pv 0) (pe_cg c_copied hr (by decide) pass0 rfl (pa_cons (pv 3) pa_nil)))))), ?_⟩
  rintro p ds R hl ⟨a, b, c, rfl, ga, gb, gc, hR⟩
  walk_at "dl0"
  refine rs_seq ?_
  refine rs_ost1 (a := p) (C := C) ?_
  walk_at "dl"
  refine ⟨rfl, _, rfl, ga, _, rfl, rfl, rfl, ox, na_name, ?_⟩
  intro dx
  refine rs_seq ?_
  refine rs_ost2 (a := p) (C := C) (dx := dx) (fs := [("name", a)]) ?_
  walk_at "dl"
  refine ⟨rfl, _, rfl, gb, _, rfl, rfl, rfl, ox, na_key, Nat.le_of_ble_eq_true rfl, ?_⟩
  refine rs_ost2 (a := p) (C := C) (dx := dx) (fs := [("key", b), ("name", a)]) ?_
  walk_at "dl"
  refine ⟨rfl, _, rfl, gc, _, rfl, rfl, rfl, ox, na_most, Nat.le_of_ble_eq_true rfl, ?_⟩
  exact ⟨dx, _, rfl, hR⟩
abbrev st_Refused___init__ : Stmt := inClass (topR 24) 0
abbrev N_Refused___init__ : List Str := ["self", "at", "why"]
theorem sc_Refused___init__ : FnScope N_Refused___init__ ["self", "at", "why"] (defScope st_Refused___init__) := ⟨rfl, rfl, rfl, by decide +kernel, rfl, by decide +kernel, by decide +kernel⟩
abbrev sp_Refused___init__ (K : PySem.W.Frag) (C : Addr) : Sp := spX K 2 C (fun ds R => ∃ a b, ds = [a, b] ∧ gv a = true ∧ gv b = true ∧ R [("why", b), ("at", a)])
theorem ok_Refused___init__ {C : Addr} {P : Program} {w : World} {K : PySem.W.Frag} {mg : Str → Option Value} {base : Heap} (d : XAt K mg "Refused" C "Refused.__init__" st_Refused___init__) (ox : OexC K C) (na_at : PySem.W.findIn K (.ref C) "at" = some none) (na_why : PySem.W.findIn K (.ref C) "why" = some none) (c_copied : CalG P w K mg base CX0 2 "copied" (sp_copied1 K)) : XG P w K mg base 3 "Refused" "Refused.__init__" st_Refused___init__ C ["self", "at", "why"] (sp_Refused___init__ K C) := by
  refine XAt.xg d fun {f fd} F => fn_X (n := 2) F sc_Refused___init__ rfl fun cdv A outer s H E hr => ?_
  have hu := hr.r.units
  have hv := hr.u65
  refine ⟨_, (pss_cons (ps_ost (pv 0) (pe_cg c_copied hr (by decide) pass0 rfl (pa_cons (pv 1) pa_nil)))
      (pss_one (ps_ost (pv 0) (pe_cg c_copied hr (by decide) pass0 rfl (pa_cons (pv 2) pa_nil))))), ?_⟩
  rintro p ds R hl ⟨a, b, rfl, ga, gb, hR⟩
  walk_at "dl0"
  refine rs_seq ?_
  refine rs_ost1 (a := p) (C := C) ?_
  walk_at "dl"
  refine ⟨rfl, _, rfl, ga, _, rfl, rfl, rfl, ox, na_at, ?_⟩
  intro dx
  refine rs_ost2 (a := p) (C := C) (dx := dx) (fs := [("at", a)]) ?_
  walk_at "dl"
  refine ⟨rfl, _, rfl, gb, _, rfl, rfl, rfl, ox, na_why, Nat.le_of_ble_eq_true rfl, ?_⟩
  exact ⟨dx, _, rfl, hR⟩
abbrev st_Failed___init__ : Stmt := inClass (topR 25) 0
abbrev N_Failed___init__ : List Str := ["self", "at", "why"]
theorem sc_Failed___init__ : FnScope N_Failed___init__ ["self", "at", "why"] (defScope st_Failed___init__) := ⟨rfl, rfl, rfl, by decide +kernel, rfl, by decide +kernel, by decide +kernel⟩
abbrev sp_Failed___init__ (K : PySem.W.Frag) (C : Addr) : Sp := spX K 2 C (fun ds R => ∃ a b, ds = [a, b] ∧ gv a = true ∧ gv b = true ∧ R [("why", b), ("at", a)])
theorem ok_Failed___init__ {C : Addr} {P : Program} {w : World} {K : PySem.W.Frag} {mg : Str → Option Value} {base : Heap} (d : XAt K mg "Failed" C "Failed.__init__" st_Failed___init__) (ox : OexC K C) (na_at : PySem.W.findIn K (.ref C) "at" = some none) (na_why : PySem.W.findIn K (.ref C) "why" = some none) (c_copied : CalG P w K mg base CX0 2 "copied" (sp_copied1 K)) : XG P w K mg base 3 "Failed" "Failed.__init__" st_Failed___init__ C ["self", "at", "why"] (sp_Failed___init__ K C) := by
  refine XAt.xg d fun {f fd} F => fn_X (n := 2) F sc_Failed___init__ rfl fun cdv A outer s H E hr => ?_
  have hu := hr.r.units
  have hv := hr.u65
  refine ⟨_, (pss_cons (ps_ost (pv 0) (pe_cg c_copied hr (by decide) pass0 rfl (pa_cons (pv 1) pa_nil)))
      (pss_one (ps_ost (pv 0) (pe_cg c_copied hr (by decide) pass0 rfl (pa_cons (pv 2) pa_nil))))), ?_⟩
  rintro p ds R hl ⟨a, b, rfl, ga, gb, hR⟩
  walk_at "dl0"
  refine rs_seq ?_
  refine rs_ost1 (a := p) (C := C) ?_
  walk_at "dl"
  refine ⟨rfl, _, rfl, ga, _, rfl, rfl, rfl, ox, na_at, ?_⟩
  intro dx
  refine rs_ost2 (a := p) (C := C) (dx := dx) (fs := [("at", a)]) ?_
  walk_at "dl"
  refine ⟨rfl, _, rfl, gb, _, rfl, rfl, rfl, ox, na_why, Nat.le_of_ble_eq_true rfl, ?_⟩
  exact ⟨dx, _, rfl, hR⟩

/-- the classes and their names, O: the class under all of them -/
structure Tab (K : PySem.W.Frag) (O : Addr) (T : List (Addr × Str)) : Prop where
  xc : ∀ p ∈ T, XCls K O p.1
  nd : (T.map (·.1)).Nodup
  no : ∀ p ∈ T, p.1 ≠ O
  oc : (PySem.W.clsIn K O).isSome = true
  ot : PySem.W.typeIn K (.ref O) = some (.type "type")
def isB (O C D : Addr) : Bool := decide (D = C) || decide (D = O)
def prs (O C : Addr) (T : List (Addr × Str)) : List Da := T.map fun p => .tup [.str p.2, .bl (isB O C p.1)]
def kept (O C : Addr) (T : List (Addr × Str)) : List Da := (T.filter fun p => isB O C p.1).map fun p => .str p.2
theorem kept_none {O C : Addr} : ∀ {T : List (Addr × Str)}, (∀ p ∈ T, p.1 ≠ O) → C ∉ T.map (·.1) → kept O C T = []
  | [], _, _ => rfl
  | p :: T, h, hn => by
    have h1 : isB O C p.1 = false := by
      have a : p.1 ≠ C := fun z => hn (by simp [z])
      have b := h p (by simp)
      simp [isB, a, b]
    unfold kept
    rw [List.filter_cons, h1]
    exact kept_none (fun q hq => h q (List.mem_cons_of_mem _ hq)) fun z => hn (List.mem_cons_of_mem _ z)
theorem kept_one {O C : Addr} {n : Str} : ∀ {T : List (Addr × Str)}, (∀ p ∈ T, p.1 ≠ O) → (T.map (·.1)).Nodup → (C, n) ∈ T → kept O C T = [.str n]
  | [], _, _, h => nomatch h
  | p :: T, h, nd, hm => by
    have nd' := List.nodup_cons.mp (show (p.1 :: T.map (·.1)).Nodup from nd)
    rcases List.mem_cons.mp hm with z | z
    · subst z
      have h1 : isB O C C = true := by simp [isB]
      unfold kept
      rw [List.filter_cons, h1]
      show Da.str n :: kept O C T = _
      rw [kept_none (fun q hq => h q (List.mem_cons_of_mem _ hq)) nd'.1]
    · have hc : C ∈ T.map (·.1) := List.mem_map.mpr ⟨_, z, rfl⟩
      have h1 : isB O C p.1 = false := by
        have a : p.1 ≠ C := fun y => nd'.1 (by rw [y]; exact hc)
        have b := h p (by simp)
        simp [isB, a, b]
      unfold kept
      rw [List.filter_cons, h1]
      exact kept_one (fun q hq => h q (List.mem_cons_of_mem _ hq)) nd'.2 z
theorem kept_take {O C : Addr} {T : List (Addr × Str)} {i : Nat} {p : Addr × Str} (h : T[i]? = some p) : kept O C (T.take (i + 1)) = kept O C (T.take i) ++ (if isB O C p.1 then [.str p.2] else []) := by
  unfold kept
  rw [List.take_add_one, h, List.filter_append, List.map_append]
  congr 1
  show List.map _ (List.filter _ [p]) = _
  rw [List.filter_cons]
  cases isB O C p.1 <;> rfl
theorem prs_get {O C : Addr} {T : List (Addr × Str)} {i : Nat} {d : Da} (h : (prs O C T)[i]? = some d) : ∃ p, T[i]? = some p ∧ d = .tup [.str p.2, .bl (isB O C p.1)] := by
  unfold prs at h
  rw [List.getElem?_map] at h
  cases e : T[i]? with
  | none => rw [e] at h; cases h
  | some p => rw [e] at h; exact ⟨p, rfl, (Option.some.inj h).symm⟩
theorem kept_len {O C : Addr} {T : List (Addr × Str)} : (kept O C T).length ≤ T.length := by
  unfold kept
  rw [List.length_map]
  exact List.length_filter_le _ _
theorem Tab.kit {K : PySem.W.Frag} {O : Addr} {T : List (Addr × Str)} (tb : Tab K O T) {p q : Addr × Str} (hp : p ∈ T) (hq : q ∈ T) : PySem.W.kitOne K (.ref p.1) (.ref q.1) = some (isB O p.1 q.1) := (tb.xc p hp).kit (tb.xc q hq).cl (tb.xc q hq).ox.tyC
theorem Tab.kitO {K : PySem.W.Frag} {O : Addr} {T : List (Addr × Str)} (tb : Tab K O T) {p : Addr × Str} (hp : p ∈ T) : PySem.W.kitOne K (.ref p.1) (.ref O) = some true := by
  rw [(tb.xc p hp).kit tb.oc tb.ot]
  simp
/-- which class it is -/
def cKinds (T : List (Addr × Str)) : CA := fun ds R => ∃ C fs n, ds = [.exc C fs] ∧ (C, n) ∈ T ∧ R (.lst [.str n])
abbrev TTab (T : Nat → Addr) : List (Addr × Str) := [(T 0, "BadSchema"), (T 1, "BadStore"), (T 2, "BadDeed"), (T 3, "NoTable"), (T 4, "NoColumn"), (T 5, "NoRow"), (T 6, "Taken"), (T 7, "BadCell"), (T 8, "Held"), (T 9, "NotBulk"), (T 10, "TooMany"), (T 11, "BadWay"), (T 12, "Mismatch"), (T 13, "BadDocument"), (T 14, "BadHook"), (T 15, "BadBook"), (T 16, "Crooked"), (T 17, "BadLine"), (T 18, "NoDocument"), (T 19, "TooLong"), (T 20, "Refused"), (T 21, "Failed"), (T 22, "NotKept")]
abbrev st__law_kinds : Stmt := topR 33
abbrev N__law_kinds : List Str := ["_law_e", "_law_pairs", "_law_name", "_law_holds"]
theorem sc__law_kinds : FnScope N__law_kinds ["_law_e"] (defScope st__law_kinds) := ⟨rfl, rfl, rfl, by decide +kernel, rfl, by decide +kernel, by decide +kernel⟩
abbrev sp__law_kinds (K : PySem.W.Frag) (T : Nat → Addr) : Sp := spA K 1 (cKinds (TTab T))
theorem ok__law_kinds {T : Nat → Addr} {P : Program} {w : World} {K : PySem.W.Frag} {mg : Str → Option Value} {base : Heap} (d : DefAt K mg "_law_kinds" st__law_kinds ["_law_e"]) (g_BadBook : mg "BadBook" = some (.ref (T 15))) (g_BadCell : mg "BadCell" = some (.ref (T 7))) (g_BadDeed : mg "BadDeed" = some (.ref (T 2))) (g_BadDocument : mg "BadDocument" = some (.ref (T 13))) (g_BadHook : mg "BadHook" = some (.ref (T 14))) (g_BadLine : mg "BadLine" = some (.ref (T 17))) (g_BadSchema : mg "BadSchema" = some (.ref (T 0))) (g_BadStore : mg "BadStore" = some (.ref (T 1))) (g_BadWay : mg "BadWay" = some (.ref (T 11))) (g_Crooked : mg "Crooked" = some (.ref (T 16))) (g_Failed : mg "Failed" = some (.ref (T 21))) (g_Held : mg "Held" = some (.ref (T 8))) (g_Mismatch : mg "Mismatch" = some (.ref (T 12))) (g_NoColumn : mg "NoColumn" = some (.ref (T 4))) (g_NoDocument : mg "NoDocument" = some (.ref (T 18))) (g_NoRow : mg "NoRow" = some (.ref (T 5))) (g_NoTable : mg "NoTable" = some (.ref (T 3))) (g_NotBulk : mg "NotBulk" = some (.ref (T 9))) (g_NotKept : mg "NotKept" = some (.ref (T 22))) (g_Refused : mg "Refused" = some (.ref (T 20))) (g_Taken : mg "Taken" = some (.ref (T 6))) (g_TooLong : mg "TooLong" = some (.ref (T 19))) (g_TooMany : mg "TooMany" = some (.ref (T 10))) (n_isinstance : mg "isinstance" = none) (tb : Tab K (T 23) (TTab T)) : CalG P w K mg base CX0 1 "_law_kinds" (sp__law_kinds K T) := by
  refine DefAt.cal d fun {f fd} F => fn_A (n := 1) F sc__law_kinds rfl fun cdv A outer s H E hr => ?_
  have hu := hr.r.units
  have hv := hr.u65
  refine ⟨_, (pss_cons (ps_set (i := 1) sc__law_kinds.nd rfl (Or.inl rfl) (pe_lst (pa_cons (pe_tup (pa_cons pe_str (pa_cons (pe_callB (call_isx (O := (T 23))) rfl n_isinstance (by decide +kernel) (pa_cons (pv 0) (pa_cons (pe_glob (v := V.ref (T 0)) rfl g_BadSchema rfl) pa_nil))) pa_nil))) (pa_cons (pe_tup (pa_cons pe_str (pa_cons (pe_callB (call_isx (O := (T 23))) rfl n_isinstance (by decide +kernel) (pa_cons (pv 0) (pa_cons (pe_glob (v := V.ref (T 1)) rfl g_BadStore rfl) pa_nil))) pa_nil))) (pa_cons (pe_tup (pa_cons pe_str (pa_cons (pe_callB (call_isx (O := (T 23))) rfl n_isinstance (by decide +kernel) (pa_cons (pv 0) (pa_cons (pe_glob (v := V.ref (T 2)) rfl g_BadDeed rfl) pa_nil))) pa_nil))) (pa_cons (pe_tup (pa_cons pe_str (pa_cons (pe_callB (call_isx (O := (T 23))) rfl n_isinstance (by decide +kernel) (pa_cons (pv 0) (pa_cons (pe_glob (v := V.ref (T 3)) rfl g_NoTable rfl) pa_nil))) pa_nil))) (pa_cons (pe_tup (pa_cons pe_str (pa_cons (pe_callB (call_isx (O := (T 23))) rfl n_isinstance (by decide +kernel) (pa_cons (pv 0) (pa_cons (pe_glob (v := V.ref (T 4)) rfl g_NoColumn rfl) pa_nil))) pa_nil))) (pa_cons (pe_tup (pa_cons pe_str (pa_cons (pe_callB (call_isx (O := (T 23))) rfl n_isinstance (by decide +kernel) (pa_cons (pv 0) (pa_cons (pe_glob (v := V.ref (T 5)) rfl g_NoRow rfl) pa_nil))) pa_nil))) (pa_cons (pe_tup (pa_cons pe_str (pa_cons (pe_callB (call_isx (O := (T 23))) rfl n_isinstance (by decide +kernel) (pa_cons (pv 0) (pa_cons (pe_glob (v := V.ref (T 6)) rfl g_Taken rfl) pa_nil))) pa_nil))) (pa_cons (pe_tup (pa_cons pe_str (pa_cons (pe_callB (call_isx (O := (T 23))) rfl n_isinstance (by decide +kernel) (pa_cons (pv 0) (pa_cons (pe_glob (v := V.ref (T 7)) rfl g_BadCell rfl) pa_nil))) pa_nil))) (pa_cons (pe_tup (pa_cons pe_str (pa_cons (pe_callB (call_isx (O := (T 23))) rfl n_isinstance (by decide +kernel) (pa_cons (pv 0) (pa_cons (pe_glob (v := V.ref (T 8)) rfl g_Held rfl) pa_nil))) pa_nil))) (pa_cons (pe_tup (pa_cons pe_str (pa_cons (pe_callB (call_isx (O := (T 23))) rfl n_isinstance (by decide +kernel) (pa_cons (pv 0) (pa_cons (pe_glob (v := V.ref (T 9)) rfl g_NotBulk rfl) pa_nil))) pa_nil))) (pa_cons (pe_tup (pa_cons pe_str (pa_cons (pe_callB (call_isx (O := (T 23))) rfl n_isinstance (by decide +kernel) (pa_cons (pv 0) (pa_cons (pe_glob (v := V.ref (T 10)) rfl g_TooMany rfl) pa_nil))) pa_nil))) (pa_cons (pe_tup (pa_cons pe_str (pa_cons (pe_callB (call_isx (O := (T 23))) rfl n_isinstance (by decide +kernel) (pa_cons (pv 0) (pa_cons (pe_glob (v := V.ref (T 11)) rfl g_BadWay rfl) pa_nil))) pa_nil))) (pa_cons (pe_tup (pa_cons pe_str (pa_cons (pe_callB (call_isx (O := (T 23))) rfl n_isinstance (by decide +kernel) (pa_cons (pv 0) (pa_cons (pe_glob (v := V.ref (T 12)) rfl g_Mismatch rfl) pa_nil))) pa_nil))) (pa_cons (pe_tup (pa_cons pe_str (pa_cons (pe_callB (call_isx (O := (T 23))) rfl n_isinstance (by decide +kernel) (pa_cons (pv 0) (pa_cons (pe_glob (v := V.ref (T 13)) rfl g_BadDocument rfl) pa_nil))) pa_nil))) (pa_cons (pe_tup (pa_cons pe_str (pa_cons (pe_callB (call_isx (O := (T 23))) rfl n_isinstance (by decide +kernel) (pa_cons (pv 0) (pa_cons (pe_glob (v := V.ref (T 14)) rfl g_BadHook rfl) pa_nil))) pa_nil))) (pa_cons (pe_tup (pa_cons pe_str (pa_cons (pe_callB (call_isx (O := (T 23))) rfl n_isinstance (by decide +kernel) (pa_cons (pv 0) (pa_cons (pe_glob (v := V.ref (T 15)) rfl g_BadBook rfl) pa_nil))) pa_nil))) (pa_cons (pe_tup (pa_cons pe_str (pa_cons (pe_callB (call_isx (O := (T 23))) rfl n_isinstance (by decide +kernel) (pa_cons (pv 0) (pa_cons (pe_glob (v := V.ref (T 16)) rfl g_Crooked rfl) pa_nil))) pa_nil))) (pa_cons (pe_tup (pa_cons pe_str (pa_cons (pe_callB (call_isx (O := (T 23))) rfl n_isinstance (by decide +kernel) (pa_cons (pv 0) (pa_cons (pe_glob (v := V.ref (T 17)) rfl g_BadLine rfl) pa_nil))) pa_nil))) (pa_cons (pe_tup (pa_cons pe_str (pa_cons (pe_callB (call_isx (O := (T 23))) rfl n_isinstance (by decide +kernel) (pa_cons (pv 0) (pa_cons (pe_glob (v := V.ref (T 18)) rfl g_NoDocument rfl) pa_nil))) pa_nil))) (pa_cons (pe_tup (pa_cons pe_str (pa_cons (pe_callB (call_isx (O := (T 23))) rfl n_isinstance (by decide +kernel) (pa_cons (pv 0) (pa_cons (pe_glob (v := V.ref (T 19)) rfl g_TooLong rfl) pa_nil))) pa_nil))) (pa_cons (pe_tup (pa_cons pe_str (pa_cons (pe_callB (call_isx (O := (T 23))) rfl n_isinstance (by decide +kernel) (pa_cons (pv 0) (pa_cons (pe_glob (v := V.ref (T 20)) rfl g_Refused rfl) pa_nil))) pa_nil))) (pa_cons (pe_tup (pa_cons pe_str (pa_cons (pe_callB (call_isx (O := (T 23))) rfl n_isinstance (by decide +kernel) (pa_cons (pv 0) (pa_cons (pe_glob (v := V.ref (T 21)) rfl g_Failed rfl) pa_nil))) pa_nil))) (pa_cons (pe_tup (pa_cons pe_str (pa_cons (pe_callB (call_isx (O := (T 23))) rfl n_isinstance (by decide +kernel) (pa_cons (pv 0) (pa_cons (pe_glob (v := V.ref (T 22)) rfl g_NotKept rfl) pa_nil))) pa_nil))) pa_nil)))))))))))))))))))))))))
      (pss_one (ps_ret (pe_lc (own := [("_law_name", 2), ("_law_holds", 3)]) (g := gTup K 2 (gCons (gName 2) (gCons (gName 3) (gNil)))) (tt := tB (tVar 3)) (te := tVar 2) rfl sc__law_kinds.nd (pi_list (pv 1)) (blkOk_by (N := N__law_kinds) (sc := defScope st__law_kinds) (by decide +kernel)) (fun _ _ _ _ _ => (pg_tup rfl (pgs_cons (pg_name (i := 2) sc__law_kinds.nd rfl (Or.inl rfl)) (pgs_cons (pg_name (i := 3) sc__law_kinds.nd rfl (Or.inl rfl)) pgs_nil)))) (fun _ _ _ _ _ => (pts_one (pt_val (pv 3)))) (fun _ _ _ _ _ => (pv 2)))))), ?_⟩
  rintro ds R hl ⟨C, fs, n, rfl, hC, hR⟩
  have xC := tb.xc _ hC
  walk_at "dl0"
  refine rs_seq ?_
  refine rs_set ?_
  refine lst_d ?_
  walk_at "dl"
  refine isx_cls (D := T 0) xC (tb.kit hC (q := (T 0, "BadSchema")) (List.mem_of_getElem? (i := 0) rfl)) ?_
  walk_at "dl"
  refine isx_cls (D := T 1) xC (tb.kit hC (q := (T 1, "BadStore")) (List.mem_of_getElem? (i := 1) rfl)) ?_
  walk_at "dl"
  refine isx_cls (D := T 2) xC (tb.kit hC (q := (T 2, "BadDeed")) (List.mem_of_getElem? (i := 2) rfl)) ?_
  walk_at "dl"
  refine isx_cls (D := T 3) xC (tb.kit hC (q := (T 3, "NoTable")) (List.mem_of_getElem? (i := 3) rfl)) ?_
  walk_at "dl"
  refine isx_cls (D := T 4) xC (tb.kit hC (q := (T 4, "NoColumn")) (List.mem_of_getElem? (i := 4) rfl)) ?_
  walk_at "dl"
  refine isx_cls (D := T 5) xC (tb.kit hC (q := (T 5, "NoRow")) (List.mem_of_getElem? (i := 5) rfl)) ?_
  walk_at "dl"
  refine isx_cls (D := T 6) xC (tb.kit hC (q := (T 6, "Taken")) (List.mem_of_getElem? (i := 6) rfl)) ?_
  walk_at "dl"
  refine isx_cls (D := T 7) xC (tb.kit hC (q := (T 7, "BadCell")) (List.mem_of_getElem? (i := 7) rfl)) ?_
  walk_at "dl"
  refine isx_cls (D := T 8) xC (tb.kit hC (q := (T 8, "Held")) (List.mem_of_getElem? (i := 8) rfl)) ?_
  walk_at "dl"
  refine isx_cls (D := T 9) xC (tb.kit hC (q := (T 9, "NotBulk")) (List.mem_of_getElem? (i := 9) rfl)) ?_
  walk_at "dl"
  refine isx_cls (D := T 10) xC (tb.kit hC (q := (T 10, "TooMany")) (List.mem_of_getElem? (i := 10) rfl)) ?_
  walk_at "dl"
  refine isx_cls (D := T 11) xC (tb.kit hC (q := (T 11, "BadWay")) (List.mem_of_getElem? (i := 11) rfl)) ?_
  walk_at "dl"
  refine isx_cls (D := T 12) xC (tb.kit hC (q := (T 12, "Mismatch")) (List.mem_of_getElem? (i := 12) rfl)) ?_
  walk_at "dl"
  refine isx_cls (D := T 13) xC (tb.kit hC (q := (T 13, "BadDocument")) (List.mem_of_getElem? (i := 13) rfl)) ?_
  walk_at "dl"
  refine isx_cls (D := T 14) xC (tb.kit hC (q := (T 14, "BadHook")) (List.mem_of_getElem? (i := 14) rfl)) ?_
  walk_at "dl"
  refine isx_cls (D := T 15) xC (tb.kit hC (q := (T 15, "BadBook")) (List.mem_of_getElem? (i := 15) rfl)) ?_
  walk_at "dl"
  refine isx_cls (D := T 16) xC (tb.kit hC (q := (T 16, "Crooked")) (List.mem_of_getElem? (i := 16) rfl)) ?_
  walk_at "dl"
  refine isx_cls (D := T 17) xC (tb.kit hC (q := (T 17, "BadLine")) (List.mem_of_getElem? (i := 17) rfl)) ?_
  walk_at "dl"
  refine isx_cls (D := T 18) xC (tb.kit hC (q := (T 18, "NoDocument")) (List.mem_of_getElem? (i := 18) rfl)) ?_
  walk_at "dl"
  refine isx_cls (D := T 19) xC (tb.kit hC (q := (T 19, "TooLong")) (List.mem_of_getElem? (i := 19) rfl)) ?_
  walk_at "dl"
  refine isx_cls (D := T 20) xC (tb.kit hC (q := (T 20, "Refused")) (List.mem_of_getElem? (i := 20) rfl)) ?_
  walk_at "dl"
  refine isx_cls (D := T 21) xC (tb.kit hC (q := (T 21, "Failed")) (List.mem_of_getElem? (i := 21) rfl)) ?_
  walk_at "dl"
  refine isx_cls (D := T 22) xC (tb.kit hC (q := (T 22, "NotKept")) (List.mem_of_getElem? (i := 22) rfl)) ?_
  walk_at "dl"
  refine lc_o (tgIn_tup (tgsIn_cons gm_name (tgIn_name (by decide)) (tgsIn_cons gm_name (tgIn_name (by decide)) tgsIn_nil))) ?_
  walk_at "dl"
  refine ⟨prs (T 23) C (TTab T), IsL.dat _, fun i acc => acc = kept (T 23) C ((TTab T).take i), rfl, ?_, ?_⟩
  · rintro i e acc he rfl
    obtain ⟨q, hq, rfl⟩ := prs_get he
    refine rg_tup rfl ?_
    walk_at "dl"
    have hlen : (kept (T 23) C ((TTab T).take i)).length < 100000 := by
      have h1 := kept_len (O := T 23) (C := C) (T := (TTab T).take i)
      have h2 : ((TTab T).take i).length ≤ (TTab T).length := List.length_take_le' _ _
      have h3 : (TTab T).length = 23 := rfl
      omega
    refine ⟨fun hb => ?_, fun hb => ⟨rfl, ?_⟩⟩
    · walk_at "dl"
      refine ⟨hlen, rfl, ?_⟩
      rw [kept_take hq, hb]; rfl
    · rw [kept_take hq, hb]; simp
  · rintro acc rfl
    have hk := kept_one (T := TTab T) (n := n) tb.no tb.nd hC
    rw [show (TTab T).take (prs (T 23) C (TTab T)).length = TTab T from rfl, hk]
    exact ⟨_, rfl, hR⟩

/-- an exception that was made, and what it was made of -/
def Good (T : Nat → Addr) (x : Da) : Prop := ∃ C n fs ds, x = .tup [.str n, .exc C fs, .tup ds, .tup ds] ∧ (C, n) ∈ TTab T ∧ (∀ d ∈ ds, gv d = true) ∧ ds.length ≤ 3
def cMade1 (T : Nat → Addr) : CA := fun ds R => ∃ a, ds = [a] ∧ gv a = true ∧ ∀ L, (∀ x ∈ L, Good T x) → L.length ≤ 30 → R (.lst L)
def cMade2 (T : Nat → Addr) : CA := fun ds R => ∃ a b, ds = [a, b] ∧ gv a = true ∧ gv b = true ∧ ∀ L, (∀ x ∈ L, Good T x) → L.length ≤ 30 → R (.lst L)
def cMade3 (T : Nat → Addr) : CA := fun ds R => ∃ a b c, ds = [a, b, c] ∧ gv a = true ∧ gv b = true ∧ gv c = true ∧ ∀ L, (∀ x ∈ L, Good T x) → L.length ≤ 30 → R (.lst L)
theorem two_get {x e : Da} {j : Nat} (h : [x, x][j]? = some e) : e = x := by
  match j, h with
  | 0, h => simpa using h.symm
  | 1, h => simpa using h.symm
  | j + 2, h => simp at h
theorem good_app {T : Nat → Addr} {a b : List Da} (ha : ∀ x ∈ a, Good T x) (hb : ∀ x ∈ b, Good T x) : ∀ x ∈ a ++ b, Good T x := fun x hx => by
  rcases List.mem_append.mp hx with z | z
  · exact ha x z
  · exact hb x z
theorem good_one {T : Nat → Addr} {y : Da} (h : Good T y) : ∀ x ∈ [y], Good T x := fun x hx => by
  have : x = y := by simpa using hx
  rw [this]; exact h
theorem allN {P : Da → Prop} : ∀ x ∈ ([] : List Da), P x := fun _ h => nomatch h
theorem allC {P : Da → Prop} {y : Da} {l : List Da} (h : P y) (t : ∀ x ∈ l, P x) : ∀ x ∈ y :: l, P x := fun x hx => by
  rcases List.mem_cons.mp hx with z | z
  · rw [z]; exact h
  · exact t x z
def FT : List (Nat × Str) := [(0, ("at" : Str)), (1, ("at" : Str)), (2, ("deed" : Str)), (3, ("table" : Str)), (4, ("table" : Str)), (4, ("column" : Str)), (5, ("table" : Str)), (5, ("key" : Str)), (6, ("table" : Str)), (6, ("key" : Str)), (7, ("table" : Str)), (7, ("column" : Str)), (7, ("cell" : Str)), (8, ("table" : Str)), (8, ("key" : Str)), (9, ("table" : Str)), (9, ("column" : Str)), (10, ("what" : Str)), (11, ("at" : Str)), (12, ("first" : Str)), (12, ("second" : Str)), (13, ("at" : Str)), (14, ("what" : Str)), (15, ("what" : Str)), (15, ("at" : Str)), (16, ("where" : Str)), (17, ("at" : Str)), (18, ("name" : Str)), (18, ("key" : Str)), (19, ("name" : Str)), (19, ("key" : Str)), (19, ("most" : Str)), (20, ("at" : Str)), (20, ("why" : Str)), (21, ("at" : Str)), (21, ("why" : Str))]
theorem kb_BadDocument_0_at : KBxs "BadDocument.__init__" st_BadDocument___init__ ["self", "at"] 0 ["at"] [0] := fun kV doc pm an cdv ct u us ws h1 h2 => by
  match us, ws, h1, h2 with
  | [], [_], _, _ => rfl
theorem kb_BadDocument_1_ : KBxs "BadDocument.__init__" st_BadDocument___init__ ["self", "at"] 1 [] [0] := fun kV doc pm an cdv ct u us ws h1 h2 => by
  match us, ws, h1, h2 with
  | [_], [], _, _ => rfl
theorem kb_BadLine_0_at : KBxs "BadLine.__init__" st_BadLine___init__ ["self", "at"] 0 ["at"] [0] := fun kV doc pm an cdv ct u us ws h1 h2 => by
  match us, ws, h1, h2 with
  | [], [_], _, _ => rfl
theorem kb_BadLine_1_ : KBxs "BadLine.__init__" st_BadLine___init__ ["self", "at"] 1 [] [0] := fun kV doc pm an cdv ct u us ws h1 h2 => by
  match us, ws, h1, h2 with
  | [_], [], _, _ => rfl
theorem kb_BadSchema_0_at : KBxs "BadSchema.__init__" st_BadSchema___init__ ["self", "at"] 0 ["at"] [0] := fun kV doc pm an cdv ct u us ws h1 h2 => by
  match us, ws, h1, h2 with
  | [], [_], _, _ => rfl
theorem kb_BadSchema_1_ : KBxs "BadSchema.__init__" st_BadSchema___init__ ["self", "at"] 1 [] [0] := fun kV doc pm an cdv ct u us ws h1 h2 => by
  match us, ws, h1, h2 with
  | [_], [], _, _ => rfl
theorem kb_BadStore_0_at : KBxs "BadStore.__init__" st_BadStore___init__ ["self", "at"] 0 ["at"] [0] := fun kV doc pm an cdv ct u us ws h1 h2 => by
  match us, ws, h1, h2 with
  | [], [_], _, _ => rfl
theorem kb_BadStore_1_ : KBxs "BadStore.__init__" st_BadStore___init__ ["self", "at"] 1 [] [0] := fun kV doc pm an cdv ct u us ws h1 h2 => by
  match us, ws, h1, h2 with
  | [_], [], _, _ => rfl
theorem kb_BadWay_0_at : KBxs "BadWay.__init__" st_BadWay___init__ ["self", "at"] 0 ["at"] [0] := fun kV doc pm an cdv ct u us ws h1 h2 => by
  match us, ws, h1, h2 with
  | [], [_], _, _ => rfl
theorem kb_BadWay_1_ : KBxs "BadWay.__init__" st_BadWay___init__ ["self", "at"] 1 [] [0] := fun kV doc pm an cdv ct u us ws h1 h2 => by
  match us, ws, h1, h2 with
  | [_], [], _, _ => rfl
abbrev st__law_ats : Stmt := topR 34
abbrev N__law_ats : List Str := ["_law_a", "_law_made", "_law_name", "_law_e"]
theorem sc__law_ats : FnScope N__law_ats ["_law_a"] (defScope st__law_ats) := ⟨rfl, rfl, rfl, by decide +kernel, rfl, by decide +kernel, by decide +kernel⟩
abbrev sp__law_ats (K : PySem.W.Frag) (T : Nat → Addr) : Sp := spA K 1 (cMade1 T)
theorem ok__law_ats {T : Nat → Addr} {P : Program} {w : World} {K : PySem.W.Frag} {mg : Str → Option Value} {base : Heap} (d : DefAt K mg "_law_ats" st__law_ats ["_law_a"]) (c_BadDocument : XG P w K mg base 3 "BadDocument" "BadDocument.__init__" st_BadDocument___init__ (T 13) ["self", "at"] (sp_BadDocument___init__ K (T 13))) (c_BadLine : XG P w K mg base 3 "BadLine" "BadLine.__init__" st_BadLine___init__ (T 17) ["self", "at"] (sp_BadLine___init__ K (T 17))) (c_BadSchema : XG P w K mg base 3 "BadSchema" "BadSchema.__init__" st_BadSchema___init__ (T 0) ["self", "at"] (sp_BadSchema___init__ K (T 0))) (c_BadStore : XG P w K mg base 3 "BadStore" "BadStore.__init__" st_BadStore___init__ (T 1) ["self", "at"] (sp_BadStore___init__ K (T 1))) (c_BadWay : XG P w K mg base 3 "BadWay" "BadWay.__init__" st_BadWay___init__ (T 11) ["self", "at"] (sp_BadWay___init__ K (T 11))) (tb : Tab K (T 23) (TTab T)) (tf : ∀ p ∈ FT, PySem.W.findIn K (.ref (T p.1)) p.2 = some none) : CalG P w K mg base CX0 5 "_law_ats" (sp__law_ats K T) := by
  refine DefAt.cal d fun {f fd} F => fn_A (n := 1) F sc__law_ats rfl fun cdv A outer s H E hr => ?_
  have hu := hr.r.units
  have hv := hr.u65
  refine ⟨_, (pss_cons (ps_set (i := 1) sc__law_ats.nd rfl (Or.inl rfl) (pe_lst (pa_cons (pe_tup (pa_cons pe_str (pa_cons (pe_mkx c_BadSchema hr (by decide) pass0 kb_BadSchema_1_ rfl (pa_cons (pv 0) pa_nil) pk_nil) pa_nil))) (pa_cons (pe_tup (pa_cons pe_str (pa_cons (pe_mkx0 c_BadSchema hr (by decide) pass0 kb_BadSchema_0_at rfl (pk_cons (pv 0) pk_nil)) pa_nil))) (pa_cons (pe_tup (pa_cons pe_str (pa_cons (pe_mkx c_BadStore hr (by decide) pass0 kb_BadStore_1_ rfl (pa_cons (pv 0) pa_nil) pk_nil) pa_nil))) pa_nil)))))
      (pss_cons (ps_set (i := 1) sc__law_ats.nd rfl (Or.inl rfl) (pe_op opADD (pv 1) (pe_lst (pa_cons (pe_tup (pa_cons pe_str (pa_cons (pe_mkx0 c_BadStore hr (by decide) pass0 kb_BadStore_0_at rfl (pk_cons (pv 0) pk_nil)) pa_nil))) (pa_cons (pe_tup (pa_cons pe_str (pa_cons (pe_mkx c_BadWay hr (by decide) pass0 kb_BadWay_1_ rfl (pa_cons (pv 0) pa_nil) pk_nil) pa_nil))) (pa_cons (pe_tup (pa_cons pe_str (pa_cons (pe_mkx0 c_BadWay hr (by decide) pass0 kb_BadWay_0_at rfl (pk_cons (pv 0) pk_nil)) pa_nil))) pa_nil))))))
      (pss_cons (ps_set (i := 1) sc__law_ats.nd rfl (Or.inl rfl) (pe_op opADD (pv 1) (pe_lst (pa_cons (pe_tup (pa_cons pe_str (pa_cons (pe_mkx c_BadDocument hr (by decide) pass0 kb_BadDocument_1_ rfl (pa_cons (pv 0) pa_nil) pk_nil) pa_nil))) (pa_cons (pe_tup (pa_cons pe_str (pa_cons (pe_mkx0 c_BadDocument hr (by decide) pass0 kb_BadDocument_0_at rfl (pk_cons (pv 0) pk_nil)) pa_nil))) pa_nil)))))
      (pss_cons (ps_set (i := 1) sc__law_ats.nd rfl (Or.inl rfl) (pe_op opADD (pv 1) (pe_lst (pa_cons (pe_tup (pa_cons pe_str (pa_cons (pe_mkx c_BadLine hr (by decide) pass0 kb_BadLine_1_ rfl (pa_cons (pv 0) pa_nil) pk_nil) pa_nil))) (pa_cons (pe_tup (pa_cons pe_str (pa_cons (pe_mkx0 c_BadLine hr (by decide) pass0 kb_BadLine_0_at rfl (pk_cons (pv 0) pk_nil)) pa_nil))) pa_nil)))))
      (pss_one (ps_ret (pe_lc (own := [("_law_name", 2), ("_law_e", 3)]) (g := gTup K 2 (gCons (gName 2) (gCons (gName 3) (gNil)))) (tt := tYes) (te := tTup (tCons (tVar 2) (tCons (tVar 3) (tCons (tTup (tCons (tFldX K (T 23) (tVar 3) "at") (tNil))) (tCons (tTup (tCons (tVar 0) (tNil))) (tNil)))))) rfl sc__law_ats.nd (pi_list (pv 1)) (blkOk_by (N := N__law_ats) (sc := defScope st__law_ats) (by decide +kernel)) (fun _ _ _ _ _ => (pg_tup rfl (pgs_cons (pg_name (i := 2) sc__law_ats.nd rfl (Or.inl rfl)) (pgs_cons (pg_name (i := 3) sc__law_ats.nd rfl (Or.inl rfl)) pgs_nil)))) (fun _ _ _ _ _ => pts_nil) (fun _ _ _ _ _ => (pe_tup (pa_cons (pv 2) (pa_cons (pv 3) (pa_cons (pe_tup (pa_cons (pe_fldx (O := (T 23)) (pv 3) rfl) pa_nil)) (pa_cons (pe_tup (pa_cons (pv 0) pa_nil)) pa_nil))))))))))))), ?_⟩
  rintro ds R hl ⟨a, rfl, ga, hR⟩
  walk_at "dl0"
  walk_at "dlk"
  refine lc_o (tgIn_tup (tgsIn_cons gm_name (tgIn_name (by decide)) (tgsIn_cons gm_name (tgIn_name (by decide)) tgsIn_nil))) ?_
  walk_at "dlk"
  have hall : ∀ x ∈ [Da.tup [.str "BadSchema", .exc (T 0) [("at", a)]], Da.tup [.str "BadSchema", .exc (T 0) [("at", a)]], Da.tup [.str "BadStore", .exc (T 1) [("at", a)]], Da.tup [.str "BadStore", .exc (T 1) [("at", a)]], Da.tup [.str "BadWay", .exc (T 11) [("at", a)]], Da.tup [.str "BadWay", .exc (T 11) [("at", a)]], Da.tup [.str "BadDocument", .exc (T 13) [("at", a)]], Da.tup [.str "BadDocument", .exc (T 13) [("at", a)]], Da.tup [.str "BadLine", .exc (T 17) [("at", a)]], Da.tup [.str "BadLine", .exc (T 17) [("at", a)]]], ∃ (j : Nat) (n : Str), x = Da.tup [.str n, .exc (T j) [("at", a)]] ∧ (T j, n) ∈ TTab T ∧ (j, ("at" : Str)) ∈ FT := (allC ⟨_, _, rfl, (List.mem_of_getElem? (i := 0) rfl), (List.mem_of_getElem? (i := 0) rfl)⟩ (allC ⟨_, _, rfl, (List.mem_of_getElem? (i := 0) rfl), (List.mem_of_getElem? (i := 0) rfl)⟩ (allC ⟨_, _, rfl, (List.mem_of_getElem? (i := 1) rfl), (List.mem_of_getElem? (i := 1) rfl)⟩ (allC ⟨_, _, rfl, (List.mem_of_getElem? (i := 1) rfl), (List.mem_of_getElem? (i := 1) rfl)⟩ (allC ⟨_, _, rfl, (List.mem_of_getElem? (i := 11) rfl), (List.mem_of_getElem? (i := 18) rfl)⟩ (allC ⟨_, _, rfl, (List.mem_of_getElem? (i := 11) rfl), (List.mem_of_getElem? (i := 18) rfl)⟩ (allC ⟨_, _, rfl, (List.mem_of_getElem? (i := 13) rfl), (List.mem_of_getElem? (i := 21) rfl)⟩ (allC ⟨_, _, rfl, (List.mem_of_getElem? (i := 13) rfl), (List.mem_of_getElem? (i := 21) rfl)⟩ (allC ⟨_, _, rfl, (List.mem_of_getElem? (i := 17) rfl), (List.mem_of_getElem? (i := 26) rfl)⟩ (allC ⟨_, _, rfl, (List.mem_of_getElem? (i := 17) rfl), (List.mem_of_getElem? (i := 26) rfl)⟩ allN))))))))))
  refine ⟨_, IsL.dat _, fun i acc => acc.length = i ∧ ∀ x ∈ acc, Good T x, ⟨rfl, allN⟩, ?_, ?_⟩
  · rintro i e acc he ⟨hla, hg⟩
    have hi : i < 10 := (List.getElem?_eq_some_iff.mp he).1
    obtain ⟨j, n, rfl, hC, hF⟩ := hall e (List.mem_of_getElem? he)
    have hX : XCls K (T 23) (T j) := tb.xc _ hC
    have hN : PySem.W.findIn K (.ref (T j)) "at" = some none := tf _ hF
    refine rg_tup rfl ?_
    walk_at "dlk"
    exact ⟨by omega, rfl, by simp [hla], good_app hg (good_one ⟨_, _, _, _, rfl, hC, allC ga allN, Nat.le_of_ble_eq_true rfl⟩)⟩
  · rintro acc ⟨hla, hg⟩
    exact ⟨_, rfl, hR acc hg (by rw [hla]; exact Nat.le_of_ble_eq_true rfl)⟩
theorem kb_BadDeed_0_deed : KBxs "BadDeed.__init__" st_BadDeed___init__ ["self", "deed"] 0 ["deed"] [0] := fun kV doc pm an cdv ct u us ws h1 h2 => by
  match us, ws, h1, h2 with
  | [], [_], _, _ => rfl
theorem kb_BadDeed_1_ : KBxs "BadDeed.__init__" st_BadDeed___init__ ["self", "deed"] 1 [] [0] := fun kV doc pm an cdv ct u us ws h1 h2 => by
  match us, ws, h1, h2 with
  | [_], [], _, _ => rfl
theorem kb_BadHook_0_what : KBxs "BadHook.__init__" st_BadHook___init__ ["self", "what"] 0 ["what"] [0] := fun kV doc pm an cdv ct u us ws h1 h2 => by
  match us, ws, h1, h2 with
  | [], [_], _, _ => rfl
theorem kb_BadHook_1_ : KBxs "BadHook.__init__" st_BadHook___init__ ["self", "what"] 1 [] [0] := fun kV doc pm an cdv ct u us ws h1 h2 => by
  match us, ws, h1, h2 with
  | [_], [], _, _ => rfl
theorem kb_Crooked_0_where : KBxs "Crooked.__init__" st_Crooked___init__ ["self", "where"] 0 ["where"] [0] := fun kV doc pm an cdv ct u us ws h1 h2 => by
  match us, ws, h1, h2 with
  | [], [_], _, _ => rfl
theorem kb_Crooked_1_ : KBxs "Crooked.__init__" st_Crooked___init__ ["self", "where"] 1 [] [0] := fun kV doc pm an cdv ct u us ws h1 h2 => by
  match us, ws, h1, h2 with
  | [_], [], _, _ => rfl
theorem kb_NoTable_0_table : KBxs "NoTable.__init__" st_NoTable___init__ ["self", "table"] 0 ["table"] [0] := fun kV doc pm an cdv ct u us ws h1 h2 => by
  match us, ws, h1, h2 with
  | [], [_], _, _ => rfl
theorem kb_NoTable_1_ : KBxs "NoTable.__init__" st_NoTable___init__ ["self", "table"] 1 [] [0] := fun kV doc pm an cdv ct u us ws h1 h2 => by
  match us, ws, h1, h2 with
  | [_], [], _, _ => rfl
theorem kb_TooMany_0_what : KBxs "TooMany.__init__" st_TooMany___init__ ["self", "what"] 0 ["what"] [0] := fun kV doc pm an cdv ct u us ws h1 h2 => by
  match us, ws, h1, h2 with
  | [], [_], _, _ => rfl
theorem kb_TooMany_1_ : KBxs "TooMany.__init__" st_TooMany___init__ ["self", "what"] 1 [] [0] := fun kV doc pm an cdv ct u us ws h1 h2 => by
  match us, ws, h1, h2 with
  | [_], [], _, _ => rfl
abbrev st__law_ones : Stmt := topR 35
abbrev N__law_ones : List Str := ["_law_a", "_law_found", "_law_e"]
theorem sc__law_ones : FnScope N__law_ones ["_law_a"] (defScope st__law_ones) := ⟨rfl, rfl, rfl, by decide +kernel, rfl, by decide +kernel, by decide +kernel⟩
abbrev sp__law_ones (K : PySem.W.Frag) (T : Nat → Addr) : Sp := spA K 1 (cMade1 T)
theorem ok__law_ones {T : Nat → Addr} {P : Program} {w : World} {K : PySem.W.Frag} {mg : Str → Option Value} {base : Heap} (d : DefAt K mg "_law_ones" st__law_ones ["_law_a"]) (g_NotKept : mg "NotKept" = some (.ref (T 22))) (c_BadDeed : XG P w K mg base 3 "BadDeed" "BadDeed.__init__" st_BadDeed___init__ (T 2) ["self", "deed"] (sp_BadDeed___init__ K (T 2))) (c_BadHook : XG P w K mg base 3 "BadHook" "BadHook.__init__" st_BadHook___init__ (T 14) ["self", "what"] (sp_BadHook___init__ K (T 14))) (c_Crooked : XG P w K mg base 3 "Crooked" "Crooked.__init__" st_Crooked___init__ (T 16) ["self", "where"] (sp_Crooked___init__ K (T 16))) (c_NoTable : XG P w K mg base 3 "NoTable" "NoTable.__init__" st_NoTable___init__ (T 3) ["self", "table"] (sp_NoTable___init__ K (T 3))) (q_NotKept : PySem.W.excIn K (T 22) PySem.HandSPX.veTail "ValueError.__new__" = true) (y_NotKept : PySem.W.keepIn K (.ref (T 22)) = true) (c_TooMany : XG P w K mg base 3 "TooMany" "TooMany.__init__" st_TooMany___init__ (T 10) ["self", "what"] (sp_TooMany___init__ K (T 10))) (tb : Tab K (T 23) (TTab T)) (tf : ∀ p ∈ FT, PySem.W.findIn K (.ref (T p.1)) p.2 = some none) : CalG P w K mg base CX0 5 "_law_ones" (sp__law_ones K T) := by
  refine DefAt.cal d fun {f fd} F => fn_A (n := 1) F sc__law_ones rfl fun cdv A outer s H E hr => ?_
  have hu := hr.r.units
  have hv := hr.u65
  refine ⟨_, (pss_cons (ps_setLc (i := 1) (own := [("_law_e", 2)]) (g := gName 2) (tt := tYes) (te := tTup (tCons (tC (.str "BadDeed")) (tCons (tVar 2) (tCons (tTup (tCons (tFldX K (T 23) (tVar 2) "deed") (tNil))) (tCons (tTup (tCons (tVar 0) (tNil))) (tNil)))))) rfl sc__law_ones.nd rfl rfl (sw_true rfl rfl rfl (by decide +kernel)) (pi_list (pe_lst (pa_cons (pe_mkx c_BadDeed hr (by decide) pass0 kb_BadDeed_1_ rfl (pa_cons (pv 0) pa_nil) pk_nil) (pa_cons (pe_mkx0 c_BadDeed hr (by decide) pass0 kb_BadDeed_0_deed rfl (pk_cons (pv 0) pk_nil)) pa_nil)))) (blkOk_by (N := N__law_ones) (sc := defScope st__law_ones) (by decide +kernel)) (fun _ _ _ _ _ => (pg_name (i := 2) sc__law_ones.nd rfl (Or.inl rfl))) (fun _ _ _ _ _ => pts_nil) (fun _ _ _ _ _ => (pe_tup (pa_cons pe_str (pa_cons (pv 2) (pa_cons (pe_tup (pa_cons (pe_fldx (O := (T 23)) (pv 2) rfl) pa_nil)) (pa_cons (pe_tup (pa_cons (pv 0) pa_nil)) pa_nil)))))))
      (pss_cons (ps_set (i := 1) sc__law_ones.nd rfl (Or.inl rfl) (pe_op opADD (pv 1) (pe_lc (own := [("_law_e", 2)]) (g := gName 2) (tt := tYes) (te := tTup (tCons (tC (.str "NoTable")) (tCons (tVar 2) (tCons (tTup (tCons (tFldX K (T 23) (tVar 2) "table") (tNil))) (tCons (tTup (tCons (tVar 0) (tNil))) (tNil)))))) rfl sc__law_ones.nd (pi_list (pe_lst (pa_cons (pe_mkx c_NoTable hr (by decide) pass0 kb_NoTable_1_ rfl (pa_cons (pv 0) pa_nil) pk_nil) (pa_cons (pe_mkx0 c_NoTable hr (by decide) pass0 kb_NoTable_0_table rfl (pk_cons (pv 0) pk_nil)) pa_nil)))) (blkOk_by (N := N__law_ones) (sc := defScope st__law_ones) (by decide +kernel)) (fun _ _ _ _ _ => (pg_name (i := 2) sc__law_ones.nd rfl (Or.inl rfl))) (fun _ _ _ _ _ => pts_nil) (fun _ _ _ _ _ => (pe_tup (pa_cons pe_str (pa_cons (pv 2) (pa_cons (pe_tup (pa_cons (pe_fldx (O := (T 23)) (pv 2) rfl) pa_nil)) (pa_cons (pe_tup (pa_cons (pv 0) pa_nil)) pa_nil)))))))))
      (pss_cons (ps_set (i := 1) sc__law_ones.nd rfl (Or.inl rfl) (pe_op opADD (pv 1) (pe_lc (own := [("_law_e", 2)]) (g := gName 2) (tt := tYes) (te := tTup (tCons (tC (.str "TooMany")) (tCons (tVar 2) (tCons (tTup (tCons (tFldX K (T 23) (tVar 2) "what") (tNil))) (tCons (tTup (tCons (tVar 0) (tNil))) (tNil)))))) rfl sc__law_ones.nd (pi_list (pe_lst (pa_cons (pe_mkx c_TooMany hr (by decide) pass0 kb_TooMany_1_ rfl (pa_cons (pv 0) pa_nil) pk_nil) (pa_cons (pe_mkx0 c_TooMany hr (by decide) pass0 kb_TooMany_0_what rfl (pk_cons (pv 0) pk_nil)) pa_nil)))) (blkOk_by (N := N__law_ones) (sc := defScope st__law_ones) (by decide +kernel)) (fun _ _ _ _ _ => (pg_name (i := 2) sc__law_ones.nd rfl (Or.inl rfl))) (fun _ _ _ _ _ => pts_nil) (fun _ _ _ _ _ => (pe_tup (pa_cons pe_str (pa_cons (pv 2) (pa_cons (pe_tup (pa_cons (pe_fldx (O := (T 23)) (pv 2) rfl) pa_nil)) (pa_cons (pe_tup (pa_cons (pv 0) pa_nil)) pa_nil)))))))))
      (pss_cons (ps_set (i := 1) sc__law_ones.nd rfl (Or.inl rfl) (pe_op opADD (pv 1) (pe_lc (own := [("_law_e", 2)]) (g := gName 2) (tt := tYes) (te := tTup (tCons (tC (.str "BadHook")) (tCons (tVar 2) (tCons (tTup (tCons (tFldX K (T 23) (tVar 2) "what") (tNil))) (tCons (tTup (tCons (tVar 0) (tNil))) (tNil)))))) rfl sc__law_ones.nd (pi_list (pe_lst (pa_cons (pe_mkx c_BadHook hr (by decide) pass0 kb_BadHook_1_ rfl (pa_cons (pv 0) pa_nil) pk_nil) (pa_cons (pe_mkx0 c_BadHook hr (by decide) pass0 kb_BadHook_0_what rfl (pk_cons (pv 0) pk_nil)) pa_nil)))) (blkOk_by (N := N__law_ones) (sc := defScope st__law_ones) (by decide +kernel)) (fun _ _ _ _ _ => (pg_name (i := 2) sc__law_ones.nd rfl (Or.inl rfl))) (fun _ _ _ _ _ => pts_nil) (fun _ _ _ _ _ => (pe_tup (pa_cons pe_str (pa_cons (pv 2) (pa_cons (pe_tup (pa_cons (pe_fldx (O := (T 23)) (pv 2) rfl) pa_nil)) (pa_cons (pe_tup (pa_cons (pv 0) pa_nil)) pa_nil)))))))))
      (pss_cons (ps_set (i := 1) sc__law_ones.nd rfl (Or.inl rfl) (pe_op opADD (pv 1) (pe_lc (own := [("_law_e", 2)]) (g := gName 2) (tt := tYes) (te := tTup (tCons (tC (.str "Crooked")) (tCons (tVar 2) (tCons (tTup (tCons (tFldX K (T 23) (tVar 2) "where") (tNil))) (tCons (tTup (tCons (tVar 0) (tNil))) (tNil)))))) rfl sc__law_ones.nd (pi_list (pe_lst (pa_cons (pe_mkx c_Crooked hr (by decide) pass0 kb_Crooked_1_ rfl (pa_cons (pv 0) pa_nil) pk_nil) (pa_cons (pe_mkx0 c_Crooked hr (by decide) pass0 kb_Crooked_0_where rfl (pk_cons (pv 0) pk_nil)) pa_nil)))) (blkOk_by (N := N__law_ones) (sc := defScope st__law_ones) (by decide +kernel)) (fun _ _ _ _ _ => (pg_name (i := 2) sc__law_ones.nd rfl (Or.inl rfl))) (fun _ _ _ _ _ => pts_nil) (fun _ _ _ _ _ => (pe_tup (pa_cons pe_str (pa_cons (pv 2) (pa_cons (pe_tup (pa_cons (pe_fldx (O := (T 23)) (pv 2) rfl) pa_nil)) (pa_cons (pe_tup (pa_cons (pv 0) pa_nil)) pa_nil)))))))))
      (pss_one (ps_ret (pe_op opADD (pv 1) (pe_lst (pa_cons (pe_tup (pa_cons pe_str (pa_cons (pe_mk0 PySem.F.excBase_ValueError q_NotKept g_NotKept y_NotKept rfl) (pa_cons (pe_tup pa_nil) (pa_cons (pe_tup pa_nil) pa_nil))))) pa_nil)))))))))), ?_⟩
  rintro ds R hl ⟨a, rfl, ga, hR⟩
  walk_at "dl0"
  walk_at "dlk"
  refine lc_o (tgIn_name (by decide)) ?_
  walk_at "dlk"
  refine ⟨[.exc (T 2) [("deed", a)], .exc (T 2) [("deed", a)]], IsL.dat _, fun i acc => acc.length = i ∧ ∀ x ∈ acc, Good T x, ⟨rfl, allN⟩, ?_, ?_⟩
  · rintro i e acc he ⟨hla, hg⟩
    have hi : i < 2 := (List.getElem?_eq_some_iff.mp he).1
    have ee := two_get he
    subst ee
    have hX : XCls K (T 23) (T 2) := tb.xc _ (List.mem_of_getElem? (i := 2) rfl)
    have hN0 : PySem.W.findIn K (.ref (T 2)) "deed" = some none := tf (2, "deed") (List.mem_of_getElem? (i := 2) rfl)
    refine rg_name ?_
    walk_at "dlk"
    exact ⟨by omega, rfl, by simp [hla], good_app hg (good_one ⟨_, "BadDeed", _, _, rfl, (List.mem_of_getElem? (i := 2) rfl), allC ga (allN), Nat.le_of_ble_eq_true rfl⟩)⟩
  rintro A0 ⟨hA0, hG0⟩
  have hA0 : A0.length = 2 := hA0
  walk_at "dlk"
  refine lc_o (tgIn_name (by decide)) ?_
  walk_at "dlk"
  refine ⟨[.exc (T 3) [("table", a)], .exc (T 3) [("table", a)]], IsL.dat _, fun i acc => acc.length = i ∧ ∀ x ∈ acc, Good T x, ⟨rfl, allN⟩, ?_, ?_⟩
  · rintro i e acc he ⟨hla, hg⟩
    have hi : i < 2 := (List.getElem?_eq_some_iff.mp he).1
    have ee := two_get he
    subst ee
    have hX : XCls K (T 23) (T 3) := tb.xc _ (List.mem_of_getElem? (i := 3) rfl)
    have hN0 : PySem.W.findIn K (.ref (T 3)) "table" = some none := tf (3, "table") (List.mem_of_getElem? (i := 3) rfl)
    refine rg_name ?_
    walk_at "dlk"
    exact ⟨by omega, rfl, by simp [hla], good_app hg (good_one ⟨_, "NoTable", _, _, rfl, (List.mem_of_getElem? (i := 3) rfl), allC ga (allN), Nat.le_of_ble_eq_true rfl⟩)⟩
  rintro A1 ⟨hA1, hG1⟩
  have hA1 : A1.length = 2 := hA1
  walk_at "dlk"
  refine add_l (IsL.dat _) (IsL.dat _) (by simp only [List.length_append, hA1, hA0]; omega) ?_
  walk_at "dlk"
  refine lc_o (tgIn_name (by decide)) ?_
  walk_at "dlk"
  refine ⟨[.exc (T 10) [("what", a)], .exc (T 10) [("what", a)]], IsL.dat _, fun i acc => acc.length = i ∧ ∀ x ∈ acc, Good T x, ⟨rfl, allN⟩, ?_, ?_⟩
  · rintro i e acc he ⟨hla, hg⟩
    have hi : i < 2 := (List.getElem?_eq_some_iff.mp he).1
    have ee := two_get he
    subst ee
    have hX : XCls K (T 23) (T 10) := tb.xc _ (List.mem_of_getElem? (i := 10) rfl)
    have hN0 : PySem.W.findIn K (.ref (T 10)) "what" = some none := tf (10, "what") (List.mem_of_getElem? (i := 17) rfl)
    refine rg_name ?_
    walk_at "dlk"
    exact ⟨by omega, rfl, by simp [hla], good_app hg (good_one ⟨_, "TooMany", _, _, rfl, (List.mem_of_getElem? (i := 10) rfl), allC ga (allN), Nat.le_of_ble_eq_true rfl⟩)⟩
  rintro A2 ⟨hA2, hG2⟩
  have hA2 : A2.length = 2 := hA2
  walk_at "dlk"
  refine add_l (IsL.dat _) (IsL.dat _) (by simp only [List.length_append, hA2, hA0, hA1]; omega) ?_
  walk_at "dlk"
  refine lc_o (tgIn_name (by decide)) ?_
  walk_at "dlk"
  refine ⟨[.exc (T 14) [("what", a)], .exc (T 14) [("what", a)]], IsL.dat _, fun i acc => acc.length = i ∧ ∀ x ∈ acc, Good T x, ⟨rfl, allN⟩, ?_, ?_⟩
  · rintro i e acc he ⟨hla, hg⟩
    have hi : i < 2 := (List.getElem?_eq_some_iff.mp he).1
    have ee := two_get he
    subst ee
    have hX : XCls K (T 23) (T 14) := tb.xc _ (List.mem_of_getElem? (i := 14) rfl)
    have hN0 : PySem.W.findIn K (.ref (T 14)) "what" = some none := tf (14, "what") (List.mem_of_getElem? (i := 22) rfl)
    refine rg_name ?_
    walk_at "dlk"
    exact ⟨by omega, rfl, by simp [hla], good_app hg (good_one ⟨_, "BadHook", _, _, rfl, (List.mem_of_getElem? (i := 14) rfl), allC ga (allN), Nat.le_of_ble_eq_true rfl⟩)⟩
  rintro A3 ⟨hA3, hG3⟩
  have hA3 : A3.length = 2 := hA3
  walk_at "dlk"
  refine add_l (IsL.dat _) (IsL.dat _) (by simp only [List.length_append, hA3, hA0, hA1, hA2]; omega) ?_
  walk_at "dlk"
  refine lc_o (tgIn_name (by decide)) ?_
  walk_at "dlk"
  refine ⟨[.exc (T 16) [("where", a)], .exc (T 16) [("where", a)]], IsL.dat _, fun i acc => acc.length = i ∧ ∀ x ∈ acc, Good T x, ⟨rfl, allN⟩, ?_, ?_⟩
  · rintro i e acc he ⟨hla, hg⟩
    have hi : i < 2 := (List.getElem?_eq_some_iff.mp he).1
    have ee := two_get he
    subst ee
    have hX : XCls K (T 23) (T 16) := tb.xc _ (List.mem_of_getElem? (i := 16) rfl)
    have hN0 : PySem.W.findIn K (.ref (T 16)) "where" = some none := tf (16, "where") (List.mem_of_getElem? (i := 25) rfl)
    refine rg_name ?_
    walk_at "dlk"
    exact ⟨by omega, rfl, by simp [hla], good_app hg (good_one ⟨_, "Crooked", _, _, rfl, (List.mem_of_getElem? (i := 16) rfl), allC ga (allN), Nat.le_of_ble_eq_true rfl⟩)⟩
  rintro A4 ⟨hA4, hG4⟩
  have hA4 : A4.length = 2 := hA4
  walk_at "dlk"
  refine add_l (IsL.dat _) (IsL.dat _) (by simp only [List.length_append, hA4, hA0, hA1, hA2, hA3]; omega) ?_
  walk_at "dlk"
  refine add_l (IsL.dat _) (IsL.dat _) (by simp only [List.length_append, hA0, hA1, hA2, hA3, hA4, List.length_cons, List.length_nil]; omega) ?_
  exact ⟨_, rfl, hR _ (good_app (good_app (good_app (good_app (good_app hG0 hG1) hG2) hG3) hG4) (good_one ⟨_, "NotKept", _, _, rfl, (List.mem_of_getElem? (i := 22) rfl), allN, Nat.le_of_ble_eq_true rfl⟩)) (by simp only [List.length_append, hA0, hA1, hA2, hA3, hA4, List.length_cons, List.length_nil]; omega)⟩
theorem kb_BadBook_0_at_what : KBxs "BadBook.__init__" st_BadBook___init__ ["self", "what", "at"] 0 ["at", "what"] [1, 0] := fun kV doc pm an cdv ct u us ws h1 h2 => by
  match us, ws, h1, h2 with
  | [], [_, _], _, _ => rfl
theorem kb_BadBook_2_ : KBxs "BadBook.__init__" st_BadBook___init__ ["self", "what", "at"] 2 [] [0, 1] := fun kV doc pm an cdv ct u us ws h1 h2 => by
  match us, ws, h1, h2 with
  | [_, _], [], _, _ => rfl
theorem kb_Failed_0_why_at : KBxs "Failed.__init__" st_Failed___init__ ["self", "at", "why"] 0 ["why", "at"] [1, 0] := fun kV doc pm an cdv ct u us ws h1 h2 => by
  match us, ws, h1, h2 with
  | [], [_, _], _, _ => rfl
theorem kb_Failed_2_ : KBxs "Failed.__init__" st_Failed___init__ ["self", "at", "why"] 2 [] [0, 1] := fun kV doc pm an cdv ct u us ws h1 h2 => by
  match us, ws, h1, h2 with
  | [_, _], [], _, _ => rfl
theorem kb_Held_0_key_table : KBxs "Held.__init__" st_Held___init__ ["self", "table", "key"] 0 ["key", "table"] [1, 0] := fun kV doc pm an cdv ct u us ws h1 h2 => by
  match us, ws, h1, h2 with
  | [], [_, _], _, _ => rfl
theorem kb_Held_2_ : KBxs "Held.__init__" st_Held___init__ ["self", "table", "key"] 2 [] [0, 1] := fun kV doc pm an cdv ct u us ws h1 h2 => by
  match us, ws, h1, h2 with
  | [_, _], [], _, _ => rfl
theorem kb_Mismatch_1_second : KBxs "Mismatch.__init__" st_Mismatch___init__ ["self", "first", "second"] 1 ["second"] [0, 1] := fun kV doc pm an cdv ct u us ws h1 h2 => by
  match us, ws, h1, h2 with
  | [_], [_], _, _ => rfl
theorem kb_Mismatch_2_ : KBxs "Mismatch.__init__" st_Mismatch___init__ ["self", "first", "second"] 2 [] [0, 1] := fun kV doc pm an cdv ct u us ws h1 h2 => by
  match us, ws, h1, h2 with
  | [_, _], [], _, _ => rfl
theorem kb_NoColumn_0_column_table : KBxs "NoColumn.__init__" st_NoColumn___init__ ["self", "table", "column"] 0 ["column", "table"] [1, 0] := fun kV doc pm an cdv ct u us ws h1 h2 => by
  match us, ws, h1, h2 with
  | [], [_, _], _, _ => rfl
theorem kb_NoColumn_2_ : KBxs "NoColumn.__init__" st_NoColumn___init__ ["self", "table", "column"] 2 [] [0, 1] := fun kV doc pm an cdv ct u us ws h1 h2 => by
  match us, ws, h1, h2 with
  | [_, _], [], _, _ => rfl
theorem kb_NoDocument_1_key : KBxs "NoDocument.__init__" st_NoDocument___init__ ["self", "name", "key"] 1 ["key"] [0, 1] := fun kV doc pm an cdv ct u us ws h1 h2 => by
  match us, ws, h1, h2 with
  | [_], [_], _, _ => rfl
theorem kb_NoDocument_2_ : KBxs "NoDocument.__init__" st_NoDocument___init__ ["self", "name", "key"] 2 [] [0, 1] := fun kV doc pm an cdv ct u us ws h1 h2 => by
  match us, ws, h1, h2 with
  | [_, _], [], _, _ => rfl
theorem kb_NoRow_0_key_table : KBxs "NoRow.__init__" st_NoRow___init__ ["self", "table", "key"] 0 ["key", "table"] [1, 0] := fun kV doc pm an cdv ct u us ws h1 h2 => by
  match us, ws, h1, h2 with
  | [], [_, _], _, _ => rfl
theorem kb_NoRow_2_ : KBxs "NoRow.__init__" st_NoRow___init__ ["self", "table", "key"] 2 [] [0, 1] := fun kV doc pm an cdv ct u us ws h1 h2 => by
  match us, ws, h1, h2 with
  | [_, _], [], _, _ => rfl
theorem kb_NotBulk_1_column : KBxs "NotBulk.__init__" st_NotBulk___init__ ["self", "table", "column"] 1 ["column"] [0, 1] := fun kV doc pm an cdv ct u us ws h1 h2 => by
  match us, ws, h1, h2 with
  | [_], [_], _, _ => rfl
theorem kb_NotBulk_2_ : KBxs "NotBulk.__init__" st_NotBulk___init__ ["self", "table", "column"] 2 [] [0, 1] := fun kV doc pm an cdv ct u us ws h1 h2 => by
  match us, ws, h1, h2 with
  | [_, _], [], _, _ => rfl
theorem kb_Refused_0_why_at : KBxs "Refused.__init__" st_Refused___init__ ["self", "at", "why"] 0 ["why", "at"] [1, 0] := fun kV doc pm an cdv ct u us ws h1 h2 => by
  match us, ws, h1, h2 with
  | [], [_, _], _, _ => rfl
theorem kb_Refused_2_ : KBxs "Refused.__init__" st_Refused___init__ ["self", "at", "why"] 2 [] [0, 1] := fun kV doc pm an cdv ct u us ws h1 h2 => by
  match us, ws, h1, h2 with
  | [_, _], [], _, _ => rfl
theorem kb_Taken_0_key_table : KBxs "Taken.__init__" st_Taken___init__ ["self", "table", "key"] 0 ["key", "table"] [1, 0] := fun kV doc pm an cdv ct u us ws h1 h2 => by
  match us, ws, h1, h2 with
  | [], [_, _], _, _ => rfl
theorem kb_Taken_2_ : KBxs "Taken.__init__" st_Taken___init__ ["self", "table", "key"] 2 [] [0, 1] := fun kV doc pm an cdv ct u us ws h1 h2 => by
  match us, ws, h1, h2 with
  | [_, _], [], _, _ => rfl
abbrev st__law_twos : Stmt := topR 36
abbrev N__law_twos : List Str := ["_law_a", "_law_b", "_law_found", "_law_e"]
theorem sc__law_twos : FnScope N__law_twos ["_law_a", "_law_b"] (defScope st__law_twos) := ⟨rfl, rfl, rfl, by decide +kernel, rfl, by decide +kernel, by decide +kernel⟩
abbrev sp__law_twos (K : PySem.W.Frag) (T : Nat → Addr) : Sp := spA K 2 (cMade2 T)
theorem ok__law_twos {T : Nat → Addr} {P : Program} {w : World} {K : PySem.W.Frag} {mg : Str → Option Value} {base : Heap} (d : DefAt K mg "_law_twos" st__law_twos ["_law_a", "_law_b"]) (c_BadBook : XG P w K mg base 3 "BadBook" "BadBook.__init__" st_BadBook___init__ (T 15) ["self", "what", "at"] (sp_BadBook___init__ K (T 15))) (c_Failed : XG P w K mg base 3 "Failed" "Failed.__init__" st_Failed___init__ (T 21) ["self", "at", "why"] (sp_Failed___init__ K (T 21))) (c_Held : XG P w K mg base 3 "Held" "Held.__init__" st_Held___init__ (T 8) ["self", "table", "key"] (sp_Held___init__ K (T 8))) (c_Mismatch : XG P w K mg base 3 "Mismatch" "Mismatch.__init__" st_Mismatch___init__ (T 12) ["self", "first", "second"] (sp_Mismatch___init__ K (T 12))) (c_NoColumn : XG P w K mg base 3 "NoColumn" "NoColumn.__init__" st_NoColumn___init__ (T 4) ["self", "table", "column"] (sp_NoColumn___init__ K (T 4))) (c_NoDocument : XG P w K mg base 3 "NoDocument" "NoDocument.__init__" st_NoDocument___init__ (T 18) ["self", "name", "key"] (sp_NoDocument___init__ K (T 18))) (c_NoRow : XG P w K mg base 3 "NoRow" "NoRow.__init__" st_NoRow___init__ (T 5) ["self", "table", "key"] (sp_NoRow___init__ K (T 5))) (c_NotBulk : XG P w K mg base 3 "NotBulk" "NotBulk.__init__" st_NotBulk___init__ (T 9) ["self", "table", "column"] (sp_NotBulk___init__ K (T 9))) (c_Refused : XG P w K mg base 3 "Refused" "Refused.__init__" st_Refused___init__ (T 20) ["self", "at", "why"] (sp_Refused___init__ K (T 20))) (c_Taken : XG P w K mg base 3 "Taken" "Taken.__init__" st_Taken___init__ (T 6) ["self", "table", "key"] (sp_Taken___init__ K (T 6))) (tb : Tab K (T 23) (TTab T)) (tf : ∀ p ∈ FT, PySem.W.findIn K (.ref (T p.1)) p.2 = some none) : CalG P w K mg base CX0 5 "_law_twos" (sp__law_twos K T) := by
  refine DefAt.cal d fun {f fd} F => fn_A (n := 2) F sc__law_twos rfl fun cdv A outer s H E hr => ?_
  have hu := hr.r.units
  have hv := hr.u65
  refine ⟨_, (pss_cons (ps_setLc (i := 2) (own := [("_law_e", 3)]) (g := gName 3) (tt := tYes) (te := tTup (tCons (tC (.str "NoColumn")) (tCons (tVar 3) (tCons (tTup (tCons (tFldX K (T 23) (tVar 3) "table") (tCons (tFldX K (T 23) (tVar 3) "column") (tNil)))) (tCons (tTup (tCons (tVar 0) (tCons (tVar 1) (tNil)))) (tNil)))))) rfl sc__law_twos.nd rfl rfl (sw_true rfl rfl rfl (by decide +kernel)) (pi_list (pe_lst (pa_cons (pe_mkx c_NoColumn hr (by decide) pass0 kb_NoColumn_2_ rfl (pa_cons (pv 0) (pa_cons (pv 1) pa_nil)) pk_nil) (pa_cons (pe_mkx0 c_NoColumn hr (by decide) pass0 kb_NoColumn_0_column_table rfl (pk_cons (pv 1) (pk_cons (pv 0) pk_nil))) pa_nil)))) (blkOk_by (N := N__law_twos) (sc := defScope st__law_twos) (by decide +kernel)) (fun _ _ _ _ _ => (pg_name (i := 3) sc__law_twos.nd rfl (Or.inl rfl))) (fun _ _ _ _ _ => pts_nil) (fun _ _ _ _ _ => (pe_tup (pa_cons pe_str (pa_cons (pv 3) (pa_cons (pe_tup (pa_cons (pe_fldx (O := (T 23)) (pv 3) rfl) (pa_cons (pe_fldx (O := (T 23)) (pv 3) rfl) pa_nil))) (pa_cons (pe_tup (pa_cons (pv 0) (pa_cons (pv 1) pa_nil))) pa_nil)))))))
      (pss_cons (ps_set (i := 2) sc__law_twos.nd rfl (Or.inl rfl) (pe_op opADD (pv 2) (pe_lc (own := [("_law_e", 3)]) (g := gName 3) (tt := tYes) (te := tTup (tCons (tC (.str "NoRow")) (tCons (tVar 3) (tCons (tTup (tCons (tFldX K (T 23) (tVar 3) "table") (tCons (tFldX K (T 23) (tVar 3) "key") (tNil)))) (tCons (tTup (tCons (tVar 0) (tCons (tVar 1) (tNil)))) (tNil)))))) rfl sc__law_twos.nd (pi_list (pe_lst (pa_cons (pe_mkx c_NoRow hr (by decide) pass0 kb_NoRow_2_ rfl (pa_cons (pv 0) (pa_cons (pv 1) pa_nil)) pk_nil) (pa_cons (pe_mkx0 c_NoRow hr (by decide) pass0 kb_NoRow_0_key_table rfl (pk_cons (pv 1) (pk_cons (pv 0) pk_nil))) pa_nil)))) (blkOk_by (N := N__law_twos) (sc := defScope st__law_twos) (by decide +kernel)) (fun _ _ _ _ _ => (pg_name (i := 3) sc__law_twos.nd rfl (Or.inl rfl))) (fun _ _ _ _ _ => pts_nil) (fun _ _ _ _ _ => (pe_tup (pa_cons pe_str (pa_cons (pv 3) (pa_cons (pe_tup (pa_cons (pe_fldx (O := (T 23)) (pv 3) rfl) (pa_cons (pe_fldx (O := (T 23)) (pv 3) rfl) pa_nil))) (pa_cons (pe_tup (pa_cons (pv 0) (pa_cons (pv 1) pa_nil))) pa_nil)))))))))
      (pss_cons (ps_set (i := 2) sc__law_twos.nd rfl (Or.inl rfl) (pe_op opADD (pv 2) (pe_lc (own := [("_law_e", 3)]) (g := gName 3) (tt := tYes) (te := tTup (tCons (tC (.str "Taken")) (tCons (tVar 3) (tCons (tTup (tCons (tFldX K (T 23) (tVar 3) "table") (tCons (tFldX K (T 23) (tVar 3) "key") (tNil)))) (tCons (tTup (tCons (tVar 0) (tCons (tVar 1) (tNil)))) (tNil)))))) rfl sc__law_twos.nd (pi_list (pe_lst (pa_cons (pe_mkx c_Taken hr (by decide) pass0 kb_Taken_2_ rfl (pa_cons (pv 0) (pa_cons (pv 1) pa_nil)) pk_nil) (pa_cons (pe_mkx0 c_Taken hr (by decide) pass0 kb_Taken_0_key_table rfl (pk_cons (pv 1) (pk_cons (pv 0) pk_nil))) pa_nil)))) (blkOk_by (N := N__law_twos) (sc := defScope st__law_twos) (by decide +kernel)) (fun _ _ _ _ _ => (pg_name (i := 3) sc__law_twos.nd rfl (Or.inl rfl))) (fun _ _ _ _ _ => pts_nil) (fun _ _ _ _ _ => (pe_tup (pa_cons pe_str (pa_cons (pv 3) (pa_cons (pe_tup (pa_cons (pe_fldx (O := (T 23)) (pv 3) rfl) (pa_cons (pe_fldx (O := (T 23)) (pv 3) rfl) pa_nil))) (pa_cons (pe_tup (pa_cons (pv 0) (pa_cons (pv 1) pa_nil))) pa_nil)))))))))
      (pss_cons (ps_set (i := 2) sc__law_twos.nd rfl (Or.inl rfl) (pe_op opADD (pv 2) (pe_lc (own := [("_law_e", 3)]) (g := gName 3) (tt := tYes) (te := tTup (tCons (tC (.str "Held")) (tCons (tVar 3) (tCons (tTup (tCons (tFldX K (T 23) (tVar 3) "table") (tCons (tFldX K (T 23) (tVar 3) "key") (tNil)))) (tCons (tTup (tCons (tVar 0) (tCons (tVar 1) (tNil)))) (tNil)))))) rfl sc__law_twos.nd (pi_list (pe_lst (pa_cons (pe_mkx c_Held hr (by decide) pass0 kb_Held_2_ rfl (pa_cons (pv 0) (pa_cons (pv 1) pa_nil)) pk_nil) (pa_cons (pe_mkx0 c_Held hr (by decide) pass0 kb_Held_0_key_table rfl (pk_cons (pv 1) (pk_cons (pv 0) pk_nil))) pa_nil)))) (blkOk_by (N := N__law_twos) (sc := defScope st__law_twos) (by decide +kernel)) (fun _ _ _ _ _ => (pg_name (i := 3) sc__law_twos.nd rfl (Or.inl rfl))) (fun _ _ _ _ _ => pts_nil) (fun _ _ _ _ _ => (pe_tup (pa_cons pe_str (pa_cons (pv 3) (pa_cons (pe_tup (pa_cons (pe_fldx (O := (T 23)) (pv 3) rfl) (pa_cons (pe_fldx (O := (T 23)) (pv 3) rfl) pa_nil))) (pa_cons (pe_tup (pa_cons (pv 0) (pa_cons (pv 1) pa_nil))) pa_nil)))))))))
      (pss_cons (ps_set (i := 2) sc__law_twos.nd rfl (Or.inl rfl) (pe_op opADD (pv 2) (pe_lc (own := [("_law_e", 3)]) (g := gName 3) (tt := tYes) (te := tTup (tCons (tC (.str "NotBulk")) (tCons (tVar 3) (tCons (tTup (tCons (tFldX K (T 23) (tVar 3) "table") (tCons (tFldX K (T 23) (tVar 3) "column") (tNil)))) (tCons (tTup (tCons (tVar 0) (tCons (tVar 1) (tNil)))) (tNil)))))) rfl sc__law_twos.nd (pi_list (pe_lst (pa_cons (pe_mkx c_NotBulk hr (by decide) pass0 kb_NotBulk_2_ rfl (pa_cons (pv 0) (pa_cons (pv 1) pa_nil)) pk_nil) (pa_cons (pe_mkx c_NotBulk hr (by decide) pass0 kb_NotBulk_1_column rfl (pa_cons (pv 0) pa_nil) (pk_cons (pv 1) pk_nil)) pa_nil)))) (blkOk_by (N := N__law_twos) (sc := defScope st__law_twos) (by decide +kernel)) (fun _ _ _ _ _ => (pg_name (i := 3) sc__law_twos.nd rfl (Or.inl rfl))) (fun _ _ _ _ _ => pts_nil) (fun _ _ _ _ _ => (pe_tup (pa_cons pe_str (pa_cons (pv 3) (pa_cons (pe_tup (pa_cons (pe_fldx (O := (T 23)) (pv 3) rfl) (pa_cons (pe_fldx (O := (T 23)) (pv 3) rfl) pa_nil))) (pa_cons (pe_tup (pa_cons (pv 0) (pa_cons (pv 1) pa_nil))) pa_nil)))))))))
      (pss_cons (ps_set (i := 2) sc__law_twos.nd rfl (Or.inl rfl) (pe_op opADD (pv 2) (pe_lc (own := [("_law_e", 3)]) (g := gName 3) (tt := tYes) (te := tTup (tCons (tC (.str "Mismatch")) (tCons (tVar 3) (tCons (tTup (tCons (tFldX K (T 23) (tVar 3) "first") (tCons (tFldX K (T 23) (tVar 3) "second") (tNil)))) (tCons (tTup (tCons (tVar 0) (tCons (tVar 1) (tNil)))) (tNil)))))) rfl sc__law_twos.nd (pi_list (pe_lst (pa_cons (pe_mkx c_Mismatch hr (by decide) pass0 kb_Mismatch_2_ rfl (pa_cons (pv 0) (pa_cons (pv 1) pa_nil)) pk_nil) (pa_cons (pe_mkx c_Mismatch hr (by decide) pass0 kb_Mismatch_1_second rfl (pa_cons (pv 0) pa_nil) (pk_cons (pv 1) pk_nil)) pa_nil)))) (blkOk_by (N := N__law_twos) (sc := defScope st__law_twos) (by decide +kernel)) (fun _ _ _ _ _ => (pg_name (i := 3) sc__law_twos.nd rfl (Or.inl rfl))) (fun _ _ _ _ _ => pts_nil) (fun _ _ _ _ _ => (pe_tup (pa_cons pe_str (pa_cons (pv 3) (pa_cons (pe_tup (pa_cons (pe_fldx (O := (T 23)) (pv 3) rfl) (pa_cons (pe_fldx (O := (T 23)) (pv 3) rfl) pa_nil))) (pa_cons (pe_tup (pa_cons (pv 0) (pa_cons (pv 1) pa_nil))) pa_nil)))))))))
      (pss_cons (ps_set (i := 2) sc__law_twos.nd rfl (Or.inl rfl) (pe_op opADD (pv 2) (pe_lc (own := [("_law_e", 3)]) (g := gName 3) (tt := tYes) (te := tTup (tCons (tC (.str "BadBook")) (tCons (tVar 3) (tCons (tTup (tCons (tFldX K (T 23) (tVar 3) "what") (tCons (tFldX K (T 23) (tVar 3) "at") (tNil)))) (tCons (tTup (tCons (tVar 0) (tCons (tVar 1) (tNil)))) (tNil)))))) rfl sc__law_twos.nd (pi_list (pe_lst (pa_cons (pe_mkx c_BadBook hr (by decide) pass0 kb_BadBook_2_ rfl (pa_cons (pv 0) (pa_cons (pv 1) pa_nil)) pk_nil) (pa_cons (pe_mkx0 c_BadBook hr (by decide) pass0 kb_BadBook_0_at_what rfl (pk_cons (pv 1) (pk_cons (pv 0) pk_nil))) pa_nil)))) (blkOk_by (N := N__law_twos) (sc := defScope st__law_twos) (by decide +kernel)) (fun _ _ _ _ _ => (pg_name (i := 3) sc__law_twos.nd rfl (Or.inl rfl))) (fun _ _ _ _ _ => pts_nil) (fun _ _ _ _ _ => (pe_tup (pa_cons pe_str (pa_cons (pv 3) (pa_cons (pe_tup (pa_cons (pe_fldx (O := (T 23)) (pv 3) rfl) (pa_cons (pe_fldx (O := (T 23)) (pv 3) rfl) pa_nil))) (pa_cons (pe_tup (pa_cons (pv 0) (pa_cons (pv 1) pa_nil))) pa_nil)))))))))
      (pss_cons (ps_set (i := 2) sc__law_twos.nd rfl (Or.inl rfl) (pe_op opADD (pv 2) (pe_lc (own := [("_law_e", 3)]) (g := gName 3) (tt := tYes) (te := tTup (tCons (tC (.str "NoDocument")) (tCons (tVar 3) (tCons (tTup (tCons (tFldX K (T 23) (tVar 3) "name") (tCons (tFldX K (T 23) (tVar 3) "key") (tNil)))) (tCons (tTup (tCons (tVar 0) (tCons (tVar 1) (tNil)))) (tNil)))))) rfl sc__law_twos.nd (pi_list (pe_lst (pa_cons (pe_mkx c_NoDocument hr (by decide) pass0 kb_NoDocument_2_ rfl (pa_cons (pv 0) (pa_cons (pv 1) pa_nil)) pk_nil) (pa_cons (pe_mkx c_NoDocument hr (by decide) pass0 kb_NoDocument_1_key rfl (pa_cons (pv 0) pa_nil) (pk_cons (pv 1) pk_nil)) pa_nil)))) (blkOk_by (N := N__law_twos) (sc := defScope st__law_twos) (by decide +kernel)) (fun _ _ _ _ _ => (pg_name (i := 3) sc__law_twos.nd rfl (Or.inl rfl))) (fun _ _ _ _ _ => pts_nil) (fun _ _ _ _ _ => (pe_tup (pa_cons pe_str (pa_cons (pv 3) (pa_cons (pe_tup (pa_cons (pe_fldx (O := (T 23)) (pv 3) rfl) (pa_cons (pe_fldx (O := (T 23)) (pv 3) rfl) pa_nil))) (pa_cons (pe_tup (pa_cons (pv 0) (pa_cons (pv 1) pa_nil))) pa_nil)))))))))
      (pss_cons (ps_set (i := 2) sc__law_twos.nd rfl (Or.inl rfl) (pe_op opADD (pv 2) (pe_lc (own := [("_law_e", 3)]) (g := gName 3) (tt := tYes) (te := tTup (tCons (tC (.str "Refused")) (tCons (tVar 3) (tCons (tTup (tCons (tFldX K (T 23) (tVar 3) "at") (tCons (tFldX K (T 23) (tVar 3) "why") (tNil)))) (tCons (tTup (tCons (tVar 0) (tCons (tVar 1) (tNil)))) (tNil)))))) rfl sc__law_twos.nd (pi_list (pe_lst (pa_cons (pe_mkx c_Refused hr (by decide) pass0 kb_Refused_2_ rfl (pa_cons (pv 0) (pa_cons (pv 1) pa_nil)) pk_nil) (pa_cons (pe_mkx0 c_Refused hr (by decide) pass0 kb_Refused_0_why_at rfl (pk_cons (pv 1) (pk_cons (pv 0) pk_nil))) pa_nil)))) (blkOk_by (N := N__law_twos) (sc := defScope st__law_twos) (by decide +kernel)) (fun _ _ _ _ _ => (pg_name (i := 3) sc__law_twos.nd rfl (Or.inl rfl))) (fun _ _ _ _ _ => pts_nil) (fun _ _ _ _ _ => (pe_tup (pa_cons pe_str (pa_cons (pv 3) (pa_cons (pe_tup (pa_cons (pe_fldx (O := (T 23)) (pv 3) rfl) (pa_cons (pe_fldx (O := (T 23)) (pv 3) rfl) pa_nil))) (pa_cons (pe_tup (pa_cons (pv 0) (pa_cons (pv 1) pa_nil))) pa_nil)))))))))
      (pss_one (ps_ret (pe_op opADD (pv 2) (pe_lc (own := [("_law_e", 3)]) (g := gName 3) (tt := tYes) (te := tTup (tCons (tC (.str "Failed")) (tCons (tVar 3) (tCons (tTup (tCons (tFldX K (T 23) (tVar 3) "at") (tCons (tFldX K (T 23) (tVar 3) "why") (tNil)))) (tCons (tTup (tCons (tVar 0) (tCons (tVar 1) (tNil)))) (tNil)))))) rfl sc__law_twos.nd (pi_list (pe_lst (pa_cons (pe_mkx c_Failed hr (by decide) pass0 kb_Failed_2_ rfl (pa_cons (pv 0) (pa_cons (pv 1) pa_nil)) pk_nil) (pa_cons (pe_mkx0 c_Failed hr (by decide) pass0 kb_Failed_0_why_at rfl (pk_cons (pv 1) (pk_cons (pv 0) pk_nil))) pa_nil)))) (blkOk_by (N := N__law_twos) (sc := defScope st__law_twos) (by decide +kernel)) (fun _ _ _ _ _ => (pg_name (i := 3) sc__law_twos.nd rfl (Or.inl rfl))) (fun _ _ _ _ _ => pts_nil) (fun _ _ _ _ _ => (pe_tup (pa_cons pe_str (pa_cons (pv 3) (pa_cons (pe_tup (pa_cons (pe_fldx (O := (T 23)) (pv 3) rfl) (pa_cons (pe_fldx (O := (T 23)) (pv 3) rfl) pa_nil))) (pa_cons (pe_tup (pa_cons (pv 0) (pa_cons (pv 1) pa_nil))) pa_nil))))))))))))))))))), ?_⟩
  rintro ds R hl ⟨a, b, rfl, ga, gb, hR⟩
  walk_at "dl0"
  walk_at "dlk"
  refine lc_o (tgIn_name (by decide)) ?_
  walk_at "dlk"
  refine ⟨[.exc (T 4) [("column", b), ("table", a)], .exc (T 4) [("column", b), ("table", a)]], IsL.dat _, fun i acc => acc.length = i ∧ ∀ x ∈ acc, Good T x, ⟨rfl, allN⟩, ?_, ?_⟩
  · rintro i e acc he ⟨hla, hg⟩
    have hi : i < 2 := (List.getElem?_eq_some_iff.mp he).1
    have ee := two_get he
    subst ee
    have hX : XCls K (T 23) (T 4) := tb.xc _ (List.mem_of_getElem? (i := 4) rfl)
    have hN0 : PySem.W.findIn K (.ref (T 4)) "table" = some none := tf (4, "table") (List.mem_of_getElem? (i := 4) rfl)
    have hN1 : PySem.W.findIn K (.ref (T 4)) "column" = some none := tf (4, "column") (List.mem_of_getElem? (i := 5) rfl)
    refine rg_name ?_
    walk_at "dlk"
    exact ⟨by omega, rfl, by simp [hla], good_app hg (good_one ⟨_, "NoColumn", _, _, rfl, (List.mem_of_getElem? (i := 4) rfl), allC ga (allC gb (allN)), Nat.le_of_ble_eq_true rfl⟩)⟩
  rintro A0 ⟨hA0, hG0⟩
  have hA0 : A0.length = 2 := hA0
  walk_at "dlk"
  refine lc_o (tgIn_name (by decide)) ?_
  walk_at "dlk"
  refine ⟨[.exc (T 5) [("key", b), ("table", a)], .exc (T 5) [("key", b), ("table", a)]], IsL.dat _, fun i acc => acc.length = i ∧ ∀ x ∈ acc, Good T x, ⟨rfl, allN⟩, ?_, ?_⟩
  · rintro i e acc he ⟨hla, hg⟩
    have hi : i < 2 := (List.getElem?_eq_some_iff.mp he).1
    have ee := two_get he
    subst ee
    have hX : XCls K (T 23) (T 5) := tb.xc _ (List.mem_of_getElem? (i := 5) rfl)
    have hN0 : PySem.W.findIn K (.ref (T 5)) "table" = some none := tf (5, "table") (List.mem_of_getElem? (i := 6) rfl)
    have hN1 : PySem.W.findIn K (.ref (T 5)) "key" = some none := tf (5, "key") (List.mem_of_getElem? (i := 7) rfl)
    refine rg_name ?_
    walk_at "dlk"
    exact ⟨by omega, rfl, by simp [hla], good_app hg (good_one ⟨_, "NoRow", _, _, rfl, (List.mem_of_getElem? (i := 5) rfl), allC ga (allC gb (allN)), Nat.le_of_ble_eq_true rfl⟩)⟩
  rintro A1 ⟨hA1, hG1⟩
  have hA1 : A1.length = 2 := hA1
  walk_at "dlk"
  refine add_l (IsL.dat _) (IsL.dat _) (by simp only [List.length_append, hA1, hA0]; omega) ?_
  walk_at "dlk"
  refine lc_o (tgIn_name (by decide)) ?_
  walk_at "dlk"
  refine ⟨[.exc (T 6) [("key", b), ("table", a)], .exc (T 6) [("key", b), ("table", a)]], IsL.dat _, fun i acc => acc.length = i ∧ ∀ x ∈ acc, Good T x, ⟨rfl, allN⟩, ?_, ?_⟩
  · rintro i e acc he ⟨hla, hg⟩
    have hi : i < 2 := (List.getElem?_eq_some_iff.mp he).1
    have ee := two_get he
    subst ee
    have hX : XCls K (T 23) (T 6) := tb.xc _ (List.mem_of_getElem? (i := 6) rfl)
    have hN0 : PySem.W.findIn K (.ref (T 6)) "table" = some none := tf (6, "table") (List.mem_of_getElem? (i := 8) rfl)
    have hN1 : PySem.W.findIn K (.ref (T 6)) "key" = some none := tf (6, "key") (List.mem_of_getElem? (i := 9) rfl)
    refine rg_name ?_
    walk_at "dlk"
    exact ⟨by omega, rfl, by simp [hla], good_app hg (good_one ⟨_, "Taken", _, _, rfl, (List.mem_of_getElem? (i := 6) rfl), allC ga (allC gb (allN)), Nat.le_of_ble_eq_true rfl⟩)⟩
  rintro A2 ⟨hA2, hG2⟩
  have hA2 : A2.length = 2 := hA2
  walk_at "dlk"
  refine add_l (IsL.dat _) (IsL.dat _) (by simp only [List.length_append, hA2, hA0, hA1]; omega) ?_
  walk_at "dlk"
  refine lc_o (tgIn_name (by decide)) ?_
  walk_at "dlk"
  refine ⟨[.exc (T 8) [("key", b), ("table", a)], .exc (T 8) [("key", b), ("table", a)]], IsL.dat _, fun i acc => acc.length = i ∧ ∀ x ∈ acc, Good T x, ⟨rfl, allN⟩, ?_, ?_⟩
  · rintro i e acc he ⟨hla, hg⟩
    have hi : i < 2 := (List.getElem?_eq_some_iff.mp he).1
    have ee := two_get he
    subst ee
    have hX : XCls K (T 23) (T 8) := tb.xc _ (List.mem_of_getElem? (i := 8) rfl)
    have hN0 : PySem.W.findIn K (.ref (T 8)) "table" = some none := tf (8, "table") (List.mem_of_getElem? (i := 13) rfl)
    have hN1 : PySem.W.findIn K (.ref (T 8)) "key" = some none := tf (8, "key") (List.mem_of_getElem? (i := 14) rfl)
    refine rg_name ?_
    walk_at "dlk"
    exact ⟨by omega, rfl, by simp [hla], good_app hg (good_one ⟨_, "Held", _, _, rfl, (List.mem_of_getElem? (i := 8) rfl), allC ga (allC gb (allN)), Nat.le_of_ble_eq_true rfl⟩)⟩
  rintro A3 ⟨hA3, hG3⟩
  have hA3 : A3.length = 2 := hA3
  walk_at "dlk"
  refine add_l (IsL.dat _) (IsL.dat _) (by simp only [List.length_append, hA3, hA0, hA1, hA2]; omega) ?_
  walk_at "dlk"
  refine lc_o (tgIn_name (by decide)) ?_
  walk_at "dlk"
  refine ⟨[.exc (T 9) [("column", b), ("table", a)], .exc (T 9) [("column", b), ("table", a)]], IsL.dat _, fun i acc => acc.length = i ∧ ∀ x ∈ acc, Good T x, ⟨rfl, allN⟩, ?_, ?_⟩
  · rintro i e acc he ⟨hla, hg⟩
    have hi : i < 2 := (List.getElem?_eq_some_iff.mp he).1
    have ee := two_get he
    subst ee
    have hX : XCls K (T 23) (T 9) := tb.xc _ (List.mem_of_getElem? (i := 9) rfl)
    have hN0 : PySem.W.findIn K (.ref (T 9)) "table" = some none := tf (9, "table") (List.mem_of_getElem? (i := 15) rfl)
    have hN1 : PySem.W.findIn K (.ref (T 9)) "column" = some none := tf (9, "column") (List.mem_of_getElem? (i := 16) rfl)
    refine rg_name ?_
    walk_at "dlk"
    exact ⟨by omega, rfl, by simp [hla], good_app hg (good_one ⟨_, "NotBulk", _, _, rfl, (List.mem_of_getElem? (i := 9) rfl), allC ga (allC gb (allN)), Nat.le_of_ble_eq_true rfl⟩)⟩
  rintro A4 ⟨hA4, hG4⟩
  have hA4 : A4.length = 2 := hA4
  walk_at "dlk"
  refine add_l (IsL.dat _) (IsL.dat _) (by simp only [List.length_append, hA4, hA0, hA1, hA2, hA3]; omega) ?_
  walk_at "dlk"
  refine lc_o (tgIn_name (by decide)) ?_
  walk_at "dlk"
  refine ⟨[.exc (T 12) [("second", b), ("first", a)], .exc (T 12) [("second", b), ("first", a)]], IsL.dat _, fun i acc => acc.length = i ∧ ∀ x ∈ acc, Good T x, ⟨rfl, allN⟩, ?_, ?_⟩
  · rintro i e acc he ⟨hla, hg⟩
    have hi : i < 2 := (List.getElem?_eq_some_iff.mp he).1
    have ee := two_get he
    subst ee
    have hX : XCls K (T 23) (T 12) := tb.xc _ (List.mem_of_getElem? (i := 12) rfl)
    have hN0 : PySem.W.findIn K (.ref (T 12)) "first" = some none := tf (12, "first") (List.mem_of_getElem? (i := 19) rfl)
    have hN1 : PySem.W.findIn K (.ref (T 12)) "second" = some none := tf (12, "second") (List.mem_of_getElem? (i := 20) rfl)
    refine rg_name ?_
    walk_at "dlk"
    exact ⟨by omega, rfl, by simp [hla], good_app hg (good_one ⟨_, "Mismatch", _, _, rfl, (List.mem_of_getElem? (i := 12) rfl), allC ga (allC gb (allN)), Nat.le_of_ble_eq_true rfl⟩)⟩
  rintro A5 ⟨hA5, hG5⟩
  have hA5 : A5.length = 2 := hA5
  walk_at "dlk"
  refine add_l (IsL.dat _) (IsL.dat _) (by simp only [List.length_append, hA5, hA0, hA1, hA2, hA3, hA4]; omega) ?_
  walk_at "dlk"
  refine lc_o (tgIn_name (by decide)) ?_
  walk_at "dlk"
  refine ⟨[.exc (T 15) [("at", b), ("what", a)], .exc (T 15) [("at", b), ("what", a)]], IsL.dat _, fun i acc => acc.length = i ∧ ∀ x ∈ acc, Good T x, ⟨rfl, allN⟩, ?_, ?_⟩
  · rintro i e acc he ⟨hla, hg⟩
    have hi : i < 2 := (List.getElem?_eq_some_iff.mp he).1
    have ee := two_get he
    subst ee
    have hX : XCls K (T 23) (T 15) := tb.xc _ (List.mem_of_getElem? (i := 15) rfl)
    have hN0 : PySem.W.findIn K (.ref (T 15)) "what" = some none := tf (15, "what") (List.mem_of_getElem? (i := 23) rfl)
    have hN1 : PySem.W.findIn K (.ref (T 15)) "at" = some none := tf (15, "at") (List.mem_of_getElem? (i := 24) rfl)
    refine rg_name ?_
    walk_at "dlk"
    exact ⟨by omega, rfl, by simp [hla], good_app hg (good_one ⟨_, "BadBook", _, _, rfl, (List.mem_of_getElem? (i := 15) rfl), allC ga (allC gb (allN)), Nat.le_of_ble_eq_true rfl⟩)⟩
  rintro A6 ⟨hA6, hG6⟩
  have hA6 : A6.length = 2 := hA6
  walk_at "dlk"
  refine add_l (IsL.dat _) (IsL.dat _) (by simp only [List.length_append, hA6, hA0, hA1, hA2, hA3, hA4, hA5]; omega) ?_
  walk_at "dlk"
  refine lc_o (tgIn_name (by decide)) ?_
  walk_at "dlk"
  refine ⟨[.exc (T 18) [("key", b), ("name", a)], .exc (T 18) [("key", b), ("name", a)]], IsL.dat _, fun i acc => acc.length = i ∧ ∀ x ∈ acc, Good T x, ⟨rfl, allN⟩, ?_, ?_⟩
  · rintro i e acc he ⟨hla, hg⟩
    have hi : i < 2 := (List.getElem?_eq_some_iff.mp he).1
    have ee := two_get he
    subst ee
    have hX : XCls K (T 23) (T 18) := tb.xc _ (List.mem_of_getElem? (i := 18) rfl)
    have hN0 : PySem.W.findIn K (.ref (T 18)) "name" = some none := tf (18, "name") (List.mem_of_getElem? (i := 27) rfl)
    have hN1 : PySem.W.findIn K (.ref (T 18)) "key" = some none := tf (18, "key") (List.mem_of_getElem? (i := 28) rfl)
    refine rg_name ?_
    walk_at "dlk"
    exact ⟨by omega, rfl, by simp [hla], good_app hg (good_one ⟨_, "NoDocument", _, _, rfl, (List.mem_of_getElem? (i := 18) rfl), allC ga (allC gb (allN)), Nat.le_of_ble_eq_true rfl⟩)⟩
  rintro A7 ⟨hA7, hG7⟩
  have hA7 : A7.length = 2 := hA7
  walk_at "dlk"
  refine add_l (IsL.dat _) (IsL.dat _) (by simp only [List.length_append, hA7, hA0, hA1, hA2, hA3, hA4, hA5, hA6]; omega) ?_
  walk_at "dlk"
  refine lc_o (tgIn_name (by decide)) ?_
  walk_at "dlk"
  refine ⟨[.exc (T 20) [("why", b), ("at", a)], .exc (T 20) [("why", b), ("at", a)]], IsL.dat _, fun i acc => acc.length = i ∧ ∀ x ∈ acc, Good T x, ⟨rfl, allN⟩, ?_, ?_⟩
  · rintro i e acc he ⟨hla, hg⟩
    have hi : i < 2 := (List.getElem?_eq_some_iff.mp he).1
    have ee := two_get he
    subst ee
    have hX : XCls K (T 23) (T 20) := tb.xc _ (List.mem_of_getElem? (i := 20) rfl)
    have hN0 : PySem.W.findIn K (.ref (T 20)) "at" = some none := tf (20, "at") (List.mem_of_getElem? (i := 32) rfl)
    have hN1 : PySem.W.findIn K (.ref (T 20)) "why" = some none := tf (20, "why") (List.mem_of_getElem? (i := 33) rfl)
    refine rg_name ?_
    walk_at "dlk"
    exact ⟨by omega, rfl, by simp [hla], good_app hg (good_one ⟨_, "Refused", _, _, rfl, (List.mem_of_getElem? (i := 20) rfl), allC ga (allC gb (allN)), Nat.le_of_ble_eq_true rfl⟩)⟩
  rintro A8 ⟨hA8, hG8⟩
  have hA8 : A8.length = 2 := hA8
  walk_at "dlk"
  refine add_l (IsL.dat _) (IsL.dat _) (by simp only [List.length_append, hA8, hA0, hA1, hA2, hA3, hA4, hA5, hA6, hA7]; omega) ?_
  walk_at "dlk"
  refine lc_o (tgIn_name (by decide)) ?_
  walk_at "dlk"
  refine ⟨[.exc (T 21) [("why", b), ("at", a)], .exc (T 21) [("why", b), ("at", a)]], IsL.dat _, fun i acc => acc.length = i ∧ ∀ x ∈ acc, Good T x, ⟨rfl, allN⟩, ?_, ?_⟩
  · rintro i e acc he ⟨hla, hg⟩
    have hi : i < 2 := (List.getElem?_eq_some_iff.mp he).1
    have ee := two_get he
    subst ee
    have hX : XCls K (T 23) (T 21) := tb.xc _ (List.mem_of_getElem? (i := 21) rfl)
    have hN0 : PySem.W.findIn K (.ref (T 21)) "at" = some none := tf (21, "at") (List.mem_of_getElem? (i := 34) rfl)
    have hN1 : PySem.W.findIn K (.ref (T 21)) "why" = some none := tf (21, "why") (List.mem_of_getElem? (i := 35) rfl)
    refine rg_name ?_
    walk_at "dlk"
    exact ⟨by omega, rfl, by simp [hla], good_app hg (good_one ⟨_, "Failed", _, _, rfl, (List.mem_of_getElem? (i := 21) rfl), allC ga (allC gb (allN)), Nat.le_of_ble_eq_true rfl⟩)⟩
  rintro A9 ⟨hA9, hG9⟩
  have hA9 : A9.length = 2 := hA9
  walk_at "dlk"
  refine add_l (IsL.dat _) (IsL.dat _) (by simp only [List.length_append, hA9, hA0, hA1, hA2, hA3, hA4, hA5, hA6, hA7, hA8]; omega) ?_
  walk_at "dlk"
  exact hR _ (good_app (good_app (good_app (good_app (good_app (good_app (good_app (good_app (good_app hG0 hG1) hG2) hG3) hG4) hG5) hG6) hG7) hG8) hG9) (by simp only [List.length_append, hA0, hA1, hA2, hA3, hA4, hA5, hA6, hA7, hA8, hA9]; omega)
theorem kb_BadCell_0_cell_column_table : KBxs "BadCell.__init__" st_BadCell___init__ ["self", "table", "column", "cell"] 0 ["cell", "column", "table"] [2, 1, 0] := fun kV doc pm an cdv ct u us ws h1 h2 => by
  match us, ws, h1, h2 with
  | [], [_, _, _], _, _ => rfl
theorem kb_BadCell_3_ : KBxs "BadCell.__init__" st_BadCell___init__ ["self", "table", "column", "cell"] 3 [] [0, 1, 2] := fun kV doc pm an cdv ct u us ws h1 h2 => by
  match us, ws, h1, h2 with
  | [_, _, _], [], _, _ => rfl
theorem kb_TooLong_1_most_key : KBxs "TooLong.__init__" st_TooLong___init__ ["self", "name", "key", "most"] 1 ["most", "key"] [0, 2, 1] := fun kV doc pm an cdv ct u us ws h1 h2 => by
  match us, ws, h1, h2 with
  | [_], [_, _], _, _ => rfl
theorem kb_TooLong_3_ : KBxs "TooLong.__init__" st_TooLong___init__ ["self", "name", "key", "most"] 3 [] [0, 1, 2] := fun kV doc pm an cdv ct u us ws h1 h2 => by
  match us, ws, h1, h2 with
  | [_, _, _], [], _, _ => rfl
abbrev st__law_threes : Stmt := topR 37
abbrev N__law_threes : List Str := ["_law_a", "_law_b", "_law_c", "_law_cells", "_law_found", "_law_e", "_law_longs"]
theorem sc__law_threes : FnScope N__law_threes ["_law_a", "_law_b", "_law_c"] (defScope st__law_threes) := ⟨rfl, rfl, rfl, by decide +kernel, rfl, by decide +kernel, by decide +kernel⟩
abbrev sp__law_threes (K : PySem.W.Frag) (T : Nat → Addr) : Sp := spA K 3 (cMade3 T)
theorem ok__law_threes {T : Nat → Addr} {P : Program} {w : World} {K : PySem.W.Frag} {mg : Str → Option Value} {base : Heap} (d : DefAt K mg "_law_threes" st__law_threes ["_law_a", "_law_b", "_law_c"]) (c_BadCell : XG P w K mg base 3 "BadCell" "BadCell.__init__" st_BadCell___init__ (T 7) ["self", "table", "column", "cell"] (sp_BadCell___init__ K (T 7))) (c_TooLong : XG P w K mg base 3 "TooLong" "TooLong.__init__" st_TooLong___init__ (T 19) ["self", "name", "key", "most"] (sp_TooLong___init__ K (T 19))) (tb : Tab K (T 23) (TTab T)) (tf : ∀ p ∈ FT, PySem.W.findIn K (.ref (T p.1)) p.2 = some none) : CalG P w K mg base CX0 5 "_law_threes" (sp__law_threes K T) := by
  refine DefAt.cal d fun {f fd} F => fn_A (n := 3) F sc__law_threes rfl fun cdv A outer s H E hr => ?_
  have hu := hr.r.units
  have hv := hr.u65
  refine ⟨_, (pss_cons (ps_set (i := 3) sc__law_threes.nd rfl (Or.inl rfl) (pe_lst (pa_cons (pe_mkx c_BadCell hr (by decide) pass0 kb_BadCell_3_ rfl (pa_cons (pv 0) (pa_cons (pv 1) (pa_cons (pv 2) pa_nil))) pk_nil) (pa_cons (pe_mkx0 c_BadCell hr (by decide) pass0 kb_BadCell_0_cell_column_table rfl (pk_cons (pv 2) (pk_cons (pv 1) (pk_cons (pv 0) pk_nil)))) pa_nil))))
      (pss_cons (ps_setLc (i := 4) (own := [("_law_e", 5)]) (g := gName 5) (tt := tYes) (te := tTup (tCons (tC (.str "BadCell")) (tCons (tVar 5) (tCons (tTup (tCons (tFldX K (T 23) (tVar 5) "table") (tCons (tFldX K (T 23) (tVar 5) "column") (tCons (tFldX K (T 23) (tVar 5) "cell") (tNil))))) (tCons (tTup (tCons (tVar 0) (tCons (tVar 1) (tCons (tVar 2) (tNil))))) (tNil)))))) rfl sc__law_threes.nd rfl rfl (sw_true rfl rfl rfl (by decide +kernel)) (pi_list (pv 3)) (blkOk_by (N := N__law_threes) (sc := defScope st__law_threes) (by decide +kernel)) (fun _ _ _ _ _ => (pg_name (i := 5) sc__law_threes.nd rfl (Or.inl rfl))) (fun _ _ _ _ _ => pts_nil) (fun _ _ _ _ _ => (pe_tup (pa_cons pe_str (pa_cons (pv 5) (pa_cons (pe_tup (pa_cons (pe_fldx (O := (T 23)) (pv 5) rfl) (pa_cons (pe_fldx (O := (T 23)) (pv 5) rfl) (pa_cons (pe_fldx (O := (T 23)) (pv 5) rfl) pa_nil)))) (pa_cons (pe_tup (pa_cons (pv 0) (pa_cons (pv 1) (pa_cons (pv 2) pa_nil)))) pa_nil)))))))
      (pss_cons (ps_set (i := 6) sc__law_threes.nd rfl (Or.inl rfl) (pe_lst (pa_cons (pe_mkx c_TooLong hr (by decide) pass0 kb_TooLong_3_ rfl (pa_cons (pv 0) (pa_cons (pv 1) (pa_cons (pv 2) pa_nil))) pk_nil) (pa_cons (pe_mkx c_TooLong hr (by decide) pass0 kb_TooLong_1_most_key rfl (pa_cons (pv 0) pa_nil) (pk_cons (pv 2) (pk_cons (pv 1) pk_nil))) pa_nil))))
      (pss_one (ps_ret (pe_op opADD (pv 4) (pe_lc (own := [("_law_e", 5)]) (g := gName 5) (tt := tYes) (te := tTup (tCons (tC (.str "TooLong")) (tCons (tVar 5) (tCons (tTup (tCons (tFldX K (T 23) (tVar 5) "name") (tCons (tFldX K (T 23) (tVar 5) "key") (tCons (tFldX K (T 23) (tVar 5) "most") (tNil))))) (tCons (tTup (tCons (tVar 0) (tCons (tVar 1) (tCons (tVar 2) (tNil))))) (tNil)))))) rfl sc__law_threes.nd (pi_list (pv 6)) (blkOk_by (N := N__law_threes) (sc := defScope st__law_threes) (by decide +kernel)) (fun _ _ _ _ _ => (pg_name (i := 5) sc__law_threes.nd rfl (Or.inl rfl))) (fun _ _ _ _ _ => pts_nil) (fun _ _ _ _ _ => (pe_tup (pa_cons pe_str (pa_cons (pv 5) (pa_cons (pe_tup (pa_cons (pe_fldx (O := (T 23)) (pv 5) rfl) (pa_cons (pe_fldx (O := (T 23)) (pv 5) rfl) (pa_cons (pe_fldx (O := (T 23)) (pv 5) rfl) pa_nil)))) (pa_cons (pe_tup (pa_cons (pv 0) (pa_cons (pv 1) (pa_cons (pv 2) pa_nil)))) pa_nil))))))))))))), ?_⟩
  rintro ds R hl ⟨a, b, c, rfl, ga, gb, gc, hR⟩
  walk_at "dl0"
  walk_at "dlk"
  refine lc_o (tgIn_name (by decide)) ?_
  walk_at "dlk"
  refine ⟨[.exc (T 7) [("cell", c), ("column", b), ("table", a)], .exc (T 7) [("cell", c), ("column", b), ("table", a)]], IsL.dat _, fun i acc => acc.length = i ∧ ∀ x ∈ acc, Good T x, ⟨rfl, allN⟩, ?_, ?_⟩
  · rintro i e acc he ⟨hla, hg⟩
    have hi : i < 2 := (List.getElem?_eq_some_iff.mp he).1
    have ee := two_get he
    subst ee
    have hX : XCls K (T 23) (T 7) := tb.xc _ (List.mem_of_getElem? (i := 7) rfl)
    have hN0 : PySem.W.findIn K (.ref (T 7)) "table" = some none := tf (7, "table") (List.mem_of_getElem? (i := 10) rfl)
    have hN1 : PySem.W.findIn K (.ref (T 7)) "column" = some none := tf (7, "column") (List.mem_of_getElem? (i := 11) rfl)
    have hN2 : PySem.W.findIn K (.ref (T 7)) "cell" = some none := tf (7, "cell") (List.mem_of_getElem? (i := 12) rfl)
    refine rg_name ?_
    walk_at "dlk"
    exact ⟨by omega, rfl, by simp [hla], good_app hg (good_one ⟨_, "BadCell", _, _, rfl, (List.mem_of_getElem? (i := 7) rfl), allC ga (allC gb (allC gc (allN))), Nat.le_of_ble_eq_true rfl⟩)⟩
  rintro A0 ⟨hA0, hG0⟩
  have hA0 : A0.length = 2 := hA0
  walk_at "dlk"
  refine lc_o (tgIn_name (by decide)) ?_
  walk_at "dlk"
  refine ⟨[.exc (T 19) [("most", c), ("key", b), ("name", a)], .exc (T 19) [("most", c), ("key", b), ("name", a)]], IsL.dat _, fun i acc => acc.length = i ∧ ∀ x ∈ acc, Good T x, ⟨rfl, allN⟩, ?_, ?_⟩
  · rintro i e acc he ⟨hla, hg⟩
    have hi : i < 2 := (List.getElem?_eq_some_iff.mp he).1
    have ee := two_get he
    subst ee
    have hX : XCls K (T 23) (T 19) := tb.xc _ (List.mem_of_getElem? (i := 19) rfl)
    have hN0 : PySem.W.findIn K (.ref (T 19)) "name" = some none := tf (19, "name") (List.mem_of_getElem? (i := 29) rfl)
    have hN1 : PySem.W.findIn K (.ref (T 19)) "key" = some none := tf (19, "key") (List.mem_of_getElem? (i := 30) rfl)
    have hN2 : PySem.W.findIn K (.ref (T 19)) "most" = some none := tf (19, "most") (List.mem_of_getElem? (i := 31) rfl)
    refine rg_name ?_
    walk_at "dlk"
    exact ⟨by omega, rfl, by simp [hla], good_app hg (good_one ⟨_, "TooLong", _, _, rfl, (List.mem_of_getElem? (i := 19) rfl), allC ga (allC gb (allC gc (allN))), Nat.le_of_ble_eq_true rfl⟩)⟩
  rintro A1 ⟨hA1, hG1⟩
  have hA1 : A1.length = 2 := hA1
  walk_at "dlk"
  refine add_l (IsL.dat _) (IsL.dat _) (by simp only [List.length_append, hA1, hA0]; omega) ?_
  walk_at "dlk"
  exact hR _ (good_app hG0 hG1) (by simp only [List.length_append, hA0, hA1]; omega)

theorem cnt (m : Nat) : ∃ n : Nat, (if (if (m:Int) < 8 then (m:Int) else 8) > 1 then (if (m:Int) < 8 then (m:Int) else 8) else 1) = (n:Int) ∧ n ≤ 8 := by
  by_cases h1 : (m : Int) < 8
  · rw [if_pos h1]
    by_cases h2 : (m : Int) > 1
    · rw [if_pos h2]; exact ⟨m, rfl, by omega⟩
    · rw [if_neg h2]; exact ⟨1, rfl, by omega⟩
  · rw [if_neg h1]; exact ⟨8, rfl, by omega⟩
/-- the slots, the script first -/
def Sh (ns : List Int) (δ : List SK) : Prop := ∃ k1 k2 k3 k4 k5 k6 k7 k8 k9 k10, δ = [.dat (.scr ns), k1, k2, k3, k4, k5, k6, k7, k8, k9, k10]
def NMS : List Str := ["BadSchema", "BadStore", "BadDeed", "NoTable", "NoColumn", "NoRow", "Taken", "BadCell", "Held", "NotBulk", "TooMany", "BadWay", "Mismatch", "BadDocument", "BadHook", "BadBook", "Crooked", "BadLine", "NoDocument", "TooLong", "Refused", "Failed", "NotKept"]
theorem tab_names {T : Nat → Addr} {p : Addr × Str} (h : p ∈ TTab T) : p.2 ∈ NMS := by
  have : p.2 ∈ (TTab T).map (·.2) := List.mem_map.mpr ⟨p, h, rfl⟩
  exact this
theorem names_ok {x : Str} (h : x ∈ NMS) : PyData.strOk x = true := (by decide +kernel : ∀ y ∈ NMS, PyData.strOk y = true) x h
abbrev st_law : Stmt := topR 38
abbrev N_law : List Str := ["_law_script", "_law_place", "_law_pool_here", "_law_a", "_law_b", "_law_c", "_law_made", "_law_name", "_law_e", "_law_told", "_law_due"]
theorem sc_law : FnScope N_law ["_law_script"] (defScope st_law) := ⟨rfl, rfl, rfl, by decide +kernel, rfl, by decide +kernel, by decide +kernel⟩
abbrev sp_law (K : PySem.W.Frag) (T : Nat → Addr) : Sp := spA K 1 cScr
theorem ok_law {T : Nat → Addr} {P : Program} {w : World} {K : PySem.W.Frag} {mg : Str → Option Value} {base : Heap} {f : Addr} {fd : FuncData} (F : Fun K "law" "law" st_law f fd) (g_OwedError : mg "OwedError" = some (.ref (T 23))) (n_ValueError : mg "ValueError" = none) (n_isinstance : mg "isinstance" = none) (n_len : mg "len" = none) (n_max : mg "max" = none) (n_min : mg "min" = none) (n_range : mg "range" = none) (n_repr : mg "repr" = none) (c__law_ats : CalG P w K mg base CX0 5 "_law_ats" (sp__law_ats K T)) (c__law_kinds : CalG P w K mg base CX0 1 "_law_kinds" (sp__law_kinds K T)) (c__law_ones : CalG P w K mg base CX0 5 "_law_ones" (sp__law_ones K T)) (c__law_pool : CalG P w K mg base CX0 1 "_law_pool" (sp__law_pool K)) (c__law_threes : CalG P w K mg base CX0 5 "_law_threes" (sp__law_threes K T)) (c__law_twos : CalG P w K mg base CX0 5 "_law_twos" (sp__law_twos K T)) (c__law_value : CalG P w K mg base CX0 4 "_law_value" (sp__law_value K)) (tb : Tab K (T 23) (TTab T)) (tf : ∀ p ∈ FT, PySem.W.findIn K (.ref (T p.1)) p.2 = some none) : FnG P w K mg base CX0 6 f fd ["_law_script"] (sp_law K T) := by
  refine fn_A (n := 1) F sc_law rfl fun cdv A outer s H E hr => ?_
  have hu := hr.r.units
  have hv := hr.u65
  refine ⟨_, (pss_cons (ps_for PassesOwn.never rfl (pi_range1 rfl n_range (pa_cons (pe_callB (cMAX rfl) rfl n_max (by decide +kernel) (pa_cons pe_int (pa_cons (pe_callB (cMIN rfl) rfl n_min (by decide +kernel) (pa_cons pe_int (pa_cons (pe_callB cLEN rfl n_len (by decide +kernel) (pa_cons (pv 0) pa_nil)) pa_nil))) pa_nil))) pa_nil)) (pg_name (i := 1) sc_law.nd rfl (Or.inl rfl)) (pss_cons (ps_set (i := 2) sc_law.nd rfl (Or.inl rfl) (pe_cg c__law_pool hr (by decide) pass0 rfl (pa_cons (pv 0) (pa_cons (pv 1) pa_nil))))
      (pss_cons (ps_par3 (i := 3) (j := 4) (l := 5) rfl sc_law.nd rfl rfl rfl (by decide) (by decide) (by decide) rfl rfl rfl (pa_cons (pe_cg c__law_value hr (by decide) pass0 rfl (pa_cons (pv 2) pa_nil)) (pa_cons (pe_cg c__law_value hr (by decide) pass0 rfl (pa_cons (pv 2) pa_nil)) (pa_cons (pe_cg c__law_value hr (by decide) pass0 rfl (pa_cons (pv 2) pa_nil)) pa_nil))) (by rfl))
      (pss_cons (ps_set (i := 6) sc_law.nd rfl (Or.inl rfl) (pe_op opADD (pe_op opADD (pe_op opADD (pe_op opADD (pe_cg c__law_ats hr (by decide) pass0 rfl (pa_cons (pv 3) pa_nil)) (pe_cg c__law_ones hr (by decide) pass0 rfl (pa_cons (pv 4) pa_nil))) (pe_cg c__law_twos hr (by decide) pass0 rfl (pa_cons (pv 3) (pa_cons (pv 4) pa_nil)))) (pe_cg c__law_twos hr (by decide) pass0 rfl (pa_cons (pv 5) (pa_cons (pv 3) pa_nil)))) (pe_cg c__law_threes hr (by decide) pass0 rfl (pa_cons (pv 3) (pa_cons (pv 4) (pa_cons (pv 5) pa_nil))))))
      (pss_one (ps_for PassesOwn.never rfl (pi_list (pv 6)) (pg_tup rfl (pgs_cons (pg_name (i := 7) sc_law.nd rfl (Or.inl rfl)) (pgs_cons (pg_name (i := 8) sc_law.nd rfl (Or.inl rfl)) (pgs_cons (pg_name (i := 9) sc_law.nd rfl (Or.inl rfl)) (pgs_cons (pg_name (i := 10) sc_law.nd rfl (Or.inl rfl)) pgs_nil))))) (pss_cons (ps_if (PW.pt (pw_or (pt_cmpR (opNE hu) (pe_cg c__law_kinds hr (by decide) pass0 rfl (pa_cons (pv 8) pa_nil)) (pe_lst (pa_cons (pv 7) pa_nil)) (nomark _)) (pw_or (pt_not (pt_val (pe_callB (call_isx (O := (T 23))) rfl n_isinstance (by decide +kernel) (pa_cons (pv 8) (pa_cons (pe_glob (v := V.ref (T 23)) rfl g_OwedError rfl) pa_nil))))) (pw_or1 (pt_not (pt_val (pe_callB (call_isx (O := (T 23))) rfl n_isinstance (by decide +kernel) (pa_cons (pv 8) (pa_cons (pe_bltn (v := V.ty "ValueError") (u := Value.type "ValueError") rfl n_ValueError (by decide +kernel) rfl) pa_nil))))))))) (pss_one (ps_ret pe_bl)) pss_nil)
      (pss_one (ps_if (pt_cmpR (opNE hu) (pe_callB (cREPR hr.g hv) rfl n_repr (by decide +kernel) (pa_cons (pv 9) pa_nil)) (pe_callB (cREPR hr.g hv) rfl n_repr (by decide +kernel) (pa_cons (pv 10) pa_nil)) (nomark _)) (pss_one (ps_ret pe_bl)) pss_nil)))))))))
      (pss_one (ps_ret pe_bl))), ?_⟩
  rintro ds R hl ⟨ns, rfl, hR⟩
  walk_at "dl0"
  refine rs_seq ?_
  refine rs_forR ?_
  walk_at "dl"
  obtain ⟨n, hn, h8⟩ := cnt ns.length
  refine ⟨n, by rw [hn], by omega, fun _ δ' _ => Sh ns δ', ⟨_, _, _, _, _, _, _, _, _, _, rfl⟩, ?_, ?_⟩
  · rintro i δ' μ' hi ⟨k1, k2, k3, k4, k5, k6, k7, k8, k9, k10, rfl⟩
    refine rg_name ?_
    walk_at "dlk"
    refine ⟨⟨_, _, rfl, by omega, by omega⟩, fun p => ?_⟩
    walk_at "dlk"
    refine ⟨rfl, by decide, fun a ga => ?_⟩
    walk_at "dlk"
    refine ⟨rfl, by decide, fun b gb => ?_⟩
    walk_at "dlk"
    refine ⟨rfl, by decide, fun c gc => ?_⟩
    walk_at "dlk"
    refine ⟨_, rfl, ga, fun L1 g1 l1 => ?_⟩
    walk_at "dlk"
    refine ⟨_, rfl, gb, fun L2 g2 l2 => ?_⟩
    refine add_l (IsL.dat _) (IsL.dat _) (by omega) ?_
    walk_at "dlk"
    refine ⟨_, _, rfl, ga, gb, fun L3 g3 l3 => ?_⟩
    refine add_l (IsL.dat _) (IsL.dat _) (by simp only [List.length_append]; omega) ?_
    walk_at "dlk"
    refine ⟨_, _, rfl, gc, ga, fun L4 g4 l4 => ?_⟩
    refine add_l (IsL.dat _) (IsL.dat _) (by simp only [List.length_append]; omega) ?_
    walk_at "dlk"
    refine ⟨_, _, _, rfl, ga, gb, gc, fun L5 g5 l5 => ?_⟩
    refine add_l (IsL.dat _) (IsL.dat _) (by simp only [List.length_append]; omega) ?_
    have gall := good_app (good_app (good_app (good_app g1 g2) g3) g4) g5
    generalize L1 ++ L2 ++ L3 ++ L4 ++ L5 = made at gall ⊢
    refine rs_forL ?_
    walk_at "dlk"
    refine ⟨fun _ δ' _ => Sh ns δ', ⟨_, _, _, _, _, _, _, _, _, _, rfl⟩, ?_, ?_⟩
    · rintro j e δ' μ' he ⟨k1, k2, k3, k4, k5, k6, k7, k8, k9, k10, rfl⟩
      obtain ⟨C, nm, fs, told, rfl, hC, gt, lt⟩ := gall e (List.mem_of_getElem? he)
      have xC := tb.xc _ hC
      refine rg_tup rfl ?_
      walk_at "dlk"
      have hS : shp (.lst [.str nm]) = true := by
        have h1 := names_ok (tab_names hC)
        have h2 : plain (.lst [.str nm]) = true := by show (PyData.strOk nm && true) = true; rw [h1]; rfl
        show (plain (.lst [.str nm]) && decide ((py (.lst [.str nm])).depth ≤ 64)) = true
        rw [h2]; rfl
      have hE : (py (.lst [.str nm])).eqv (py (.lst [.str nm])) = true := by simp [py, pyL, PyData.eqv, PyData.eqvAll]
      refine ⟨C, fs, nm, rfl, hC, ?_⟩
      walk_at "dlk"
      refine ne_d hS hS ?_
      rw [hE]
      walk_at "dlk"
      refine isx_cls xC (tb.kitO hC) ?_
      walk_at "dlk"
      refine isx_ty xC xC.kitV ?_
      walk_at "dlk"
      refine rp_t (shw_of gt lt) ?_
      walk_at "dlk"
      refine rp_t (shw_of gt lt) ?_
      walk_at "dlk"
      refine ⟨fun h => by simp at h, fun _ => rs_next ?_⟩
      exact ⟨_, _, _, _, _, _, _, _, _, _, rfl⟩
    · rintro δ' μ' hδ
      exact hδ
  · rintro δ' μ' ⟨k1, k2, k3, k4, k5, k6, k7, k8, k9, k10, rfl⟩
    walk_at "dl"
    exact hR
end DL
namespace DL
open PySem
def TA (i : Nat) : Addr := [49, 68, 87, 106, 125, 144, 163, 182, 201, 220, 239, 258, 277, 296, 315, 334, 353, 372, 391, 410, 429, 448, 460, 29].getD i 0
end DL
open PySem PySem.W PyProof.Rows
set_option maxRecDepth 100000 in
set_option maxHeartbeats 0 in
theorem PySem.Challenge.cw_owedrebuilds_k01_errors_made_holds : PySem.Challenge.rw_owedrebuilds_k01_errors_made.Holds := by
  w_on; o_law; k_head; (case hw => w_witness2)
  k_fill
  refine DL.walk_g (n := 63) (k := 6) (x := "_law_script") (l := PySem.Challenge.rw_owedrebuilds_k01_errors_made) rfl (by decide) rfl ⟨⟨rfl, by decide, by decide⟩, rfl⟩ (fun w h Y => PySem.W.kIn_of Y) ?F
  case F =>
    intro w mg fa h KX G hmg
    have hng := DL.mk_sp KX (by k_is)
    have htk := DL.mk_tk KX (by k_is)
    have x_BadSchema := DL.mk_xcls (O := 29) (C := 49) KX (by k_is) (by k_is) (by k_is) (by k_is) (by k_is) (by k_is) hng htk
    have g_BadSchema := DL.mk_some (x := "BadSchema") (C := 49) KX G (by k_is)
    have na_BadSchema_at := DL.mk_na (C := 49) (x := "at") KX (by k_is)
    have a_BadSchema := DL.mk_xat (x := "BadSchema") (qual := "BadSchema.__init__") (st := DL.st_BadSchema___init__) KX G x_BadSchema (by k_is) (by k_is) (by k_is) (by k_is) (by k_is) (by k_is)
    have x_BadStore := DL.mk_xcls (O := 29) (C := 68) KX (by k_is) (by k_is) (by k_is) (by k_is) (by k_is) (by k_is) hng htk
    have g_BadStore := DL.mk_some (x := "BadStore") (C := 68) KX G (by k_is)
    have na_BadStore_at := DL.mk_na (C := 68) (x := "at") KX (by k_is)
    have a_BadStore := DL.mk_xat (x := "BadStore") (qual := "BadStore.__init__") (st := DL.st_BadStore___init__) KX G x_BadStore (by k_is) (by k_is) (by k_is) (by k_is) (by k_is) (by k_is)
    have x_BadDeed := DL.mk_xcls (O := 29) (C := 87) KX (by k_is) (by k_is) (by k_is) (by k_is) (by k_is) (by k_is) hng htk
    have g_BadDeed := DL.mk_some (x := "BadDeed") (C := 87) KX G (by k_is)
    have na_BadDeed_deed := DL.mk_na (C := 87) (x := "deed") KX (by k_is)
    have a_BadDeed := DL.mk_xat (x := "BadDeed") (qual := "BadDeed.__init__") (st := DL.st_BadDeed___init__) KX G x_BadDeed (by k_is) (by k_is) (by k_is) (by k_is) (by k_is) (by k_is)
    have x_NoTable := DL.mk_xcls (O := 29) (C := 106) KX (by k_is) (by k_is) (by k_is) (by k_is) (by k_is) (by k_is) hng htk
    have g_NoTable := DL.mk_some (x := "NoTable") (C := 106) KX G (by k_is)
    have na_NoTable_table := DL.mk_na (C := 106) (x := "table") KX (by k_is)
    have a_NoTable := DL.mk_xat (x := "NoTable") (qual := "NoTable.__init__") (st := DL.st_NoTable___init__) KX G x_NoTable (by k_is) (by k_is) (by k_is) (by k_is) (by k_is) (by k_is)
    have x_NoColumn := DL.mk_xcls (O := 29) (C := 125) KX (by k_is) (by k_is) (by k_is) (by k_is) (by k_is) (by k_is) hng htk
    have g_NoColumn := DL.mk_some (x := "NoColumn") (C := 125) KX G (by k_is)
    have na_NoColumn_table := DL.mk_na (C := 125) (x := "table") KX (by k_is)
    have na_NoColumn_column := DL.mk_na (C := 125) (x := "column") KX (by k_is)
    have a_NoColumn := DL.mk_xat (x := "NoColumn") (qual := "NoColumn.__init__") (st := DL.st_NoColumn___init__) KX G x_NoColumn (by k_is) (by k_is) (by k_is) (by k_is) (by k_is) (by k_is)
    have x_NoRow := DL.mk_xcls (O := 29) (C := 144) KX (by k_is) (by k_is) (by k_is) (by k_is) (by k_is) (by k_is) hng htk
    have g_NoRow := DL.mk_some (x := "NoRow") (C := 144) KX G (by k_is)
    have na_NoRow_table := DL.mk_na (C := 144) (x := "table") KX (by k_is)
    have na_NoRow_key := DL.mk_na (C := 144) (x := "key") KX (by k_is)
    have a_NoRow := DL.mk_xat (x := "NoRow") (qual := "NoRow.__init__") (st := DL.st_NoRow___init__) KX G x_NoRow (by k_is) (by k_is) (by k_is) (by k_is) (by k_is) (by k_is)
    have x_Taken := DL.mk_xcls (O := 29) (C := 163) KX (by k_is) (by k_is) (by k_is) (by k_is) (by k_is) (by k_is) hng htk
    have g_Taken := DL.mk_some (x := "Taken") (C := 163) KX G (by k_is)
    have na_Taken_table := DL.mk_na (C := 163) (x := "table") KX (by k_is)
    have na_Taken_key := DL.mk_na (C := 163) (x := "key") KX (by k_is)
    have a_Taken := DL.mk_xat (x := "Taken") (qual := "Taken.__init__") (st := DL.st_Taken___init__) KX G x_Taken (by k_is) (by k_is) (by k_is) (by k_is) (by k_is) (by k_is)
    have x_BadCell := DL.mk_xcls (O := 29) (C := 182) KX (by k_is) (by k_is) (by k_is) (by k_is) (by k_is) (by k_is) hng htk
    have g_BadCell := DL.mk_some (x := "BadCell") (C := 182) KX G (by k_is)
    have na_BadCell_table := DL.mk_na (C := 182) (x := "table") KX (by k_is)
    have na_BadCell_column := DL.mk_na (C := 182) (x := "column") KX (by k_is)
    have na_BadCell_cell := DL.mk_na (C := 182) (x := "cell") KX (by k_is)
    have a_BadCell := DL.mk_xat (x := "BadCell") (qual := "BadCell.__init__") (st := DL.st_BadCell___init__) KX G x_BadCell (by k_is) (by k_is) (by k_is) (by k_is) (by k_is) (by k_is)
    have x_Held := DL.mk_xcls (O := 29) (C := 201) KX (by k_is) (by k_is) (by k_is) (by k_is) (by k_is) (by k_is) hng htk
    have g_Held := DL.mk_some (x := "Held") (C := 201) KX G (by k_is)
    have na_Held_table := DL.mk_na (C := 201) (x := "table") KX (by k_is)
    have na_Held_key := DL.mk_na (C := 201) (x := "key") KX (by k_is)
    have a_Held := DL.mk_xat (x := "Held") (qual := "Held.__init__") (st := DL.st_Held___init__) KX G x_Held (by k_is) (by k_is) (by k_is) (by k_is) (by k_is) (by k_is)
    have x_NotBulk := DL.mk_xcls (O := 29) (C := 220) KX (by k_is) (by k_is) (by k_is) (by k_is) (by k_is) (by k_is) hng htk
    have g_NotBulk := DL.mk_some (x := "NotBulk") (C := 220) KX G (by k_is)
    have na_NotBulk_table := DL.mk_na (C := 220) (x := "table") KX (by k_is)
    have na_NotBulk_column := DL.mk_na (C := 220) (x := "column") KX (by k_is)
    have a_NotBulk := DL.mk_xat (x := "NotBulk") (qual := "NotBulk.__init__") (st := DL.st_NotBulk___init__) KX G x_NotBulk (by k_is) (by k_is) (by k_is) (by k_is) (by k_is) (by k_is)
    have x_TooMany := DL.mk_xcls (O := 29) (C := 239) KX (by k_is) (by k_is) (by k_is) (by k_is) (by k_is) (by k_is) hng htk
    have g_TooMany := DL.mk_some (x := "TooMany") (C := 239) KX G (by k_is)
    have na_TooMany_what := DL.mk_na (C := 239) (x := "what") KX (by k_is)
    have a_TooMany := DL.mk_xat (x := "TooMany") (qual := "TooMany.__init__") (st := DL.st_TooMany___init__) KX G x_TooMany (by k_is) (by k_is) (by k_is) (by k_is) (by k_is) (by k_is)
    have x_BadWay := DL.mk_xcls (O := 29) (C := 258) KX (by k_is) (by k_is) (by k_is) (by k_is) (by k_is) (by k_is) hng htk
    have g_BadWay := DL.mk_some (x := "BadWay") (C := 258) KX G (by k_is)
    have na_BadWay_at := DL.mk_na (C := 258) (x := "at") KX (by k_is)
    have a_BadWay := DL.mk_xat (x := "BadWay") (qual := "BadWay.__init__") (st := DL.st_BadWay___init__) KX G x_BadWay (by k_is) (by k_is) (by k_is) (by k_is) (by k_is) (by k_is)
    have x_Mismatch := DL.mk_xcls (O := 29) (C := 277) KX (by k_is) (by k_is) (by k_is) (by k_is) (by k_is) (by k_is) hng htk
    have g_Mismatch := DL.mk_some (x := "Mismatch") (C := 277) KX G (by k_is)
    have na_Mismatch_first := DL.mk_na (C := 277) (x := "first") KX (by k_is)
    have na_Mismatch_second := DL.mk_na (C := 277) (x := "second") KX (by k_is)
    have a_Mismatch := DL.mk_xat (x := "Mismatch") (qual := "Mismatch.__init__") (st := DL.st_Mismatch___init__) KX G x_Mismatch (by k_is) (by k_is) (by k_is) (by k_is) (by k_is) (by k_is)
    have x_BadDocument := DL.mk_xcls (O := 29) (C := 296) KX (by k_is) (by k_is) (by k_is) (by k_is) (by k_is) (by k_is) hng htk
    have g_BadDocument := DL.mk_some (x := "BadDocument") (C := 296) KX G (by k_is)
    have na_BadDocument_at := DL.mk_na (C := 296) (x := "at") KX (by k_is)
    have a_BadDocument := DL.mk_xat (x := "BadDocument") (qual := "BadDocument.__init__") (st := DL.st_BadDocument___init__) KX G x_BadDocument (by k_is) (by k_is) (by k_is) (by k_is) (by k_is) (by k_is)
    have x_BadHook := DL.mk_xcls (O := 29) (C := 315) KX (by k_is) (by k_is) (by k_is) (by k_is) (by k_is) (by k_is) hng htk
    have g_BadHook := DL.mk_some (x := "BadHook") (C := 315) KX G (by k_is)
    have na_BadHook_what := DL.mk_na (C := 315) (x := "what") KX (by k_is)
    have a_BadHook := DL.mk_xat (x := "BadHook") (qual := "BadHook.__init__") (st := DL.st_BadHook___init__) KX G x_BadHook (by k_is) (by k_is) (by k_is) (by k_is) (by k_is) (by k_is)
    have x_BadBook := DL.mk_xcls (O := 29) (C := 334) KX (by k_is) (by k_is) (by k_is) (by k_is) (by k_is) (by k_is) hng htk
    have g_BadBook := DL.mk_some (x := "BadBook") (C := 334) KX G (by k_is)
    have na_BadBook_what := DL.mk_na (C := 334) (x := "what") KX (by k_is)
    have na_BadBook_at := DL.mk_na (C := 334) (x := "at") KX (by k_is)
    have a_BadBook := DL.mk_xat (x := "BadBook") (qual := "BadBook.__init__") (st := DL.st_BadBook___init__) KX G x_BadBook (by k_is) (by k_is) (by k_is) (by k_is) (by k_is) (by k_is)
    have x_Crooked := DL.mk_xcls (O := 29) (C := 353) KX (by k_is) (by k_is) (by k_is) (by k_is) (by k_is) (by k_is) hng htk
    have g_Crooked := DL.mk_some (x := "Crooked") (C := 353) KX G (by k_is)
    have na_Crooked_where := DL.mk_na (C := 353) (x := "where") KX (by k_is)
    have a_Crooked := DL.mk_xat (x := "Crooked") (qual := "Crooked.__init__") (st := DL.st_Crooked___init__) KX G x_Crooked (by k_is) (by k_is) (by k_is) (by k_is) (by k_is) (by k_is)
    have x_BadLine := DL.mk_xcls (O := 29) (C := 372) KX (by k_is) (by k_is) (by k_is) (by k_is) (by k_is) (by k_is) hng htk
    have g_BadLine := DL.mk_some (x := "BadLine") (C := 372) KX G (by k_is)
    have na_BadLine_at := DL.mk_na (C := 372) (x := "at") KX (by k_is)
    have a_BadLine := DL.mk_xat (x := "BadLine") (qual := "BadLine.__init__") (st := DL.st_BadLine___init__) KX G x_BadLine (by k_is) (by k_is) (by k_is) (by k_is) (by k_is) (by k_is)
    have x_NoDocument := DL.mk_xcls (O := 29) (C := 391) KX (by k_is) (by k_is) (by k_is) (by k_is) (by k_is) (by k_is) hng htk
    have g_NoDocument := DL.mk_some (x := "NoDocument") (C := 391) KX G (by k_is)
    have na_NoDocument_name := DL.mk_na (C := 391) (x := "name") KX (by k_is)
    have na_NoDocument_key := DL.mk_na (C := 391) (x := "key") KX (by k_is)
    have a_NoDocument := DL.mk_xat (x := "NoDocument") (qual := "NoDocument.__init__") (st := DL.st_NoDocument___init__) KX G x_NoDocument (by k_is) (by k_is) (by k_is) (by k_is) (by k_is) (by k_is)
    have x_TooLong := DL.mk_xcls (O := 29) (C := 410) KX (by k_is) (by k_is) (by k_is) (by k_is) (by k_is) (by k_is) hng htk
    have g_TooLong := DL.mk_some (x := "TooLong") (C := 410) KX G (by k_is)
    have na_TooLong_name := DL.mk_na (C := 410) (x := "name") KX (by k_is)
    have na_TooLong_key := DL.mk_na (C := 410) (x := "key") KX (by k_is)
    have na_TooLong_most := DL.mk_na (C := 410) (x := "most") KX (by k_is)
    have a_TooLong := DL.mk_xat (x := "TooLong") (qual := "TooLong.__init__") (st := DL.st_TooLong___init__) KX G x_TooLong (by k_is) (by k_is) (by k_is) (by k_is) (by k_is) (by k_is)
    have x_Refused := DL.mk_xcls (O := 29) (C := 429) KX (by k_is) (by k_is) (by k_is) (by k_is) (by k_is) (by k_is) hng htk
    have g_Refused := DL.mk_some (x := "Refused") (C := 429) KX G (by k_is)
    have na_Refused_at := DL.mk_na (C := 429) (x := "at") KX (by k_is)
    have na_Refused_why := DL.mk_na (C := 429) (x := "why") KX (by k_is)
    have a_Refused := DL.mk_xat (x := "Refused") (qual := "Refused.__init__") (st := DL.st_Refused___init__) KX G x_Refused (by k_is) (by k_is) (by k_is) (by k_is) (by k_is) (by k_is)
    have x_Failed := DL.mk_xcls (O := 29) (C := 448) KX (by k_is) (by k_is) (by k_is) (by k_is) (by k_is) (by k_is) hng htk
    have g_Failed := DL.mk_some (x := "Failed") (C := 448) KX G (by k_is)
    have na_Failed_at := DL.mk_na (C := 448) (x := "at") KX (by k_is)
    have na_Failed_why := DL.mk_na (C := 448) (x := "why") KX (by k_is)
    have a_Failed := DL.mk_xat (x := "Failed") (qual := "Failed.__init__") (st := DL.st_Failed___init__) KX G x_Failed (by k_is) (by k_is) (by k_is) (by k_is) (by k_is) (by k_is)
    have x_NotKept := DL.mk_xcls (O := 29) (C := 460) KX (by k_is) (by k_is) (by k_is) (by k_is) (by k_is) (by k_is) hng htk
    have g_NotKept := DL.mk_some (x := "NotKept") (C := 460) KX G (by k_is)
    have g_OwedError := DL.mk_some (x := "OwedError") (C := 29) KX G (by k_is)
    have oc := DL.mk_oc (C := 29) KX (by k_is)
    have ot := DL.mk_ot (C := 29) KX (by k_is)
    have y_NotKept := DL.mk_kp (C := 460) KX (by k_is)
    have q_NotKept : PySem.W.excIn _ 460 PySem.HandSPX.veTail "ValueError.__new__" = true := DL.mk_ex KX (by kernel_rfl)
    have n_ValueError := DL.mk_none (x := "ValueError") KX G (by k_is)
    have n_abs := DL.mk_none (x := "abs") KX G (by k_is)
    have n_dict := DL.mk_none (x := "dict") KX G (by k_is)
    have n_int := DL.mk_none (x := "int") KX G (by k_is)
    have n_isinstance := DL.mk_none (x := "isinstance") KX G (by k_is)
    have n_len := DL.mk_none (x := "len") KX G (by k_is)
    have n_list := DL.mk_none (x := "list") KX G (by k_is)
    have n_max := DL.mk_none (x := "max") KX G (by k_is)
    have n_min := DL.mk_none (x := "min") KX G (by k_is)
    have n_range := DL.mk_none (x := "range") KX G (by k_is)
    have n_repr := DL.mk_none (x := "repr") KX G (by k_is)
    have n_tuple := DL.mk_none (x := "tuple") KX G (by k_is)
    have d__law_draw := DL.mk_def (x := "_law_draw") (st := DL.st__law_draw) (ps := ["_law_pool_here", "_law_many"]) KX G (by k_is) (by k_is) (by k_is) (by k_is) (fun _ _ _ _ _ _ us hl => match us, hl with | [_, _], _ => rfl)
    have d__law_pool := DL.mk_def (x := "_law_pool") (st := DL.st__law_pool) (ps := ["_law_script", "_law_place"]) KX G (by k_is) (by k_is) (by k_is) (by k_is) (fun _ _ _ _ _ _ us hl => match us, hl with | [_, _], _ => rfl)
    have d__law_of := DL.mk_def (x := "_law_of") (st := DL.st__law_of) (ps := ["_law_pool_here", "_law_some"]) KX G (by k_is) (by k_is) (by k_is) (by k_is) (fun _ _ _ _ _ _ us hl => match us, hl with | [_, _], _ => rfl)
    have d__law_plain := DL.mk_def (x := "_law_plain") (st := DL.st__law_plain) (ps := ["_law_pool_here"]) KX G (by k_is) (by k_is) (by k_is) (by k_is) (fun _ _ _ _ _ _ us hl => match us, hl with | [_], _ => rfl)
    have d__law_value := DL.mk_def (x := "_law_value") (st := DL.st__law_value) (ps := ["_law_pool_here"]) KX G (by k_is) (by k_is) (by k_is) (by k_is) (fun _ _ _ _ _ _ us hl => match us, hl with | [_], _ => rfl)
    have d_copied := DL.mk_def (x := "copied") (st := DL.st_copied0) (ps := ["thing"]) KX G (by k_is) (by k_is) (by k_is) (by k_is) (fun _ _ _ _ _ _ us hl => match us, hl with | [_], _ => rfl)
    have d__law_kinds := DL.mk_def (x := "_law_kinds") (st := DL.st__law_kinds) (ps := ["_law_e"]) KX G (by k_is) (by k_is) (by k_is) (by k_is) (fun _ _ _ _ _ _ us hl => match us, hl with | [_], _ => rfl)
    have d__law_ats := DL.mk_def (x := "_law_ats") (st := DL.st__law_ats) (ps := ["_law_a"]) KX G (by k_is) (by k_is) (by k_is) (by k_is) (fun _ _ _ _ _ _ us hl => match us, hl with | [_], _ => rfl)
    have d__law_ones := DL.mk_def (x := "_law_ones") (st := DL.st__law_ones) (ps := ["_law_a"]) KX G (by k_is) (by k_is) (by k_is) (by k_is) (fun _ _ _ _ _ _ us hl => match us, hl with | [_], _ => rfl)
    have d__law_twos := DL.mk_def (x := "_law_twos") (st := DL.st__law_twos) (ps := ["_law_a", "_law_b"]) KX G (by k_is) (by k_is) (by k_is) (by k_is) (fun _ _ _ _ _ _ us hl => match us, hl with | [_, _], _ => rfl)
    have d__law_threes := DL.mk_def (x := "_law_threes") (st := DL.st__law_threes) (ps := ["_law_a", "_law_b", "_law_c"]) KX G (by k_is) (by k_is) (by k_is) (by k_is) (fun _ _ _ _ _ _ us hl => match us, hl with | [_, _, _], _ => rfl)
    have F_law := DL.mk_law (x := "law") (st := DL.st_law) KX G hmg (by k_is) (by k_is) (by k_is) (by k_is)
    have tb : DL.Tab _ (DL.TA 23) (DL.TTab DL.TA) := ⟨DL.allQ x_BadSchema (DL.allQ x_BadStore (DL.allQ x_BadDeed (DL.allQ x_NoTable (DL.allQ x_NoColumn (DL.allQ x_NoRow (DL.allQ x_Taken (DL.allQ x_BadCell (DL.allQ x_Held (DL.allQ x_NotBulk (DL.allQ x_TooMany (DL.allQ x_BadWay (DL.allQ x_Mismatch (DL.allQ x_BadDocument (DL.allQ x_BadHook (DL.allQ x_BadBook (DL.allQ x_Crooked (DL.allQ x_BadLine (DL.allQ x_NoDocument (DL.allQ x_TooLong (DL.allQ x_Refused (DL.allQ x_Failed (DL.allQ x_NotKept (DL.allQn))))))))))))))))))))))), by decide +kernel, by decide +kernel, oc, ot⟩
    have tf : ∀ p ∈ DL.FT, PySem.W.findIn _ (.ref (DL.TA p.1)) p.2 = some none := DL.allQ na_BadSchema_at (DL.allQ na_BadStore_at (DL.allQ na_BadDeed_deed (DL.allQ na_NoTable_table (DL.allQ na_NoColumn_table (DL.allQ na_NoColumn_column (DL.allQ na_NoRow_table (DL.allQ na_NoRow_key (DL.allQ na_Taken_table (DL.allQ na_Taken_key (DL.allQ na_BadCell_table (DL.allQ na_BadCell_column (DL.allQ na_BadCell_cell (DL.allQ na_Held_table (DL.allQ na_Held_key (DL.allQ na_NotBulk_table (DL.allQ na_NotBulk_column (DL.allQ na_TooMany_what (DL.allQ na_BadWay_at (DL.allQ na_Mismatch_first (DL.allQ na_Mismatch_second (DL.allQ na_BadDocument_at (DL.allQ na_BadHook_what (DL.allQ na_BadBook_what (DL.allQ na_BadBook_at (DL.allQ na_Crooked_where (DL.allQ na_BadLine_at (DL.allQ na_NoDocument_name (DL.allQ na_NoDocument_key (DL.allQ na_TooLong_name (DL.allQ na_TooLong_key (DL.allQ na_TooLong_most (DL.allQ na_Refused_at (DL.allQ na_Refused_why (DL.allQ na_Failed_at (DL.allQ na_Failed_why (DL.allQn))))))))))))))))))))))))))))))))))))
    refine DL.mk_fin F_law (fun s v => .of_eq rfl) fun base kb gb => ?_
    have c__law_draw := DL.ok__law_draw (P := PySem.Challenge.rw_owedrebuilds_k01_errors_made.prog) (w := w) (mg := mg) (base := base) (d := d__law_draw) (n_int := n_int)
    have c__law_pool := DL.ok__law_pool (P := PySem.Challenge.rw_owedrebuilds_k01_errors_made.prog) (w := w) (mg := mg) (base := base) (d := d__law_pool) (n_abs := n_abs) (n_int := n_int) (n_len := n_len)
    have c__law_of := DL.ok__law_of (P := PySem.Challenge.rw_owedrebuilds_k01_errors_made.prog) (w := w) (mg := mg) (base := base) (d := d__law_of) (n_len := n_len) (c__law_draw := c__law_draw)
    have c__law_plain := DL.ok__law_plain (P := PySem.Challenge.rw_owedrebuilds_k01_errors_made.prog) (w := w) (mg := mg) (base := base) (d := d__law_plain) (n_len := n_len) (n_range := n_range) (c__law_draw := c__law_draw) (c__law_of := c__law_of)
    have c__law_value := DL.ok__law_value (P := PySem.Challenge.rw_owedrebuilds_k01_errors_made.prog) (w := w) (mg := mg) (base := base) (d := d__law_value) (n_range := n_range) (n_tuple := n_tuple) (c__law_draw := c__law_draw) (c__law_plain := c__law_plain)
    have c_copied0 := DL.ok_copied0 (P := PySem.Challenge.rw_owedrebuilds_k01_errors_made.prog) (w := w) (mg := mg) (base := base) (d := d_copied) (n_dict := n_dict) (n_isinstance := n_isinstance) (n_list := n_list) (n_tuple := n_tuple)
    have c_copied1 := DL.ok_copied1 (P := PySem.Challenge.rw_owedrebuilds_k01_errors_made.prog) (w := w) (mg := mg) (base := base) (d := d_copied) (n_dict := n_dict) (n_isinstance := n_isinstance) (n_list := n_list) (n_tuple := n_tuple) (c_copied := c_copied0)
    have c_BadSchema := DL.ok_BadSchema___init__ (C := 49) (P := PySem.Challenge.rw_owedrebuilds_k01_errors_made.prog) (w := w) (mg := mg) (base := base) a_BadSchema x_BadSchema.ox na_BadSchema_at c_copied1
    have c_BadStore := DL.ok_BadStore___init__ (C := 68) (P := PySem.Challenge.rw_owedrebuilds_k01_errors_made.prog) (w := w) (mg := mg) (base := base) a_BadStore x_BadStore.ox na_BadStore_at c_copied1
    have c_BadDeed := DL.ok_BadDeed___init__ (C := 87) (P := PySem.Challenge.rw_owedrebuilds_k01_errors_made.prog) (w := w) (mg := mg) (base := base) a_BadDeed x_BadDeed.ox na_BadDeed_deed c_copied1
    have c_NoTable := DL.ok_NoTable___init__ (C := 106) (P := PySem.Challenge.rw_owedrebuilds_k01_errors_made.prog) (w := w) (mg := mg) (base := base) a_NoTable x_NoTable.ox na_NoTable_table c_copied1
    have c_NoColumn := DL.ok_NoColumn___init__ (C := 125) (P := PySem.Challenge.rw_owedrebuilds_k01_errors_made.prog) (w := w) (mg := mg) (base := base) a_NoColumn x_NoColumn.ox na_NoColumn_table na_NoColumn_column c_copied1
    have c_NoRow := DL.ok_NoRow___init__ (C := 144) (P := PySem.Challenge.rw_owedrebuilds_k01_errors_made.prog) (w := w) (mg := mg) (base := base) a_NoRow x_NoRow.ox na_NoRow_table na_NoRow_key c_copied1
    have c_Taken := DL.ok_Taken___init__ (C := 163) (P := PySem.Challenge.rw_owedrebuilds_k01_errors_made.prog) (w := w) (mg := mg) (base := base) a_Taken x_Taken.ox na_Taken_table na_Taken_key c_copied1
    have c_BadCell := DL.ok_BadCell___init__ (C := 182) (P := PySem.Challenge.rw_owedrebuilds_k01_errors_made.prog) (w := w) (mg := mg) (base := base) a_BadCell x_BadCell.ox na_BadCell_table na_BadCell_column na_BadCell_cell c_copied1
    have c_Held := DL.ok_Held___init__ (C := 201) (P := PySem.Challenge.rw_owedrebuilds_k01_errors_made.prog) (w := w) (mg := mg) (base := base) a_Held x_Held.ox na_Held_table na_Held_key c_copied1
    have c_NotBulk := DL.ok_NotBulk___init__ (C := 220) (P := PySem.Challenge.rw_owedrebuilds_k01_errors_made.prog) (w := w) (mg := mg) (base := base) a_NotBulk x_NotBulk.ox na_NotBulk_table na_NotBulk_column c_copied1
    have c_TooMany := DL.ok_TooMany___init__ (C := 239) (P := PySem.Challenge.rw_owedrebuilds_k01_errors_made.prog) (w := w) (mg := mg) (base := base) a_TooMany x_TooMany.ox na_TooMany_what c_copied1
    have c_BadWay := DL.ok_BadWay___init__ (C := 258) (P := PySem.Challenge.rw_owedrebuilds_k01_errors_made.prog) (w := w) (mg := mg) (base := base) a_BadWay x_BadWay.ox na_BadWay_at c_copied1
    have c_Mismatch := DL.ok_Mismatch___init__ (C := 277) (P := PySem.Challenge.rw_owedrebuilds_k01_errors_made.prog) (w := w) (mg := mg) (base := base) a_Mismatch x_Mismatch.ox na_Mismatch_first na_Mismatch_second c_copied1
    have c_BadDocument := DL.ok_BadDocument___init__ (C := 296) (P := PySem.Challenge.rw_owedrebuilds_k01_errors_made.prog) (w := w) (mg := mg) (base := base) a_BadDocument x_BadDocument.ox na_BadDocument_at c_copied1
    have c_BadHook := DL.ok_BadHook___init__ (C := 315) (P := PySem.Challenge.rw_owedrebuilds_k01_errors_made.prog) (w := w) (mg := mg) (base := base) a_BadHook x_BadHook.ox na_BadHook_what c_copied1
    have c_BadBook := DL.ok_BadBook___init__ (C := 334) (P := PySem.Challenge.rw_owedrebuilds_k01_errors_made.prog) (w := w) (mg := mg) (base := base) a_BadBook x_BadBook.ox na_BadBook_what na_BadBook_at c_copied1
    have c_Crooked := DL.ok_Crooked___init__ (C := 353) (P := PySem.Challenge.rw_owedrebuilds_k01_errors_made.prog) (w := w) (mg := mg) (base := base) a_Crooked x_Crooked.ox na_Crooked_where c_copied1
    have c_BadLine := DL.ok_BadLine___init__ (C := 372) (P := PySem.Challenge.rw_owedrebuilds_k01_errors_made.prog) (w := w) (mg := mg) (base := base) a_BadLine x_BadLine.ox na_BadLine_at c_copied1
    have c_NoDocument := DL.ok_NoDocument___init__ (C := 391) (P := PySem.Challenge.rw_owedrebuilds_k01_errors_made.prog) (w := w) (mg := mg) (base := base) a_NoDocument x_NoDocument.ox na_NoDocument_name na_NoDocument_key c_copied1
    have c_TooLong := DL.ok_TooLong___init__ (C := 410) (P := PySem.Challenge.rw_owedrebuilds_k01_errors_made.prog) (w := w) (mg := mg) (base := base) a_TooLong x_TooLong.ox na_TooLong_name na_TooLong_key na_TooLong_most c_copied1
    have c_Refused := DL.ok_Refused___init__ (C := 429) (P := PySem.Challenge.rw_owedrebuilds_k01_errors_made.prog) (w := w) (mg := mg) (base := base) a_Refused x_Refused.ox na_Refused_at na_Refused_why c_copied1
    have c_Failed := DL.ok_Failed___init__ (C := 448) (P := PySem.Challenge.rw_owedrebuilds_k01_errors_made.prog) (w := w) (mg := mg) (base := base) a_Failed x_Failed.ox na_Failed_at na_Failed_why c_copied1
    have c__law_kinds := DL.ok__law_kinds (T := DL.TA) (P := PySem.Challenge.rw_owedrebuilds_k01_errors_made.prog) (w := w) (mg := mg) (base := base) (d := d__law_kinds) (g_BadBook := g_BadBook) (g_BadCell := g_BadCell) (g_BadDeed := g_BadDeed) (g_BadDocument := g_BadDocument) (g_BadHook := g_BadHook) (g_BadLine := g_BadLine) (g_BadSchema := g_BadSchema) (g_BadStore := g_BadStore) (g_BadWay := g_BadWay) (g_Crooked := g_Crooked) (g_Failed := g_Failed) (g_Held := g_Held) (g_Mismatch := g_Mismatch) (g_NoColumn := g_NoColumn) (g_NoDocument := g_NoDocument) (g_NoRow := g_NoRow) (g_NoTable := g_NoTable) (g_NotBulk := g_NotBulk) (g_NotKept := g_NotKept) (g_Refused := g_Refused) (g_Taken := g_Taken) (g_TooLong := g_TooLong) (g_TooMany := g_TooMany) (n_isinstance := n_isinstance) (tb := tb)
    have c__law_ats := DL.ok__law_ats (T := DL.TA) (P := PySem.Challenge.rw_owedrebuilds_k01_errors_made.prog) (w := w) (mg := mg) (base := base) (d := d__law_ats) (c_BadDocument := c_BadDocument) (c_BadLine := c_BadLine) (c_BadSchema := c_BadSchema) (c_BadStore := c_BadStore) (c_BadWay := c_BadWay) (tb := tb) (tf := tf)
    have c__law_ones := DL.ok__law_ones (T := DL.TA) (P := PySem.Challenge.rw_owedrebuilds_k01_errors_made.prog) (w := w) (mg := mg) (base := base) (d := d__law_ones) (g_NotKept := g_NotKept) (c_BadDeed := c_BadDeed) (c_BadHook := c_BadHook) (c_Crooked := c_Crooked) (c_NoTable := c_NoTable) (q_NotKept := q_NotKept) (y_NotKept := y_NotKept) (c_TooMany := c_TooMany) (tb := tb) (tf := tf)
    have c__law_twos := DL.ok__law_twos (T := DL.TA) (P := PySem.Challenge.rw_owedrebuilds_k01_errors_made.prog) (w := w) (mg := mg) (base := base) (d := d__law_twos) (c_BadBook := c_BadBook) (c_Failed := c_Failed) (c_Held := c_Held) (c_Mismatch := c_Mismatch) (c_NoColumn := c_NoColumn) (c_NoDocument := c_NoDocument) (c_NoRow := c_NoRow) (c_NotBulk := c_NotBulk) (c_Refused := c_Refused) (c_Taken := c_Taken) (tb := tb) (tf := tf)
    have c__law_threes := DL.ok__law_threes (T := DL.TA) (P := PySem.Challenge.rw_owedrebuilds_k01_errors_made.prog) (w := w) (mg := mg) (base := base) (d := d__law_threes) (c_BadCell := c_BadCell) (c_TooLong := c_TooLong) (tb := tb) (tf := tf)
    exact DL.ok_law (T := DL.TA) (P := PySem.Challenge.rw_owedrebuilds_k01_errors_made.prog) (w := w) (mg := mg) (base := base) (F := F_law) (g_OwedError := g_OwedError) (n_ValueError := n_ValueError) (n_isinstance := n_isinstance) (n_len := n_len) (n_max := n_max) (n_min := n_min) (n_range := n_range) (n_repr := n_repr) (c__law_ats := c__law_ats) (c__law_kinds := c__law_kinds) (c__law_ones := c__law_ones) (c__law_pool := c__law_pool) (c__law_threes := c__law_threes) (c__law_twos := c__law_twos) (c__law_value := c__law_value) (tb := tb) (tf := tf)
